/- Own texts of the proof, joined: Apart StrP StrC LisD StrD JoinPure StrJ ListA. -/
import Derived.Test.YtelgjencpafnnaaH1
/- ssz's Join and Apart. -/
namespace Go.Proofs.Ytelgjencpafnnaa
open Go.RowKit Go.Shelf
set_option linter.unusedVariables false
set_option maxRecDepth 100000

/-- The places that stand from t on. -/
def placeAt (bs : List Nat) (t j : Nat) : Nat := tk ((bs.drop (t + 4 * j)).take 4)
def places (bs : List Nat) (t k : Nat) : List Nat := (List.range k).map (placeAt bs t)
theorem places_length (bs : List Nat) (t k : Nat) : (places bs t k).length = k := by simp [places]
theorem places_succ (bs : List Nat) (t k : Nat) : places bs t (k + 1) = places bs t k ++ [placeAt bs t k] := by simp [places, List.range_succ]
theorem places_getD (bs : List Nat) (t k j : Nat) (h : j < k) : (places bs t k).getD j 0 = placeAt bs t j := by simp [places, List.getD_eq_getElem?_getD, h]
/-- Each place may follow those ahead. -/
def goodB (bs : List Nat) (size t k : Nat) : Bool := (List.range k).all fun j => folB bs size (places bs t j) (placeAt bs t j)
theorem goodB_succ (bs : List Nat) (size t k : Nat) : goodB bs size t (k + 1) = (goodB bs size t k && folB bs size (places bs t k) (placeAt bs t k)) := by simp [goodB, List.range_succ]
theorem folB_nil (bs : List Nat) (size p : Nat) : folB bs size [] p = decide (p = size) := rfl
theorem folB_snoc (bs : List Nat) (size : Nat) (ps : List Nat) (l p : Nat) : folB bs size (ps ++ [l]) p = (decide (l ≤ p) && decide (p ≤ bs.length)) := by simp [folB]
theorem goodB_spec {bs : List Nat} {size t k : Nat} (h : goodB bs size t k = true) : ∀ j, j < k → folB bs size (places bs t j) (placeAt bs t j) = true := by
  simpa [goodB] using h
theorem good_first {bs : List Nat} {size t k : Nat} (h : goodB bs size t k = true) (h0 : 0 < k) : placeAt bs t 0 = size := by
  have := goodB_spec h 0 h0
  simpa [places, folB_nil] using this
theorem good_next {bs : List Nat} {size t k : Nat} (h : goodB bs size t k = true) (j : Nat) (hj : j + 1 < k) : placeAt bs t j ≤ placeAt bs t (j + 1) ∧ placeAt bs t (j + 1) ≤ bs.length := by
  have := goodB_spec h (j + 1) hj
  rw [places_succ, folB_snoc] at this
  simpa using this
theorem good_cuts {bs : List Nat} {size t k : Nat} (h : goodB bs size t k = true) (hs : size ≤ bs.length) : Cuts bs (places bs t k) := by
  intro i hi
  rw [places_length] at hi
  have hle : placeAt bs t i ≤ bs.length := by
    cases i with
    | zero => rw [good_first h hi]; exact hs
    | succ i => exact (good_next h i hi).2
  unfold toI
  rw [places_length, places_getD bs t k i hi]
  by_cases h1 : i + 1 < k
  · rw [if_pos h1, places_getD bs t k (i + 1) h1]
    exact good_next h i h1
  · rw [if_neg h1]
    exact ⟨hle, Nat.le_refl _⟩
/-- A Reader's state behind k Parts: where all is well so far, the places; else something is wrong. -/
structure After (w : World) (g : Nat) (bs : List Nat) (size t k : Nat) : Prop where
  ex : ∃ S taken ps wrong, Rd w g S bs size taken ps wrong ∧ ps.length ≤ k ∧ (goodB bs size t k = true → taken = t + 4 * k ∧ ps = places bs t k ∧ wrong = false) ∧ (goodB bs size t k = false → wrong = true)

theorem After.step {w : World} {g : Nat} {bs : List Nat} {size t k : Nat} (h : After w g bs size t k) (hs : size ≤ 4611686018427387904) (hl : bs.length ≤ 140737488355328) (hk : k < 2147483647) (ht : t + 4 * k + 4 ≤ size) :
    Calls Try.prog 45 #[.pointer (some ⟨g, 0, none⟩)] w fun e w' => (∃ u, e = .returned u) ∧ After w' g bs size t (k + 1) ∧ w.grownBy w' (some g) := by
  obtain ⟨S, taken, ps, wrong, hR, hpl, h1, h2⟩ := h
  refine (rpart_any w hR hs hl (by omega)).mono ?_
  rintro e w' ⟨hu, hR', hG⟩
  refine ⟨hu, ⟨_, _, _, _, hR', ?_, ?_, ?_⟩, hG⟩
  · unfold partS
    split
    · omega
    · rw [List.length_append]; simp; omega
  · intro hg
    rw [goodB_succ, Bool.and_eq_true] at hg
    obtain ⟨e1, rfl, rfl⟩ := h1 hg.1
    have hw : fixW size taken 4 false = false := by simp [fixW]; omega
    have hp : partP bs size taken false = placeAt bs t k := by rw [partP, fixB, hw, e1]; rfl
    have hW : partW bs size taken (places bs t k) false = false := by rw [partW, hw, hp, hg.2]; rfl
    refine ⟨by rw [fixT, hw]; simp; omega, by rw [partS, hW, hp, places_succ]; rfl, hW⟩
  · intro hg
    rw [goodB_succ, Bool.and_eq_false_iff] at hg
    rcases hg with hg | hg
    · rw [h2 hg, partW, fixW, Bool.true_or, Bool.true_or]
    · by_cases hgk : goodB bs size t k = true
      · obtain ⟨e1, rfl, rfl⟩ := h1 hgk
        have hw : fixW size taken 4 false = false := by simp [fixW]; omega
        have hp : partP bs size taken false = placeAt bs t k := by rw [partP, fixB, hw, e1]; rfl
        rw [partW, hw, hp, hg]; rfl
      · rw [Bool.not_eq_true] at hgk
        rw [h2 hgk, partW, fixW, Bool.true_or, Bool.true_or]
theorem After.below {w w' : World} {g : Nat} {bs : List Nat} {size t k : Nat} (h : After w g bs size t k) (hb : Below w.heap.size w w') : After w' g bs size t k := by
  obtain ⟨S, taken, ps, wrong, hR, r⟩ := h
  exact ⟨S, taken, ps, wrong, hR.below hb, r⟩

/-- What Apart answers. -/
def apartO (bs : List Nat) (limit : Int) : Option (List (List Nat)) :=
  if bs.length = 0 then some []
  else
    let size := tk (bs.take 4)
    if size % 4 ≠ 0 ∨ bs.length < size ∨ limit < ((size / 4 : Nat) : Int) ∨ size = 0 then none
    else if goodB bs size 0 (size / 4) then some (cutL bs (places bs 0 (size / 4))) else none

theorem tk_four (bs : List Nat) (h : ∀ z ∈ bs, z < 256) : tk (bs.take 4) < 4294967296 := by
  unfold tk takeV
  have h1 := takeL_lt (((bs.take 4).map fun n : Nat => (n : Int)).take 8) (fun x hx => by obtain ⟨n, hn, rfl⟩ := List.mem_map.1 (List.mem_of_mem_take hx); have := h n (List.mem_of_mem_take hn); omega)
  have h2 : (((bs.take 4).map fun n : Nat => (n : Int)).take 8).length ≤ 4 := by simp; omega
  have h3 : 256 ^ (((bs.take 4).map fun n : Nat => (n : Int)).take 8).length ≤ 256 ^ 4 := Nat.pow_le_pow_right (by decide) h2
  have h4 : (256 : Nat) ^ 4 = 4294967296 := by decide
  omega

set_option maxHeartbeats 2000000 in
theorem apart_any (v : Value) (bs : List Nat) (limit : Int) (w : World) (hB : IsB w v bs) (hl : bs.length ≤ 140737488355328) (hlim : -9223372036854775808 ≤ limit ∧ limit ≤ 9223372036854775807) :
    Calls Try.prog 39 #[v, .int .i64 limit] w fun e w' =>
      ((∃ bss u, apartO bs limit = some bss ∧ e = .returned (.tuple #[u, .int .i64 0]) ∧ IsBs w' u bss) ∨ (apartO bs limit = none ∧ e = .returned (.tuple #[.slice none 0 0, .int .i64 3]))) ∧ Below w.heap.size w w' := by
  have hB' := hB
  obtain ⟨⟨ao, cap, rfl, hcap, hcm, hnil, hR⟩, h8⟩ := hB
  by_cases h0 : bs.length = 0
  · have h0' : (((bs.length : Nat) : Int) == 0) = true := by rw [beq_iff_eq]; omega
    go_enter Try.func39, Try.ntmps39
    go_wp2
    go_ret2
    exact ⟨.inl ⟨[], _, by simp [apartO, h0], rfl, ⟨none, 0, rfl, by decide, by decide, fun _ => rfl, .inl rfl⟩⟩, Below.refl _ _⟩
  · have h0' : (((bs.length : Nat) : Int) == 0) = false := by rw [beq_eq_false_iff_ne]; omega
    have hts := tk_four bs h8
    have hI4 : IsB w (.slice ao (min bs.length 4) cap) (bs.take 4) := by
      refine ⟨⟨ao, cap, by simp [Nat.min_comm], by simp; omega, hcm, hnil, ?_⟩, fun z hz => h8 z (List.mem_of_mem_take hz)⟩
      rcases hR with h | ⟨b, off, rfl, hc⟩
      · exact absurd h h0
      · refine .inr ⟨b, off, rfl, fun i hi => ?_⟩
        simp at hi
        rw [hc i (by omega), List.getD_eq_getElem?_getD, List.getD_eq_getElem?_getD, List.getElem?_take, if_pos (by omega)]
    have hI5 : bs.length ≤ 4 → IsB w (.slice ao bs.length cap) (bs.take 4) := fun h => by rw [Nat.min_eq_left h] at hI4; exact hI4
    have hI6 : ¬ bs.length ≤ 4 → IsB w (.slice ao 4 cap) (bs.take 4) := fun h => by rw [Nat.min_eq_right (by omega)] at hI4; exact hI4
    have HA : Hid (∀ sz, tk (bs.take 4) = sz → apartO bs limit = if sz % 4 ≠ 0 ∨ bs.length < sz ∨ limit < ((sz / 4 : Nat) : Int) ∨ sz = 0 then none else if goodB bs sz 0 (sz / 4) then some (cutL bs (places bs 0 (sz / 4))) else none) := by
      rintro sz rfl
      simp only [apartO, if_neg h0]
    obtain ⟨sz, hsz⟩ : ∃ sz, tk (bs.take 4) = sz := ⟨_, rfl⟩
    rw [hsz] at hts
    have HA2 := hid (HA.out sz hsz)
    have HB := hid hB'
    have HSZ := hid hsz
    clear HA hR hI4 hB'
    by_cases hm : bs.length ≤ 4
    all_goals
      by_cases c1 : sz % 4 = 0
      · have c1' : ((sz : Int) % 4 != 0) = false := by simp; omega
        by_cases c2 : bs.length < sz
        · have c2' : (bs.length : Int) < (sz : Int) := by omega
          clear hsz
          go_enter Try.func39, Try.ntmps39
          go_wp2_with fail
          refine (take_isB _ (bs.take 4) _ (by first | exact hI5 hm | exact hI6 hm)).mono ?_
          rintro e w1 ⟨rfl, rfl⟩
          rw [HSZ.out]
          go_wp2
          go_ret2
          rw [HA2.out, if_pos (.inr (.inl c2))]
          exact ⟨.inr ⟨rfl, rfl⟩, Below.refl _ _⟩
        · have c2' : ¬ (bs.length : Int) < (sz : Int) := by omega
          by_cases c3 : limit < ((sz / 4 : Nat) : Int)
          · have c3' : limit < (sz : Int) / 4 := by omega
            clear hsz
            go_enter Try.func39, Try.ntmps39
            go_wp2_with fail
            refine (take_isB _ (bs.take 4) _ (by first | exact hI5 hm | exact hI6 hm)).mono ?_
            rintro e w1 ⟨rfl, rfl⟩
            rw [HSZ.out]
            go_wp2
            go_ret2
            rw [HA2.out, if_pos (.inr (.inr (.inl c3)))]
            exact ⟨.inr ⟨rfl, rfl⟩, Below.refl _ _⟩
          · have c3' : ¬ limit < (sz : Int) / 4 := by omega
            obtain ⟨ct, hct⟩ : ∃ ct, sz / 4 = ct := ⟨_, rfl⟩
            have hct' : (sz : Int) / 4 = (ct : Int) := by omega
            rw [hct] at HA2
            have HC := hid hct
            have HC' := hid hct'
            clear hct hct' c3 hsz
            go_enter Try.func39, Try.ntmps39
            go_wp2_with fail
            refine (take_isB _ (bs.take 4) _ (by first | exact hI5 hm | exact hI6 hm)).mono ?_
            rintro e w1 ⟨rfl, rfl⟩
            rw [HSZ.out]
            go_wp2_with fail
            refine (read_any _ bs sz _ HB.out (by omega) hl).mono ?_
            rintro e w2 ⟨g, S, hg, rfl, hRd, _, B2⟩
            have hw : decide (bs.length < sz) = false := by simp; omega
            rw [hw] at hRd
            have Y := hid (And.intro hRd B2)
            clear hRd B2 hw
            go_wp2_with fail
            rw [HC'.out]
            have hcb := HC.out
            clear c1' c2' c3'
            go_loopw [41] (fun i wr => ∃ k : Nat, k ≤ ct ∧ i = .int .i64 k ∧ After wr g bs sz 0 k ∧ Below w1.heap.size w1 wr) (fun i _ => ct - (intOf i).toNat)
            case atStart => exact ⟨0, Nat.zero_le _, rfl, ⟨S, 0, [], false, Y.out.1, Nat.le_refl _, fun _ => ⟨rfl, rfl, rfl⟩, fun h => by simp [goodB] at h⟩, Y.out.2⟩
            case round =>
              obtain ⟨k, hk, rfl, hAf, hBw⟩ := hrel
              have HAf := hid hAf
              have HBw := hid hBw
              clear hAf hBw
              by_cases hlt : k < ct
              · go_wp2_with fail
                refine (HAf.out.step (by omega) hl (by omega) (by omega)).mono ?_
                rintro e w3 ⟨⟨u3, rfl⟩, r1, r2⟩
                have Z := hid (And.intro r1 (HBw.out.grown r2 HBw.out.size (fun j e => by cases e; exact hg)))
                clear r1 r2
                go_wp2
                go_roundw
                case rel => exact ⟨k + 1, by omega, by go_num, Z.out.1, Z.out.2⟩
                case measure => simp [intOf]; omega
              · obtain rfl : k = ct := by omega
                obtain ⟨S3, tkn, ps, wrong, hR3, hpl, q1, q2⟩ := HAf.out.ex
                by_cases hsz0 : sz = 0
                · obtain rfl : k = 0 := by omega
                  obtain ⟨rfl, rfl, rfl⟩ := q1 rfl
                  have HPp := hid (parts_bad wr hR3 (.inr (.inr ⟨rfl, by omega⟩)) (by omega) hl (by simp [places_length]))
                  clear hR3 q2 q1
                  go_wp2_with fail
                  refine HPp.out.mono ?_
                  rintro e w4 ⟨rfl, n4, rfl⟩
                  go_wp2
                  go_ret2
                  rw [HA2.out, if_pos (.inr (.inr (.inr hsz0)))]
                  exact ⟨.inr ⟨rfl, rfl⟩, ⟨HBw.out.os, HBw.out.tape, HBw.out.output, HBw.out.size, HBw.out.block⟩⟩
                · have hif : ¬ (sz % 4 ≠ 0 ∨ bs.length < sz ∨ limit < ((k : Nat) : Int) ∨ sz = 0) := by omega
                  cases hgd : goodB bs sz 0 k
                  · obtain rfl := q2 hgd
                    have HPp := hid (parts_bad wr hR3 (.inl rfl) (by omega) hl (by omega))
                    have HG := hid hgd
                    clear hR3 q2 q1 hgd
                    go_wp2_with fail
                    refine HPp.out.mono ?_
                    rintro e w4 ⟨rfl, n4, rfl⟩
                    go_wp2
                    go_ret2
                    rw [HA2.out, if_neg hif, HG.out]
                    exact ⟨.inr ⟨rfl, rfl⟩, ⟨HBw.out.os, HBw.out.tape, HBw.out.output, HBw.out.size, HBw.out.block⟩⟩
                  · obtain ⟨e1, rfl, rfl⟩ := q1 hgd
                    obtain rfl : tkn = sz := by omega
                    have HPp := hid (parts_ok wr hR3 (fun e => absurd (congrArg List.length e) (by rw [places_length]; simp; omega)) (good_cuts hgd (by omega)) (by omega) hl (by rw [places_length]; omega))
                    have HG := hid hgd
                    clear hR3 q2 q1 hgd e1
                    go_wp2_with fail
                    refine HPp.out.mono ?_
                    rintro e w4 ⟨u4, rfl, r1, r2⟩
                    have Z := hid (And.intro r1 (below_more HBw.out r2 (Nat.le_refl _)))
                    clear r1 r2
                    go_wp2
                    go_ret2
                    rw [HA2.out, if_neg hif, HG.out]
                    exact ⟨.inl ⟨_, _, rfl, rfl, Z.out.1⟩, Z.out.2⟩
      · have c1' : ((sz : Int) % 4 != 0) = true := by rw [bne_iff_ne]; omega
        clear hsz
        go_enter Try.func39, Try.ntmps39
        go_wp2_with fail
        refine (take_isB _ (bs.take 4) _ (by first | exact hI5 hm | exact hI6 hm)).mono ?_
        rintro e w1 ⟨rfl, rfl⟩
        rw [HSZ.out]
        go_wp2
        go_ret2
        rw [HA2.out, if_pos (.inl c1)]
        exact ⟨.inr ⟨rfl, rfl⟩, Below.refl _ _⟩
end Go.Proofs.Ytelgjencpafnnaa

/- SszLists: the list of texts: its pieces. -/
namespace Go.Proofs.Ytelgjencpafnnaa
open Go.RowKit Go.Shelf
set_option linter.unusedVariables false
set_option linter.unusedSimpArgs false
set_option maxRecDepth 100000

theorem values_any (ao : Option Addr) (n cap : Nat) (w : World) :
    Calls Try.prog 40 #[.slice ao n cap] w fun x w' => x = .returned (.func (.func 47) #[] #[.pointer (some ⟨w.heap.size, 0, none⟩)]) ∧ w'.heap[w.heap.size]? = some (.cells #[.slice ao n cap] 32 (0, 0)) ∧ Below w.heap.size w w' := by
  go_enter Try.func40, Try.ntmps40
  go_wp2
  go_ret
  exact ⟨rfl, heap_alloc_new w _, (Below.refl _ w).alloc (Nat.le_refl _) _⟩
set_option maxHeartbeats 1000000 in
theorem spieces_ok (v : Value) (bs : List Nat) (bss : List (List Nat)) (limit : Int) (w : World) (hI : IsB w v bs) (hl : bs.length ≤ 140737488355328) (hlim : -9223372036854775808 ≤ limit ∧ limit ≤ 9223372036854775807) (hA : apartO bs limit = some bss) :
    Calls Try.prog 28 #[.agg (lsS limit).toArray, v] w fun x w' => ∃ u bv, x = .returned (.tuple #[.func (.func 47) #[] #[.pointer (some ⟨bv, 0, none⟩)], .int .i64 0]) ∧ w.heap.size ≤ bv ∧
      w'.heap[bv]? = some (.cells #[u] 32 (0, 0)) ∧ IsBs w' u bss ∧ Below w.heap.size w w' := by
  have HD := hid (fun w' (hb : Below w.heap.size w w') => apart_any v bs limit w' (hI.keep hb) hl hlim)
  have HA := hid hA
  obtain ⟨⟨ao, cap, rfl, _⟩, _⟩ := hI
  clear hl hlim hA
  go_enter Try.func28, Try.ntmps28
  go_wp2_with ((with_reducible refine at_list' ?_); first
    | (refine wpList_box_c rfl 2 rfl (.tmp 0) rfl (lsS limit) rfl ?_; intro w1 H1 B1 S1; have hc0 := H1.cell (j := 0) (v := .int .i64 0) rfl; have hc1 := H1.cell (j := 1) (v := .int .i64 limit) rfl))
  have HX := hid B1
  have HD2 := hid (HD.out w1 B1)
  clear H1 B1 hc0 hc1 HD
  refine HD2.out.mono ?_
  rintro e w2 ⟨⟨bss', u, h1, rfl, h2⟩ | ⟨h1, rfl⟩, B2⟩
  rotate_left
  · rw [HA.out] at h1
    cases h1
  have hbe : bss = bss' := by
    have h := HA.out.symm.trans h1
    exact Option.some.inj h
  subst hbe
  obtain ⟨ua, uc, hu, _⟩ := id h2
  subst hu
  have HY := hid (And.intro h2 B2)
  clear h1 h2 B2 HD2 HA
  go_wp2_with fail
  have HV := hid (values_any ua bss.length uc w2)
  refine HV.out.mono ?_
  rintro e w3 ⟨rfl, q1, q2⟩
  have HZ := hid (And.intro q1 q2)
  clear q1 q2 HV
  have s1 := HX.out.size
  have s2 := HY.out.2.size
  go_wp2
  refine bodyPost_ret (v := .tuple #[.func (.func 47) #[] #[.pointer (some ⟨w2.heap.size, 0, none⟩)], .int .i64 0]) (by simp [results, Try.results28, go_sem]) rfl ?_
  exact ⟨_, w2.heap.size, rfl, by omega, HZ.out.1, HY.out.1.keep HZ.out.2, below_more (below_more HX.out HY.out.2 (Nat.le_refl _)) HZ.out.2 (Nat.le_refl _)⟩
set_option maxHeartbeats 1000000 in
theorem spieces_bad (v : Value) (bs : List Nat) (limit : Int) (w : World) (hI : IsB w v bs) (hl : bs.length ≤ 140737488355328) (hlim : -9223372036854775808 ≤ limit ∧ limit ≤ 9223372036854775807) (hA : apartO bs limit = none) :
    Calls Try.prog 28 #[.agg (lsS limit).toArray, v] w fun x w' => x = .returned (.tuple #[.nilFunc, .int .i64 3]) ∧ Below w.heap.size w w' := by
  have HD := hid (fun w' (hb : Below w.heap.size w w') => apart_any v bs limit w' (hI.keep hb) hl hlim)
  have HA := hid hA
  obtain ⟨⟨ao, cap, rfl, _⟩, _⟩ := hI
  clear hl hlim hA
  go_enter Try.func28, Try.ntmps28
  go_wp2_with ((with_reducible refine at_list' ?_); first
    | (refine wpList_box_c rfl 2 rfl (.tmp 0) rfl (lsS limit) rfl ?_; intro w1 H1 B1 S1; have hc0 := H1.cell (j := 0) (v := .int .i64 0) rfl; have hc1 := H1.cell (j := 1) (v := .int .i64 limit) rfl))
  have HX := hid B1
  have HD2 := hid (HD.out w1 B1)
  clear H1 B1 hc0 hc1 HD
  refine HD2.out.mono ?_
  rintro e w2 ⟨⟨bss', u, h1, rfl, h2⟩ | ⟨h1, rfl⟩, B2⟩
  · rw [HA.out] at h1
    cases h1
  have HY := hid B2
  clear h1 B2 HD2 HA
  go_wp2
  refine bodyPost_ret (v := .tuple #[.nilFunc, .int .i64 3]) (by simp [results, Try.results28, go_sem]) rfl ?_
  exact ⟨rfl, below_more HX.out HY.out (Nat.le_refl _)⟩
end Go.Proofs.Ytelgjencpafnnaa

/- How the variables of List[string].Decode stand. -/
namespace Go.Proofs.Ytelgjencpafnnaa
open Go.RowKit Go.Shelf
set_option linter.unusedVariables false
set_option linter.unusedSimpArgs false
set_option maxRecDepth 100000

/-- The texts as cells. -/
def sCells (ns : List (List Nat)) : List Value := ns.map fun s => Value.string (strOf s)
/-- How the variables of Decode stand. -/
structure DS (w : World) (A B : Nat) (limit : Int) (u : Value) (ns : List (List Nat)) (V : World) : Prop where
  ls : HasC V w.heap.size 43 (lsS limit)
  r4 : HasC V (w.heap.size + 1) 44 [.slice none 0 0]
  r5 : HasC V (w.heap.size + 2) 26 [.int .i64 0]
  al : HasC V A 44 [u]
  ow : V.ownsRow B 9 1 u ns.length (sCells ns)
  be : Below w.heap.size w V
  ha : w.heap.size + 2 < A
  hb : A < B
theorem DS.same {w : World} {A B : Nat} {limit : Int} {u : Value} {ns : List (List Nat)} {V V' : World} (h : DS w A B limit u ns V) (hb : Below w.heap.size w V')
    (k : ∀ b, (b = w.heap.size ∨ b = w.heap.size + 1 ∨ b = w.heap.size + 2 ∨ b = A) → V'.heap[b]? = V.heap[b]?) (ko : ∀ r, u.ownBlock = some r → V'.heap[r]? = V.heap[r]?) : DS w A B limit u ns V' :=
  ⟨(k _ (by simp)).trans h.ls, (k _ (by simp)).trans h.r4, (k _ (by simp)).trans h.r5, (k _ (by simp)).trans h.al, own_kept h.ow ko, hb, h.ha, h.hb⟩
theorem DS.keep {w : World} {A B : Nat} {limit : Int} {u : Value} {ns : List (List Nat)} {V V' : World} (h : DS w A B limit u ns V) (hb : Below V.heap.size V V') : DS w A B limit u ns V' :=
  h.same (below_more h.be hb (Nat.le_refl _)) (fun b k => hb.block b (by
    rcases k with rfl | rfl | rfl | rfl
    · exact h.ls.lt
    · exact h.r4.lt
    · exact h.r5.lt
    · exact h.al.lt)) (fun r hr => hb.block r (by obtain ⟨_, c, hc⟩ := own_cells h.ow r hr; exact (Array.getElem?_eq_some_iff.1 hc).1))
theorem DS.own {w : World} {A B : Nat} {limit : Int} {u : Value} {ns : List (List Nat)} {V V' : World} {row : Option Nat} (h : DS w A B limit u ns V) (hg : V.grownBy V' row) (hr : ∀ r, row = some r → w.heap.size ≤ r ∧ ∃ o : Obj, V.heap[r]? = some o ∧ o.isCells = false) : DS w A B limit u ns V' := by
  have hk : ∀ (b : Nat) (c : Array Value) (t : TypeId) (f : Nat × Nat), V.heap[b]? = some (Obj.cells c t f) → V'.heap[b]? = V.heap[b]? := fun b c t f hc => (row_kept (c := c) (t := t) (z := f) hc hg (fun r e => (hr r e).2)).trans hc.symm
  refine h.same (h.be.grown hg (by have := h.be.size; omega) (fun k e => (hr k e).1)) (fun b k => ?_) (fun r e => ?_)
  · rcases k with rfl | rfl | rfl | rfl
    · exact hk _ _ _ _ h.ls
    · exact hk _ _ _ _ h.r4
    · exact hk _ _ _ _ h.r5
    · exact hk _ _ _ _ h.al
  · obtain ⟨_, c, hc⟩ := own_cells h.ow r e
    exact hk _ _ _ _ hc
/-- A number more, and the variable set. -/
theorem DS.step {w : World} {A B : Nat} {limit : Int} {u v : Value} {ns : List (List Nat)} {x : List Nat} {V V' : World} (h : DS w A B limit u ns V) (hg : V.grownBy V' u.ownBlock) (hn : V'.ownsRow B 9 1 v (ns.length + 1) (sCells ns ++ [.string (strOf x)])) :
    DS w A B limit v (ns ++ [x]) (V'.setCell ⟨A, 0, none⟩ v) := by
  have hA := h.ha
  have hB := h.hb
  have hu : ∀ b, b ≤ A → b < V.heap.size → V'.heap[b]? = V.heap[b]? := fun b hb hl => hg.block b hl (fun e => by have := (own_cells h.ow b e.symm).1; omega)
  have o : ∀ b, b ≠ A → (V'.setCell ⟨A, 0, none⟩ v).heap[b]? = V'.heap[b]? := fun b hb => heap_setCell_other V' ⟨A, 0, none⟩ b v hb
  have ha : HasC V' A 44 [u] := (hu A (Nat.le_refl _) h.al.lt).trans h.al
  refine ⟨(o _ (by omega)).trans ((hu _ (by omega) h.ls.lt).trans h.ls), (o _ (by omega)).trans ((hu _ (by omega) h.r4.lt).trans h.r4), (o _ (by omega)).trans ((hu _ (by omega) h.r5.lt).trans h.r5), ?_, ?_, ?_, hA, hB⟩
  · unfold HasC at ha ⊢
    simp [World.setCell, Array.getElem?_modify, ha]
  · have e : sCells (ns ++ [x]) = sCells ns ++ [.string (strOf x)] := by simp [sCells]
    rw [e, List.length_append, List.length_singleton]
    exact own_kept hn (fun r hr => o r (fun e => by have := (own_cells hn r hr).1; omega))
  · have hb1 : Below w.heap.size w V' := h.be.grown hg (by have := h.be.size; omega) (fun k e => by have := (own_cells h.ow k e).1; omega)
    exact hb1.setCell (p := ⟨A, 0, none⟩) (by show w.heap.size ≤ A; omega) v
/-- What a round keeps besides. -/
theorem DS.kp {w : World} {A B : Nat} {limit : Int} {u v : Value} {ns : List (List Nat)} {V0 V V' : World} (h : DS w A B limit u ns V) (h0 : Below V0.heap.size V0 V) (hg : V.grownBy V' u.ownBlock) :
    KeepsFrom B V0 (V'.setCell ⟨A, 0, none⟩ v) ∧ KB A V0 (V'.setCell ⟨A, 0, none⟩ v) := by
  have hA := h.ha
  have hB := h.hb
  have ha : HasC V' A 44 [u] := (hg.block A h.al.lt (fun e => by have := (own_cells h.ow A e.symm).1; omega)).trans h.al
  have o : ∀ b, b ≠ A → (V'.setCell ⟨A, 0, none⟩ v).heap[b]? = V'.heap[b]? := fun b hb => heap_setCell_other V' ⟨A, 0, none⟩ b v hb
  refine ⟨((keepsF_below h0).trans (keepsF_grown hg (fun r e => by obtain ⟨_, c, hc⟩ := own_cells h.ow r e; exact ⟨c, _, _, hc⟩))).trans (keepsF_only ha (Only.setCell V' A 0 v)), fun b hb c t f e => ?_⟩
  have hl := (Array.getElem?_eq_some_iff.1 e).1
  rw [o b (by omega), hg.block b (by have := h0.size; omega) (fun e' => by have := (own_cells h.ow b e'.symm).1; omega), h0.block b hl]
  exact e
/-- The end: the results are set, the mark is taken. -/
theorem DS.fin {w : World} {A B : Nat} {limit : Int} {u : Value} {ns : List (List Nat)} {V : World} (h : DS w A B limit u ns V) (hK : V.heap[B]? = some (.deferred (some []))) :
    ((V.setCell ⟨w.heap.size + 1, 0, none⟩ u).setCell ⟨w.heap.size + 2, 0, none⟩ (.int .i64 0)).heap[B]? = some (.deferred (some [])) ∧
    HasC (((V.setCell ⟨w.heap.size + 1, 0, none⟩ u).setCell ⟨w.heap.size + 2, 0, none⟩ (.int .i64 0)).putObj B (.deferred none)) (w.heap.size + 1) 44 [u] ∧
    HasC (((V.setCell ⟨w.heap.size + 1, 0, none⟩ u).setCell ⟨w.heap.size + 2, 0, none⟩ (.int .i64 0)).putObj B (.deferred none)) (w.heap.size + 2) 26 [.int .i64 0] ∧
    (((V.setCell ⟨w.heap.size + 1, 0, none⟩ u).setCell ⟨w.heap.size + 2, 0, none⟩ (.int .i64 0)).putObj B (.deferred none)).ownsRow w.heap.size 9 1 u ns.length (sCells ns) ∧
    Below w.heap.size w (((V.setCell ⟨w.heap.size + 1, 0, none⟩ u).setCell ⟨w.heap.size + 2, 0, none⟩ (.int .i64 0)).putObj B (.deferred none)) := by
  have hA := h.ha
  have hB := h.hb
  have o1 : ∀ b, b ≠ w.heap.size + 1 → (V.setCell ⟨w.heap.size + 1, 0, none⟩ u).heap[b]? = V.heap[b]? := fun b hb => heap_setCell_other V ⟨w.heap.size + 1, 0, none⟩ b u hb
  have c1 : HasC (V.setCell ⟨w.heap.size + 1, 0, none⟩ u) (w.heap.size + 1) 44 [u] := by
    have := h.r4
    unfold HasC at this ⊢
    simp [World.setCell, Array.getElem?_modify, this]
  have c5 : HasC (V.setCell ⟨w.heap.size + 1, 0, none⟩ u) (w.heap.size + 2) 26 [.int .i64 0] := (o1 _ (by omega)).trans h.r5
  have b1 : Below w.heap.size w (V.setCell ⟨w.heap.size + 1, 0, none⟩ u) := h.be.setCell (p := ⟨w.heap.size + 1, 0, none⟩) (by show w.heap.size ≤ w.heap.size + 1; omega) u
  have w1 : (V.setCell ⟨w.heap.size + 1, 0, none⟩ u).ownsRow B 9 1 u ns.length (sCells ns) := own_kept h.ow (fun r hr => o1 r (fun e => by have := (own_cells h.ow r hr).1; omega))
  have k1 := (o1 B (by omega)).trans hK
  generalize V.setCell ⟨w.heap.size + 1, 0, none⟩ u = V1 at *
  have o2 : ∀ b, b ≠ w.heap.size + 2 → (V1.setCell ⟨w.heap.size + 2, 0, none⟩ (.int .i64 0)).heap[b]? = V1.heap[b]? := fun b hb => heap_setCell_other V1 ⟨w.heap.size + 2, 0, none⟩ b _ hb
  have c4' : HasC (V1.setCell ⟨w.heap.size + 2, 0, none⟩ (.int .i64 0)) (w.heap.size + 1) 44 [u] := (o2 _ (by omega)).trans c1
  have c5' : HasC (V1.setCell ⟨w.heap.size + 2, 0, none⟩ (.int .i64 0)) (w.heap.size + 2) 26 [.int .i64 0] := by
    unfold HasC at c5 ⊢
    simp [World.setCell, Array.getElem?_modify, c5]
  have b2 : Below w.heap.size w (V1.setCell ⟨w.heap.size + 2, 0, none⟩ (.int .i64 0)) := b1.setCell (p := ⟨w.heap.size + 2, 0, none⟩) (by show w.heap.size ≤ w.heap.size + 2; omega) _
  have w2 : (V1.setCell ⟨w.heap.size + 2, 0, none⟩ (.int .i64 0)).ownsRow B 9 1 u ns.length (sCells ns) := own_kept w1 (fun r hr => o2 r (fun e => by have := (own_cells w1 r hr).1; omega))
  have k2 := (o2 B (by omega)).trans k1
  generalize V1.setCell ⟨w.heap.size + 2, 0, none⟩ (.int .i64 0) = V2 at *
  have o3 : ∀ b, b ≠ B → (V2.putObj B (.deferred none)).heap[b]? = V2.heap[b]? := fun b hb => World.putObj_heap_other hb
  refine ⟨k2, (o3 _ (by omega)).trans c4', (o3 _ (by omega)).trans c5', own_base (own_kept w2 (fun r hr => o3 r (fun e => ?_))) (by omega), b2.trans (belowK_b (w := w) (Nat.le_refl _) _ B _ (.deferred none) (by omega) k2 rfl rfl)⟩
  obtain ⟨_, c, hc⟩ := own_cells w2 r hr
  rw [e, k2] at hc
  cases hc
theorem results_cs {fn : Func} {p q : Tmp} (hf : fn.results = #[.cell p 44, .cell q 26]) (tmps : Array Value) (w : World) (g h : Nat) (u v : Value) (hp : tmps.getD p undef = .pointer (some ⟨g, 0, none⟩)) (hq : tmps.getD q undef = .pointer (some ⟨h, 0, none⟩)) (h1 : HasC w g 44 [u]) (h2 : HasC w h 26 [v]) :
    (results fn tmps).run Try.prog w = .ok (.tuple #[u, v]) w := by
  have hp' : tmps[p]?.getD undef = .pointer (some ⟨g, 0, none⟩) := by simpa using hp
  have hq' : tmps[q]?.getD undef = .pointer (some ⟨h, 0, none⟩) := by simpa using hq
  have hc1 := h1.cell (j := 0) (v := u) rfl
  have hc2 := h2.cell (j := 0) (v := v) rfl
  simp only [results, hf]
  simp [hp', hq', asAddr, go_sem, hc1, hc2]
end Go.Proofs.Ytelgjencpafnnaa

/- Lists of numbers: Decode. -/
namespace Go.Proofs.Ytelgjencpafnnaa
open Go.RowKit Go.Shelf
set_option linter.unusedVariables false
set_option linter.unusedSimpArgs false
set_option maxRecDepth 100000
attribute [local go_sem] Oper.semAt_some

theorem inf64 : ∃ i, Try.prog.info? 33 = some i ∧ i.zero = some (.int .u64 0) ∧ i.size = 1 ∧ i.bytes = 8 := by
  have hz : (Try.prog.info? 33).map (fun i => (i.zero, i.size, i.bytes)) = some (some (.int .u64 0), 1, 8) := by kernel_rfl
  cases hq : Try.prog.info? 33 with
  | none => simp [hq] at hz
  | some i => simp [hq] at hz; exact ⟨i, rfl, hz.1, hz.2.1, hz.2.2⟩
theorem own_slice {W : World} {base : Nat} {e : TypeId} {size n : Nat} {v : Value} {xs : List Value} (h : W.ownsRow base e size v n xs) : ∃ a m c, v = .slice a m c := by
  rcases h.2 with ⟨rfl, _⟩ | ⟨g, cap, cur, rfl, _⟩
  · exact ⟨_, _, _, rfl⟩
  · exact ⟨_, _, _, rfl⟩
set_option maxHeartbeats 4000000 in
theorem ldec_in (ao : Option Addr) (cap : Nat) (bs : List Nat) (k : Nat) (limit : Int) (w : World) (hI : IsB w (.slice ao bs.length cap) bs) (hk : bs.length = k * 8) (hlen : bs.length ≤ 1099511627776) (hkl : (k : Int) ≤ limit) :
    CallsIn Fence.wide 5 Try.prog 13 #[.agg (lsN limit).toArray, .slice ao bs.length cap] w fun e w' => ∃ u, e = .returned (.tuple #[u, .int .i64 0]) ∧ w'.ownsRow w.heap.size 33 1 u k (n64 ((pcs bs 8 k).map tk)) ∧ Below w.heap.size w w' := by
  have HD := hid (fun w' (hb : Below w.heap.size w w') => pieces_ok (.slice ao bs.length cap) bs k limit w' (hI.keep hb) hk hlen hkl)
  have HK := hid (And.intro hk (And.intro hlen hkl))
  clear hk hlen hkl
  refine callsIn_of_wp_marks Try.func13 rfl trivial ?_ rfl
  simp only [Try.ntmps13, List.size_toArray, List.length_cons, List.length_nil, Nat.reduceAdd, Nat.reduceSub, Array.replicate_succ, Array.replicate_zero, List.push_toArray, List.append_toArray, List.nil_append, List.cons_append]
  gi_wp2_with (first
    | (refine wpListIn_box_c rfl 2 rfl (.tmp 0) rfl (lsN limit) rfl ?_; intro w1 H1 B1 S1)
    | (refine wpListIn_load_c Try.ty39 rfl (.tmp 2) rfl w.heap.size (lsN limit) rfl rfl (H1.keep (((Below.refl _ w1).alloc (Nat.le_refl _) _).alloc (by simp) _)) ?_))
  have BA : Below w.heap.size w ((w1.alloc (.cells #[.slice none 0 0] 31)).alloc (.cells #[.int .i64 0] 26)) := (B1.alloc (by omega) _).alloc (by simp; omega) _
  have H4 : HasC ((w1.alloc (.cells #[.slice none 0 0] 31)).alloc (.cells #[.int .i64 0] 26)) (w.heap.size + 1) 31 [.slice none 0 0] := by
    have h := heap_alloc_new w1 (.cells #[.slice none 0 0] 31)
    rw [S1] at h
    exact HasC.keep (t := 31) (cs := [.slice none 0 0]) h ((Below.refl _ _).alloc (Nat.le_refl _) _)
  have H5 : HasC ((w1.alloc (.cells #[.slice none 0 0] 31)).alloc (.cells #[.int .i64 0] 26)) (w.heap.size + 2) 26 [.int .i64 0] := by
    have h := heap_alloc_new (w1.alloc (.cells #[.slice none 0 0] 31)) (.cells #[.int .i64 0] 26)
    rw [World.size_alloc, S1] at h
    exact h
  have H0 := H1.keep (((Below.refl _ w1).alloc (Nat.le_refl _) (.cells #[.slice none 0 0] 31)).alloc (by simp) (.cells #[.int .i64 0] 26))
  have S3 : ((w1.alloc (.cells #[.slice none 0 0] 31)).alloc (.cells #[.int .i64 0] 26)).heap.size = w.heap.size + 3 := by simp [S1]
  clear H1 B1 S1
  generalize (w1.alloc (.cells #[.slice none 0 0] 31)).alloc (.cells #[.int .i64 0] 26) = w2 at BA H4 H5 H0 S3 ⊢
  simp only [Nat.add_assoc, Nat.reduceAdd]
  have HP := hid (HD.out w2 BA)
  have HX := hid (And.intro H0 (And.intro H4 (And.intro H5 BA)))
  clear H0 H4 H5 BA HD
  refine ⟨trivial, ?_⟩
  refine (callsIn_wide.2 HP.out).mono ?_
  rintro e w3 ⟨u, bo, bz, rfl, q1, q2, q3, q4, q5, B3⟩
  have s3 := B3.size
  have HQ := hid (And.intro q3 (And.intro q4 q5))
  have HX3 := hid (And.intro (HX.out.1.keep B3) (And.intro (HX.out.2.1.keep B3) (And.intro (HX.out.2.2.1.keep B3) (below_more HX.out.2.2.2 B3 (Nat.le_refl _)))))
  clear q3 q4 q5 B3 HP HX
  gi_wp2_with fail
  have hA := heap_alloc_new w3 (.cells #[.slice none 0 0] 31)
  have BA : Below w3.heap.size w3 (w3.alloc (.cells #[.slice none 0 0] 31)) := (Below.refl _ _).alloc (Nat.le_refl _) _
  have SA : (w3.alloc (.cells #[.slice none 0 0] 31)).heap.size = w3.heap.size + 1 := World.size_alloc _ _
  generalize w3.alloc (.cells #[.slice none 0 0] 31) = wA at hA BA SA ⊢
  have D0 : DI w w3.heap.size wA.heap.size limit (.slice none 0 0) [] wA := ⟨HX3.out.1.keep BA, HX3.out.2.1.keep BA, HX3.out.2.2.1.keep BA, hA, World.ownsRow_nil _ _ _ _, below_more HX3.out.2.2.2 BA (Nat.le_refl _), by omega, by omega⟩
  have lbo : bo < w3.heap.size := (Array.getElem?_eq_some_iff.1 HQ.out.1).1
  have lbz : bz < w3.heap.size := (Array.getElem?_eq_some_iff.1 HQ.out.2.1).1
  have HV := hid (And.intro ((BA.block _ lbo).trans HQ.out.1) (And.intro ((BA.block _ lbz).trans HQ.out.2.1) (HQ.out.2.2.keep BA)))
  have HP := hid (fun l J Jx V (hV : Below wA.heap.size wA V) hJ hY h0 => splitIt_in 4 (by decide) l bo bz bs 8 k (by decide) HK.out.1 HK.out.2.1 u J Jx V ((hV.block _ (by omega)).trans HV.out.1) ((hV.block _ (by omega)).trans HV.out.2.1) (HV.out.2.2.keep hV) hJ hY h0)
  have HD0 := hid D0
  clear D0 hA BA HX3 HQ
  refine wpIn_rangeM (F := Fence.wide) rfl (by decide) (gf := 23) (lb := #[.pointer (some ⟨bo, 0, none⟩), .pointer (some ⟨bz, 0, none⟩)]) rfl trivial (enters_of Try.func23 (by kernel_rfl) rfl)
    (encs := fun x : Value × List Nat => #[x.1]) (M := MP 8) (Kp := KP 8 bo bz) (S := fun xs => xs.map (·.2) = pcs bs 8 k) (Sp := fun pre => pre.map (·.2) = pcs bs 8 pre.length ∧ 0 < pre.length ∧ pre.length ≤ k) (N := k) (w0 := wA)
    (fun l J Jx V hV hJ _ hY h0 => HP.out l J Jx V hV hJ hY h0) (Below.refl _ _) KP.trans KP.put (fun _ => rfl) (fun B x V l o o' h hl ho => MP.put B x V l o o' h hl ho)
    (fun pre V => ∃ u, DI w w3.heap.size wA.heap.size limit u (pre.map fun x => tk x.2) V) (fun cd pre V => False) ?fi ?fx ⟨_, HD0.out⟩
    (fun x => { tmps := #[.agg (lsN limit).toArray, .slice ao bs.length cap, .pointer (some ⟨w.heap.size, 0, none⟩), undef, .pointer (some ⟨w.heap.size + 1, 0, none⟩), .pointer (some ⟨w.heap.size + 2, 0, none⟩), .func (.func 23) #[] #[.pointer (some ⟨bo, 0, none⟩), .pointer (some ⟨bz, 0, none⟩)], .int .i64 0, .pointer (some ⟨w3.heap.size, 0, none⟩), x.1, undef, undef, .tuple #[.func (.func 23) #[] #[.pointer (some ⟨bo, 0, none⟩), .pointer (some ⟨bz, 0, none⟩)], .int .i64 0], .agg (lsN limit).toArray, .slice ao bs.length cap, .tuple #[.func (.func 23) #[] #[.pointer (some ⟨bo, 0, none⟩), .pointer (some ⟨bz, 0, none⟩)], .int .i64 0], .func (.func 23) #[] #[.pointer (some ⟨bo, 0, none⟩), .pointer (some ⟨bz, 0, none⟩)], .int .i64 0, .int .i64 0, .bool false, undef, .func (.func 23) #[] #[.pointer (some ⟨bo, 0, none⟩), .pointer (some ⟨bz, 0, none⟩)], x.1, undef, undef, undef, undef, undef, undef, undef, undef, undef, undef, undef, undef, undef, undef], defers := [] }) ?assign ?body ?done ?stop
  case fi =>
    intro pre A B row hs hg hr
    obtain ⟨u, hs⟩ := hs
    exact ⟨u, hs.own hg (fun r e => ⟨by have := (hr r e).1; have := hs.hb; have := hs.ha; omega, (hr r e).2⟩)⟩
  case fx =>
    intro cd pre A B row hs hg hr
    exact hs.elim
  case assign =>
    intro l x V K hK
    gi_wp2
    exact hK
  case body =>
    rintro l pre ⟨xv, xb⟩ V hl ⟨u, hD⟩ hM hlt
    have hIX := hM.isB (by decide)
    have hxl : xb.length = 8 := by obtain ⟨_, _, _, _, _, _, _, h, _⟩ := hM; exact h
    obtain ⟨g, off, cur, hx1, hgB, hgc, _⟩ := hM
    have hgl := (Array.getElem?_eq_some_iff.1 hgc).1
    clear hgc
    dsimp only at hx1 hIX
    subst hx1
    have HT := hid (ltake_any limit _ xb V hIX hxl)
    obtain ⟨ns, hns⟩ : ∃ ns, (pre.map fun x => tk x.2) = ns := ⟨_, rfl⟩
    have HNS := hid hns
    have hnl : ns.length = pre.length := by rw [← hns, List.length_map]
    rw [hns] at hD
    clear hns
    have HD1 := hid hD
    have hls := hD.ls
    have hVs : w3.heap.size < V.heap.size := hD.al.lt
    have hou := hD.ow.lt
    clear hD hIX
    obtain ⟨n, hn⟩ : ∃ n, tk xb = n := ⟨_, rfl⟩
    have HN := hid hn
    rw [hn] at HT
    clear hn
    gi_wp2_with (first
      | (refine wpListIn_load_c Try.ty39 rfl (.tmp 2) rfl w.heap.size (lsN limit) rfl rfl hls ?_))
    refine ⟨trivial, ?_⟩
    refine (CallsIn.inRound l (callsIn_wide.2 HT.out)).mono ?_
    rintro e V1 ⟨rfl, B1⟩
    have D1 := HD1.out.keep B1
    have s1 := B1.size
    have B2 : Below V1.heap.size V1 (V1.alloc (.cells #[.int .u64 (n : Nat)] 33)) := (Below.refl _ _).alloc (Nat.le_refl _) _
    have hcn := heap_alloc_new V1 (.cells #[.int .u64 (n : Nat)] 33)
    have HD2 := hid (And.intro (D1.keep B2) (And.intro (B1.trans (B2.mono s1)) (cell_of_row _ V1.heap.size 0 _ _ (0, 0) hcn)))
    have hac := D1.al.cell (j := 0) (v := u) rfl
    obtain ⟨i0, hi, hz0, hz1, hz2⟩ := inf64
    have hk8 := HK.out.1
    have hk9 := HK.out.2.1
    have hnb : ns.length + 1 ≤ 137438953472 := by omega
    clear D1 B1 B2 HT HD1 hls hcn hk8 hk9
    gi_wp2_with (first
      | (refine wpListIn_append_own _ rfl (.tmp 32) (.tmp 34) 31 rfl wA.heap.size 33 i0 (.int .u64 0) 1 8 Try.underlying31 hi hz0 hz1 hz2 rfl (by decide) u ns.length (n64 ns) rfl HD2.out.1.ow ⟨V1.heap.size, 0, none⟩ 1 1 [.int .u64 (n : Nat)] rfl rfl ?c1 ?c2 ?c3 ?c4 ?c5 ?_))
    case c1 =>
      intro j u hj
      match j, hj with
      | 0, hj => cases hj; exact HD2.out.2.2
    case c2 => intro u hu; simp at hu; subst hu; rfl
    case c3 => unfold maxLen; omega
    case c4 => omega
    case c5 => simp; omega
    · intro v' w4 r1 r2 r3
      rw [← SA, ← hnl] at r1
      obtain ⟨va, vn, vc, rfl⟩ := own_slice r1
      have hg := HD2.out.1
      have ha4 : HasC w4 w3.heap.size 31 [u] := (r2.block _ hg.al.lt (fun e => by have := (own_cells hg.ow _ e.symm).1; omega)).trans hg.al
      have hac4 := ha4.cell (j := 0) (v := u) rfl
      have hfr4 := frozen_of_row w4 w3.heap.size 0 _ _ ha4
      have HF := hid (And.intro (hg.step r2 r1) (hg.kp (x := (.slice (some ⟨g, off, none⟩) 8 8, xb)) (v := .slice va vn vc) HD2.out.2.1 r2 lbo lbz hVs (fun r hr => (hou r hr).2)))
      clear r1 r2 r3 hg ha4 hac
      gi_wp2
      have e : List.map (fun x : Value × List Nat => tk x.2) (pre ++ [(.slice (some ⟨g, off, none⟩) 8 8, xb)]) = ns ++ [n] := by rw [List.map_append, HNS.out, ← HN.out]; rfl
      refine ⟨HF.out.2.1, HF.out.2.2, .slice va vn vc, ?_⟩
      rw [e]
      exact HF.out.1
  case done =>
    rintro xs V hS ⟨u, hD⟩ hK
    have hns : (xs.map fun x => tk x.2) = (pcs bs 8 k).map tk := by rw [← hS, List.map_map]; rfl
    rw [hns] at hD
    obtain ⟨va, vn, vc, rfl⟩ := own_slice hD.ow
    have HF := hid (hD.fin hK)
    rw [SA] at HF
    have ha := hD.al.cell (j := 0) (v := .slice va vn vc) rfl
    have h4c := hD.r4.cell (j := 0) (v := .slice none 0 0) rfl
    have h4f : V.frozen? ⟨w.heap.size + 1, 0, none⟩ = false := frozen_of_row V (w.heap.size + 1) 0 _ _ hD.r4
    have h5c := hD.r5.cell (j := 0) (v := .int .i64 0) rfl
    have h5f : V.frozen? ⟨w.heap.size + 2, 0, none⟩ = false := frozen_of_row V (w.heap.size + 2) 0 _ _ hD.r5
    clear hD hK hS hns
    gi_wp2
    refine ⟨by simp, .inl ⟨_, _, rfl, run_takeDeferred HF.out.1, ?_⟩⟩
    have how := HF.out.2.2.2.1
    rw [List.length_map, pcs_length] at how
    exact ⟨_, results_cc rfl _ _ (w.heap.size + 1) (w.heap.size + 2) _ _ rfl rfl HF.out.2.1 HF.out.2.2.1, _, rfl, how, HF.out.2.2.2.2⟩
  case stop =>
    intro c pre V hSp hf
    exact hf.elim
theorem ldec_ok (v : Value) (bs : List Nat) (k : Nat) (limit : Int) (w : World) (hI : IsB w v bs) (hk : bs.length = k * 8) (hlen : bs.length ≤ 1099511627776) (hkl : (k : Int) ≤ limit) :
    Calls Try.prog 13 #[.agg (lsN limit).toArray, v] w fun e w' => ∃ u, e = .returned (.tuple #[u, .int .i64 0]) ∧ w'.ownsRow w.heap.size 33 1 u k (n64 ((pcs bs 8 k).map tk)) ∧ Below w.heap.size w w' := by
  obtain ⟨⟨ao, cap, rfl, h1⟩, h2⟩ := hI
  exact callsIn_wide.1 (ldec_in ao cap bs k limit w ⟨⟨ao, cap, rfl, h1⟩, h2⟩ hk hlen hkl)
set_option maxHeartbeats 2000000 in
theorem ldec_bad (v : Value) (bs : List Nat) (limit : Int) (w : World) (hI : IsB w v bs) (hlen : bs.length ≤ 1099511627776) (hbad : ((bs.length : Int).tmod 8 ≠ 0) ∨ limit < (bs.length : Int).tdiv 8) :
    Calls Try.prog 13 #[.agg (lsN limit).toArray, v] w fun e w' => e = .returned (.tuple #[.slice none 0 0, .int .i64 3]) ∧ Below w.heap.size w w' := by
  obtain ⟨⟨ao, cap, rfl, h1⟩, h2⟩ := hI
  have HD := hid (fun w' (hb : Below w.heap.size w w') => pieces_bad (.slice ao bs.length cap) bs limit w' (IsB.keep ⟨⟨ao, cap, rfl, h1⟩, h2⟩ hb) hlen hbad)
  clear hlen hbad h1 h2
  refine (callsIn_wide (n := 5)).1 ?_
  refine callsIn_of_wp_marks Try.func13 rfl trivial ?_ rfl
  simp only [Try.ntmps13, List.size_toArray, List.length_cons, List.length_nil, Nat.reduceAdd, Nat.reduceSub, Array.replicate_succ, Array.replicate_zero, List.push_toArray, List.append_toArray, List.nil_append, List.cons_append]
  gi_wp2_with (first
    | (refine wpListIn_box_c rfl 2 rfl (.tmp 0) rfl (lsN limit) rfl ?_; intro w1 H1 B1 S1)
    | (refine wpListIn_load_c Try.ty39 rfl (.tmp 2) rfl w.heap.size (lsN limit) rfl rfl (H1.keep (((Below.refl _ w1).alloc (Nat.le_refl _) _).alloc (by simp) _)) ?_))
  have BA : Below w.heap.size w ((w1.alloc (.cells #[.slice none 0 0] 31)).alloc (.cells #[.int .i64 0] 26)) := (B1.alloc (by omega) _).alloc (by simp; omega) _
  have H4 : HasC ((w1.alloc (.cells #[.slice none 0 0] 31)).alloc (.cells #[.int .i64 0] 26)) (w.heap.size + 1) 31 [.slice none 0 0] := by
    have h := heap_alloc_new w1 (.cells #[.slice none 0 0] 31)
    rw [S1] at h
    exact HasC.keep (t := 31) (cs := [.slice none 0 0]) h ((Below.refl _ _).alloc (Nat.le_refl _) _)
  have H5 : HasC ((w1.alloc (.cells #[.slice none 0 0] 31)).alloc (.cells #[.int .i64 0] 26)) (w.heap.size + 2) 26 [.int .i64 0] := by
    have h := heap_alloc_new (w1.alloc (.cells #[.slice none 0 0] 31)) (.cells #[.int .i64 0] 26)
    rw [World.size_alloc, S1] at h
    exact h
  have S3 : ((w1.alloc (.cells #[.slice none 0 0] 31)).alloc (.cells #[.int .i64 0] 26)).heap.size = w.heap.size + 3 := by simp [S1]
  clear H1 B1 S1
  generalize (w1.alloc (.cells #[.slice none 0 0] 31)).alloc (.cells #[.int .i64 0] 26) = w2 at BA H4 H5 S3 ⊢
  simp only [Nat.add_assoc, Nat.reduceAdd]
  have HP := hid (HD.out w2 BA)
  have HX := hid (And.intro H4 (And.intro H5 BA))
  clear H4 H5 BA HD
  refine ⟨trivial, ?_⟩
  refine (callsIn_wide.2 HP.out).mono ?_
  rintro e w3 ⟨rfl, B3⟩
  have H4 := HX.out.1.keep B3
  have H5 := HX.out.2.1.keep B3
  have h4c := H4.cell (j := 0) (v := .slice none 0 0) rfl
  have h4f : w3.frozen? ⟨w.heap.size + 1, 0, none⟩ = false := frozen_of_row w3 (w.heap.size + 1) 0 _ _ H4
  have h5c := H5.cell (j := 0) (v := .int .i64 0) rfl
  have h5f : w3.frozen? ⟨w.heap.size + 2, 0, none⟩ = false := frozen_of_row w3 (w.heap.size + 2) 0 _ _ H5
  have o1 : ∀ b, b ≠ w.heap.size + 1 → (w3.setCell ⟨w.heap.size + 1, 0, none⟩ (.slice none 0 0)).heap[b]? = w3.heap[b]? := fun b hb => heap_setCell_other w3 ⟨w.heap.size + 1, 0, none⟩ b _ hb
  have c1 : HasC (w3.setCell ⟨w.heap.size + 1, 0, none⟩ (.slice none 0 0)) (w.heap.size + 1) 31 [.slice none 0 0] := by
    unfold HasC at H4 ⊢
    simp [World.setCell, Array.getElem?_modify, H4]
  have c5 : HasC (w3.setCell ⟨w.heap.size + 1, 0, none⟩ (.slice none 0 0)) (w.heap.size + 2) 26 [.int .i64 0] := (o1 _ (by omega)).trans H5
  have b1 : Below w.heap.size w (w3.setCell ⟨w.heap.size + 1, 0, none⟩ (.slice none 0 0)) := (below_more HX.out.2.2 B3 (Nat.le_refl _)).setCell (p := ⟨w.heap.size + 1, 0, none⟩) (by show w.heap.size ≤ w.heap.size + 1; omega) _
  have o2 : ∀ b, b ≠ w.heap.size + 2 → ((w3.setCell ⟨w.heap.size + 1, 0, none⟩ (.slice none 0 0)).setCell ⟨w.heap.size + 2, 0, none⟩ (.int .i64 3)).heap[b]? = (w3.setCell ⟨w.heap.size + 1, 0, none⟩ (.slice none 0 0)).heap[b]? := fun b hb => heap_setCell_other _ ⟨w.heap.size + 2, 0, none⟩ b _ hb
  have e4 : HasC ((w3.setCell ⟨w.heap.size + 1, 0, none⟩ (.slice none 0 0)).setCell ⟨w.heap.size + 2, 0, none⟩ (.int .i64 3)) (w.heap.size + 1) 31 [.slice none 0 0] := (o2 _ (by omega)).trans c1
  have e5 : HasC ((w3.setCell ⟨w.heap.size + 1, 0, none⟩ (.slice none 0 0)).setCell ⟨w.heap.size + 2, 0, none⟩ (.int .i64 3)) (w.heap.size + 2) 26 [.int .i64 3] := by
    unfold HasC at c5 ⊢
    simp [World.setCell, Array.getElem?_modify] at c5 ⊢
    simp [c5]
  have HE := hid (And.intro e4 (And.intro e5 (b1.setCell (p := ⟨w.heap.size + 2, 0, none⟩) (by show w.heap.size ≤ w.heap.size + 2; omega) (.int .i64 3))))
  clear B3 HP HX H4 H5 o1 c1 c5 b1 o2 e4 e5
  gi_wp2
  exact ⟨_, results_cc rfl _ _ (w.heap.size + 1) (w.heap.size + 2) _ _ rfl rfl HE.out.1 HE.out.2.1, rfl, HE.out.2.2⟩
end Go.Proofs.Ytelgjencpafnnaa

/- List[string].Decode, of texts that are taken. -/
namespace Go.Proofs.Ytelgjencpafnnaa
open Go.RowKit Go.Shelf
set_option linter.unusedVariables false
set_option linter.unusedSimpArgs false
set_option maxRecDepth 100000
attribute [local go_sem] Oper.semAt_some

theorem hasC_set {w : World} {g : Nat} {t : TypeId} {u : Value} (h : HasC w g t [u]) (v : Value) : HasC (w.setCell ⟨g, 0, none⟩ v) g t [v] := by
  unfold HasC at h ⊢
  simp [World.setCell, Array.getElem?_modify, h]
theorem infS : ∃ i, Try.prog.info? 9 = some i ∧ i.zero = some (.string ByteArray.empty) ∧ i.size = 1 ∧ i.bytes = 16 := by
  have hz : (Try.prog.info? 9).map (fun i => (i.zero, i.size, i.bytes)) = some (some (.string ByteArray.empty), 1, 16) := by kernel_rfl
  cases hq : Try.prog.info? 9 with
  | none => simp [hq] at hz
  | some i => simp [hq] at hz; exact ⟨i, rfl, hz.1, hz.2.1, hz.2.2⟩
set_option maxHeartbeats 4000000 in
theorem sdec_in (ao : Option Addr) (cap : Nat) (bs : List Nat) (bss : List (List Nat)) (limit : Int) (w : World) (hI : IsB w (.slice ao bs.length cap) bs) (hl : bs.length ≤ 140737488355328) (hlim : -9223372036854775808 ≤ limit ∧ limit ≤ 9223372036854775807) (hA : apartO bs limit = some bss) (hm : bss.length ≤ 1000000) :
    CallsIn Fence.wide 5 Try.prog 15 #[.agg (lsS limit).toArray, .slice ao bs.length cap] w fun e w' => (((∃ s ∈ bss, s.head? = some 33) ∧ e = .returned (.tuple #[.slice none 0 0, .int .i64 47])) ∨ ((∀ s ∈ bss, s.head? ≠ some 33) ∧ ∃ u, e = .returned (.tuple #[u, .int .i64 0]) ∧ w'.ownsRow w.heap.size 9 1 u bss.length (sCells bss))) ∧ Below w.heap.size w w' := by
  have HD := hid (fun w' (hb : Below w.heap.size w w') => spieces_ok (.slice ao bs.length cap) bs bss limit w' (hI.keep hb) hl hlim hA)
  have HK := hid hm
  clear hl hlim hA hm
  refine callsIn_of_wp_marks Try.func15 rfl trivial ?_ rfl
  simp only [Try.ntmps15, List.size_toArray, List.length_cons, List.length_nil, Nat.reduceAdd, Nat.reduceSub, Array.replicate_succ, Array.replicate_zero, List.push_toArray, List.append_toArray, List.nil_append, List.cons_append]
  gi_wp2_with (first
    | (refine wpListIn_box_c rfl 2 rfl (.tmp 0) rfl (lsS limit) rfl ?_; intro w1 H1 B1 S1)
    | (refine wpListIn_load_c Try.ty43 rfl (.tmp 2) rfl w.heap.size (lsS limit) rfl rfl (H1.keep (((Below.refl _ w1).alloc (Nat.le_refl _) _).alloc (by simp) _)) ?_))
  have BA : Below w.heap.size w ((w1.alloc (.cells #[.slice none 0 0] 44)).alloc (.cells #[.int .i64 0] 26)) := (B1.alloc (by omega) _).alloc (by simp; omega) _
  have H4 : HasC ((w1.alloc (.cells #[.slice none 0 0] 44)).alloc (.cells #[.int .i64 0] 26)) (w.heap.size + 1) 44 [.slice none 0 0] := by
    have h := heap_alloc_new w1 (.cells #[.slice none 0 0] 44)
    rw [S1] at h
    exact HasC.keep (t := 44) (cs := [.slice none 0 0]) h ((Below.refl _ _).alloc (Nat.le_refl _) _)
  have H5 : HasC ((w1.alloc (.cells #[.slice none 0 0] 44)).alloc (.cells #[.int .i64 0] 26)) (w.heap.size + 2) 26 [.int .i64 0] := by
    have h := heap_alloc_new (w1.alloc (.cells #[.slice none 0 0] 44)) (.cells #[.int .i64 0] 26)
    rw [World.size_alloc, S1] at h
    exact h
  have H0 := H1.keep (((Below.refl _ w1).alloc (Nat.le_refl _) (.cells #[.slice none 0 0] 44)).alloc (by simp) (.cells #[.int .i64 0] 26))
  have S3 : ((w1.alloc (.cells #[.slice none 0 0] 44)).alloc (.cells #[.int .i64 0] 26)).heap.size = w.heap.size + 3 := by simp [S1]
  clear H1 B1 S1
  generalize (w1.alloc (.cells #[.slice none 0 0] 44)).alloc (.cells #[.int .i64 0] 26) = w2 at BA H4 H5 H0 S3 ⊢
  simp only [Nat.add_assoc, Nat.reduceAdd]
  have HP := hid (HD.out w2 BA)
  have HX := hid (And.intro H0 (And.intro H4 (And.intro H5 BA)))
  clear H0 H4 H5 BA HD
  refine ⟨trivial, ?_⟩
  refine (callsIn_wide.2 HP.out).mono ?_
  rintro e w3 ⟨u, bv, rfl, q1, q3, q5, B3⟩
  have s3 := B3.size
  have HQ := hid (And.intro q3 q5)
  have HX3 := hid (And.intro (HX.out.1.keep B3) (And.intro (HX.out.2.1.keep B3) (And.intro (HX.out.2.2.1.keep B3) (below_more HX.out.2.2.2 B3 (Nat.le_refl _)))))
  clear q3 q5 B3 HP HX
  gi_wp2_with fail
  have hA := heap_alloc_new w3 (.cells #[.slice none 0 0] 44)
  have BA : Below w3.heap.size w3 (w3.alloc (.cells #[.slice none 0 0] 44)) := (Below.refl _ _).alloc (Nat.le_refl _) _
  have SA : (w3.alloc (.cells #[.slice none 0 0] 44)).heap.size = w3.heap.size + 1 := World.size_alloc _ _
  generalize w3.alloc (.cells #[.slice none 0 0] 44) = wA at hA BA SA ⊢
  have D0 : DS w w3.heap.size wA.heap.size limit (.slice none 0 0) [] wA := ⟨HX3.out.1.keep BA, HX3.out.2.1.keep BA, HX3.out.2.2.1.keep BA, hA, World.ownsRow_nil _ _ _ _, below_more HX3.out.2.2.2 BA (Nat.le_refl _), by omega, by omega⟩
  have HP := hid (fun l J Jx V (hV : Below wA.heap.size wA V) hY h0 => valIt_in 4 (by decide) l bv bss u w3 J Jx V HQ.out.1 HQ.out.2 (KB.below (B0 := w3.heap.size) (BA.trans (hV.mono (by omega)))) hY h0)
  have HD0 := hid D0
  clear D0 hA BA HX3
  refine wpIn_rangeM (F := Fence.wide) rfl (by decide) (gf := 47) (lb := #[.pointer (some ⟨bv, 0, none⟩)]) rfl trivial (enters_of Try.func47 (by kernel_rfl) rfl)
    (encs := fun x : Value × List Nat => #[x.1]) (M := MB) (Kp := fun _ => KB w3.heap.size) (S := fun xs => xs.map (·.2) = bss) (Sp := fun pre => pre.map (·.2) = bss.take pre.length ∧ 0 < pre.length ∧ pre.length ≤ bss.length) (N := bss.length) (w0 := wA)
    (fun l J Jx V hV hJ _ hY h0 => HP.out l J Jx V hV hY h0) (Below.refl _ _) KB.trans (fun _ W l o o' h1 h2 => KB.put W l o o' h1 h2) (fun _ => rfl) (fun B x V l o o' h hl ho => MB.put B x V l o o' h hl ho)
    (fun pre V => wA.heap.size ≤ V.heap.size ∧ (∀ s ∈ pre.map (·.2), s.head? ≠ some 33) ∧ ∃ u, DS w w3.heap.size wA.heap.size limit u (pre.map (·.2)) V) (fun cd pre V => cd = .ret ∧ (∃ s ∈ pre.map (·.2), s.head? = some 33) ∧ HasC V (w.heap.size + 1) 44 [.slice none 0 0] ∧ HasC V (w.heap.size + 2) 26 [.int .i64 47] ∧ Below w.heap.size w V) ?fi ?fx ⟨Nat.le_refl _, (fun s h => (by simp at h)), _, HD0.out⟩
    (fun x => { tmps := #[.agg (lsS limit).toArray, .slice ao bs.length cap, .pointer (some ⟨w.heap.size, 0, none⟩), undef, .pointer (some ⟨w.heap.size + 1, 0, none⟩), .pointer (some ⟨w.heap.size + 2, 0, none⟩), .func (.func 47) #[] #[.pointer (some ⟨bv, 0, none⟩)], .int .i64 0, .pointer (some ⟨w3.heap.size, 0, none⟩), x.1, undef, undef, .tuple #[.func (.func 47) #[] #[.pointer (some ⟨bv, 0, none⟩)], .int .i64 0], .agg (lsS limit).toArray, .slice ao bs.length cap, .tuple #[.func (.func 47) #[] #[.pointer (some ⟨bv, 0, none⟩)], .int .i64 0], .func (.func 47) #[] #[.pointer (some ⟨bv, 0, none⟩)], .int .i64 0, .int .i64 0, .bool false, undef, .func (.func 47) #[] #[.pointer (some ⟨bv, 0, none⟩)], x.1, undef, undef, undef, undef, undef, undef, undef, undef, undef, undef, undef, undef, undef, undef], defers := [] }) ?assign ?body ?done ?stop
  case fi =>
    intro pre A B row hs hg hr
    obtain ⟨hz, hq, u, hs⟩ := hs
    exact ⟨Nat.le_trans hz hg.size, hq, u, hs.own hg (fun r e => ⟨by have := (hr r e).1; have := hs.hb; have := hs.ha; omega, (hr r e).2⟩)⟩
  case fx =>
    intro cd pre A B row hs hg hr
    exact ⟨hs.1, hs.2.1, row_kept hs.2.2.1 hg (fun r e => (hr r e).2), row_kept hs.2.2.2.1 hg (fun r e => (hr r e).2), hs.2.2.2.2.grown hg (by have := hs.2.2.2.2.size; omega) (fun k e => by have := (hr k e).1; omega)⟩
  case assign =>
    intro l x V K hK
    gi_wp2
    exact hK
  case body =>
    rintro l pre ⟨xv, xb⟩ V hl ⟨hwV, hgd, u, hD⟩ hM hlt
    have HGD := hid hgd
    clear hgd
    have hIX : IsB V xv xb := hM
    have HT := hid (stake_any limit _ xb V hIX)
    obtain ⟨⟨xa, xc, hx1, _⟩, _⟩ := id hIX
    subst hx1
    obtain ⟨ns, hns⟩ : ∃ ns, (pre.map (·.2)) = ns := ⟨_, rfl⟩
    have HNS := hid hns
    have hnl : ns.length = pre.length := by rw [← hns, List.length_map]
    rw [hns] at hD
    clear hns
    have HD1 := hid hD
    have hls := hD.ls
    have hou := hD.ow.lt
    clear hD hIX hM
    by_cases hbang : xb.head? = some 33
    · have HBG := hid hbang
      unfold takS at HT
      rw [if_pos hbang] at HT
      clear hbang
      obtain ⟨n, hn⟩ : ∃ n, strOf [] = n := ⟨_, rfl⟩
      rw [hn] at HT
      clear hn
      gi_wp2_with (first
        | (refine wpListIn_load_c Try.ty43 rfl (.tmp 2) rfl w.heap.size (lsS limit) rfl rfl hls ?_))
      refine ⟨trivial, ?_⟩
      refine (CallsIn.inRound l (callsIn_wide.2 HT.out)).mono ?_
      rintro e V1 ⟨rfl, B1⟩
      have D1 := HD1.out.keep B1
      have h4c := D1.r4.cell (j := 0) (v := .slice none 0 0) rfl
      have h4f : V1.frozen? ⟨w.heap.size + 1, 0, none⟩ = false := frozen_of_row V1 (w.heap.size + 1) 0 _ _ D1.r4
      have h5c := D1.r5.cell (j := 0) (v := .int .i64 0) rfl
      have h5f : V1.frozen? ⟨w.heap.size + 2, 0, none⟩ = false := frozen_of_row V1 (w.heap.size + 2) 0 _ _ D1.r5
      have c5 : HasC (V1.setCell ⟨w.heap.size + 1, 0, none⟩ (.slice none 0 0)) (w.heap.size + 2) 26 [.int .i64 0] := (heap_setCell_other V1 ⟨w.heap.size + 1, 0, none⟩ (w.heap.size + 2) _ (by show w.heap.size + 2 ≠ w.heap.size + 1; omega)).trans D1.r5
      have c4 : HasC (V1.setCell ⟨w.heap.size + 1, 0, none⟩ (.slice none 0 0)) (w.heap.size + 1) 44 [.slice none 0 0] := hasC_set D1.r4 (.slice none 0 0)
      have O2 := Only.setCell (V1.setCell ⟨w.heap.size + 1, 0, none⟩ (.slice none 0 0)) (w.heap.size + 2) 0 (.int .i64 47)
      have HE := hid (And.intro ((keepsF_below (B := wA.heap.size) B1).trans ((keepsF_only D1.r4 (Only.setCell V1 (w.heap.size + 1) 0 (.slice none 0 0))).trans (keepsF_only c5 O2))) (And.intro (c4.only O2 (by omega)) (And.intro (hasC_set c5 (.int .i64 47)) (below_only (below_only D1.be (Only.setCell V1 (w.heap.size + 1) 0 (.slice none 0 0)) (by omega)) O2 (by omega)))))
      clear D1 B1 c5 c4 O2 HD1 hls
      gi_wp2
      exact ⟨HE.out.1, rfl, ⟨xb, by simp, HBG.out⟩, HE.out.2.1, HE.out.2.2.1, HE.out.2.2.2⟩
    have HBG := hid hbang
    unfold takS at HT
    rw [if_neg hbang] at HT
    clear hbang
    obtain ⟨n, hn⟩ : ∃ n, strOf xb = n := ⟨_, rfl⟩
    have HN := hid hn
    rw [hn] at HT
    clear hn
    gi_wp2_with (first
      | (refine wpListIn_load_c Try.ty43 rfl (.tmp 2) rfl w.heap.size (lsS limit) rfl rfl hls ?_))
    refine ⟨trivial, ?_⟩
    refine (CallsIn.inRound l (callsIn_wide.2 HT.out)).mono ?_
    rintro e V1 ⟨rfl, B1⟩
    have D1 := HD1.out.keep B1
    have s1 := B1.size
    have B2 : Below V1.heap.size V1 (V1.alloc (.cells #[.string n] 9)) := (Below.refl _ _).alloc (Nat.le_refl _) _
    have hcn := heap_alloc_new V1 (.cells #[.string n] 9)
    have HD2 := hid (And.intro (D1.keep B2) (And.intro (B1.trans (B2.mono s1)) (cell_of_row _ V1.heap.size 0 _ _ (0, 0) hcn)))
    have hac := D1.al.cell (j := 0) (v := u) rfl
    obtain ⟨i0, hi, hz0, hz1, hz2⟩ := infS
    have hk8 := HK.out
    have hnb : ns.length + 1 ≤ 1000001 := by omega
    clear D1 B1 B2 HT HD1 hls hcn hk8
    gi_wp2_with (first
      | (refine wpListIn_append_own _ rfl (.tmp 32) (.tmp 34) 44 rfl wA.heap.size 9 i0 (.string ByteArray.empty) 1 16 Try.underlying44 hi hz0 hz1 hz2 rfl (by decide) u ns.length (sCells ns) rfl HD2.out.1.ow ⟨V1.heap.size, 0, none⟩ 1 1 [.string n] rfl rfl ?c1 ?c2 ?c3 ?c4 ?c5 ?_))
    case c1 =>
      intro j u hj
      match j, hj with
      | 0, hj => cases hj; exact HD2.out.2.2
    case c2 => intro u hu; simp at hu; subst hu; rfl
    case c3 => unfold maxLen; omega
    case c4 => omega
    case c5 => simp; omega
    · intro v' w4 r1 r2 r3
      rw [← SA, ← hnl] at r1
      obtain ⟨va, vn, vc, rfl⟩ := own_slice r1
      have hg := HD2.out.1
      have ha4 : HasC w4 w3.heap.size 44 [u] := (r2.block _ hg.al.lt (fun e => by have := (own_cells hg.ow _ e.symm).1; omega)).trans hg.al
      have hac4 := ha4.cell (j := 0) (v := u) rfl
      have hfr4 := frozen_of_row w4 w3.heap.size 0 _ _ ha4
      rw [← HN.out] at r1
      have HF := hid (And.intro (hg.step r2 r1) (hg.kp (v := .slice va vn vc) HD2.out.2.1 r2))
      clear r1 r2 r3 hg ha4 hac
      gi_wp2
      have e : List.map (fun x : Value × List Nat => x.2) (pre ++ [(.slice xa xb.length xc, xb)]) = ns ++ [xb] := by rw [List.map_append, HNS.out]; rfl
      refine ⟨HF.out.2.1, HF.out.2.2, Nat.le_trans hwV HF.out.2.1.size, ?_, .slice va vn vc, ?_⟩
      · rw [e, ← HNS.out]
        intro s hs
        rcases List.mem_append.1 hs with hs | hs
        · exact HGD.out s hs
        · obtain rfl : s = xb := by simpa using hs
          exact HBG.out
      · rw [e]
        exact HF.out.1
  case done =>
    rintro xs V hS ⟨_, hgd, u, hD⟩ hK
    rw [hS] at hD hgd
    have HGD := hid hgd
    clear hgd
    obtain ⟨va, vn, vc, rfl⟩ := own_slice hD.ow
    have HF := hid (hD.fin hK)
    rw [SA] at HF
    have ha := hD.al.cell (j := 0) (v := .slice va vn vc) rfl
    have h4c := hD.r4.cell (j := 0) (v := .slice none 0 0) rfl
    have h4f : V.frozen? ⟨w.heap.size + 1, 0, none⟩ = false := frozen_of_row V (w.heap.size + 1) 0 _ _ hD.r4
    have h5c := hD.r5.cell (j := 0) (v := .int .i64 0) rfl
    have h5f : V.frozen? ⟨w.heap.size + 2, 0, none⟩ = false := frozen_of_row V (w.heap.size + 2) 0 _ _ hD.r5
    clear hD hK hS
    gi_wp2
    refine ⟨by simp, .inl ⟨_, _, rfl, run_takeDeferred HF.out.1, ?_⟩⟩
    have how := HF.out.2.2.2.1
    exact ⟨_, results_cs rfl _ _ (w.heap.size + 1) (w.heap.size + 2) _ _ rfl rfl HF.out.2.1 HF.out.2.2.1, .inr ⟨HGD.out, _, rfl, how⟩, HF.out.2.2.2.2⟩
  case stop =>
    rintro c pre V hSp ⟨rfl, ⟨s, hs, hb⟩, h4, h5, hbe⟩ hK
    rw [hSp.1] at hs
    have hz := HD0.out.ha
    have hy := HD0.out.hb
    have o3 : ∀ b, b ≠ wA.heap.size → (V.putObj wA.heap.size (.deferred none)).heap[b]? = V.heap[b]? := fun b hb => World.putObj_heap_other hb
    have HF := hid (And.intro hK (And.intro ((o3 (w.heap.size + 1) (by omega)).trans h4) (And.intro ((o3 (w.heap.size + 2) (by omega)).trans h5) (hbe.trans (belowK_b (w := w) (Nat.le_refl _) _ wA.heap.size _ (.deferred none) (by omega) hK rfl rfl)))))
    have HS := hid (show ∃ s ∈ bss, s.head? = some 33 from ⟨s, List.mem_of_mem_take hs, hb⟩)
    rw [SA] at HF
    clear h4 h5 hbe hK hs hb o3 hz hy hSp
    gi_wp2
    refine ⟨by simp, .inl ⟨_, _, rfl, run_takeDeferred HF.out.1, ?_⟩⟩
    exact ⟨_, results_cs rfl _ _ (w.heap.size + 1) (w.heap.size + 2) _ _ rfl rfl HF.out.2.1 HF.out.2.2.1, .inl ⟨HS.out, rfl⟩, HF.out.2.2.2⟩
theorem sdec_any (v : Value) (bs : List Nat) (bss : List (List Nat)) (limit : Int) (w : World) (hI : IsB w v bs) (hl : bs.length ≤ 140737488355328) (hlim : -9223372036854775808 ≤ limit ∧ limit ≤ 9223372036854775807) (hA : apartO bs limit = some bss) (hm : bss.length ≤ 1000000) :
    Calls Try.prog 15 #[.agg (lsS limit).toArray, v] w fun e w' => (((∃ s ∈ bss, s.head? = some 33) ∧ e = .returned (.tuple #[.slice none 0 0, .int .i64 47])) ∨ ((∀ s ∈ bss, s.head? ≠ some 33) ∧ ∃ u, e = .returned (.tuple #[u, .int .i64 0]) ∧ w'.ownsRow w.heap.size 9 1 u bss.length (sCells bss))) ∧ Below w.heap.size w w' := by
  obtain ⟨⟨ao, cap, rfl, h1⟩, h2⟩ := hI
  exact callsIn_wide.1 (sdec_in ao cap bs bss limit w ⟨⟨ao, cap, rfl, h1⟩, h2⟩ hl hlim hA hm)
set_option maxHeartbeats 2000000 in
theorem sdec_bad (v : Value) (bs : List Nat) (limit : Int) (w : World) (hI : IsB w v bs) (hl : bs.length ≤ 140737488355328) (hlim : -9223372036854775808 ≤ limit ∧ limit ≤ 9223372036854775807) (hA : apartO bs limit = none) :
    Calls Try.prog 15 #[.agg (lsS limit).toArray, v] w fun e w' => e = .returned (.tuple #[.slice none 0 0, .int .i64 3]) ∧ Below w.heap.size w w' := by
  obtain ⟨⟨ao, cap, rfl, h1⟩, h2⟩ := hI
  have HD := hid (fun w' (hb : Below w.heap.size w w') => spieces_bad (.slice ao bs.length cap) bs limit w' (IsB.keep ⟨⟨ao, cap, rfl, h1⟩, h2⟩ hb) hl hlim hA)
  clear hl hlim hA h1 h2
  refine (callsIn_wide (n := 5)).1 ?_
  refine callsIn_of_wp_marks Try.func15 rfl trivial ?_ rfl
  simp only [Try.ntmps15, List.size_toArray, List.length_cons, List.length_nil, Nat.reduceAdd, Nat.reduceSub, Array.replicate_succ, Array.replicate_zero, List.push_toArray, List.append_toArray, List.nil_append, List.cons_append]
  gi_wp2_with (first
    | (refine wpListIn_box_c rfl 2 rfl (.tmp 0) rfl (lsS limit) rfl ?_; intro w1 H1 B1 S1)
    | (refine wpListIn_load_c Try.ty43 rfl (.tmp 2) rfl w.heap.size (lsS limit) rfl rfl (H1.keep (((Below.refl _ w1).alloc (Nat.le_refl _) _).alloc (by simp) _)) ?_))
  have BA : Below w.heap.size w ((w1.alloc (.cells #[.slice none 0 0] 44)).alloc (.cells #[.int .i64 0] 26)) := (B1.alloc (by omega) _).alloc (by simp; omega) _
  have H4 : HasC ((w1.alloc (.cells #[.slice none 0 0] 44)).alloc (.cells #[.int .i64 0] 26)) (w.heap.size + 1) 44 [.slice none 0 0] := by
    have h := heap_alloc_new w1 (.cells #[.slice none 0 0] 44)
    rw [S1] at h
    exact HasC.keep (t := 44) (cs := [.slice none 0 0]) h ((Below.refl _ _).alloc (Nat.le_refl _) _)
  have H5 : HasC ((w1.alloc (.cells #[.slice none 0 0] 44)).alloc (.cells #[.int .i64 0] 26)) (w.heap.size + 2) 26 [.int .i64 0] := by
    have h := heap_alloc_new (w1.alloc (.cells #[.slice none 0 0] 44)) (.cells #[.int .i64 0] 26)
    rw [World.size_alloc, S1] at h
    exact h
  have S3 : ((w1.alloc (.cells #[.slice none 0 0] 44)).alloc (.cells #[.int .i64 0] 26)).heap.size = w.heap.size + 3 := by simp [S1]
  clear H1 B1 S1
  generalize (w1.alloc (.cells #[.slice none 0 0] 44)).alloc (.cells #[.int .i64 0] 26) = w2 at BA H4 H5 S3 ⊢
  simp only [Nat.add_assoc, Nat.reduceAdd]
  have HP := hid (HD.out w2 BA)
  have HX := hid (And.intro H4 (And.intro H5 BA))
  clear H4 H5 BA HD
  refine ⟨trivial, ?_⟩
  refine (callsIn_wide.2 HP.out).mono ?_
  rintro e w3 ⟨rfl, B3⟩
  have H4 := HX.out.1.keep B3
  have H5 := HX.out.2.1.keep B3
  have h4c := H4.cell (j := 0) (v := .slice none 0 0) rfl
  have h4f : w3.frozen? ⟨w.heap.size + 1, 0, none⟩ = false := frozen_of_row w3 (w.heap.size + 1) 0 _ _ H4
  have h5c := H5.cell (j := 0) (v := .int .i64 0) rfl
  have h5f : w3.frozen? ⟨w.heap.size + 2, 0, none⟩ = false := frozen_of_row w3 (w.heap.size + 2) 0 _ _ H5
  have o1 : ∀ b, b ≠ w.heap.size + 1 → (w3.setCell ⟨w.heap.size + 1, 0, none⟩ (.slice none 0 0)).heap[b]? = w3.heap[b]? := fun b hb => heap_setCell_other w3 ⟨w.heap.size + 1, 0, none⟩ b _ hb
  have c1 : HasC (w3.setCell ⟨w.heap.size + 1, 0, none⟩ (.slice none 0 0)) (w.heap.size + 1) 44 [.slice none 0 0] := by
    unfold HasC at H4 ⊢
    simp [World.setCell, Array.getElem?_modify, H4]
  have c5 : HasC (w3.setCell ⟨w.heap.size + 1, 0, none⟩ (.slice none 0 0)) (w.heap.size + 2) 26 [.int .i64 0] := (o1 _ (by omega)).trans H5
  have b1 : Below w.heap.size w (w3.setCell ⟨w.heap.size + 1, 0, none⟩ (.slice none 0 0)) := (below_more HX.out.2.2 B3 (Nat.le_refl _)).setCell (p := ⟨w.heap.size + 1, 0, none⟩) (by show w.heap.size ≤ w.heap.size + 1; omega) _
  have o2 : ∀ b, b ≠ w.heap.size + 2 → ((w3.setCell ⟨w.heap.size + 1, 0, none⟩ (.slice none 0 0)).setCell ⟨w.heap.size + 2, 0, none⟩ (.int .i64 3)).heap[b]? = (w3.setCell ⟨w.heap.size + 1, 0, none⟩ (.slice none 0 0)).heap[b]? := fun b hb => heap_setCell_other _ ⟨w.heap.size + 2, 0, none⟩ b _ hb
  have e4 : HasC ((w3.setCell ⟨w.heap.size + 1, 0, none⟩ (.slice none 0 0)).setCell ⟨w.heap.size + 2, 0, none⟩ (.int .i64 3)) (w.heap.size + 1) 44 [.slice none 0 0] := (o2 _ (by omega)).trans c1
  have e5 : HasC ((w3.setCell ⟨w.heap.size + 1, 0, none⟩ (.slice none 0 0)).setCell ⟨w.heap.size + 2, 0, none⟩ (.int .i64 3)) (w.heap.size + 2) 26 [.int .i64 3] := by
    unfold HasC at c5 ⊢
    simp [World.setCell, Array.getElem?_modify] at c5 ⊢
    simp [c5]
  have HE := hid (And.intro e4 (And.intro e5 (b1.setCell (p := ⟨w.heap.size + 2, 0, none⟩) (by show w.heap.size ≤ w.heap.size + 2; omega) (.int .i64 3))))
  clear B3 HP HX H4 H5 o1 c1 c5 b1 o2 e4 e5
  gi_wp2
  exact ⟨_, results_cs rfl _ _ (w.heap.size + 1) (w.heap.size + 2) _ _ rfl rfl HE.out.1 HE.out.2.1, rfl, HE.out.2.2⟩
end Go.Proofs.Ytelgjencpafnnaa

/- Joined parts are parted again: the plain mathematics. -/
namespace Go.Proofs.Ytelgjencpafnnaa
open Go.RowKit
set_option linter.unusedVariables false

theorem joinB_eq (bss : List (List Nat)) : joinB bss = frontB (4 * bss.length) (bss.map fun b => (b, true)) ++ bss.flatten := by
  have e : szF (bss.map fun b => (b, true)) = 4 * bss.length := by
    induction bss with
    | nil => rfl
    | cons b r ih =>
      have : szF ((b :: r).map fun b => (b, true)) = 4 + szF (r.map fun b => (b, true)) := by simp [szF, sz1]
      rw [this, ih, List.length_cons]; omega
  rw [joinB, cont, e, back_flat]
theorem joinB_length (bss : List (List Nat)) : (joinB bss).length = 4 * bss.length + lenB bss := by
  have e : szF (bss.map fun b => (b, true)) = 4 * bss.length := by
    induction bss with
    | nil => rfl
    | cons b r ih =>
      have : szF ((b :: r).map fun b => (b, true)) = 4 + szF (r.map fun b => (b, true)) := by simp [szF, sz1]
      rw [this, ih, List.length_cons]; omega
  rw [joinB_eq, List.length_append, frontB_length, e, lenB_flat]
theorem join_place (bss : List (List Nat)) (h : 4 * bss.length + lenB bss < 4294967296) (j : Nat) (hj : j < bss.length) : placeAt (joinB bss) 0 j = 4 * bss.length + lenB (bss.take j) := by
  unfold placeAt
  rw [Nat.zero_add, joinB_eq, front_at _ bss _ j hj, tk_le4]
  have := lenB_take bss j
  omega
theorem join_good (bss : List (List Nat)) (h : 4 * bss.length + lenB bss < 4294967296) : ∀ k, k ≤ bss.length → goodB (joinB bss) (4 * bss.length) 0 k = true
  | 0, _ => rfl
  | k + 1, hk => by
    rw [goodB_succ, join_good bss h k (by omega), Bool.true_and]
    cases k with
    | zero =>
      show folB _ _ (places _ 0 0) _ = true
      rw [show places (joinB bss) 0 0 = [] from rfl, folB_nil, join_place bss h 0 (by omega)]
      simp [lenB]
    | succ k =>
      have hx := List.getElem?_eq_getElem (show k < bss.length by omega)
      have h1 := lenB_succ bss k _ hx
      have h2 := lenB_take bss (k + 1)
      rw [places_succ, folB_snoc, join_place bss h k (by omega), join_place bss h (k + 1) (by omega), joinB_length]
      simp
      omega
theorem joinB_byte {bss : List (List Nat)} (h : ∀ b ∈ bss, ∀ z ∈ b, z < 256) : ∀ z ∈ joinB bss, z < 256 := by
  intro z hz
  rw [joinB_eq] at hz
  rcases List.mem_append.1 hz with hz | hz
  · have key : ∀ (r : List (List Nat)) (p : Nat), (∀ b ∈ r, ∀ z ∈ b, z < 256) → ∀ z ∈ frontB p (r.map fun b => (b, true)), z < 256 := by
      intro r
      induction r with
      | nil => intro p _ z hz; simp [frontB] at hz
      | cons b r ih =>
        intro p hb z hz
        rw [List.map_cons, frontB] at hz
        simp only [if_true] at hz
        rcases List.mem_append.1 hz with hz | hz
        · exact le_byte _ _ z hz
        · exact ih _ (fun c hc => hb c (List.mem_cons_of_mem _ hc)) z hz
    exact key bss _ h z hz
  · obtain ⟨b, hb, hz⟩ := List.mem_flatten.1 hz
    exact h b hb z hz
theorem join_cut (bss : List (List Nat)) (h : 4 * bss.length + lenB bss < 4294967296) : cutL (joinB bss) (places (joinB bss) 0 bss.length) = bss := by
  apply List.ext_getElem?
  intro i
  by_cases hi : i < bss.length
  · have hx := List.getElem?_eq_getElem hi
    have hto : toI (joinB bss) (places (joinB bss) 0 bss.length) i = 4 * bss.length + lenB (bss.take (i + 1)) := by
      unfold toI
      rw [places_length]
      by_cases h1 : i + 1 < bss.length
      · rw [if_pos h1, places_getD _ _ _ _ h1, join_place bss h _ h1]
      · rw [if_neg h1, joinB_length, show i + 1 = bss.length by omega, List.take_length]
    rw [cutL_get (by rw [places_length]; exact hi), hto, places_getD _ _ _ _ hi, join_place bss h i hi, lenB_succ bss i _ hx, hx]
    congr 1
    have hf : (frontB (4 * bss.length) (bss.map fun b => (b, true))).length = 4 * bss.length := by
      have := joinB_length bss
      rw [joinB_eq, List.length_append, lenB_flat] at this
      omega
    rw [show 4 * bss.length + (lenB (bss.take i) + bss[i].length) - (4 * bss.length + lenB (bss.take i)) = bss[i].length by omega, joinB_eq, List.drop_append, List.drop_eq_nil_of_le (by rw [hf]; omega), List.nil_append, hf, show 4 * bss.length + lenB (bss.take i) - 4 * bss.length = lenB (bss.take i) by omega]
    exact flat_part bss i _ hx
  · rw [List.getElem?_eq_none (by rw [cutL_length, places_length]; omega), List.getElem?_eq_none (by omega)]
theorem apart_join (bss : List (List Nat)) (h : 4 * bss.length + lenB bss < 4294967296) (limit : Int) : apartO (joinB bss) limit = if 0 < bss.length ∧ limit < ((bss.length : Nat) : Int) then none else some bss := by
  by_cases h0 : bss.length = 0
  · obtain rfl : bss = [] := List.eq_nil_of_length_eq_zero h0
    rw [if_neg (by simp)]
    rfl
  · have hl := joinB_length bss
    have ht : tk ((joinB bss).take 4) = 4 * bss.length := by
      have := join_place bss h 0 (by omega)
      unfold placeAt at this
      simpa [lenB] using this
    unfold apartO
    rw [if_neg (by omega)]
    simp only [ht]
    rw [show 4 * bss.length / 4 = bss.length by omega, join_good bss h _ (Nat.le_refl _), join_cut bss h]
    by_cases hlim : limit < ((bss.length : Nat) : Int)
    · rw [if_pos (.inr (.inr (.inl hlim))), if_pos ⟨by omega, hlim⟩]
    · rw [if_neg (by omega), if_pos rfl, if_neg (by omega)]
end Go.Proofs.Ytelgjencpafnnaa

/- SszLists: a list of texts' bytes, taken apart. -/
namespace Go.Proofs.Ytelgjencpafnnaa
open Go.RowKit
set_option linter.unusedVariables false
theorem partF_join (ss : List (List Nat)) : cont (partF ss) = joinB ss := by
  first
  | rfl
  | (unfold joinB partF; rfl)
theorem apart_texts (ss : List (List Nat)) (h : 4 * ss.length + lenB ss < 4294967296) (limit : Int) : apartO (cont (partF ss)) limit = if 0 < ss.length ∧ limit < ((ss.length : Nat) : Int) then none else some ss := by
  rw [partF_join]
  exact apart_join ss h limit
end Go.Proofs.Ytelgjencpafnnaa

/- SszLists: what the two lists answer, there and back. -/
namespace Go.Proofs.Ytelgjencpafnnaa
open Go.RowKit Go.Shelf
set_option linter.unusedVariables false
set_option linter.unusedSimpArgs false
set_option maxRecDepth 100000

theorem bytesN_drop (L : List Nat) (i : Nat) : (bytesN L).drop (i * 8) = bytesN (L.drop i) := by
  induction i generalizing L with
  | zero => simp
  | succ i ih =>
    cases L with
    | nil => simp [bytesN]
    | cons n L =>
      have e : bytesN (n :: L) = le n 8 ++ bytesN L := rfl
      rw [e, show (i + 1) * 8 = 8 + i * 8 by omega, ← List.drop_drop, List.drop_left' (le_length n 8), ih]
      rfl
theorem pcs_bytesN (L : List Nat) (h64 : ∀ n ∈ L, n < 18446744073709551616) : (pcs (bytesN L) 8 L.length).map tk = L := by
  apply List.ext_getElem
  · simp [pcs]
  · intro i h1 h2
    simp only [pcs, List.getElem_map, List.getElem_range]
    rw [bytesN_drop]
    have e : L.drop i = L[i] :: L.drop (i + 1) := List.drop_eq_getElem_cons h2
    rw [e]
    have e2 : bytesN (L[i] :: L.drop (i + 1)) = le L[i] 8 ++ bytesN (L.drop (i + 1)) := rfl
    rw [e2, List.take_left' (le_length _ 8)]
    exact tk_le8 _ (h64 _ (List.getElem_mem h2))
theorem isN_own {w : World} {base : Nat} {v : Value} {ns : List Nat} (h : w.ownsRow base 33 1 v ns.length (n64 ns)) (h64 : ∀ n ∈ ns, n < 18446744073709551616) : IsN w v ns := by
  refine ⟨?_, h64⟩
  obtain ⟨_, ⟨rfl, hz⟩ | ⟨g, cap, cur, rfl, _, hg, hnc, hm, hcs, htk⟩⟩ := h
  · exact ⟨none, 0, by rw [hz], by omega, by unfold maxLen; omega, .inl hz⟩
  · refine ⟨some ⟨g, 0, none⟩, cap, rfl, hnc, hm, .inr ⟨g, 0, rfl, fun i hi => ?_⟩⟩
    have h1 := congrArg (·[i]?) htk
    simp only [List.getElem?_take] at h1
    rw [if_pos (by omega)] at h1
    rw [Nat.zero_add, cell_of_row w g i _ _ (0, 0) hg, ← Array.getElem?_toList, h1, n64, List.getElem?_map, List.getElem?_eq_getElem hi, List.getD_eq_getElem?_getD, List.getElem?_eq_getElem hi]
    rfl
theorem isS_own {w : World} {base : Nat} {v : Value} {ss : List (List Nat)} (h : w.ownsRow base 9 1 v ss.length (sCells ss)) (hb : ∀ s ∈ ss, (∀ z ∈ s, z < 256) ∧ s.length ≤ 1000) : IsS w v ss := by
  refine ⟨?_, hb⟩
  obtain ⟨_, ⟨rfl, hz⟩ | ⟨g, cap, cur, rfl, _, hg, hnc, hm, hcs, htk⟩⟩ := h
  · exact ⟨none, 0, by rw [hz], by omega, by unfold maxLen; omega, .inl hz⟩
  · refine ⟨some ⟨g, 0, none⟩, cap, rfl, hnc, hm, .inr ⟨g, 0, rfl, fun i hi => ?_⟩⟩
    have h1 := congrArg (·[i]?) htk
    simp only [List.getElem?_take] at h1
    rw [if_pos (by omega)] at h1
    rw [Nat.zero_add, cell_of_row w g i _ _ (0, 0) hg, ← Array.getElem?_toList, h1, sCells, List.getElem?_map, List.getElem?_eq_getElem hi, List.getD_eq_getElem?_getD, List.getElem?_eq_getElem hi]
    rfl
/-- One of the texts begins with '33'. -/
def bang (ss : List (List Nat)) : Bool := ss.any fun s => s.head? == some 33
theorem bang_yes {ss : List (List Nat)} (h : ∃ s ∈ ss, s.head? = some 33) : bang ss = true := by
  obtain ⟨s, hs, e⟩ := h
  unfold bang
  rw [List.any_eq_true]
  exact ⟨s, hs, by rw [e]; rfl⟩
theorem bang_no {ss : List (List Nat)} (h : ∀ s ∈ ss, s.head? ≠ some 33) : bang ss = false := by
  unfold bang
  rw [List.any_eq_false]
  intro s hs e
  exact h s hs (by simpa using e)
/-- The error that is asked for. -/
def wantS (ss : List (List Nat)) (lim : Int) : Int := if lim < (ss.length : Int) then 3 else if bang ss = true then 47 else 0
def wantN (ns : List Nat) (lim : Int) : Int := if lim < (ns.length : Int) then 3 else 0
def AnsN (lim : Int) (ns : List Nat) (w : World) (v : Value) : Prop :=
  (wantN ns lim = 0 ∧ (ns.length : Int) ≤ lim ∧ IsN w v ns) ∨ (wantN ns lim = 3 ∧ lim < (ns.length : Int) ∧ v = .slice none 0 0)
theorem AnsN.keep {lim : Int} {ns : List Nat} {w w' : World} {v : Value} (h : AnsN lim ns w v) (hb : Below w.heap.size w w') : AnsN lim ns w' v := by
  rcases h with ⟨a, b, c⟩ | h
  · exact .inl ⟨a, b, c.keep hb⟩
  · exact .inr h
def AnsS (lim : Int) (ss : List (List Nat)) (w : World) (v : Value) : Prop :=
  (wantS ss lim = 0 ∧ IsS w v ss) ∨ (wantS ss lim ≠ 0 ∧ v = .slice none 0 0)
theorem AnsS.keep {lim : Int} {ss : List (List Nat)} {w w' : World} {v : Value} (h : AnsS lim ss w v) (hb : Below w.heap.size w w') : AnsS lim ss w' v := by
  rcases h with ⟨a, c⟩ | h
  · exact .inl ⟨a, c.keep hb⟩
  · exact .inr h
theorem ndec_any (limit : Int) (v : Value) (ns : List Nat) (w : World) (hI : IsB w v (bytesN ns)) (hl : ns.length ≤ 200) (h64 : ∀ n ∈ ns, n < 18446744073709551616) :
    Calls Try.prog 13 #[.agg (lsN limit).toArray, v] w fun e w' => ∃ u, e = .returned (.tuple #[u, .int .i64 (wantN ns limit)]) ∧ AnsN limit ns w' u ∧ Below w.heap.size w w' := by
  have hbl := bytesN_length ns
  by_cases h : (ns.length : Int) ≤ limit
  · have e0 : wantN ns limit = 0 := by unfold wantN; rw [if_neg (by omega)]
    refine (ldec_ok v (bytesN ns) ns.length limit w hI (by omega) (by omega) h).mono ?_
    rintro e w' ⟨u, rfl, how, B⟩
    rw [pcs_bytesN ns h64] at how
    exact ⟨u, by rw [e0], .inl ⟨e0, h, isN_own how h64⟩, B⟩
  · have e0 : wantN ns limit = 3 := by unfold wantN; rw [if_pos (by omega)]
    refine (ldec_bad v (bytesN ns) limit w hI (by omega) (.inr ?_)).mono ?_
    · rw [hbl, Int.tdiv_eq_ediv_of_nonneg (by omega)]
      omega
    · rintro e w' ⟨rfl, B⟩
      exact ⟨_, by rw [e0], .inr ⟨e0, by omega, rfl⟩, B⟩
theorem tdec_any (limit : Int) (v : Value) (ss : List (List Nat)) (w : World) (hI : IsB w v (cont (partF ss))) (hl : ss.length ≤ 100) (hby : ∀ s ∈ ss, (∀ z ∈ s, z < 256) ∧ s.length ≤ 1000) (hlim : 0 ≤ limit ∧ limit ≤ 9223372036854775807) :
    Calls Try.prog 15 #[.agg (lsS limit).toArray, v] w fun e w' => ∃ u, e = .returned (.tuple #[u, .int .i64 (wantS ss limit)]) ∧ AnsS limit ss w' u ∧ Below w.heap.size w w' := by
  have h1 := lenF_part ss (fun s hs => (hby s hs).2)
  have h2 : lenF (partF ss) = lenB ss := lenB_F ss
  have h3 := joinB_length ss
  rw [← partF_join] at h3
  have hA := apart_texts ss (by omega) limit
  by_cases h : limit < (ss.length : Int)
  · rw [if_pos ⟨by omega, h⟩] at hA
    have e0 : wantS ss limit = 3 := by unfold wantS; rw [if_pos h]
    refine (sdec_bad v _ limit w hI (by omega) (by omega) hA).mono ?_
    rintro e w' ⟨rfl, B⟩
    exact ⟨_, by rw [e0], .inr ⟨by rw [e0]; decide, rfl⟩, B⟩
  · rw [if_neg (fun x => h x.2)] at hA
    refine (sdec_any v _ ss limit w hI (by omega) (by omega) hA (by omega)).mono ?_
    rintro e w' ⟨⟨hb, rfl⟩ | ⟨hb, u, rfl, how⟩, B⟩
    · have e0 : wantS ss limit = 47 := by unfold wantS; rw [if_neg h, if_pos (bang_yes hb)]
      exact ⟨_, by rw [e0], .inr ⟨by rw [e0]; decide, rfl⟩, B⟩
    · have e0 : wantS ss limit = 0 := by unfold wantS; rw [if_neg h, bang_no hb]; rfl
      exact ⟨_, by rw [e0], .inl ⟨e0, isS_own how hby⟩, B⟩
end Go.Proofs.Ytelgjencpafnnaa

