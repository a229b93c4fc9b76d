/- ssz's Join and Apart. -/
import Derived.Test.YtidkjpfdclkccaaParts
import Derived.Test.YtidkjpfdclkccaaAwake4
namespace Go.Proofs.Ytidkjpfdclkccaa
open Go.RowKit Go.Shelf
set_option linter.unusedVariables false
set_option maxRecDepth 100000

/-- The places that stand from t on. -/
def placeAt (bs : List Nat) (t j : Nat) : Nat := tk ((bs.drop (t + 4 * j)).take 4)
def places (bs : List Nat) (t k : Nat) : List Nat := (List.range k).map (placeAt bs t)
theorem places_length (bs : List Nat) (t k : Nat) : (places bs t k).length = k := by simp [places]
theorem places_succ (bs : List Nat) (t k : Nat) : places bs t (k + 1) = places bs t k ++ [placeAt bs t k] := by simp [places, List.range_succ]
theorem places_getD (bs : List Nat) (t k j : Nat) (h : j < k) : (places bs t k).getD j 0 = placeAt bs t j := by simp [places, List.getD_eq_getElem?_getD, h]
/-- Each place may follow those ahead. -/
def goodB (bs : List Nat) (size t k : Nat) : Bool := (List.range k).all fun j => folB bs size (places bs t j) (placeAt bs t j)
theorem goodB_succ (bs : List Nat) (size t k : Nat) : goodB bs size t (k + 1) = (goodB bs size t k && folB bs size (places bs t k) (placeAt bs t k)) := by simp [goodB, List.range_succ]
theorem folB_nil (bs : List Nat) (size p : Nat) : folB bs size [] p = decide (p = size) := rfl
theorem folB_snoc (bs : List Nat) (size : Nat) (ps : List Nat) (l p : Nat) : folB bs size (ps ++ [l]) p = (decide (l ≤ p) && decide (p ≤ bs.length)) := by simp [folB]
theorem goodB_spec {bs : List Nat} {size t k : Nat} (h : goodB bs size t k = true) : ∀ j, j < k → folB bs size (places bs t j) (placeAt bs t j) = true := by
  simpa [goodB] using h
theorem good_first {bs : List Nat} {size t k : Nat} (h : goodB bs size t k = true) (h0 : 0 < k) : placeAt bs t 0 = size := by
  have := goodB_spec h 0 h0
  simpa [places, folB_nil] using this
theorem good_next {bs : List Nat} {size t k : Nat} (h : goodB bs size t k = true) (j : Nat) (hj : j + 1 < k) : placeAt bs t j ≤ placeAt bs t (j + 1) ∧ placeAt bs t (j + 1) ≤ bs.length := by
  have := goodB_spec h (j + 1) hj
  rw [places_succ, folB_snoc] at this
  simpa using this
theorem good_cuts {bs : List Nat} {size t k : Nat} (h : goodB bs size t k = true) (hs : size ≤ bs.length) : Cuts bs (places bs t k) := by
  intro i hi
  rw [places_length] at hi
  have hle : placeAt bs t i ≤ bs.length := by
    cases i with
    | zero => rw [good_first h hi]; exact hs
    | succ i => exact (good_next h i hi).2
  unfold toI
  rw [places_length, places_getD bs t k i hi]
  by_cases h1 : i + 1 < k
  · rw [if_pos h1, places_getD bs t k (i + 1) h1]
    exact good_next h i h1
  · rw [if_neg h1]
    exact ⟨hle, Nat.le_refl _⟩
/-- A Reader's state behind k Parts: where all is well so far, the places; else something is wrong. -/
structure After (w : World) (g : Nat) (bs : List Nat) (size t k : Nat) : Prop where
  ex : ∃ S taken ps wrong, Rd w g S bs size taken ps wrong ∧ ps.length ≤ k ∧ (goodB bs size t k = true → taken = t + 4 * k ∧ ps = places bs t k ∧ wrong = false) ∧ (goodB bs size t k = false → wrong = true)

theorem After.step {w : World} {g : Nat} {bs : List Nat} {size t k : Nat} (h : After w g bs size t k) (hs : size ≤ 4611686018427387904) (hl : bs.length ≤ 140737488355328) (hk : k < 2147483647) (ht : t + 4 * k + 4 ≤ size) :
    Calls Try.prog 22 #[.pointer (some ⟨g, 0, none⟩)] w fun e w' => (∃ u, e = .returned u) ∧ After w' g bs size t (k + 1) ∧ w.grownBy w' (some g) := by
  obtain ⟨S, taken, ps, wrong, hR, hpl, h1, h2⟩ := h
  refine (rpart_any w hR hs hl (by omega)).mono ?_
  rintro e w' ⟨hu, hR', hG⟩
  refine ⟨hu, ⟨_, _, _, _, hR', ?_, ?_, ?_⟩, hG⟩
  · unfold partS
    split
    · omega
    · rw [List.length_append]; simp; omega
  · intro hg
    rw [goodB_succ, Bool.and_eq_true] at hg
    obtain ⟨e1, rfl, rfl⟩ := h1 hg.1
    have hw : fixW size taken 4 false = false := by simp [fixW]; omega
    have hp : partP bs size taken false = placeAt bs t k := by rw [partP, fixB, hw, e1]; rfl
    have hW : partW bs size taken (places bs t k) false = false := by rw [partW, hw, hp, hg.2]; rfl
    refine ⟨by rw [fixT, hw]; simp; omega, by rw [partS, hW, hp, places_succ]; rfl, hW⟩
  · intro hg
    rw [goodB_succ, Bool.and_eq_false_iff] at hg
    rcases hg with hg | hg
    · rw [h2 hg, partW, fixW, Bool.true_or, Bool.true_or]
    · by_cases hgk : goodB bs size t k = true
      · obtain ⟨e1, rfl, rfl⟩ := h1 hgk
        have hw : fixW size taken 4 false = false := by simp [fixW]; omega
        have hp : partP bs size taken false = placeAt bs t k := by rw [partP, fixB, hw, e1]; rfl
        rw [partW, hw, hp, hg]; rfl
      · rw [Bool.not_eq_true] at hgk
        rw [h2 hgk, partW, fixW, Bool.true_or, Bool.true_or]
theorem After.below {w w' : World} {g : Nat} {bs : List Nat} {size t k : Nat} (h : After w g bs size t k) (hb : Below w.heap.size w w') : After w' g bs size t k := by
  obtain ⟨S, taken, ps, wrong, hR, r⟩ := h
  exact ⟨S, taken, ps, wrong, hR.below hb, r⟩

/-- What parts are joined to. -/
def joinB (bss : List (List Nat)) : List Nat := cont (bss.map fun b => (b, true))
def lenB (bss : List (List Nat)) : Nat := (bss.map List.length).sum
theorem lenB_F (bss : List (List Nat)) : lenF (bss.map fun b => (b, true)) = lenB bss := by
  unfold lenF lenB
  rw [List.map_map]; rfl
theorem lenB_take (bss : List (List Nat)) (k : Nat) : lenB (bss.take k) ≤ lenB bss := by
  have := lenF_take (bss.map fun b => (b, true)) k
  rw [← List.map_take, lenB_F, lenB_F] at this
  exact this
theorem lenB_mem {bss : List (List Nat)} {i : Nat} {x : List Nat} (h : bss[i]? = some x) : x.length ≤ lenB bss := by
  have h1 := lenB_take bss (i + 1)
  have hi := (List.getElem?_eq_some_iff.1 h).1
  rw [List.take_succ_eq_append_getElem hi] at h1
  rw [List.getElem?_eq_getElem hi] at h
  cases h
  have e : ∀ (a : List (List Nat)) (b : List Nat), lenB (a ++ [b]) = lenB a + b.length := fun a b => by simp [lenB]
  rw [e] at h1
  omega

set_option maxHeartbeats 1000000 in
theorem join_any (v : Value) (bss : List (List Nat)) (w : World) (hB : IsBs w v bss) (hn : bss.length < 2147483647) (hl : lenB bss ≤ 1099511627776) :
    Calls Try.prog 28 #[v] w fun e w' => ∃ u, e = .returned u ∧ Row w' w.heap.size u (joinB bss) ∧ Below w.heap.size w w' := by
  obtain ⟨ao, cap, rfl, h1, h2, h3, h4⟩ := hB
  go_enter Try.func28, Try.ntmps28
  go_wp2
  have B0 : Below w.heap.size w (w.alloc (.cells #[.int .i64 0, .pointer none] 29)) := (Below.refl _ w).alloc (Nat.le_refl _) _
  have W0 := wr_new w
  go_loopw [5, 8] (fun _ i wr => ∃ k : Nat, k ≤ bss.length ∧ i = .int .i64 k ∧ (∃ S, Wr wr w.heap.size S ((bss.take k).map fun b => (b, true))) ∧ Below w.heap.size w wr) (fun _ i _ => bss.length - (intOf i).toNat)
  case atStart => exact ⟨0, Nat.zero_le _, rfl, ⟨_, W0⟩, B0⟩
  case round =>
    clear B0 W0
    obtain ⟨k, hk, rfl, ⟨S, hW⟩, hBw⟩ := hrel
    by_cases hlt : k < bss.length
    · obtain ⟨b, off, rfl, hcc⟩ : ∃ b off, ao = some ⟨b, off, none⟩ ∧ ∀ i x, bss[i]? = some x → ∃ u, w.cell? ⟨b, off + i, none⟩ = some u ∧ IsB w u x := by
        rcases h4 with h4 | h4
        · omega
        · exact h4
      have hx := List.getElem?_eq_getElem hlt
      obtain ⟨u, hu, hIs⟩ := hcc k _ hx
      have hcr := (hBw.cell (p := ⟨b, off + k, none⟩) (block_lt_of_cell hu)).trans hu
      have hIsr := hIs.keep hBw
      have hxl := lenB_mem hx
      have HT : Same ((bss.take (k + 1)).map fun b => (b, true)) (((bss.take k).map fun b => (b, true)) ++ [(bss[k], true)]) := ⟨by
        rw [List.take_succ_eq_append_getElem hlt, List.map_append]; rfl⟩
      have HP := hid (part_wr w.heap.size S _ u bss[k] wr hW hIsr (by rw [List.length_map, List.length_take]; omega) (by omega))
      have HBw := hid hBw
      clear hW hBw hIs hIsr hxl hx hcc
      go_wp2_with fail
      refine HP.out.mono ?_
      rintro e w2 ⟨⟨u2, rfl⟩, r1, r2⟩
      have Y := hid (And.intro r1 (HBw.out.grown r2 HBw.out.size (fun j e => by cases e; exact Nat.le_refl _)))
      clear r1 r2 HP
      go_wp2
      go_roundw
      case rel => exact ⟨k + 1, by omega, by go_num, ⟨_, by rw [HT.out]; exact Y.out.1⟩, Y.out.2⟩
      case measure => simp [intOf]; omega
    · obtain rfl : k = bss.length := by omega
      rw [List.take_length] at hW
      have HP := hid (bytes_any w.heap.size S _ wr hW (by rw [List.length_map]; omega) (by rw [lenB_F]; exact hl))
      have HBw := hid hBw
      clear hW hBw
      go_wp2_with fail
      refine HP.out.mono ?_
      rintro e w2 ⟨u2, rfl, r1, r2⟩
      have Y := hid (And.intro (r1.base HBw.out.size) (below_more HBw.out r2 (Nat.le_refl _)))
      clear r1 r2 HP
      go_wp2
      go_ret
      exact ⟨_, rfl, Y.out.1, Y.out.2⟩

/-- What Apart answers. -/
def apartO (bs : List Nat) (limit : Int) : Option (List (List Nat)) :=
  if bs.length = 0 then some []
  else
    let size := tk (bs.take 4)
    if size % 4 ≠ 0 ∨ bs.length < size ∨ limit < ((size / 4 : Nat) : Int) ∨ size = 0 then none
    else if goodB bs size 0 (size / 4) then some (cutL bs (places bs 0 (size / 4))) else none

theorem tk_four (bs : List Nat) (h : ∀ z ∈ bs, z < 256) : tk (bs.take 4) < 4294967296 := by
  unfold tk takeV
  have h1 := takeL_lt (((bs.take 4).map fun n : Nat => (n : Int)).take 8) (fun x hx => by obtain ⟨n, hn, rfl⟩ := List.mem_map.1 (List.mem_of_mem_take hx); have := h n (List.mem_of_mem_take hn); omega)
  have h2 : (((bs.take 4).map fun n : Nat => (n : Int)).take 8).length ≤ 4 := by simp; omega
  have h3 : 256 ^ (((bs.take 4).map fun n : Nat => (n : Int)).take 8).length ≤ 256 ^ 4 := Nat.pow_le_pow_right (by decide) h2
  have h4 : (256 : Nat) ^ 4 = 4294967296 := by decide
  omega

set_option maxHeartbeats 2000000 in
theorem apart_any (v : Value) (bs : List Nat) (limit : Int) (w : World) (hB : IsB w v bs) (hl : bs.length ≤ 140737488355328) (hlim : -9223372036854775808 ≤ limit ∧ limit ≤ 9223372036854775807) :
    Calls Try.prog 29 #[v, .int .i64 limit] w fun e w' =>
      ((∃ bss u, apartO bs limit = some bss ∧ e = .returned (.tuple #[u, .int .i64 0]) ∧ IsBs w' u bss) ∨ (apartO bs limit = none ∧ e = .returned (.tuple #[.slice none 0 0, .int .i64 3]))) ∧ Below w.heap.size w w' := by
  have hB' := hB
  obtain ⟨⟨ao, cap, rfl, hcap, hcm, hnil, hR⟩, h8⟩ := hB
  by_cases h0 : bs.length = 0
  · have h0' : (((bs.length : Nat) : Int) == 0) = true := by rw [beq_iff_eq]; omega
    go_enter Try.func29, Try.ntmps29
    go_wp2
    go_ret2
    exact ⟨.inl ⟨[], _, by simp [apartO, h0], rfl, ⟨none, 0, rfl, by decide, by decide, fun _ => rfl, .inl rfl⟩⟩, Below.refl _ _⟩
  · have h0' : (((bs.length : Nat) : Int) == 0) = false := by rw [beq_eq_false_iff_ne]; omega
    have hts := tk_four bs h8
    have hI4 : IsB w (.slice ao (min bs.length 4) cap) (bs.take 4) := by
      refine ⟨⟨ao, cap, by simp [Nat.min_comm], by simp; omega, hcm, hnil, ?_⟩, fun z hz => h8 z (List.mem_of_mem_take hz)⟩
      rcases hR with h | ⟨b, off, rfl, hc⟩
      · exact absurd h h0
      · refine .inr ⟨b, off, rfl, fun i hi => ?_⟩
        simp at hi
        rw [hc i (by omega), List.getD_eq_getElem?_getD, List.getD_eq_getElem?_getD, List.getElem?_take, if_pos (by omega)]
    have hI5 : bs.length ≤ 4 → IsB w (.slice ao bs.length cap) (bs.take 4) := fun h => by rw [Nat.min_eq_left h] at hI4; exact hI4
    have hI6 : ¬ bs.length ≤ 4 → IsB w (.slice ao 4 cap) (bs.take 4) := fun h => by rw [Nat.min_eq_right (by omega)] at hI4; exact hI4
    have HA : Hid (∀ sz, tk (bs.take 4) = sz → apartO bs limit = if sz % 4 ≠ 0 ∨ bs.length < sz ∨ limit < ((sz / 4 : Nat) : Int) ∨ sz = 0 then none else if goodB bs sz 0 (sz / 4) then some (cutL bs (places bs 0 (sz / 4))) else none) := by
      rintro sz rfl
      simp only [apartO, if_neg h0]
    obtain ⟨sz, hsz⟩ : ∃ sz, tk (bs.take 4) = sz := ⟨_, rfl⟩
    rw [hsz] at hts
    have HA2 := hid (HA.out sz hsz)
    have HB := hid hB'
    have HSZ := hid hsz
    clear HA hR hI4 hB'
    by_cases hm : bs.length ≤ 4
    all_goals
      by_cases c1 : sz % 4 = 0
      · have c1' : ((sz : Int) % 4 != 0) = false := by simp; omega
        by_cases c2 : bs.length < sz
        · have c2' : (bs.length : Int) < (sz : Int) := by omega
          clear hsz
          go_enter Try.func29, Try.ntmps29
          go_wp2_with fail
          refine (take_isB _ (bs.take 4) _ (by first | exact hI5 hm | exact hI6 hm)).mono ?_
          rintro e w1 ⟨rfl, rfl⟩
          rw [HSZ.out]
          go_wp2
          go_ret2
          rw [HA2.out, if_pos (.inr (.inl c2))]
          exact ⟨.inr ⟨rfl, rfl⟩, Below.refl _ _⟩
        · have c2' : ¬ (bs.length : Int) < (sz : Int) := by omega
          by_cases c3 : limit < ((sz / 4 : Nat) : Int)
          · have c3' : limit < (sz : Int) / 4 := by omega
            clear hsz
            go_enter Try.func29, Try.ntmps29
            go_wp2_with fail
            refine (take_isB _ (bs.take 4) _ (by first | exact hI5 hm | exact hI6 hm)).mono ?_
            rintro e w1 ⟨rfl, rfl⟩
            rw [HSZ.out]
            go_wp2
            go_ret2
            rw [HA2.out, if_pos (.inr (.inr (.inl c3)))]
            exact ⟨.inr ⟨rfl, rfl⟩, Below.refl _ _⟩
          · have c3' : ¬ limit < (sz : Int) / 4 := by omega
            obtain ⟨ct, hct⟩ : ∃ ct, sz / 4 = ct := ⟨_, rfl⟩
            have hct' : (sz : Int) / 4 = (ct : Int) := by omega
            rw [hct] at HA2
            have HC := hid hct
            have HC' := hid hct'
            clear hct hct' c3 hsz
            go_enter Try.func29, Try.ntmps29
            go_wp2_with fail
            refine (take_isB _ (bs.take 4) _ (by first | exact hI5 hm | exact hI6 hm)).mono ?_
            rintro e w1 ⟨rfl, rfl⟩
            rw [HSZ.out]
            go_wp2_with fail
            refine (read_any _ bs sz _ HB.out (by omega) hl).mono ?_
            rintro e w2 ⟨g, S, hg, rfl, hRd, _, B2⟩
            have hw : decide (bs.length < sz) = false := by simp; omega
            rw [hw] at hRd
            have Y := hid (And.intro hRd B2)
            clear hRd B2 hw
            go_wp2_with fail
            rw [HC'.out]
            have hcb := HC.out
            clear c1' c2' c3'
            go_loopw [41] (fun i wr => ∃ k : Nat, k ≤ ct ∧ i = .int .i64 k ∧ After wr g bs sz 0 k ∧ Below w1.heap.size w1 wr) (fun i _ => ct - (intOf i).toNat)
            case atStart => exact ⟨0, Nat.zero_le _, rfl, ⟨S, 0, [], false, Y.out.1, Nat.le_refl _, fun _ => ⟨rfl, rfl, rfl⟩, fun h => by simp [goodB] at h⟩, Y.out.2⟩
            case round =>
              obtain ⟨k, hk, rfl, hAf, hBw⟩ := hrel
              have HAf := hid hAf
              have HBw := hid hBw
              clear hAf hBw
              by_cases hlt : k < ct
              · go_wp2_with fail
                refine (HAf.out.step (by omega) hl (by omega) (by omega)).mono ?_
                rintro e w3 ⟨⟨u3, rfl⟩, r1, r2⟩
                have Z := hid (And.intro r1 (HBw.out.grown r2 HBw.out.size (fun j e => by cases e; exact hg)))
                clear r1 r2
                go_wp2
                go_roundw
                case rel => exact ⟨k + 1, by omega, by go_num, Z.out.1, Z.out.2⟩
                case measure => simp [intOf]; omega
              · obtain rfl : k = ct := by omega
                obtain ⟨S3, tkn, ps, wrong, hR3, hpl, q1, q2⟩ := HAf.out.ex
                by_cases hsz0 : sz = 0
                · obtain rfl : k = 0 := by omega
                  obtain ⟨rfl, rfl, rfl⟩ := q1 rfl
                  have HPp := hid (parts_bad wr hR3 (.inr (.inr ⟨rfl, by omega⟩)) (by omega) hl (by simp [places_length]))
                  clear hR3 q2 q1
                  go_wp2_with fail
                  refine HPp.out.mono ?_
                  rintro e w4 ⟨rfl, n4, rfl⟩
                  go_wp2
                  go_ret2
                  rw [HA2.out, if_pos (.inr (.inr (.inr hsz0)))]
                  exact ⟨.inr ⟨rfl, rfl⟩, ⟨HBw.out.os, HBw.out.tape, HBw.out.output, HBw.out.size, HBw.out.block⟩⟩
                · have hif : ¬ (sz % 4 ≠ 0 ∨ bs.length < sz ∨ limit < ((k : Nat) : Int) ∨ sz = 0) := by omega
                  cases hgd : goodB bs sz 0 k
                  · obtain rfl := q2 hgd
                    have HPp := hid (parts_bad wr hR3 (.inl rfl) (by omega) hl (by omega))
                    have HG := hid hgd
                    clear hR3 q2 q1 hgd
                    go_wp2_with fail
                    refine HPp.out.mono ?_
                    rintro e w4 ⟨rfl, n4, rfl⟩
                    go_wp2
                    go_ret2
                    rw [HA2.out, if_neg hif, HG.out]
                    exact ⟨.inr ⟨rfl, rfl⟩, ⟨HBw.out.os, HBw.out.tape, HBw.out.output, HBw.out.size, HBw.out.block⟩⟩
                  · obtain ⟨e1, rfl, rfl⟩ := q1 hgd
                    obtain rfl : tkn = sz := by omega
                    have HPp := hid (parts_ok wr hR3 (fun e => absurd (congrArg List.length e) (by rw [places_length]; simp; omega)) (good_cuts hgd (by omega)) (by omega) hl (by rw [places_length]; omega))
                    have HG := hid hgd
                    clear hR3 q2 q1 hgd e1
                    go_wp2_with fail
                    refine HPp.out.mono ?_
                    rintro e w4 ⟨u4, rfl, r1, r2⟩
                    have Z := hid (And.intro r1 (below_more HBw.out r2 (Nat.le_refl _)))
                    clear r1 r2
                    go_wp2
                    go_ret2
                    rw [HA2.out, if_neg hif, HG.out]
                    exact ⟨.inl ⟨_, _, rfl, rfl, Z.out.1⟩, Z.out.2⟩
      · have c1' : ((sz : Int) % 4 != 0) = true := by rw [bne_iff_ne]; omega
        clear hsz
        go_enter Try.func29, Try.ntmps29
        go_wp2_with fail
        refine (take_isB _ (bs.take 4) _ (by first | exact hI5 hm | exact hI6 hm)).mono ?_
        rintro e w1 ⟨rfl, rfl⟩
        rw [HSZ.out]
        go_wp2
        go_ret2
        rw [HA2.out, if_pos (.inl c1)]
        exact ⟨.inr ⟨rfl, rfl⟩, Below.refl _ _⟩
end Go.Proofs.Ytidkjpfdclkccaa
