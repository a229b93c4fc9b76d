/- Own texts of the proof, joined: LisP DecP JoinBk FlowM PartsW OpenB. -/
import Derived.Test.YtckmdofmplkdfaaH1
import Derived.ProofKit
import Derived.OpenShut
import Derived.ShutString
import Derived.ChangeOld
import Derived.Deep.Slices
import Derived.SizedLaws
/- The document's Decode of a list of parts: list. -/
namespace Go.Proofs.Ytckmdofmplkdfaa
open Go.RowKit Go.Shelf
set_option linter.unusedVariables false
set_option linter.unusedSimpArgs false
set_option maxRecDepth 100000

theorem SizeOf.keep {w w' : World} {p : Nat} {s : Int} (h : SizeOf w p s) (hb : Below w.heap.size w w') : SizeOf w' p s := fun wq h2 => h wq (below_more hb h2 (Nat.le_refl _))
theorem EltOf.keep {w w' : World} {p : Nat} {C : List Nat → Prop} (h : EltOf w p C) (hb : Below w.heap.size w w') : EltOf w' p C := fun u xb wq h2 => h u xb wq (below_more hb h2 (Nat.le_refl _))
theorem ptrInfo : (Try.prog.info? 30).map (fun i => (i.zero, i.size, i.bytes)) = some (some (.pointer none), 1, 8) := by kernel_rfl
/-- A row of the same pointer. -/
abbrev RowPt (w : World) (base : Nat) (v : Value) (p n : Nat) : Prop := w.ownsRow base 30 1 v n (List.replicate n (.pointer (some ⟨p, 0, none⟩)))
theorem wpList_append_pt {w : World} {ops : Array Oper} {rest : List Oper} {o : Oper} {a : Act} {Q : Exit → Act → World → Prop} (hgd : o.guard = none) (s x : Operand) (ho : o.op = .call { callee := .builtin .append, args := #[s, x], argTypes := #[31, 31] })
    (base : Nat) (v : Value) (p n : Nat) (hs : a.eval s = v) (hown : RowPt w base v p n) (b : Nat) (hx : a.eval x = .slice (some ⟨b, 0, none⟩) 1 1) (hc : w.cell? ⟨b, 0, none⟩ = some (.pointer (some ⟨p, 0, none⟩))) (hn : n ≤ 1000000) (hbase : base ≤ w.heap.size)
    (h : ∀ v' w', RowPt w' base v' p (n + 1) → w.grownBy w' v.ownBlock → wpList Try.prog ops Q rest (a.put o.dst v') w') : wpList Try.prog ops Q (o :: rest) a w := by
  obtain ⟨i0, hi, hz0, hz1, hz2⟩ : ∃ i, Try.prog.info? 30 = some i ∧ i.zero = some (.pointer none) ∧ i.size = 1 ∧ i.bytes = 8 := by
    have h0 := ptrInfo
    cases hq : Try.prog.info? 30 with
    | none => rw [hq] at h0; cases h0
    | some i => rw [hq] at h0; simp only [Option.map_some, Option.some.injEq, Prod.mk.injEq] at h0; exact ⟨i, rfl, h0.1, h0.2.1, h0.2.2⟩
  refine wpList_append_own _ hgd s x 31 ho base 30 i0 _ 1 8 Try.underlying31 hi hz0 hz1 hz2 rfl (by decide) v n _ hs hown ⟨b, 0, none⟩ 1 1 [.pointer (some ⟨p, 0, none⟩)] hx rfl ?_ ?_ (by unfold maxLen; omega) (by omega) hbase (fun v' w' h1 h2 _ => h v' w' ?_ h2)
  · intro j u hj
    match j, hj with
    | 0, hj => simp at hj; subst hj; simpa [Addr.add] using hc
  · intro u hu; simp at hu; subst hu; rfl
  · rw [← List.replicate_succ'] at h1
    exact h1
theorem RowPt.form {w : World} {base p n : Nat} {v : Value} (h : RowPt w base v p n) (h0 : 0 < n) : ∃ g cap, v = .slice (some ⟨g, 0, none⟩) n cap ∧ n ≤ cap ∧ cap ≤ maxLen ∧ ∀ i, i < n → w.cell? ⟨g, 0 + i, none⟩ = some (.pointer (some ⟨p, 0, none⟩)) := by
  obtain ⟨_, h⟩ := h
  rcases h with ⟨rfl, h1⟩ | ⟨g, cap, cur, rfl, hb, hg, hc, hm, hcs, htk⟩
  · omega
  · refine ⟨g, cap, rfl, hc, hm, fun i hi => ?_⟩
    rw [Nat.zero_add, cell_of_row w g i _ _ (0, 0) hg, ← Array.getElem?_toList]
    have : (cur.toList.take (n * 1))[i]? = (List.replicate n (Value.pointer (some ⟨p, 0, none⟩)))[i]? := by rw [htk]
    rw [List.getElem?_take, if_pos (by omega)] at this
    rw [this, List.getElem?_replicate, if_pos hi]
theorem SerR.cast {g g' : Bool} {k k' : Nat} {w w' : World} {e : Ending} (h : SerR g k w e w') (hg : g = g') (hk : g = true → k = k') : SerR g' k' w e w' := by
  subst hg
  obtain ⟨u, h1, ⟨a, cp, h2⟩, h3⟩ := h
  refine ⟨u, h1, ⟨a, cp, ?_⟩, h3⟩
  cases g with
  | false => exact h2
  | true => rw [← hk rfl]; exact h2

set_option maxHeartbeats 4000000 in
theorem list_one (d g1 o1 c1 p : Nat) (N : Int) (v : Value) (bs : List Nat) (w : World) (hB : IsB w v bs) (hl : bs.length ≤ 100000) (hN : ((bs.length : Nat) : Int) ≤ N)
    (hd1 : w.cell? ⟨d, 1, none⟩ = some (.int .i64 N)) (hd2 : w.cell? ⟨d, 2, none⟩ = some (.slice (some ⟨g1, o1, none⟩) 1 c1)) (hd3 : w.cell? ⟨g1, o1, none⟩ = some (.pointer (some ⟨p, 0, none⟩)))
    (hS : SizeOf w p 1) (hE : EltOf w p fun xb => xb.length = 1) :
    Calls Try.prog 22 #[.pointer (some ⟨d, 0, none⟩), v] w fun e w' => SerR true bs.length w e w' := by
  have HB := hid hB
  have HS := hid hS
  have HE := hid hE
  have HD := hid (And.intro hd1 (And.intro hd2 hd3))
  obtain ⟨⟨ao, cap, rfl, hcap, hmx, hnil, hR⟩, h8⟩ := hB
  clear hS hE hd1 hd2 hd3 hnil hR h8
  obtain ⟨r, hr⟩ : ∃ r, bs.length = r := ⟨_, rfl⟩
  rw [hr] at hcap hl hN ⊢
  have HR := hid hr
  have HBR : Hid (IsB w (.slice ao r cap) bs) := hid (by have := HB.out; rwa [hr] at this)
  clear hr HB
  by_cases h0 : r = 0
  · subst h0
    go_enter Try.func22, Try.ntmps22
    go_wp2_with ((with_reducible refine at_list' ?_); first
      | (refine wpList_alloc_c Try.ty39 rfl 4 rfl rfl ?_; intro w1 H1 B1 S1)
      | (refine wpList_build_c rfl _ rfl #[] (by simp) _ (build_none _) ?_)
      | (refine wpList_store_c Try.ty39 rfl (.tmp 4) (.tmp 14) rfl w.heap.size (valL 0 (zeros 32) nilS nilS) rfl rfl rfl (valL_oneC _ _ _ _ trivial trivial) _ H1 rfl ?_; intro w9 H9 O9))
    refine bodyPost_ret (results_c Try.ty39 rfl _ w9 w.heap.size _ _ rfl rfl H9 rfl) rfl ?_
    exact SerR.yes rfl ⟨none, 0, rfl⟩ (below_only B1 O9 (Nat.le_refl _))
  · have hr0 : 0 < r := by omega
    have hne : ¬ ((r : Int) = 0) := by omega
    clear h0
    go_enter Try.func22, Try.ntmps22
    go_wp2_with ((with_reducible refine at_list' ?_); first
      | (refine wpList_alloc_c Try.ty39 rfl 4 rfl rfl ?_; intro w1 H1 B1 S1; have e1 := cell_keep B1 HD.out.1; have e2 := cell_keep B1 HD.out.2.1; have e3 := cell_keep B1 HD.out.2.2))
    have HS1 := hid (HS.out.keep B1)
    have HE1 := hid (HE.out.keep B1)
    have HX := hid (And.intro H1 B1)
    clear H1 B1 S1 HS HE
    refine (HS1.out w1 (Below.refl _ _)).mono ?_
    rintro e w1 ⟨rfl, rfl⟩
    go_wp2
    go_loopw [9, 10] (fun kv i wr => ∃ t : Nat, t ≤ r ∧ i = .int .i64 t ∧ RowPt wr w1.heap.size kv p t ∧ Below w1.heap.size w1 wr) (fun _ i _ => r - (intOf i).toNat)
    case atStart => exact ⟨0, Nat.zero_le _, rfl, World.ownsRow_nil _ _ _ _, Below.refl _ _⟩
    case round =>
      obtain ⟨t, ht, rfl, how, hbe⟩ := hrel
      by_cases hlt : t < r
      · have hbw := below_more HX.out.2 hbe (Nat.le_refl _)
        have f2 := cell_keep hbw HD.out.2.1
        have f3 := cell_keep hbw HD.out.2.2
        obtain ⟨ta, tn, tc, rfl⟩ := own_slice how
        have B2 : Below wr.heap.size wr (wr.alloc (.cells #[.pointer (some ⟨p, 0, none⟩)] 30)) := (Below.refl _ _).alloc (Nat.le_refl _) _
        have hcn := heap_alloc_new wr (.cells #[.pointer (some ⟨p, 0, none⟩)] 30)
        have HD2 := hid (And.intro (own_keep how B2) (And.intro (cell_of_row _ wr.heap.size 0 _ _ (0, 0) hcn) (And.intro (below_more hbe B2 (Nat.le_refl _)) (Nat.le_trans hbe.size B2.size))))
        clear B2 hcn how hbe hbw
        go_wp2_with ((with_reducible refine at_list' ?_); first
          | (refine wpList_append_pt rfl (.tmp 71) (.tmp 78) rfl w1.heap.size (.slice ta tn tc) p t rfl HD2.out.1 wr.heap.size rfl HD2.out.2.1 (by omega) HD2.out.2.2.2 ?_; intro v' w4 r1 r2; have hbz := below_grownR HD2.out.2.2.1 HD2.out.1 (Nat.le_refl _) r2))
        exact ⟨⟨t + 1, by omega, by go_num, r1, hbz⟩, by simp [intOf]; omega⟩
      · obtain rfl : t = r := by omega
        clear hlt ht
        obtain ⟨kg, kc, rfl, hkc, hkm, hkc2⟩ := RowPt.form how hr0
        have HY := hid (And.intro (HX.out.1.keep hbe) (below_more HX.out.2 hbe (Nat.le_refl _)))
        have hS2 := HS1.out.keep hbe
        have hE2 := HE1.out.keep hbe
        clear how HS1 HE1
        have hIB := HBR.out.keep HY.out.2
        go_wp2_with fail
        have HSER := hid (series_one kg 0 kc p (.slice ao t cap) bs wr (by rw [HR.out]; exact hr0) (by rw [HR.out]; exact hkc) hkm (by rw [HR.out]; exact hkc2) hIB (by rw [HR.out]; exact hl) hS2 hE2)
        have hse := HSER.out
        rw [HR.out] at hse
        refine hse.mono ?_
        rintro e w8 ⟨u, rfl, ⟨ua, uc, rfl⟩, B8⟩
        obtain ⟨un, hun⟩ : ∃ un, (if true = true then t else 0) = un := ⟨_, rfl⟩
        have HUN := hid hun
        rw [hun]
        have HZ := hid (And.intro (HY.out.1.keep B8) (below_more HY.out.2 B8 (Nat.le_refl _)))
        clear B8 hun hS2 hE2 hkc2 hbe
        go_wp2_with ((with_reducible refine at_list' ?_); first
          | (refine wpList_store_c Try.ty39 rfl (.tmp 4) (.tmp 83) rfl w.heap.size (valL 0 (zeros 32) nilS (.slice ua un uc)) rfl rfl (by rw [valL_length _ _ _ _ zeros32, valL_length _ _ _ _ zeros32]) (valL_oneC _ _ _ _ trivial trivial) _ HZ.out.1 rfl ?_; intro w9 H9 O9))
        refine bodyPost_ret (results_c Try.ty39 rfl _ w9 w.heap.size _ _ rfl rfl H9 (by rw [valL_length _ _ _ _ zeros32, valL_length _ _ _ _ zeros32])) rfl ?_
        exact ⟨_, rfl, ⟨ua, uc, by simp [← HUN.out]⟩, below_only HZ.out.2 O9 (Nat.le_refl _)⟩
/-- What is taken apart: too few bytes for a place. -/
theorem apart_small (bs : List Nat) (N : Int) (h0 : bs.length ≠ 0) (h : bs.length < 4) : apartO bs N = none := by
  unfold apartO
  rw [if_neg h0]
  simp only
  rw [if_pos (by omega)]
theorem apart_none (bs : List Nat) (N : Int) (z : Nat) (hz : tk (bs.take 4) = z) (h0 : bs.length ≠ 0) (h : z % 4 ≠ 0 ∨ bs.length < z ∨ N < ((z / 4 : Nat) : Int) ∨ z = 0) : apartO bs N = none := by
  unfold apartO
  rw [if_neg h0]
  simp only [hz]
  rw [if_pos h]
theorem apart_good (bs : List Nat) (N : Int) (k : Nat) (hz : tk (bs.take 4) = 4 * k) (h0 : 0 < k) (hl : 4 * k ≤ bs.length) (hN : (k : Int) ≤ N) : (apartO bs N).isSome = upB2 (atL bs 0 k) (k + 1) ∧ (upB2 (atL bs 0 k) (k + 1) = true → ((apartO bs N).getD []).length = k) := by
  have h1 : apartO bs N = if goodB bs (4 * k) 0 k then some (cutL bs (places bs 0 k)) else none := by
    unfold apartO
    rw [if_neg (by omega)]
    simp only [hz]
    rw [show 4 * k / 4 = k by omega, if_neg (by omega)]
  have ha : (atL bs 0 k).getD 0 0 = 4 * k := by rw [atL_getD bs 0 k 0 h0]; unfold placeAt; rw [show 0 + 4 * 0 = 0 from rfl, List.drop_zero, hz]
  have h2 : goodB bs (4 * k) 0 k = upB2 (atL bs 0 k) (k + 1) := by rw [good_iff bs (4 * k) 0 k h0 hl, ha]; simp
  rw [h1, h2]
  cases hg : upB2 (atL bs 0 k) (k + 1) with
  | false => exact ⟨rfl, fun h => by cases h⟩
  | true => exact ⟨rfl, fun _ => by simp [cutL, places_length]⟩
set_option maxHeartbeats 4000000 in
theorem list_far (d g1 o1 c1 p : Nat) (N : Int) (v : Value) (bs : List Nat) (w : World) (hB : IsB w v bs) (hl : bs.length ≤ 100000) (hN : -9223372036854775808 ≤ N ∧ N ≤ 9223372036854775807)
    (hd1 : w.cell? ⟨d, 1, none⟩ = some (.int .i64 N)) (hd2 : w.cell? ⟨d, 2, none⟩ = some (.slice (some ⟨g1, o1, none⟩) 1 c1)) (hd3 : w.cell? ⟨g1, o1, none⟩ = some (.pointer (some ⟨p, 0, none⟩)))
    (hS : SizeOf w p (-1)) (hE : EltOf w p fun xb => xb.length ≤ bs.length) :
    Calls Try.prog 22 #[.pointer (some ⟨d, 0, none⟩), v] w fun e w' => SerR (apartO bs N).isSome ((apartO bs N).getD []).length w e w' := by
  have HB := hid hB
  have HS := hid hS
  have HE := hid hE
  have HD := hid (And.intro hd1 (And.intro hd2 hd3))
  obtain ⟨⟨ao, cap, rfl, hcap, hmx, hnil, hR⟩, h8⟩ := hB
  have HRD := hid hR
  have H8 := hid h8
  have hcm2 : cap ≤ 9223372036854775807 := by have : maxLen ≤ 9223372036854775807 := by decide
                                              omega
  clear hS hE hd1 hd2 hd3 hnil hR h8 hmx
  obtain ⟨G, hG⟩ : ∃ G, (apartO bs N).isSome = G := ⟨_, rfl⟩
  obtain ⟨K, hK⟩ : ∃ K, ((apartO bs N).getD []).length = K := ⟨_, rfl⟩
  have HG := hid hG
  have HK := hid hK
  rw [hG, hK]
  clear hG hK
  obtain ⟨r, hr⟩ : ∃ r, bs.length = r := ⟨_, rfl⟩
  rw [hr] at hcap hl ⊢
  have HR := hid hr
  have HBR : Hid (IsB w (.slice ao r cap) bs) := hid (by have := HB.out; rwa [hr] at this)
  clear hr HB
  by_cases h0 : r = 0
  · subst h0
    have HA := hid (show G = true ∧ K = 0 from ⟨by rw [← HG.out]; unfold apartO; rw [if_pos HR.out]; rfl, by rw [← HK.out]; unfold apartO; rw [if_pos HR.out]; rfl⟩)
    go_enter Try.func22, Try.ntmps22
    go_wp2_with ((with_reducible refine at_list' ?_); first
      | (refine wpList_alloc_c Try.ty39 rfl 4 rfl rfl ?_; intro w1 H1 B1 S1)
      | (refine wpList_build_c rfl _ rfl #[] (by simp) _ (build_none _) ?_)
      | (refine wpList_store_c Try.ty39 rfl (.tmp 4) (.tmp 14) rfl w.heap.size (valL 0 (zeros 32) nilS nilS) rfl rfl rfl (valL_oneC _ _ _ _ trivial trivial) _ H1 rfl ?_; intro w9 H9 O9))
    refine bodyPost_ret (results_c Try.ty39 rfl _ w9 w.heap.size _ _ rfl rfl H9 rfl) rfl ?_
    exact SerR.yes HA.out.1 ⟨none, 0, by rw [HA.out.2]⟩ (below_only B1 O9 (Nat.le_refl _))
  have hr0 : 0 < r := by omega
  have hne : ¬ ((r : Int) = 0) := by omega
  clear h0
  obtain ⟨bb, bo, rfl, hbc⟩ := HRD.out.resolve_left (by rw [HR.out]; omega)
  clear hbc
  go_enter Try.func22, Try.ntmps22
  go_wp2_with ((with_reducible refine at_list' ?_); first
    | (refine wpList_alloc_c Try.ty39 rfl 4 rfl rfl ?_; intro w1 H1 B1 S1; have e1 := cell_keep B1 HD.out.1; have e2 := cell_keep B1 HD.out.2.1; have e3 := cell_keep B1 HD.out.2.2))
  have HS1 := hid (HS.out.keep B1)
  have HE1 := hid (HE.out.keep B1)
  have HX := hid (And.intro H1 B1)
  clear H1 B1 S1 HS HE
  refine (HS1.out w1 (Below.refl _ _)).mono ?_
  rintro e w1 ⟨rfl, rfl⟩
  by_cases h4 : (r : Int) < 4
  · have HA := hid (show G = false by rw [← HG.out, apart_small bs N (by rw [HR.out]; omega) (by rw [HR.out]; omega)]; rfl)
    go_wp2_with ((with_reducible refine at_list' ?_); first
      | (refine wpList_build_c rfl _ rfl #[] (by simp) _ (build_none _) ?_)
      | (refine wpList_store_c Try.ty39 rfl (.tmp 4) (.tmp 37) rfl w.heap.size (valL 0 (zeros 32) nilS nilS) rfl rfl rfl (valL_oneC _ _ _ _ trivial trivial) _ HX.out.1 rfl ?_; intro w9 H9 O9))
    refine bodyPost_ret (results_c Try.ty39 rfl _ w9 w.heap.size _ _ rfl rfl H9 rfl) rfl ?_
    exact SerR.no HA.out (below_only HX.out.2 O9 (Nat.le_refl _))
  have h44 : 4 ≤ r := by omega
  have hc4 : 4 ≤ cap := by omega
  have HI4 : Hid (IsB w1 (.slice (some ⟨bb, bo, none⟩) 4 cap) (bs.take 4)) := hid (by have := IsB.part (by rw [HR.out]; exact HBR.out.keep HX.out.2) 0 4 (by rw [HR.out]; omega); simpa using this)
  go_wp2_with fail
  refine (rtake_isB _ _ _ HI4.out).mono ?_
  rintro e w1 ⟨rfl, rfl⟩
  have hz4 : tk (bs.take 4) < 4294967296 := tk_lt4 _ (fun z hz => H8.out z (List.mem_of_mem_take hz)) (by rw [List.length_take, HR.out]; omega)
  obtain ⟨z, hz⟩ : ∃ z, tk (bs.take 4) = z := ⟨_, rfl⟩
  have HZ := hid hz
  rw [hz] at hz4 ⊢
  clear hz HI4
  by_cases hbad : z = 0 ∨ z % 4 ≠ 0 ∨ r < z
  · have HA := hid (show G = false by rw [← HG.out, apart_none bs N z HZ.out (by rw [HR.out]; omega) (by rw [HR.out]; omega)]; rfl)
    by_cases hz0 : z = 0
    · subst hz0
      clear hbad
      go_wp2_with ((with_reducible refine at_list' ?_); first
        | (refine wpList_build_c rfl _ rfl #[] (by simp) _ (build_none _) ?_)
        | (refine wpList_store_c Try.ty39 rfl (.tmp 4) (.tmp 55) rfl w.heap.size (valL 0 (zeros 32) nilS nilS) rfl rfl rfl (valL_oneC _ _ _ _ trivial trivial) _ HX.out.1 rfl ?_; intro w9 H9 O9))
      refine bodyPost_ret (results_c Try.ty39 rfl _ w9 w.heap.size _ _ rfl rfl H9 rfl) rfl ?_
      exact SerR.no HA.out (below_only HX.out.2 O9 (Nat.le_refl _))
    have hz1 : ¬ ((z : Int) = 0) := by omega
    by_cases hz2 : z % 4 = 0
    · have hz3 : (z : Int) % 4 = 0 := by omega
      have hrz : (r : Int) < (z : Int) := by omega
      clear hbad
      go_wp2_with ((with_reducible refine at_list' ?_); first
        | (refine wpList_build_c rfl _ rfl #[] (by simp) _ (build_none _) ?_)
        | (refine wpList_store_c Try.ty39 rfl (.tmp 4) (.tmp 55) rfl w.heap.size (valL 0 (zeros 32) nilS nilS) rfl rfl rfl (valL_oneC _ _ _ _ trivial trivial) _ HX.out.1 rfl ?_; intro w9 H9 O9))
      refine bodyPost_ret (results_c Try.ty39 rfl _ w9 w.heap.size _ _ rfl rfl H9 rfl) rfl ?_
      exact SerR.no HA.out (below_only HX.out.2 O9 (Nat.le_refl _))
    · have hz3 : ¬ ((z : Int) % 4 = 0) := by omega
      clear hbad
      go_wp2_with ((with_reducible refine at_list' ?_); first
        | (refine wpList_build_c rfl _ rfl #[] (by simp) _ (build_none _) ?_)
        | (refine wpList_store_c Try.ty39 rfl (.tmp 4) (.tmp 55) rfl w.heap.size (valL 0 (zeros 32) nilS nilS) rfl rfl rfl (valL_oneC _ _ _ _ trivial trivial) _ HX.out.1 rfl ?_; intro w9 H9 O9))
      refine bodyPost_ret (results_c Try.ty39 rfl _ w9 w.heap.size _ _ rfl rfl H9 rfl) rfl ?_
      exact SerR.no HA.out (below_only HX.out.2 O9 (Nat.le_refl _))
  · obtain ⟨k, rfl⟩ : ∃ k, z = 4 * k := ⟨z / 4, by omega⟩
    have hk0 : 0 < k := by omega
    have hz1 : ¬ ((k : Int) = 0) := by omega
    have hz5 : ((4 * (k : Int)) == 0) = false := by rw [beq_eq_false_iff_ne]; omega
    have hz3 : (4 * (k : Int)) % 4 = 0 := by omega
    have hrz : ¬ ((r : Int) < 4 * (k : Int)) := by omega
    have hk4 : 4 * k ≤ r := by omega
    clear hbad
    by_cases hkN : N < (k : Int)
    · have HA := hid (show G = false by rw [← HG.out, apart_none bs N (4 * k) HZ.out (by rw [HR.out]; omega) (by rw [show 4 * k / 4 = k by omega]; omega)]; rfl)
      go_wp2_with ((with_reducible refine at_list' ?_); first
        | (refine wpList_build_c rfl _ rfl #[] (by simp) _ (build_none _) ?_)
        | (refine wpList_store_c Try.ty39 rfl (.tmp 4) (.tmp 65) rfl w.heap.size (valL 0 (zeros 32) nilS nilS) rfl rfl rfl (valL_oneC _ _ _ _ trivial trivial) _ HX.out.1 rfl ?_; intro w9 H9 O9))
      refine bodyPost_ret (results_c Try.ty39 rfl _ w9 w.heap.size _ _ rfl rfl H9 rfl) rfl ?_
      exact SerR.no HA.out (below_only HX.out.2 O9 (Nat.le_refl _))
    have HAG := hid (apart_good bs N k HZ.out hk0 (by rw [HR.out]; exact hk4) (by omega))
    obtain ⟨U, hU⟩ : ∃ U, upB2 (atL bs 0 k) (k + 1) = U := ⟨_, rfl⟩
    have HGU := hid hU
    have HUG : Hid (U = G ∧ (U = true → k = K)) := hid ⟨by rw [← hU, ← HAG.out.1, HG.out], fun h => by rw [← HK.out]; exact (HAG.out.2 (hU.trans h)).symm⟩
    clear hU HAG
    go_wp2
    go_loopw [9, 10] (fun kv i wr => ∃ t : Nat, t ≤ k ∧ i = .int .i64 t ∧ RowPt wr w1.heap.size kv p t ∧ Below w1.heap.size w1 wr) (fun _ i _ => k - (intOf i).toNat)
    case atStart => exact ⟨0, Nat.zero_le _, rfl, World.ownsRow_nil _ _ _ _, Below.refl _ _⟩
    case round =>
      obtain ⟨t, ht, rfl, how, hbe⟩ := hrel
      by_cases hlt : t < k
      · have hbw := below_more HX.out.2 hbe (Nat.le_refl _)
        have f2 := cell_keep hbw HD.out.2.1
        have f3 := cell_keep hbw HD.out.2.2
        obtain ⟨ta, tn, tc, rfl⟩ := own_slice how
        have B2 : Below wr.heap.size wr (wr.alloc (.cells #[.pointer (some ⟨p, 0, none⟩)] 30)) := (Below.refl _ _).alloc (Nat.le_refl _) _
        have hcn := heap_alloc_new wr (.cells #[.pointer (some ⟨p, 0, none⟩)] 30)
        have HD2 := hid (And.intro (own_keep how B2) (And.intro (cell_of_row _ wr.heap.size 0 _ _ (0, 0) hcn) (And.intro (below_more hbe B2 (Nat.le_refl _)) (Nat.le_trans hbe.size B2.size))))
        clear B2 hcn how hbe hbw
        go_wp2_with ((with_reducible refine at_list' ?_); first
          | (refine wpList_append_pt rfl (.tmp 71) (.tmp 78) rfl w1.heap.size (.slice ta tn tc) p t rfl HD2.out.1 wr.heap.size rfl HD2.out.2.1 (by omega) HD2.out.2.2.2 ?_; intro v' w4 r1 r2; have hbz := below_grownR HD2.out.2.2.1 HD2.out.1 (Nat.le_refl _) r2))
        exact ⟨⟨t + 1, by omega, by go_num, r1, hbz⟩, by simp [intOf]; omega⟩
      · obtain rfl : t = k := by omega
        clear hlt ht
        obtain ⟨kg, kc, rfl, hkc, hkm, hkc2⟩ := RowPt.form how hk0
        have HY := hid (And.intro (HX.out.1.keep hbe) (below_more HX.out.2 hbe (Nat.le_refl _)))
        have hS2 := HS1.out.keep hbe
        have hE2 := HE1.out.keep hbe
        clear how HS1 HE1
        have hIB := HBR.out.keep HY.out.2
        have hpl : placeAt bs 0 0 = 4 * t := by unfold placeAt; rw [show 0 + 4 * 0 = 0 from rfl, List.drop_zero, HZ.out]
        go_wp2_with fail
        have HSER := hid (series_far kg 0 kc t p (.slice (some ⟨bb, bo, none⟩) r cap) bs wr hk0 hkc hkm hkc2 hIB (by rw [HR.out]; exact hl) (by rw [HR.out]; exact hk4) hpl hS2 hE2)
        have hse := HSER.out
        rw [HGU.out] at hse
        refine hse.mono ?_
        rintro e w8 ⟨u, rfl, ⟨ua, uc, rfl⟩, B8⟩
        obtain ⟨un, hun⟩ : ∃ un, (if U = true then t else 0) = un := ⟨_, rfl⟩
        have HUN := hid hun
        rw [hun]
        have HZZ := hid (And.intro (HY.out.1.keep B8) (below_more HY.out.2 B8 (Nat.le_refl _)))
        clear B8 hun hS2 hE2 hkc2 hbe
        go_wp2_with ((with_reducible refine at_list' ?_); first
          | (refine wpList_store_c Try.ty39 rfl (.tmp 4) (.tmp 83) rfl w.heap.size (valL 0 (zeros 32) nilS (.slice ua un uc)) rfl rfl (by rw [valL_length _ _ _ _ zeros32, valL_length _ _ _ _ zeros32]) (valL_oneC _ _ _ _ trivial trivial) _ HZZ.out.1 rfl ?_; intro w9 H9 O9))
        refine bodyPost_ret (results_c Try.ty39 rfl _ w9 w.heap.size _ _ rfl rfl H9 (by rw [valL_length _ _ _ _ zeros32, valL_length _ _ _ _ zeros32])) rfl ?_
        exact (show SerR G K w _ w9 from SerR.cast (g := U) (k := t) ⟨_, rfl, ⟨ua, uc, by rw [← HUN.out]⟩, below_only HZZ.out.2 O9 (Nat.le_refl _)⟩ HUG.out.1 HUG.out.2)
end Go.Proofs.Ytckmdofmplkdfaa

/- The document's Decode of lists: a list of bytes' bits, a list of such lists. -/
namespace Go.Proofs.Ytckmdofmplkdfaa
open Go.RowKit Go.Shelf
set_option linter.unusedVariables false
set_option linter.unusedSimpArgs false
set_option maxRecDepth 100000

set_option maxHeartbeats 2000000 in
theorem decode_list (d : Nat) (v : Value) (bs : List Nat) (G : Bool) (K : Nat) (w : World) (hB : IsB w v bs) (c0 : w.cell? ⟨d, 0, none⟩ = some (.int .i64 5))
    (hL : ∀ wq, Below w.heap.size w wq → Calls Try.prog 22 #[.pointer (some ⟨d, 0, none⟩), v] wq fun e w' => SerR G K wq e w') :
    Calls Try.prog 8 #[.pointer (some ⟨d, 0, none⟩), v] w fun e w' => SerR G K w e w' := by
  have HL := hid hL
  clear hL
  obtain ⟨⟨ao, cap, rfl, _⟩, _⟩ := hB
  go_enter Try.func8, Try.ntmps8
  go_wp2_with ((with_reducible refine at_list' ?_); first
    | (refine wpList_alloc_c Try.ty39 rfl 4 rfl rfl ?_; intro w1 H1 B1 S1; have d0 := cell_keep B1 c0))
  have HX := hid (And.intro H1 B1)
  clear H1 B1 S1
  refine (size_far d 5 (.inr rfl) w1 d0).mono ?_
  rintro e w1 ⟨rfl, rfl⟩
  go_wp2_with fail
  refine (HL.out w1 HX.out.2).mono ?_
  rintro e w8 ⟨u, rfl, ⟨ua, uc, rfl⟩, B8⟩
  obtain ⟨un, hun⟩ : ∃ un, (if G = true then K else 0) = un := ⟨_, rfl⟩
  have HUN := hid hun
  rw [hun]
  have HZ := hid (And.intro (HX.out.1.keep B8) (below_more HX.out.2 B8 (Nat.le_refl _)))
  clear B8 hun d0 HL
  go_wp2_with ((with_reducible refine at_list' ?_); first
    | (refine wpList_store_c Try.ty39 rfl (.tmp 4) (.tmp 127) rfl w.heap.size (valL 0 (zeros 32) nilS (.slice ua un uc)) rfl rfl (by rw [valL_length _ _ _ _ zeros32, valL_length _ _ _ _ zeros32]) (valL_oneC _ _ _ _ trivial trivial) _ HZ.out.1 rfl ?_; intro w9 H9 O9))
  refine bodyPost_ret (results_c Try.ty39 rfl _ w9 w.heap.size _ _ rfl rfl H9 (by rw [valL_length _ _ _ _ zeros32, valL_length _ _ _ _ zeros32])) rfl ?_
  exact ⟨_, rfl, ⟨ua, uc, by rw [← HUN.out]⟩, below_only HZ.out.2 O9 (Nat.le_refl _)⟩

/-- One byte's bits are put to that byte again. -/
theorem put_one (bs : List Nat) (h : bs.length = 1) (h8 : ∀ z ∈ bs, z < 256) : putB (bitsL bs 8) false = bs := by
  have key : ∀ c : Fin 256, putB (bitsL [c.val] 8) false = [c.val] := by decide +kernel
  match bs, h with
  | [c], _ => exact key ⟨c, h8 c (by simp)⟩
/-- The kind of eight bits. -/
theorem elt_bits (w : World) (p : Nat) (c0 : w.cell? ⟨p, 0, none⟩ = some (.int .i64 6)) (c1 : w.cell? ⟨p, 1, none⟩ = some (.int .i64 8)) : SizeOf w p 1 ∧ EltOf w p fun xb => xb.length = 1 := by
  refine ⟨fun wq hb => ?_, fun u xb wq hb hI hl => ?_⟩
  · have := size_bits p 8 wq (cell_keep hb c0) (cell_keep hb c1) (by decide)
    exact this
  · refine (decode_few u xb 8 p wq hI (cell_keep hb c0) (cell_keep hb c1) (by decide) (by omega)).mono ?_
    rintro e w' ⟨v, t, ok, rfl, hV, B, hiff, _⟩
    have hok : ok = true := hiff.2 ⟨by omega, put_one xb hl hI.by8⟩
    subst hok
    obtain ⟨sb, sk, rfl, hVA⟩ := hV
    cases t with
    | mk n r bb kk =>
      rw [VAt] at hVA
      obtain ⟨⟨_, hr, _⟩, hT, ao, cap, rfl, _⟩ := hVA
      exact ⟨_, rfl, ⟨valL_length _ _ _ _ hr, valL_oneC _ _ _ _ hT.sl trivial⟩, B⟩
/-- The kind of a list of such kinds. -/
theorem elt_list (w : World) (d g1 o1 c1 p : Nat) (c0 : w.cell? ⟨d, 0, none⟩ = some (.int .i64 5)) (cn : w.cell? ⟨d, 1, none⟩ = some (.int .i64 5000)) (hd2 : w.cell? ⟨d, 2, none⟩ = some (.slice (some ⟨g1, o1, none⟩) 1 c1)) (hd3 : w.cell? ⟨g1, o1, none⟩ = some (.pointer (some ⟨p, 0, none⟩)))
    (hp0 : w.cell? ⟨p, 0, none⟩ = some (.int .i64 6)) (hp1 : w.cell? ⟨p, 1, none⟩ = some (.int .i64 8)) (L : Nat) (hL : L ≤ 5000) : SizeOf w d (-1) ∧ EltOf w d fun xb => xb.length ≤ L := by
  refine ⟨fun wq hb => size_far d 5 (.inr rfl) wq (cell_keep hb c0), fun u xb wq hb hI hl => ?_⟩
  have hl' : xb.length ≤ L := hl
  refine (decode_list d u xb true xb.length wq hI (cell_keep hb c0) (fun w2 h2 => ?_)).mono ?_
  · have hb2 := below_more hb h2 (Nat.le_refl _)
    have he := elt_bits w2 p (cell_keep hb2 hp0) (cell_keep hb2 hp1)
    exact list_one d g1 o1 c1 p 5000 u xb w2 (hI.keep h2) (by omega) (by omega) (cell_keep hb2 cn) (cell_keep hb2 hd2) (cell_keep hb2 hd3) he.1 he.2
  · rintro e w' ⟨v, rfl, ⟨a, cp, rfl⟩, B⟩
    exact ⟨_, rfl, ⟨valL_length _ _ _ _ zeros32, valL_oneC _ _ _ _ trivial trivial⟩, B⟩
/-- What the document's Decode answers at a list of such lists. -/
theorem decode_parts (d g1 o1 c1 q g2 o2 c2 p : Nat) (N : Int) (v : Value) (bs : List Nat) (w : World) (hB : IsB w v bs) (hl : bs.length ≤ 5000) (hN : -9223372036854775808 ≤ N ∧ N ≤ 9223372036854775807)
    (c0 : w.cell? ⟨d, 0, none⟩ = some (.int .i64 5)) (cn : w.cell? ⟨d, 1, none⟩ = some (.int .i64 N)) (cd2 : w.cell? ⟨d, 2, none⟩ = some (.slice (some ⟨g1, o1, none⟩) 1 c1)) (cd3 : w.cell? ⟨g1, o1, none⟩ = some (.pointer (some ⟨q, 0, none⟩)))
    (q0 : w.cell? ⟨q, 0, none⟩ = some (.int .i64 5)) (qn : w.cell? ⟨q, 1, none⟩ = some (.int .i64 5000)) (q2 : w.cell? ⟨q, 2, none⟩ = some (.slice (some ⟨g2, o2, none⟩) 1 c2)) (q3 : w.cell? ⟨g2, o2, none⟩ = some (.pointer (some ⟨p, 0, none⟩)))
    (p0 : w.cell? ⟨p, 0, none⟩ = some (.int .i64 6)) (p1 : w.cell? ⟨p, 1, none⟩ = some (.int .i64 8)) :
    Calls Try.prog 8 #[.pointer (some ⟨d, 0, none⟩), v] w fun e w' => SerR (apartO bs N).isSome ((apartO bs N).getD []).length w e w' := by
  refine decode_list d v bs _ _ w hB c0 (fun wq hb => ?_)
  have he := elt_list wq q g2 o2 c2 p (cell_keep hb q0) (cell_keep hb qn) (cell_keep hb q2) (cell_keep hb q3) (cell_keep hb p0) (cell_keep hb p1) bs.length hl
  exact list_far d g1 o1 c1 q N v bs wq (hB.keep hb) (by omega) hN (cell_keep hb cn) (cell_keep hb cd2) (cell_keep hb cd3) he.1 he.2
end Go.Proofs.Ytckmdofmplkdfaa

/- What is taken apart is joined to the same bytes again: the plain mathematics. -/
namespace Go.Proofs.Ytckmdofmplkdfaa
open Go.RowKit
set_option linter.unusedVariables false
set_option linter.unusedSimpArgs false

theorem le_tk4 (x : List Nat) (hx : x.length = 4) (h : ∀ z ∈ x, z < 256) : le (tk x) 4 = x := by
  match x, hx with
  | [a, b, c, d], _ =>
    have ha := h a (by simp)
    have hb := h b (by simp)
    have hc := h c (by simp)
    have hd := h d (by simp)
    have e : tk [a, b, c, d] = a + 256 * (b + 256 * (c + 256 * d)) := by simp [tk, takeV, takeL]
    rw [e]
    simp only [le, List.range_succ, List.range_zero, List.map_append, List.map_cons, List.map_nil, List.nil_append, List.cons_append, List.cons.injEq, and_true]
    refine ⟨?_, ?_, ?_, ?_⟩ <;> omega
theorem cut_flat2 (bs : List Nat) (k : Nat) (hg : upB2 (atL bs 0 k) (k + 1) = true) (h0 : (atL bs 0 k).getD 0 0 = 4 * k) : ∀ j, j ≤ k → ((cutL bs (places bs 0 k)).take j).flatten = (bs.drop (4 * k)).take ((atL bs 0 k).getD j 0 - 4 * k)
  | 0, _ => by rw [h0, Nat.sub_self, List.take_zero, List.take_zero, List.flatten_nil]
  | j + 1, hj => by
    have ih := cut_flat2 bs k hg h0 j (by omega)
    have hc := cut_at bs 0 k j (by omega)
    have m1 := upB2_le hg 0 j (by omega) (by omega)
    have m2 := upB2_le hg j (j + 1) (by omega) (by omega)
    rw [List.take_add_one, List.flatten_append, ih, hc]
    simp only [Option.toList_some, List.flatten_cons, List.flatten_nil, List.append_nil]
    rw [h0] at m1
    generalize (atL bs 0 k).getD j 0 = a at *
    generalize (atL bs 0 k).getD (j + 1) 0 = b at *
    rw [show b - 4 * k = (a - 4 * k) + (b - a) by omega, List.take_add, List.drop_drop, show 4 * k + (a - 4 * k) = a by omega]
theorem cutL_len (bs : List Nat) (k : Nat) : (cutL bs (places bs 0 k)).length = k := by simp [cutL, places_length]
theorem cut_front (bs : List Nat) (k : Nat) (h8 : ∀ z ∈ bs, z < 256) (hl : 4 * k ≤ bs.length) (hg : upB2 (atL bs 0 k) (k + 1) = true) (h0 : (atL bs 0 k).getD 0 0 = 4 * k) : ∀ j, j ≤ k → frontB (4 * k) (((cutL bs (places bs 0 k)).take j).map fun b => (b, true)) = bs.take (4 * j)
  | 0, _ => by simp [frontB]
  | j + 1, hj => by
    have ih := cut_front bs k h8 hl hg h0 j (by omega)
    have hc := cut_at bs 0 k j (by omega)
    have hf := cut_flat2 bs k hg h0 j (by omega)
    have m1 := upB2_le hg 0 j (by omega) (by omega)
    have m2 := upB2_le hg j k (by omega) (by omega)
    rw [atL_last] at m2
    rw [h0] at m1
    have hfl : ((cutL bs (places bs 0 k)).take j).flatten.length = (atL bs 0 k).getD j 0 - 4 * k := by rw [hf, List.length_take, List.length_drop]; omega
    rw [List.take_add_one, hc]
    simp only [Option.toList_some, List.map_append, List.map_cons, List.map_nil]
    rw [frontB_snoc, ih, back_flat]
    simp only [if_true]
    rw [hfl, show 4 * k + ((atL bs 0 k).getD j 0 - 4 * k) = (atL bs 0 k).getD j 0 by omega, atL_getD bs 0 k j (by omega)]
    unfold placeAt
    rw [Nat.zero_add, le_tk4 _ (by rw [List.length_take, List.length_drop]; omega) (fun z hz => h8 z (List.mem_of_mem_drop (List.mem_of_mem_take hz))), show 4 * (j + 1) = 4 * j + 4 by omega, List.take_add]
theorem join_back (bs : List Nat) (limit : Int) (bss : List (List Nat)) (h8 : ∀ z ∈ bs, z < 256) (h : apartO bs limit = some bss) : joinB bss = bs := by
  unfold apartO at h
  by_cases hz : bs.length = 0
  · rw [if_pos hz] at h
    cases h
    rw [List.length_eq_zero_iff.1 hz]
    rfl
  · rw [if_neg hz] at h
    simp only at h
    by_cases hb : tk (bs.take 4) % 4 ≠ 0 ∨ bs.length < tk (bs.take 4) ∨ limit < ((tk (bs.take 4) / 4 : Nat) : Int) ∨ tk (bs.take 4) = 0
    · rw [if_pos hb] at h; cases h
    · rw [if_neg hb] at h
      obtain ⟨k, hk⟩ : ∃ k, tk (bs.take 4) / 4 = k := ⟨_, rfl⟩
      have hs : tk (bs.take 4) = 4 * k := by omega
      rw [hs] at h
      rw [show 4 * k / 4 = k by omega] at h
      have hk0 : 0 < k := by omega
      have hl : 4 * k ≤ bs.length := by omega
      by_cases hg : goodB bs (4 * k) 0 k = true
      · rw [if_pos hg] at h
        cases h
        rw [good_iff bs (4 * k) 0 k hk0 hl, Bool.and_eq_true, decide_eq_true_eq] at hg
        rw [joinB_eq, cutL_len]
        have hc := cut_front bs k h8 hl hg.2 hg.1 k (Nat.le_refl _)
        have hf := cut_flat2 bs k hg.2 hg.1 k (Nat.le_refl _)
        rw [List.take_of_length_le (by rw [cutL_len]; exact Nat.le_refl _)] at hc hf
        rw [hc, hf, atL_last, List.take_of_length_le (l := bs.drop (4 * k)) (by rw [List.length_drop]; exact Nat.le_refl _), List.take_append_drop]
      · rw [if_neg hg] at h; cases h
end Go.Proofs.Ytckmdofmplkdfaa

/- Flows whose operations may bear guards that are known to hold, and hang together in chains of any length. -/
namespace Go.Proofs.Ytckmdofmplkdfaa
open Go Go.RowKit
section
variable {P : Program}
/-- Those below k that one of m waits for, itself or by others, and m. -/
def markG (ops : Array Oper) : Nat → List Nat → List Nat
  | 0, m => m
  | k + 1, m => if m.any (fun j => Region.waitsFor .any ops j k) then markG ops k (k :: m) else markG ops k m
def reachM (ops : Array Oper) (t i : Nat) : Bool := (markG ops t [t]).contains i
theorem markG_done {ops : Array Oper} {done : Array Bool} (hcl : ∀ j oj, ops[j]? = some oj → done.getD j false = true → ∀ e ∈ oj.after, Region.binds .any e = true → done.getD e.on false = true) {t : Nat} {o : Oper} (ho : ops[t]? = some o) (hall : ∀ e ∈ o.after, Region.binds .any e = true → done.getD e.on false = true) :
    ∀ k m, (∀ i ∈ m, i = t ∨ done.getD i false = true) → ∀ i ∈ markG ops k m, i = t ∨ done.getD i false = true := by
  intro k
  induction k with
  | zero => intro m hm i hi; exact hm i hi
  | succ k ih =>
    intro m hm i hi
    rw [markG] at hi
    split at hi
    · rename_i hany
      refine ih (k :: m) (fun q hq => ?_) i hi
      rcases List.mem_cons.1 hq with rfl | hq
      · obtain ⟨j, hj, hw⟩ := List.any_eq_true.1 hany
        rcases hm j hj with rfl | hd
        · exact .inr (waits_done ho hall hw)
        · cases hz : ops[j]? with
          | none => unfold Region.waitsFor at hw; rw [hz] at hw; cases hw
          | some oj => exact .inr (waits_done hz (hcl j oj hz hd) hw)
      · exact hm q hq
    · exact ih m hm i hi
theorem reachM_done {ops : Array Oper} {done : Array Bool} (hcl : ∀ j oj, ops[j]? = some oj → done.getD j false = true → ∀ e ∈ oj.after, Region.binds .any e = true → done.getD e.on false = true) {t i : Nat} {o : Oper} (ho : ops[t]? = some o) (hall : ∀ e ∈ o.after, Region.binds .any e = true → done.getD e.on false = true) (h : reachM ops t i = true) (hne : i ≠ t) : done.getD i false = true :=
  (markG_done hcl ho hall t [t] (fun q hq => .inl (List.mem_singleton.1 hq)) i (by unfold reachM at h; simpa using h)).resolve_left hne
/-- What a flow asks of a region's text: its head's guards are known, it waits upwards alone, writes each slot once; its tail waits for all of the head, but for one operation that only reads slots and may come late (late: its place; n: there is none). -/
def flowMB (ops : Array Oper) (n late sz : Nat) : Bool :=
  decide (n < ops.size) && Region.noSelect ops && ((List.range ops.size).all fun t => decide (t < n) || (List.range n).all fun i => decide (i = late) || reachM ops t i) &&
  ((List.range n).all fun i => match ops[i]? with
    | some o => (match o.guard with | none => true | some (g, _) => decide (g < i) && Region.waitsFor .any ops i g && (dstOf ops g).isSome) && (o.after.all fun e => !Region.binds .any e || decide (e.on < i)) && (match o.dst with
      | none => true
      | some d => decide (d < sz) && (List.range n).all fun j => decide (j = i) || decide (dstOf ops j ≠ some d))
    | none => false) && (decide (n ≤ late) || (Region.free .any ops (doneBut ops n late) late && (Region.ready .any ops (doneBut ops n late)).contains late)) &&
  Region.seqB .any ops (ops.size - n) n ((List.range ops.size).map fun i => decide (i < n)).toArray

theorem flowM_any {ops : Array Oper} {n late : Nat} {I : Nat → Value → World → Prop} {w0 : World} {a0 : Act} {Q : Exit → Act → World → Prop} (hB : flowMB ops n late a0.tmps.size = true)
    (hQ : ∀ c d v a w, Q (.panic c) (a.put d v) w → Q (.panic c) a w)
    (hguard : ∀ i o g b, i < n → ops[i]? = some o → o.guard = some (g, b) → ∀ v w, I g v w → v = .bool b)
    (hI : ∀ i v w w', i < n → I i v w → Below w.heap.size w w' → I i v w')
    (hop : ∀ i o, i < n → ops[i]? = some o → ∀ a w, Cls w0 w → (∀ s, (∀ j, j < n → dstOf ops j ≠ some s) → a.tmps.getD s undef = a0.tmps.getD s undef) →
      (∀ j d, dstOf ops j = some d → (o.after.any fun e => Region.binds .any e && e.on == j) = true → I j (a.tmps.getD d undef) w) →
      o.wp P a w (fun a' w' => ∃ v, a' = a.put o.dst v ∧ I i v w' ∧ Below w.heap.size w w') Q)
    (hlate : ∀ o, late < n → ops[late]? = some o → ∀ (a : Act) w, Cls w0 w → (∀ s, (∀ j, j < n → dstOf ops j ≠ some s) → a.tmps.getD s undef = a0.tmps.getD s undef) →
      (∀ j d, dstOf ops j = some d → (o.after.any fun e => Region.binds .any e && e.on == j) = true → I j (a.tmps.getD d undef) w) → ∃ v, (∀ w, (execOp a.eval o).run P w = .ok (.value v) w) ∧ I late v w)
    (htail : ∀ v w, Cls w0 w → (∀ i d, i < n → dstOf ops i = some d → I i (v i) w) → wpAny P .any ops Q (ops.size - n) ((List.range ops.size).map fun i => decide (i < n)).toArray (putAll v (ops.toList.take n) 0 a0) w) :
    ∀ f (done : Array Bool) (a : Act) (w : World), (List.range n).countP (fun i => !done.getD i true) = f → FlowInv ops n I w0 a0 done a w → wpAny P .any ops Q (f + (ops.size - n)) done a w := by
  simp only [flowMB, Bool.and_eq_true, decide_eq_true_eq, List.all_eq_true, List.mem_range, Bool.or_eq_true] at hB
  obtain ⟨⟨⟨⟨⟨hn, hsel⟩, hdir⟩, hall⟩, hlt8⟩, hseq⟩ := hB
  have hat : ∀ i, i < n → ∃ o, ops[i]? = some o := fun i hi => ⟨_, Array.getElem?_eq_getElem (by omega)⟩
  have hgd : ∀ i o, i < n → ops[i]? = some o → (∀ g b, o.guard = some (g, b) → Region.waitsFor .any ops i g = true ∧ ∃ d, dstOf ops g = some d) ∧ (∀ e ∈ o.after, Region.binds .any e = true → e.on < i) ∧ ∀ d, o.dst = some d → d < a0.tmps.size ∧ ∀ j, j < n → j ≠ i → dstOf ops j ≠ some d := by
    intro i o hi ho
    have := hall i hi
    rw [ho] at this
    simp only [Bool.and_eq_true, Array.all_eq_true_iff_forall_mem, Bool.or_eq_true, Bool.not_eq_true', decide_eq_true_eq] at this
    obtain ⟨⟨h1, h2⟩, h3⟩ := this
    refine ⟨fun g b hg => by
      rw [hg] at h1
      simp only [Bool.and_eq_true] at h1
      exact ⟨h1.1.2, Option.isSome_iff_exists.1 h1.2⟩, fun e he hb => (h2 e he).resolve_left (by rw [hb]; decide), fun d hd => ?_⟩
    rw [hd] at h3
    simp only [Bool.and_eq_true, decide_eq_true_eq, List.all_eq_true, List.mem_range, Bool.or_eq_true] at h3
    exact ⟨h3.1, fun j hj hne => (h3.2 j hj).resolve_left hne⟩
  intro f
  induction f with
  | zero =>
    intro done a w hcount inv
    have hdone : ∀ i, i < n → done.getD i true = true := fun i hi => by
      have := List.countP_eq_zero.1 hcount i (List.mem_range.2 hi)
      simpa using this
    have hdn : done = ((List.range ops.size).map fun i => decide (i < n)).toArray := by
      apply Array.ext_getElem?
      intro i
      by_cases hi : i < ops.size
      · have hi' : i < done.size := by rw [inv.head.size]; exact hi
        have h1 : (((List.range ops.size).map fun i => decide (i < n)).toArray)[i]? = some (decide (i < n)) := by simp [hi]
        rw [h1, Array.getElem?_eq_getElem hi']
        by_cases hin : i < n
        · have := hdone i hin
          simp [hi'] at this
          simp [hin, this]
        · have := inv.head.tail i (by omega) hi
          simp [hi'] at this
          simp [hin, this]
      · rw [Array.getElem?_eq_none (by rw [inv.head.size]; omega), Array.getElem?_eq_none (by simp; omega)]
    have hk : ∀ i, i < n → done.getD i false = true := fun i hi => by
      have h1 := hdone i hi
      have hi' : i < done.size := by rw [inv.head.size]; omega
      simp [hi'] at h1 ⊢
      exact h1
    have ha : a = putAll (fun i => match dstOf ops i with | some d => a.tmps.getD d undef | none => undef) (ops.toList.take n) 0 a0 := by
      have hd1 := putAll_defers (fun i => match dstOf ops i with | some d => a.tmps.getD d undef | none => undef) (ops.toList.take n) 0 a0
      have hs1 := putAll_size (fun i => match dstOf ops i with | some d => a.tmps.getD d undef | none => undef) (ops.toList.take n) 0 a0
      have ht1 : ∀ s, a.tmps[s]? = (putAll (fun i => match dstOf ops i with | some d => a.tmps.getD d undef | none => undef) (ops.toList.take n) 0 a0).tmps[s]? := fun s => by
        rw [putAll_get _ s (a.tmps.getD s undef) _ 0 a0 (fun j o hj ho => by
          rw [List.getElem?_take] at hj
          split at hj
          · have : dstOf ops j = some s := by unfold dstOf; rw [Array.getElem?_toList] at hj; rw [hj]; exact ho
            rw [Nat.zero_add, this]
          · cases hj)]
        split
        · rename_i h
          rw [Array.getElem?_eq_getElem (by rw [inv.size]; exact h.2)]
          simp [inv.size, h.2]
        · rename_i h
          by_cases hsz : s < a0.tmps.size
          · refine inv.keep s fun i hi e => h ⟨?_, hsz⟩
            obtain ⟨o, ho⟩ := hat i hi
            refine ⟨o, ?_, by unfold dstOf at e; rw [ho] at e; exact e⟩
            rw [List.mem_take_iff_getElem]
            have := Array.getElem?_eq_some_iff.1 ho
            exact ⟨i, by simp; omega, by simpa using this.2⟩
          · rw [Array.getElem?_eq_none (by rw [inv.size]; omega), Array.getElem?_eq_none (by omega)]
      generalize putAll (fun i => match dstOf ops i with | some d => a.tmps.getD d undef | none => undef) (ops.toList.take n) 0 a0 = b at *
      obtain ⟨ta, da⟩ := a
      obtain ⟨tb, db⟩ := b
      have e1 : ta = tb := Array.ext_getElem? ht1
      have e2 : da = db := inv.defers.trans hd1.symm
      rw [e1, e2]
    rw [Nat.zero_add, ha, hdn]
    refine htail _ w inv.cls fun i d hi hd => ?_
    have := inv.known i hi (hk i hi) d hd
    simpa [hd] using this
  | succ f ih =>
    intro done a w hcount inv
    have hex : ∃ i, i < n ∧ done.getD i true = false := by
      have : 0 < (List.range n).countP (fun i => !done.getD i true) := by omega
      obtain ⟨i, hi, hd⟩ := List.countP_pos_iff.1 this
      exact ⟨i, List.mem_range.1 hi, by simpa using hd⟩
    have hready : ∃ i, i < n ∧ i ∈ Region.ready .any ops done := by
      obtain ⟨i0, hi0, hd0⟩ := hex
      have key : ∀ m, m < n → done.getD m true = false → ∃ i, i < n ∧ i ∈ Region.ready .any ops done := by
        intro m
        induction m using Nat.strongRecOn with
        | _ m ihm =>
          intro hm hd
          obtain ⟨o, ho⟩ := hat m hm
          by_cases hw : ∀ e ∈ o.after, Region.binds .any e = true → done.getD e.on false = true
          · exact ⟨m, hm, mem_ready.2 ⟨hd, o, ho, hw⟩⟩
          · simp only [Classical.not_forall] at hw
            obtain ⟨e, he, hb, hnd⟩ := hw
            have hlt := (hgd m o hm ho).2.1 e he hb
            refine ihm e.on hlt (by omega) ?_
            have hi' : e.on < done.size := by rw [inv.head.size]; omega
            simp [hi'] at hnd ⊢
            exact hnd
      exact key i0 hi0 hd0
    obtain ⟨r, hr, hrr⟩ := hready
    rw [Nat.succ_add]
    have hstep : ∀ i o v w', i < n → i ∈ Region.ready .any ops done → ops[i]? = some o → I i v w' → Below w.heap.size w w' →
        (List.range n).countP (fun j => !(done.setIfInBounds i true).getD j true) = f ∧ FlowInv ops n I w0 a0 (done.setIfInBounds i true) (a.put o.dst v) w' := by
      intro i o v w' hin hi ho hv hB
      obtain ⟨hun, o', ho', hwait⟩ := mem_ready.1 hi
      obtain ⟨g1, g2, g3⟩ := hgd i o hin ho
      refine ⟨?_, inv.head.set hi hin, inv.cls.more hB, by rw [put_defers]; exact inv.defers, by rw [put_size]; exact inv.size, fun s hs' => ?_, fun j hj hdj d hd => ?_⟩
      · have hii : i < done.size := by rw [inv.head.size]; omega
        have hcp := count_step done i hii hun n hin
        omega
      · rw [put_get, if_neg (fun h => hs' i hin (by unfold dstOf; rw [ho]; exact h.1))]
        exact inv.keep s hs'
      · by_cases e : j = i
        · subst e
          have hd' : o.dst = some d := by unfold dstOf at hd; rw [ho] at hd; exact hd
          have : (a.put o.dst v).tmps.getD d undef = v := by
            rw [Array.getD_eq_getD_getElem?, put_get, if_pos ⟨hd', by rw [inv.size]; exact (g3 d hd').1⟩]; rfl
          rw [this]; exact hv
        · have hdj' : done.getD j false = true := by rwa [getD_set_ne false (Ne.symm e)] at hdj
          have : (a.put o.dst v).tmps.getD d undef = a.tmps.getD d undef := by
            rw [Array.getD_eq_getD_getElem?, put_get, if_neg (fun h => (g3 d h.1).2 j hj e hd), ← Array.getD_eq_getD_getElem?]
          rw [this]
          exact hI j _ w w' hj (inv.known j hj hdj' d hd) hB
    have hdeps : ∀ i o, i < n → i ∈ Region.ready .any ops done → ops[i]? = some o → ∀ j d, dstOf ops j = some d → (o.after.any fun e => Region.binds .any e && e.on == j) = true → I j (a.tmps.getD d undef) w := by
      intro i o hin hi ho j d hd hj
      obtain ⟨hun, o', ho', hwait⟩ := mem_ready.1 hi
      obtain rfl : o' = o := Option.some.inj (ho'.symm.trans ho)
      obtain ⟨g1, g2, g3⟩ := hgd i o' hin ho
      obtain ⟨k, hk, hk2⟩ := Array.any_eq_true.1 hj
      simp only [Bool.and_eq_true, beq_iff_eq] at hk2
      have hmem := Array.getElem_mem hk
      have hl := hwait _ hmem hk2.1
      have hlt := g2 _ hmem hk2.1
      rw [hk2.2] at hl hlt
      exact inv.known j (by omega) hl d hd
    have hwant : ∀ i o, i < n → i ∈ Region.ready .any ops done → ops[i]? = some o → Region.wanted o (yielded ops a.tmps) = true := by
      intro i o hin hi ho
      unfold Region.wanted
      cases hg : o.guard with
      | none => rfl
      | some gb =>
        obtain ⟨g, b⟩ := gb
        obtain ⟨q2, d, hd⟩ := (hgd i o hin ho).1 g b hg
        unfold Region.waitsFor at q2
        rw [ho] at q2
        have hv := hguard i o g b hin ho hg _ _ (hdeps i o hin hi ho g d hd q2)
        have hv2 : a.tmps[d]? = some (.bool b) := by
          rw [Array.getD_eq_getD_getElem?] at hv
          cases hq : a.tmps[d]? with
          | none => rw [hq] at hv; cases hv
          | some u => rw [hq] at hv; exact congrArg some hv
        have hy : yielded ops a.tmps g = some b := by
          unfold dstOf at hd
          unfold yielded
          rw [hd]
          simp [hv2]
        simp [hy]
    have hkeep : ∀ s, (∀ j, j < n → dstOf ops j ≠ some s) → a.tmps.getD s undef = a0.tmps.getD s undef := fun s hs' => by rw [Array.getD_eq_getD_getElem?, inv.keep s hs', ← Array.getD_eq_getD_getElem?]
    by_cases hbut : ∀ i, i < n → i ≠ late → done.getD i true = true
    · have hrl : r = late := Classical.byContradiction fun h => by
        have h1 := hbut r hr h
        rw [(mem_ready.1 hrr).1] at h1; cases h1
      subst hrl
      have hdn : done = doneBut ops n r := by
        apply Array.ext_getElem?
        intro i
        by_cases hi : i < ops.size
        · have hi' : i < done.size := by rw [inv.head.size]; exact hi
          have h1 : (doneBut ops n r)[i]? = some (decide (i < n) && decide (i ≠ r)) := by simp [doneBut, hi]
          rw [h1, Array.getElem?_eq_getElem hi']
          by_cases hin : i < n
          · by_cases hir : i = r
            · subst hir
              have := (mem_ready.1 hrr).1
              simp [hi'] at this
              simp [this]
            · have := hbut i hin hir
              simp [hi'] at this
              simp [hin, hir, this]
          · have := inv.head.tail i (by omega) hi
            simp [hi'] at this
            simp [hin, this]
        · rw [Array.getElem?_eq_none (by rw [inv.head.size]; omega), Array.getElem?_eq_none (by simp [doneBut]; omega)]
      obtain ⟨o, ho⟩ := hat r hr
      obtain ⟨v, hrun, hv⟩ := hlate o hr ho a w inv.cls hkeep (hdeps r o hr hrr ho)
      obtain ⟨q1, q2⟩ := hstep r o v w hr hrr ho hv (Below.refl _ w)
      have hw := hwant r o hr hrr ho
      have hfr := hlt8.resolve_left (by omega)
      rw [← hdn] at hfr
      exact wpAny_take ho hsel hfr.1 hfr.2 (fun c a w h => hQ c _ _ a w h) (.inl ⟨hw, hrun⟩) (ih _ _ _ q1 q2)
    · simp only [Classical.not_forall] at hbut
      obtain ⟨u, hu, hul, hud⟩ := hbut
      have hud' : done.getD u false = false := by
        have hi' : u < done.size := by rw [inv.head.size]; omega
        simp [hi'] at hud ⊢
        exact hud
      refine ⟨fun e => (by rw [e] at hrr; cases hrr), fun i hi => ?_⟩
      obtain ⟨hun, o, ho, hwait⟩ := mem_ready.1 hi
      have hin : i < n := Nat.lt_of_not_le fun h => by
        have his : i < ops.size := (Array.getElem?_eq_some_iff.1 ho).1
        have hw := ((hdir i his).resolve_left (by omega) u hu).resolve_left hul
        have := reachM_done inv.head.closed ho hwait hw (by omega)
        rw [hud'] at this
        cases this
      unfold wpOp
      rw [ho]
      have hw := hwant i o hin hi ho
      simp only [hw, if_true]
      refine .inl (Oper.wp_mono ?_ (hop i o hin ho a w inv.cls hkeep (hdeps i o hin hi ho)))
      rintro a' w' ⟨v, rfl, hv, hB⟩
      obtain ⟨q1, q2⟩ := hstep i o v w' hin hi ho hv hB
      exact ih _ _ _ q1 q2

/-- The region, told as a flow. -/
theorem wp_region_flowM {id : Nat} {Q : Exit → Act → World → Prop} {a : Act} {w : World} {l : List Oper} (n late : Nat) (I : Nat → Value → World → Prop) (hm : P.follows .mixedOrders = true) (hB : flowMB l.toArray n late a.tmps.size = true)
    (hQ : ∀ c d v a w, Q (.panic c) (a.put d v) w → Q (.panic c) a w)
    (hguard : ∀ i o g b, i < n → l.toArray[i]? = some o → o.guard = some (g, b) → ∀ v w, I g v w → v = .bool b)
    (hI : ∀ i v w w', i < n → I i v w → Below w.heap.size w w' → I i v w')
    (hop : ∀ i o, i < n → l.toArray[i]? = some o → ∀ a' w', Cls w w' → (∀ s, (∀ j, j < n → dstOf l.toArray j ≠ some s) → a'.tmps.getD s undef = a.tmps.getD s undef) →
      (∀ j d, dstOf l.toArray j = some d → (o.after.any fun e => Region.binds .any e && e.on == j) = true → I j (a'.tmps.getD d undef) w') →
      o.wp P a' w' (fun a'' w'' => ∃ v, a'' = a'.put o.dst v ∧ I i v w'' ∧ Below w'.heap.size w' w'') Q)
    (hlate : ∀ o, late < n → l.toArray[late]? = some o → ∀ (a' : Act) w', Cls w w' → (∀ s, (∀ j, j < n → dstOf l.toArray j ≠ some s) → a'.tmps.getD s undef = a.tmps.getD s undef) →
      (∀ j d, dstOf l.toArray j = some d → (o.after.any fun e => Region.binds .any e && e.on == j) = true → I j (a'.tmps.getD d undef) w') → ∃ v, (∀ w, (execOp a'.eval o).run P w = .ok (.value v) w) ∧ I late v w')
    (htail : ∀ v w', Cls w w' → (∀ i d, i < n → dstOf l.toArray i = some d → I i (v i) w') → wpList P l.toArray Q (l.drop n) (putAll v (l.take n) 0 a) w') : (Code.region id l.toArray true).wp P Q a w := by
  have hB' := hB
  simp only [flowMB, Bool.and_eq_true, decide_eq_true_eq] at hB'
  have hn : n < l.length := by simpa using hB'.1.1.1.1.1
  have h3 : (l.drop n).length = l.toArray.size - n := by simp
  refine wp_region_any hm ?_
  have hc0 : (List.range n).countP (fun i => !(Array.replicate l.toArray.size false).getD i true) = n := by
    have : (List.range n).countP (fun i => !(Array.replicate l.toArray.size false).getD i true) = (List.range n).length := List.countP_eq_length.2 fun i hi => by
      have := List.mem_range.1 hi
      simp [show i < l.length by omega]
    rw [this, List.length_range]
  have K := flowM_any (P := P) (Q := Q) (w0 := w) (a0 := a) hB hQ hguard hI hop hlate (fun v w' hc hv => by
    have := wpAny_of_seq (P := P) (md := .any) (Q' := Q) (l.drop n) n _ _ w' (fun j => by simp [List.getElem?_drop]) (by rw [h3]; exact hB'.2) (htail v w' hc hv)
    rw [h3] at this
    simpa using this) n (Array.replicate l.toArray.size false) a { w with drawn := w.drawn + 1 } hc0
    ⟨⟨by simp, fun j oj _ hx => (by rw [getD_replicate_false] at hx; cases hx), fun t _ ht => getD_in (by simpa using ht) (getD_replicate_false _ _)⟩, ⟨(Below.refl _ w).drew⟩, rfl, rfl, fun _ _ => rfl, fun i _ hx => (by rw [getD_replicate_false] at hx; cases hx)⟩
  rwa [show n + (l.toArray.size - n) = l.toArray.size by simp; omega] at K
end
end Go.Proofs.Ytckmdofmplkdfaa

/- SszParts answers true. -/
namespace Go.Proofs.Ytckmdofmplkdfaa
open Go.RowKit Go.Shelf
set_option linter.unusedVariables false
set_option linter.unusedSimpArgs false
set_option maxRecDepth 100000

theorem IsBs.form {w : World} {v : Value} {bss : List (List Nat)} (h : IsBs w v bss) : ∃ ao cap, v = .slice ao bss.length cap := by
  obtain ⟨ao, cap, rfl, _⟩ := h; exact ⟨ao, cap, rfl⟩
theorem run_notB {o : Oper} {a : Act} {w : World} (x : Operand) (ho : o.op = .unOp .not 4 x) (m : Bool) (hx : a.eval x = .bool m) : (execOp a.eval o).run Try.prog w = .ok (.value (.bool (!m))) w := by
  unfold execOp
  simp only [ho, hx]
  simp [go_sem]
theorem run_pickT {o : Oper} {a : Act} {w : World} (x y : Operand) (ho : o.op = .pick x (.const (.bool true)) y) (hx : a.eval x = .bool false) (b : Bool) (hy : a.eval y = .bool b) : (execOp a.eval o).run Try.prog w = .ok (.value (.bool b)) w := by
  unfold execOp
  simp only [ho, hx, hy]
  simp [go_sem]
theorem apart_max (bs : List Nat) (limit N : Int) (h : limit ≤ 0 ∧ N = 0 ∨ 0 ≤ limit ∧ N = limit) : apartO bs N = apartO bs limit := by
  rcases h with ⟨h, rfl⟩ | ⟨_, rfl⟩
  · unfold apartO
    by_cases h0 : bs.length = 0
    · rw [if_pos h0, if_pos h0]
    · rw [if_neg h0, if_neg h0]
      simp only
      by_cases hz : tk (bs.take 4) / 4 = 0
      · rw [if_pos (by omega), if_pos (by omega)]
      · rw [if_pos (by omega), if_pos (by omega)]
  · rfl
/-- The kinds, laid. -/
structure Laid5 (s : Nat) (N : Int) (w : World) : Prop where
  p0 : w.cell? ⟨s, 0, none⟩ = some (.int .i64 6)
  p1 : w.cell? ⟨s, 1, none⟩ = some (.int .i64 8)
  q3 : w.cell? ⟨s + 1, 0, none⟩ = some (.pointer (some ⟨s, 0, none⟩))
  q0 : w.cell? ⟨s + 2, 0, none⟩ = some (.int .i64 5)
  q1 : w.cell? ⟨s + 2, 1, none⟩ = some (.int .i64 5000)
  q2 : w.cell? ⟨s + 2, 2, none⟩ = some (.slice (some ⟨s + 1, 0, none⟩) 1 1)
  d3 : w.cell? ⟨s + 3, 0, none⟩ = some (.pointer (some ⟨s + 2, 0, none⟩))
  d0 : w.cell? ⟨s + 4, 0, none⟩ = some (.int .i64 5)
  d1 : w.cell? ⟨s + 4, 1, none⟩ = some (.int .i64 N)
  d2 : w.cell? ⟨s + 4, 2, none⟩ = some (.slice (some ⟨s + 3, 0, none⟩) 1 1)
theorem Laid5.keep {s : Nat} {N : Int} {w w' : World} (h : Laid5 s N w) (hb : Below w.heap.size w w') : Laid5 s N w' :=
  ⟨cell_keep hb h.p0, cell_keep hb h.p1, cell_keep hb h.q3, cell_keep hb h.q0, cell_keep hb h.q1, cell_keep hb h.q2, cell_keep hb h.d3, cell_keep hb h.d0, cell_keep hb h.d1, cell_keep hb h.d2⟩
def lay5 (w : World) (N : Int) : World :=
  ((((w.alloc (.cells #[.int .i64 6, .int .i64 8, .slice none 0 0] 33)).alloc (.cells #[.pointer (some ⟨w.heap.size, 0, none⟩)] 30)).alloc (.cells #[.int .i64 5, .int .i64 5000, .slice (some ⟨w.heap.size + 1, 0, none⟩) 1 1] 33)).alloc (.cells #[.pointer (some ⟨w.heap.size + 1 + 1, 0, none⟩)] 30)).alloc (.cells #[.int .i64 5, .int .i64 N, .slice (some ⟨w.heap.size + 1 + 1 + 1, 0, none⟩) 1 1] 33)
theorem lay5_laid (w : World) (N : Int) : Laid5 w.heap.size N (lay5 w N) ∧ Below w.heap.size w (lay5 w N) ∧ (lay5 w N).heap.size = w.heap.size + 5 := by
  have step : ∀ (v : World) (o : Obj), Below v.heap.size v (v.alloc o) ∧ (v.alloc o).heap.size = v.heap.size + 1 ∧ (v.alloc o).heap[v.heap.size]? = some o := fun v o => ⟨(Below.refl _ _).alloc (Nat.le_refl _) _, by simp, heap_alloc_new v o⟩
  unfold lay5
  obtain ⟨b1, s1, h1⟩ := step w (.cells #[.int .i64 6, .int .i64 8, .slice none 0 0] 33)
  generalize w.alloc (.cells #[.int .i64 6, .int .i64 8, .slice none 0 0] 33) = w1 at *
  obtain ⟨b2, s2, h2⟩ := step w1 (.cells #[.pointer (some ⟨w.heap.size, 0, none⟩)] 30)
  generalize w1.alloc (.cells #[.pointer (some ⟨w.heap.size, 0, none⟩)] 30) = w2 at *
  obtain ⟨b3, s3, h3⟩ := step w2 (.cells #[.int .i64 5, .int .i64 5000, .slice (some ⟨w.heap.size + 1, 0, none⟩) 1 1] 33)
  generalize w2.alloc (.cells #[.int .i64 5, .int .i64 5000, .slice (some ⟨w.heap.size + 1, 0, none⟩) 1 1] 33) = w3 at *
  obtain ⟨b4, s4, h4⟩ := step w3 (.cells #[.pointer (some ⟨w.heap.size + 1 + 1, 0, none⟩)] 30)
  generalize w3.alloc (.cells #[.pointer (some ⟨w.heap.size + 1 + 1, 0, none⟩)] 30) = w4 at *
  obtain ⟨b5, s5, h5⟩ := step w4 (.cells #[.int .i64 5, .int .i64 N, .slice (some ⟨w.heap.size + 1 + 1 + 1, 0, none⟩) 1 1] 33)
  generalize w4.alloc (.cells #[.int .i64 5, .int .i64 N, .slice (some ⟨w.heap.size + 1 + 1 + 1, 0, none⟩) 1 1] 33) = w5 at *
  clear step
  have e2 : w1.heap.size = w.heap.size + 1 := s1
  have e3 : w2.heap.size = w.heap.size + 2 := by omega
  have e4 : w3.heap.size = w.heap.size + 3 := by omega
  have e5 : w4.heap.size = w.heap.size + 4 := by omega
  rw [e2] at h2
  rw [e3] at h3
  rw [e4] at h4
  rw [e5] at h5
  have c : ∀ {v : World} {g j : Nat} {cs : Array Value} {t : TypeId} {x : Value}, v.heap[g]? = some (.cells cs t (0, 0)) → cs[j]? = some x → v.cell? ⟨g, j, none⟩ = some x := fun {v g j cs t x} h hx => by rw [cell_of_row v g j _ _ (0, 0) h]; exact hx
  have k4 : ∀ {p : Addr} {x : Value}, w4.cell? p = some x → w5.cell? p = some x := fun h => cell_keep b5 h
  have k3 : ∀ {p : Addr} {x : Value}, w3.cell? p = some x → w5.cell? p = some x := fun h => k4 (cell_keep b4 h)
  have k2 : ∀ {p : Addr} {x : Value}, w2.cell? p = some x → w5.cell? p = some x := fun h => k3 (cell_keep b3 h)
  have k1 : ∀ {p : Addr} {x : Value}, w1.cell? p = some x → w5.cell? p = some x := fun h => k2 (cell_keep b2 h)
  refine ⟨⟨k1 (c h1 rfl), k1 (c h1 rfl), k2 (c h2 rfl), k3 (c h3 rfl), k3 (c h3 rfl), k3 (c h3 rfl), k4 (c h4 rfl), c h5 rfl, c h5 rfl, c h5 rfl⟩, ?_, by omega⟩
  exact (((b1.trans (b2.mono (by omega))).trans (b3.mono (by omega))).trans (b4.mono (by omega))).trans (b5.mono (by omega))
set_option maxHeartbeats 4000000 in
theorem parts_walk (v0 : Value) (bs : List Nat) (limit : Int) (w : World) (hB : IsB w v0 bs) (hlim : -9223372036854775808 ≤ limit ∧ limit ≤ 9223372036854775807) :
    Calls Try.prog 4 #[v0, .int .i64 limit] w fun e w' => e = .returned (.bool true) ∧ Below w.heap.size w w' := by
  have HB := hid hB
  obtain ⟨⟨ao, cap, rfl, hcap, hmx, hnil, hR⟩, h8⟩ := hB
  have hcm2 : cap ≤ 9223372036854775807 := by have : maxLen ≤ 9223372036854775807 := by decide
                                              omega
  have H8 := hid h8
  clear h8 hR hnil hmx
  obtain ⟨r, hr⟩ : ∃ r, bs.length = r := ⟨_, rfl⟩
  have HR := hid hr
  rw [hr] at hcap ⊢
  have HBR : Hid (IsB w (.slice ao r cap) bs) := hid (by have := HB.out; rwa [hr] at this)
  clear hr HB
  go_enter Try.func4, Try.ntmps4
  go_wp2_with fail
  refine (awake_any w).mono ?_
  rintro e w1 ⟨rfl, B1⟩
  have HB1 := hid B1
  clear B1
  by_cases h3 : (3000 : Int) < (r : Int)
  · go_wp2
    go_ret
    exact ⟨rfl, HB1.out⟩
  obtain ⟨N, hN⟩ : ∃ N : Int, (if limit < 0 then 0 else limit) = N := ⟨_, rfl⟩
  have hNb : -9223372036854775808 ≤ N ∧ N ≤ 9223372036854775807 := by rw [← hN]; split <;> omega
  have HN := hid (apart_max bs limit N (by rw [← hN]; split <;> omega))
  have HL := hid (lay5_laid w1 N)
  have how := own_bytes (lay5 w1 N)
  rw [HL.out.2.2] at how
  have HOW := hid how
  have hb5 : Below (lay5 w1 N).heap.size (lay5 w1 N) ((lay5 w1 N).alloc (.cells #[] 5)) := (Below.refl _ _).alloc (Nat.le_refl _) _
  have HB5 := hid hb5
  have hbw := below_more (below_more HB1.out HL.out.2.1 (Nat.le_refl _)) hb5 (Nat.le_refl _)
  have HSRC := hid (show Src Try.prog 1 24 (.slice ao r cap) bs.length (cellsB bs) ((lay5 w1 N).alloc (.cells #[] 5)) from (HBR.out.keep hbw).src)
  have HSZ : Hid (w1.heap.size + 5 ≤ ((lay5 w1 N).alloc (.cells #[] 5)).heap.size) := hid (by rw [World.size_alloc, HL.out.2.2]; omega)
  have HLN : Hid (([] : List Nat).length + bs.length ≤ 140737488355328) := hid (by rw [HR.out]; simp; omega)
  clear how hb5 hbw
  go_wp2_with (at_builtin; refine wpList_append_b rfl (.tmp 26) (.tmp 27) 24 rfl (w1.heap.size + 5) _ [] rfl HOW.out (.slice ao r cap) bs rfl HSRC.out HLN.out HSZ.out ?_; intro v4 w4 r1 r2 r3)
  have HLA : Hid (Laid5 w1.heap.size N w4 ∧ Below w.heap.size w w4) := by
    have h5 := HB5.out
    have hg := below_grownR h5 HOW.out (by rw [HL.out.2.2]; exact Nat.le_refl _) r2
    exact hid ⟨HL.out.1.keep hg, below_more (below_more HB1.out HL.out.2.1 (Nat.le_refl _)) hg (Nat.le_refl _)⟩
  have hI4 := r1.isB H8.out
  rw [List.nil_append] at hI4
  have HI4 := hid hI4
  have hv4 : ∃ a c, v4 = .slice a r c := by
    obtain ⟨⟨a, c, e, _⟩, _⟩ := hI4
    rw [HR.out] at e
    exact ⟨a, c, e⟩
  obtain ⟨a4, c4, rfl⟩ := hv4
  clear r1 r2 r3 hI4 HL HOW HB5 HSRC HSZ HLN
  obtain ⟨s, hs⟩ : ∃ s, w1.heap.size = s := ⟨_, rfl⟩
  rw [hs] at HLA ⊢
  simp only [Nat.add_assoc, Nat.reduceAdd]
  clear hs hN
  go_wp2_with fail
  refine (apart_any _ bs limit w4 HI4.out (by rw [HR.out]; omega) hlim).mono ?_
  rintro e w5 ⟨hres, B5⟩
  have HLB := hid (And.intro (HLA.out.1.keep B5) (below_more HLA.out.2 B5 (Nat.le_refl _)))
  have HDEC := hid (fun wq (hb : Below w5.heap.size w5 wq) => decode_parts (s + 4) (s + 3) 0 1 (s + 2) (s + 1) 0 1 s N (.slice ao r cap) bs wq (HBR.out.keep (below_more HLB.out.2 hb (Nat.le_refl _))) (by rw [HR.out]; omega) hNb (HLB.out.1.keep hb).d0 (HLB.out.1.keep hb).d1 (HLB.out.1.keep hb).d2 (HLB.out.1.keep hb).d3 (HLB.out.1.keep hb).q0 (HLB.out.1.keep hb).q1 (HLB.out.1.keep hb).q2 (HLB.out.1.keep hb).q3 (HLB.out.1.keep hb).p0 (HLB.out.1.keep hb).p1)
  clear B5 HLA HI4 hNb
  rcases hres with ⟨bss, ug, hap, rfl, hIG⟩ | ⟨hap, rfl⟩
  · have hG : (apartO bs N).isSome = true := by rw [HN.out, hap]; rfl
    have hK : ((apartO bs N).getD []).length = bss.length := by rw [HN.out, hap]; rfl
    have HD2 := HDEC.out w5 (Below.refl _ _)
    rw [hG, hK] at HD2
    have HJB := hid (join_back bs limit bss H8.out hap)
    obtain ⟨ga, gc, rfl⟩ := hIG.form
    have HIG := hid hIG
    have HDD := hid HD2
    have hkl : bss.length ≤ 1000 := by
      have := joinB_length bss
      rw [HJB.out, HR.out] at this
      omega
    have hlb : lenB bss ≤ 3000 := by
      have := joinB_length bss
      rw [HJB.out, HR.out] at this
      omega
    clear hIG HD2 hap hG hK HDEC HN
    go_wp2_with fail
    refine HDD.out.mono ?_
    rintro e w6 ⟨u, rfl, ⟨ua, uc, rfl⟩, B6⟩
    have HY := hid (And.intro (HIG.out.keep B6) (below_more HLB.out.2 B6 (Nat.le_refl _)))
    clear B6 HDD HIG HLB
    simp only [if_true]
    go_wp2_with ((with_reducible refine at_list' ?_); first
      | (refine wpList_alloc_c Try.ty39 rfl 8 rfl rfl ?_; intro w7 H7 B7 S7)
      | (refine wpList_store_c Try.ty39 rfl (.tmp 8) (.tmp 37) rfl w6.heap.size (valL 0 (zeros 32) nilS (.slice ua bss.length uc)) rfl rfl (by rw [valL_length _ _ _ _ zeros32, valL_length _ _ _ _ zeros32]) (valL_oneC _ _ _ _ trivial trivial) _ H7 rfl ?_; intro w8 H8' O8; have c34 := H8'.cell (valL_34 0 (zeros 32) nilS (.slice ua bss.length uc) zeros32)))
    have hb8 := below_only B7 O8 (Nat.le_refl _)
    have HW := hid (below_more HY.out.2 hb8 (Nat.le_refl _))
    have HG8 := hid (HY.out.1.keep hb8)
    have HJ := hid (fun wq (hb : Below w8.heap.size w8 wq) => (join_any (.slice ga bss.length gc) bss wq (HG8.out.keep hb) (by omega) (by omega)).mono (fun e w' h => show ∃ u, e = .returned u ∧ IsB w' u bs ∧ Below wq.heap.size wq w' from by
      obtain ⟨u, h1, h2, h3⟩ := h
      rw [HJB.out] at h2
      exact ⟨u, h1, h2.isB H8.out, h3⟩))
    clear hb8 H7 B7 S7 O8 c34 H8' HY
    refine wp_region_flowM 10 10 (fun i v wq => match i with
      | 0 => v = .bool true
      | 1 => v = .bool false
      | 2 => v = .bool false
      | 3 => v = .slice ga bss.length gc
      | 4 => IsB wq v bs
      | 5 => v = .string (strOf bs)
      | 6 => v = .slice ao r cap
      | 7 => v = .string (strOf bs)
      | 8 => v = .bool true
      | _ => v = .bool true) (by kernel_rfl) (by kernel_rfl) (fun _ d _ _ _ h => by cases d <;> exact h) ?_ ?_ ?_ ?_ ?_
    · intro i o g b hi ho hg v wq hv
      match i, hi with
      | 0, _ => cases ho; cases hg
      | 1, _ => cases ho; cases hg
      | 2, _ => cases ho; cases hg
      | 3, _ => cases ho; cases hg; exact hv
      | 4, _ => cases ho; cases hg; exact hv
      | 5, _ => cases ho; cases hg; exact hv
      | 6, _ => cases ho; cases hg; exact hv
      | 7, _ => cases ho; cases hg; exact hv
      | 8, _ => cases ho; cases hg; exact hv
      | 9, _ => cases ho; cases hg
      | (k + 10), hk => exact absurd hk (by omega)
    · intro i v wq wq' hi hv hb
      match i, hi with
      | 0, _ => exact hv
      | 1, _ => exact hv
      | 2, _ => exact hv
      | 3, _ => exact hv
      | 4, _ => exact hv.keep hb
      | 5, _ => exact hv
      | 6, _ => exact hv
      | 7, _ => exact hv
      | 8, _ => exact hv
      | 9, _ => exact hv
      | (k + 10), hk => exact absurd hk (by omega)
    · intro i o hi ho aq wq hc hk hdep
      match i, hi with
      | 0, _ =>
        cases ho
        exact flow_move (.tmp 9) rfl (hk 9 (by decide))
      | 1, _ =>
        cases ho
        have e0 : aq.tmps.getD 64 undef = .bool true := hdep 0 64 rfl (by kernel_rfl)
        exact flow_value _ (run_notB (.tmp 64) rfl true e0) rfl
      | 2, _ =>
        cases ho
        exact flow_move (.tmp 65) rfl (hdep 1 65 rfl (by kernel_rfl))
      | 3, _ =>
        cases ho
        exact flow_move (.tmp 6) rfl (hk 6 (by decide))
      | 4, _ =>
        cases ho
        have e0 : aq.tmps.getD 67 undef = .slice ga bss.length gc := hdep 3 67 rfl (by kernel_rfl)
        refine flow_fun 6 _ _ rfl (fun _ _ => by simp [go_sem]) #[.slice ga bss.length gc] (by rw [show (#[Operand.tmp 67] : Array Operand).map aq.eval = #[aq.tmps.getD 67 undef] from by simp [Act.eval], e0]) ?_
        refine (HJ.out wq hc.bel).mono ?_
        rintro e w' ⟨u, rfl, R, B⟩
        exact ⟨_, rfl, R, B⟩
      | 5, _ =>
        cases ho
        have e0 : IsB wq (aq.tmps.getD 68 undef) bs := hdep 4 68 rfl (by kernel_rfl)
        exact flow_value _ (rconv (.tmp 68) rfl e0) rfl
      | 6, _ =>
        cases ho
        exact flow_move (.tmp 0) rfl (hk 0 (by decide))
      | 7, _ =>
        cases ho
        have e0 : aq.tmps.getD 70 undef = .slice ao r cap := hdep 6 70 rfl (by kernel_rfl)
        exact flow_value _ (rconv (.tmp 70) rfl (by show IsB wq (aq.tmps.getD 70 undef) bs; rw [e0]; exact HBR.out.keep (below_more HW.out hc.bel (Nat.le_refl _)))) rfl
      | 8, _ =>
        cases ho
        have e0 : aq.tmps.getD 69 undef = .string (strOf bs) := hdep 5 69 rfl (by kernel_rfl)
        have e1 : aq.tmps.getD 71 undef = .string (strOf bs) := hdep 7 71 rfl (by kernel_rfl)
        exact flow_value _ (reqs (.tmp 69) (.tmp 71) rfl e0 e1) (congrArg Value.bool (by simp))
      | 9, _ =>
        cases ho
        have e0 : aq.tmps.getD 66 undef = .bool false := hdep 2 66 rfl (by kernel_rfl)
        have e1 : aq.tmps.getD 72 undef = .bool true := hdep 8 72 rfl (by kernel_rfl)
        exact flow_value _ (run_pickT (.tmp 66) (.tmp 72) rfl e0 true e1) rfl
      | (k + 10), hk => exact absurd hk (by omega)
    · intro o h10 ho
      omega
    intro vf w9 hc hv
    have e73 : vf 9 = _ := hv 9 73 (by decide) rfl
    clear hv
    simp only [List.take_succ_cons, List.take_zero, List.drop_succ_cons, List.drop_zero, putAll, Act.put, List.setIfInBounds_toArray, List.set_cons_succ, List.set_cons_zero]
    rw [e73]
    have HE := hid (below_more HW.out hc.bel (Nat.le_refl _))
    clear e73 hc
    go_wp2
    go_ret
    exact ⟨rfl, HE.out⟩
  · have hG : (apartO bs N).isSome = false := by rw [HN.out, hap]; rfl
    obtain ⟨K, hK⟩ : ∃ K, ((apartO bs N).getD []).length = K := ⟨_, rfl⟩
    have HD2 := HDEC.out w5 (Below.refl _ _)
    rw [hG, hK] at HD2
    have HDD := hid HD2
    clear HD2 hap hG hK HDEC HN
    go_wp2_with fail
    refine HDD.out.mono ?_
    rintro e w6 ⟨u, rfl, ⟨ua, uc, rfl⟩, B6⟩
    have HY := hid (below_more HLB.out.2 B6 (Nat.le_refl _))
    clear B6 HDD HLB
    simp only [if_neg (show ¬ (false = true) by decide)]
    go_wp2_with ((with_reducible refine at_list' ?_); first
      | (refine wpList_alloc_c Try.ty39 rfl 8 rfl rfl ?_; intro w7 H7 B7 S7)
      | (refine wpList_store_c Try.ty39 rfl (.tmp 8) (.tmp 37) rfl w6.heap.size (valL 0 (zeros 32) nilS (.slice ua 0 uc)) rfl rfl (by rw [valL_length _ _ _ _ zeros32, valL_length _ _ _ _ zeros32]) (valL_oneC _ _ _ _ trivial trivial) _ H7 rfl ?_; intro w8 H8' O8; have c34 := H8'.cell (valL_34 0 (zeros 32) nilS (.slice ua 0 uc) zeros32)))
    have HW := hid (below_more HY.out (below_only B7 O8 (Nat.le_refl _)) (Nat.le_refl _))
    clear H7 B7 S7 O8 c34 H8' HY
    go_quiet (fail)
    go_wp2
    go_ret
    exact ⟨rfl, below_drew0 HW.out _⟩
end Go.Proofs.Ytckmdofmplkdfaa

/- Bytes that came in. -/
namespace Go.Proofs.Ytckmdofmplkdfaa
open Go.RowKit Go.Deep Go.ChangeShapes Go.WideShapes Go.ChangeAt
set_option linter.unusedVariables false

theorem cells5 : Try.prog.cellsOf 5 = 1 := by kernel_rfl
theorem bytes5 : Try.prog.bytesOf 5 = 1 := by kernel_rfl
section
variable {H : Type} {enc : TypeId × Value → H} {W : World} {b0 : Nat} {sp : Nat → Bool} {held : Bool}
theorem b_of_trod {fuel : Nat} {cs : List Value} {x : DataW H × List MemPlace} (h : DataW.trod enc Try.prog W b0 sp held fuel 24 cs = some x) :
    ∃ v bs, cs = [v] ∧ IsB W v bs ∧ (bs.length = 0 ∨ ∃ n, bs.length ≤ n ∧ n ∈ x.1.weights Try.prog 24) := by
  rcases open_ints Try.underlying24 Try.underlying5 cells5 h with ⟨rfl, _⟩ | ⟨a, len, cap, zs, rfl, _, hl, hm, hz, hx, hcell, hwz⟩
  · exact ⟨_, [], rfl, ⟨⟨none, 0, rfl, Nat.le_refl _, by decide, fun _ => rfl, .inl rfl⟩, fun z hz => by cases hz⟩, .inl rfl⟩
  · have hzl : len ≤ zs.length := by rw [hz]; split <;> omega
    have hbl : ((zs.take len).map Int.toNat).length = len := by simp; omega
    refine ⟨_, (zs.take len).map Int.toNat, rfl, ⟨⟨some a, cap, by rw [hbl], by omega, hm, (fun e => by cases e), ?_⟩, fun z hz' => ?_⟩, .inr ⟨(((zs.take len).length) + (zs.drop len).length) * 1, by rw [hbl]; simp; omega, ?_⟩⟩
    · by_cases h0 : len = 0
      · exact .inl (by rw [hbl]; exact h0)
      · obtain ⟨b, off, rfl, hc'⟩ := ints_at hcell (by omega)
        refine .inr ⟨b, off, rfl, fun i hi => ?_⟩
        rw [hbl] at hi
        rw [hc' i (by omega)]
        have hb := bounds_u8 (hwz (zs.getD i 0) (by rw [List.getD_eq_getElem?_getD, List.getElem?_eq_getElem (by omega)]; exact List.getElem_mem _))
        have e : ((zs.take len).map Int.toNat).getD i 0 = (zs.getD i 0).toNat := by
          simp [List.getD_eq_getElem?_getD, hi, show i < zs.length by omega]
        rw [e]
        congr 2
        omega
    · obtain ⟨y, hy, rfl⟩ := List.mem_map.1 hz'
      have := bounds_u8 (hwz y (List.mem_of_mem_take hy))
      omega
    · rw [hx]
      simp [DataW.weights, Try.underlying24, bytes5, lits]
/-- Bytes that came in. -/
theorem open_b {v : Value} {d : DataW H} {p : List MemPlace} (hs : ∃ ao len cap, v = .slice ao len cap) (h : DataW.Trod enc Try.prog W b0 sp held 24 v d p) : ∃ bs, IsB W v bs := by
  obtain ⟨fuel, hf⟩ := h
  obtain ⟨v', bs, he, hI, _⟩ := b_of_trod hf
  obtain ⟨ao, len, cap, rfl⟩ := hs
  simp [Value.cells] at he
  subst he
  exact ⟨bs, hI⟩
end
end Go.Proofs.Ytckmdofmplkdfaa

