/- The document's Decode of bits. -/
import Derived.Test.YtckmdofmplkdfaaValM
import Derived.Test.YtckmdofmplkdfaaRefBits2
import Derived.Test.YtckmdofmplkdfaaFlowV
import Derived.Test.YtckmdofmplkdfaaFlowR
namespace Go.Proofs.Ytckmdofmplkdfaa
open Go.RowKit
set_option linter.unusedVariables false
set_option maxRecDepth 100000

set_option maxHeartbeats 400000 in
theorem size_bits (p n : Nat) (w : World) (c0 : w.cell? ⟨p, 0, none⟩ = some (.int .i64 6)) (c1 : w.cell? ⟨p, 1, none⟩ = some (.int .i64 (n : Nat))) (hn : n ≤ 1099511627776) :
    Calls Try.prog 18 #[.pointer (some ⟨p, 0, none⟩)] w fun e w' => e = .returned (.int .i64 (((n + 7) / 8 : Nat) : Int)) ∧ w' = w := by
  go_enter Try.func18, Try.ntmps18
  go_wp2
  go_ret
  exact ⟨ret_int (by omega), rfl⟩
set_option maxHeartbeats 400000 in
theorem size_far (p : Nat) (f : Int) (hf : f = 7 ∨ f = 5) (w : World) (c0 : w.cell? ⟨p, 0, none⟩ = some (.int .i64 f)) :
    Calls Try.prog 18 #[.pointer (some ⟨p, 0, none⟩)] w fun e w' => e = .returned (.int .i64 (-1)) ∧ w' = w := by
  rcases hf with rfl | rfl
  all_goals
    go_enter Try.func18, Try.ntmps18
    go_wp2
    go_ret
    exact ⟨rfl, rfl⟩

set_option maxHeartbeats 1000000 in
theorem decode_few (v : Value) (bs : List Nat) (n p : Nat) (w : World) (hB : IsB w v bs) (c0 : w.cell? ⟨p, 0, none⟩ = some (.int .i64 6)) (c1 : w.cell? ⟨p, 1, none⟩ = some (.int .i64 (n : Nat))) (hn : n ≤ 1099511627776) (hl : bs.length ≤ 100000000000) :
    Calls Try.prog 8 #[.pointer (some ⟨p, 0, none⟩), v] w fun e w' => ∃ u t ok, e = .returned (.tuple #[u, .bool ok]) ∧ IsV w' u t ∧ Below w.heap.size w w' ∧ (ok = true ↔ bs.length = (n + 7) / 8 ∧ putB (bitsL bs n) false = bs) ∧ (ok = true → t = bitsV (bitsL bs n)) := by
  have hB' := hB
  obtain ⟨⟨ao, cap, rfl, hcap, hmx, hnil, hR⟩, h8⟩ := hB
  unfold maxLen at hmx
  by_cases h2 : bs.length = (n + 7) / 8
  · have h2' : (((bs.length : Nat) : Int) != ((n : Int) + 7) / 8) = false := by rw [bne_eq_false_iff_eq]; omega
    have h2a := Nat.le_of_eq h2
    have h2b := Nat.le_of_eq h2.symm
    have H2 := hid h2
    clear h2
    go_enter Try.func8, Try.ntmps8
    apply wp_seq_k; intro _ _
    go_step
    go_step
    refine wpList_alloc_val rfl 4 rfl rfl ?_
    intro w1 H1 B1 S1
    have d0 := (B1.cell (p := ⟨p, 0, none⟩) (block_lt_of_cell c0)).trans c0
    have d1 := (B1.cell (p := ⟨p, 1, none⟩) (block_lt_of_cell c1)).trans c1
    have X1 := hid (And.intro H1 (And.intro B1 (hB'.keep B1)))
    clear H1 B1 S1 c0 c1
    go_wp2_with fail
    refine (size_bits p n _ d0 d1 hn).mono ?_
    rintro e w' ⟨rfl, rfl⟩
    go_wp2_with fail
    refine (rbits_any _ bs n _ X1.out.2.2 (by omega) hn).mono ?_
    rintro e w2 ⟨u2, rfl, hT2, hS2, B2⟩
    have hsl := hT2.sl.ex
    obtain ⟨bo, bl, bc, rfl⟩ := hsl
    have X2 := hid (And.intro (X1.out.1.keep B2) (And.intro (below_more X1.out.2.1 B2 (Nat.le_refl _)) (And.intro (X1.out.2.2.keep B2) (And.intro hT2 hS2))))
    have X1l := hid X1.out.1.lt
    have B2s := hid B2.size
    clear hT2 hS2 B2 X1 d0 d1
    go_wp2_with ((with_reducible refine at_list ?_); first
      | (refine wpList_build rfl _ #[(2, .tmp 67)] rfl #[(2, .slice bo bl bc)] rfl _ (build_bits bo bl bc) ?_)
      | (refine wpList_alloc_val rfl 9 rfl rfl ?_; intro w3 H3 B3 S3)
      | (refine wpList_store_val rfl (.tmp 9) (.tmp 68) rfl w2.heap.size 0 (zeros 32) (.slice bo bl bc) nilS rfl rfl zeros32 trivial trivial _ _ _ _ H3 zeros32 ?_; intro w4 H4 O4))
    have Hg : w.heap.size < w2.heap.size := Nat.lt_of_lt_of_le X1l.out B2s.out
    have B24 : Below w2.heap.size w2 w4 := below_only B3 O4 (Nat.le_refl _)
    have HgL : Hid (w.heap.size < w4.heap.size) := hid (Nat.lt_of_lt_of_le Hg B24.size)
    have HBel := hid (below_more X2.out.2.1 B24 (Nat.le_refl _))
    have HTS := hid (And.intro (X2.out.2.2.2.1.keep B24) (X2.out.2.2.2.2.mono (fun k hk => (show k ≠ w.heap.size by have := X1l.out; omega))))
    have HVg := hid (X2.out.1.keep B24)
    have HCl : Hid (∀ wq, TurnsTo w.heap.size (.cells (valL 0 (zeros 32) (.slice bo bl bc) nilS).toArray 39 (0, 0)) w4 wq → Boxed wq w2.heap.size 0 (zeros 32) (.slice bo bl bc) nilS) := fun wq hc => ⟨hc.range (by omega) (H4.boxed zeros32).all, zeros32⟩
    have HTc : Hid (∀ wq, TurnsTo w.heap.size (.cells (valL 0 (zeros 32) (.slice bo bl bc) nilS).toArray 39 (0, 0)) w4 wq → IsT wq (.slice bo bl bc) (bitsL bs n)) := fun wq hc => hc.isT HTS.out.1 HTS.out.2
    have HBw : Hid (∀ wq, TurnsTo w.heap.size (.cells (valL 0 (zeros 32) (.slice bo bl bc) nilS).toArray 39 (0, 0)) w4 wq → Below w.heap.size w wq) := fun wq hc => HBel.out.trans (hc.below (Nat.le_refl _) HBel.out.size)
    have HBc : Hid (∀ wq, TurnsTo w.heap.size (.cells (valL 0 (zeros 32) (.slice bo bl bc) nilS).toArray 39 (0, 0)) w4 wq → IsB wq (.slice ao bs.length cap) bs) := fun wq hc => hB'.keep (HBw.out wq hc)
    have HOld : Hid (∀ wq, TurnsTo w.heap.size (.cells (valL 0 (zeros 32) (.slice bo bl bc) nilS).toArray 39 (0, 0)) w4 wq → ∃ old, wq.heap[w.heap.size]? = some (.cells old 39 (0, 0)) ∧ old.size = 35) := fun wq hc => by
      rcases hc.self with e | e
      · exact ⟨_, e.trans HVg.out, by simp [valL_length _ _ _ _ zeros32]⟩
      · exact ⟨_, e, by simp [valL_length _ _ _ _ zeros32]⟩
    clear H3 B3 S3 H4 O4 B24 X2
    simp only [Act.put, List.setIfInBounds_toArray, List.set_cons_succ, List.set_cons_zero]
    refine wp_region_flowR (TurnsTo w.heap.size (.cells (valL 0 (zeros 32) (.slice bo bl bc) nilS).toArray 39 (0, 0))) 9 9 (fun i v wq => match i with
      | 0 => v = .agg (valL 0 (zeros 32) (.slice bo bl bc) nilS).toArray
      | 1 => v = .pointer (some ⟨w2.heap.size, 33, none⟩)
      | 2 => v = .slice bo bl bc
      | 3 => IsB wq v (putB (bitsL bs n) false) ∧ inS (fun k => k ≠ w.heap.size) v
      | 4 => v = .string (strOf (putB (bitsL bs n) false))
      | 5 => v = .slice ao bs.length cap
      | 6 => v = .string (strOf bs)
      | 7 => v = .bool (decide (putB (bitsL bs n) false = bs))
      | _ => wq.heap[w.heap.size]? = some (.cells (valL 0 (zeros 32) (.slice bo bl bc) nilS).toArray 39 (0, 0))) (by kernel_rfl) (by kernel_rfl) (TurnsTo.refl _ _) (fun _ _ _ h k => h.trans k) (TurnsTo.drew _ _) (fun _ d _ _ _ h => by cases d <;> exact h) ?_ ?_ ?_ ?_ ?_
    · intro i o g b hi ho hg v wq hv
      match i, hi with
      | 0, _ => cases ho; cases hg
      | 1, _ => cases ho; cases hg
      | 2, _ => cases ho; cases hg
      | 3, _ => cases ho; cases hg
      | 4, _ => cases ho; cases hg
      | 5, _ => cases ho; cases hg
      | 6, _ => cases ho; cases hg
      | 7, _ => cases ho; cases hg
      | 8, _ => cases ho; cases hg
      | (k + 9), hk => exact absurd hk (by omega)
    · intro i v wq wq' hi hv hb
      match i, hi with
      | 0, _ => exact hv
      | 1, _ => exact hv
      | 2, _ => exact hv
      | 3, _ => exact ⟨hb.isB hv.1 hv.2, hv.2⟩
      | 4, _ => exact hv
      | 5, _ => exact hv
      | 6, _ => exact hv
      | 7, _ => exact hv
      | 8, _ => rcases hb.self with e | e; (exact e.trans hv); exact e
      | (k + 9), hk => exact absurd hk (by omega)
    · intro i o hi ho aq wq hc hk hdep
      match i, hi with
      | 0, _ =>
        cases ho
        refine flowR_of (fun w' h => TurnsTo.of_below h (hc.lt HgL.out)) ?_
        have e9 : aq.tmps.getD 9 undef = .pointer (some ⟨w2.heap.size, 0, none⟩) := hk 9 (by decide)
        exact flow_value _ (run_mid 39 (.tmp 9) rfl w2.heap.size 0 e9 _ (HCl.out wq hc).all _ Try.underlying39 rfl (by rw [valL_length _ _ _ _ zeros32]; exact sizeVal)) rfl
      | 1, _ =>
        cases ho
        refine flowR_of (fun w' h => TurnsTo.of_below h (hc.lt HgL.out)) ?_
        have e9 : aq.tmps.getD 9 undef = .pointer (some ⟨w2.heap.size, 0, none⟩) := hk 9 (by decide)
        exact flow_value _ (run_fieldAt 39 (.tmp 9) 2 rfl _ _ e9 (fieldV 2 33 (by simp) _ _)) rfl
      | 2, _ =>
        cases ho
        refine flowR_of (fun w' h => TurnsTo.of_below h (hc.lt HgL.out)) ?_
        have e0 : aq.tmps.getD 70 undef = .pointer (some ⟨w2.heap.size, 33, none⟩) := hdep 1 70 rfl (by kernel_rfl)
        exact flow_value _ (run_cell 36 (.tmp 70) rfl _ e0 _ (HCl.out wq hc).c33 _ Try.underlying36 rfl) rfl
      | 3, _ =>
        cases ho
        refine flowR_of (fun w' h => TurnsTo.of_below h (hc.lt HgL.out)) ?_
        have e0 : aq.tmps.getD 71 undef = .slice bo bl bc := hdep 2 71 rfl (by kernel_rfl)
        refine flow_fun 21 _ _ rfl (fun _ _ => by simp [go_sem]) #[.slice bo bl bc, .bool false] (by rw [show (#[Operand.tmp 71, Operand.const (.bool false)] : Array Operand).map aq.eval = #[aq.tmps.getD 71 undef, .bool false] from by simp [Act.eval], e0]) ?_
        refine (rputBits_any _ (bitsL bs n) false wq (HTc.out wq hc) (by rw [bitsL_length]; exact hn)).mono ?_
        rintro e w' ⟨v', rfl, h1, h2⟩
        exact ⟨_, rfl, ⟨h1.isB (putB_byte _ _), h1.inS.mono (fun k hk => by have := hc.lt HgL.out; omega)⟩, h2⟩
      | 4, _ =>
        cases ho
        refine flowR_of (fun w' h => TurnsTo.of_below h (hc.lt HgL.out)) ?_
        have e0 : IsB wq (aq.tmps.getD 72 undef) (putB (bitsL bs n) false) ∧ inS (fun k => k ≠ w.heap.size) (aq.tmps.getD 72 undef) := hdep 3 72 rfl (by kernel_rfl)
        exact flow_value _ (rconv (.tmp 72) rfl e0.1) rfl
      | 5, _ =>
        cases ho
        refine flowR_of (fun w' h => TurnsTo.of_below h (hc.lt HgL.out)) ?_
        exact flow_move (.tmp 1) rfl (hk 1 (by decide))
      | 6, _ =>
        cases ho
        refine flowR_of (fun w' h => TurnsTo.of_below h (hc.lt HgL.out)) ?_
        have e0 : aq.tmps.getD 74 undef = .slice ao bs.length cap := hdep 5 74 rfl (by kernel_rfl)
        exact flow_value _ (rconv (.tmp 74) rfl (by show IsB wq (aq.tmps.getD 74 undef) bs; rw [e0]; exact HBc.out wq hc)) rfl
      | 7, _ =>
        cases ho
        refine flowR_of (fun w' h => TurnsTo.of_below h (hc.lt HgL.out)) ?_
        have e0 : aq.tmps.getD 73 undef = .string (strOf (putB (bitsL bs n) false)) := hdep 4 73 rfl (by kernel_rfl)
        have e1 : aq.tmps.getD 75 undef = .string (strOf bs) := hdep 6 75 rfl (by kernel_rfl)
        exact flow_value _ (reqs (.tmp 73) (.tmp 75) rfl e0 e1) (congrArg Value.bool (strOf_dec _ _ (putB_byte _ _) h8))
      | 8, _ =>
        cases ho
        have e0 : aq.tmps.getD 69 undef = .agg (valL 0 (zeros 32) (.slice bo bl bc) nilS).toArray := hdep 0 69 rfl (by kernel_rfl)
        have e4 : aq.tmps.getD 4 undef = .pointer (some ⟨w.heap.size, 0, none⟩) := hk 4 (by decide)
        obtain ⟨old, ho1, ho2⟩ := HOld.out wq hc
        exact flowR_store 39 (.tmp 4) (.tmp 69) rfl w.heap.size _ e4 e0 _ old ho1 (by rw [sizeVal]; simp [valL_length _ _ _ _ zeros32]) (by rw [ho2]; simp [valL_length _ _ _ _ zeros32]) (valL_oneC _ _ _ _ trivial trivial) (fun _ h => h)
      | (k + 9), hk => exact absurd hk (by omega)
    · intro o h9 ho
      omega
    intro vf w8 hc hv hs
    have e7 : vf 7 = _ := hv 7 76 (by decide) rfl
    obtain ⟨_, hN8⟩ := hs 8 (by decide) rfl
    clear hv hs
    simp only [List.take_succ_cons, List.take_zero, List.drop_succ_cons, List.drop_zero, putAll, Act.put, List.setIfInBounds_toArray, List.set_cons_succ, List.set_cons_zero]
    rw [e7]
    have HB8 := hid (HBw.out w8 hc)
    have HT8 := hid (HTc.out w8 hc)
    have HN8 : Hid (HasV w8 w.heap.size 0 (zeros 32) (.slice bo bl bc) nilS) := hN8
    clear e7 HBw HTc HBc HCl hc hN8 HOld HVg HTS HBel
    go_wp2
    refine bodyPost_ret (results_val rfl _ _ w.heap.size 0 (zeros 32) (.slice bo bl bc) nilS _ rfl rfl HN8.out zeros32) rfl ?_
    exact ⟨_, _, _, rfl, isV_bits HT8.out, HB8.out, by simp [H2.out], fun _ => rfl⟩
  · have h2' : (((bs.length : Nat) : Int) != ((n : Int) + 7) / 8) = true := by rw [bne_iff_ne]; omega
    have H2 := hid h2
    clear h2
    go_enter Try.func8, Try.ntmps8
    apply wp_seq_k; intro _ _
    go_step
    go_step
    refine wpList_alloc_val rfl 4 rfl rfl ?_
    intro w1 H1 B1 S1
    have d0 := (B1.cell (p := ⟨p, 0, none⟩) (block_lt_of_cell c0)).trans c0
    have d1 := (B1.cell (p := ⟨p, 1, none⟩) (block_lt_of_cell c1)).trans c1
    have X1 := hid (And.intro H1 B1)
    clear H1 B1 S1 c0 c1
    go_wp2_with fail
    refine (size_bits p n _ d0 d1 hn).mono ?_
    rintro e w' ⟨rfl, rfl⟩
    go_wp2_with ((with_reducible refine at_list ?_); first
      | (refine wpList_build rfl _ #[] rfl #[] rfl _ build_none ?_)
      | (refine wpList_store_val rfl (.tmp 4) (.tmp 24) rfl w.heap.size 0 (zeros 32) nilS nilS rfl rfl zeros32 trivial trivial _ _ _ _ X1.out.1 zeros32 ?_; intro w4 H4 O4))
    refine bodyPost_ret (results_val rfl _ _ w.heap.size 0 (zeros 32) nilS nilS _ rfl rfl H4 zeros32) rfl ?_
    exact ⟨_, _, _, rfl, isV_zero _, below_only X1.out.2 O4 (Nat.le_refl _), by simp [H2.out], fun h => by cases h⟩
end Go.Proofs.Ytckmdofmplkdfaa
