/- Own texts of the proof, joined: Shift OwnC RefPair RefZ RefF PlainC PureB PutC MixC MixD RefV RefC ClonC. -/
import Derived.Test.YtakdokccdkhcoaaDoorGrcnts3
import Derived.Laws.AppendOwnNone
import Derived.Great.BuildSlice
import Derived.Laws.BitsLemmas
import Derived.Laws.Bits64b
import Derived.Lib.SliceRun
/- Shifts by a number that is not written out: their values under names of their own. -/
namespace Go.Proofs.YtakdokccdkhcoaaDoor
open Go.RowKit
set_option linter.unusedVariables false
theorem results_tmp_tmp {P : Program} {fn : Func} {p s : Tmp} (h : fn.results = #[.tmp p, .tmp s]) (tmps : Array Value) (w : World) :
    (results fn tmps).run P w = .ok (.tuple #[tmps.getD p undef, tmps.getD s undef]) w := by
  simp [results, h]
theorem RootsAt.away {w w' : World} {ap : Option Addr} {k : Nat} {rs : List (List Nat)} (h : RootsAt w ap rs) (ho : Only k w w') (ha : 0 < rs.length → ∃ b off, ap = some ⟨b, off, none⟩ ∧ b ≠ k) : RootsAt w' ap rs := by
  by_cases h0 : rs.length = 0
  · rw [List.eq_nil_of_length_eq_zero h0]; exact RootsAt.nil _ _
  · obtain ⟨b, off, rfl, hb⟩ := ha (by omega)
    exact h.only ho hb
theorem RootsAt.old {w : World} {ap : Option Addr} {rs : List (List Nat)} (h : RootsAt w ap rs) : 0 < rs.length → ∃ b off, ap = some ⟨b, off, none⟩ ∧ b ≠ w.heap.size := fun h0 => by
  obtain ⟨b, off, e, hc⟩ := h.addr h0
  have hlt : b < w.heap.size := block_lt_of_cell (hc 0 (by omega))
  exact ⟨b, off, e, by omega⟩
section
variable {P : Program} {w : World} {ops : Array Oper} {rest : List Oper} {o : Oper} {a : Act} {Q : Exit → Act → World → Prop}
theorem wpList_run (hgd : o.guard = none) (v : Value) (hrun : (execOp a.eval o).run P w = .ok (.value v) w) (h : wpList P ops Q rest (a.put o.dst v) w) : wpList P ops Q (o :: rest) a w := by
  refine wpList_plain hgd fun K hK => ?_
  unfold Oper.wp
  rw [hrun]
  exact hK _ _ h
theorem run_shl (t u : TypeId) (x y : Operand) (ho : o.op = .binOp .shl t x y u) (c d p : Nat) (hx : a.eval x = .int .i64 (c : Int)) (hy : a.eval y = .int .i64 (d : Int)) (hd : d ≤ 64) (hp : Hid (c * 2 ^ d = p)) (hb : p < 9223372036854775808) :
    (execOp a.eval o).run P w = .ok (.value (.int .i64 (p : Int))) w := by
  have e : (c : Int) * 2 ^ (d : Int).toNat = ((p : Nat) : Int) := by rw [Int.toNat_natCast, ← hp.out]; simp
  have hs := shift_shl_i64 (x := (c : Int)) (yk := .i64) (y := (d : Int)) (by omega) (by omega)
  rw [e, IntKind.wrap_i64, show ((p : Int) + 9223372036854775808) % 18446744073709551616 - 9223372036854775808 = (p : Int) by omega] at hs
  have hb2 : binOp .shl t (.int .i64 (c : Int)) (.int .i64 (d : Int)) = pure (.int .i64 (p : Int)) := by rw [binOp_shl, hs]
  unfold execOp
  simp only [ho, hx, hy]
  simp [hb2, eqGuard_shl]
theorem run_shr (t u : TypeId) (x y : Operand) (ho : o.op = .binOp .shr t x y u) (n d q : Nat) (hx : a.eval x = .int .i64 (n : Int)) (hy : a.eval y = .int .i64 (d : Int)) (hd : d ≤ 64) (hq : Hid (n / 2 ^ d = q)) :
    (execOp a.eval o).run P w = .ok (.value (.int .i64 (q : Int))) w := by
  have e : (n : Int) / 2 ^ min (d : Int).toNat 64 = ((q : Nat) : Int) := by rw [Int.toNat_natCast, Nat.min_eq_left hd, ← hq.out]; simp
  have hs := shift_shr_any .i64 .i64 (n : Int) (d : Int) (by omega)
  rw [show IntKind.i64.bits = 64 from rfl, e] at hs
  have hb2 : binOp .shr t (.int .i64 (n : Int)) (.int .i64 (d : Int)) = pure (.int .i64 (q : Int)) := by rw [binOp_shr, hs]
  unfold execOp
  simp only [ho, hx, hy]
  simp [hb2, eqGuard_shr]
theorem xor_i64 (a b : Nat) (ha : a < 9223372036854775808) (hb : b < 9223372036854775808) : bits .xor .i64 (a : Int) (b : Int) = ((a ^^^ b : Nat) : Int) := by
  have hx : a ^^^ b < 2 ^ 63 := Nat.xor_lt_two_pow (by omega) (by omega)
  show IntKind.i64.wrap ((BitVec.ofInt 64 (a : Int) ^^^ BitVec.ofInt 64 (b : Int)).toNat : Int) = _
  rw [BitVec.toNat_xor, ofInt_u64 a (by omega), ofInt_u64 b (by omega), IntKind.wrap_i64]
  omega
theorem run_xor (t u : TypeId) (x y : Operand) (ho : o.op = .binOp .xor t x y u) (n m q : Nat) (hx : a.eval x = .int .i64 (n : Int)) (hy : a.eval y = .int .i64 (m : Int)) (hn : n < 9223372036854775808) (hm : m < 9223372036854775808) (hq : Hid (n ^^^ m = q)) :
    (execOp a.eval o).run P w = .ok (.value (.int .i64 (q : Int))) w := by
  have e := xor_i64 n m hn hm
  rw [hq.out] at e
  unfold execOp
  simp only [ho, hx, hy]
  simp [e, go_sem]
end
end Go.Proofs.YtakdokccdkhcoaaDoor

/- Contracts of the statements' own: a list of its own; and of merkle's Branch. -/
namespace Go.Proofs.YtakdokccdkhcoaaDoor
set_option maxRecDepth 100000
open Go.RowKit
set_option linter.unusedVariables false

theorem own_none (w : World) : (w.alloc (.cells #[] 24)).ownsRow w.heap.size 24 32 (.slice (some ⟨w.heap.size, 0, none⟩) 0 0) 0 (cellsOf []) :=
  ⟨rfl, .inr ⟨w.heap.size, 0, #[], rfl, Nat.le_refl _, heap_alloc_new w _, Nat.le_refl _, Nat.zero_le _, rfl, rfl⟩⟩
theorem below_grownR {w w' : World} {v : Value} {B e n s : Nat} {xs : List Value} {W : World} (hW : Below W.heap.size W w) (hown : w.ownsRow B e s v n xs) (hB : W.heap.size ≤ B) (h : w.grownBy w' v.ownBlock) : Below W.heap.size W w' :=
  hW.grown h hW.size (fun k hk => Nat.le_trans hB (hown.lt k hk).1)

end Go.Proofs.YtakdokccdkhcoaaDoor

/- Contract of the document's Pair. -/
namespace Go.Proofs.YtakdokccdkhcoaaDoor
set_option maxRecDepth 100000
open Go.RowKit
set_option linter.unusedVariables false

set_option maxRecDepth 100000 in
set_option maxHeartbeats 1000000 in
theorem rpair_any (a b : List Nat) (ha : a.length = 32) (hb : b.length = 32) (hba : ∀ z ∈ a, z < 256) (hbb : ∀ z ∈ b, z < 256) (w : World) :
    Calls Tryd.prog 59 #[.agg (nums .u8 a), .agg (nums .u8 b)] w fun e w' => e = .returned (.agg (nums .u8 (sha (a ++ b)))) ∧ Below w.heap.size w w' := by
  go_enter Tryd.func59, Tryd.ntmps59
  go_wp2_with (first
    | (refine wpList_box_has rfl 2 rfl 23 (.tmp 0) rfl .u8 a rfl ?_; intro w1 H1 B1 S1; replace S1 := hid S1)
    | (refine wpList_box_has rfl 3 rfl 23 (.tmp 1) rfl .u8 b rfl ?_; intro w2 H2 B2 S2; replace S2 := hid S2)
    | (refine wpList_alloc_has rfl 4 rfl 23 rfl .u8 32 Tryd.zero23 ?_; intro w3 H3 B3 S3; replace S3 := hid S3)
    | (refine wpList_make_has rfl (.const (.int .i64 64)) (.const (.int .i64 64)) 67 rfl 5 .u8 Tryd.underlying67 Tryd.zero5 .i64 .i64 _ _ 64 rfl rfl rfl rfl (by decide) ?_; intro w4 H4 B4))
  have HA4 : Has w4 w.heap.size 23 .u8 a := ((H1.keep B2).keep B3).keep B4
  have HB4 : Has w4 w1.heap.size 23 .u8 b := (H2.keep B3).keep B4
  have HC4 : Has w4 w2.heap.size 23 .u8 (zeros 32) := H3.keep B4
  have HW4 : Below w.heap.size w w4 := below_more (below_more (below_more B1 B2 (Nat.le_refl _)) B3 (Nat.le_refl _)) B4 (Nat.le_refl _)
  have n1 : w.heap.size < w1.heap.size := by have := S1.out; omega
  have n2 : w1.heap.size < w2.heap.size := by have := S2.out; omega
  have n3 : w2.heap.size < w3.heap.size := by have := S3.out; omega
  clear H1 B1 H2 B2 H3 B3 B4 S1 S2 S3
  generalize w1.heap.size = Bb at *
  generalize w2.heap.size = Rb at *
  generalize w3.heap.size = Mb at *
  go_loopw [6] (fun i wr => ∃ t : Nat, t ≤ 32 ∧ i = .int .i64 t ∧ Has wr Mb 5 .u8 (pairUp a b t) ∧ Has wr w.heap.size 23 .u8 a ∧ Has wr Bb 23 .u8 b ∧ Has wr Rb 23 .u8 (zeros 32) ∧ Below w.heap.size w wr) (fun i _ => 32 - (intOf i).toNat)
  case atStart => exact ⟨0, by omega, rfl, by rw [pairUp]; exact H4, HA4, HB4, HC4, HW4⟩
  case round =>
    clear H4 HA4 HB4 HC4 HW4
    obtain ⟨t, ht, rfl, HM, HA, HB, HC, HW⟩ := hrel
    by_cases hlt : t < 32
    · have c0 := HA.cell t (by omega)
      have c1 := HB.cell t (by omega)
      have c2 := HM.cell t (by rw [pairUp_length]; omega)
      have c3 := HM.cell (32 + t) (by rw [pairUp_length]; omega)
      have f2 := HM.frozen t
      have f3 := HM.frozen (32 + t)
      have et : ((32 : Int) + (t : Int)).toNat = 32 + t := by omega
      have HS : Same (pairUp a b (t + 1)) (((pairUp a b t).set t (a.getD t 0)).set (32 + t) (b.getD t 0)) := ⟨by rw [pairUp]⟩
      generalize a.getD t 0 = x at *
      generalize b.getD t 0 = y at *
      generalize pairUp a b t = pl at *
      go_wp2
      go_roundw
      case rel =>
        have HO1 := Only.setCell wr Mb t (.int .u8 (x : Nat))
        have HO2 := HO1.trans (Only.setCell _ Mb (32 + t) (.int .u8 (y : Nat)))
        exact ⟨t + 1, by omega, by go_num, by rw [HS.out]; exact (HM.set t _).set (32 + t) _, HA.only HO2 (by omega), HB.only HO2 (by omega), HC.only HO2 (by omega), below_only HW HO2 (by omega)⟩
      case measure => simp [intOf]; omega
    · have ht2 : t = 32 := by omega
      subst ht2
      rw [pairUp_all a b ha hb] at HM
      have hab : (a ++ b).length = 64 := by rw [List.length_append, ha, hb]
      have HOR := rof_any (some ⟨Mb, 0, none⟩) 64 (a ++ b) wr (by omega) (by unfold maxLen; omega) (by omega) (fun z hz => by
        rcases List.mem_append.1 hz with hz | hz
        · exact hba z hz
        · exact hbb z hz) (.inr ⟨Mb, 0, rfl, fun i hi => by rw [Nat.zero_add]; exact HM.cell i hi⟩)
      rw [hab] at HOR
      have HOQ := hid HOR
      clear HOR hab
      go_wp2_with (first
        | (go_at_call 65; refine HOQ.out.mono ?_; rintro e w7 ⟨rfl, B7⟩)
        | (refine wpList_store_has rfl 23 (.tmp 4) (.tmp 26) rfl Rb .u8 (sha (a ++ b)) (zeros 32) rfl rfl 23 (HC.keep B7) (by rw [sha_length]; exact Tryd.size23) (by rw [sha_length, zeros_length]) ?_; intro w9 H9 O9))
      refine bodyPost_ret (results_has rfl _ _ Rb 23 .u8 (sha (a ++ b)) _ _ rfl H9 Tryd.underlying23 (by rw [sha_length]; exact Tryd.size23)) rfl ?_
      exact ⟨rfl, below_only (below_more HW B7 (Nat.le_refl _)) O9 (by omega)⟩
end Go.Proofs.YtakdokccdkhcoaaDoor

/- Contracts of the document's Zero and Depth. -/
namespace Go.Proofs.YtakdokccdkhcoaaDoor
set_option maxRecDepth 100000
open Go.RowKit
set_option linter.unusedVariables false

theorem Tryd.root26 : (Tryd.prog.info? 23).map (fun i => (i.zero, i.size, i.bytes)) = some (some (.agg (nums .u8 (zeros 32))), 32, 32) := by kernel_rfl

set_option maxRecDepth 100000 in
set_option maxHeartbeats 1000000 in
theorem rzero_any (d : Int) (h0 : -9223372036854775808 ≤ d) (h1 : d ≤ 2147483647) (w : World) :
    Calls Tryd.prog 58 #[.int .i64 d] w fun e w' => e = .returned (.agg (nums .u8 (zUp d.toNat))) ∧ Below w.heap.size w w' := by
  have hzr := zero_rt
  go_enter Tryd.func58, Tryd.ntmps58
  go_wp2_with (first
    | (refine wpList_alloc_has rfl 2 rfl 23 rfl .u8 32 Tryd.zero23 ?_; intro w1 H1 B1 S1)
    | (refine wpList_build_has rfl 23 _ rfl .u8 (zeros 32) (by kernel_rfl) ?_)
    | (refine wpList_alloc_has rfl 3 rfl 23 rfl .u8 32 Tryd.zero23 ?_; intro w2 H2 B2 S2; rw [S1] at H2 ⊢)
    | (refine wpList_store_has rfl 23 (.tmp 3) (.tmp 5) rfl (w.heap.size + 1) .u8 (zeros 32) (zeros 32) rfl rfl 23 H2 (hzr.size _ Tryd.size23) rfl ?_; intro w3 H3 O3))
  have HW3 := below_only (below_more B1 B2 (Nat.le_refl _)) O3 (by omega)
  have HA3 := (H1.keep B2).only O3 (by omega)
  clear H1 B1 H2 B2 S1 S2 O3
  go_loopw [4] (fun i wr => ∃ t : Nat, t ≤ d.toNat ∧ i = .int .i64 t ∧ Has wr (w.heap.size + 1) 23 .u8 (zUp t) ∧ Has wr w.heap.size 23 .u8 (zeros 32) ∧ Below w.heap.size w wr) (fun i _ => d.toNat - (intOf i).toNat)
  case atStart => exact ⟨0, by omega, rfl, H3, HA3, HW3⟩
  case round =>
    clear H3 HA3 HW3
    obtain ⟨t, ht, rfl, HZ, HA, HW⟩ := hrel
    have hz := zeroUp_rt t
    by_cases hlt : (t : Int) < d
    · go_wp2_with (first
        | (refine wpList_load_has rfl 23 (.tmp 3) rfl (w.heap.size + 1) .u8 (zUp t) rfl 23 HZ _ _ Tryd.underlying23 (hz.size _ Tryd.size23) ?_)
        | (go_at_call 59; refine (rpair_any (zUp t) (zUp t) hz.len hz.len hz.byte hz.byte wr).mono ?_; rintro e w7 ⟨rfl, B7⟩)
        | (refine wpList_store_has rfl 23 (.tmp 3) (.tmp 13) rfl (w.heap.size + 1) .u8 (zUp (t + 1)) (zUp t) rfl rfl 23 (HZ.keep B7) ((zeroUp_rt (t + 1)).size _ Tryd.size23) (by rw [hz.len, (zeroUp_rt (t + 1)).len]) ?_; intro w9 H9 O9))
      go_roundw
      case rel =>
        exact ⟨t + 1, by omega, by go_num, H9, (HA.keep B7).only O9 (by omega), below_only (below_more HW B7 (Nat.le_refl _)) O9 (by omega)⟩
      case measure => simp [intOf]; omega
    · have ht2 : t = d.toNat := by omega
      go_wp2_with (first
        | (refine wpList_load_has rfl 23 (.tmp 3) rfl (w.heap.size + 1) .u8 (zUp t) rfl 23 HZ _ _ Tryd.underlying23 (hz.size _ Tryd.size23) ?_)
        | (refine wpList_store_has rfl 23 (.tmp 2) (.tmp 14) rfl w.heap.size .u8 (zUp t) (zeros 32) rfl rfl 23 HA (hz.size _ Tryd.size23) (by rw [hz.len, zeros_length]) ?_; intro w9 H9 O9))
      refine bodyPost_ret (results_has rfl _ _ w.heap.size 23 .u8 (zUp t) _ _ rfl H9 Tryd.underlying23 (hz.size _ Tryd.size23)) rfl ?_
      rw [← ht2]
      exact ⟨rfl, below_only HW O9 (by omega)⟩

set_option maxRecDepth 100000 in
set_option maxHeartbeats 1000000 in
theorem rdepth_any (m : Int) (h0 : -9223372036854775808 ≤ m) (h1 : m ≤ 9223372036854775807) (w : World) :
    Calls Tryd.prog 37 #[.int .i64 m] w fun e w' => e = .returned (.int .i64 (depth m)) ∧ w' = w := by
  go_enter Tryd.func37, Tryd.ntmps37
  go_wp2_with fail
  go_loop [3] (fun i => ∃ t : Nat, t ≤ 62 ∧ i = .int .i64 t ∧ Hid (∀ e, e < t → (2 ^ e : Int) < m)) (fun i => 62 - (intOf i).toNat)
  case atStart => exact ⟨0, by omega, rfl, hid fun e he => by omega⟩
  case round =>
    obtain ⟨t, ht, rfl, hb⟩ := hrel
    by_cases hlt : t < 62
    · obtain ⟨p, hp⟩ : ∃ p, Hid (1 * 2 ^ t = p) := ⟨_, hid rfl⟩
      have hpb : p < 9223372036854775808 := by have h : 2 ^ t ≤ 2 ^ 62 := Nat.pow_le_pow_right (by decide) (by omega); rw [← hp.out]; omega
      have hpe : ((2 : Int) ^ t) = (p : Int) := by rw [← hp.out, Nat.one_mul]; simp
      have hw2 : wrap64 ((2 : Int) ^ t) = (p : Int) := by rw [hpe]; unfold wrap64; omega
      have HPE := hid hpe
      clear hpe
      by_cases hpm : (p : Int) < m
      · go_wp2_with fail
        go_round
        case rel => exact ⟨t + 1, by omega, by go_num, hid fun e he => by
          by_cases h2 : e < t
          · exact hb.out e h2
          · rw [show e = t by omega, HPE.out]; exact hpm⟩
        case measure => simp [intOf]; omega
      · have hdp : depth m = t := depth_at m t (by omega) hb.out (.inr (by rw [HPE.out]; omega))
        go_wp2_with fail
        go_ret
        exact ⟨rfl, rfl⟩
    · have hdp : depth m = t := depth_at m t (by omega) hb.out (.inl (by omega))
      go_wp2_with fail
      go_ret
      exact ⟨rfl, rfl⟩

end Go.Proofs.YtakdokccdkhcoaaDoor

/- Contract of the document's Full. -/
namespace Go.Proofs.YtakdokccdkhcoaaDoor
set_option maxRecDepth 100000
open Go.RowKit
set_option linter.unusedVariables false

/-- What is said of Full at one depth. -/
def FullAt (d : Nat) : Prop := ∀ (ao : Option Addr) (cap : Nat) (rs : List (List Nat)) (w : World), rs.length ≤ cap → cap ≤ maxLen → RootsAt w ao rs →
    Calls Tryd.prog 36 #[.slice ao rs.length cap, .int .i64 (d : Int)] w fun e w' => e = .returned (.agg (nums .u8 (fullR d rs))) ∧ Below w.heap.size w w'

set_option maxRecDepth 100000 in
set_option maxHeartbeats 1000000 in
theorem full_zero_any : FullAt 0 := by
  intro ao cap rs w hcap hm hR
  unfold maxLen at hm
  by_cases h0 : rs.length = 0
  · obtain rfl : rs = [] := List.eq_nil_of_length_eq_zero h0
    have HZ := hid (fun w => rzero_any 0 (by omega) (by omega) w)
    have hzr := zero_rt
    go_enter Tryd.func36, Tryd.ntmps36
    go_wp2_with (first
      | (refine wpList_alloc_has rfl 4 rfl 23 rfl .u8 32 Tryd.zero23 ?_; intro w1 H1 B1 S1)
      | (go_at_call 58; refine (HZ.out w1).mono ?_; rintro e w2 ⟨rfl, B2⟩)
      | (refine wpList_store_has rfl 23 (.tmp 4) (.tmp 10) rfl w.heap.size .u8 (zeros 32) (zeros 32) rfl rfl 23 (H1.keep B2) (hzr.size _ Tryd.size23) rfl ?_; intro w9 H9 O9))
    refine bodyPost_ret (results_has rfl _ _ w.heap.size 23 .u8 (zeros 32) _ _ rfl H9 Tryd.underlying23 (hzr.size _ Tryd.size23)) rfl ?_
    exact ⟨rfl, below_only (below_more B1 B2 (Nat.le_refl _)) O9 (Nat.le_refl _)⟩
  · obtain ⟨b, off, rfl, _⟩ := hR.addr (by omega)
    obtain ⟨q, hq⟩ : ∃ q, Hid (rs.getD 0 [] = q) := ⟨_, hid rfl⟩
    have hqr : Rt q := by rw [← hq.out]; exact hR.rts.rt 0 (by omega)
    have hf : fullR 0 rs = q := by
      rw [← hq.out]
      show rs.getD 0 (zeros 32) = rs.getD 0 []
      simp [show 0 < rs.length by omega]
    rw [hf]
    clear hf
    have hi0 : ¬ (rs.length : Int) = 0 := by omega
    have hi1 : (0 : Int) < (rs.length : Int) := by omega
    have hlt : 0 < rs.length := by omega
    go_enter Tryd.func36, Tryd.ntmps36
    go_wp2_with (first
      | (refine wpList_alloc_has rfl 4 rfl 23 rfl .u8 32 Tryd.zero23 ?_; intro w1 H1 B1 S1)
      | (refine wpList_load_named rfl 23 (.tmp 14) rfl b off 0 rs q hq rfl (hR.keep B1) hlt _ _ Tryd.underlying23 Tryd.size23 ?_)
      | (refine wpList_store_has rfl 23 (.tmp 4) (.tmp 15) rfl w.heap.size .u8 q (zeros 32) rfl rfl 23 H1 (hqr.size _ Tryd.size23) (by rw [hqr.len, zeros_length]) ?_; intro w9 H9 O9))
    refine bodyPost_ret (results_has rfl _ _ w.heap.size 23 .u8 q _ _ rfl H9 Tryd.underlying23 (hqr.size _ Tryd.size23)) rfl ?_
    exact ⟨rfl, below_only B1 O9 (Nat.le_refl _)⟩

set_option maxRecDepth 100000 in
set_option maxHeartbeats 1000000 in
theorem full_none (d : Nat) (hd : d + 1 ≤ 62) (cap : Nat) (ao : Option Addr) (w : World) (hm : cap ≤ maxLen) :
    Calls Tryd.prog 36 #[.slice ao 0 cap, .int .i64 ((d + 1 : Nat) : Int)] w fun e w' => e = .returned (.agg (nums .u8 (fullR (d + 1) []))) ∧ Below w.heap.size w w' := by
  unfold maxLen at hm
  have hzr := zero_rt
  have HZ := hid (fun w => rzero_any ((d + 1 : Nat) : Int) (by omega) (by omega) w)
  have hz := zeroUp_rt (d + 1)
  have hf : fullR (d + 1) [] = zUp (d + 1) := full_nil pr (zeros 32) (d + 1)
  rw [hf]
  rw [Int.toNat_natCast] at HZ
  clear hf
  obtain ⟨Z, hZ⟩ : ∃ Z, zUp (d + 1) = Z := ⟨_, rfl⟩
  have hz' : Rt Z := by rw [← hZ]; exact hz
  rw [hZ] at HZ ⊢
  clear hZ hz
  go_enter Tryd.func36, Tryd.ntmps36
  go_wp2_with (first
    | (refine wpList_alloc_has rfl 4 rfl 23 rfl .u8 32 Tryd.zero23 ?_; intro w1 H1 B1 S1)
    | (go_at_call 58; refine (HZ.out w1).mono ?_; rintro e w2 ⟨rfl, B2⟩)
    | (refine wpList_store_has rfl 23 (.tmp 4) (.tmp 10) rfl w.heap.size .u8 Z (zeros 32) rfl rfl 23 (H1.keep B2) (hz'.size _ Tryd.size23) (by rw [hz'.len, zeros_length]) ?_; intro w9 H9 O9))
  refine bodyPost_ret (results_has rfl _ _ w.heap.size 23 .u8 Z _ _ rfl H9 Tryd.underlying23 (hz'.size _ Tryd.size23)) rfl ?_
  exact ⟨rfl, below_only (below_more B1 B2 (Nat.le_refl _)) O9 (Nat.le_refl _)⟩

set_option maxRecDepth 100000 in
set_option maxHeartbeats 1000000 in
theorem full_half_any (d : Nat) (hd : d + 1 ≤ 62) (ih : FullAt d) (b off cap : Nat) (rs : List (List Nat)) (w : World) (h0 : 0 < rs.length) (hle : rs.length ≤ 2 ^ d) (hcap : rs.length ≤ cap) (hm : cap ≤ maxLen) (hR : RootsAt w (some ⟨b, off, none⟩) rs) :
    Calls Tryd.prog 36 #[.slice (some ⟨b, off, none⟩) rs.length cap, .int .i64 ((d + 1 : Nat) : Int)] w fun e w' => e = .returned (.agg (nums .u8 (fullR (d + 1) rs))) ∧ Below w.heap.size w w' := by
  have hm' := hm
  unfold maxLen at hm
  have hi0 : ¬ (rs.length : Int) = 0 := by omega
  have hd0 : ¬ ((d + 1 : Nat) : Int) = 0 := by omega
  obtain ⟨p, hp⟩ : ∃ p, Hid (1 * 2 ^ d = p) := ⟨_, hid rfl⟩
  have hpb : p < 9223372036854775808 := by have h : 2 ^ d ≤ 2 ^ 62 := Nat.pow_le_pow_right (by decide) (by omega); rw [← hp.out]; omega
  have hpd : 2 ^ d = p := by rw [← hp.out, Nat.one_mul]
  have hf : fullR (d + 1) rs = pr (fullR d rs) (zUp d) := full_half pr (zeros 32) d rs hle
  rw [hf]
  rw [hpd] at hle
  clear hf hpd
  have hz := zeroUp_rt d
  have hfr := full_rt d rs hR.rts
  have HZ := hid (fun w => rzero_any (d : Int) (by omega) (by omega) w)
  rw [Int.toNat_natCast] at HZ
  obtain ⟨Z, hZ⟩ : ∃ Z, zUp d = Z := ⟨_, rfl⟩
  obtain ⟨T, hT⟩ : ∃ T, fullR d rs = T := ⟨_, rfl⟩
  have HF := hid (fun w (h : RootsAt w (some ⟨b, off, none⟩) rs) => ih (some ⟨b, off, none⟩) cap rs w hcap hm' h)
  have hz' : Rt Z := by rw [← hZ]; exact hz
  have ht' : Rt T := by rw [← hT]; exact hfr
  rw [hZ] at HZ ⊢
  rw [hT] at HF ⊢
  have hprt := pr_rt T Z
  clear hZ hz hT hfr ih
  obtain ⟨D, hD⟩ : ∃ D : Int, ((d + 1 : Nat) : Int) = D := ⟨_, rfl⟩
  have hD1 : D - 1 = (d : Int) := by omega
  have hD2 : 0 < D := by omega
  have hD3 : D ≤ 62 := by omega
  rw [hD]
  clear hd0 hD
  go_enter Tryd.func36, Tryd.ntmps36
  go_wp2_with (first
    | (refine wpList_alloc_has rfl 4 rfl 23 rfl .u8 32 Tryd.zero23 ?_; intro w1 H1 B1 S1)
    | (refine wpList_run rfl _ (run_shl 3 3 (.const (.int .i64 1)) (.tmp 17) rfl 1 d p rfl rfl (by omega) hp (by omega)) ?_)
    | (go_at_call 36; refine (HF.out w1 (hR.keep B1)).mono ?_; rintro e w2 ⟨rfl, B2⟩)
    | (go_at_call 58; refine (HZ.out w2).mono ?_; rintro e w3 ⟨rfl, B3⟩)
    | (go_at_call 59; refine (rpair_any T Z ht'.len hz'.len ht'.byte hz'.byte w3).mono ?_; rintro e w4 ⟨rfl, B4⟩)
    | (refine wpList_store_has rfl 23 (.tmp 4) (.tmp 30) rfl w.heap.size .u8 (pr T Z) (zeros 32) rfl rfl 23 (((H1.keep B2).keep B3).keep B4) (hprt.size _ Tryd.size23) (by rw [hprt.len, zeros_length]) ?_; intro w9 H9 O9))
  refine bodyPost_ret (results_has rfl _ _ w.heap.size 23 .u8 (pr T Z) _ _ rfl H9 Tryd.underlying23 (hprt.size _ Tryd.size23)) rfl ?_
  exact ⟨rfl, below_only (below_more (below_more (below_more B1 B2 (Nat.le_refl _)) B3 (Nat.le_refl _)) B4 (Nat.le_refl _)) O9 (Nat.le_refl _)⟩

set_option maxRecDepth 100000 in
set_option maxHeartbeats 2000000 in
theorem full_two_any (d : Nat) (hd : d + 1 ≤ 62) (ih : FullAt d) (b off cap : Nat) (rs : List (List Nat)) (w : World) (hgt : 2 ^ d < rs.length) (hcap : rs.length ≤ cap) (hm : cap ≤ maxLen) (hR : RootsAt w (some ⟨b, off, none⟩) rs) :
    Calls Tryd.prog 36 #[.slice (some ⟨b, off, none⟩) rs.length cap, .int .i64 ((d + 1 : Nat) : Int)] w fun e w' => e = .returned (.agg (nums .u8 (fullR (d + 1) rs))) ∧ Below w.heap.size w w' := by
  have hm' := hm
  unfold maxLen at hm
  have hi0 : ¬ (rs.length : Int) = 0 := by have : 0 < rs.length := Nat.lt_of_le_of_lt (Nat.zero_le _) hgt; omega
  obtain ⟨p, hp⟩ : ∃ p, Hid (1 * 2 ^ d = p) := ⟨_, hid rfl⟩
  have hpd : 2 ^ d = p := by rw [← hp.out, Nat.one_mul]
  have hf : fullR (d + 1) rs = pr (fullR d (rs.take p)) (fullR d (rs.drop p)) := by
    show pr (full pr (zeros 32) d rs) (full pr (zeros 32) d (rs.drop (2 ^ d))) = _
    rw [hpd, ← full_take pr (zeros 32) d p rs (by omega)]
  rw [hf]
  rw [hpd] at hgt
  have hp0 : 0 < p := by rw [← hpd]; exact Nat.two_pow_pos d
  clear hf hpd
  have hR1 := hR.first p
  have hR2 : RootsAt w (some ⟨b, off + 32 * p, none⟩) (rs.drop p) := by
    have := hR.part p (rs.length)
    rwa [List.take_of_length_le (by rw [List.length_drop]; omega)] at this
  have hl1 : (rs.take p).length = p := by rw [List.length_take]; omega
  have hl2 : (rs.drop p).length = rs.length - p := List.length_drop
  have hf1 := full_rt d _ hR1.rts
  have hf2 := full_rt d _ hR2.rts
  obtain ⟨T1, hT1⟩ : ∃ T, fullR d (rs.take p) = T := ⟨_, rfl⟩
  obtain ⟨T2, hT2⟩ : ∃ T, fullR d (rs.drop p) = T := ⟨_, rfl⟩
  have ht1 : Rt T1 := by rw [← hT1]; exact hf1
  have ht2 : Rt T2 := by rw [← hT2]; exact hf2
  have HF1 := fun (w1 : World) (hB : Below w.heap.size w w1) (wq : World) (hq : Cls w1 wq) => ih (some ⟨b, off, none⟩) cap (rs.take p) wq (by omega) hm' ((hR1.keep hB).keep hq.bel)
  have HF2 := fun (w1 : World) (hB : Below w.heap.size w w1) (wq : World) (hq : Cls w1 wq) => ih (some ⟨b, off + 32 * p, none⟩) (cap - p) (rs.drop p) wq (by omega) (by unfold maxLen; omega) ((hR2.keep hB).keep hq.bel)
  rw [hl1, hT1] at HF1
  rw [hl2, hT2] at HF2
  rw [hT1, hT2]
  have hprt := pr_rt T1 T2
  replace HF1 := hid HF1
  replace HF2 := hid HF2
  clear hT1 hT2 hf1 hf2 hR1 hR2 hl1 hl2 ih
  obtain ⟨D, hD⟩ : ∃ D : Int, ((d + 1 : Nat) : Int) = D := ⟨_, rfl⟩
  have hD1 : D - 1 = (d : Int) := by omega
  have hD2 : 0 < D := by omega
  have hD3 : D ≤ 62 := by omega
  rw [hD]
  clear hD
  go_enter Tryd.func36, Tryd.ntmps36
  go_wp2_with (first
    | (refine wpList_alloc_has rfl 4 rfl 23 rfl .u8 32 Tryd.zero23 ?_; intro w1 H1 B1 S1)
    | (refine wpList_run rfl _ (run_shl 3 3 (.const (.int .i64 1)) (.tmp 17) rfl 1 d p rfl rfl (by omega) hp (by omega)) ?_))
  refine wp_region_cls_tail 13 (by kernel_rfl) (by kernel_rfl) ?_
  simp only [List.take_succ_cons, List.take_zero, List.drop_succ_cons, List.drop_zero]
  go_big_quiet_step (fail)
  go_big_quiet_step (fail)
  go_big_quiet_step (exact fun _ => rfl)
  go_big_quiet_step (fail)
  go_big_quiet_step (exact fun _ => rfl)
  go_big_quiet_want
  refine quiet_call 36 #[.slice (some ⟨b, off, none⟩) p cap, .int .i64 (d : Int)] (.agg (nums .u8 T1)) (fun _ => by simp [go_sem]) (fun wq hq => (HF1.out w1 B1 wq hq).mono fun e w' h => ⟨h.1, hq.more h.2⟩) ?_
  simp only [Act.put, List.setIfInBounds_toArray, List.set_cons_succ, List.set_cons_zero]
  go_big_quiet_on
  go_big_quiet_step (fail)
  go_big_quiet_step (fail)
  go_big_quiet_step (exact fun _ => rfl)
  go_big_quiet_step (fail)
  go_big_quiet_step (exact fun _ => rfl)
  go_big_quiet_want
  refine quiet_call 36 #[.slice (some ⟨b, off + 32 * p, none⟩) (rs.length - p) (cap - p), .int .i64 (d : Int)] (.agg (nums .u8 T2)) (fun _ => by simp [go_sem, Nat.mul_comm]) (fun wq hq => (HF2.out w1 B1 wq hq).mono fun e w' h => ⟨h.1, hq.more h.2⟩) ?_
  simp only [Act.put, List.setIfInBounds_toArray, List.set_cons_succ, List.set_cons_zero]
  go_big_quiet_on
  go_big_quiet_want
  refine quiet_call 59 #[.agg (nums .u8 T1), .agg (nums .u8 T2)] (.agg (nums .u8 (pr T1 T2))) (fun _ => by simp [go_sem]) (fun wq hq => (rpair_any T1 T2 ht1.len ht2.len ht1.byte ht2.byte wq).mono fun e w' h => ⟨h.1, hq.more h.2⟩) ?_
  simp only [Act.put, List.setIfInBounds_toArray, List.set_cons_succ, List.set_cons_zero]
  go_big_quiet_on
  refine wpQuiet_nil ?_
  intro w5 hq5
  refine wpList_store_has rfl 23 (.tmp 4) (.tmp 43) rfl w.heap.size .u8 (pr T1 T2) (zeros 32) rfl rfl 23 (H1.keep hq5.bel) (hprt.size _ Tryd.size23) (by rw [hprt.len, zeros_length]) ?_
  intro w9 H9 O9
  go_wp2
  refine bodyPost_ret (results_has rfl _ _ w.heap.size 23 .u8 (pr T1 T2) _ _ rfl H9 Tryd.underlying23 (hprt.size _ Tryd.size23)) rfl ?_
  exact ⟨rfl, below_only (below_more B1 hq5.bel (Nat.le_refl _)) O9 (Nat.le_refl _)⟩

theorem rfull_any (d : Nat) (hd : d ≤ 62) : FullAt d := by
  induction d with
  | zero => exact full_zero_any
  | succ d ih =>
    intro ao cap rs w hcap hm hR
    by_cases h0 : rs.length = 0
    · obtain rfl : rs = [] := List.eq_nil_of_length_eq_zero h0
      exact full_none d hd cap ao w hm
    · obtain ⟨b, off, rfl, _⟩ := hR.addr (by omega)
      by_cases hle : rs.length ≤ 2 ^ d
      · exact full_half_any d hd (ih (by omega)) b off cap rs w (by omega) hle hcap hm hR
      · exact full_two_any d hd (ih (by omega)) b off cap rs w (by omega) hcap hm hR
end Go.Proofs.YtakdokccdkhcoaaDoor

/- Contract of the statements' plain: roots as the document's, in a row of its own. -/
namespace Go.Proofs.YtakdokccdkhcoaaDoor
set_option maxRecDepth 100000
open Go.RowKit
set_option linter.unusedVariables false

theorem fold_setV (vs : List Value) : ∀ (k : Nat) (c : Array Value), (vs.zipIdx k).foldl (fun (cs : Array Value) (x : Value × Nat) => cs.setIfInBounds (0 + x.2) x.1) c = setV c k vs := by
  induction vs with
  | nil => intro k c; rfl
  | cons v vs ih =>
    intro k c
    rw [List.zipIdx_cons, List.foldl_cons, ih, setV, Nat.zero_add]
theorem over_all (l r : List Nat) (h : l.length = r.length) : over l 0 r = r := by
  unfold over
  rw [List.take_zero, List.nil_append, List.drop_eq_nil_of_le (by omega), List.append_nil]
theorem own_keep {w w' : World} {base n s : Nat} {e : TypeId} {v : Value} {xs : List Value} (h : w.ownsRow base e s v n xs) (hb : Below w.heap.size w w') : w'.ownsRow base e s v n xs := by
  obtain ⟨h1, h2 | ⟨g, cap, cur, hv, hbg, hg, h3⟩⟩ := h
  · exact ⟨h1, .inl h2⟩
  · exact ⟨h1, .inr ⟨g, cap, cur, hv, hbg, by rw [hb.block g (Array.getElem?_eq_some_iff.1 hg).1]; exact hg, h3⟩⟩
theorem own_lt {w : World} {base n s : Nat} {e : TypeId} {v : Value} {xs : List Value} (h : w.ownsRow base e s v n xs) : ∀ g, v.ownBlock = some g → base ≤ g ∧ g < w.heap.size := fun g hg => h.lt g hg
theorem own_only {w w' : World} {base n s k : Nat} {e : TypeId} {v : Value} {xs : List Value} (h : w.ownsRow base e s v n xs) (ho : Only k w w') (hk : w.heap.size ≤ k + 1 → v.ownBlock ≠ some k) (hk2 : v.ownBlock ≠ some k) : w'.ownsRow base e s v n xs := by
  obtain ⟨h1, h2 | ⟨g, cap, cur, rfl, hbg, hg, h3⟩⟩ := h
  · exact ⟨h1, .inl h2⟩
  · exact ⟨h1, .inr ⟨g, cap, cur, rfl, hbg, by rw [ho.block g (fun e => hk2 (by simp [Value.ownBlock, e]))]; exact hg, h3⟩⟩

/-- A slice of one root, made. -/
theorem wpList_one_root {P : Program} {w : World} {ops : Array Oper} {rest : List Oper} {o : Oper} {a : Act} {Q : Exit → Act → World → Prop} (hgd : o.guard = none) (t e : TypeId) (x : Operand) (ho : o.op = .buildSlice t 1 #[(0, x)]) (hu : P.underlying t = some (.slice e))
    (hi : (P.info? e).map (fun i => (i.zero, i.size, i.bytes)) = some (some (.agg (nums .u8 (zeros 32))), 32, 32)) (r : List Nat) (hx : a.eval x = .agg (nums .u8 r)) (hr : r.length = 32)
    (h : ∀ w', Has w' w.heap.size e .u8 r → Below w.heap.size w w' → w'.heap.size = w.heap.size + 1 → wpList P ops Q rest (a.put o.dst (.slice (some ⟨w.heap.size, 0, none⟩) 1 1)) w') : wpList P ops Q (o :: rest) a w := by
  obtain ⟨i0, hi0, hz0, hz1, hz2⟩ : ∃ i, P.info? e = some i ∧ i.zero = some (.agg (nums .u8 (zeros 32))) ∧ i.size = 32 ∧ i.bytes = 32 := by
    cases hq : P.info? e with
    | none => simp [hq] at hi
    | some i => simp [hq] at hi; exact ⟨i, rfl, hi.1, hi.2.1, hi.2.2⟩
  refine wpList_buildSlice hgd t e 1 _ ho (nums .u8 r) i0 (.agg (nums .u8 (zeros 32))) hu hi0 hz0 (by rw [hz1]; omega) (by rw [hz1]; omega) ?_ (h _ (heap_alloc_new w _) ((Below.refl _ _).alloc (Nat.le_refl _) _) (by simp))
  rw [hz1]
  have e1 : ((Array.range (1 * 32)).map ((Value.agg (nums .u8 (zeros 32))).cells[· % (Value.agg (nums .u8 (zeros 32))).cells.size]!)) = nums .u8 (zeros 32) := by
    apply Array.toList_inj.1
    have := madeZ 1
    unfold madeCells at this
    rw [this]
    simp [nums]
  rw [e1]
  have e2 : (#[(0, x)] : Array (Nat × Operand)).map (fun (i, x) => (i, a.eval x)) = #[(0, .agg (nums .u8 r))] := by simp [hx]
  rw [e2]
  have hc : (Value.agg (nums .u8 r)).cells = nums .u8 r := rfl
  simp only [Instr.fill, hc, nums_size, hr, zeros_length]
  rw [if_neg (by simp)]
  congr 1
  rw [← Array.foldl_toList, Array.toList_zipIdx]
  have h3 := fold_setV (nums .u8 r).toList 0 (nums .u8 (zeros 32))
  have h4 := setV_nums .u8 (zeros 32) r 0 (by rw [zeros_length, hr]; omega)
  rw [over_all _ _ (by rw [zeros_length, hr])] at h4
  refine Eq.trans ?_ (h3.trans h4)
  simp

end Go.Proofs.YtakdokccdkhcoaaDoor

/- Plain facts on numbers as bytes, the lowest first. -/
namespace Go.Proofs.YtakdokccdkhcoaaDoor
set_option maxRecDepth 100000
open Go

/-- Byte i of n. -/
def byteAt (n i : Nat) : Int := ((n / 256 ^ i % 256 : Nat) : Int)
/-- The size lowest bytes of n. -/
def putL (n size : Nat) : List Int := (List.range size).map (byteAt n)
/-- size bytes of which the first k are those of n, the others 0. -/
def putUp (n size k : Nat) : List Int := (List.range size).map fun i => if i < k then byteAt n i else 0
/-- The number of some bytes, the lowest first. -/
def takeL : List Int → Nat
  | [] => 0
  | x :: xs => x.toNat + 256 * takeL xs
def takeV (xs : List Int) : Nat := takeL (xs.take 8)

theorem byteAt_range (n i : Nat) : 0 ≤ byteAt n i ∧ byteAt n i < 256 := by unfold byteAt; omega
theorem putL_length (n size : Nat) : (putL n size).length = size := by simp [putL]
theorem putUp_length (n size k : Nat) : (putUp n size k).length = size := by simp [putUp]
theorem putL_succ (n k : Nat) : putL n (k + 1) = putL n k ++ [byteAt n k] := by simp [putL, List.range_succ]
theorem putUp_zero (n size : Nat) : putUp n size 0 = List.replicate size 0 := by
  apply List.ext_getElem <;> simp [putUp]
theorem putUp_set (n size k : Nat) : (putUp n size k).set k (byteAt n k) = putUp n size (k + 1) := by
  apply List.ext_getElem
  · simp [putUp]
  · intro i h1 h2
    simp only [List.getElem_set, putUp, List.getElem_map, List.getElem_range]
    by_cases e : k = i
    · subst e; simp
    · rw [if_neg e]
      by_cases l : i < k
      · rw [if_pos l, if_pos (by omega)]
      · rw [if_neg l, if_neg (by omega)]
theorem byteAt_high (n i : Nat) (hn : n < 18446744073709551616) (hi : 8 ≤ i) : byteAt n i = 0 := by
  unfold byteAt
  have h : 256 ^ 8 ≤ 256 ^ i := Nat.pow_le_pow_right (by omega) hi
  have : n / 256 ^ i = 0 := Nat.div_eq_of_lt (Nat.lt_of_lt_of_le hn (by simpa using h))
  rw [this]; rfl
theorem putUp_all (n size k : Nat) (hn : n < 18446744073709551616) (hk : k = size ∨ 8 ≤ k) : putUp n size k = putL n size := by
  apply List.ext_getElem
  · simp [putUp, putL]
  · intro i h1 h2
    simp only [putUp, putL, List.getElem_map, List.getElem_range]
    by_cases l : i < k
    · rw [if_pos l]
    · rw [if_neg l, byteAt_high n i hn (by simp [putUp] at h1; omega)]
theorem pow8 (k : Nat) : (2 : Nat) ^ (8 * k) = 256 ^ k := by rw [Nat.pow_mul]
theorem byte_shift (n k : Nat) : IntKind.u8.wrap ((n : Int) / 2 ^ (8 * k)) = byteAt n k := by
  unfold byteAt
  rw [IntKind.wrap_u8]
  have : ((n : Int) / 2 ^ (8 * k)) = ((n / 256 ^ k : Nat) : Int) := by rw [← pow8]; simp
  rw [this]; omega
theorem byte_mod (n k : Nat) : IntKind.u8.wrap (((n / 256 ^ k : Nat) : Int) % 256) = byteAt n k := by
  unfold byteAt
  rw [IntKind.wrap_u8]; omega
theorem div_step (n k : Nat) : ((n / 256 ^ k : Nat) : Int) / 256 = ((n / 256 ^ (k + 1) : Nat) : Int) := by
  rw [Nat.pow_succ, ← Nat.div_div_eq_div_mul]; omega

theorem takeL_append (xs ys : List Int) : takeL (xs ++ ys) = takeL xs + 256 ^ xs.length * takeL ys := by
  induction xs with
  | nil => simp [takeL]
  | cons x xs ih =>
    simp only [List.cons_append, takeL, ih, List.length_cons, Nat.pow_succ]
    rw [Nat.mul_add, Nat.mul_comm (256 ^ xs.length) 256, Nat.mul_assoc]; omega
theorem takeL_lt (xs : List Int) (h : ∀ x ∈ xs, 0 ≤ x ∧ x < 256) : takeL xs < 256 ^ xs.length := by
  induction xs with
  | nil => simp [takeL]
  | cons x xs ih =>
    have h1 := h x (by simp)
    have h2 := ih (fun y hy => h y (by simp [hy]))
    simp only [takeL, List.length_cons, Nat.pow_succ]
    omega
theorem takeL_put (n : Nat) : ∀ k, takeL (putL n k) = n % 256 ^ k := by
  intro k
  induction k with
  | zero => simp [putL, takeL, Nat.mod_one]
  | succ k ih =>
    rw [putL_succ, takeL_append, ih, putL_length, Nat.pow_succ, Nat.mod_mul]
    rw [show takeL [byteAt n k] = n / 256 ^ k % 256 by simp only [takeL, byteAt, Int.toNat_natCast]; omega]
theorem takeV_put8 (n : Nat) (h : n < 18446744073709551616) : takeV (putL n 8) = n := by
  unfold takeV
  rw [List.take_of_length_le (by rw [putL_length]; omega), takeL_put]
  omega
theorem take_step (xs : List Int) (k : Nat) (hk : k < xs.length) : takeL (xs.take (k + 1)) = takeL (xs.take k) + 256 ^ k * (xs[k]).toNat := by
  rw [List.take_succ_eq_append_getElem hk, takeL_append, List.length_take, Nat.min_eq_left (by omega)]
  simp [takeL]
theorem takeV_lt (xs : List Int) (h : ∀ x ∈ xs, 0 ≤ x ∧ x < 256) : takeV xs < 18446744073709551616 := by
  have := takeL_lt (xs.take 8) (fun x hx => h x (List.mem_of_mem_take hx))
  have h2 : 256 ^ (xs.take 8).length ≤ 256 ^ 8 := Nat.pow_le_pow_right (by omega) (by simp; omega)
  unfold takeV; omega
/-- One step of num.Take: the byte k joined on. -/
theorem take_or (xs : List Int) (k : Nat) (hk : k < xs.length) (h8 : k < 8) (h : ∀ x ∈ xs, 0 ≤ x ∧ x < 256) :
    bits .or .u64 ((takeL (xs.take k) : Nat) : Int) (IntKind.u64.wrap (xs[k] * 2 ^ (8 * k))) = ((takeL (xs.take (k + 1)) : Nat) : Int) := by
  have hx := h (xs[k]) (List.getElem_mem hk)
  have hlt := takeL_lt (xs.take k) (fun x hx => h x (List.mem_of_mem_take hx))
  rw [List.length_take, Nat.min_eq_left (by omega)] at hlt
  have hb : (xs[k]).toNat * 256 ^ k < 18446744073709551616 := by
    have h1 : 256 ^ k ≤ 256 ^ 7 := Nat.pow_le_pow_right (by omega) (by omega)
    have h2 : (xs[k]).toNat * 256 ^ k ≤ 255 * 256 ^ 7 := Nat.mul_le_mul (by omega) h1
    omega
  have hk8 : 256 ^ k ≤ 256 ^ 7 := Nat.pow_le_pow_right (by omega) (by omega)
  have e : xs[k] * 2 ^ (8 * k) = (((xs[k]).toNat * 256 ^ k : Nat) : Int) := by
    rw [← pow8]; simp [Int.toNat_of_nonneg hx.1]
  rw [e, IntKind.wrap_u64, show ((((xs[k]).toNat * 256 ^ k : Nat) : Int)) % 18446744073709551616 = (((xs[k]).toNat * 256 ^ k : Nat) : Int) by omega]
  rw [bits_or_u64_nat _ _ (by omega) hb, take_step xs k hk]
  congr 1
  rw [Nat.or_comm, Nat.mul_comm, ← pow8] at *
  rw [← Nat.two_pow_add_eq_or_of_lt hlt]
  omega
/-- One step of the document's answer: from the last byte on. -/
theorem drop_step (xs : List Int) (k : Nat) (hk : k < xs.length) : takeL (xs.drop k) = (xs[k]).toNat + 256 * takeL (xs.drop (k + 1)) := by
  rw [List.drop_eq_getElem_cons hk, takeL]
end Go.Proofs.YtakdokccdkhcoaaDoor

/- Contracts of Put of package num, and of the document's: bytes of a number, the lowest first. -/
namespace Go.Proofs.YtakdokccdkhcoaaDoor
set_option maxRecDepth 100000
open Go.RowKit
set_option linter.unusedVariables false

theorem Tryd.info5 : (Tryd.prog.info? 5).map (fun i => (i.zero, i.size, i.bytes)) = some (some (.int .u8 0), 1, 1) := by kernel_rfl

theorem made_zero (size : Nat) (n : Nat) : (madeCells (Value.int .u8 0).cells (size * 1)).toList = (putUp n size 0).map (Value.int .u8) := by
  rw [putUp_zero, Nat.mul_one]
  exact (toList_madeCells_one (.int .u8 0) size).trans (by simp)

/-- What one round of num.Put does to the row. -/
theorem put_step {w wr : World} {size cap n k B : Nat} (hB : B = w.heap.size)
    (hown : wr.ownsRow B 5 1 (.slice (some ⟨B, 0, none⟩) size cap) size ((putUp n size k).map (Value.int .u8))) (hbel : Below B w wr) :
    (wr.setCell ⟨B, k, none⟩ (.int .u8 (byteAt n k))).ownsRow B 5 1 (.slice (some ⟨B, 0, none⟩) size cap) size ((putUp n size (k + 1)).map (Value.int .u8)) ∧
      Below B w (wr.setCell ⟨B, k, none⟩ (.int .u8 (byteAt n k))) := by
  have h := (hown.stored k (.int .u8 (byteAt n k))).1
  rw [← List.map_set, putUp_set] at h
  exact ⟨h, hbel.setCell (Nat.le_refl _) _⟩

set_option maxHeartbeats 1000000 in
theorem put_any (n : Nat) (size : Nat) (hn : n < 18446744073709551616) (h0 : 0 < size) (hs : size ≤ 2147483647) (w : World) :
    Calls Tryd.prog 53 #[.int .u64 n, .int .i64 size] w fun e w' => ∃ cap, e = .returned (.slice (some ⟨w.heap.size, 0, none⟩) size cap) ∧
      w'.ownsRow w.heap.size 5 1 (.slice (some ⟨w.heap.size, 0, none⟩) size cap) size ((putL n size).map (Value.int .u8)) ∧ Below w.heap.size w w' := by
  obtain ⟨i0, hi, hz0, hz1, hz2⟩ := info_parts Tryd.info5
  have hb2 : i0.bytes * size ≤ 281474976710656 := by rw [hz2]; omega
  have hml : size ≤ maxLen := by unfold maxLen; omega
  by_cases h8 : 8 < size
  · go_enter Tryd.func53, Tryd.ntmps53
    go_wp2_with (at_make; refine wpList_make_full _ rfl (.tmp 13) (.tmp 13) 67 rfl w.heap.size 5 i0 (.int .u8 0) 1 Tryd.underlying67 hi hz0 hz1 .i64 .i64 (size : Int) (size : Int) size rfl rfl rfl rfl hb2 hml (Nat.le_refl _) ?_; intro w1 hown hgrow)
    rw [made_zero size n] at hown
    have hbel : Below w.heap.size w w1 := (Below.refl _ _).grown hgrow (Nat.le_refl _) (by simp)
    clear hgrow
    go_loopw [6, 17] (fun _ i wr => ∃ k : Nat, k ≤ 8 ∧ i = .int .i64 k ∧ wr.ownsRow w.heap.size 5 1 (.slice (some ⟨w.heap.size, 0, none⟩) size size) size ((putUp n size k).map (Value.int .u8)) ∧ Below w.heap.size w wr) (fun _ i _ => 8 - (intOf i).toNat)
    case atStart => exact ⟨0, Nat.zero_le _, rfl, hown, hbel⟩
    case round =>
      clear hown hbel
      obtain ⟨k, hk, rfl, hown, hbel⟩ := hrel
      by_cases hlt : k < 8
      · have hfr := hown.frozenAt k
        have hcl := hown.cellAt k (by omega)
        have hget : ((putUp n size k).map (Value.int .u8))[k]? = some (.int .u8 ((putUp n size k).getD k 0)) := by
          rw [List.getElem?_map, List.getD_eq_getElem?_getD, List.getElem?_eq_getElem (by rw [putUp_length]; omega)]; rfl
        rw [hget] at hcl
        have R := put_step rfl hown hbel
        have hsh := byte_shift n k
        have HR : Hid _ := R
        clear hget hown hbel R
        go_wp2
        go_roundw
        case rel => exact ⟨k + 1, by omega, by go_num, HR.out.1, HR.out.2⟩
        case measure => simp [intOf]; omega
      · have hke : k = 8 := by omega
        have HE : Hid _ := putUp_all n size k hn (by omega)
        have HO : Hid _ := hown
        have HB : Hid _ := hbel
        clear hown hbel hke
        go_wp2
        go_ret
        exact ⟨size, rfl, by rw [← HE.out]; exact HO.out, HB.out⟩
  · go_enter Tryd.func53, Tryd.ntmps53
    go_wp2_with (at_make; refine wpList_make_full _ rfl (.tmp 13) (.tmp 13) 67 rfl w.heap.size 5 i0 (.int .u8 0) 1 Tryd.underlying67 hi hz0 hz1 .i64 .i64 (size : Int) (size : Int) size rfl rfl rfl rfl hb2 hml (Nat.le_refl _) ?_; intro w1 hown hgrow)
    rw [made_zero size n] at hown
    have hbel : Below w.heap.size w w1 := (Below.refl _ _).grown hgrow (Nat.le_refl _) (by simp)
    clear hgrow
    go_loopw [6, 17] (fun _ i wr => ∃ k : Nat, k ≤ size ∧ i = .int .i64 k ∧ wr.ownsRow w.heap.size 5 1 (.slice (some ⟨w.heap.size, 0, none⟩) size size) size ((putUp n size k).map (Value.int .u8)) ∧ Below w.heap.size w wr) (fun _ i _ => size - (intOf i).toNat)
    case atStart => exact ⟨0, Nat.zero_le _, rfl, hown, hbel⟩
    case round =>
      clear hown hbel
      obtain ⟨k, hk, rfl, hown, hbel⟩ := hrel
      by_cases hlt : k < size
      · have hfr := hown.frozenAt k
        have hcl := hown.cellAt k (by omega)
        have hget : ((putUp n size k).map (Value.int .u8))[k]? = some (.int .u8 ((putUp n size k).getD k 0)) := by
          rw [List.getElem?_map, List.getD_eq_getElem?_getD, List.getElem?_eq_getElem (by rw [putUp_length]; omega)]; rfl
        rw [hget] at hcl
        have R := put_step rfl hown hbel
        have hsh := byte_shift n k
        have HR : Hid _ := R
        clear hget hown hbel R
        go_wp2
        go_roundw
        case rel => exact ⟨k + 1, by omega, by go_num, HR.out.1, HR.out.2⟩
        case measure => simp [intOf]; omega
      · have hke : k = size := by omega
        have HE : Hid _ := putUp_all n size k hn (by omega)
        have HO : Hid _ := hown
        have HB : Hid _ := hbel
        clear hown hbel hke
        go_wp2
        go_ret
        exact ⟨size, rfl, by rw [← HE.out]; exact HO.out, HB.out⟩

/-- What one append of the document's Put does. -/
theorem putL_map_succ (n k : Nat) : (putL n k).map (Value.int .u8) ++ [.int .u8 (byteAt n k)] = (putL n (k + 1)).map (Value.int .u8) := by rw [putL_succ]; simp

set_option maxHeartbeats 1000000 in
theorem refPut_any (n : Nat) (size : Int) (hn : n < 18446744073709551616) (hs : size ≤ 2147483647) (w : World) :
    Calls Tryd.prog 40 #[.int .u64 n, .int .i64 size] w fun e w' => ∃ v, e = .returned v ∧
      w'.ownsRow w.heap.size 5 1 v size.toNat ((putL n size.toNat).map (Value.int .u8)) ∧ Below w.heap.size w w' := by
  obtain ⟨i0, hi, hz0, hz1, hz2⟩ := info_parts Tryd.info5
  go_enter Tryd.func40, Tryd.ntmps40
  go_wp2
  go_loopw [0, 5, 6] (fun m v i wr => ∃ k : Nat, k ≤ size.toNat ∧ m = .int .u64 ((n / 256 ^ k : Nat) : Int) ∧ i = .int .i64 k ∧ wr.ownsRow w.heap.size 5 1 v k ((putL n k).map (Value.int .u8)) ∧ Below w.heap.size w wr) (fun _ _ i _ => size.toNat - (intOf i).toNat)
  case atStart => exact ⟨0, Nat.zero_le _, by simp, rfl, World.ownsRow_nil _ _ _ _, Below.refl _ _⟩
  case round =>
    obtain ⟨k, hk, rfl, rfl, hown, hbel⟩ := hrel
    by_cases hlt : (k : Int) < size
    · have hbm := byte_mod n k
      have hdv := div_step n k
      have hsz := hbel.size
      have hqn : n / 256 ^ k < 18446744073709551616 := Nat.lt_of_le_of_lt (Nat.div_le_self _ _) hn
      generalize hq : n / 256 ^ k = q at *
      have HDV : Hid _ := hdv
      clear hq hdv
      go_wp2_with (at_builtin; refine wpList_append_own _ rfl _ _ 67 rfl w.heap.size 5 i0 (.int .u8 0) 1 1 Tryd.underlying67 hi hz0 hz1 hz2 rfl (by decide) _ _ _ rfl (hown.alloc _) ⟨wr.heap.size, 0, none⟩ 1 1 [.int .u8 (byteAt n k)] rfl rfl ?c1 ?c2 ?c3 ?c4 ?c5 ?_)
      case c1 =>
        intro j u hj
        match j, hj with
        | 0, hj => simp at hj; subst hj; simp [Addr.add]
      case c2 => intro u hu; simp at hu; subst hu; rfl
      case c3 => unfold maxLen; omega
      case c4 => omega
      case c5 => simp; omega
      · intro v' w1 hown' hgrow _
        have hb1 : Below w.heap.size w w1 := (hbel.alloc (by omega) _).grown hgrow (by simp; omega) (fun j hj => (hown.lt j hj).1)
        rw [putL_map_succ] at hown'
        clear hgrow hown hbel
        go_wp2
        go_roundw
        case rel => exact ⟨k + 1, by omega, by rw [← HDV.out], by go_num, hown', hb1⟩
        case measure => simp [intOf]; omega
    · have hke : size.toNat = k := by omega
      rw [hke]
      go_wp2
      go_ret
      exact ⟨_, rfl, hown, hbel⟩

end Go.Proofs.YtakdokccdkhcoaaDoor

/- Contracts of the document's Tree, and of both Mix: a number mixed in. -/
namespace Go.Proofs.YtakdokccdkhcoaaDoor
set_option maxRecDepth 100000
open Go.RowKit
set_option linter.unusedVariables false

set_option maxRecDepth 100000 in
set_option maxHeartbeats 1000000 in
theorem rtree_bad (ao : Option Addr) (cap : Nat) (rs : List (List Nat)) (m : Int) (w : World) (hcap : rs.length ≤ cap) (hm : cap ≤ maxLen) (h0 : -9223372036854775808 ≤ m) (h1 : m ≤ 9223372036854775807) (hbad : m < 0 ∨ m < (rs.length : Int)) :
    Calls Tryd.prog 38 #[.slice ao rs.length cap, .int .i64 m] w fun e w' => e = .returned (.tuple #[.agg (nums .u8 (zeros 32)), .bool false]) ∧ Below w.heap.size w w' := by
  unfold maxLen at hm
  have hzr := zero_rt
  by_cases hneg : m < 0
  · go_enter Tryd.func38, Tryd.ntmps38
    go_wp2_with (first
      | (refine wpList_alloc_has rfl 4 rfl 23 rfl .u8 32 Tryd.zero23 ?_; intro w1 H1 B1 S1)
      | (refine wpList_build_has rfl 23 _ rfl .u8 (zeros 32) (by kernel_rfl) ?_)
      | (refine wpList_store_has rfl 23 (.tmp 4) (.tmp 14) rfl w.heap.size .u8 (zeros 32) (zeros 32) rfl rfl 23 H1 (hzr.size _ Tryd.size23) rfl ?_; intro w9 H9 O9))
    refine bodyPost_ret (results_cell_tmp rfl _ _ w.heap.size 23 .u8 (zeros 32) _ _ _ rfl rfl H9 Tryd.underlying23 (hzr.size _ Tryd.size23)) rfl ?_
    exact ⟨rfl, below_only B1 O9 (Nat.le_refl _)⟩
  · have hlt : m < (rs.length : Int) := by omega
    go_enter Tryd.func38, Tryd.ntmps38
    go_wp2_with (first
      | (refine wpList_alloc_has rfl 4 rfl 23 rfl .u8 32 Tryd.zero23 ?_; intro w1 H1 B1 S1)
      | (refine wpList_build_has rfl 23 _ rfl .u8 (zeros 32) (by kernel_rfl) ?_)
      | (refine wpList_store_has rfl 23 (.tmp 4) (.tmp 14) rfl w.heap.size .u8 (zeros 32) (zeros 32) rfl rfl 23 H1 (hzr.size _ Tryd.size23) rfl ?_; intro w9 H9 O9))
    refine bodyPost_ret (results_cell_tmp rfl _ _ w.heap.size 23 .u8 (zeros 32) _ _ _ rfl rfl H9 Tryd.underlying23 (hzr.size _ Tryd.size23)) rfl ?_
    exact ⟨rfl, below_only B1 O9 (Nat.le_refl _)⟩

set_option maxRecDepth 100000 in
set_option maxHeartbeats 1000000 in
theorem rtree_any (ao : Option Addr) (cap : Nat) (rs : List (List Nat)) (m : Int) (w : World) (hcap : rs.length ≤ cap) (hm : cap ≤ maxLen) (hR : RootsAt w ao rs) (h0 : (rs.length : Int) ≤ m) (h1 : m ≤ 9223372036854775807) :
    Calls Tryd.prog 38 #[.slice ao rs.length cap, .int .i64 m] w fun e w' => e = .returned (.tuple #[.agg (nums .u8 (fullR (depth m) rs)), .bool true]) ∧ Below w.heap.size w w' := by
  have hm' := hm
  unfold maxLen at hm
  have hd62 := depth_le m
  have HD := hid (fun w => rdepth_any m (by omega) h1 w)
  have hfr := full_rt (depth m) rs hR.rts
  have HF := hid (fun w (h : RootsAt w ao rs) => rfull_any (depth m) hd62 ao cap rs w hcap hm' h)
  have hmn : ¬ m < 0 := by omega
  have hml : ¬ m < (rs.length : Int) := by omega
  obtain ⟨T, hT⟩ : ∃ T, fullR (depth m) rs = T := ⟨_, rfl⟩
  have ht' : Rt T := by rw [← hT]; exact hfr
  rw [hT] at HF ⊢
  clear hT hfr
  generalize depth m = d at *
  go_enter Tryd.func38, Tryd.ntmps38
  go_wp2_with (first
    | (refine wpList_alloc_has rfl 4 rfl 23 rfl .u8 32 Tryd.zero23 ?_; intro w1 H1 B1 S1)
    | (go_at_call 37; refine (HD.out _).mono ?_; rintro e w2 ⟨rfl, rfl⟩)
    | (go_at_call 36; refine (HF.out _ (hR.keep B1)).mono ?_; rintro e w3 ⟨rfl, B3⟩)
    | (refine wpList_store_has rfl 23 (.tmp 4) (.tmp 18) rfl w.heap.size .u8 T (zeros 32) rfl rfl 23 (H1.keep B3) (ht'.size _ Tryd.size23) (by rw [ht'.len, zeros_length]) ?_; intro w9 H9 O9))
  refine bodyPost_ret (results_cell_tmp rfl _ _ w.heap.size 23 .u8 T _ _ _ rfl rfl H9 Tryd.underlying23 (ht'.size _ Tryd.size23)) rfl ?_
  exact ⟨rfl, below_only (below_more B1 B3 (Nat.le_refl _)) O9 (Nat.le_refl _)⟩

/-- Byte i of n. -/
def byteN (n i : Nat) : Nat := n / 256 ^ i % 256
/-- A number as a root, its first t bytes. -/
def wUp (n : Nat) : Nat → List Nat
  | 0 => zeros 32
  | t + 1 => (wUp n t).set t (byteN n t)
theorem wUp_rt (n t : Nat) : Rt (wUp n t) := by
  induction t with
  | zero => exact zero_rt
  | succ t ih => exact ⟨by rw [wUp, List.length_set]; exact ih.len, set_bytes _ _ _ ih.byte (Nat.mod_lt _ (by decide))⟩
def byte8 (n : Nat) : List Nat := (List.range 8).map (byteN n)
theorem over_word (n : Nat) : over (zeros 32) 0 (byte8 n) = wUp n 8 := rfl
theorem put_cells {w : World} {base : Nat} {v : Value} {n : Nat} (h : w.ownsRow base 5 1 v 8 ((putL n 8).map (Value.int .u8))) : ∃ g cap, base ≤ g ∧ 8 ≤ cap ∧ cap ≤ maxLen ∧ v = .slice (some ⟨g, 0, none⟩) 8 cap ∧ ∀ i, i < 8 → w.cell? ⟨g, i, none⟩ = some (.int .u8 (byteN n i : Nat)) := by
  obtain ⟨hl, ⟨_, h8⟩ | ⟨g, cap, cur, rfl, hb, hg, hnc, hm, hcs, htk⟩⟩ := h
  · omega
  · refine ⟨g, cap, hb, hnc, hm, rfl, fun i hi => ?_⟩
    rw [cell_of_row w g i _ _ (0, 0) hg, ← Array.getElem?_toList]
    have : (cur.toList.take (8 * 1))[i]? = ((putL n 8).map (Value.int .u8))[i]? := by rw [htk]
    rw [List.getElem?_take, if_pos (by omega)] at this
    rw [this]
    simp [putL, hi, byteAt, byteN]

set_option maxRecDepth 100000 in
set_option maxHeartbeats 1000000 in
theorem word_any (n : Nat) (hn : n < 18446744073709551616) (w : World) :
    Calls Tryd.prog 33 #[.int .u64 n] w fun e w' => e = .returned (.agg (nums .u8 (wUp n 8))) ∧ Below w.heap.size w w' := by
  have hzr := zero_rt
  have HP := hid (fun w => refPut_any n 8 hn (by omega) w)
  go_enter Tryd.func33, Tryd.ntmps33
  go_wp2_with (first
    | (refine wpList_alloc_has rfl 2 rfl 23 rfl .u8 32 Tryd.zero23 ?_; intro w1 H1 B1 S1)
    | (refine wpList_build_has rfl 23 _ rfl .u8 (zeros 32) (by kernel_rfl) ?_)
    | (refine wpList_alloc_has rfl 3 rfl 23 rfl .u8 32 Tryd.zero23 ?_; intro w2 H2 B2 S2; rw [S1] at H2 ⊢)
    | (refine wpList_store_has rfl 23 (.tmp 3) (.tmp 6) rfl (w.heap.size + 1) .u8 (zeros 32) (zeros 32) rfl rfl 23 H2 (hzr.size _ Tryd.size23) rfl ?_; intro w3 H3 O3)
    | (go_at_call 40; refine (HP.out _).mono ?_; rintro e w4 ⟨v, rfl, own4, B4⟩; obtain ⟨g, cap, hg, c1, c2, rfl, hcell⟩ := put_cells own4))
  have HW3 := below_only (below_more B1 B2 (Nat.le_refl _)) O3 (by omega)
  have HA3 := (H1.keep B2).only O3 (by omega)
  have HW4 := below_more HW3 B4 (Nat.le_refl _)
  have HA4 := HA3.keep B4
  have HB4 := H3.keep B4
  have lt3 := H3.lt
  unfold maxLen at c2
  have hc4 := hid hcell
  clear H1 B1 H2 B2 S1 S2 O3 H3 HA3 HW3 own4 hcell
  go_loopw [5] (fun i wr => ∃ t : Nat, t ≤ 8 ∧ i = .int .i64 t ∧ Has wr (w.heap.size + 1) 23 .u8 (wUp n t) ∧ Has wr w.heap.size 23 .u8 (zeros 32) ∧ (∀ i, i < 8 → wr.cell? ⟨g, i, none⟩ = some (.int .u8 (byteN n i : Nat))) ∧ Below w.heap.size w wr) (fun i _ => 8 - (intOf i).toNat)
  case atStart => exact ⟨0, by omega, rfl, HB4, HA4, hc4.out, HW4⟩
  case round =>
    clear HB4 HA4 hc4 HW4
    obtain ⟨t, ht, rfl, HB, HA, hc, HW⟩ := hrel
    have hwl := (wUp_rt n t).len
    by_cases hlt : t < 8
    · have c0 := hc t hlt
      have c1' := HB.cell t (by omega)
      have f1 := HB.frozen t
      have HS : Same (wUp n (t + 1)) ((wUp n t).set t (byteN n t)) := ⟨by rw [wUp]⟩
      have hcq := hid hc
      clear hc hwl
      generalize byteN n t = bt at *
      generalize wUp n t = wl at *
      go_wp2
      go_roundw
      case rel =>
        have HO := Only.setCell wr (w.heap.size + 1) t (.int .u8 (bt : Nat))
        exact ⟨t + 1, by omega, by go_num, by rw [HS.out]; exact HB.set t _, HA.only HO (by omega), fun i hi => by rw [World.cell?_of_block (w := wr) (a := ⟨g, i, none⟩) (HO.block g (by omega))]; exact hcq.out i hi, below_only HW HO (by omega)⟩
      case measure => simp [intOf]; omega
    · have ht2 : t = 8 := by omega
      subst ht2
      have hwr := wUp_rt n 8
      go_wp2_with (first
        | (refine wpList_load_has rfl 23 (.tmp 3) rfl (w.heap.size + 1) .u8 (wUp n 8) rfl 23 HB _ _ Tryd.underlying23 (hwr.size _ Tryd.size23) ?_)
        | (refine wpList_store_has rfl 23 (.tmp 2) (.tmp 19) rfl w.heap.size .u8 (wUp n 8) (zeros 32) rfl rfl 23 HA (hwr.size _ Tryd.size23) (by rw [hwr.len, zeros_length]) ?_; intro w9 H9 O9))
      refine bodyPost_ret (results_has rfl _ _ w.heap.size 23 .u8 (wUp n 8) _ _ rfl H9 Tryd.underlying23 (hwr.size _ Tryd.size23)) rfl ?_
      exact ⟨rfl, below_only HW O9 (by omega)⟩
end Go.Proofs.YtakdokccdkhcoaaDoor

/- Contracts of both Mix. -/
namespace Go.Proofs.YtakdokccdkhcoaaDoor
set_option maxRecDepth 100000
open Go.RowKit
set_option linter.unusedVariables false

set_option maxRecDepth 100000 in
set_option maxHeartbeats 600000 in
theorem rmix_any (r : List Nat) (n : Nat) (hr : Rt r) (hn : n < 18446744073709551616) (w : World) :
    Calls Tryd.prog 39 #[.agg (nums .u8 r), .int .u64 n] w fun e w' => e = .returned (.agg (nums .u8 (pr r (wUp n 8)))) ∧ Below w.heap.size w w' := by
  have HWq := hid (fun (wq : World) => word_any n hn wq)
  have hwr := wUp_rt n 8
  obtain ⟨W8, hW8⟩ : ∃ W, wUp n 8 = W := ⟨_, rfl⟩
  rw [hW8] at HWq hwr ⊢
  clear hW8
  have hprt := pr_rt r W8
  have HPq := hid (fun (wq : World) => rpair_any r W8 hr.len hwr.len hr.byte hwr.byte wq)
  go_enter Tryd.func39, Tryd.ntmps39
  go_wp2_with (first
    | (refine wpList_box_has rfl 2 rfl 23 (.tmp 0) rfl .u8 r rfl ?_; intro w1 H1 B1 S1)
    | (refine wpList_alloc_has rfl 4 rfl 23 rfl .u8 32 Tryd.zero23 ?_; intro w2 H2 B2 S2; rw [S1] at H2; have HA2 := H1.keep B2; have HW2 := below_more B1 B2 (Nat.le_refl _)))
  have HAq := hid (fun wq (hq : Cls w2 wq) => HA2.keep hq.bel)
  have lt2 := H2.lt
  simp only [Act.put, List.setIfInBounds_toArray, List.set_cons_succ, List.set_cons_zero, S1]
  clear H1 B1 B2 S1 S2 HA2
  refine wp_region_cls_tail 4 (by kernel_rfl) (by kernel_rfl) ?_
  simp only [List.take_succ_cons, List.take_zero, List.drop_succ_cons, List.drop_zero]
  go_big_quiet_want
  refine quiet_load 23 (.tmp 2) rfl w.heap.size .u8 r rfl 23 HAq.out _ _ Tryd.underlying23 (hr.size _ Tryd.size23) ?_
  simp only [Act.put, List.setIfInBounds_toArray, List.set_cons_succ, List.set_cons_zero]
  go_big_quiet_on
  go_big_quiet_step (fail)
  go_big_quiet_want
  refine quiet_call 33 #[.int .u64 (n : Int)] (.agg (nums .u8 W8)) (fun _ => by simp [go_sem]) (fun wq hq => (HWq.out wq).mono fun e w' h => ⟨h.1, hq.more h.2⟩) ?_
  simp only [Act.put, List.setIfInBounds_toArray, List.set_cons_succ, List.set_cons_zero]
  go_big_quiet_on
  go_big_quiet_want
  refine quiet_call 59 #[.agg (nums .u8 r), .agg (nums .u8 W8)] (.agg (nums .u8 (pr r W8))) (fun _ => by simp [go_sem]) (fun wq hq => (HPq.out wq).mono fun e w' h => ⟨h.1, hq.more h.2⟩) ?_
  simp only [Act.put, List.setIfInBounds_toArray, List.set_cons_succ, List.set_cons_zero]
  go_big_quiet_on
  refine wpQuiet_nil ?_
  intro w5 hq5
  refine wpList_store_has rfl 23 (.tmp 4) (.tmp 8) rfl (w.heap.size + 1) .u8 (pr r W8) (zeros 32) rfl rfl 23 (H2.keep hq5.bel) (hprt.size _ Tryd.size23) (by rw [hprt.len, zeros_length]) ?_
  intro w9 H9 O9
  go_wp2
  refine bodyPost_ret (results_has rfl _ _ (w.heap.size + 1) 23 .u8 (pr r W8) _ _ rfl H9 Tryd.underlying23 (hprt.size _ Tryd.size23)) rfl ?_
  exact ⟨rfl, below_only (below_more HW2 hq5.bel (Nat.le_refl _)) O9 (by omega)⟩

/-- Eight bytes that a call made. -/
def Eight (n : Nat) (v : Value) (w : World) : Prop := ∃ g cap, v = .slice (some ⟨g, 0, none⟩) 8 cap ∧ ∀ i, i < 8 → w.cell? ⟨g, i, none⟩ = some (.int .u8 (byteN n i : Nat))
theorem Eight.keep {n : Nat} {v : Value} {w w' : World} (h : Eight n v w) (hb : Below w.heap.size w w') : Eight n v w' := by
  obtain ⟨g, cap, e, h⟩ := h
  refine ⟨g, cap, e, fun i hi => ?_⟩
  have hlt : g < w.heap.size := block_lt_of_cell (h i hi)
  rw [World.cell?_of_block (w := w) (a := ⟨g, i, none⟩) (hb.block g hlt)]
  exact h i hi

set_option maxRecDepth 100000 in
set_option maxHeartbeats 600000 in
theorem mix_any' (r : List Nat) (n : Nat) (hr : Rt r) (hn : n < 18446744073709551616) (w : World) (hT : Tabs w) :
    Calls Tryd.prog 29 #[.agg (nums .u8 r), .int .u64 n] w fun e w' => e = .returned (.agg (nums .u8 (pr r (wUp n 8)))) ∧ Below w.heap.size w w' := by
  have hwr := wUp_rt n 8
  obtain ⟨W8, hW8⟩ : ∃ W, Hid (wUp n 8 = W) := ⟨_, hid rfl⟩
  rw [hW8.out] at hwr ⊢
  have hprt := pr_rt r W8
  go_enter Tryd.func29, Tryd.ntmps29
  go_wp2_with (first
    | (refine wpList_box_has rfl 2 rfl 24 (.tmp 0) rfl .u8 r rfl ?_; intro w1 H1 B1 S1)
    | (refine wpList_alloc_has rfl 4 rfl 24 rfl .u8 32 Tryd.zero24 ?_; intro w2 H2 B2 S2; rw [S1] at H2)
    | (refine wpList_alloc_has rfl 5 rfl 24 rfl .u8 32 Tryd.zero24 ?_; intro w3 H3 B3 S3; rw [S2, S1] at H3))
  have HA3 := (H1.keep B2).keep B3
  have HR3 := H2.keep B3
  have HW3 := below_more (below_more B1 B2 (Nat.le_refl _)) B3 (Nat.le_refl _)
  have hT3 := hT.keep HW3
  have lt3 := H3.lt
  simp only [Act.put, List.setIfInBounds_toArray, List.set_cons_succ, List.set_cons_zero, S2, S1]
  clear H1 B1 H2 B2 B3 S1 S2 S3
  refine wp_region_flow 3 3 (fun i v wq => match i with
    | 0 => v = .slice (some ⟨w.heap.size + 1 + 1, 0, none⟩) 32 32
    | 1 => v = .int .u64 (n : Int)
    | _ => Eight n v wq) (by kernel_rfl) (by kernel_rfl) (fun _ d _ _ _ h => by cases d <;> exact h) ?_ ?_ ?_ ?_
  · intro i v wq wq' hi hv hb
    match i, hi with
    | 0, _ => exact hv
    | 1, _ => exact hv
    | 2, _ => exact hv.keep hb
  · intro i o hi ho aq wq hc hk hdep
    match i, hi with
    | 0, _ =>
      cases ho
      have e5 : aq.eval (.tmp 5) = .pointer (some ⟨w.heap.size + 1 + 1, 0, none⟩) := hk 5 (by decide)
      have e5' : aq.tmps[5]?.getD undef = .pointer (some ⟨w.heap.size + 1 + 1, 0, none⟩) := by simpa [Act.eval] using e5
      refine flow_value _ ?_ rfl
      unfold execOp
      simp [e5', go_sem]
    | 1, _ => cases ho; exact flow_move (.tmp 1) rfl (hk 1 (by decide))
    | 2, _ =>
      cases ho
      have e1 : aq.tmps.getD 7 undef = .int .u64 (n : Int) := hdep 1 7 rfl (by kernel_rfl)
      refine flow_fun 53 _ _ rfl (fun _ _ => by simp [go_sem]) #[.int .u64 (n : Int), .int .i64 8] (by rw [show (#[Operand.tmp 7, Operand.const (.int .i64 8)] : Array Operand).map aq.eval = #[aq.tmps.getD 7 undef, .int .i64 8] from by simp [Act.eval], e1]) ?_
      refine (put_any n 8 hn (by omega) (by omega) wq).mono ?_
      rintro e w' ⟨cap, rfl, own', B'⟩
      obtain ⟨g, cap', _, _, _, ev, hcell⟩ := put_cells own'
      exact ⟨_, rfl, ⟨g, cap', ev, hcell⟩, B'⟩
  · intro o h3 ho
    omega
  intro vf w4 hc hv
  have e0 : vf 0 = _ := hv 0 6 (by decide) rfl
  have e1 : vf 1 = _ := hv 1 7 (by decide) rfl
  obtain ⟨g, cap, e2, hcell⟩ : Eight n (vf 2) w4 := hv 2 8 (by decide) rfl
  clear hv
  simp only [List.take_succ_cons, List.take_zero, List.drop_succ_cons, List.drop_zero, putAll, Act.put, List.setIfInBounds_toArray, List.set_cons_succ, List.set_cons_zero]
  rw [e0, e1, e2]
  clear e0 e1 e2
  have H34 := H3.keep hc.bel
  refine wpList_copy_has rfl (.tmp 6) (.tmp 8) 67 67 rfl 5 Tryd.underlying67 Tryd.one5 _ _ _ _ _ _ rfl rfl (w.heap.size + 1 + 1) 0 .u8 (zeros 32) 24 H34 (byte8 n) rfl (fun _ => ⟨rfl, ⟨g, 0, none⟩, rfl, fun j hj => ?_⟩) (by rw [zeros_length]; simp [byte8]) ?_
  · rw [Addr.add_lit, Nat.zero_add]
    have hj8 : j < 8 := hj
    rw [hcell j hj8]
    simp [byte8, hj8]
  intro w5 H5 O5
  rw [over_word, hW8.out] at H5
  have HW5 := below_only (below_more HW3 hc.bel (Nat.le_refl _)) O5 (by omega)
  have HA5 := (HA3.keep hc.bel).only O5 (by omega)
  have HR5 := (HR3.keep hc.bel).only O5 (by omega)
  have HP := hid (pair_any r W8 hr.len hwr.len hr.byte hwr.byte w5 (hT.keep HW5))
  clear hcell hc H34 HA3 HR3 H3 HW3 hT3 O5 hW8
  go_wp2_with (first
    | (refine wpList_load_has rfl 24 (.tmp 2) rfl w.heap.size .u8 r rfl 24 HA5 _ _ Tryd.und24 (hr.size _ Tryd.size24) ?_)
    | (refine wpList_load_has rfl 24 (.tmp 5) rfl (w.heap.size + 1 + 1) .u8 W8 rfl 24 H5 _ _ Tryd.und24 (hwr.size _ Tryd.size24) ?_)
    | (go_at_call 11; refine HP.out.mono ?_; rintro e w7 ⟨rfl, B7⟩)
    | (refine wpList_store_has rfl 24 (.tmp 4) (.tmp 12) rfl (w.heap.size + 1) .u8 (pr r W8) (zeros 32) rfl rfl 24 (HR5.keep B7) (hprt.size _ Tryd.size24) (by rw [hprt.len, zeros_length]) ?_; intro w9 H9 O9))
  refine bodyPost_ret (results_has rfl _ _ (w.heap.size + 1) 24 .u8 (pr r W8) _ _ rfl H9 Tryd.und24 (hprt.size _ Tryd.size24)) rfl ?_
  exact ⟨rfl, below_only (below_more HW5 B7 (Nat.le_refl _)) O9 (by omega)⟩
end Go.Proofs.YtakdokccdkhcoaaDoor

/- Contract of the document's Verify. -/
namespace Go.Proofs.YtakdokccdkhcoaaDoor
set_option maxRecDepth 100000
open Go.RowKit
set_option linter.unusedVariables false

theorem run_at26 {o : Oper} {a : Act} {w : World} (x y : Operand) (ho : o.op = .indexAddr 73 x y) (b off n cap i : Nat) (hx : a.eval x = .slice (some ⟨b, off, none⟩) n cap) (hy : a.eval y = .int .i64 (i : Int)) (hi : i < n) :
    (execOp a.eval o).run Tryd.prog w = .ok (.value (.pointer (some ⟨b, off + 32 * i, none⟩))) w := by
  rw [Nat.mul_comm]
  unfold execOp
  simp only [ho, hx, hy]
  go_simp

end Go.Proofs.YtakdokccdkhcoaaDoor

/- Contract of the document's Chunks. -/
namespace Go.Proofs.YtakdokccdkhcoaaDoor
set_option maxRecDepth 100000
open Go.RowKit
set_option linter.unusedVariables false

/-- Bytes in parts, one behind the other: the bytes, and 0 behind. -/
theorem chunks_flat (b : List Nat) (hb : ∀ z ∈ b, z < 256) : (chunks b).flatten = b ++ zeros (32 * ((b.length + 31) / 32) - b.length) := by
  have hr := chunks_rts b hb
  have hl := flat_length _ hr
  rw [chunks_length] at hl
  apply ext_getD
  · rw [hl, List.length_append, zeros_length]; omega
  · intro i hi
    rw [hl] at hi
    have h1 := flat_getD (chunks b) hr (i / 32) (i % 32) (by rw [chunks_length]; omega) (by omega)
    rw [show 32 * (i / 32) + i % 32 = i by omega] at h1
    have h2 : (chunks b).getD (i / 32) [] = chunkAt b (i / 32) := by
      unfold chunks
      simp [show i / 32 < (b.length + 31) / 32 by omega]
    rw [h1, h2, chunkAt_getD b _ _ (by omega), show 32 * (i / 32) + i % 32 = i by omega, append_getD]
    by_cases h3 : i < b.length
    · rw [if_pos h3]
    · rw [if_neg h3]
      simp only [List.getD_eq_getElem?_getD, zeros]
      rw [List.getElem?_eq_none (by omega), List.getElem?_replicate]
      split <;> rfl
theorem take_bytes (b : List Nat) (hb : ∀ z ∈ b, z < 256) (t : Nat) : ∀ z ∈ b.take t, z < 256 := fun z hz => hb z (List.mem_of_mem_take hz)
/-- One byte more, where there is room for it. -/
theorem chunks_put (b : List Nat) (hb : ∀ z ∈ b, z < 256) (t m : Nat) (rs : List (List Nat)) (ht : t < b.length) (hm : m = (t + 1 + 31) / 32) (hf : rs.flatten = b.take t ++ zeros (32 * m - t)) :
    (cellsOf rs).set t (.int .u8 (b.getD t 0 : Nat)) = cellsOf (chunks (b.take (t + 1))) := by
  have h1 := chunks_flat (b.take (t + 1)) (take_bytes b hb _)
  rw [List.length_take, Nat.min_eq_left (by omega), ← hm] at h1
  unfold cellsOf
  rw [h1, hf, ← List.map_set]
  congr 1
  have hl : (b.take t).length = t := by rw [List.length_take]; omega
  rw [List.set_append, if_neg (by omega), hl, Nat.sub_self]
  unfold zeros
  rw [show 32 * m - t = 32 * m - (t + 1) + 1 by omega, List.replicate_succ, List.set_cons_zero, List.take_add_one, List.getElem?_eq_getElem ht, List.append_assoc, List.getD_eq_getElem?_getD, List.getElem?_eq_getElem ht]
  rfl
theorem run_inner {o : Oper} {a : Act} {w : World} (x y : Operand) (ho : o.op = .indexAddr 23 x y) (g o1 k q : Nat) (hx : a.eval x = .pointer (some ⟨g, o1, none⟩)) (hy : a.eval y = .int .i64 (k : Int)) (hk : k < 32) (hq : q = o1 + k) :
    (execOp a.eval o).run Tryd.prog w = .ok (.value (.pointer (some ⟨g, q, none⟩))) w := by
  subst hq
  unfold execOp
  simp only [ho, hx, hy]
  go_simp
  intro h32
  exact absurd h32 (by omega)
theorem row_some32 {w : World} {base n : Nat} {e : TypeId} {v : Value} {xs : List Value} (h : w.ownsRow base e 32 v n xs) (h0 : 0 < n) : ∃ g cap, base ≤ g ∧ v = .slice (some ⟨g, 0, none⟩) n cap ∧ g < w.heap.size := by
  obtain ⟨_, ⟨_, h1⟩ | ⟨g, cap, cur, rfl, hb, hg, hnc, hm, hcs, htk⟩⟩ := h
  · omega
  · exact ⟨g, cap, hb, rfl, (Array.getElem?_eq_some_iff.1 hg).1⟩

set_option maxRecDepth 100000 in
set_option maxHeartbeats 2000000 in
theorem rchunks_any (ao : Option Addr) (cap : Nat) (bs : List Nat) (w : World) (hcap : bs.length ≤ cap) (hm : cap ≤ maxLen) (hlen : bs.length ≤ 3000) (hb : ∀ z ∈ bs, z < 256) (hR : Reads w ao bs) :
    Calls Tryd.prog 34 #[.slice ao bs.length cap] w fun e w' => ∃ v, e = .returned v ∧ w'.ownsRow w.heap.size 23 32 v ((bs.length + 31) / 32) (cellsOf (chunks bs)) ∧ Below w.heap.size w w' := by
  unfold maxLen at hm
  have hzr := zero_rt
  go_enter Tryd.func34, Tryd.ntmps34
  go_wp2_with fail
  go_loopw [3, 4] (fun v i wr => ∃ t : Nat, t ≤ bs.length ∧ i = .int .i64 t ∧ wr.ownsRow w.heap.size 23 32 v ((t + 31) / 32) (cellsOf (chunks (bs.take t))) ∧ Below w.heap.size w wr) (fun _ i _ => bs.length - (intOf i).toNat)
  case atStart => exact ⟨0, by omega, rfl, (by rw [show chunks (bs.take 0) = [] from by simp [chunks]]; exact World.ownsRow_nil _ _ _ _), Below.refl _ _⟩
  case round =>
    obtain ⟨t, ht, rfl, hown, HW⟩ := hrel
    by_cases hlt : t < bs.length
    · rcases hR with hR | ⟨b, off, rfl, hR⟩
      · omega
      have hbl : b < w.heap.size := block_lt_of_cell (hR t hlt)
      obtain ⟨bt, hbt⟩ : ∃ bt, Hid (bs.getD t 0 = bt) := ⟨_, hid rfl⟩
      have hct := (HW.cell (p := ⟨b, off + t, none⟩) hbl).trans (hR t hlt)
      rw [hbt.out] at hct
      have hfl := chunks_flat (bs.take t) (take_bytes bs hb t)
      rw [List.length_take, Nat.min_eq_left (by omega)] at hfl
      have hsz := HW.size
      have hti : (t : Int) / 32 = ((t / 32 : Nat) : Int) := by omega
      by_cases hz : t % 32 = 0
      · have hzi : (t : Int) % 32 = 0 := by omega
        go_wp2_with (first
          | (refine wpList_build_has rfl 23 _ rfl .u8 (zeros 32) (by kernel_rfl) ?_)
          | (refine wpList_one_root rfl 73 23 (.tmp 15) rfl Tryd.underlying73 Tryd.root26 (zeros 32) rfl hzr.len ?_; intro w3 H3 B3 S3; have own3 := own_keep hown B3; have Bw3 := below_more HW B3 (Nat.le_refl _))
          | (refine wpList_append_roots rfl (.tmp 14) (.tmp 16) 73 rfl w.heap.size 23 Tryd.underlying73 Tryd.root26 _ ((t + 31) / 32) (chunks (bs.take t)) [zeros 32] rfl own3 hzr.one ⟨wr.heap.size, 0, none⟩ 1 rfl (by intro j hj; rw [Addr.add_lit, Nat.zero_add, H3.cell j (by rw [hzr.len]; simpa using hj)]; simp) (by simp; omega) Bw3.size ?_; intro v' w4 own4 grow4; have Bw4 := below_grownR Bw3 own3 (Nat.le_refl _) grow4))
        have hme : (t + 31) / 32 + [zeros 32].length = (t + 1 + 31) / 32 := by simp; omega
        rw [hme] at own4
        have hmr : Rts (chunks (bs.take t) ++ [zeros 32]) := (chunks_rts _ (take_bytes bs hb t)).append hzr.one
        have hset := chunks_put bs hb t ((t + 1 + 31) / 32) (chunks (bs.take t) ++ [zeros 32]) hlt rfl (by rw [List.flatten_append, hfl, List.append_assoc, show [zeros 32].flatten = zeros 32 from by simp]; unfold zeros; rw [List.replicate_append_replicate]; congr 2; omega)
        rw [hbt.out] at hset
        obtain ⟨m, hnm⟩ : ∃ m, Hid ((t + 1 + 31) / 32 = m) := ⟨_, hid rfl⟩
        have hm1 : t < 32 * m := by rw [← hnm.out]; omega
        rw [hnm.out] at own4
        have hml : (chunks (bs.take t) ++ [zeros 32]).length = m := by have := own4.1; rw [cellsOf_length _ hmr] at this; omega
        obtain ⟨g, capm, hgm, rfl, hgl⟩ := row_some32 own4 (by omega)
        have ownm := own4
        have Bm := Bw4
        have HBy := hid (fun wq (hq' : Cls w4 wq) => ((hq'.bel.cell (p := ⟨b, off + t, none⟩) (show b < w4.heap.size from by have := Bw4.size; omega)).trans ((Bw4.cell (p := ⟨b, off + t, none⟩) hbl).trans (hR t hlt))))
        rw [hbt.out] at HBy
        replace hset := hid hset
        clear own4 own3 grow4 Bw4 Bw3 B3 H3 S3 hown hct hfl hme
        refine wp_region_cls_tail 11 (by kernel_rfl) (by kernel_rfl) ?_
        simp only [List.take_succ_cons, List.take_zero, List.drop_succ_cons, List.drop_zero]
        go_big_quiet_step (fail)
        go_big_quiet_step (fail)
        go_big_quiet_want
        refine quiet_run (.int .i64 ((t / 32 : Nat) : Int)) (fun wq hwq => by unfold execOp; simp [go_sem]; rw [IntKind.wrap_i64]; omega) ?_
        simp only [Act.put, List.setIfInBounds_toArray, List.set_cons_succ, List.set_cons_zero]
        go_big_quiet_on
        go_big_quiet_step (fail)
        go_big_quiet_want
        refine quiet_run (.int .i64 ((t % 32 : Nat) : Int)) (fun wq hwq => by unfold execOp; simp [go_sem]; exact Int.tmod_eq_emod_of_nonneg (by omega)) ?_
        simp only [Act.put, List.setIfInBounds_toArray, List.set_cons_succ, List.set_cons_zero]
        go_big_quiet_on
        go_big_quiet_step (fail)
        go_big_quiet_step (fail)
        go_big_quiet_want
        refine quiet_run (.pointer (some ⟨b, off + t, none⟩)) (fun wq hwq => by unfold execOp; simp [go_sem, hlt]) ?_
        simp only [Act.put, List.setIfInBounds_toArray, List.set_cons_succ, List.set_cons_zero]
        go_big_quiet_on
        go_big_quiet_want
        refine quiet_run (.int .u8 (bt : Int)) (fun wq hwq => by have hc := HBy.out wq hwq; unfold execOp; simp [go_sem, hc]) ?_
        simp only [Act.put, List.setIfInBounds_toArray, List.set_cons_succ, List.set_cons_zero]
        go_big_quiet_on
        go_big_quiet_want
        refine quiet_run _ (fun wq hwq => run_at26 (.tmp 18) (.tmp 20) rfl g 0 m capm (t / 32) rfl rfl (by omega)) ?_
        simp only [Act.put, List.setIfInBounds_toArray, List.set_cons_succ, List.set_cons_zero]
        go_big_quiet_on
        go_big_quiet_want
        refine quiet_run (.pointer (some ⟨g, t, none⟩)) (fun wq hwq => run_inner (.tmp 27) (.tmp 22) rfl g (0 + 32 * (t / 32)) (t % 32) t rfl rfl (by omega) (by omega)) ?_
        simp only [Act.put, List.setIfInBounds_toArray, List.set_cons_succ, List.set_cons_zero]
        go_big_quiet_on
        refine wpQuiet_nil ?_
        intro w5 hq5
        have own5 := own_keep ownm hq5.bel
        have c5 := own5.cellAt t (by omega)
        have f5 := own5.frozenAt t
        have st5 := (own5.stored t (.int .u8 (bt : Int))).1
        rw [hset.out] at st5
        have Bw5 := below_more Bm hq5.bel (Nat.le_refl _)
        have hc5 : ∃ u, w5.cell? ⟨g, t, none⟩ = some u := by rw [c5]; exact ⟨_, List.getElem?_eq_getElem (by rw [cellsOf_length _ hmr, hml]; omega)⟩
        obtain ⟨u5, hu5⟩ := hc5
        have HO := Only.setCell w5 g t (.int .u8 (bt : Int))
        clear c5
        go_wp2_with fail
        go_roundw
        case rel => exact ⟨t + 1, by omega, by go_num, by rw [hnm.out]; exact st5, below_only Bw5 HO hgm⟩
        case measure => simp [intOf]; omega
      · have hzi : ¬ (t : Int) % 32 = 0 := by omega
        have hme : (t + 31) / 32 = (t + 1 + 31) / 32 := by omega
        have hmr : Rts (chunks (bs.take t)) := chunks_rts _ (take_bytes bs hb t)
        have hset := chunks_put bs hb t ((t + 1 + 31) / 32) (chunks (bs.take t)) hlt rfl (by rw [hfl, hme])
        rw [hbt.out] at hset
        rw [hme] at hown
        obtain ⟨m, hnm⟩ : ∃ m, Hid ((t + 1 + 31) / 32 = m) := ⟨_, hid rfl⟩
        have hm1 : t < 32 * m := by rw [← hnm.out]; omega
        rw [hnm.out] at hown
        have hml : (chunks (bs.take t)).length = m := by have := hown.1; rw [cellsOf_length _ hmr] at this; omega
        obtain ⟨g, capm, hgm, rfl, hgl⟩ := row_some32 hown (by omega)
        have ownm := hown
        have Bm := HW
        have HBy := hid (fun wq (hq' : Cls wr wq) => ((hq'.bel.cell (p := ⟨b, off + t, none⟩) (show b < wr.heap.size from by omega)).trans hct))
        replace hset := hid hset
        clear hown hct hfl hme
        go_wp2_with fail
        refine wp_region_cls_tail 11 (by kernel_rfl) (by kernel_rfl) ?_
        simp only [List.take_succ_cons, List.take_zero, List.drop_succ_cons, List.drop_zero]
        go_big_quiet_step (fail)
        go_big_quiet_step (fail)
        go_big_quiet_want
        refine quiet_run (.int .i64 ((t / 32 : Nat) : Int)) (fun wq hwq => by unfold execOp; simp [go_sem]; rw [IntKind.wrap_i64]; omega) ?_
        simp only [Act.put, List.setIfInBounds_toArray, List.set_cons_succ, List.set_cons_zero]
        go_big_quiet_on
        go_big_quiet_step (fail)
        go_big_quiet_want
        refine quiet_run (.int .i64 ((t % 32 : Nat) : Int)) (fun wq hwq => by unfold execOp; simp [go_sem]; exact Int.tmod_eq_emod_of_nonneg (by omega)) ?_
        simp only [Act.put, List.setIfInBounds_toArray, List.set_cons_succ, List.set_cons_zero]
        go_big_quiet_on
        go_big_quiet_step (fail)
        go_big_quiet_step (fail)
        go_big_quiet_want
        refine quiet_run (.pointer (some ⟨b, off + t, none⟩)) (fun wq hwq => by unfold execOp; simp [go_sem, hlt]) ?_
        simp only [Act.put, List.setIfInBounds_toArray, List.set_cons_succ, List.set_cons_zero]
        go_big_quiet_on
        go_big_quiet_want
        refine quiet_run (.int .u8 (bt : Int)) (fun wq hwq => by have hc := HBy.out wq hwq; unfold execOp; simp [go_sem, hc]) ?_
        simp only [Act.put, List.setIfInBounds_toArray, List.set_cons_succ, List.set_cons_zero]
        go_big_quiet_on
        go_big_quiet_want
        refine quiet_run _ (fun wq hwq => run_at26 (.tmp 18) (.tmp 20) rfl g 0 m capm (t / 32) rfl rfl (by omega)) ?_
        simp only [Act.put, List.setIfInBounds_toArray, List.set_cons_succ, List.set_cons_zero]
        go_big_quiet_on
        go_big_quiet_want
        refine quiet_run (.pointer (some ⟨g, t, none⟩)) (fun wq hwq => run_inner (.tmp 27) (.tmp 22) rfl g (0 + 32 * (t / 32)) (t % 32) t rfl rfl (by omega) (by omega)) ?_
        simp only [Act.put, List.setIfInBounds_toArray, List.set_cons_succ, List.set_cons_zero]
        go_big_quiet_on
        refine wpQuiet_nil ?_
        intro w5 hq5
        have own5 := own_keep ownm hq5.bel
        have c5 := own5.cellAt t (by omega)
        have f5 := own5.frozenAt t
        have st5 := (own5.stored t (.int .u8 (bt : Int))).1
        rw [hset.out] at st5
        have Bw5 := below_more Bm hq5.bel (Nat.le_refl _)
        have hc5 : ∃ u, w5.cell? ⟨g, t, none⟩ = some u := by rw [c5]; exact ⟨_, List.getElem?_eq_getElem (by rw [cellsOf_length _ hmr, hml]; omega)⟩
        obtain ⟨u5, hu5⟩ := hc5
        have HO := Only.setCell w5 g t (.int .u8 (bt : Int))
        clear c5
        go_wp2_with fail
        go_roundw
        case rel => exact ⟨t + 1, by omega, by go_num, by rw [hnm.out]; exact st5, below_only Bw5 HO hgm⟩
        case measure => simp [intOf]; omega
    · have ht2 : t = bs.length := by omega
      subst ht2
      rw [List.take_of_length_le (Nat.le_refl _)] at hown
      go_wp2_with fail
      go_ret
      exact ⟨_, rfl, hown, HW⟩
end Go.Proofs.YtakdokccdkhcoaaDoor

/- Contracts of the library's bytes.Clone and of merkle's Chunks: the iterator over a copy of the bytes. -/
namespace Go.Proofs.YtakdokccdkhcoaaDoor
set_option maxRecDepth 100000
open Go.RowKit
set_option linter.unusedVariables false

/-- A slice of bytes that a call made. -/
def Bts (bs : List Nat) (v : Value) (w : World) : Prop := ∃ ao cap, v = .slice ao bs.length cap ∧ bs.length ≤ cap ∧ cap ≤ maxLen ∧ Reads w ao bs
theorem Bts.keep {bs : List Nat} {v : Value} {w w' : World} (h : Bts bs v w) (hb : Below w.heap.size w w') : Bts bs v w' := by
  obtain ⟨ao, cap, e, h1, h2, h3⟩ := h
  exact ⟨ao, cap, e, h1, h2, h3.keep hb⟩
theorem Bts.own {bs : List Nat} {v : Value} {w : World} {base n : Nat} {e : TypeId} (h : w.ownsRow base e 1 v n (bs.map fun n : Nat => Value.int .u8 (n : Int))) : Bts bs v w := by
  obtain ⟨hl, h⟩ := h
  rw [List.length_map, Nat.mul_one] at hl
  subst hl
  rcases h with ⟨rfl, h0⟩ | ⟨g, cap, cur, rfl, hb, hg, hnc, hm, hcs, htk⟩
  · rw [List.eq_nil_of_length_eq_zero h0]; exact ⟨none, 0, rfl, Nat.le_refl _, by decide, .inl rfl⟩
  · refine ⟨_, cap, rfl, hnc, hm, .inr ⟨g, 0, rfl, fun i hi => ?_⟩⟩
    rw [Nat.zero_add, cell_of_row w g i _ _ (0, 0) hg, ← Array.getElem?_toList]
    have : (cur.toList.take (bs.length * 1))[i]? = (bs.map fun n : Nat => Value.int .u8 (n : Int))[i]? := by rw [htk]
    rw [List.getElem?_take, if_pos (by omega)] at this
    rw [this, List.getElem?_map, List.getElem?_eq_getElem hi, List.getD_eq_getElem?_getD, List.getElem?_eq_getElem hi]
    rfl
theorem own_bytesA (w : World) : (w.alloc (.cells #[] 5)).ownsRow w.heap.size 5 1 (.slice (some ⟨w.heap.size, 0, none⟩) 0 0) 0 [] :=
  ⟨rfl, .inr ⟨w.heap.size, 0, #[], rfl, Nat.le_refl _, heap_alloc_new w _, Nat.le_refl _, Nat.zero_le _, rfl, rfl⟩⟩

set_option maxRecDepth 100000 in
set_option maxHeartbeats 1000000 in
theorem clone_anyA (ao : Option Addr) (cap : Nat) (bs : List Nat) (w : World) (hnil : ao = none → cap = 0) (hcap : bs.length ≤ cap) (hlen : bs.length ≤ 140737488355328) (hR : Reads w ao bs) :
    Calls Tryd.prog 79 #[.slice ao bs.length cap] w fun e w' => ∃ v, e = .returned v ∧ Bts bs v w' ∧ Below w.heap.size w w' := by
  have HB : Below w.heap.size w (w.alloc (.cells #[] 5)) := (Below.refl _ w).alloc (Nat.le_refl _) _
  have HRA := hR.keep HB
  have HO := own_bytesA w
  rcases ao with _ | ad
  · obtain rfl := hnil rfl
    obtain rfl : bs = [] := List.eq_nil_of_length_eq_zero (by omega)
    have heq := Lib.run_eql_slice_nil (P := Tryd.prog) w 67 5 none 0 0 0 0 Tryd.underlying67
    go_enter Tryd.func79, Tryd.ntmps79
    go_wp2_with fail
    go_ret
    exact ⟨_, rfl, ⟨none, 0, rfl, Nat.le_refl _, by decide, .inl rfl⟩, Below.refl _ w⟩
  · obtain ⟨i0, hi, hz0, hz1, hz2⟩ := info_parts Tryd.info5
    have HC : ∀ j, j < bs.length → (w.alloc (.cells #[] 5)).cell? (ad.add j) = some (.int .u8 (bs.getD j 0 : Nat)) := by
      intro j hj
      obtain ⟨ad', e1, hc⟩ := HRA.src (by omega)
      cases e1
      exact hc j hj
    have HCh := hid HC
    clear HC
    have heq := Lib.run_eql_slice_nil (P := Tryd.prog) w 67 5 (some ad) bs.length cap 0 0 Tryd.underlying67
    go_enter Tryd.func79, Tryd.ntmps79
    go_wp2_with (refine wpList_append_own _ rfl (.tmp 5) (.tmp 6) 67 rfl w.heap.size 5 i0 (.int .u8 0) 1 1 Tryd.underlying67 hi hz0 hz1 hz2 rfl (by decide) _ 0 [] rfl (by exact HO) ad bs.length cap (bs.map fun n : Nat => Value.int .u8 (n : Int)) rfl (by simp) (by intro j u hj; have hjl : j < bs.length := (by by_cases hjl : j < bs.length; exact hjl; rw [List.getElem?_eq_none (by simp; omega)] at hj; cases hj); rw [HCh.out j hjl]; simpa [hjl] using hj) (fun u hu => by obtain ⟨n, _, rfl⟩ := List.mem_map.1 hu; rfl) (by unfold maxLen; omega) (by omega) (by exact HB.size) ?_; intro v' w' own' grow' _)
    go_ret
    rw [List.nil_append] at own'
    exact ⟨v', rfl, Bts.own own', below_grownR HB HO (Nat.le_refl _) grow'⟩

set_option maxRecDepth 100000 in
set_option maxHeartbeats 1000000 in
theorem chunks_any (ao : Option Addr) (cap : Nat) (bs : List Nat) (w : World) (hnil : ao = none → cap = 0) (hcap : bs.length ≤ cap) (hlen : bs.length ≤ 140737488355328) (hR : Reads w ao bs) :
    Calls Tryd.prog 71 #[.slice ao bs.length cap] w fun e w' => ∃ c v, w.heap.size ≤ c ∧ e = .returned (.func (.func 80) #[] #[.pointer (some ⟨c, 0, none⟩)]) ∧ w'.cell? ⟨c, 0, none⟩ = some v ∧ Bts bs v w' ∧ Below w.heap.size w w' := by
  go_enter Tryd.func71, Tryd.ntmps71
  go_wp2_with fail
  refine (clone_anyA ao cap bs w hnil hcap hlen hR).mono ?_
  rintro e w1 ⟨v, rfl, Bv, B1⟩
  obtain ⟨ao1, cap1, rfl, k1, k2, R1⟩ := Bv
  go_wp2_with fail
  go_ret
  have BA : Below w1.heap.size w1 (w1.alloc (.cells #[.slice ao1 bs.length cap1] 67)) := (Below.refl _ w1).alloc (Nat.le_refl _) _
  exact ⟨w1.heap.size, .slice ao1 bs.length cap1, B1.size, rfl, by simp, ⟨ao1, cap1, rfl, k1, k2, R1.keep BA⟩, below_more B1 BA (Nat.le_refl _)⟩
end Go.Proofs.YtakdokccdkhcoaaDoor

