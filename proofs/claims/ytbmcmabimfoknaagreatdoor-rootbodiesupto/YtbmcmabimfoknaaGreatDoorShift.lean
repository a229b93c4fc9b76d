/- Shifts by a number that is not written out: their values under names of their own. -/
import Derived.Test.YtbmcmabimfoknaaGreatDoorFlowG
namespace Go.Proofs.YtbmcmabimfoknaaGreatDoor
set_option maxRecDepth 100000
open Go.RowKit
set_option linter.unusedVariables false
theorem results_tmp_tmp {P : Program} {fn : Func} {p s : Tmp} (h : fn.results = #[.tmp p, .tmp s]) (tmps : Array Value) (w : World) :
    (results fn tmps).run P w = .ok (.tuple #[tmps.getD p undef, tmps.getD s undef]) w := by
  simp [results, h]
theorem RootsAt.away {w w' : World} {ap : Option Addr} {k : Nat} {rs : List (List Nat)} (h : RootsAt w ap rs) (ho : Only k w w') (ha : 0 < rs.length → ∃ b off, ap = some ⟨b, off, none⟩ ∧ b ≠ k) : RootsAt w' ap rs := by
  by_cases h0 : rs.length = 0
  · rw [List.eq_nil_of_length_eq_zero h0]; exact RootsAt.nil _ _
  · obtain ⟨b, off, rfl, hb⟩ := ha (by omega)
    exact h.only ho hb
theorem RootsAt.old {w : World} {ap : Option Addr} {rs : List (List Nat)} (h : RootsAt w ap rs) : 0 < rs.length → ∃ b off, ap = some ⟨b, off, none⟩ ∧ b ≠ w.heap.size := fun h0 => by
  obtain ⟨b, off, e, hc⟩ := h.addr h0
  have hlt : b < w.heap.size := block_lt_of_cell (hc 0 (by omega))
  exact ⟨b, off, e, by omega⟩
section
variable {P : Program} {w : World} {ops : Array Oper} {rest : List Oper} {o : Oper} {a : Act} {Q : Exit → Act → World → Prop}
theorem wpList_run (hgd : o.guard = none) (v : Value) (hrun : (execOp a.eval o).run P w = .ok (.value v) w) (h : wpList P ops Q rest (a.put o.dst v) w) : wpList P ops Q (o :: rest) a w := by
  refine wpList_plain hgd fun K hK => ?_
  unfold Oper.wp
  rw [hrun]
  exact hK _ _ h
theorem run_shl (t u : TypeId) (x y : Operand) (ho : o.op = .binOp .shl t x y u) (c d p : Nat) (hx : a.eval x = .int .i64 (c : Int)) (hy : a.eval y = .int .i64 (d : Int)) (hd : d ≤ 64) (hp : Hid (c * 2 ^ d = p)) (hb : p < 9223372036854775808) :
    (execOp a.eval o).run P w = .ok (.value (.int .i64 (p : Int))) w := by
  have e : (c : Int) * 2 ^ (d : Int).toNat = ((p : Nat) : Int) := by rw [Int.toNat_natCast, ← hp.out]; simp
  have hs := shift_shl_i64 (x := (c : Int)) (yk := .i64) (y := (d : Int)) (by omega) (by omega)
  rw [e, IntKind.wrap_i64, show ((p : Int) + 9223372036854775808) % 18446744073709551616 - 9223372036854775808 = (p : Int) by omega] at hs
  have hb2 : binOp .shl t (.int .i64 (c : Int)) (.int .i64 (d : Int)) = pure (.int .i64 (p : Int)) := by rw [binOp_shl, hs]
  unfold execOp
  simp only [ho, hx, hy]
  simp [hb2, eqGuard_shl]
theorem run_shr (t u : TypeId) (x y : Operand) (ho : o.op = .binOp .shr t x y u) (n d q : Nat) (hx : a.eval x = .int .i64 (n : Int)) (hy : a.eval y = .int .i64 (d : Int)) (hd : d ≤ 64) (hq : Hid (n / 2 ^ d = q)) :
    (execOp a.eval o).run P w = .ok (.value (.int .i64 (q : Int))) w := by
  have e : (n : Int) / 2 ^ min (d : Int).toNat 64 = ((q : Nat) : Int) := by rw [Int.toNat_natCast, Nat.min_eq_left hd, ← hq.out]; simp
  have hs := shift_shr_any .i64 .i64 (n : Int) (d : Int) (by omega)
  rw [show IntKind.i64.bits = 64 from rfl, e] at hs
  have hb2 : binOp .shr t (.int .i64 (n : Int)) (.int .i64 (d : Int)) = pure (.int .i64 (q : Int)) := by rw [binOp_shr, hs]
  unfold execOp
  simp only [ho, hx, hy]
  simp [hb2, eqGuard_shr]
theorem xor_i64 (a b : Nat) (ha : a < 9223372036854775808) (hb : b < 9223372036854775808) : bits .xor .i64 (a : Int) (b : Int) = ((a ^^^ b : Nat) : Int) := by
  have hx : a ^^^ b < 2 ^ 63 := Nat.xor_lt_two_pow (by omega) (by omega)
  show IntKind.i64.wrap ((BitVec.ofInt 64 (a : Int) ^^^ BitVec.ofInt 64 (b : Int)).toNat : Int) = _
  rw [BitVec.toNat_xor, ofInt_u64 a (by omega), ofInt_u64 b (by omega), IntKind.wrap_i64]
  omega
theorem run_xor (t u : TypeId) (x y : Operand) (ho : o.op = .binOp .xor t x y u) (n m q : Nat) (hx : a.eval x = .int .i64 (n : Int)) (hy : a.eval y = .int .i64 (m : Int)) (hn : n < 9223372036854775808) (hm : m < 9223372036854775808) (hq : Hid (n ^^^ m = q)) :
    (execOp a.eval o).run P w = .ok (.value (.int .i64 (q : Int))) w := by
  have e := xor_i64 n m hn hm
  rw [hq.out] at e
  unfold execOp
  simp only [ho, hx, hy]
  simp [e, go_sem]
end
end Go.Proofs.YtbmcmabimfoknaaGreatDoor
