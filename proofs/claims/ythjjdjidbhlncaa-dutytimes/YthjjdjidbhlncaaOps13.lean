/- What operations over numbers and truths yield. -/
import Derived.Test.YthjjdjidbhlncaaVoteEq
namespace Go.Proofs.Ythjjdjidbhlncaa
open Go.RowKit
set_option linter.unusedVariables false
set_option linter.unusedSimpArgs false
set_option maxRecDepth 100000

section
variable {o : Oper} {a : Act} {w : World}
theorem run_eqN (x y : Operand) (ho : o.op = .binOp .eql 22 x y 22) (m n : Nat) (hx : a.eval x = .int .u64 (m : Nat)) (hy : a.eval y = .int .u64 (n : Nat)) : (execOp a.eval o).run Try.prog w = .ok (.value (.bool (decide (m = n)))) w := by
  unfold execOp
  simp only [ho, hx, hy]
  by_cases h : m = n
  · simp [go_sem, h]
  · simp [go_sem, h]
    intro e
    exact absurd (Int.ofNat.inj e) h
theorem run_neN (x y : Operand) (ho : o.op = .binOp .neq 22 x y 22) (m n : Nat) (hx : a.eval x = .int .u64 (m : Nat)) (hy : a.eval y = .int .u64 (n : Nat)) : (execOp a.eval o).run Try.prog w = .ok (.value (.bool (!decide (m = n)))) w := by
  unfold execOp
  simp only [ho, hx, hy]
  by_cases h : m = n
  · simp [go_sem, h]
  · simp [go_sem, h]
    intro e
    exact absurd (Int.ofNat.inj e) h
theorem run_ltN (x y : Operand) (ho : o.op = .binOp .lss 22 x y 22) (m n : Nat) (hx : a.eval x = .int .u64 (m : Nat)) (hy : a.eval y = .int .u64 (n : Nat)) : (execOp a.eval o).run Try.prog w = .ok (.value (.bool (decide (m < n)))) w := by
  unfold execOp
  simp only [ho, hx, hy]
  simp [go_sem]
theorem run_gtN (x y : Operand) (ho : o.op = .binOp .gtr 22 x y 22) (m n : Nat) (hx : a.eval x = .int .u64 (m : Nat)) (hy : a.eval y = .int .u64 (n : Nat)) : (execOp a.eval o).run Try.prog w = .ok (.value (.bool (decide (n < m)))) w := by
  unfold execOp
  simp only [ho, hx, hy]
  simp [go_sem]
theorem run_leN (x y : Operand) (ho : o.op = .binOp .leq 22 x y 22) (m n : Nat) (hx : a.eval x = .int .u64 (m : Nat)) (hy : a.eval y = .int .u64 (n : Nat)) : (execOp a.eval o).run Try.prog w = .ok (.value (.bool (decide (m ≤ n)))) w := by
  unfold execOp
  simp only [ho, hx, hy]
  simp [go_sem]
theorem run_eqH (x y : Operand) (ho : o.op = .binOp .eql 22 x y 22) (m n : Nat) (c : Bool) (h : (decide (m = n)) = c) (hx : a.eval x = .int .u64 (m : Nat)) (hy : a.eval y = .int .u64 (n : Nat)) : (execOp a.eval o).run Try.prog w = .ok (.value (.bool c)) w := by
  rw [run_eqN x y ho m n hx hy, h]
theorem run_neH (x y : Operand) (ho : o.op = .binOp .neq 22 x y 22) (m n : Nat) (c : Bool) (h : (!decide (m = n)) = c) (hx : a.eval x = .int .u64 (m : Nat)) (hy : a.eval y = .int .u64 (n : Nat)) : (execOp a.eval o).run Try.prog w = .ok (.value (.bool c)) w := by
  rw [run_neN x y ho m n hx hy, h]
theorem run_ltH (x y : Operand) (ho : o.op = .binOp .lss 22 x y 22) (m n : Nat) (c : Bool) (h : (decide (m < n)) = c) (hx : a.eval x = .int .u64 (m : Nat)) (hy : a.eval y = .int .u64 (n : Nat)) : (execOp a.eval o).run Try.prog w = .ok (.value (.bool c)) w := by
  rw [run_ltN x y ho m n hx hy, h]
theorem run_gtH (x y : Operand) (ho : o.op = .binOp .gtr 22 x y 22) (m n : Nat) (c : Bool) (h : (decide (n < m)) = c) (hx : a.eval x = .int .u64 (m : Nat)) (hy : a.eval y = .int .u64 (n : Nat)) : (execOp a.eval o).run Try.prog w = .ok (.value (.bool c)) w := by
  rw [run_gtN x y ho m n hx hy, h]
theorem run_leH (x y : Operand) (ho : o.op = .binOp .leq 22 x y 22) (m n : Nat) (c : Bool) (h : (decide (m ≤ n)) = c) (hx : a.eval x = .int .u64 (m : Nat)) (hy : a.eval y = .int .u64 (n : Nat)) : (execOp a.eval o).run Try.prog w = .ok (.value (.bool c)) w := by
  rw [run_leN x y ho m n hx hy, h]
theorem run_eqB (x y : Operand) (ho : o.op = .binOp .eql 4 x y 4) (m n : Bool) (hx : a.eval x = .bool m) (hy : a.eval y = .bool n) : (execOp a.eval o).run Try.prog w = .ok (.value (.bool (m == n))) w := by
  unfold execOp
  simp only [ho, hx, hy]
  cases m <;> cases n <;> simp [go_sem]
theorem run_neB (x y : Operand) (ho : o.op = .binOp .neq 4 x y 4) (m n : Bool) (hx : a.eval x = .bool m) (hy : a.eval y = .bool n) : (execOp a.eval o).run Try.prog w = .ok (.value (.bool (m != n))) w := by
  unfold execOp
  simp only [ho, hx, hy]
  cases m <;> cases n <;> simp [go_sem]
theorem run_notB (x : Operand) (ho : o.op = .unOp .not 4 x) (m : Bool) (hx : a.eval x = .bool m) : (execOp a.eval o).run Try.prog w = .ok (.value (.bool (!m))) w := by
  unfold execOp
  simp only [ho, hx]
  simp [go_sem]
theorem run_pick1 (c x y : Operand) (ho : o.op = .pick c x y) (v : Value) (hc : a.eval c = .bool true) (hx : a.eval x = v) : (execOp a.eval o).run Try.prog w = .ok (.value v) w := by
  unfold execOp
  simp only [ho, hc, hx]
  simp [go_sem]
theorem run_pick0 (c x y : Operand) (ho : o.op = .pick c x y) (v : Value) (hc : a.eval c = .bool false) (hy : a.eval y = v) : (execOp a.eval o).run Try.prog w = .ok (.value v) w := by
  unfold execOp
  simp only [ho, hc, hy]
  simp [go_sem]
theorem run_neV (x y : Operand) (ho : o.op = .binOp .neq 50 x y 50) (sl ix : Nat) (b : List Nat) (es : Nat) (rs : List Nat) (et : Nat) (rt : List Nat) (sl' ix' : Nat) (b' : List Nat) (es' : Nat) (rs' : List Nat) (et' : Nat) (rt' : List Nat) (hb : Rq b) (hs : Rq rs) (ht : Rq rt) (hb' : Rq b') (hs' : Rq rs') (ht' : Rq rt')
    (hx : a.eval x = .agg (vtX sl ix b es rs et rt).toArray) (hy : a.eval y = .agg (vtX sl' ix' b' es' rs' et' rt').toArray) : (execOp a.eval o).run Try.prog w = .ok (.value (.bool (!eqVt sl ix b es rs et rt sl' ix' b' es' rs' et' rt'))) w := by
  have h : (Op.equalIn 10000 50 _ _).run Try.prog w = _ := eq_vote 9996 sl ix b es rs et rt sl' ix' b' es' rs' et' rt' hb hs ht hb' hs' ht' w
  have hg := run_eqGuard_agg (P := Try.prog) w .neq 50 x y (vtX sl ix b es rs et rt).toArray (vtX sl' ix' b' es' rs' et' rt').toArray (by kernel_rfl)
  have hr := run_neq_struct (P := Try.prog) w 50 (vtX sl ix b es rs et rt).toArray (vtX sl' ix' b' es' rs' et' rt').toArray
  rw [h] at hr
  unfold execOp
  simp only [ho, hx, hy]
  simp [hg, hr]
end
theorem vt_at (sl ix : Nat) (b : List Nat) (es : Nat) (rs : List Nat) (et : Nat) (rt : List Nat) (hb : Rq b) (hs : Rq rs) : (vtX sl ix b es rs et rt)[34]? = some (.int .u64 (es : Nat)) ∧ (vtX sl ix b es rs et rt)[67]? = some (.int .u64 (et : Nat)) := by
  have lb : (cellsB b).length = 32 := by rw [cellsB_len, hb.1]
  have ls := cpX_len es rs hs
  have d0 : (vtX sl ix b es rs et rt).drop 2 = cellsB b ++ (cpX es rs ++ cpX et rt) := rfl
  have d1 : (vtX sl ix b es rs et rt).drop 34 = cpX es rs ++ cpX et rt := by
    rw [show (34 : Nat) = 2 + 32 from rfl, ← List.drop_drop, d0]; exact List.drop_left' lb
  have d2 : (vtX sl ix b es rs et rt).drop 67 = cpX et rt := by
    rw [show (67 : Nat) = 34 + 33 from rfl, ← List.drop_drop, d1]; exact List.drop_left' ls
  have e1 := List.getElem?_drop (xs := vtX sl ix b es rs et rt) (i := 34) (j := 0)
  have e2 := List.getElem?_drop (xs := vtX sl ix b es rs et rt) (i := 67) (j := 0)
  rw [d1] at e1
  rw [d2] at e2
  exact ⟨e1.symm, e2.symm⟩
theorem vt_len (sl ix : Nat) (b : List Nat) (es : Nat) (rs : List Nat) (et : Nat) (rt : List Nat) (hb : Rq b) (hs : Rq rs) (ht : Rq rt) : (vtX sl ix b es rs et rt).length = 100 := by
  simp [vtX, cellsB_len, cpX_len _ _ hs, cpX_len _ _ ht, hb.1]
end Go.Proofs.Ythjjdjidbhlncaa
