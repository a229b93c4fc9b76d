/- Parts of bytes. -/
import Derived.Test.YtpkbjoondoaoiaaSplS
import Derived.Test.YtpkbjoondoaoiaaRunOps
namespace Go.Proofs.Ytpkbjoondoaoiaa
open Go.RowKit Go.Shelf
set_option linter.unusedVariables false
set_option linter.unusedSimpArgs false
set_option maxRecDepth 100000

theorem run_subB {o : Oper} {a : Act} (x y z : Operand) (ho : o.op = .slice 22 x (some y) (some z) none) (b off n cap lo hi : Nat) (hx : a.eval x = .slice (some ⟨b, off, none⟩) n cap) (hy : a.eval y = .int .i64 (lo : Int)) (hz : a.eval z = .int .i64 (hi : Int)) (h1 : lo < hi) (h2 : hi ≤ cap) (hc : cap ≤ maxLen) (w : World) :
    (execOp a.eval o).run Try.prog w = .ok (.value (.slice (some ⟨b, off + lo, none⟩) (hi - lo) (cap - lo))) w := by
  unfold execOp
  simp only [ho, hx, hy, hz, Option.map]
  have hne : ¬ cap = lo := by omega
  unfold maxLen at hc
  go_simp
  intro h
  omega
theorem rneqsT {o : Oper} {a : Act} {w : World} {s : ByteArray} (x y : Operand) (ho : o.op = .binOp .neq 9 x y 9) (hx : a.eval x = .string s) (hy : a.eval y = .string s) : (execOp a.eval o).run Try.prog w = .ok (.value (.bool false)) w := by
  unfold execOp
  simp only [ho, hx, hy]
  simp [go_sem, toList_beq]
theorem rneqsF {o : Oper} {a : Act} {w : World} {s t : ByteArray} (hst : ¬ s = t) (x y : Operand) (ho : o.op = .binOp .neq 9 x y 9) (hx : a.eval x = .string s) (hy : a.eval y = .string t) : (execOp a.eval o).run Try.prog w = .ok (.value (.bool true)) w := by
  unfold execOp
  simp only [ho, hx, hy]
  simp [go_sem, toList_beq, hst]
theorem run_mulI {o : Oper} {a : Act} (x y : Operand) (ho : o.op = .binOp .mul 3 x y 3) (p q : Nat) (hx : a.eval x = .int .i64 (p : Int)) (hy : a.eval y = .int .i64 (q : Int)) (hb : p * q ≤ 9223372036854775807) (w : World) : (execOp a.eval o).run Try.prog w = .ok (.value (.int .i64 ((p * q : Nat) : Int))) w := by
  unfold execOp
  simp only [ho, hx, hy]
  simp [go_sem]
  rw [← Int.natCast_mul, IntKind.wrap_i64]
  omega
theorem run_addI1 {o : Oper} {a : Act} (x : Operand) (ho : o.op = .binOp .add 3 x (.const (.int .i64 1)) 3) (p : Nat) (hx : a.eval x = .int .i64 (p : Int)) (hb : p < 9223372036854775807) (w : World) : (execOp a.eval o).run Try.prog w = .ok (.value (.int .i64 ((p + 1 : Nat) : Int))) w := by
  unfold execOp
  simp only [ho, hx, show a.eval (.const (.int .i64 1)) = .int .i64 1 from rfl]
  simp [go_sem]
  rw [IntKind.wrap_i64]
  omega
theorem isB_sub {w : World} {b off cap : Nat} {bs : List Nat} {lo n : Nat} (hc : ∀ i, i < bs.length → w.cell? ⟨b, off + i, none⟩ = some (.int .u8 (bs.getD i 0 : Nat))) (h8 : ∀ z ∈ bs, z < 256) (h1 : lo + n ≤ bs.length) (h2 : n ≤ cap) (h3 : cap ≤ maxLen) :
    IsB w (.slice (some ⟨b, off + lo, none⟩) n cap) ((bs.drop lo).take n) := by
  have hl : ((bs.drop lo).take n).length = n := by rw [List.length_take, List.length_drop]; omega
  refine ⟨⟨some ⟨b, off + lo, none⟩, cap, by rw [hl], by omega, h3, (fun e => nomatch e), Or.inr ⟨b, off + lo, rfl, fun i hi => ?_⟩⟩, fun z hz => h8 z (List.mem_of_mem_drop (List.mem_of_mem_take hz))⟩
  rw [hl] at hi
  rw [Nat.add_assoc, hc (lo + i) (by omega)]
  congr 3
  rw [List.getD_eq_getElem?_getD, List.getD_eq_getElem?_getD, List.getElem?_take, if_pos hi, List.getElem?_drop]
end Go.Proofs.Ytpkbjoondoaoiaa
