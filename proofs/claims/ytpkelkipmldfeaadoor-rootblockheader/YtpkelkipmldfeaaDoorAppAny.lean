/- append onto a row of the call's own, from whatever source (a slice, nil, a string): the row behind, and where it lies: where it lay, or in a new block. -/
import Derived.Test.YtpkelkipmldfeaaDoorBase
import Derived.OwnWalkIn
namespace Go.Proofs.YtpkelkipmldfeaaDoor
set_option maxRecDepth 100000
open Go.RowKit
set_option linter.unusedVariables false

section
variable {P : Program} (w : World)
end

section
variable {w : World} {ops : Array Oper} {rest : List Oper} {o : Oper} {a : Act} {Q : Exit → Act → World → Prop}
theorem IsB.src {w : World} {v : Value} {bs : List Nat} (h : IsB w v bs) : Src Tryd.prog 1 91 v bs.length (cellsB bs) w := by
  obtain ⟨⟨ao, cap, rfl, h1, h2, h3, h4⟩, h5⟩ := h
  rcases ao with _ | ad
  · obtain rfl := h3 rfl
    obtain rfl : bs = [] := List.eq_nil_of_length_eq_zero (by omega)
    exact Src.ofNil w Tryd.underlying91 0
  · refine Src.ofSlice w Tryd.underlying91 ad bs.length cap _ (by rw [cellsB_length, Nat.mul_one]) (fun j u hj => ?_) (cellsB_one bs)
    obtain ⟨hjl, rfl⟩ := cellsB_get bs j u hj
    obtain ⟨ad', e1, hc⟩ := h4.src (by omega)
    cases e1
    exact hc j hjl
/-- append of bytes onto a row of bytes. -/
theorem run_append_b (base : Nat) (ty : TypeId) (v : Value) (xs : List Nat) (hown : Row w base v xs) (x : Value) (ys : List Nat) (tx : TypeId) (hs : Src Tryd.prog 1 tx x ys.length (cellsB ys) w) (hb : xs.length + ys.length ≤ 140737488355328) (hbase : base ≤ w.heap.size) :
    ∃ v' w', (Builtin.append_ #[91, tx] ty #[v, x]).run Tryd.prog w = .ok v' w' ∧ Row w' base v' (xs ++ ys) ∧ w.grownBy w' v.ownBlock ∧ Moved w v v' := by
  obtain ⟨i0, hi, hz0, hz1, hz2⟩ := info_parts Tryd.info5
  obtain ⟨v', w', h1, h2, h3, h4⟩ := run_append_any (P := Tryd.prog) w base 91 tx ty 5 i0 (.int .u8 0) 1 1 Tryd.underlying91 hi hz0 hz1 hz2 rfl (by decide) v xs.length (cellsB xs) hown x ys.length (cellsB ys) hs (by unfold maxLen; omega) (by omega) hbase
  refine ⟨v', w', h1, ?_, h3, h4⟩
  rw [← cellsB_append] at h2
  unfold Row
  rw [List.length_append]
  exact h2
theorem wpList_append_b (hgd : o.guard = none) (s x : Operand) (tx : TypeId) (ho : o.op = .call { callee := .builtin .append, args := #[s, x], argTypes := #[91, tx] })
    (base : Nat) (v : Value) (xs : List Nat) (hv : a.eval s = v) (hown : Row w base v xs) (u : Value) (ys : List Nat) (hx : a.eval x = u) (hs : Src Tryd.prog 1 tx u ys.length (cellsB ys) w) (hb : xs.length + ys.length ≤ 140737488355328) (hbase : base ≤ w.heap.size)
    (h : ∀ v' w', Row w' base v' (xs ++ ys) → w.grownBy w' v.ownBlock → Moved w v v' → wpList Tryd.prog ops Q rest (a.put o.dst v') w') : wpList Tryd.prog ops Q (o :: rest) a w := by
  refine wpList_plain hgd fun K hK => ?_
  obtain ⟨v', w', hr, h2, h3, h4⟩ := run_append_b (w := w) base o.type v xs hown u ys tx hs hb hbase
  unfold Oper.wp execOp
  simp only [ho, resolve, invoke, builtin, Sem.run_bind, Sem.run_pure, Result.andThen_ok, List.map_toArray, List.map_cons, List.map_nil, hv, hx, hr]
  exact hK _ _ (h v' w' h2 h3 h4)
theorem step_append_b {K : Act → World → Prop} {E : Prop} (hgd : Region.wanted o (yielded ops a.tmps) = true) (s x : Operand) (tx : TypeId) (ho : o.op = .call { callee := .builtin .append, args := #[s, x], argTypes := #[91, tx] })
    (base : Nat) (v : Value) (xs : List Nat) (hv : a.eval s = v) (hown : Row w base v xs) (u : Value) (ys : List Nat) (hx : a.eval x = u) (hs : Src Tryd.prog 1 tx u ys.length (cellsB ys) w) (hb : xs.length + ys.length ≤ 140737488355328) (hbase : base ≤ w.heap.size)
    (h : ∀ v' w', Row w' base v' (xs ++ ys) → w.grownBy w' v.ownBlock → Moved w v v' → K (a.put o.dst v') w') : if Region.wanted o (yielded ops a.tmps) = true then Oper.wp Tryd.prog o a w K Q else E := by
  rw [if_pos hgd]
  obtain ⟨v', w', hr, h2, h3, h4⟩ := run_append_b (w := w) base o.type v xs hown u ys tx hs hb hbase
  unfold Oper.wp execOp
  simp only [ho, resolve, invoke, builtin, Sem.run_bind, Sem.run_pure, Result.andThen_ok, List.map_toArray, List.map_cons, List.map_nil, hv, hx, hr]
  exact h v' w' h2 h3 h4
end
/-- A row abides whatever turns another block. -/
theorem Row.kept {w w' : World} {base : Nat} {v : Value} {xs : List Nat} {row : Option Nat} (h : Row w base v xs) (hg : w.grownBy w' row) (hne : ∀ k, v.ownBlock = some k → row ≠ some k) : Row w' base v xs := by
  obtain ⟨hl, h⟩ := h
  refine ⟨hl, ?_⟩
  rcases h with h | ⟨g, cap, cur, rfl, hb, hg', r⟩
  · exact .inl h
  · exact .inr ⟨g, cap, cur, rfl, hb, (hg.block g (Array.getElem?_eq_some_iff.1 hg').1 (fun e => hne g rfl e.symm)).trans hg', r⟩
theorem Row.below {w w' : World} {base : Nat} {v : Value} {xs : List Nat} (h : Row w base v xs) (hb : Below w.heap.size w w') : Row w' base v xs :=
  h.kept (row := none) ⟨hb.os, hb.tape, hb.output, hb.size, fun k hk _ => hb.block k hk⟩ (fun _ _ e => by cases e)
theorem Row.lt {w : World} {base : Nat} {v : Value} {xs : List Nat} (h : Row w base v xs) (k : Nat) (hk : v.ownBlock = some k) : base ≤ k ∧ k < w.heap.size := World.ownsRow.lt h k hk
end Go.Proofs.YtpkelkipmldfeaaDoor
