/- A region that draws its order, whose operations only read and whose callees only make memory: one walk in the order of the text, in the class of worlds in which nothing old has turned. And append onto a row of the call's own as a step of such a region. -/
import Derived.Test.YtbmcmabimfoknaaGreatDoorApp
import Derived.Laws.AppendOwn
import Derived.Deep.RegionLaw
import Derived.Deep.Quiet
import Derived.BigQuiet
namespace Go.Proofs.YtbmcmabimfoknaaGreatDoor
set_option maxRecDepth 100000
open Go.RowKit
set_option linter.unusedVariables false

/-- Nothing that the world W held has turned. -/
structure Cls (W w : World) : Prop where
  bel : Below W.heap.size W w
theorem Cls.more {W w w' : World} (h : Cls W w) (k : Below w.heap.size w w') : Cls W w' := ⟨below_more h.bel k (Nat.le_refl _)⟩

section
variable {P : Program} {ops : Array Oper} {o : Oper} {a : Act} {C : World → Prop}
theorem wp_region_cls {id : Nat} {Q : Exit → Act → World → Prop} {w : World} {l : List Oper} (hm : P.follows .mixedOrders = true) (hB : Region.lexB .any l.toArray = true)
    (h : wpQuiet P l.toArray (Cls w) (fun a' => ∀ w', Cls w w' → Q .normal a' w') l a) : (Code.region id l.toArray true).wp P Q a w :=
  wp_region_quiet (C := Cls w) hm hB ⟨(Below.refl _ w).drew⟩ (by simpa using h)
theorem quiet_run {K : Act → Prop} (v : Value) (hrun : ∀ w, C w → (execOp a.eval o).run P w = .ok (.value v) w) (hk : K (a.put o.dst v)) : o.quiet P a C K :=
  ⟨v, fun w hw => by unfold Oper.quietAt; rw [hrun w hw]; exact ⟨rfl, rfl⟩, hk⟩
theorem quiet_load {K : Act → Prop} (ty : TypeId) (x : Operand) (ho : o.op = .load ty x) (g : Nat) (k : IntKind) (l : List Nat) (hx : a.eval x = .pointer (some ⟨g, 0, none⟩)) (t : TypeId) (hg : ∀ w, C w → Has w g t k l)
    (n : Nat) (e : TypeId) (hu : P.underlying ty = some (.array n e)) (hi : (P.info? ty).map (·.size) = some l.length) (hk : K (a.put o.dst (.agg (nums k l)))) : o.quiet P a C K := by
  refine quiet_run _ (fun w hw => ?_) hk
  have hl := run_loadVar_row w g t ty (nums k l) (0, 0) _ (hg w hw) hu rfl (by rw [hi, nums_size])
  unfold execOp
  simp only [ho, hx, Instr.loadAt, Instr.sureAddr, Sem.run_bind, Sem.run_pure, Result.andThen_ok, hl]
theorem quiet_call {K : Act → Prop} (f : FuncId) (args : Array Value) (v : Value) (hrun : ∀ w, (execOp a.eval o).run P w = .ok (.enter f args) w) (hc : ∀ w, C w → Calls P f args w fun e w' => e = .returned v ∧ C w') (hk : K (a.put o.dst v)) : o.quiet P a C K :=
  ⟨v, fun w hw => by unfold Oper.quietAt; rw [hrun w]; exact ⟨rfl, hc w hw⟩, hk⟩
/-- append onto a row of the call's own, as a step of a region that draws. -/
theorem step_append_own {w : World} {K : Act → World → Prop} {Q : Exit → Act → World → Prop} {E : Prop} (hg : o.guard = none) (s x : Operand) (t : TypeId) (hop : o.op = Op.call { callee := Callee.builtin Builtin.append, args := #[s, x], argTypes := #[t, t] })
    (base : Nat) (e : TypeId) (k : IntKind) (h1 : P.underlying t = some (.slice e)) (hz : (P.info? e).map (fun i => (i.zero, i.size, i.bytes)) = some (some (.int k 0), 1, 1))
    (v : Value) (n : Nat) (xs : List Value) (hs : a.eval s = v) (hown : w.ownsRow base e 1 v n xs) (ad : Addr) (cs : List Nat) (c : Nat) (hx : a.eval x = .slice (some ad) cs.length c)
    (hc : ∀ j, j < cs.length → w.cell? (ad.add j) = some (.int k (cs.getD j 0 : Nat))) (b1 : n + cs.length ≤ 140737488355328) (hb : base ≤ w.heap.size)
    (hK : ∀ v' w', w'.ownsRow base e 1 v' (n + cs.length) (xs ++ cs.map fun n : Nat => Value.int k (n : Int)) → w.grownBy w' v.ownBlock → K (a.put o.dst v') w') :
    if Region.wanted o (yielded ops a.tmps) = true then Oper.wp P o a w K Q else E := by
  obtain ⟨i0, hi, hz0, hz1, hz2⟩ : ∃ i, P.info? e = some i ∧ i.zero = some (.int k 0) ∧ i.size = 1 ∧ i.bytes = 1 := by
    cases hq : P.info? e with
    | none => simp [hq] at hz
    | some i => simp [hq] at hz; exact ⟨i, rfl, hz.1, hz.2.1, hz.2.2⟩
  have hw : Region.wanted o (yielded ops a.tmps) = true := by simp [Region.wanted, hg]
  rw [if_pos hw]
  obtain ⟨v', w', hrun, r1, r2, _⟩ := run_append_own (P := P) w base t o.type e i0 (.int k 0) 1 1 h1 hi hz0 hz1 hz2 rfl (by decide) v n xs hown ad cs.length c (cs.map fun n : Nat => Value.int k (n : Int)) (by simp) (fun j u hj => by
    have hjl : j < cs.length := by
      by_cases hjl : j < cs.length
      · exact hjl
      · rw [List.getElem?_eq_none (by simp; omega)] at hj; cases hj
    rw [hc j hjl]
    simpa [hjl] using hj) (fun u hu => by obtain ⟨n, _, rfl⟩ := List.mem_map.1 hu; rfl) (by unfold maxLen; omega) (by omega) hb
  unfold Oper.wp
  simp [execOp, hop, resolve, invoke, builtin, hs, hx, hrun, Result.andThen]
  exact hK v' w' r1 r2
end
end Go.Proofs.YtbmcmabimfoknaaGreatDoor
