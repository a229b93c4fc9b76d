/- Contracts of merkle's pick and above: one root of a level; the level above. -/
import Derived.Test.YtibblghdemmkjaaDoorPart
namespace Go.Proofs.YtibblghdemmkjaaDoor
set_option maxRecDepth 100000
open Go.RowKit
set_option linter.unusedVariables false

/-- A root read out of a row, under a name of its own. -/
theorem wpList_load_named {P : Program} {w : World} {ops : Array Oper} {rest : List Oper} {o : Oper} {a : Act} {Q : Exit → Act → World → Prop} (hgd : o.guard = none) (ty : TypeId) (x : Operand) (ho : o.op = .load ty x) (b off i : Nat) (rs : List (List Nat)) (r : List Nat) (hq : Hid (rs.getD i [] = r)) (hx : a.eval x = .pointer (some ⟨b, off + 32 * i, none⟩)) (hr : RootsAt w (some ⟨b, off, none⟩) rs) (hi : i < rs.length)
    (n : Nat) (e : TypeId) (hu : P.underlying ty = some (.array n e)) (hs : (P.info? ty).map (·.size) = some 32)
    (h : wpList P ops Q rest (a.put o.dst (.agg (nums .u8 r))) w) : wpList P ops Q (o :: rest) a w :=
  wpList_load_root hgd ty x ho b off i rs hx hr hi n e hu hs (by rw [hq.out]; exact h)
theorem Rt.size (P : Program) {r : List Nat} (h : Rt r) {t : TypeId} (k : (P.info? t).map (·.size) = some 32) : (P.info? t).map (·.size) = some r.length := by rw [h.len]; exact k

section
variable {P : Program} {ops : Array Oper} {o : Oper} {a : Act} {C : World → Prop}
/-- A root read out of a row, in a region that draws its order. -/
theorem quiet_load_root {K : Act → Prop} (ty : TypeId) (x : Operand) (ho : o.op = .load ty x) (b off i : Nat) (rs : List (List Nat)) (hx : a.eval x = .pointer (some ⟨b, off + 32 * i, none⟩)) (hr : ∀ w, C w → RootsAt w (some ⟨b, off, none⟩) rs) (hi : i < rs.length)
    (n : Nat) (e : TypeId) (hu : P.underlying ty = some (.array n e)) (hs : (P.info? ty).map (·.size) = some 32) (hk : K (a.put o.dst (.agg (nums .u8 (rs.getD i []))))) : o.quiet P a C K := by
  refine quiet_run _ (fun w hw => ?_) hk
  have hl := run_loadVar_mid (P := P) w b (off + 32 * i) ty (nums .u8 (rs.getD i [])).toList _ ((hr w hw).range i hi) hu rfl (by rw [hs, Array.length_toList, nums_size, ((hr w hw).rts.at i hi).1])
  rw [Array.toArray_toList] at hl
  unfold execOp
  simp only [ho, hx, Instr.loadAt, Instr.sureAddr, Sem.run_bind, Sem.run_pure, Result.andThen_ok, hl]
end

theorem level_at (z : List Nat) (rs : List (List Nat)) (t : Nat) (h : t < (rs.length + 1) / 2) : (level pr z rs).getD t [] = pr (rs.getD (2 * t) []) (rs.getD (2 * t + 1) z) := by
  have h1 : t < (level pr z rs).length := by rw [level_length]; exact h
  have h2 := level_getD pr z t rs
  have e1 : (level pr z rs).getD t (pr z z) = (level pr z rs).getD t [] := by simp [h1]
  have e2 : rs.getD (2 * t) z = rs.getD (2 * t) [] := by simp [show 2 * t < rs.length by omega]
  rw [← e1, h2, e2]

end Go.Proofs.YtibblghdemmkjaaDoor
