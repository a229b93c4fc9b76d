/- Structs built of all their parts. -/
import Derived.Test.YtckmdofmplkdfaaRootsW
namespace Go.Proofs.Ytckmdofmplkdfaa
open Go.RowKit Go.Shelf
set_option linter.unusedVariables false
set_option maxRecDepth 100000

/-- The parts lie one behind another. -/
def PartsAt (place : Nat → Option (Nat × Nat)) : Nat → List (Nat × Value) → Prop
  | _, [] => True
  | off, (i, v) :: ps => place i = some (off, v.cells.size) ∧ PartsAt place (off + v.cells.size) ps
def outC : List (Nat × Value) → List Value
  | [] => []
  | (_, v) :: ps => v.cells.toList ++ outC ps
theorem fold_at (q : Nat) : ∀ (vs : List Value) (k : Nat) (c : Array Value), (vs.zipIdx k).foldl (fun (cs : Array Value) (x : Value × Nat) => cs.setIfInBounds (q + x.2) x.1) c = setV c (q + k) vs := by
  intro vs
  induction vs with
  | nil => intro k c; rfl
  | cons v vs ih =>
    intro k c
    rw [List.zipIdx_cons, List.foldl_cons, ih, setV, Nat.add_assoc]
theorem setV_list (l vs : List Value) (o : Nat) (h : o + vs.length ≤ l.length) : setV l.toArray o vs = (l.take o ++ (vs ++ l.drop (o + vs.length))).toArray := by
  apply Array.ext_getElem?
  intro i
  rw [setV_get _ _ _ (by simpa using h)]
  simp only [List.getElem?_toArray]
  have ht : (l.take o).length = o := by rw [List.length_take]; omega
  by_cases h1 : i < o
  · rw [if_neg (by omega), List.getElem?_append_left (by omega), List.getElem?_take, if_pos h1]
  · rw [List.getElem?_append_right (by omega), ht]
    by_cases h2 : i < o + vs.length
    · rw [if_pos (by omega), List.getElem?_append_left (by omega)]
    · rw [if_neg (by omega), List.getElem?_append_right (by omega), List.getElem?_drop, show o + vs.length + (i - o - vs.length) = i by omega]
theorem fill_out (place : Nat → Option (Nat × Nat)) : ∀ (ps : List (Nat × Value)) (off : Nat) (l : List Value), PartsAt place off ps → off + (outC ps).length ≤ l.length →
    Instr.fill place l.toArray ps = some (l.take off ++ (outC ps ++ l.drop (off + (outC ps).length))).toArray := by
  intro ps
  induction ps with
  | nil => intro off l _ _; simp [Instr.fill, outC]
  | cons p ps ih =>
    intro off l hp hl
    obtain ⟨i, v⟩ := p
    obtain ⟨h1, h2⟩ := hp
    have hlo : (outC ((i, v) :: ps)).length = v.cells.size + (outC ps).length := by rw [outC, List.length_append, Array.length_toList]
    rw [hlo] at hl
    simp only [Instr.fill, h1]
    rw [if_neg (by simp; omega)]
    have h3 : v.cells.zipIdx.foldl (fun (cs : Array Value) (x : Value × Nat) => cs.setIfInBounds (off + x.2) x.1) l.toArray = (l.take off ++ (v.cells.toList ++ l.drop (off + v.cells.size))).toArray := by
      rw [← Array.foldl_toList, Array.toList_zipIdx]
      have h := fold_at off v.cells.toList 0 l.toArray
      rw [Nat.add_zero, setV_list _ _ _ (by rw [Array.length_toList]; omega), Array.length_toList] at h
      exact h
    refine Eq.trans (congrArg (fun c => Instr.fill place c ps) h3) ?_
    have e1 : (l.take off ++ v.cells.toList).length = off + v.cells.size := by simp; omega
    rw [ih (off + v.cells.size) _ h2 (by simp; omega), hlo]
    have t : (l.take off ++ (v.cells.toList ++ l.drop (off + v.cells.size))).take (off + v.cells.size) = l.take off ++ v.cells.toList := by rw [← List.append_assoc]; exact List.take_left' e1
    have d : (l.take off ++ (v.cells.toList ++ l.drop (off + v.cells.size))).drop (off + v.cells.size + (outC ps).length) = l.drop (off + (v.cells.size + (outC ps).length)) := by
      rw [← List.append_assoc, ← List.drop_drop, List.drop_left' e1, List.drop_drop, Nat.add_assoc]
    rw [t, d, outC]
    simp
/-- A struct of all its parts. -/
theorem build_all {P : Program} {t : TypeId} {zs : List Value} (hT : Ty P t zs) (fields : Array Field) (hu : P.underlying t = some (.struct fields)) (places : Array (Nat × Nat)) (hp : ∀ w, (fields.mapM fun f => (do pure (f.offset, ← sizeOf f.type) : Sem (Nat × Nat))).run P w = .ok places w)
    (ps : Array (Nat × Value)) (hat : PartsAt (places[·]?) 0 ps.toList) (hl : (outC ps.toList).length = zs.length) (w : World) : (Instr.build t ps).run P w = .ok (.agg (outC ps.toList).toArray) w := by
  have hz := hT.zero
  have hf := fill_out (places[·]?) ps.toList 0 zs hat (by omega)
  rw [List.take_zero, Nat.zero_add, hl, List.drop_length, List.nil_append, List.append_nil] at hf
  cases hq : P.info? t with
  | none => rw [hq] at hz; cases hz
  | some i =>
    rw [hq] at hz
    simp only [Option.map_some, Option.some.injEq, Prod.mk.injEq] at hz
    have hzv : (zeroValue t).run P w = .ok (.agg zs.toArray) w := by simp [zeroValue, typeInfo, hq, hz.1]
    have hun : (underlying t).run P w = .ok (.struct fields) w := by simp [underlying, hu]
    unfold Instr.build
    rw [Sem.run_bind, hzv, Result.andThen]
    rw [Sem.run_bind, hun, Result.andThen]
    show Sem.run P (Bind.bind (fields.mapM fun f => (do pure (f.offset, ← sizeOf f.type) : Sem (Nat × Nat))) _) w = _
    rw [Sem.run_bind, hp, Result.andThen]
    have hc : (Value.agg zs.toArray).cells = zs.toArray := rfl
    rw [hc, hf]
    rfl
/-- A struct of some of its parts, that lie one behind another. -/
theorem build_from {P : Program} {t : TypeId} {zs : List Value} (hT : Ty P t zs) (fields : Array Field) (hu : P.underlying t = some (.struct fields)) (places : Array (Nat × Nat)) (hp : ∀ w, (fields.mapM fun f => (do pure (f.offset, ← sizeOf f.type) : Sem (Nat × Nat))).run P w = .ok places w)
    (ps : Array (Nat × Value)) (off : Nat) (hat : PartsAt (places[·]?) off ps.toList) (hl : off + (outC ps.toList).length ≤ zs.length) (w : World) : (Instr.build t ps).run P w = .ok (.agg (zs.take off ++ (outC ps.toList ++ zs.drop (off + (outC ps.toList).length))).toArray) w := by
  have hz := hT.zero
  have hf := fill_out (places[·]?) ps.toList off zs hat hl
  cases hq : P.info? t with
  | none => rw [hq] at hz; cases hz
  | some i =>
    rw [hq] at hz
    simp only [Option.map_some, Option.some.injEq, Prod.mk.injEq] at hz
    have hzv : (zeroValue t).run P w = .ok (.agg zs.toArray) w := by simp [zeroValue, typeInfo, hq, hz.1]
    have hun : (underlying t).run P w = .ok (.struct fields) w := by simp [underlying, hu]
    unfold Instr.build
    rw [Sem.run_bind, hzv, Result.andThen]
    rw [Sem.run_bind, hun, Result.andThen]
    show Sem.run P (Bind.bind (fields.mapM fun f => (do pure (f.offset, ← sizeOf f.type) : Sem (Nat × Nat))) _) w = _
    rw [Sem.run_bind, hp, Result.andThen]
    have hc : (Value.agg zs.toArray).cells = zs.toArray := rfl
    rw [hc, hf]
    rfl
end Go.Proofs.Ytckmdofmplkdfaa
