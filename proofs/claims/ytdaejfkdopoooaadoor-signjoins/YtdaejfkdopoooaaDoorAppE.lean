/- Appending onto a slice without room: nothing old turns. -/
import Derived.Test.YtdaejfkdopoooaaDoorTagsW
namespace Go.Proofs.YtdaejfkdopoooaaDoor
open Go.RowKit
set_option linter.unusedVariables false
set_option linter.unusedSimpArgs false
set_option maxRecDepth 100000

theorem append_empty {P : Program} {w : World} (t ty e : TypeId) (i : TypeInfo) (ht : P.underlying t = some (.slice e)) (hi : P.info? e = some i) (g : Nat) (ao : Option Addr) (m c : Nat) (h0 : 0 < m) (hm : m ≤ 1000) (hb : m * i.bytes ≤ 281474976710656) :
    (Builtin.append_ #[t, t] ty #[.slice (some ⟨g, 0, none⟩) 0 0, .slice ao m c]).run P w = (Builtin.append_ #[t, t] ty #[.slice none 0 0, .slice ao m c]).run P w := by
  have hn : Builtin.nextslicecap m 0 = m := by unfold Builtin.nextslicecap; rw [if_pos (by omega)]
  have hb' : ¬ 281474976710656 < m * i.bytes := by omega
  have hl : ∀ w, (loadCells ⟨g, 0, none⟩ 0).run P w = .ok #[] w := fun w => by simp [loadCells, loadCellsFrom]
  have hx : ¬ (9223372036854775807 < (m : Int) ∧ i.bytes = 0) := by omega
  simp only [Builtin.append_, run_underlying ht, sizeOf, typeInfo, hi, Builtin.lenOf, Builtin.firstCells]
  simp [run_underlying ht, hi, hn, hb', hl, hx, show ¬ m = 0 by omega, typeInfo]
theorem append_nothing {P : Program} {w : World} (t ty e : TypeId) (i : TypeInfo) (ht : P.underlying t = some (.slice e)) (hi : P.info? e = some i) (g : Nat) (ao : Option Addr) (c : Nat) :
    (Builtin.append_ #[t, t] ty #[.slice (some ⟨g, 0, none⟩) 0 0, .slice ao 0 c]).run P w = .ok (.slice (some ⟨g, 0, none⟩) 0 0) w := by
  have hl : ∀ ad w, (loadCells ad 0).run P w = .ok #[] w := fun ad w => by simp [loadCells, loadCellsFrom]
  cases ao with
  | none => simp [Builtin.append_, run_underlying ht, sizeOf, typeInfo, hi, Builtin.lenOf, Builtin.firstCells, storeCells]
  | some ad => simp [Builtin.append_, run_underlying ht, sizeOf, typeInfo, hi, Builtin.lenOf, Builtin.firstCells, hl, storeCells]
/-- Roots appended onto a slice without room, in a flow. -/
theorem flow_append_first {P : Program} {w : World} {o : Oper} {a : Act} {Q : Exit → Act → World → Prop} {I : Value → World → Prop} (s x : Operand) (t : TypeId) (ho : o.op = .call { callee := .builtin .append, args := #[s, x], argTypes := #[t, t] })
    (base : Nat) (e : TypeId) (ht : P.underlying t = some (.slice e)) (hi : (P.info? e).map (fun i => (i.zero, i.size, i.bytes)) = some (some (.agg (nums .u8 (zeros 32))), 32, 32))
    (g : Nat) (hs : a.eval s = .slice (some ⟨g, 0, none⟩) 0 0) (hown : w.ownsRow base e 32 (.slice (some ⟨g, 0, none⟩) 0 0) 0 (cellsOf [])) (ss : List (List Nat)) (ao : Option Addr) (c : Nat) (hx : a.eval x = .slice ao ss.length c) (hR : RootsAt w ao ss)
    (hm : ss.length ≤ 1000) (hbase : base ≤ w.heap.size) (hI : ∀ v' w', w'.ownsRow base e 32 v' ss.length (cellsOf ss) → I v' w') : o.wp P a w (fun a' w' => ∃ v, a' = a.put o.dst v ∧ I v w' ∧ Below w.heap.size w w') Q := by
  obtain ⟨i0, hi0, hz0, hz1, hz2⟩ : ∃ i, P.info? e = some i ∧ i.zero = some (.agg (nums .u8 (zeros 32))) ∧ i.size = 32 ∧ i.bytes = 32 := by
    cases hq : P.info? e with
    | none => simp [hq] at hi
    | some i => simp [hq] at hi; exact ⟨i, rfl, hi.1, hi.2.1, hi.2.2⟩
  have key : ∀ v' w', (Builtin.append_ #[t, t] o.type #[.slice (some ⟨g, 0, none⟩) 0 0, .slice ao ss.length c]).run P w = .ok v' w' → I v' w' → Below w.heap.size w w' → o.wp P a w (fun a' w' => ∃ v, a' = a.put o.dst v ∧ I v w' ∧ Below w.heap.size w w') Q := by
    intro v' w' hrun h1 h2
    unfold Oper.wp
    simp only [execOp, ho, resolve, invoke, builtin, Sem.run_bind, Sem.run_pure, Result.andThen_ok, List.map_toArray, List.map_cons, List.map_nil, hs, hx, hrun]
    exact ⟨v', rfl, h1, h2⟩
  by_cases h0 : ss.length = 0
  · obtain rfl : ss = [] := List.eq_nil_of_length_eq_zero h0
    refine key _ w (append_nothing t o.type e i0 ht hi0 g ao c) (hI _ _ hown) (Below.refl _ w)
  · obtain ⟨b, off, rfl, hcell⟩ := hR.addr (by omega)
    have hl := flat_length ss hR.rts
    have hnews : ∀ j u, (cellsOf ss)[j]? = some u → w.cell? (Addr.add ⟨b, off, none⟩ j) = some u := fun j u hu => by
      have hj : j < 32 * ss.length := by
        by_cases hj : j < 32 * ss.length
        · exact hj
        · rw [List.getElem?_eq_none (by rw [cellsOf_length ss hR.rts]; omega)] at hu; cases hu
      rw [Addr.add_lit, hcell j hj]
      have : j < ss.flatten.length := by omega
      rw [cellsOf, List.getElem?_map, List.getElem?_eq_getElem this] at hu
      rw [List.getD_eq_getElem?_getD, List.getElem?_eq_getElem this]
      exact hu
    obtain ⟨v', w', h1, h2, h3, _⟩ := run_append_own (P := P) w base t o.type e i0 (.agg (nums .u8 (zeros 32))) 32 32 ht hi0 hz0 hz1 hz2 (by simp [Value.cells, nums_size, zeros_length]) (by decide) (.slice none 0 0) 0 [] (World.ownsRow_nil _ _ _ _) ⟨b, off, none⟩ ss.length c (cellsOf ss) (cellsOf_length ss hR.rts) hnews (cellsOf_one ss) (by unfold maxLen; omega) (by omega) hbase
    refine key v' w' ((append_empty t o.type e i0 ht hi0 g _ ss.length c (by omega) hm (by rw [hz2]; omega)).trans h1) (hI _ _ ?_) ((Below.refl _ _).grown h3 (Nat.le_refl _) (by simp [Value.ownBlock]))
    rw [List.nil_append, Nat.zero_add] at h2
    exact h2

/-- A slice of roots from a place on. -/
theorem sub_from (ao : Option Addr) (cap : Nat) (rs : List (List Nat)) (w : World) (hcap : rs.length ≤ cap) (hm : cap ≤ maxLen) (hnil : ao = none → cap = 0) (hR : RootsAt w ao rs) (l : Nat) (hl : l ≤ rs.length) :
    ∃ ao' cap', rs.length - l ≤ cap' ∧ cap' ≤ maxLen ∧ (ao' = none → cap' = 0) ∧ (∀ wq, RootsAt wq ao rs → RootsAt wq ao' (rs.drop l)) ∧
      ∀ (o : Oper) (a : Act) (wq : World) (x y : Operand), o.op = .slice 22 x (some y) none none → a.eval x = .slice ao rs.length cap → a.eval y = .int .i64 (l : Int) →
        (execOp a.eval o).run Tryd.prog wq = .ok (.value (.slice ao' (rs.length - l) cap')) wq := by
  have hm' := hm
  unfold maxLen at hm
  rcases ao with _ | ⟨b, off, spot⟩
  · obtain rfl := hnil rfl
    have h0 : rs.length = 0 := by omega
    obtain rfl : rs = [] := List.eq_nil_of_length_eq_zero h0
    obtain rfl : l = 0 := by omega
    refine ⟨none, 0, by omega, by decide, fun _ => rfl, fun wq h => h, ?_⟩
    intro o a wq x y ho hx hy
    unfold execOp
    simp only [ho, hx, hy, Option.map]
    go_simp
  · by_cases hlc : l < cap
    · refine ⟨some ((⟨b, off, spot⟩ : Addr).add (l * 32)), cap - l, by omega, by unfold maxLen; omega, (fun h => by cases h), ?_, ?_⟩
      · intro wq hq
        by_cases h0 : rs.length = 0
        · rw [show rs.drop l = [] by rw [List.eq_nil_of_length_eq_zero h0]; simp]
          exact RootsAt.nil wq _
        · obtain ⟨b', off', e, _⟩ := hq.addr (by omega)
          cases e
          rw [Addr.add_lit, Nat.mul_comm]
          have := hq.part l (rs.length - l)
          rwa [List.take_of_length_le (by rw [List.length_drop]; exact Nat.le_refl _)] at this
      · intro o a wq x y ho hx hy
        have hne : ¬ cap = l := by omega
        unfold execOp
        simp only [ho, hx, hy, Option.map]
        go_simp
    · obtain rfl : l = cap := by omega
      refine ⟨some ⟨b, off, spot⟩, 0, by omega, by decide, (fun h => by cases h), fun wq h => by rw [List.drop_eq_nil_of_le hcap]; exact RootsAt.nil wq _, ?_⟩
      intro o a wq x y ho hx hy
      unfold execOp
      simp only [ho, hx, hy, Option.map]
      go_simp
/-- The first of a slice of roots. -/
theorem sub_first (ao : Option Addr) (cap : Nat) (rs : List (List Nat)) (hcap : rs.length ≤ cap) (hm : cap ≤ maxLen) (hnil : ao = none → cap = 0) (h : Nat) (hh : h ≤ rs.length) (o : Oper) (a : Act) (wq : World) (x z : Operand) (ho : o.op = .slice 22 x none (some z) none) (hx : a.eval x = .slice ao rs.length cap) (hz : a.eval z = .int .i64 (h : Int)) :
    (execOp a.eval o).run Tryd.prog wq = .ok (.value (.slice ao h cap)) wq := by
  unfold maxLen at hm
  rcases ao with _ | ⟨b, off, spot⟩
  · obtain rfl := hnil rfl
    have h0 : rs.length = 0 := by omega
    obtain rfl : h = 0 := by omega
    rw [h0] at hx
    unfold execOp
    simp only [ho, hx, hz, Option.map]
    go_simp
  · have hhc : h ≤ cap := by omega
    unfold execOp
    simp only [ho, hx, hz, Option.map]
    go_simp
end Go.Proofs.YtdaejfkdopoooaaDoor
