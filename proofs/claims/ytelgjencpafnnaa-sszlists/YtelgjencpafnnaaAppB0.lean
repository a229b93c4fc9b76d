/- Bytes appended onto a slice without room: nothing old turns. -/
import Derived.Test.YtelgjencpafnnaaAppAny
import Derived.Test.YtelgjencpafnnaaSplitC
namespace Go.Proofs.Ytelgjencpafnnaa
open Go.RowKit Go.Shelf
set_option linter.unusedVariables false
set_option linter.unusedSimpArgs false
set_option maxRecDepth 100000

theorem app_empty {P : Program} {w : World} (t ty e : TypeId) (i : TypeInfo) (ht : P.underlying t = some (.slice e)) (hi : P.info? e = some i) (g : Nat) (ao : Option Addr) (m c : Nat) (h0 : 0 < m) (hm : m ≤ 140737488355328) (hb : m * i.bytes ≤ 281474976710656) :
    (Builtin.append_ #[t, t] ty #[.slice (some ⟨g, 0, none⟩) 0 0, .slice ao m c]).run P w = (Builtin.append_ #[t, t] ty #[.slice none 0 0, .slice ao m c]).run P w := by
  have hn : Builtin.nextslicecap m 0 = m := by unfold Builtin.nextslicecap; rw [if_pos (by omega)]
  have hb' : ¬ 281474976710656 < m * i.bytes := by omega
  have hl : ∀ w, (loadCells ⟨g, 0, none⟩ 0).run P w = .ok #[] w := fun w => by simp [loadCells, loadCellsFrom]
  have hx : ¬ (9223372036854775807 < (m : Int) ∧ i.bytes = 0) := by omega
  simp only [Builtin.append_, run_underlying ht, sizeOf, typeInfo, hi, Builtin.lenOf, Builtin.firstCells]
  simp [run_underlying ht, hi, hn, hb', hl, hx, show ¬ m = 0 by omega, typeInfo]
theorem app_nothing {P : Program} {w : World} (t ty e : TypeId) (i : TypeInfo) (ht : P.underlying t = some (.slice e)) (hi : P.info? e = some i) (g : Nat) (ao : Option Addr) (c : Nat) :
    (Builtin.append_ #[t, t] ty #[.slice (some ⟨g, 0, none⟩) 0 0, .slice ao 0 c]).run P w = .ok (.slice (some ⟨g, 0, none⟩) 0 0) w := by
  have hl : ∀ ad w, (loadCells ad 0).run P w = .ok #[] w := fun ad w => by simp [loadCells, loadCellsFrom]
  cases ao with
  | none => simp [Builtin.append_, run_underlying ht, sizeOf, typeInfo, hi, Builtin.lenOf, Builtin.firstCells, storeCells]
  | some ad => simp [Builtin.append_, run_underlying ht, sizeOf, typeInfo, hi, Builtin.lenOf, Builtin.firstCells, hl, storeCells]
/-- A copy of bytes: appended onto an empty slice, in a flow. -/
theorem flow_copy_b {w : World} {o : Oper} {a : Act} {Q : Exit → Act → World → Prop} {I : Value → World → Prop} (s x : Operand) (ho : o.op = .call { callee := .builtin .append, args := #[s, x], argTypes := #[22, 22] })
    (g : Nat) (hs : a.eval s = .slice (some ⟨g, 0, none⟩) 0 0) (bs : List Nat) (v : Value) (hx : a.eval x = v) (hB : IsB w v bs) (hm : bs.length ≤ 1099511627776)
    (hI : ∀ v' w', IsB w' v' bs → I v' w') : o.wp Try.prog a w (fun a' w' => ∃ v, a' = a.put o.dst v ∧ I v w' ∧ Below w.heap.size w w') Q := by
  obtain ⟨i0, hi0, hz0, hz1, hz2⟩ := info_parts Try.info5
  have h8 := hB.by8
  have hsrc := hB.src
  obtain ⟨⟨ao, cap, rfl, hcap, hmx, hnil, hR⟩, _⟩ := hB
  have key : ∀ v' w', (Builtin.append_ #[22, 22] o.type #[.slice (some ⟨g, 0, none⟩) 0 0, .slice ao bs.length cap]).run Try.prog w = .ok v' w' → I v' w' → Below w.heap.size w w' → o.wp Try.prog a w (fun a' w' => ∃ v, a' = a.put o.dst v ∧ I v w' ∧ Below w.heap.size w w') Q := by
    intro v' w' hrun h1 h2
    unfold Oper.wp
    simp only [execOp, ho, resolve, invoke, builtin, Sem.run_bind, Sem.run_pure, Result.andThen_ok, List.map_toArray, List.map_cons, List.map_nil, hs, hx, hrun]
    exact ⟨v', rfl, h1, h2⟩
  by_cases h0 : bs.length = 0
  · obtain rfl : bs = [] := List.eq_nil_of_length_eq_zero h0
    exact key _ w (app_nothing 22 o.type 5 i0 Try.underlying22 hi0 g ao cap) (hI _ _ ⟨⟨some ⟨g, 0, none⟩, 0, rfl, Nat.le_refl _, by decide, (fun h => nomatch h), .inl rfl⟩, by simp⟩) (Below.refl _ w)
  · obtain ⟨v', w', h1, h2, h3, _⟩ := run_append_b (w := w) w.heap.size o.type (.slice none 0 0) [] (World.ownsRow_nil _ _ _ _) (.slice ao bs.length cap) bs 22 hsrc (by simp; omega) (Nat.le_refl _)
    refine key v' w' ((app_empty 22 o.type 5 i0 Try.underlying22 hi0 g _ bs.length cap (by omega) (by omega) (by rw [hz2]; omega)).trans h1) (hI _ _ ?_) ((Below.refl _ _).grown h3 (Nat.le_refl _) (by simp [Value.ownBlock]))
    rw [List.nil_append] at h2
    exact h2.isB h8
end Go.Proofs.Ytelgjencpafnnaa
