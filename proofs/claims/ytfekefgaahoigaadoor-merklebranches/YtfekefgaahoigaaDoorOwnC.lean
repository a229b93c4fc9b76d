/- Contracts of the statements' own: a list of its own; and of merkle's Branch. -/
import Derived.Test.YtfekefgaahoigaaDoorVerC
import Derived.Laws.AppendOwnNone
namespace Go.Proofs.YtfekefgaahoigaaDoor
open Go.RowKit
set_option linter.unusedVariables false

theorem own_none (w : World) : (w.alloc (.cells #[] 27)).ownsRow w.heap.size 27 32 (.slice (some ⟨w.heap.size, 0, none⟩) 0 0) 0 (cellsOf []) :=
  ⟨rfl, .inr ⟨w.heap.size, 0, #[], rfl, Nat.le_refl _, heap_alloc_new w _, Nat.le_refl _, Nat.zero_le _, rfl, rfl⟩⟩
theorem below_grownR {w w' : World} {v : Value} {B e n s : Nat} {xs : List Value} {W : World} (hW : Below W.heap.size W w) (hown : w.ownsRow B e s v n xs) (hB : W.heap.size ≤ B) (h : w.grownBy w' v.ownBlock) : Below W.heap.size W w' :=
  hW.grown h hW.size (fun k hk => Nat.le_trans hB (hown.lt k hk).1)

set_option maxRecDepth 100000 in
set_option maxHeartbeats 1000000 in
theorem own_any (ao : Option Addr) (cap : Nat) (rs : List (List Nat)) (w : World) (hnil : ao = none → cap = 0) (hlen : rs.length ≤ 4398046511104) (hR : RootsAt w ao rs) :
    Calls Tryd.prog 9 #[.slice ao rs.length cap] w fun e w' => ∃ v, e = .returned v ∧ w'.ownsRow w.heap.size 27 32 v rs.length (cellsOf rs) ∧ Below w.heap.size w w' := by
  have HB : Below w.heap.size w (w.alloc (.cells #[] 27)) := (Below.refl _ w).alloc (Nat.le_refl _) _
  have HRA := hR.keep HB
  have HO := own_none w
  have hl := flat_length rs hR.rts
  rcases ao with _ | ad
  · have h0 : rs.length = 0 := by
      by_cases h : rs.length = 0
      · exact h
      · obtain ⟨b, off, e, _⟩ := hR.addr (by omega); cases e
    obtain rfl : rs = [] := List.eq_nil_of_length_eq_zero h0
    obtain rfl := hnil rfl
    obtain ⟨i0, hi0⟩ : ∃ i, Tryd.prog.info? 27 = some i := by
      have := Tryd.size27
      cases hq : Tryd.prog.info? 27 with
      | none => simp [hq] at this
      | some i => exact ⟨i, rfl⟩
    have HI := hid hi0
    clear hi0
    go_enter Tryd.func9, Tryd.ntmps9
    go_wp2_with (refine wpList_append_own_none rfl (.tmp 3) (.tmp 4) 22 rfl w.heap.size 27 i0 32 Tryd.underlying22 HI.out _ 0 _ rfl (by exact HO) rfl ?_)
    go_ret
    exact ⟨_, rfl, HO, HB⟩
  · have HC : ∀ j, j < 32 * rs.length → (w.alloc (.cells #[] 27)).cell? (ad.add j) = some (.int .u8 (rs.flatten.getD j 0 : Nat)) := by
      intro j hj
      obtain ⟨ad', e1, hc⟩ := HRA.reads.src (by omega)
      cases e1
      exact hc j (by omega)
    have HCh := hid HC
    clear HC
    go_enter Tryd.func9, Tryd.ntmps9
    go_wp2_with (refine wpList_append_roots rfl (.tmp 3) (.tmp 4) 22 rfl w.heap.size 27 Tryd.underlying22 Tryd.rootInfo _ 0 [] rs rfl (by exact HO) hR.rts ad cap rfl (by exact HCh.out) (by omega) (by exact HB.size) ?_; intro v' w' own' grow')
    go_ret
    rw [List.nil_append, Nat.zero_add] at own'
    exact ⟨v', rfl, own', below_grownR HB HO (Nat.le_refl _) grow'⟩
end Go.Proofs.YtfekefgaahoigaaDoor
