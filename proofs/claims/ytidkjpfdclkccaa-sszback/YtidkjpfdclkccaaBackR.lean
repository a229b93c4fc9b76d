/- Reader.Fail, to the cell: parts that were answered stay. -/
import Derived.Test.YtidkjpfdclkccaaRootR
import Derived.Test.YtidkjpfdclkccaaParts
namespace Go.Proofs.Ytidkjpfdclkccaa
open Go.RowKit Go.Shelf
set_option linter.unusedVariables false
set_option maxRecDepth 100000
set_option maxHeartbeats 1000000 in
theorem fail_eq {g : Nat} {S : Nat → Prop} {bs : List Nat} {size taken : Nat} {ps : List Nat} {wrong : Bool} (w : World) (h : Rd w g S bs size taken ps wrong) :
    Calls Try.prog 24 #[.pointer (some ⟨g, 0, none⟩)] w fun e w' => (∃ u, e = .returned u) ∧ Rd w' g S bs size taken ps true ∧ w.grownBy w' (some g) ∧ ∀ p v, w.cell? p = some v → (∀ y, v ≠ .bool y) → w'.cell? p = some v := by
  obtain ⟨ao, cap, q, c0, c1, c2, c3, c4, c5, ⟨f2, f3, f4, f5⟩, _, _, _, hg⟩ := h.cells
  have HR := hid h
  have HG := hid hg
  clear h c0 c1 c2 c3 c4 hg
  go_enter Try.func24, Try.ntmps24
  go_wp2
  go_end0
  have hG : w.grownBy (w.setCell ⟨g, 5, none⟩ (.bool true)) (some g) := ⟨rfl, rfl, rfl, by simp [World.setCell], fun k _ hk => heap_setCell_other w ⟨g, 5, none⟩ k _ (fun e => hk (by rw [e]))⟩
  refine ⟨⟨_, rfl⟩, HR.out.set hG taken true HR.out.ts (fun e => by cases e) (fun v q' hv => ?_), hG, fun p v hp hv => ?_⟩
  · exact heap_setCell_same w g 5 _ _ _ hv
  · obtain ⟨b, j, sp⟩ := p
    obtain rfl : sp = none := World.cell?_spot hp
    by_cases e : b = g
    · subst e
      rw [cell_of_row w b j _ _ (0, 0) HG.out] at hp
      rw [cell_of_row _ b j _ _ (0, 0) (heap_setCell_same w b 5 _ _ _ HG.out)]
      match j, hp with
      | 0, hp => exact hp
      | 1, hp => exact hp
      | 2, hp => exact hp
      | 3, hp => exact hp
      | 4, hp => exact hp
      | 5, hp => simp at hp; exact absurd hp.symm (hv _)
      | (j + 6), hp => simp at hp
    · exact (World.cell?_of_block (a := ⟨b, j, none⟩) (heap_setCell_other w ⟨g, 5, none⟩ b _ e)).trans hp
theorem IsB.moved {w w' : World} {v : Value} {bs : List Nat} (h : IsB w v bs) (hc : ∀ p v, w.cell? p = some v → (∀ y, v ≠ .bool y) → w'.cell? p = some v) : IsB w' v bs := by
  obtain ⟨⟨ao, cap, e, h1, h2, h3, hR⟩, h8⟩ := h
  refine ⟨⟨ao, cap, e, h1, h2, h3, ?_⟩, h8⟩
  rcases hR with hR | ⟨b, off, e2, hcc⟩
  · exact .inl hR
  · exact .inr ⟨b, off, e2, fun i hi => hc _ _ (hcc i hi) (fun y e => by cases e)⟩
theorem IsBs.moved {w w' : World} {v : Value} {bss : List (List Nat)} (h : IsBs w v bss) (hc : ∀ p v, w.cell? p = some v → (∀ y, v ≠ .bool y) → w'.cell? p = some v) : IsBs w' v bss := by
  obtain ⟨ao, cap, e, h1, h2, h3, h4⟩ := h
  refine ⟨ao, cap, e, h1, h2, h3, ?_⟩
  rcases h4 with h4 | ⟨b, off, e2, hcc⟩
  · exact .inl h4
  · refine .inr ⟨b, off, e2, fun i x hx => ?_⟩
    obtain ⟨u, hu, hI⟩ := hcc i x hx
    refine ⟨u, hc _ _ hu (fun y e => ?_), hI.moved hc⟩
    obtain ⟨⟨_, _, e3, _⟩, _⟩ := hI
    rw [e3] at e
    cases e
end Go.Proofs.Ytidkjpfdclkccaa
