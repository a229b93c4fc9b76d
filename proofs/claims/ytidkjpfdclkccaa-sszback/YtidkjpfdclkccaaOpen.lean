/- Slices of bytes that came in. -/
import Derived.Test.YtidkjpfdclkccaaCut
import Derived.Test.YtidkjpfdclkccaaOpenB
namespace Go.Proofs.Ytidkjpfdclkccaa
open Go.RowKit Go.Deep Go.ChangeShapes Go.WideShapes Go.ChangeAt
set_option linter.unusedVariables false

theorem cells30 : Try.prog.cellsOf 30 = 1 := by kernel_rfl
section
variable {H : Type} {enc : TypeId × Value → H} {W : World} {b0 : Nat} {sp : Nat → Bool} {held : Bool}
theorem weightsAll_mem {P : Program} {e : TypeId} {n : Nat} : ∀ {l : List (DataW H)} {d : DataW H}, d ∈ l → n ∈ d.weights P e → n ∈ DataW.weightsAll P e l
  | d0 :: l, d, hd, hn => by
    rw [DataW.weightsAll, List.mem_append]
    rcases List.mem_cons.1 hd with rfl | hd
    · exact .inl hn
    · exact .inr (weightsAll_mem hd hn)
/-- Slices of bytes that came in; none is longer than the reach. -/
theorem open_bss {v : Value} {d : DataW H} {p : List MemPlace} (hs : ∃ ao len cap, v = .slice ao len cap) (h : DataW.Trod enc Try.prog W b0 sp held 49 v d p) (hr : ∀ n ∈ d.weights Try.prog 49, n ≤ reachBytes) :
    ∃ bss, IsBs W v bss ∧ ∀ b ∈ bss, b.length ≤ reachBytes := by
  obtain ⟨fuel, hf⟩ := h
  obtain ⟨ao, len, cap, rfl⟩ := hs
  rcases open_slice Try.underlying49 hf with ⟨hcs, _⟩ | ⟨a, len', cap', m, n, D, Pl, hcs, _, hl, hm, hmm, hd, hx⟩
  · simp [Value.cells] at hcs
    obtain ⟨rfl, rfl, rfl⟩ := hcs
    exact ⟨[], ⟨none, 0, rfl, Nat.le_refl _, by decide, fun _ => rfl, .inl rfl⟩, fun b hb => by cases hb⟩
  · simp [Value.cells] at hcs
    obtain ⟨rfl, rfl, rfl⟩ := hcs
    rw [cells30] at hx
    have hlm : len ≤ m := by rw [hmm]; split <;> omega
    have each : ∀ i, i < len → ∃ bs : List Nat, bs.length ≤ reachBytes ∧ ∃ u, W.cell? (a.add i) = some u ∧ IsB W u bs := by
      intro i hi
      obtain ⟨cs', hc, ht⟩ := hx i (by omega)
      obtain ⟨u, bs, rfl, hI, hw⟩ := b_of_trod ht
      refine ⟨bs, ?_, u, ?_, hI⟩
      · rcases hw with hw | ⟨q, h1, h2⟩
        · rw [hw]; exact Nat.zero_le _
        · refine Nat.le_trans h1 (hr q ?_)
          have hd' : d = .slice ((List.range len).map D) ((List.range (m - len)).map fun j => D (len + j)) := congrArg Prod.fst hd
          rw [hd', DataW.weights, Try.underlying49]
          refine List.mem_cons_of_mem _ (List.mem_append.2 (.inl (weightsAll_mem (d := D i) (List.mem_map.2 ⟨i, List.mem_range.2 hi, rfl⟩) h2)))
      · have := (World.cells?_some hc).2.2 0 (by decide)
        rw [Nat.mul_one] at this
        simpa [Addr.add] using this
    have hf : ∃ f : Nat → List Nat, ∀ i, i < len → (f i).length ≤ reachBytes ∧ ∃ u, W.cell? (a.add i) = some u ∧ IsB W u (f i) :=
      ⟨fun i => if h : i < len then Classical.choose (each i h) else [], fun i hi => by simp only [hi, dif_pos]; exact Classical.choose_spec (each i hi)⟩
    obtain ⟨f, hf⟩ := hf
    refine ⟨(List.range len).map f, ⟨some a, cap, by simp, by simpa using hl, hm, (fun e => by cases e), ?_⟩, fun b hb => by obtain ⟨i, hi, rfl⟩ := List.mem_map.1 hb; exact (hf i (List.mem_range.1 hi)).1⟩
    by_cases h0 : len = 0
    · exact .inl (by simp [h0])
    · obtain ⟨b, off, spot⟩ := a
      obtain ⟨u0, hu0, _⟩ := (hf 0 (by omega)).2
      have hspot : spot = none := by simpa [Addr.add] using World.cell?_spot hu0
      subst hspot
      refine .inr ⟨b, off, rfl, fun i x hx => ?_⟩
      have hi : i < len := by have := (List.getElem?_eq_some_iff.1 hx).1; simpa using this
      have hx' : x = f i := by simp [hi] at hx; exact hx.symm
      subst hx'
      obtain ⟨u, hu, hI⟩ := (hf i hi).2
      rw [Addr.add_lit] at hu
      exact ⟨u, hu, hI⟩
end
end Go.Proofs.Ytidkjpfdclkccaa
