/- Bytes, and slices of bytes, that came in. -/
import Derived.Test.YtfnemggfmifpaaaCut
import Derived.ProofKit
import Derived.OpenShut
import Derived.ShutString
import Derived.ChangeOld
import Derived.Deep.Slices
import Derived.SizedLaws
namespace Go.Proofs.Ytfnemggfmifpaaa
open Go.RowKit Go.Deep Go.ChangeShapes Go.WideShapes Go.ChangeAt
set_option linter.unusedVariables false

theorem cells5 : Try.prog.cellsOf 5 = 1 := by kernel_rfl
theorem bytes5 : Try.prog.bytesOf 5 = 1 := by kernel_rfl
theorem cells30 : Try.prog.cellsOf 30 = 1 := by kernel_rfl
section
variable {H : Type} {enc : TypeId × Value → H} {W : World} {b0 : Nat} {sp : Nat → Bool} {held : Bool}
theorem b_of_trod {fuel : Nat} {cs : List Value} {x : DataW H × List MemPlace} (h : DataW.trod enc Try.prog W b0 sp held fuel 30 cs = some x) :
    ∃ v bs, cs = [v] ∧ IsB W v bs ∧ (bs.length = 0 ∨ ∃ n, bs.length ≤ n ∧ n ∈ x.1.weights Try.prog 30) := by
  rcases open_ints Try.underlying30 Try.underlying5 cells5 h with ⟨rfl, _⟩ | ⟨a, len, cap, zs, rfl, _, hl, hm, hz, hx, hcell, hwz⟩
  · exact ⟨_, [], rfl, ⟨⟨none, 0, rfl, Nat.le_refl _, by decide, fun _ => rfl, .inl rfl⟩, fun z hz => by cases hz⟩, .inl rfl⟩
  · have hzl : len ≤ zs.length := by rw [hz]; split <;> omega
    have hbl : ((zs.take len).map Int.toNat).length = len := by simp; omega
    refine ⟨_, (zs.take len).map Int.toNat, rfl, ⟨⟨some a, cap, by rw [hbl], by omega, hm, (fun e => by cases e), ?_⟩, fun z hz' => ?_⟩, .inr ⟨(((zs.take len).length) + (zs.drop len).length) * 1, by rw [hbl]; simp; omega, ?_⟩⟩
    · by_cases h0 : len = 0
      · exact .inl (by rw [hbl]; exact h0)
      · obtain ⟨b, off, rfl, hc'⟩ := ints_at hcell (by omega)
        refine .inr ⟨b, off, rfl, fun i hi => ?_⟩
        rw [hbl] at hi
        rw [hc' i (by omega)]
        have hb := bounds_u8 (hwz (zs.getD i 0) (by rw [List.getD_eq_getElem?_getD, List.getElem?_eq_getElem (by omega)]; exact List.getElem_mem _))
        have e : ((zs.take len).map Int.toNat).getD i 0 = (zs.getD i 0).toNat := by
          simp [List.getD_eq_getElem?_getD, hi, show i < zs.length by omega]
        rw [e]
        congr 2
        omega
    · obtain ⟨y, hy, rfl⟩ := List.mem_map.1 hz'
      have := bounds_u8 (hwz y (List.mem_of_mem_take hy))
      omega
    · rw [hx]
      simp [DataW.weights, Try.underlying30, bytes5, lits]
/-- Bytes that came in. -/
theorem open_b {v : Value} {d : DataW H} {p : List MemPlace} (hs : ∃ ao len cap, v = .slice ao len cap) (h : DataW.Trod enc Try.prog W b0 sp held 30 v d p) : ∃ bs, IsB W v bs := by
  obtain ⟨fuel, hf⟩ := h
  obtain ⟨v', bs, he, hI, _⟩ := b_of_trod hf
  obtain ⟨ao, len, cap, rfl⟩ := hs
  simp [Value.cells] at he
  subst he
  exact ⟨bs, hI⟩
theorem weightsAll_mem {P : Program} {e : TypeId} {n : Nat} : ∀ {l : List (DataW H)} {d : DataW H}, d ∈ l → n ∈ d.weights P e → n ∈ DataW.weightsAll P e l
  | d0 :: l, d, hd, hn => by
    rw [DataW.weightsAll, List.mem_append]
    rcases List.mem_cons.1 hd with rfl | hd
    · exact .inl hn
    · exact .inr (weightsAll_mem hd hn)
/-- Slices of bytes that came in; none is longer than the reach. -/
theorem open_bss {v : Value} {d : DataW H} {p : List MemPlace} (hs : ∃ ao len cap, v = .slice ao len cap) (h : DataW.Trod enc Try.prog W b0 sp held 49 v d p) (hr : ∀ n ∈ d.weights Try.prog 49, n ≤ reachBytes) :
    ∃ bss, IsBs W v bss ∧ ∀ b ∈ bss, b.length ≤ reachBytes := by
  obtain ⟨fuel, hf⟩ := h
  obtain ⟨ao, len, cap, rfl⟩ := hs
  rcases open_slice Try.underlying49 hf with ⟨hcs, _⟩ | ⟨a, len', cap', m, n, D, Pl, hcs, _, hl, hm, hmm, hd, hx⟩
  · simp [Value.cells] at hcs
    obtain ⟨rfl, rfl, rfl⟩ := hcs
    exact ⟨[], ⟨none, 0, rfl, Nat.le_refl _, by decide, fun _ => rfl, .inl rfl⟩, fun b hb => by cases hb⟩
  · simp [Value.cells] at hcs
    obtain ⟨rfl, rfl, rfl⟩ := hcs
    rw [cells30] at hx
    have hlm : len ≤ m := by rw [hmm]; split <;> omega
    have each : ∀ i, i < len → ∃ bs : List Nat, bs.length ≤ reachBytes ∧ ∃ u, W.cell? (a.add i) = some u ∧ IsB W u bs := by
      intro i hi
      obtain ⟨cs', hc, ht⟩ := hx i (by omega)
      obtain ⟨u, bs, rfl, hI, hw⟩ := b_of_trod ht
      refine ⟨bs, ?_, u, ?_, hI⟩
      · rcases hw with hw | ⟨q, h1, h2⟩
        · rw [hw]; exact Nat.zero_le _
        · refine Nat.le_trans h1 (hr q ?_)
          have hd' : d = .slice ((List.range len).map D) ((List.range (m - len)).map fun j => D (len + j)) := congrArg Prod.fst hd
          rw [hd', DataW.weights, Try.underlying49]
          refine List.mem_cons_of_mem _ (List.mem_append.2 (.inl (weightsAll_mem (d := D i) (List.mem_map.2 ⟨i, List.mem_range.2 hi, rfl⟩) h2)))
      · have := (World.cells?_some hc).2.2 0 (by decide)
        rw [Nat.mul_one] at this
        simpa [Addr.add] using this
    have hf : ∃ f : Nat → List Nat, ∀ i, i < len → (f i).length ≤ reachBytes ∧ ∃ u, W.cell? (a.add i) = some u ∧ IsB W u (f i) :=
      ⟨fun i => if h : i < len then Classical.choose (each i h) else [], fun i hi => by simp only [hi, dif_pos]; exact Classical.choose_spec (each i hi)⟩
    obtain ⟨f, hf⟩ := hf
    refine ⟨(List.range len).map f, ⟨some a, cap, by simp, by simpa using hl, hm, (fun e => by cases e), ?_⟩, fun b hb => by obtain ⟨i, hi, rfl⟩ := List.mem_map.1 hb; exact (hf i (List.mem_range.1 hi)).1⟩
    by_cases h0 : len = 0
    · exact .inl (by simp [h0])
    · obtain ⟨b, off, spot⟩ := a
      obtain ⟨u0, hu0, _⟩ := (hf 0 (by omega)).2
      have hspot : spot = none := by simpa [Addr.add] using World.cell?_spot hu0
      subst hspot
      refine .inr ⟨b, off, rfl, fun i x hx => ?_⟩
      have hi : i < len := by have := (List.getElem?_eq_some_iff.1 hx).1; simpa using this
      have hx' : x = f i := by simp [hi] at hx; exact hx.symm
      subst hx'
      obtain ⟨u, hu, hI⟩ := (hf i hi).2
      rw [Addr.add_lit] at hu
      exact ⟨u, hu, hI⟩
end
end Go.Proofs.Ytfnemggfmifpaaa
