/- Bytes that came in. -/
import Derived.Test.YtpkbjoondoaoiaaBase
import Derived.ProofKit
import Derived.OpenShut
import Derived.ShutString
import Derived.ChangeOld
import Derived.Deep.Slices
import Derived.SizedLaws
namespace Go.Proofs.Ytpkbjoondoaoiaa
open Go.RowKit Go.Deep Go.ChangeShapes Go.WideShapes Go.ChangeAt
set_option linter.unusedVariables false

theorem cells5 : Try.prog.cellsOf 5 = 1 := by kernel_rfl
theorem bytes5 : Try.prog.bytesOf 5 = 1 := by kernel_rfl
section
variable {H : Type} {enc : TypeId × Value → H} {W : World} {b0 : Nat} {sp : Nat → Bool} {held : Bool}
theorem b_of_trod {fuel : Nat} {cs : List Value} {x : DataW H × List MemPlace} (h : DataW.trod enc Try.prog W b0 sp held fuel 22 cs = some x) :
    ∃ v bs, cs = [v] ∧ IsB W v bs ∧ (bs.length = 0 ∨ ∃ n, bs.length ≤ n ∧ n ∈ x.1.weights Try.prog 22) := by
  rcases open_ints Try.underlying22 Try.underlying5 cells5 h with ⟨rfl, _⟩ | ⟨a, len, cap, zs, rfl, _, hl, hm, hz, hx, hcell, hwz⟩
  · exact ⟨_, [], rfl, ⟨⟨none, 0, rfl, Nat.le_refl _, by decide, fun _ => rfl, .inl rfl⟩, fun z hz => by cases hz⟩, .inl rfl⟩
  · have hzl : len ≤ zs.length := by rw [hz]; split <;> omega
    have hbl : ((zs.take len).map Int.toNat).length = len := by simp; omega
    refine ⟨_, (zs.take len).map Int.toNat, rfl, ⟨⟨some a, cap, by rw [hbl], by omega, hm, (fun e => by cases e), ?_⟩, fun z hz' => ?_⟩, .inr ⟨(((zs.take len).length) + (zs.drop len).length) * 1, by rw [hbl]; simp; omega, ?_⟩⟩
    · by_cases h0 : len = 0
      · exact .inl (by rw [hbl]; exact h0)
      · obtain ⟨b, off, rfl, hc'⟩ := ints_at hcell (by omega)
        refine .inr ⟨b, off, rfl, fun i hi => ?_⟩
        rw [hbl] at hi
        rw [hc' i (by omega)]
        have hb := bounds_u8 (hwz (zs.getD i 0) (by rw [List.getD_eq_getElem?_getD, List.getElem?_eq_getElem (by omega)]; exact List.getElem_mem _))
        have e : ((zs.take len).map Int.toNat).getD i 0 = (zs.getD i 0).toNat := by
          simp [List.getD_eq_getElem?_getD, hi, show i < zs.length by omega]
        rw [e]
        congr 2
        omega
    · obtain ⟨y, hy, rfl⟩ := List.mem_map.1 hz'
      have := bounds_u8 (hwz y (List.mem_of_mem_take hy))
      omega
    · rw [hx]
      simp [DataW.weights, Try.underlying22, bytes5, lits]
/-- Bytes that came in. -/
theorem open_b {v : Value} {d : DataW H} {p : List MemPlace} (hs : ∃ ao len cap, v = .slice ao len cap) (h : DataW.Trod enc Try.prog W b0 sp held 22 v d p) : ∃ bs, IsB W v bs := by
  obtain ⟨fuel, hf⟩ := h
  obtain ⟨v', bs, he, hI, _⟩ := b_of_trod hf
  obtain ⟨ao, len, cap, rfl⟩ := hs
  simp [Value.cells] at he
  subst he
  exact ⟨bs, hI⟩
end
end Go.Proofs.Ytpkbjoondoaoiaa
