/- Roots and slices of roots that came in. -/
import Derived.Test.YtibblghdemmkjaaDoorAw8
import Derived.Test.YtibblghdemmkjaaDoorLaid
import Derived.ProofKit
import Derived.OpenShut
import Derived.ShutString
import Derived.ChangeOld
import Derived.Deep.Slices
import Derived.SevenTiedAt
import Derived.Stop.Joined
namespace Go.Proofs.YtibblghdemmkjaaDoor
open Go.RowKit Go.Deep
set_option linter.unusedVariables false

theorem cells27 : Tryd.prog.cellsOf 24 = 32 := by kernel_rfl
theorem cells5 : Tryd.prog.cellsOf 5 = 1 := by kernel_rfl
section
variable {H : Type} {enc : TypeId × Value → H} {W : World} {b0 : Nat} {sp : Nat → Bool} {held : Bool}
theorem root_of_trod {fuel : Nat} {cs : List Value} {x : DataW H × List MemPlace} (h : DataW.trod enc Tryd.prog W b0 sp held fuel 24 cs = some x) : ∃ r : List Nat, cs = (nums .u8 r).toList ∧ Rt r := by
  obtain ⟨xs, m, _, _, hl, hxs, hel⟩ := DataW.trod_array Tryd.und24 h
  rw [cells27] at hl
  have key : ∀ i (hi : i < cs.length), ∃ n : Nat, cs[i] = .int .u8 (n : Int) ∧ n < 256 := by
    intro i hi
    have h1 := hel i (by omega)
    rw [cells5, Nat.mul_one, List.getElem?_eq_getElem (by omega)] at h1
    obtain ⟨n, e1, _, hw⟩ := DataW.trod_int Tryd.underlying5 h1
    have hb := bounds_u8 hw
    have e2 : (cs.drop i).take 1 = [cs[i]] := by
      rw [List.drop_eq_getElem_cons hi, List.take_succ_cons, List.take_zero]
    have e3 : [cs[i]] = [Value.int .u8 n] := e2.symm.trans e1
    refine ⟨n.toNat, ?_, by omega⟩
    have e4 : cs[i] = Value.int .u8 n := by simpa using e3
    rw [e4]
    congr 1
    omega
  refine ⟨cs.map fun v => (intOf v).toNat, ?_, by simp [hl], ?_⟩
  · unfold nums
    apply List.ext_getElem
    · simp
    · intro i h1 h2
      obtain ⟨n, e, hn⟩ := key i h1
      simp [e, intOf]
  · intro z hz
    obtain ⟨v, hv, rfl⟩ := List.mem_map.1 hz
    obtain ⟨i, hi, rfl⟩ := List.mem_iff_getElem.1 hv
    obtain ⟨n, e, hn⟩ := key i hi
    simp [e, intOf, hn]
/-- A root that came in by value. -/
theorem open_root {base : Nat} {v : Value} {d : DataW H} {p : List MemPlace} (hv : Value.okWide Tryd.prog W .any base 24 v) (h : DataW.Trod enc Tryd.prog W b0 sp held 24 v d p) :
    ∃ r : List Nat, v = .agg (nums .u8 r) ∧ Rt r := by
  have hv' := hv
  simp only [Value.okWide, Tryd.und24] at hv'
  obtain ⟨cs, rfl, hsz, _⟩ := hv'
  obtain ⟨fuel, hf⟩ := h
  obtain ⟨r, e, hr⟩ := root_of_trod hf
  exact ⟨r, by rw [← Array.toList_inj.1 (show cs.toList = (nums .u8 r).toList from e)], hr⟩
/-- A slice of roots that came in. -/
theorem open_roots {ao : Option Addr} {len cap : Nat} {d : DataW H} {p : List MemPlace} (h : DataW.Trod enc Tryd.prog W b0 sp held 70 (.slice ao len cap) d p) :
    ∃ rs : List (List Nat), rs.length = len ∧ RootsAt W ao rs ∧ len ≤ cap ∧ cap ≤ maxLen ∧ (ao = none → cap = 0) := by
  obtain ⟨fuel, hf⟩ := h
  rcases open_slice Tryd.underlying70 hf with ⟨hcs, _⟩ | ⟨a, len', cap', m, n, D, Pl, hcs, _, hl, hm, hmm, _, hx⟩
  · simp [Value.cells] at hcs
    obtain ⟨rfl, rfl, rfl⟩ := hcs
    exact ⟨[], rfl, RootsAt.nil W _, Nat.le_refl _, by decide, fun _ => rfl⟩
  · simp [Value.cells] at hcs
    obtain ⟨rfl, rfl, rfl⟩ := hcs
    rw [cells27] at hx
    have hlm : len ≤ m := by rw [hmm]; split <;> omega
    have each : ∀ i, i < len → ∃ r : List Nat, Rt r ∧ ∀ j, j < 32 → W.cell? ((a.add (i * 32)).add j) = some (.int .u8 (r.getD j 0 : Nat)) := by
      intro i hi
      obtain ⟨cs', hc, ht⟩ := hx i (by omega)
      obtain ⟨r, rfl, hr⟩ := root_of_trod ht
      refine ⟨r, hr, fun j hj => ?_⟩
      rw [(World.cells?_some hc).2.2 j hj, Array.getElem?_toList]
      exact nums_get .u8 r j (by rw [hr.len]; exact hj)
    have hf : ∃ f : Nat → List Nat, ∀ i, i < len → Rt (f i) ∧ ∀ j, j < 32 → W.cell? ((a.add (i * 32)).add j) = some (.int .u8 ((f i).getD j 0 : Nat)) :=
      ⟨fun i => if h : i < len then Classical.choose (each i h) else [], fun i hi => by simp only [hi, dif_pos]; exact Classical.choose_spec (each i hi)⟩
    obtain ⟨f, hf⟩ := hf
    have hrts : Rts ((List.range len).map f) := ⟨fun r hr => by obtain ⟨i, hi, rfl⟩ := List.mem_map.1 hr; exact (hf i (List.mem_range.1 hi)).1.len, fun r hr => by obtain ⟨i, hi, rfl⟩ := List.mem_map.1 hr; exact (hf i (List.mem_range.1 hi)).1.byte⟩
    refine ⟨(List.range len).map f, by simp, ⟨hrts, ?_⟩, hl, hm, fun e => by cases e⟩
    by_cases h0 : len = 0
    · exact .inl (by simp [h0])
    · obtain ⟨b, off, spot⟩ := a
      have hspot : spot = none := by
        have := (hf 0 (by omega)).2 0 (by omega)
        simpa [Addr.add] using World.cell?_spot this
      subst hspot
      refine .inr ⟨b, off, rfl, fun q hq => ?_⟩
      rw [flat_length _ hrts, List.length_map, List.length_range] at hq
      have h1 := (hf (q / 32) (by omega)).2 (q % 32) (by omega)
      rw [Addr.add_lit, Addr.add_lit, show off + q / 32 * 32 + q % 32 = off + q by omega] at h1
      rw [h1]
      have h2 := flat_getD ((List.range len).map f) hrts (q / 32) (q % 32) (by simp; omega) (by omega)
      rw [show 32 * (q / 32) + q % 32 = q by omega] at h2
      rw [h2]
      simp [show q / 32 < len by omega]
end
end Go.Proofs.YtibblghdemmkjaaDoor
