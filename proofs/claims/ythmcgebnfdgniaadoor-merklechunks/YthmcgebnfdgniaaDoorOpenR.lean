/- Bytes that came in, and the walk for every depth. -/
import Derived.Test.YthmcgebnfdgniaaDoorChunksW
import Derived.Test.YthmcgebnfdgniaaDoorAwake3
import Derived.Test.YthmcgebnfdgniaaDoorLaid
import Derived.ProofKit
import Derived.OpenShut
import Derived.ShutString
import Derived.ChangeOld
import Derived.Deep.Slices
import Derived.SevenTiedAt
import Derived.Stop.Joined
namespace Go.Proofs.YthmcgebnfdgniaaDoor
open Go.RowKit Go.Deep Go.ChangeShapes Go.WideShapes Go.ChangeAt
set_option linter.unusedVariables false

theorem cells5 : Tryd.prog.cellsOf 5 = 1 := by kernel_rfl
section
variable {H : Type} {enc : TypeId × Value → H} {W : World} {b0 : Nat} {sp : Nat → Bool} {held : Bool}
/-- Bytes that came in. -/
theorem open_bytes {ao : Option Addr} {len cap : Nat} {d : DataW H} {p : List MemPlace} (h : DataW.Trod enc Tryd.prog W b0 sp held 22 (.slice ao len cap) d p) :
    ∃ bs : List Nat, bs.length = len ∧ (∀ z ∈ bs, z < 256) ∧ Reads W ao bs ∧ len ≤ cap ∧ cap ≤ maxLen ∧ (ao = none → cap = 0) := by
  obtain ⟨fuel, hf⟩ := h
  rcases open_ints Tryd.underlying22 Tryd.underlying5 cells5 hf with ⟨hcs, _⟩ | ⟨a, len', cap', zs, hcs, _, hl, hm, hz, hx, hcell, hwz⟩
  · simp [Value.cells] at hcs
    obtain ⟨rfl, rfl, rfl⟩ := hcs
    exact ⟨[], rfl, (fun z hz => by cases hz), .inl rfl, Nat.le_refl _, by decide, fun _ => rfl⟩
  · simp [Value.cells] at hcs
    obtain ⟨rfl, rfl, rfl⟩ := hcs
    have hzl : len ≤ zs.length := by rw [hz]; split <;> omega
    have hbl : ((zs.take len).map Int.toNat).length = len := by simp; omega
    refine ⟨(zs.take len).map Int.toNat, hbl, fun z hz' => ?_, ?_, by omega, hm, fun e => by cases e⟩
    · obtain ⟨y, hy, rfl⟩ := List.mem_map.1 hz'
      have := bounds_u8 (hwz y (List.mem_of_mem_take hy))
      omega
    · by_cases h0 : len = 0
      · exact .inl (by rw [hbl]; exact h0)
      · obtain ⟨b, off, rfl, hc'⟩ := ints_at hcell (by omega)
        refine .inr ⟨b, off, rfl, fun i hi => ?_⟩
        rw [hbl] at hi
        rw [hc' i (by omega)]
        have hb := bounds_u8 (hwz (zs.getD i 0) (by rw [List.getD_eq_getElem?_getD, List.getElem?_eq_getElem (by omega)]; exact List.getElem_mem _))
        have e : ((zs.take len).map Int.toNat).getD i 0 = (zs.getD i 0).toNat := by
          simp [List.getD_eq_getElem?_getD, hi, show i < zs.length by omega]
        rw [e]
        congr 2
        omega
end
theorem mchunks_walk (ao : Option Addr) (cap : Nat) (bs : List Nat) (stop : Int) (w : World) (hT : Tabs w) (hnil : ao = none → cap = 0) (hcap : bs.length ≤ cap) (hm : cap ≤ maxLen) (h8 : ∀ z ∈ bs, z < 256) (hR : Reads w ao bs) :
    Calls Tryd.prog 3 #[.slice ao bs.length cap, .int .i64 stop] w fun e w' => e = .returned (.bool true) ∧ Below w.heap.size w w' :=
  callsIn_wide.1 (mchunks_in ao cap bs stop w hT hnil hcap hm h8 hR)
end Go.Proofs.YthmcgebnfdgniaaDoor
