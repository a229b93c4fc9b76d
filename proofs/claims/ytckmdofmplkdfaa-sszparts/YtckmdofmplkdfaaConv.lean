/- Bytes as strings; equal strings are equal bytes. -/
import Derived.Test.YtckmdofmplkdfaaBase
namespace Go.Proofs.Ytckmdofmplkdfaa
open Go.RowKit
set_option linter.unusedVariables false
def strOf (l : List Nat) : ByteArray := (l.map fun n : Nat => (n : Int)).foldl (fun r n => r.push (UInt8.ofNat n.toNat)) ByteArray.empty
theorem fold_push (l : List Int) : ∀ r : ByteArray, l.foldl (fun r n => r.push (UInt8.ofNat n.toNat)) r = ⟨r.data ++ (l.map fun n => UInt8.ofNat n.toNat).toArray⟩ := by
  induction l with
  | nil => intro r; simp
  | cons x l ih =>
    intro r
    rw [List.foldl_cons, ih]
    simp [ByteArray.push]
theorem strOf_eq (l : List Nat) : strOf l = ⟨(l.map UInt8.ofNat).toArray⟩ := by
  rw [strOf, fold_push]
  simp
theorem strOf_append (l m : List Nat) : strOf (l ++ m) = strOf l ++ strOf m := by
  rw [strOf_eq, strOf_eq, strOf_eq]
  apply ByteArray.ext
  simp
theorem strOf_size (l : List Nat) : (strOf l).size = l.length := by
  rw [strOf_eq]
  simp [ByteArray.size]
theorem strOf_inj {l m : List Nat} (hl : ∀ z ∈ l, z < 256) (hm : ∀ z ∈ m, z < 256) (h : strOf l = strOf m) : l = m := by
  rw [strOf_eq, strOf_eq] at h
  have e : l.map UInt8.ofNat = m.map UInt8.ofNat := by
    have := congrArg ByteArray.data h
    simpa using congrArg Array.toList this
  have e2 := congrArg (List.map UInt8.toNat) e
  rw [List.map_map, List.map_map] at e2
  have f : ∀ (k : List Nat), (∀ z ∈ k, z < 256) → k.map (UInt8.toNat ∘ UInt8.ofNat) = k := fun k hk => by
    conv => rhs; rw [← List.map_id k]
    apply List.map_congr_left
    intro z hz
    have := hk z hz
    show (UInt8.ofNat z).toNat = z
    rw [UInt8.toNat_ofNat']
    omega
  rwa [f l hl, f m hm] at e2
/-- A slice of bytes, turned into a string. -/
theorem conv_b {w : World} {v : Value} {bs : List Nat} (h : IsB w v bs) : (convert 24 9 v).run Try.prog w = .ok (.string (strOf bs)) w := by
  obtain ⟨⟨ao, cap, rfl, h1, h2, h3, h⟩, h8⟩ := h
  rw [run_convert_bytes_string w 24 9 5 _ _ _ Try.underlying24 Try.underlying5 Try.underlying9]
  rcases ao with _ | ad
  · obtain rfl : bs = [] := List.eq_nil_of_length_eq_zero (by have := h3 rfl; omega)
    unfold Conv.bytesToString strOf
    simp [Sem.run_pure]
  · refine run_bytesToString w _ bs.length cap (bs.map fun n : Nat => (n : Int)) ?_
    have := run_loadCells_list (P := Try.prog) w ad (cellsB bs) (fun j u hj => by
      obtain ⟨hjl, rfl⟩ := cellsB_get bs j u hj
      obtain ⟨ad', e1, hc⟩ := h.src (by omega)
      cases e1
      exact hc j hjl)
    rw [cellsB_length] at this
    rw [List.map_map]
    exact this
end Go.Proofs.Ytckmdofmplkdfaa
