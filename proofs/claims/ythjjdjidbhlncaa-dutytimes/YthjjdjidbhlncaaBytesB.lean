/- Contracts of Put and Take of package num, and of the document's answers: bytes of a number, the lowest first. -/
import Derived.Test.YthjjdjidbhlncaaPureB
namespace Go.Proofs.Ythjjdjidbhlncaa
set_option maxRecDepth 100000
open Go.RowKit
set_option linter.unusedVariables false
set_option maxRecDepth 100000

theorem Try.info5 : (Try.prog.info? 5).map (fun i => (i.zero, i.size, i.bytes)) = some (some (.int .u8 0), 1, 1) := by kernel_rfl

theorem made_zero (size : Nat) (n : Nat) : (madeCells (Value.int .u8 0).cells (size * 1)).toList = (putUp n size 0).map (Value.int .u8) := by
  rw [putUp_zero, Nat.mul_one]
  exact (toList_madeCells_one (.int .u8 0) size).trans (by simp)

/-- What one round of num.Put does to the row. -/
theorem put_step {w wr : World} {size cap n k B : Nat} (hB : B = w.heap.size)
    (hown : wr.ownsRow B 5 1 (.slice (some ⟨B, 0, none⟩) size cap) size ((putUp n size k).map (Value.int .u8))) (hbel : Below B w wr) :
    (wr.setCell ⟨B, k, none⟩ (.int .u8 (byteAt n k))).ownsRow B 5 1 (.slice (some ⟨B, 0, none⟩) size cap) size ((putUp n size (k + 1)).map (Value.int .u8)) ∧
      Below B w (wr.setCell ⟨B, k, none⟩ (.int .u8 (byteAt n k))) := by
  have h := (hown.stored k (.int .u8 (byteAt n k))).1
  rw [← List.map_set, putUp_set] at h
  exact ⟨h, hbel.setCell (Nat.le_refl _) _⟩

/-- What one append of the document's Put does. -/
theorem putL_map_succ (n k : Nat) : (putL n k).map (Value.int .u8) ++ [.int .u8 (byteAt n k)] = (putL n (k + 1)).map (Value.int .u8) := by rw [putL_succ]; simp

/-- The slice value's first len bytes, read in the world w, are zs. -/
def ReadsBytes (w : World) (ao : Option Addr) (len : Nat) (zs : List Int) : Prop :=
  zs.length = len ∧ (∀ z ∈ zs, 0 ≤ z ∧ z < 256) ∧ (len = 0 ∨ ∃ b off, ao = some ⟨b, off, none⟩ ∧ ∀ i, i < len → w.cell? ⟨b, off + i, none⟩ = some (.int .u8 (zs.getD i 0)))

theorem getD_get (zs : List Int) (k : Nat) (h : k < zs.length) : zs.getD k 0 = zs[k] := by simp [List.getD_eq_getElem?_getD, h]

end Go.Proofs.Ythjjdjidbhlncaa
