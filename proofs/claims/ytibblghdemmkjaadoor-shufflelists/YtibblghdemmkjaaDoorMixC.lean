/- Contracts of the document's Tree, and of both Mix: a number mixed in. -/
import Derived.Test.YtibblghdemmkjaaDoorPutC
namespace Go.Proofs.YtibblghdemmkjaaDoor
set_option maxRecDepth 100000
open Go.RowKit
set_option linter.unusedVariables false

/-- Byte i of n. -/
def byteN (n i : Nat) : Nat := n / 256 ^ i % 256
/-- A number as a root, its first t bytes. -/
def wUp (n : Nat) : Nat → List Nat
  | 0 => zeros 32
  | t + 1 => (wUp n t).set t (byteN n t)
theorem wUp_rt (n t : Nat) : Rt (wUp n t) := by
  induction t with
  | zero => exact zero_rt
  | succ t ih => exact ⟨by rw [wUp, List.length_set]; exact ih.len, set_bytes _ _ _ ih.byte (Nat.mod_lt _ (by decide))⟩
def byte8 (n : Nat) : List Nat := (List.range 8).map (byteN n)
theorem over_word (n : Nat) : over (zeros 32) 0 (byte8 n) = wUp n 8 := rfl
theorem put_cells {w : World} {base : Nat} {v : Value} {n : Nat} (h : w.ownsRow base 5 1 v 8 ((putL n 8).map (Value.int .u8))) : ∃ g cap, base ≤ g ∧ 8 ≤ cap ∧ cap ≤ maxLen ∧ v = .slice (some ⟨g, 0, none⟩) 8 cap ∧ ∀ i, i < 8 → w.cell? ⟨g, i, none⟩ = some (.int .u8 (byteN n i : Nat)) := by
  obtain ⟨hl, ⟨_, h8⟩ | ⟨g, cap, cur, rfl, hb, hg, hnc, hm, hcs, htk⟩⟩ := h
  · omega
  · refine ⟨g, cap, hb, hnc, hm, rfl, fun i hi => ?_⟩
    rw [cell_of_row w g i _ _ (0, 0) hg, ← Array.getElem?_toList]
    have : (cur.toList.take (8 * 1))[i]? = ((putL n 8).map (Value.int .u8))[i]? := by rw [htk]
    rw [List.getElem?_take, if_pos (by omega)] at this
    rw [this]
    simp [putL, hi, byteAt, byteN]

end Go.Proofs.YtibblghdemmkjaaDoor
