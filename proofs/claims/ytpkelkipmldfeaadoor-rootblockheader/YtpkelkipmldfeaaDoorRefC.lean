/- Contract of the document's Chunks. -/
import Derived.Test.YtpkelkipmldfeaaDoorRefV
namespace Go.Proofs.YtpkelkipmldfeaaDoor
set_option maxRecDepth 100000
open Go.RowKit
set_option linter.unusedVariables false

/-- Bytes in parts, one behind the other: the bytes, and 0 behind. -/
theorem chunks_flat (b : List Nat) (hb : ∀ z ∈ b, z < 256) : (chunks b).flatten = b ++ zeros (32 * ((b.length + 31) / 32) - b.length) := by
  have hr := chunks_rts b hb
  have hl := flat_length _ hr
  rw [chunks_length] at hl
  apply ext_getD
  · rw [hl, List.length_append, zeros_length]; omega
  · intro i hi
    rw [hl] at hi
    have h1 := flat_getD (chunks b) hr (i / 32) (i % 32) (by rw [chunks_length]; omega) (by omega)
    rw [show 32 * (i / 32) + i % 32 = i by omega] at h1
    have h2 : (chunks b).getD (i / 32) [] = chunkAt b (i / 32) := by
      unfold chunks
      simp [show i / 32 < (b.length + 31) / 32 by omega]
    rw [h1, h2, chunkAt_getD b _ _ (by omega), show 32 * (i / 32) + i % 32 = i by omega, append_getD]
    by_cases h3 : i < b.length
    · rw [if_pos h3]
    · rw [if_neg h3]
      simp only [List.getD_eq_getElem?_getD, zeros]
      rw [List.getElem?_eq_none (by omega), List.getElem?_replicate]
      split <;> rfl
theorem take_bytes (b : List Nat) (hb : ∀ z ∈ b, z < 256) (t : Nat) : ∀ z ∈ b.take t, z < 256 := fun z hz => hb z (List.mem_of_mem_take hz)
/-- One byte more, where there is room for it. -/
theorem chunks_put (b : List Nat) (hb : ∀ z ∈ b, z < 256) (t m : Nat) (rs : List (List Nat)) (ht : t < b.length) (hm : m = (t + 1 + 31) / 32) (hf : rs.flatten = b.take t ++ zeros (32 * m - t)) :
    (cellsOf rs).set t (.int .u8 (b.getD t 0 : Nat)) = cellsOf (chunks (b.take (t + 1))) := by
  have h1 := chunks_flat (b.take (t + 1)) (take_bytes b hb _)
  rw [List.length_take, Nat.min_eq_left (by omega), ← hm] at h1
  unfold cellsOf
  rw [h1, hf, ← List.map_set]
  congr 1
  have hl : (b.take t).length = t := by rw [List.length_take]; omega
  rw [List.set_append, if_neg (by omega), hl, Nat.sub_self]
  unfold zeros
  rw [show 32 * m - t = 32 * m - (t + 1) + 1 by omega, List.replicate_succ, List.set_cons_zero, List.take_add_one, List.getElem?_eq_getElem ht, List.append_assoc, List.getD_eq_getElem?_getD, List.getElem?_eq_getElem ht]
  rfl
theorem run_inner {o : Oper} {a : Act} {w : World} (x y : Operand) (ho : o.op = .indexAddr 23 x y) (g o1 k q : Nat) (hx : a.eval x = .pointer (some ⟨g, o1, none⟩)) (hy : a.eval y = .int .i64 (k : Int)) (hk : k < 32) (hq : q = o1 + k) :
    (execOp a.eval o).run Tryd.prog w = .ok (.value (.pointer (some ⟨g, q, none⟩))) w := by
  subst hq
  unfold execOp
  simp only [ho, hx, hy]
  go_simp
  intro h32
  exact absurd h32 (by omega)
theorem row_some32 {w : World} {base n : Nat} {e : TypeId} {v : Value} {xs : List Value} (h : w.ownsRow base e 32 v n xs) (h0 : 0 < n) : ∃ g cap, base ≤ g ∧ v = .slice (some ⟨g, 0, none⟩) n cap ∧ g < w.heap.size := by
  obtain ⟨_, ⟨_, h1⟩ | ⟨g, cap, cur, rfl, hb, hg, hnc, hm, hcs, htk⟩⟩ := h
  · omega
  · exact ⟨g, cap, hb, rfl, (Array.getElem?_eq_some_iff.1 hg).1⟩

end Go.Proofs.YtpkelkipmldfeaaDoor
