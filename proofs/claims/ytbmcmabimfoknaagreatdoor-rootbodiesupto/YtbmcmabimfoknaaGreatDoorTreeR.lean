/- Trees of roots: the plain mathematics of trees at the digest of two roots; what comes out of it is a root. -/
import Derived.Test.YtbmcmabimfoknaaGreatDoorShaB
namespace Go.Proofs.YtbmcmabimfoknaaGreatDoor
set_option maxRecDepth 100000
set_option linter.unusedVariables false

/-- The digest of two roots. -/
def pr (a b : List Nat) : List Nat := sha (a ++ b)
/-- A root: 32 bytes. -/
structure Rt (r : List Nat) : Prop where
  len : r.length = 32
  byte : ∀ z ∈ r, z < 256
theorem pr_rt (a b : List Nat) : Rt (pr a b) := ⟨sha_length _, sha_bytes _⟩
theorem zero_rt : Rt (zeros 32) := ⟨zeros_length 32, fun z hz => by unfold zeros at hz; rw [(List.mem_replicate.1 hz).2]; decide⟩
theorem Rts.rt {rs : List (List Nat)} (h : Rts rs) (i : Nat) (hi : i < rs.length) : Rt (rs.getD i []) := ⟨(h.at i hi).1, (h.at i hi).2⟩
theorem Rts.rtz {rs : List (List Nat)} (h : Rts rs) {z : List Nat} (hz : Rt z) (i : Nat) : Rt (rs.getD i z) := by
  by_cases hi : i < rs.length
  · have e : rs.getD i z = rs[i] := by simp [hi]
    rw [e]
    exact ⟨h.len _ (List.getElem_mem hi), h.byte _ (List.getElem_mem hi)⟩
  · have e : rs.getD i z = z := by simp [List.getElem?_eq_none (show rs.length ≤ i by omega)]
    rw [e]; exact hz
theorem Rt.one {r : List Nat} (h : Rt r) : Rts [r] := Rts.one h.len h.byte
theorem zeroUp_rt (d : Nat) : Rt (zeroUp pr (zeros 32) d) := by
  cases d with
  | zero => exact zero_rt
  | succ d => exact pr_rt _ _
theorem full_rt (d : Nat) (rs : List (List Nat)) (h : Rts rs) : Rt (full pr (zeros 32) d rs) := by
  cases d with
  | zero => exact h.rtz zero_rt 0
  | succ d => exact pr_rt _ _
theorem level_rts (z : List Nat) : ∀ rs : List (List Nat), Rts (level pr z rs)
  | [] => Rts.nil
  | [a] => (pr_rt a z).one
  | a :: b :: t => (pr_rt a b).one.append (level_rts z t)
theorem levels_rts (rs : List (List Nat)) (h : Rts rs) (k : Nat) : Rts (levels pr (zeros 32) rs k) := by
  cases k with
  | zero => exact h
  | succ k => exact level_rts _ _
theorem beside_rt (rs : List (List Nat)) (h : Rts rs) (i k : Nat) : Rt (beside pr (zeros 32) rs i k) := full_rt _ _ (h.drop _)
theorem branch_rts (rs : List (List Nat)) (h : Rts rs) (i k : Nat) : Rts (branch pr (zeros 32) rs i k) := by
  induction k with
  | zero => exact Rts.nil
  | succ k ih => rw [branch_succ]; exact ih.append (beside_rt rs h i k).one
theorem climb_rt (t : List (List Nat)) : ∀ (x : List Nat) (i : Nat), Rt x → Rt (climb pr x t i) := by
  induction t with
  | nil => intro x i h; exact h
  | cons b t ih =>
    intro x i h
    rw [climb]
    refine ih _ _ ?_
    split <;> exact pr_rt _ _
theorem chunkAt_rt (b : List Nat) (h : ∀ z ∈ b, z < 256) (j : Nat) : Rt (chunkAt b j) :=
  ⟨chunkAt_length b j, fun z hz => by
    unfold chunkAt at hz
    rcases List.mem_append.1 hz with e | e
    · exact h z (List.mem_of_mem_drop (List.mem_of_mem_take e))
    · rw [(List.mem_replicate.1 e).2]; decide⟩
theorem chunks_rts (b : List Nat) (h : ∀ z ∈ b, z < 256) : Rts (chunks b) :=
  ⟨fun r hr => by obtain ⟨j, _, rfl⟩ := List.mem_map.1 hr; exact (chunkAt_rt b h j).len, fun r hr => by obtain ⟨j, _, rfl⟩ := List.mem_map.1 hr; exact (chunkAt_rt b h j).byte⟩
end Go.Proofs.YtbmcmabimfoknaaGreatDoor
