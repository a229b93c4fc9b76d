/- The shuffle, as plain functions. -/
import Derived.Test.YtibblghdemmkjaaDoorNum8
namespace Go.Proofs.YtibblghdemmkjaaDoor
open Go.RowKit
set_option linter.unusedVariables false
set_option maxRecDepth 100000

/-- A round's bits of 256 places. -/
def pg (s : List Nat) (r p : Nat) : List Nat := sha (s ++ ([r] ++ le p 4))
/-- A round's pivot. -/
def pv (s : List Nat) (r n : Nat) : Nat := tk (sha (s ++ [r])) % n
def fl (s : List Nat) (r n i : Nat) : Nat := (pv s r n + n - i) % n
/-- The bit of a place. -/
def tb (s : List Nat) (r p : Nat) : Nat := (pg s r (p / 256)).getD (p % 256 / 8) 0 / 2 ^ (p % 8) % 2
def mv (s : List Nat) (r n i : Nat) : Nat := if tb s r (max i (fl s r n i)) = 1 then fl s r n i else i
/-- Behind so many rounds. -/
def ix (s : List Nat) (n : Nat) : Nat → Nat → Nat
  | 0, i => i
  | k + 1, i => mv s k n (ix s n k i)
theorem sha_rt (zs : List Nat) : Rt (sha zs) := ⟨sha_length zs, sha_bytes zs⟩
theorem pg_rt (s : List Nat) (r p : Nat) : Rt (pg s r p) := sha_rt _
theorem pv_lt (s : List Nat) (r : Nat) {n : Nat} (hn : 0 < n) : pv s r n < n := Nat.mod_lt _ hn
theorem fl_lt (s : List Nat) (r : Nat) {n : Nat} (i : Nat) (hn : 0 < n) : fl s r n i < n := Nat.mod_lt _ hn
theorem flip_flip {p n i : Nat} (hp : p < n) (hi : i < n) : (p + n - (p + n - i) % n) % n = i := by
  by_cases h : i ≤ p
  · have e : p + n - i = n + (p - i) := by omega
    have e1 : (p + n - i) % n = p - i := by rw [e, Nat.add_mod_left]; exact Nat.mod_eq_of_lt (by omega)
    rw [e1, show p + n - (p - i) = n + i by omega, Nat.add_mod_left]
    exact Nat.mod_eq_of_lt hi
  · have e1 : (p + n - i) % n = p + n - i := Nat.mod_eq_of_lt (by omega)
    rw [e1, show p + n - (p + n - i) = i by omega]
    exact Nat.mod_eq_of_lt hi
theorem fl_fl (s : List Nat) (r : Nat) {n i : Nat} (hi : i < n) : fl s r n (fl s r n i) = i := flip_flip (pv_lt s r (by omega)) hi
theorem mv_lt (s : List Nat) (r : Nat) {n i : Nat} (hi : i < n) : mv s r n i < n := by
  unfold mv
  split
  · exact fl_lt s r i (by omega)
  · exact hi
/-- Each round is its own inverse. -/
theorem mv_mv (s : List Nat) (r : Nat) {n i : Nat} (hi : i < n) : mv s r n (mv s r n i) = i := by
  by_cases h : tb s r (max i (fl s r n i)) = 1
  · have e : mv s r n i = fl s r n i := by unfold mv; rw [if_pos h]
    rw [e]
    unfold mv
    rw [fl_fl s r hi, Nat.max_comm, if_pos h]
  · have e : mv s r n i = i := by unfold mv; rw [if_neg h]
    rw [e, e]
theorem ix_lt (s : List Nat) {n : Nat} (k : Nat) {i : Nat} (hi : i < n) : ix s n k i < n := by
  induction k with
  | zero => exact hi
  | succ k ih => exact mv_lt s k ih
theorem mv_inj (s : List Nat) (r : Nat) {n i j : Nat} (hi : i < n) (hj : j < n) (h : mv s r n i = mv s r n j) : i = j := by
  rw [← mv_mv s r hi, h, mv_mv s r hj]
theorem ix_inj (s : List Nat) {n : Nat} (k : Nat) {i j : Nat} (hi : i < n) (hj : j < n) (h : ix s n k i = ix s n k j) : i = j := by
  induction k with
  | zero => exact h
  | succ k ih => exact ih (mv_inj s k (ix_lt s k hi) (ix_lt s k hj) h)
end Go.Proofs.YtibblghdemmkjaaDoor
