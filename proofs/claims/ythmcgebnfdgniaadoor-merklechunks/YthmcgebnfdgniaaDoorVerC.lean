/- Contract of merkle's Verify. -/
import Derived.Test.YthmcgebnfdgniaaDoorTreeC
namespace Go.Proofs.YthmcgebnfdgniaaDoor
set_option maxRecDepth 100000
open Go.RowKit
set_option linter.unusedVariables false

theorem bit_u64 (x t : Nat) (hx : x < 18446744073709551616) : bits .and .u64 ((x : Int) / 2 ^ min t 64) 1 = ((x / 2 ^ t % 2 : Nat) : Int) := by
  have e : ((x : Int) / 2 ^ min t 64) = ((x / 2 ^ min t 64 : Nat) : Int) := by simp
  have e2 : x / 2 ^ min t 64 = x / 2 ^ t := by
    by_cases h : t ≤ 64
    · rw [Nat.min_eq_left h]
    · have h1 : 2 ^ 64 ≤ 2 ^ t := Nat.pow_le_pow_right (by decide) (by omega)
      rw [Nat.min_eq_right (by omega), Nat.div_eq_of_lt (by omega), Nat.div_eq_of_lt (by omega)]
  rw [e, e2, show (1 : Int) = ((1 : Nat) : Int) from rfl, u64_and_nat _ _ (Nat.lt_of_le_of_lt (Nat.div_le_self _ _) hx) (by decide), Nat.and_one_is_mod]
abbrev climbR (x : List Nat) (rs : List (List Nat)) (i : Nat) : List Nat := climb pr x rs i
theorem climb_take (x : List Nat) (rs : List (List Nat)) (i t : Nat) (ht : t < rs.length) :
    climbR x (rs.take (t + 1)) i = if i / 2 ^ t % 2 = 1 then pr (rs.getD t []) (climbR x (rs.take t) i) else pr (climbR x (rs.take t) i) (rs.getD t []) := by
  have e : rs.take (t + 1) = rs.take t ++ [rs.getD t []] := by
    rw [List.take_add_one, List.getElem?_eq_getElem ht, List.getD_eq_getElem?_getD, List.getElem?_eq_getElem ht]; rfl
  rw [climbR, e, climb_append, List.length_take, Nat.min_eq_left (by omega)]

end Go.Proofs.YthmcgebnfdgniaaDoor
