/- The walk of MerkleWider. -/
import Derived.Test.YtibblghdemmkjaaDoorMixD
namespace Go.Proofs.YtibblghdemmkjaaDoor
set_option maxRecDepth 100000
open Go.RowKit
set_option linter.unusedVariables false

theorem seven (a : Int) : ∃ d : Nat, IntKind.i64.wrap ((IntKind.u64.wrap a).tmod 7) = (d : Int) ∧ d < 7 := by
  rw [show IntKind.i64.wrap ((IntKind.u64.wrap a).tmod 7) = wrap64 ((IntKind.u64.wrap a).tmod 7) from by rw [IntKind.wrap_i64]; unfold wrap64; rfl]
  have h0 : (0 : Int) ≤ IntKind.u64.wrap a := by simp [IntKind.wrap, IntKind.bits, IntKind.signed]; omega
  rw [Int.tmod_eq_emod_of_nonneg h0]
  generalize IntKind.u64.wrap a = u at *
  refine ⟨(u % 7).toNat, ?_, by omega⟩
  rw [IntWalk.wrap64_in _ (by omega)]
  omega
/-- A slice that a call made: it reads as these roots. -/
def Slc (rs : List (List Nat)) (v : Value) (w : World) : Prop := ∃ ao cap, v = .slice ao rs.length cap ∧ rs.length ≤ cap ∧ cap ≤ maxLen ∧ RootsAt w ao rs
theorem Slc.keep {rs : List (List Nat)} {v : Value} {w w' : World} (h : Slc rs v w) (hb : Below w.heap.size w w') : Slc rs v w' := by
  obtain ⟨ao, cap, e, h1, h2, h3⟩ := h
  exact ⟨ao, cap, e, h1, h2, h3.keep hb⟩
theorem Slc.own {rs : List (List Nat)} {v : Value} {w : World} {base n : Nat} {e : TypeId} (hr : Rts rs) (h : w.ownsRow base e 32 v n (cellsOf rs)) : Slc rs v w := by
  obtain ⟨_, ao, cap, rfl, h1, h2, h3⟩ := RootsAt.own hr h
  exact ⟨ao, cap, rfl, h1, h2, h3⟩
/-- A variable that a call made, all zero. -/
def Var (base : Nat) (t : TypeId) (r : List Nat) (v : Value) (w : World) : Prop := ∃ g, base ≤ g ∧ v = .pointer (some ⟨g, 0, none⟩) ∧ Has w g t .u8 r
theorem Var.keep {base : Nat} {t : TypeId} {r : List Nat} {v : Value} {w w' : World} (h : Var base t r v w) (hb : Below w.heap.size w w') : Var base t r v w' := by
  obtain ⟨g, h1, h2, h3⟩ := h
  exact ⟨g, h1, h2, h3.keep hb⟩

theorem pr_def (a b : List Nat) : sha (a ++ b) = pr a b := by unfold pr; rfl
theorem depth_pow (d : Nat) (hd : d ≤ 62) (p : Nat) (hp : p = 2 ^ d) : depth (p : Int) = d := by
  have cast : ∀ e : Nat, ((2 ^ e : Nat) : Int) = (2 : Int) ^ e := fun e => by simp
  refine depth_at _ d hd (fun e he => ?_) (.inr ?_)
  · rw [← cast, hp]
    have := Nat.pow_lt_pow_right (a := 2) (by decide) he
    omega
  · rw [← cast, hp]; exact Int.le_refl _

end Go.Proofs.YtibblghdemmkjaaDoor
