/- Roots held against each other. -/
import Derived.Test.YtbmcmabimfoknaaGreatDoorCls
import Derived.Stop.BytesEq
namespace Go.Proofs.YtbmcmabimfoknaaGreatDoor
set_option maxRecDepth 100000
open Go.RowKit
set_option linter.unusedVariables false

theorem nums_cells (l : List Nat) (h : ∀ z ∈ l, z < 256) : nums .u8 l = ((l.map UInt8.ofNat).map Extern.Stop.cell).toArray := by
  unfold nums
  rw [List.map_map]
  congr 1
  apply List.map_congr_left
  intro z hz
  have := h z hz
  show Value.int .u8 (z : Int) = Value.int .u8 ((UInt8.ofNat z).toNat : Int)
  rw [UInt8.toNat_ofNat']
  congr 2
  omega
theorem ofNat_inj (l m : List Nat) (hl : ∀ z ∈ l, z < 256) (hm : ∀ z ∈ m, z < 256) : (l.map UInt8.ofNat == m.map UInt8.ofNat) = decide (l = m) := by
  have key : l.map UInt8.ofNat = m.map UInt8.ofNat → l = m := by
    intro e
    have e2 := congrArg (List.map UInt8.toNat) e
    rw [List.map_map, List.map_map] at e2
    have f : ∀ (k : List Nat), (∀ z ∈ k, z < 256) → k.map (UInt8.toNat ∘ UInt8.ofNat) = k := fun k hk => by
      conv => rhs; rw [← List.map_id k]
      apply List.map_congr_left
      intro z hz
      have := hk z hz
      show (UInt8.ofNat z).toNat = z
      rw [UInt8.toNat_ofNat']
      omega
    rwa [f l hl, f m hm] at e2
  by_cases h : l = m
  · subst h; simp
  · simp only [h, decide_false]
    exact beq_eq_false_iff_ne.2 fun e => h (key e)
theorem eql_roots (l m : List Nat) (hl : l.length = 32) (hm : m.length = 32) (bl : ∀ z ∈ l, z < 256) (bm : ∀ z ∈ m, z < 256) (w : World) :
    (Op.equalIn 10000 22 (.agg (nums .u8 l)) (.agg (nums .u8 m))).run Tryz.prog w = .ok (decide (l = m)) w := by
  rw [nums_cells l bl, nums_cells m bm, run_equalIn_bytes w 9998 22 5 32 Tryz.underlying22 Tryz.underlying5 Tryz.sizeOf5 _ _ (by simpa using hl) (by simpa using hm), ofNat_inj l m bl bm]
theorem eql_api (l m : List Nat) (hl : l.length = 32) (hm : m.length = 32) (bl : ∀ z ∈ l, z < 256) (bm : ∀ z ∈ m, z < 256) (w : World) :
    (Op.equalIn 10000 23 (.agg (nums .u8 l)) (.agg (nums .u8 m))).run Tryz.prog w = .ok (decide (l = m)) w := by
  rw [nums_cells l bl, nums_cells m bm, run_equalIn_bytes w 9998 23 5 32 Tryz.und23 Tryz.underlying5 Tryz.sizeOf5 _ _ (by simpa using hl) (by simpa using hm), ofNat_inj l m bl bm]
end Go.Proofs.YtbmcmabimfoknaaGreatDoor
