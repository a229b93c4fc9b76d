/- The fixed facts that every statement of layer 3 asks first hold. -/
import Derived.Test.YthmcgebnfdgniaaDoorKnown3
import Derived.Lib.SlBytesConst
import Derived.Lib.SmallJoins
namespace Go.Proofs.YthmcgebnfdgniaaDoor
set_option maxRecDepth 100000
open Go.RowKit
set_option linter.unusedVariables false

theorem tree_two (b : Nat) (w : World) : Calls Tryd.prog 7 #[.slice (some ⟨b, 0, none⟩) 2 2, .int .i64 1] w fun e w' => e = .returned (.tuple #[.agg (nums .u8 (zeros 32)), .int .i64 4]) ∧ Below w.heap.size w w' :=
  tree_bad (some ⟨b, 0, none⟩) 2 [zeros 32, zeros 32] 1 w (Nat.le_refl _) (by decide) (by decide) (by decide) (.inr (by decide))
theorem depth_one : depth 1 = 0 := depth_low 1 (by decide)
theorem depth_five : depth 5 = 3 := by decide +kernel
theorem zero_one (w : World) (hT : Tabs w) : Calls Tryd.prog 9 #[.int .i64 1] w fun e w' => e = .returned (.agg (nums .u8 (sha (zeros 32 ++ zeros 32)))) ∧ Below w.heap.size w w' :=
  zero_any 1 (by decide) (by decide) w hT

set_option maxRecDepth 100000 in
set_option maxHeartbeats 1000000 in
theorem awake_any (w : World) (hT : Tabs w) : Calls Tryd.prog 4 #[] w fun e w' => e = .returned (.bool true) ∧ Below w.heap.size w w' := by
  have hzr := zero_rt
  have hd1 := fun w => depth_any 1 (by decide) (by decide) w
  have hd5 := fun w => depth_any 5 (by decide) (by decide) w
  rw [depth_one] at hd1
  rw [depth_five] at hd5
  have HD1 := hid hd1
  have HD5 := hid hd5
  clear hd1 hd5
  go_enter Tryd.func4, Tryd.ntmps4
  go_wp2_with (first
    | (refine wpList_make_roots rfl (.const (.int .i64 2)) (.const (.int .i64 2)) 36 rfl 31 Tryd.underlying36 Tryd.rootInfo .i64 .i64 _ _ 2 rfl rfl rfl rfl (by omega) ?_; intro w1 H1 B1)
    | (go_at_call 7; refine (tree_two w.heap.size w1).mono ?_; rintro e w2 ⟨rfl, B2⟩)
    | (refine wpList_alloc_has rfl 1 rfl 31 rfl .u8 32 Tryd.zero31 ?_; intro w3 H3 B3 S3)
    | (refine wpList_store_has rfl 31 (.tmp 1) (.tmp 6) rfl w2.heap.size .u8 (zeros 32) (zeros 32) rfl rfl 31 H3 (hzr.size _ Tryd.size31) rfl ?_; intro w4 H4 O4; have HW2 := below_more B1 B2 (Nat.le_refl _); have HW4 := below_only (below_more HW2 B3 (Nat.le_refl _)) O4 HW2.size))
  refine (zero_one w4 (hT.keep HW4)).mono ?_
  rintro e w5 ⟨rfl, B5⟩
  have HW5 := below_more HW4 B5 (Nat.le_refl _)
  clear B5 B1 H1 B2 B3 H3 S3 O4 H4 HW2
  generalize hsz : sha (zeros 32 ++ zeros 32) = sz
  have hex := hid (hex_any sz (by rw [← hsz]; exact sha_length _) (by rw [← hsz]; exact sha_bytes _))
  have hstr := str_zz
  rw [hsz] at hstr
  clear hsz
  go_wp2_with fail
  refine (hex.out _).mono ?_
  rintro e w6 ⟨rfl, B6⟩
  rw [hstr]
  have HW6 := below_more HW5 B6 (Nat.le_refl _)
  clear hstr B6
  go_wp2_with fail
  refine (HD1.out _).mono ?_
  rintro e w7 ⟨rfl, rfl⟩
  go_wp2_with fail
  refine (HD5.out _).mono ?_
  rintro e w8 ⟨rfl, rfl⟩
  go_wp2
  go_ret
  exact ⟨rfl, HW6⟩
end Go.Proofs.YthmcgebnfdgniaaDoor
