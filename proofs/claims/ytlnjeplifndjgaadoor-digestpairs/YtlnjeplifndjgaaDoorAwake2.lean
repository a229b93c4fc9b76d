/- The fixed facts that every statement of layer 2 asks first hold. -/
import Derived.Test.YtlnjeplifndjgaaDoorKnown
import Derived.Test.YtlnjeplifndjgaaDoorRefHex
import Derived.Lib.SlBytesConst
import Derived.Lib.SmallJoins
namespace Go.Proofs.YtlnjeplifndjgaaDoor
open Go.RowKit
set_option linter.unusedVariables false
set_option maxRecDepth 100000

theorem joinUp_bytes (hs : List Nat) (i : Nat) : ∀ z ∈ joinUp hs i, z < 256 := by
  induction i with
  | zero => exact zeros_bytes 32
  | succ i ih => exact set_bytes _ _ _ ih (Nat.mod_lt _ (by decide))
theorem sha_bytes (zs : List Nat) : ∀ z ∈ sha zs, z < 256 := joinUp_bytes _ _
theorem str_nil : strOf (hexUp (sha []) 32) = ⟨#[101, 51, 98, 48, 99, 52, 52, 50, 57, 56, 102, 99, 49, 99, 49, 52, 57, 97, 102, 98, 102, 52, 99, 56, 57, 57, 54, 102, 98, 57, 50, 52, 50, 55, 97, 101, 52, 49, 101, 52, 54, 52, 57, 98, 57, 51, 52, 99, 97, 52, 57, 53, 57, 57, 49, 98, 55, 56, 53, 50, 98, 56, 53, 53]⟩ := by
  rw [hex_nil]; decide +kernel
theorem str_abc : strOf (hexUp (sha [97, 98, 99]) 32) = ⟨#[98, 97, 55, 56, 49, 54, 98, 102, 56, 102, 48, 49, 99, 102, 101, 97, 52, 49, 52, 49, 52, 48, 100, 101, 53, 100, 97, 101, 50, 50, 50, 51, 98, 48, 48, 51, 54, 49, 97, 51, 57, 54, 49, 55, 55, 97, 57, 99, 98, 52, 49, 48, 102, 102, 54, 49, 102, 50, 48, 48, 49, 53, 97, 100]⟩ := by
  rw [hex_abc]; decide +kernel
theorem three_new (w : World) (fr : Nat × Nat) : ∀ i, i < 3 → (w.alloc (.cells #[.int .u8 97, .int .u8 98, .int .u8 99] 5 fr)).cell? ⟨w.heap.size, 0 + i, none⟩ = some (.int .u8 (([97, 98, 99] : List Nat).getD i 0 : Nat)) := by
  intro i hi
  rw [Joins.cell_alloc_mark_at w _ _ fr _ _ rfl]
  match i, hi with
  | 0, _ => rfl
  | 1, _ => rfl
  | 2, _ => rfl

theorem of_nil (w : World) (hT : Tabs w) : Calls Tryd.prog 7 #[.slice none 0 0] w fun e w' => e = .returned (.agg (nums .u8 (sha []))) ∧ Below w.heap.size w w' :=
  of_any none 0 [] w hT (Nat.le_refl _) (by decide) (by decide) (fun z hz => by cases hz) (.inl rfl)
theorem of_abc (w : World) (hT : Tabs w) (b : Nat) (h : ∀ i, i < 3 → w.cell? ⟨b, 0 + i, none⟩ = some (.int .u8 (([97, 98, 99] : List Nat).getD i 0 : Nat))) :
    Calls Tryd.prog 7 #[.slice (some ⟨b, 0, none⟩) 3 3] w fun e w' => e = .returned (.agg (nums .u8 (sha [97, 98, 99]))) ∧ Below w.heap.size w w' :=
  of_any (some ⟨b, 0, none⟩) 3 [97, 98, 99] w hT (Nat.le_refl _) (by decide) (by decide) (by decide) (.inr ⟨b, 0, rfl, h⟩)

set_option maxHeartbeats 1000000 in
theorem awake_any (w : World) (hT : Tabs w) : Calls Tryd.prog 6 #[] w fun e w' => e = .returned (.bool true) ∧ Below w.heap.size w w' := by
  go_enter Tryd.func6, Tryd.ntmps6
  go_wp2_with fail
  refine (of_nil _ hT).mono ?_
  rintro e w1 ⟨rfl, B1⟩
  go_wp2_with fail
  refine (hex_any (sha []) (sha_length _) (sha_bytes _) _).mono ?_
  rintro e w2 ⟨rfl, B2⟩
  rw [str_nil]
  have HW2 := below_more B1 B2 (Nat.le_refl _)
  clear B1 B2
  have kc := Lib.run_convert_bytes_const (P := Tryd.prog) w2 22 5 #[.int .u8 97, .int .u8 98, .int .u8 99] 3 3 Tryd.underlying22 Tryd.underlying5
  go_wp2_with fail
  clear kc
  refine (of_abc _ ((hT.keep HW2).keep ((Below.refl _ _).alloc (Nat.le_refl _) _)) w2.heap.size (three_new w2 _)).mono ?_
  rintro e w3 ⟨rfl, B3⟩
  have HW3 : Below w.heap.size w w3 := (HW2.alloc HW2.size _).trans (B3.mono (by have := HW2.size; simp; omega))
  clear HW2 B3
  go_wp2_with fail
  refine (hex_any (sha [97, 98, 99]) (sha_length _) (sha_bytes _) _).mono ?_
  rintro e w4 ⟨rfl, B4⟩
  rw [str_abc]
  have HW4 := below_more HW3 B4 (Nat.le_refl _)
  go_wp2
  go_ret
  exact ⟨rfl, HW4⟩
end Go.Proofs.YtlnjeplifndjgaaDoor
