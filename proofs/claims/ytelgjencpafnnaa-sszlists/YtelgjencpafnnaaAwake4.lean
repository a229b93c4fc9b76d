/- The fixed facts that every statement of layer 4 asks first hold. -/
import Derived.Test.YtelgjencpafnnaaNew4
import Derived.Test.YtelgjencpafnnaaWriterB
import Derived.Test.YtelgjencpafnnaaBits
import Derived.Test.YtelgjencpafnnaaConv
import Derived.Lib.SlBytesConst
import Derived.Lib.SmallJoins
namespace Go.Proofs.Ytelgjencpafnnaa
open Go.RowKit
set_option linter.unusedVariables false
set_option maxRecDepth 100000

theorem cont_awake : strOf (cont (([] ++ numF [5]) ++ [([97, 98], true)])) = ⟨#[5, 0, 0, 0, 0, 0, 0, 0, 12, 0, 0, 0, 97, 98]⟩ := by decide +kernel
theorem putB_awake : strOf (putB [true, false, true] true) = ⟨#[13]⟩ := by decide +kernel

set_option maxHeartbeats 1000000 in
theorem awake_any (w : World) : Calls Try.prog 5 #[] w fun e w' => e = .returned (.bool true) ∧ Below w.heap.size w w' := by
  go_enter Try.func5, Try.ntmps5
  go_wp2_with fail
  have W0 := (wr_new w).below (w' := (w.alloc (.cells #[.int .i64 0, .pointer none] 56)).alloc (.cells #[.int .u64 5] 33)) ((Below.refl _ _).alloc (Nat.le_refl _) _)
  refine (num_wr w.heap.size (fun _ => False) [] [5] (w.heap.size + 1) 0 1 _ W0 (by omega) (by decide) (by decide) (fun i hi => by obtain rfl : i = 0 := (by simp at hi; omega); simp) (by decide)).mono ?_
  rintro e w1 ⟨⟨u, rfl⟩, h1, g1⟩
  have s1 := g1.size
  simp only [World.size_alloc] at s1
  have L1 : Below w.heap.size w w1 := ((((Below.refl _ w).alloc (Nat.le_refl _) _).alloc (by simp) _).grown g1 (by simp; omega) (fun k e => by cases e; exact Nat.le_refl _))
  have kc := Lib.run_convert_bytes_const (P := Try.prog) w1 22 5 #[.int .u8 97, .int .u8 98] 2 2 Try.underlying22 Try.underlying5
  obtain ⟨S1, HH1⟩ : ∃ S, Wr w1 w.heap.size S ([] ++ numF [5]) := ⟨_, h1⟩
  have HH1 := hid HH1
  clear h1 g1 W0
  go_wp2_with fail
  have B2 : Below w1.heap.size w1 (w1.alloc (.cells #[.int .u8 97, .int .u8 98] 5 (2, 3))) := (Below.refl _ w1).alloc (Nat.le_refl _) _
  have I2 : IsB (w1.alloc (.cells #[.int .u8 97, .int .u8 98] 5 (2, 3))) (.slice (some ⟨w1.heap.size, 0, none⟩) 2 2) [97, 98] := isB_new w1 [97, 98] (2, 3) (by decide) (by decide)
  refine (part_wr w.heap.size _ _ _ [97, 98] _ (HH1.out.below B2) I2 (by decide) (by decide)).mono ?_
  rintro e w2 ⟨⟨u2, rfl⟩, h2, g2⟩
  obtain ⟨S2, HH2⟩ : ∃ S, Wr w2 w.heap.size S (([] ++ numF [5]) ++ [([97, 98], true)]) := ⟨_, h2⟩
  have s2 := g2.size
  rw [World.size_alloc] at s2
  have L2 : Below w.heap.size w w2 := (L1.trans (B2.mono L1.size)).grown g2 (by simp; omega) (fun k e => by cases e; exact Nat.le_refl _)
  have HH2 := hid HH2
  have HL2 := hid L2
  clear h2 g2 HH1 L1 I2 B2 kc
  go_wp2_with fail
  have I3 : IsB (w2.alloc (.cells #[.int .u8 0] 5)) (.slice (some ⟨w2.heap.size, 0, none⟩) 1 1) [0] := isB_new w2 [0] (0, 0) (by decide) (by decide)
  refine (takeBits_zero _ [0] 9 _ I3 (by decide) rfl (by decide)).mono ?_
  rintro e w3 ⟨rfl, rfl⟩
  have B3 : Below w2.heap.size w2 (w2.alloc (.cells #[.int .u8 0] 5)) := (Below.refl _ w2).alloc (Nat.le_refl _) _
  have W3 := hid (HH2.out.below B3)
  have L3 := hid (below_more HL2.out B3 (Nat.le_refl _))
  clear I3 HH2 HL2 L2 B3
  go_wp2_with fail
  refine (bytes_any w.heap.size S2 _ _ W3.out (by decide) (by decide)).mono ?_
  rintro e w4 ⟨v4, rfl, R4, B4⟩
  have hc4 := conv_b (R4.isB (by decide))
  rw [cont_awake] at hc4
  have L4 := hid (below_more L3.out B4 (Nat.le_refl _))
  have s4 := B4.size
  clear R4 B4 W3 L3
  go_wp2_with fail
  clear hc4
  have B5 : Below w4.heap.size w4 (w4.alloc (.cells #[.bool true, .bool false, .bool true] 4)) := (Below.refl _ w4).alloc (Nat.le_refl _) _
  refine (putBits_any _ [true, false, true] true _ ⟨_, 3, rfl, Nat.le_refl _, by unfold maxLen; decide, .inr ⟨w4.heap.size, 0, rfl, fun i hi => ?_⟩⟩ (by decide)).mono ?_
  · rw [cell_of_row _ _ _ _ _ _ (heap_alloc_new w4 _), Nat.zero_add]
    match i, hi with
    | 0, _ => rfl
    | 1, _ => rfl
    | 2, _ => rfl
  rintro e w5 ⟨v5, rfl, R5, B6⟩
  have hc5 := conv_b (R5.isB (by decide))
  rw [putB_awake] at hc5
  have L5 := hid (below_more (below_more L4.out B5 (Nat.le_refl _)) B6 (Nat.le_refl _))
  clear R5 B6 B5 L4
  go_wp2
  go_ret
  exact ⟨rfl, L5.out⟩
end Go.Proofs.Ytelgjencpafnnaa
