/- For all numbers a and b, keystonelaw01.NumSums answers true: Add, Sub, Mul, Div, Less and Most of package num are the document's; no condition. -/
import Derived.Test.YtbffjbdpabkfaaaRows
import Derived.Test.YtbffjbdpabkfaaaAwake
import Derived.WalkKit
import Derived.ProofKit
import Derived.OpenShut
import Derived.ShutString
import Derived.ChangeOld
import Derived.Below
namespace Go.Proofs.Ytbffjbdpabkfaaa.numSums
open Go.ChangeShapes Go.WideShapes Go.ChangeAt Go.RowKit
open Go.ChangeMaps (open_string shut_string)
set_option linter.unusedVariables false

theorem own : ownKnob Try.prog.godebug = none := by kernel_rfl

/-- The sum as both sides tell it. -/
theorem sums (A B : Int) (ha : 0 ≤ A) (ha' : A < 18446744073709551616) (hb : 0 ≤ B) (hb' : B < 18446744073709551616) :
    ∃ (s : Int) (ok : Bool) (m : Int), (∀ w, Calls Try.prog 8 #[.int .u64 A, .int .u64 B] w fun e w' => e = .returned (.tuple #[.int .u64 s, .bool ok]) ∧ w' = w) ∧
      (∀ w, Calls Try.prog 9 #[.int .u64 A, .int .u64 B] w fun e w' => e = .returned (.tuple #[.int .u64 s, .bool ok]) ∧ w' = w) ∧
      (∀ w, Calls Try.prog 16 #[.int .u64 A, .int .u64 B] w fun e w' => e = .returned (.int .u64 m) ∧ w' = w) ∧ ((ok = true ∧ m = s) ∨ (ok = false ∧ m = 18446744073709551615)) := by
  refine ⟨addV A B, addB A B, mostV A B, add_any A B ha ha' hb hb', refAdd_any A B ha ha' hb hb', most_any A B ha ha' hb hb', ?_⟩
  unfold addB mostV addV
  by_cases h : A + B < 18446744073709551616
  · exact .inl ⟨by simpa using h, by rw [if_pos h, if_pos h]⟩
  · exact .inr ⟨by simpa using h, by rw [if_neg h]⟩
/-- The quotient. -/
theorem quotients (A B : Int) (ha : 0 ≤ A) (ha' : A < 18446744073709551616) (hb : 0 ≤ B) (hb' : B < 18446744073709551616) :
    ∃ (q : Int) (by_ : Bool), (∀ w, Calls Try.prog 13 #[.int .u64 A, .int .u64 B] w fun e w' => e = .returned (.tuple #[.int .u64 q, .bool by_]) ∧ w' = w) ∧
      ((B = 0 ∧ by_ = false ∧ q = 0) ∨ (B ≠ 0 ∧ by_ = true ∧ q = A / B)) := by
  refine ⟨divV A B, divB B, div_any A B ha ha' hb hb', ?_⟩
  unfold divV divB
  by_cases h : B = 0
  · exact .inl ⟨h, by simp [h], by simp [h]⟩
  · exact .inr ⟨h, by simp [h], by rw [if_neg h]⟩

set_option maxHeartbeats 1000000 in
theorem walk (a0 : Int) (a1 : Int) (w0 : (Lit.int .u64 a0).wf = true) (w1 : (Lit.int .u64 a1).wf = true) (w : World) :
    Calls Try.prog 3 #[.int .u64 a0, .int .u64 a1] w fun e w' => e = .returned (.bool true) ∧ Below w.heap.size w w' := by
  have ha := (bounds_u64 w0).1
  have hb := (bounds_u64 w1).1
  have ha' : a0 < 18446744073709551616 := by have := (bounds_u64 w0).2; omega
  have hb' : a1 < 18446744073709551616 := by have := (bounds_u64 w1).2; omega
  clear w0 w1
  obtain ⟨s, ok, m, h8, h9, h16, hc⟩ := sums a0 a1 ha ha' hb hb'
  obtain ⟨q, by_, h13, hd⟩ := quotients a0 a1 ha ha' hb hb'
  have H8 : Hid _ := h8
  have H9 : Hid _ := h9
  have H13 : Hid _ := h13
  have H16 : Hid _ := h16
  clear h8 h9 h13 h16
  rcases hc with ⟨rfl, rfl⟩ | ⟨rfl, rfl⟩ <;> rcases hd with ⟨hb0, rfl, rfl⟩ | ⟨hb0, rfl, rfl⟩
  · have hne : (a1 != 0) = false := by rw [bne_eq_false_iff_eq]; omega
    have heq : (a1 == 0) = true := by rw [beq_iff_eq]; omega
    clear hb0
    go_enter Try.func3, Try.ntmps3
    go_wp2_with fail
    refine (awake_any w).mono ?_
    rintro e w1 ⟨rfl, hbel⟩
    have HB : Hid _ := hbel
    clear hbel
    go_wp2_with fail
    refine (H8.out _).mono ?_
    rintro e w' ⟨rfl, rfl⟩
    go_wp2_with fail
    refine (H9.out _).mono ?_
    rintro e w' ⟨rfl, rfl⟩
    go_wp2_with fail
    refine (mul_int a0 a1 ha ha' hb hb' _).mono ?_
    rintro e w' ⟨rfl, rfl⟩
    go_wp2_with fail
    refine (refMul_int a0 a1 ha ha' hb hb' _).mono ?_
    rintro e w' ⟨rfl, rfl⟩
    go_wp2_with fail
    refine (sub_any a0 a1 ha ha' hb hb' _).mono ?_
    rintro e w' ⟨rfl, rfl⟩
    rw [show subB a0 a1 = decide (a1 ≤ a0) from rfl]
    go_wp2_with fail
    refine (H13.out _).mono ?_
    rintro e w' ⟨rfl, rfl⟩
    go_wp2_with fail
    refine (refLess_any a0 a1 ha ha' hb hb' _).mono ?_
    rintro e w' ⟨rfl, rfl⟩
    go_wp2_with fail
    refine (less_any a0 a1 ha ha' hb hb' _).mono ?_
    rintro e w' ⟨rfl, rfl⟩
    go_wp2_with fail
    refine (refLess_any a0 a1 ha ha' hb hb' _).mono ?_
    rintro e w' ⟨rfl, rfl⟩
    go_wp2_with fail
    refine (H16.out _).mono ?_
    rintro e w' ⟨rfl, rfl⟩
    go_wp2
    go_ret
    exact ⟨by simp, HB.out⟩
  · have hb1 : ¬ a1 = 0 := by omega
    have hne : (a1 != 0) = true := by rw [bne_iff_ne]; omega
    have heq : (a1 == 0) = false := by rw [beq_eq_false_iff_ne]; omega
    clear hb0
    go_enter Try.func3, Try.ntmps3
    go_wp2_with fail
    refine (awake_any w).mono ?_
    rintro e w1 ⟨rfl, hbel⟩
    have HB : Hid _ := hbel
    clear hbel
    go_wp2_with fail
    refine (H8.out _).mono ?_
    rintro e w' ⟨rfl, rfl⟩
    go_wp2_with fail
    refine (H9.out _).mono ?_
    rintro e w' ⟨rfl, rfl⟩
    go_wp2_with fail
    refine (mul_int a0 a1 ha ha' hb hb' _).mono ?_
    rintro e w' ⟨rfl, rfl⟩
    go_wp2_with fail
    refine (refMul_int a0 a1 ha ha' hb hb' _).mono ?_
    rintro e w' ⟨rfl, rfl⟩
    go_wp2_with fail
    refine (sub_any a0 a1 ha ha' hb hb' _).mono ?_
    rintro e w' ⟨rfl, rfl⟩
    rw [show subB a0 a1 = decide (a1 ≤ a0) from rfl]
    go_wp2_with fail
    refine (H13.out _).mono ?_
    rintro e w' ⟨rfl, rfl⟩
    go_wp2_with fail
    refine (refLess_any a0 a1 ha ha' hb hb' _).mono ?_
    rintro e w' ⟨rfl, rfl⟩
    go_wp2_with fail
    refine (less_any a0 a1 ha ha' hb hb' _).mono ?_
    rintro e w' ⟨rfl, rfl⟩
    go_wp2_with fail
    refine (refLess_any a0 a1 ha ha' hb hb' _).mono ?_
    rintro e w' ⟨rfl, rfl⟩
    go_wp2_with fail
    refine (H16.out _).mono ?_
    rintro e w' ⟨rfl, rfl⟩
    go_wp2
    go_ret
    exact ⟨by simp, HB.out⟩
  · have hne : (a1 != 0) = false := by rw [bne_eq_false_iff_eq]; omega
    have heq : (a1 == 0) = true := by rw [beq_iff_eq]; omega
    clear hb0
    go_enter Try.func3, Try.ntmps3
    go_wp2_with fail
    refine (awake_any w).mono ?_
    rintro e w1 ⟨rfl, hbel⟩
    have HB : Hid _ := hbel
    clear hbel
    go_wp2_with fail
    refine (H8.out _).mono ?_
    rintro e w' ⟨rfl, rfl⟩
    go_wp2_with fail
    refine (H9.out _).mono ?_
    rintro e w' ⟨rfl, rfl⟩
    go_wp2_with fail
    refine (mul_int a0 a1 ha ha' hb hb' _).mono ?_
    rintro e w' ⟨rfl, rfl⟩
    go_wp2_with fail
    refine (refMul_int a0 a1 ha ha' hb hb' _).mono ?_
    rintro e w' ⟨rfl, rfl⟩
    go_wp2_with fail
    refine (sub_any a0 a1 ha ha' hb hb' _).mono ?_
    rintro e w' ⟨rfl, rfl⟩
    rw [show subB a0 a1 = decide (a1 ≤ a0) from rfl]
    go_wp2_with fail
    refine (H13.out _).mono ?_
    rintro e w' ⟨rfl, rfl⟩
    go_wp2_with fail
    refine (refLess_any a0 a1 ha ha' hb hb' _).mono ?_
    rintro e w' ⟨rfl, rfl⟩
    go_wp2_with fail
    refine (less_any a0 a1 ha ha' hb hb' _).mono ?_
    rintro e w' ⟨rfl, rfl⟩
    go_wp2_with fail
    refine (refLess_any a0 a1 ha ha' hb hb' _).mono ?_
    rintro e w' ⟨rfl, rfl⟩
    go_wp2_with fail
    refine (H16.out _).mono ?_
    rintro e w' ⟨rfl, rfl⟩
    go_wp2
    go_ret
    exact ⟨by simp, HB.out⟩
  · have hb1 : ¬ a1 = 0 := by omega
    have hne : (a1 != 0) = true := by rw [bne_iff_ne]; omega
    have heq : (a1 == 0) = false := by rw [beq_eq_false_iff_ne]; omega
    clear hb0
    go_enter Try.func3, Try.ntmps3
    go_wp2_with fail
    refine (awake_any w).mono ?_
    rintro e w1 ⟨rfl, hbel⟩
    have HB : Hid _ := hbel
    clear hbel
    go_wp2_with fail
    refine (H8.out _).mono ?_
    rintro e w' ⟨rfl, rfl⟩
    go_wp2_with fail
    refine (H9.out _).mono ?_
    rintro e w' ⟨rfl, rfl⟩
    go_wp2_with fail
    refine (mul_int a0 a1 ha ha' hb hb' _).mono ?_
    rintro e w' ⟨rfl, rfl⟩
    go_wp2_with fail
    refine (refMul_int a0 a1 ha ha' hb hb' _).mono ?_
    rintro e w' ⟨rfl, rfl⟩
    go_wp2_with fail
    refine (sub_any a0 a1 ha ha' hb hb' _).mono ?_
    rintro e w' ⟨rfl, rfl⟩
    rw [show subB a0 a1 = decide (a1 ≤ a0) from rfl]
    go_wp2_with fail
    refine (H13.out _).mono ?_
    rintro e w' ⟨rfl, rfl⟩
    go_wp2_with fail
    refine (refLess_any a0 a1 ha ha' hb hb' _).mono ?_
    rintro e w' ⟨rfl, rfl⟩
    go_wp2_with fail
    refine (less_any a0 a1 ha ha' hb hb' _).mono ?_
    rintro e w' ⟨rfl, rfl⟩
    go_wp2_with fail
    refine (refLess_any a0 a1 ha ha' hb hb' _).mono ?_
    rintro e w' ⟨rfl, rfl⟩
    go_wp2_with fail
    refine (H16.out _).mono ?_
    rintro e w' ⟨rfl, rfl⟩
    go_wp2
    go_ret
    exact ⟨by simp, HB.out⟩

set_option maxRecDepth 100000 in
theorem lifted (os : Os) (started : os.Started) (H : Type) (enc : TypeId × Value → H) :
    ReturnsInHanded {} Try.checked os 3 .any (Rows.numSumsSpec.pre6 enc Try.prog Try.f3 Rows.numSumsRow.domain false) (Rows.numSumsSpec.post enc Try.prog Try.f3 false true false false) := by
  refine returnsInHanded_of_change (C := Try.checked) own started (by kernel_rfl) Try.func3
    (ChangeSpec.witness6 (enc := enc) (C := Try.checked) false ⟨#[], #[.int .u64 0, .int .u64 0], []⟩ 8 (by kernel_rfl) (by kernel_rfl) (by kernel_rfl) (by kernel_rfl)) ?_
  intro W base args ds gs before hval0 hW hcnd _
  have hval : ∀ (j : Nat) t v, Try.f3.params[j]? = some t → args[j]? = some v → Value.okWide Try.prog W .any base t v := hval0
  have hW' := hW
  obtain ⟨p, q, hA0, hV, rfl, hfz, hnd⟩ := hW
  have hA : DataW.TrodAll enc Try.prog W 0 (fun _ => true) true Try.f3.params.toList args.toList ds p := hA0
  rw [Try.params3] at hA hval
  obtain ⟨v0, vs0, d0, ds0, p0, q0, hargs, rfl, rfl, h0, r0⟩ := trodAll_cons hA
  obtain ⟨v1, vs1, d1, ds1, p1, q1, rfl, rfl, rfl, h1, r1⟩ := trodAll_cons r0
  obtain ⟨rfl, rfl, rfl⟩ := trodAll_nil r1
  obtain rfl : args = #[v0, v1] := by cases args; simp_all
  obtain ⟨rfl, rfl⟩ := trodVars_none hV
  obtain ⟨a0, rfl, rfl, rfl, w0⟩ := open_int Try.underlying22 (hval 0 22 v0 rfl rfl) h0
  obtain ⟨a1, rfl, rfl, rfl, w1⟩ := open_int Try.underlying22 (hval 1 22 v1 rfl rfl) h1
  clear hA0 hval0
  simp only [List.append_nil] at hW'
  refine (walk a0 a1 w0 w1 W).mono fun e W' ⟨he, bel⟩ => ?_
  subst he
  exact ⟨_, rfl, _, _, _, [], _, [], hW', trodAll_mk1 (shut_bool Try.underlying4 _), (trodAll_cons_mk (shut_int Try.underlying22 w0) (trodAll_cons_mk (shut_int Try.underlying22 w1) trodAll_mk0)), rfl, bel.frame _, fun h => by cases h⟩

theorem over : Rows.numSumsRow.holds Try.pinned (OpenSpec.ofChange Rows.numSumsSpec) :=
  OpenClaim.holds_of_wide 3 Try.f3 rfl rfl rfl rfl rfl rfl rfl ⟨rfl, rfl, rfl, rfl, rfl⟩ rfl rfl rfl rfl rfl (by kernel_rfl) Try.func3 (by kernel_rfl)
    (of_decide_eq_true (by kernel_rfl)) (by unfold Func.isWrapper; first | (rw [if_pos (by decide +kernel)]; kernel_rfl) | (rw [if_neg (by decide +kernel)]; exact ⟨rfl, rfl⟩))
    (fun os started H enc _ => lifted os started H enc)

end Go.Proofs.Ytbffjbdpabkfaaa.numSums
namespace Go.Proofs.Ytbffjbdpabkfaaa
theorem numSums_holds : Rows.NumSumsSaid := numSums.over
#print axioms numSums_holds
end Go.Proofs.Ytbffjbdpabkfaaa
