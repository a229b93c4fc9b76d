/- For all numbers a and b, keystonelaw01.NumBack answers true: what Add answers can be taken away by Sub, what Mul answers can be divided by Div, Most is no less than either, Less no more than the first; no condition. -/
import Derived.Test.YtbffjbdpabkfaaaRows
import Derived.Test.YtbffjbdpabkfaaaAwake
import Derived.WalkKit
import Derived.ProofKit
import Derived.OpenShut
import Derived.ShutString
import Derived.ChangeOld
import Derived.Below
namespace Go.Proofs.Ytbffjbdpabkfaaa.numBack
open Go.ChangeShapes Go.WideShapes Go.ChangeAt Go.RowKit
open Go.ChangeMaps (open_string shut_string)
set_option linter.unusedVariables false

theorem own : ownKnob Try.prog.godebug = none := by kernel_rfl

/-- What is taken away and divided again, in the law's own order. -/
theorem backs (a b : Int) (ha : 0 ≤ a) (ha' : a < 18446744073709551616) (hb : 0 ≤ b) (hb' : b < 18446744073709551616) :
    ((a + b < 18446744073709551616 ∧ addV a b = a + b ∧ addB a b = true ∧ subV (a + b) b = a ∧ subB (a + b) b = true ∧ mostV a b = a + b) ∨
      (¬ a + b < 18446744073709551616 ∧ addV a b = 0 ∧ addB a b = false ∧ subV 18446744073709551615 a = 18446744073709551615 - a ∧ subB 18446744073709551615 a = true ∧ mostV a b = 18446744073709551615)) ∧
    ((mulB a b = false) ∨ (mulB a b = true ∧ b = 0) ∨ (mulB a b = true ∧ 0 < b ∧ 0 ≤ mulV a b ∧ mulV a b < 18446744073709551616 ∧ divV (mulV a b) b = a ∧ divB b = true)) ∧ subV a b ≤ a := by
  refine ⟨?_, ?_, ?_⟩
  · by_cases h : a + b < 18446744073709551616
    · left
      refine ⟨h, ?_, ?_, ?_, ?_, ?_⟩
      · unfold addV; rw [if_pos h]
      · unfold addB; simpa using h
      · unfold subV; rw [if_pos (by omega)]; omega
      · unfold subB; simp; omega
      · unfold mostV; rw [if_pos h]
    · right
      refine ⟨h, ?_, ?_, ?_, ?_, ?_⟩
      · unfold addV; rw [if_neg h]
      · unfold addB; simpa using h
      · unfold subV; rw [if_pos (by omega)]
      · unfold subB; simp; omega
      · unfold mostV; rw [if_neg h]
  · by_cases h : a * b < 18446744073709551616
    · have e : mulB a b = true := by unfold mulB; simpa using h
      by_cases hb0 : b = 0
      · exact .inr (.inl ⟨e, hb0⟩)
      · have ev : mulV a b = a * b := by unfold mulV; rw [if_pos h]
        refine .inr (.inr ⟨e, by omega, ?_, ?_, ?_, ?_⟩)
        · rw [ev]; exact Int.mul_nonneg ha hb
        · rw [ev]; exact h
        · unfold divV; rw [if_neg hb0, ev, Int.mul_ediv_cancel _ hb0]
        · unfold divB; simp [hb0]
    · exact .inl (by unfold mulB; simpa using h)
  · unfold subV; split <;> omega

set_option maxHeartbeats 2000000 in
theorem walk (a0 : Int) (a1 : Int) (w0 : (Lit.int .u64 a0).wf = true) (w1 : (Lit.int .u64 a1).wf = true) (w : World) :
    Calls Try.prog 6 #[.int .u64 a0, .int .u64 a1] w fun e w' => e = .returned (.bool true) ∧ Below w.heap.size w w' := by
  have ha := (bounds_u64 w0).1
  have hb := (bounds_u64 w1).1
  have ha' : a0 < 18446744073709551616 := by have := (bounds_u64 w0).2; omega
  have hb' : a1 < 18446744073709551616 := by have := (bounds_u64 w1).2; omega
  clear w0 w1
  obtain ⟨hs, hm, hle⟩ := backs a0 a1 ha ha' hb hb'
  have c8 := add_any a0 a1 ha ha' hb hb'
  have c10 := mul_int a0 a1 ha ha' hb hb'
  have c16 := most_any a0 a1 ha ha' hb hb'
  have c15 := less_any a0 a1 ha ha' hb hb'
  generalize subV a0 a1 = lo at *
  rcases hs with ⟨h, e1, e2, e3, e4, e5⟩ | ⟨h, e1, e2, e3, e4, e5⟩ <;> rcases hm with hm | ⟨hm, hz⟩ | ⟨hm, hz, hv0, hv1, d1, d2⟩
  · rw [e1, e2] at c8
    rw [e5] at c16
    rw [hm] at c10
    have c12 := sub_any (a0 + a1) a1 (by omega) (by omega) hb hb'
    rw [e3, e4] at c12
    have H8 : Hid _ := c8
    have H10 : Hid _ := c10
    have H12 : Hid _ := c12
    have H15 : Hid _ := c15
    have H16 : Hid _ := c16
    clear c8 c10 c12 c15 c16 e1 e2 e3 e4 e5 hm
    go_enter Try.func6, Try.ntmps6
    go_wp2_with fail
    refine (awake_any w).mono ?_
    rintro e w1 ⟨rfl, hbel⟩
    have HB : Hid _ := hbel
    clear hbel
    go_wp2_with fail
    refine (H8.out _).mono ?_
    rintro e w' ⟨rfl, rfl⟩
    go_wp2_with fail
    refine (H12.out _).mono ?_
    rintro e w' ⟨rfl, rfl⟩
    go_wp2_with fail
    refine (H10.out _).mono ?_
    rintro e w' ⟨rfl, rfl⟩
    go_wp2_with fail
    refine (H16.out _).mono ?_
    rintro e w' ⟨rfl, rfl⟩
    go_wp2_with fail
    all_goals
      refine (H15.out _).mono ?_
      rintro e w' ⟨rfl, rfl⟩
      go_wp2
      go_ret
      exact ⟨by simp, HB.out⟩
  · rw [e1, e2] at c8
    rw [e5] at c16
    rw [hm] at c10
    have c12 := sub_any (a0 + a1) a1 (by omega) (by omega) hb hb'
    rw [e3, e4] at c12
    have hne : (a1 != 0) = false := by rw [bne_eq_false_iff_eq]; omega
    have H8 : Hid _ := c8
    have H10 : Hid _ := c10
    have H12 : Hid _ := c12
    have H15 : Hid _ := c15
    have H16 : Hid _ := c16
    clear c8 c10 c12 c15 c16 e1 e2 e3 e4 e5 hm hz
    go_enter Try.func6, Try.ntmps6
    go_wp2_with fail
    refine (awake_any w).mono ?_
    rintro e w1 ⟨rfl, hbel⟩
    have HB : Hid _ := hbel
    clear hbel
    go_wp2_with fail
    refine (H8.out _).mono ?_
    rintro e w' ⟨rfl, rfl⟩
    go_wp2_with fail
    refine (H12.out _).mono ?_
    rintro e w' ⟨rfl, rfl⟩
    go_wp2_with fail
    refine (H10.out _).mono ?_
    rintro e w' ⟨rfl, rfl⟩
    go_wp2_with fail
    refine (H16.out _).mono ?_
    rintro e w' ⟨rfl, rfl⟩
    go_wp2_with fail
    all_goals
      refine (H15.out _).mono ?_
      rintro e w' ⟨rfl, rfl⟩
      go_wp2
      go_ret
      exact ⟨by simp, HB.out⟩
  · rw [e1, e2] at c8
    rw [e5] at c16
    rw [hm] at c10
    have c12 := sub_any (a0 + a1) a1 (by omega) (by omega) hb hb'
    rw [e3, e4] at c12
    have hne : (a1 != 0) = true := by rw [bne_iff_ne]; omega
    have c13 := div_any (mulV a0 a1) a1 hv0 hv1 hb hb'
    rw [d1, d2] at c13
    generalize mulV a0 a1 = p at *
    have H13 : Hid _ := c13
    have H8 : Hid _ := c8
    have H10 : Hid _ := c10
    have H12 : Hid _ := c12
    have H15 : Hid _ := c15
    have H16 : Hid _ := c16
    clear c8 c10 c12 c15 c16 e1 e2 e3 e4 e5 hm c13 d1 d2
    go_enter Try.func6, Try.ntmps6
    go_wp2_with fail
    refine (awake_any w).mono ?_
    rintro e w1 ⟨rfl, hbel⟩
    have HB : Hid _ := hbel
    clear hbel
    go_wp2_with fail
    refine (H8.out _).mono ?_
    rintro e w' ⟨rfl, rfl⟩
    go_wp2_with fail
    refine (H12.out _).mono ?_
    rintro e w' ⟨rfl, rfl⟩
    go_wp2_with fail
    refine (H10.out _).mono ?_
    rintro e w' ⟨rfl, rfl⟩
    go_wp2_with fail
    refine (H13.out _).mono ?_
    rintro e w' ⟨rfl, rfl⟩
    go_wp2_with fail
    refine (H16.out _).mono ?_
    rintro e w' ⟨rfl, rfl⟩
    go_wp2_with fail
    all_goals
      refine (H15.out _).mono ?_
      rintro e w' ⟨rfl, rfl⟩
      go_wp2
      go_ret
      exact ⟨by simp, HB.out⟩
  · rw [e1, e2] at c8
    rw [e5] at c16
    rw [hm] at c10
    have c12 := sub_any 18446744073709551615 a0 (by omega) (by omega) ha ha'
    rw [e3, e4] at c12
    have H8 : Hid _ := c8
    have H10 : Hid _ := c10
    have H12 : Hid _ := c12
    have H15 : Hid _ := c15
    have H16 : Hid _ := c16
    clear c8 c10 c12 c15 c16 e1 e2 e3 e4 e5 hm
    go_enter Try.func6, Try.ntmps6
    go_wp2_with fail
    refine (awake_any w).mono ?_
    rintro e w1 ⟨rfl, hbel⟩
    have HB : Hid _ := hbel
    clear hbel
    go_wp2_with fail
    refine (H8.out _).mono ?_
    rintro e w' ⟨rfl, rfl⟩
    go_wp2_with fail
    refine (H12.out _).mono ?_
    rintro e w' ⟨rfl, rfl⟩
    go_wp2_with fail
    refine (H10.out _).mono ?_
    rintro e w' ⟨rfl, rfl⟩
    go_wp2_with fail
    refine (H16.out _).mono ?_
    rintro e w' ⟨rfl, rfl⟩
    go_wp2_with fail
    all_goals
      refine (H15.out _).mono ?_
      rintro e w' ⟨rfl, rfl⟩
      go_wp2
      go_ret
      exact ⟨by simp, HB.out⟩
  · rw [e1, e2] at c8
    rw [e5] at c16
    rw [hm] at c10
    have c12 := sub_any 18446744073709551615 a0 (by omega) (by omega) ha ha'
    rw [e3, e4] at c12
    have hne : (a1 != 0) = false := by rw [bne_eq_false_iff_eq]; omega
    have H8 : Hid _ := c8
    have H10 : Hid _ := c10
    have H12 : Hid _ := c12
    have H15 : Hid _ := c15
    have H16 : Hid _ := c16
    clear c8 c10 c12 c15 c16 e1 e2 e3 e4 e5 hm hz
    go_enter Try.func6, Try.ntmps6
    go_wp2_with fail
    refine (awake_any w).mono ?_
    rintro e w1 ⟨rfl, hbel⟩
    have HB : Hid _ := hbel
    clear hbel
    go_wp2_with fail
    refine (H8.out _).mono ?_
    rintro e w' ⟨rfl, rfl⟩
    go_wp2_with fail
    refine (H12.out _).mono ?_
    rintro e w' ⟨rfl, rfl⟩
    go_wp2_with fail
    refine (H10.out _).mono ?_
    rintro e w' ⟨rfl, rfl⟩
    go_wp2_with fail
    refine (H16.out _).mono ?_
    rintro e w' ⟨rfl, rfl⟩
    go_wp2_with fail
    all_goals
      refine (H15.out _).mono ?_
      rintro e w' ⟨rfl, rfl⟩
      go_wp2
      go_ret
      exact ⟨by simp, HB.out⟩
  · rw [e1, e2] at c8
    rw [e5] at c16
    rw [hm] at c10
    have c12 := sub_any 18446744073709551615 a0 (by omega) (by omega) ha ha'
    rw [e3, e4] at c12
    have hne : (a1 != 0) = true := by rw [bne_iff_ne]; omega
    have c13 := div_any (mulV a0 a1) a1 hv0 hv1 hb hb'
    rw [d1, d2] at c13
    generalize mulV a0 a1 = p at *
    have H13 : Hid _ := c13
    have H8 : Hid _ := c8
    have H10 : Hid _ := c10
    have H12 : Hid _ := c12
    have H15 : Hid _ := c15
    have H16 : Hid _ := c16
    clear c8 c10 c12 c15 c16 e1 e2 e3 e4 e5 hm c13 d1 d2
    go_enter Try.func6, Try.ntmps6
    go_wp2_with fail
    refine (awake_any w).mono ?_
    rintro e w1 ⟨rfl, hbel⟩
    have HB : Hid _ := hbel
    clear hbel
    go_wp2_with fail
    refine (H8.out _).mono ?_
    rintro e w' ⟨rfl, rfl⟩
    go_wp2_with fail
    refine (H12.out _).mono ?_
    rintro e w' ⟨rfl, rfl⟩
    go_wp2_with fail
    refine (H10.out _).mono ?_
    rintro e w' ⟨rfl, rfl⟩
    go_wp2_with fail
    refine (H13.out _).mono ?_
    rintro e w' ⟨rfl, rfl⟩
    go_wp2_with fail
    refine (H16.out _).mono ?_
    rintro e w' ⟨rfl, rfl⟩
    go_wp2_with fail
    all_goals
      refine (H15.out _).mono ?_
      rintro e w' ⟨rfl, rfl⟩
      go_wp2
      go_ret
      exact ⟨by simp, HB.out⟩

set_option maxRecDepth 100000 in
theorem lifted (os : Os) (started : os.Started) (H : Type) (enc : TypeId × Value → H) :
    ReturnsInHanded {} Try.checked os 6 .any (Rows.numBackSpec.pre6 enc Try.prog Try.f6 Rows.numBackRow.domain false) (Rows.numBackSpec.post enc Try.prog Try.f6 false true false false) := by
  refine returnsInHanded_of_change (C := Try.checked) own started (by kernel_rfl) Try.func6
    (ChangeSpec.witness6 (enc := enc) (C := Try.checked) false ⟨#[], #[.int .u64 0, .int .u64 0], []⟩ 8 (by kernel_rfl) (by kernel_rfl) (by kernel_rfl) (by kernel_rfl)) ?_
  intro W base args ds gs before hval0 hW hcnd _
  have hval : ∀ (j : Nat) t v, Try.f6.params[j]? = some t → args[j]? = some v → Value.okWide Try.prog W .any base t v := hval0
  have hW' := hW
  obtain ⟨p, q, hA0, hV, rfl, hfz, hnd⟩ := hW
  have hA : DataW.TrodAll enc Try.prog W 0 (fun _ => true) true Try.f6.params.toList args.toList ds p := hA0
  rw [Try.params6] at hA hval
  obtain ⟨v0, vs0, d0, ds0, p0, q0, hargs, rfl, rfl, h0, r0⟩ := trodAll_cons hA
  obtain ⟨v1, vs1, d1, ds1, p1, q1, rfl, rfl, rfl, h1, r1⟩ := trodAll_cons r0
  obtain ⟨rfl, rfl, rfl⟩ := trodAll_nil r1
  obtain rfl : args = #[v0, v1] := by cases args; simp_all
  obtain ⟨rfl, rfl⟩ := trodVars_none hV
  obtain ⟨a0, rfl, rfl, rfl, w0⟩ := open_int Try.underlying22 (hval 0 22 v0 rfl rfl) h0
  obtain ⟨a1, rfl, rfl, rfl, w1⟩ := open_int Try.underlying22 (hval 1 22 v1 rfl rfl) h1
  clear hA0 hval0
  simp only [List.append_nil] at hW'
  refine (walk a0 a1 w0 w1 W).mono fun e W' ⟨he, bel⟩ => ?_
  subst he
  exact ⟨_, rfl, _, _, _, [], _, [], hW', trodAll_mk1 (shut_bool Try.underlying4 _), (trodAll_cons_mk (shut_int Try.underlying22 w0) (trodAll_cons_mk (shut_int Try.underlying22 w1) trodAll_mk0)), rfl, bel.frame _, fun h => by cases h⟩

theorem over : Rows.numBackRow.holds Try.pinned (OpenSpec.ofChange Rows.numBackSpec) :=
  OpenClaim.holds_of_wide 6 Try.f6 rfl rfl rfl rfl rfl rfl rfl ⟨rfl, rfl, rfl, rfl, rfl⟩ rfl rfl rfl rfl rfl (by kernel_rfl) Try.func6 (by kernel_rfl)
    (of_decide_eq_true (by kernel_rfl)) (by unfold Func.isWrapper; first | (rw [if_pos (by decide +kernel)]; kernel_rfl) | (rw [if_neg (by decide +kernel)]; exact ⟨rfl, rfl⟩))
    (fun os started H enc _ => lifted os started H enc)

end Go.Proofs.Ytbffjbdpabkfaaa.numBack
namespace Go.Proofs.Ytbffjbdpabkfaaa
theorem numBack_holds : Rows.NumBackSaid := numBack.over
#print axioms numBack_holds
end Go.Proofs.Ytbffjbdpabkfaaa
