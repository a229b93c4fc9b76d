/- For every number n, keystonelaw01.NumRoots answers true: Root of package num is the document's, its square is at most n, and the next number's square is above; no condition. -/
import Derived.Test.YtbffjbdpabkfaaaRows
import Derived.Test.YtbffjbdpabkfaaaAwake
import Derived.WalkKit
import Derived.ProofKit
import Derived.OpenShut
import Derived.ShutString
import Derived.ChangeOld
import Derived.Below
namespace Go.Proofs.Ytbffjbdpabkfaaa.numRoots
open Go.ChangeShapes Go.WideShapes Go.ChangeAt Go.RowKit
open Go.ChangeMaps (open_string shut_string)
set_option linter.unusedVariables false

theorem own : ownKnob Try.prog.godebug = none := by kernel_rfl

/-- The products of the root and of the next number, as the law asks for them. -/
theorem squares (n : Nat) (hn : n < 18446744073709551616) :
    ∃ r x y : Nat, rootV n = r ∧ r < 4294967296 ∧ r * r ≤ n ∧ (∀ w, Calls Try.prog 18 #[.int .u64 (r : Int), .int .u64 (r : Int)] w fun e w' => e = .returned (.tuple #[.int .u64 0, .int .u64 ((r * r : Nat) : Int)]) ∧ w' = w) ∧
      (∀ w, Calls Try.prog 18 #[.int .u64 ((r : Int) + 1), .int .u64 ((r : Int) + 1)] w fun e w' => e = .returned (.tuple #[.int .u64 (x : Int), .int .u64 (y : Int)]) ∧ w' = w) ∧ ((0 < x ∧ y < 1) ∨ (x = 0 ∧ n < y)) := by
  obtain ⟨h1, h2, h3⟩ := rootV_spec n hn
  generalize rootV n = r at *
  have m1 : ∀ w, Calls Try.prog 18 #[.int .u64 (r : Int), .int .u64 (r : Int)] w fun e w' => e = .returned (.tuple #[.int .u64 0, .int .u64 ((r * r : Nat) : Int)]) ∧ w' = w := by
    intro w
    have := mul64_any r r (by omega) (by omega) w
    rw [show r * r / 18446744073709551616 = 0 by omega, show r * r % 18446744073709551616 = r * r by omega] at this
    exact this
  have m2 : ∀ w, Calls Try.prog 18 #[.int .u64 ((r : Int) + 1), .int .u64 ((r : Int) + 1)] w fun e w' => e = .returned (.tuple #[.int .u64 (((r + 1) * (r + 1) / 18446744073709551616 : Nat) : Int), .int .u64 (((r + 1) * (r + 1) % 18446744073709551616 : Nat) : Int)]) ∧ w' = w := by
    intro w
    exact mul64_any (r + 1) (r + 1) (by omega) (by omega) w
  refine ⟨r, _, _, rfl, h3, h1, m1, m2, ?_⟩
  have hle : (r + 1) * (r + 1) ≤ 4294967296 * 4294967296 := Nat.mul_le_mul (by omega) (by omega)
  by_cases e : (r + 1) * (r + 1) < 18446744073709551616
  · exact .inr ⟨by omega, by omega⟩
  · exact .inl ⟨by omega, by omega⟩

set_option maxHeartbeats 1000000 in
theorem walk (a0 : Int) (w0 : (Lit.int .u64 a0).wf = true) (w : World) :
    Calls Try.prog 4 #[.int .u64 a0] w fun e w' => e = .returned (.bool true) ∧ Below w.heap.size w w' := by
  obtain ⟨n, rfl⟩ := Int.eq_ofNat_of_zero_le (bounds_u64 w0).1
  have hn : n < 18446744073709551616 := by have := (bounds_u64 w0).2; omega
  obtain ⟨r, x, y, hr, hr1, hsq, h1, h2, hc⟩ := squares n hn
  have H17 := root_any n
  have H19 := refRoot_any n
  rw [hr] at H17 H19
  have G17 : Hid _ := H17
  have G19 : Hid _ := H19
  have G1 : Hid _ := h1
  have G2 : Hid _ := h2
  generalize r * r = s at *
  clear H17 H19 h1 h2 hr w0
  rcases hc with ⟨hx, hy⟩ | ⟨rfl, hy⟩
  · go_enter Try.func4, Try.ntmps4
    go_wp2_with fail
    refine (awake_any w).mono ?_
    rintro e w1 ⟨rfl, hbel⟩
    have HB : Hid _ := hbel
    clear hbel
    go_wp2_with fail
    refine (G17.out _).mono ?_
    rintro e w' ⟨rfl, rfl⟩
    go_wp2_with fail
    refine (G1.out _).mono ?_
    rintro e w' ⟨rfl, rfl⟩
    go_wp2_with fail
    refine (G2.out _).mono ?_
    rintro e w' ⟨rfl, rfl⟩
    go_wp2_with fail
    refine (G19.out _).mono ?_
    rintro e w' ⟨rfl, rfl⟩
    go_wp2
    go_ret
    exact ⟨by simp, HB.out⟩
  · go_enter Try.func4, Try.ntmps4
    go_wp2_with fail
    refine (awake_any w).mono ?_
    rintro e w1 ⟨rfl, hbel⟩
    have HB : Hid _ := hbel
    clear hbel
    go_wp2_with fail
    refine (G17.out _).mono ?_
    rintro e w' ⟨rfl, rfl⟩
    go_wp2_with fail
    refine (G1.out _).mono ?_
    rintro e w' ⟨rfl, rfl⟩
    go_wp2_with fail
    refine (G2.out _).mono ?_
    rintro e w' ⟨rfl, rfl⟩
    go_wp2_with fail
    refine (G19.out _).mono ?_
    rintro e w' ⟨rfl, rfl⟩
    go_wp2
    go_ret
    exact ⟨by simp, HB.out⟩

set_option maxRecDepth 100000 in
theorem lifted (os : Os) (started : os.Started) (H : Type) (enc : TypeId × Value → H) :
    ReturnsInHanded {} Try.checked os 4 .any (Rows.numRootsSpec.pre6 enc Try.prog Try.f4 Rows.numRootsRow.domain false) (Rows.numRootsSpec.post enc Try.prog Try.f4 false true false false) := by
  refine returnsInHanded_of_change (C := Try.checked) own started (by kernel_rfl) Try.func4
    (ChangeSpec.witness6 (enc := enc) (C := Try.checked) false ⟨#[], #[.int .u64 0], []⟩ 8 (by kernel_rfl) (by kernel_rfl) (by kernel_rfl) (by kernel_rfl)) ?_
  intro W base args ds gs before hval0 hW hcnd _
  have hval : ∀ (j : Nat) t v, Try.f4.params[j]? = some t → args[j]? = some v → Value.okWide Try.prog W .any base t v := hval0
  have hW' := hW
  obtain ⟨p, q, hA0, hV, rfl, hfz, hnd⟩ := hW
  have hA : DataW.TrodAll enc Try.prog W 0 (fun _ => true) true Try.f4.params.toList args.toList ds p := hA0
  rw [Try.params4] at hA hval
  obtain ⟨v0, vs0, d0, ds0, p0, q0, hargs, rfl, rfl, h0, r0⟩ := trodAll_cons hA
  obtain ⟨rfl, rfl, rfl⟩ := trodAll_nil r0
  obtain rfl : args = #[v0] := by cases args; simp_all
  obtain ⟨rfl, rfl⟩ := trodVars_none hV
  obtain ⟨a0, rfl, rfl, rfl, w0⟩ := open_int Try.underlying22 (hval 0 22 v0 rfl rfl) h0
  clear hA0 hval0
  simp only [List.append_nil] at hW'
  refine (walk a0 w0 W).mono fun e W' ⟨he, bel⟩ => ?_
  subst he
  exact ⟨_, rfl, _, _, _, [], _, [], hW', trodAll_mk1 (shut_bool Try.underlying4 _), (trodAll_cons_mk (shut_int Try.underlying22 w0) trodAll_mk0), rfl, bel.frame _, fun h => by cases h⟩

theorem over : Rows.numRootsRow.holds Try.pinned (OpenSpec.ofChange Rows.numRootsSpec) :=
  OpenClaim.holds_of_wide 4 Try.f4 rfl rfl rfl rfl rfl rfl rfl ⟨rfl, rfl, rfl, rfl, rfl⟩ rfl rfl rfl rfl rfl (by kernel_rfl) Try.func4 (by kernel_rfl)
    (of_decide_eq_true (by kernel_rfl)) (by unfold Func.isWrapper; first | (rw [if_pos (by decide +kernel)]; kernel_rfl) | (rw [if_neg (by decide +kernel)]; exact ⟨rfl, rfl⟩))
    (fun os started H enc _ => lifted os started H enc)

end Go.Proofs.Ytbffjbdpabkfaaa.numRoots
namespace Go.Proofs.Ytbffjbdpabkfaaa
theorem numRoots_holds : Rows.NumRootsSaid := numRoots.over
#print axioms numRoots_holds
end Go.Proofs.Ytbffjbdpabkfaaa
