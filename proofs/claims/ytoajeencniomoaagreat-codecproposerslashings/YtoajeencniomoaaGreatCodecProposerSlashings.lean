/- For every pair of signed headers, keystonelaw05.CodecProposerSlashings answers true: its bytes are the standard's, and the way back is the value. -/
import Derived.Test.YtoajeencniomoaaGreatH3
import Derived.Test.YtoajeencniomoaaGreatRows
namespace Go.Proofs.YtoajeencniomoaaGreat.codecProposerSlashings
open Go.ChangeShapes Go.WideShapes Go.ChangeAt Go.RowKit Go.Deep
set_option linter.unusedVariables false
set_option maxRecDepth 100000

theorem own : ownKnob Tryz.prog.godebug = none := by kernel_rfl
theorem laidOut : laidOutB Tryz.prog = true := by kernel_rfl

theorem lifted (os : Os) (started : os.Started) (H : Type) (enc : TypeId × Value → H) :
    ReturnsInHanded {} Tryz.checked os 6 .any (Rows.codecProposerSlashingsSpec.pre6 enc Tryz.prog Tryz.f6 Rows.codecProposerSlashingsRow.domain false) (Rows.codecProposerSlashingsSpec.post enc Tryz.prog Tryz.f6 false true false false) := by
  refine returnsInHanded_of_change_sized (C := Tryz.checked) own started (by kernel_rfl) Tryz.func6
    (ChangeSpec.witness6 (enc := enc) (C := Tryz.checked) false ⟨#[], #[.agg (psC 0 0 (zeros 32) (zeros 32) (zeros 32) (zeros 32) 0 0 (zeros 32) (zeros 32) (zeros 32) (zeros 32)).toArray], []⟩ 8 (by kernel_rfl) (by kernel_rfl) (by kernel_rfl) (by kernel_rfl)) ?_
  intro W base args ds gs before hval0 hW hcnd hsz _
  have hval : ∀ (j : Nat) t v, Tryz.f6.params[j]? = some t → args[j]? = some v → Value.okWide Tryz.prog W .any base t v := hval0
  have hW' := hW
  obtain ⟨p, q, hA0, hV, rfl, hfz, hnd⟩ := hW
  have hA : DataW.TrodAll enc Tryz.prog W 0 (fun _ => true) true Tryz.f6.params.toList args.toList ds p := hA0
  rw [Tryz.params6] at hA hval
  obtain ⟨v0, vs0, d0, ds0, p0, q0, hargs, rfl, rfl, h0, r0⟩ := trodAll_cons hA
  obtain ⟨rfl, rfl, rfl⟩ := trodAll_nil r0
  obtain rfl : args = #[v0] := by cases args; simp_all
  obtain ⟨rfl, rfl⟩ := trodVars_none hV
  have lt0 : ∀ x ∈ p0, x.block < W.heap.size := by obtain ⟨m, hm⟩ := h0; exact DataW.trod_lt m _ _ _ hm
  obtain ⟨zs, zp, za, zb, zc, zg, ys, yp, ya, yb, yc, yg, rfl, hzs, hzp, hza, hzb, hzc, hzg, hys, hyp, hya, hyb, hyc, hyg⟩ := open_ps (hval 0 65 v0 rfl rfl) h0
  clear hA0 hval0
  simp only [List.append_nil] at hW'
  refine (ps_walk zs zp za zb zc zg ys yp ya yb yc yg hzs hzp hza.1 hza.2 hzb.1 hzb.2 hzc.1 hzc.2 hzg.1 hzg.2 hys hyp hya.1 hya.2 hyb.1 hyb.2 hyc.1 hyc.2 hyg.1 hyg.2 W).mono fun e W' ⟨he, bel⟩ => ?_
  subst he
  exact ⟨_, rfl, _, _, _, [], _, [], hW', trodAll_mk1 (shut_bool Tryz.underlying4 _), (trodAll_cons_mk (Below.trod laidOut (by kernel_rfl) (of_decide_eq_true (by kernel_rfl)) h0 bel lt0) (trodAll_mk0)), rfl, bel.frame _, fun h => by cases h⟩

theorem over : Rows.codecProposerSlashingsRow.holds Tryz.pinned (OpenSpec.ofChange Rows.codecProposerSlashingsSpec) :=
  OpenClaim.holds_of_wide 6 Tryz.f6 rfl rfl rfl rfl rfl rfl rfl ⟨rfl, rfl, rfl, rfl, rfl⟩ rfl rfl rfl rfl rfl (by kernel_rfl) Tryz.func6 (by kernel_rfl)
    (of_decide_eq_true (by kernel_rfl)) (by unfold Func.isWrapper; first | (rw [if_pos (by decide +kernel)]; kernel_rfl) | (rw [if_neg (by decide +kernel)]; exact ⟨rfl, rfl⟩))
    (fun os started H enc _ => lifted os started H enc)
end Go.Proofs.YtoajeencniomoaaGreat.codecProposerSlashings
namespace Go.Proofs.YtoajeencniomoaaGreat
theorem codecProposerSlashings_holds : Rows.CodecProposerSlashingsSaid := codecProposerSlashings.over
#print axioms codecProposerSlashings_holds
end Go.Proofs.YtoajeencniomoaaGreat
