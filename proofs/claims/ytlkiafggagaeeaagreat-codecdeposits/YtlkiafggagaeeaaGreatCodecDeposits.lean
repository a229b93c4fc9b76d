/- For every deposit, keystonelaw05.CodecDeposits answers true: its bytes, and those of its data, are the standard's, and the way back is the value. -/
import Derived.Test.YtlkiafggagaeeaaGreatH4
import Derived.Test.YtlkiafggagaeeaaGreatRows
namespace Go.Proofs.YtlkiafggagaeeaaGreat.codecDeposits
open Go.ChangeShapes Go.WideShapes Go.ChangeAt Go.RowKit Go.Deep
set_option linter.unusedVariables false
set_option maxRecDepth 100000

theorem own : ownKnob Tryz.prog.godebug = none := by kernel_rfl
theorem laidOut : laidOutB Tryz.prog = true := by kernel_rfl

theorem lifted (os : Os) (started : os.Started) (H : Type) (enc : TypeId × Value → H) :
    ReturnsInHanded {} Tryz.checked os 7 .any (Rows.codecDepositsSpec.pre6 enc Tryz.prog Tryz.f7 Rows.codecDepositsRow.domain false) (Rows.codecDepositsSpec.post enc Tryz.prog Tryz.f7 false true false false) := by
  refine returnsInHanded_of_change_sized (C := Tryz.checked) own started (by kernel_rfl) Tryz.func7
    (ChangeSpec.witness6 (enc := enc) (C := Tryz.checked) false ⟨#[], #[.agg (dpK (List.replicate 6 (zeros 32)) (zeros 32) (zeros 32) 0 (zeros 32)).toArray], []⟩ 8 (by kernel_rfl) (by kernel_rfl) (by kernel_rfl) (by kernel_rfl)) ?_
  intro W base args ds gs before hval0 hW hcnd hsz _
  have hval : ∀ (j : Nat) t v, Tryz.f7.params[j]? = some t → args[j]? = some v → Value.okWide Tryz.prog W .any base t v := hval0
  have hW' := hW
  obtain ⟨p, q, hA0, hV, rfl, hfz, hnd⟩ := hW
  have hA : DataW.TrodAll enc Tryz.prog W 0 (fun _ => true) true Tryz.f7.params.toList args.toList ds p := hA0
  rw [Tryz.params7] at hA hval
  obtain ⟨v0, vs0, d0, ds0, p0, q0, hargs, rfl, rfl, h0, r0⟩ := trodAll_cons hA
  obtain ⟨rfl, rfl, rfl⟩ := trodAll_nil r0
  obtain rfl : args = #[v0] := by cases args; simp_all
  obtain ⟨rfl, rfl⟩ := trodVars_none hV
  have lt0 : ∀ x ∈ p0, x.block < W.heap.size := by obtain ⟨m, hm⟩ := h0; exact DataW.trod_lt m _ _ _ hm
  obtain ⟨ra, rb, rc, rd, re, rf, ke, cr, am, sg, rfl, hra, hrb, hrc, hrd, hre, hrf, hke, hcr, ham, hsg⟩ := open_dp (hval 0 75 v0 rfl rfl) h0
  clear hA0 hval0
  simp only [List.append_nil] at hW'
  refine (dq_walk ra rb rc rd re rf ke cr am sg hra.1 hra.2 hrb.1 hrb.2 hrc.1 hrc.2 hrd.1 hrd.2 hre.1 hre.2 hrf.1 hrf.2 hke.1 hke.2 hcr.1 hcr.2 ham hsg.1 hsg.2 W).mono fun e W' ⟨he, bel⟩ => ?_
  subst he
  exact ⟨_, rfl, _, _, _, [], _, [], hW', trodAll_mk1 (shut_bool Tryz.underlying4 _), (trodAll_cons_mk (Below.trod laidOut (by kernel_rfl) (of_decide_eq_true (by kernel_rfl)) h0 bel lt0) (trodAll_mk0)), rfl, bel.frame _, fun h => by cases h⟩

theorem over : Rows.codecDepositsRow.holds Tryz.pinned (OpenSpec.ofChange Rows.codecDepositsSpec) :=
  OpenClaim.holds_of_wide 7 Tryz.f7 rfl rfl rfl rfl rfl rfl rfl ⟨rfl, rfl, rfl, rfl, rfl⟩ rfl rfl rfl rfl rfl (by kernel_rfl) Tryz.func7 (by kernel_rfl)
    (of_decide_eq_true (by kernel_rfl)) (by unfold Func.isWrapper; first | (rw [if_pos (by decide +kernel)]; kernel_rfl) | (rw [if_neg (by decide +kernel)]; exact ⟨rfl, rfl⟩))
    (fun os started H enc _ => lifted os started H enc)
end Go.Proofs.YtlkiafggagaeeaaGreat.codecDeposits
namespace Go.Proofs.YtlkiafggagaeeaaGreat
theorem codecDeposits_holds : Rows.CodecDepositsSaid := codecDeposits.over
#print axioms codecDeposits_holds
end Go.Proofs.YtlkiafggagaeeaaGreat
