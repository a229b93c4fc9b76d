/- For every number n and every byte c, keystonelaw02.DigestEnds answers true: the digest of so many like bytes is the document's; the two tables stand as the program's text lays them (tied). -/
import Derived.Test.YtlnjeplifndjgaaDoorCards
import Derived.Test.YtlnjeplifndjgaaDoorTie
import Derived.Test.YtlnjeplifndjgaaDoorLaid
import Derived.Test.YtlnjeplifndjgaaDoorAwake2
import Derived.Test.YtlnjeplifndjgaaDoorEqual
import Derived.ProofKit
import Derived.OpenShut
import Derived.ShutString
import Derived.ChangeOld
import Derived.SevenTiedAt
import Derived.Stop.Joined
namespace Go.Proofs.YtlnjeplifndjgaaDoor.digestEnds
open Go.ChangeShapes Go.WideShapes Go.ChangeAt Go.RowKit
set_option linter.unusedVariables false
set_option maxRecDepth 100000

theorem own : ownKnob Tryd.prog.godebug = none := by kernel_rfl
theorem laidOut : laidOutB Tryd.prog = true := by kernel_rfl

/-- So many like bytes, the first k of n. -/
def likeUp (c n : Nat) : Nat → List Nat
  | 0 => zeros n
  | k + 1 => (likeUp c n k).set k c
theorem likeUp_length (c n k : Nat) : (likeUp c n k).length = n := by
  induction k with
  | zero => exact zeros_length n
  | succ k ih => rw [likeUp, List.length_set, ih]
theorem likeUp_bytes (c n k : Nat) (hc : c < 256) : ∀ z ∈ likeUp c n k, z < 256 := by
  induction k with
  | zero => exact zeros_bytes n
  | succ k ih => exact set_bytes _ _ _ ih hc

set_option maxHeartbeats 1000000 in
theorem walk (a0 : Int) (a1 : Int) (w : World) (hT : Tabs w) (w0 : (Lit.int .i64 a0).wf = true) (w1 : (Lit.int .u8 a1).wf = true) :
    Calls Tryd.prog 4 #[.int .i64 a0, .int .u8 a1] w fun e w' => e = .returned (.bool true) ∧ Below w.heap.size w w' := by
  obtain ⟨c, rfl⟩ := Int.eq_ofNat_of_zero_le (bounds_u8 w1).1
  have hc : c < 256 := by have := (bounds_u8 w1).2; omega
  clear w0 w1
  have h0 : (0 : Int) ≤ IntKind.u64.wrap a0 := by simp [IntKind.wrap, IntKind.bits, IntKind.signed]; omega
  obtain ⟨n, hn, hn2⟩ : ∃ n : Nat, wrap64 ((IntKind.u64.wrap a0).tmod 260) = (n : Int) ∧ n < 260 := by
    rw [Int.tmod_eq_emod_of_nonneg h0]
    generalize IntKind.u64.wrap a0 = u at *
    refine ⟨(u % 260).toNat, ?_, by omega⟩
    rw [IntWalk.wrap64_in _ (by omega)]
    omega
  have HN := hid hn
  clear hn h0
  go_enter Tryd.func4, Tryd.ntmps4
  go_wp2_with fail
  refine (awake_any w hT).mono ?_
  rintro e w1 ⟨rfl, B1⟩
  go_wp2_with (refine wpList_make_has rfl (.tmp 12) (.tmp 12) 22 rfl 5 .u8 Tryd.underlying22 Tryd.zero5 .i64 .i64 _ _ n rfl rfl (by exact HN.out) (by exact HN.out) (by omega) ?_; intro w2 H2 B2)
  have HW2 := below_more B1 B2 (Nat.le_refl _)
  have n1 := B1.size
  clear B1 B2
  generalize w1.heap.size = Bb at *
  go_loopw [16] (fun i wr => ∃ t : Nat, t ≤ n ∧ i = .int .i64 t ∧ Has wr Bb 5 .u8 (likeUp c n t) ∧ Below w.heap.size w wr) (fun i _ => n - (intOf i).toNat)
  case atStart => exact ⟨0, by omega, rfl, by rw [likeUp]; exact H2, HW2⟩
  case round =>
    clear H2 HW2
    obtain ⟨t, ht, rfl, HB, HW⟩ := hrel
    by_cases hlt : t < n
    · have c1 := HB.cell t (by rw [likeUp_length]; omega)
      have f1 := HB.frozen t
      have HS : Same (likeUp c n (t + 1)) ((likeUp c n t).set t c) := ⟨by rw [likeUp]⟩
      generalize likeUp c n t = ll at *
      go_wp2
      go_roundw
      case rel =>
        have HO := Only.setCell wr Bb t (.int .u8 (c : Nat))
        exact ⟨t + 1, by omega, by go_num, by rw [HS.out]; exact HB.set t _, below_only HW HO n1⟩
      case measure => simp [intOf]; omega
    · have ht2 : t = n := by omega
      subst ht2
      have hzl := likeUp_length c t t
      have hzb := likeUp_bytes c t t hc
      generalize likeUp c t t = zs at *
      subst hzl
      have hR : Reads wr (some ⟨Bb, 0, none⟩) zs := .inr ⟨Bb, 0, rfl, fun i hi => by rw [Nat.zero_add]; exact HB.cell i hi⟩
      have HO := hid (of_any (some ⟨Bb, 0, none⟩) zs.length zs wr (hT.keep HW) (Nat.le_refl _) (by unfold maxLen; omega) (by omega) hzb hR)
      go_wp2_with fail
      refine HO.out.mono ?_
      rintro e w5 ⟨rfl, B5⟩
      have HO2 := hid (rof_any (some ⟨Bb, 0, none⟩) zs.length zs w5 (Nat.le_refl _) (by unfold maxLen; omega) (by omega) hzb (hR.keep B5))
      clear HO
      go_wp2_with fail
      refine HO2.out.mono ?_
      rintro e w6 ⟨rfl, B6⟩
      have HW6 := below_more (below_more HW B5 (Nat.le_refl _)) B6 (Nat.le_refl _)
      clear HO2
      have heq := eql_roots (sha zs) (sha zs) (sha_length _) (sha_length _) (sha_bytes _) (sha_bytes _) w6
      generalize sha zs = S at *
      go_wp2
      go_ret
      exact ⟨by simp, HW6⟩

/-- The door's own heap meets the condition. -/
theorem door_met (os : Os) (args : Array Value) : laidMetH Tryd.prog laidTwo ((World.doorLaid Tryd.prog 19 os).forCall (fun _ _ => 0) ⟨#[], args, []⟩).memory :=
  laidMetH_of_parts3 (fuel := 8) (laidMet_of_run' 8 (by kernel_rfl) (by kernel_rfl)) (by kernel_rfl) (by kernel_rfl)

theorem lifted (os : Os) (started : os.Started) (H : Type) (enc : TypeId × Value → H) :
    ReturnsInHanded {} Tryd.checked os 4 .any (fun w args => (Rows.digestEndsSpec.pre enc Tryd.prog Tryd.f4 [] false w args ∧ laidMetH Tryd.prog laidTwo w) ∧ sizedMet enc Tryd.prog Tryd.f4 (OpenSpec.ofChange Rows.digestEndsSpec) false w args)
      (Rows.digestEndsSpec.post enc Tryd.prog Tryd.f4 false true false false) := by
  refine returnsInHanded_of_change_and (C := Tryd.checked) (X := fun w _ => laidMetH Tryd.prog laidTwo w) (fun _ _ _ hh h => h.of_heap hh) own started (by kernel_rfl) Tryd.func4
    (ChangeSpec.witness_shaped (enc := enc) (C := Tryd.checked) (os := os) (X := fun w _ => laidMetH Tryd.prog laidTwo w) false (World.doorLaid Tryd.prog 19 os) #[.int .i64 0, .int .u8 0] 8 rfl (World.shaped_of_RefB (by kernel_rfl) (by kernel_rfl)) (by kernel_rfl) (by kernel_rfl) (by kernel_rfl) (door_met os _)) ?_
  intro W base args ds gs before hval0 hW _ _ hL _
  have hval : ∀ (j : Nat) t v, Tryd.f4.params[j]? = some t → args[j]? = some v → Value.okWide Tryd.prog W .any base t v := hval0
  have hW' := hW
  obtain ⟨p, q, hA0, hV, rfl, hfz, hnd⟩ := hW
  have hA : DataW.TrodAll enc Tryd.prog W 0 (fun _ => true) true Tryd.f4.params.toList args.toList ds p := hA0
  rw [Tryd.params4] at hA hval
  obtain ⟨v0, vs0, d0, ds0, p0, q0, hargs, rfl, rfl, h0, r0⟩ := trodAll_cons hA
  obtain ⟨v1, vs1, d1, ds1, p1, q1, rfl, rfl, rfl, h1, r1⟩ := trodAll_cons r0
  obtain ⟨rfl, rfl, rfl⟩ := trodAll_nil r1
  obtain rfl : args = #[v0, v1] := by cases args; simp_all
  obtain ⟨rfl, rfl⟩ := trodVars_none hV
  obtain ⟨a0, rfl, rfl, rfl, w0⟩ := open_int Tryd.underlying3 (hval 0 3 v0 rfl rfl) h0
  obtain ⟨a1, rfl, rfl, rfl, w1⟩ := open_int Tryd.underlying5 (hval 1 5 v1 rfl rfl) h1
  clear hA0 hval0
  simp only [List.append_nil] at hW'
  refine (walk a0 a1 W (tabs_of_laid hL) w0 w1).mono fun e W' ⟨he, bel⟩ => ?_
  subst he
  exact ⟨_, rfl, _, _, _, [], _, [], hW', trodAll_mk1 (shut_bool Tryd.underlying4 _), (trodAll_cons_mk (shut_int Tryd.underlying3 w0) (trodAll_cons_mk (shut_int Tryd.underlying5 w1) trodAll_mk0)), rfl, bel.frame _, fun h => by cases h⟩

theorem row_holds : Rows.DigestEndsSaid :=
  OpenClaim.holds_of_wide 4 Tryd.f4 rfl rfl rfl rfl rfl rfl rfl ⟨rfl, rfl, rfl, rfl, rfl⟩ rfl rfl rfl rfl rfl (by kernel_rfl) Tryd.func4 (by kernel_rfl)
    (of_decide_eq_true (by kernel_rfl)) (by unfold Func.isWrapper; first | (rw [if_pos (by decide +kernel)]; kernel_rfl) | (rw [if_neg (by decide +kernel)]; exact ⟨rfl, rfl⟩))
    (fun os started H enc _ => lifted os started H enc)

theorem proved : Rows.DigestEndsCardSaid :=
  Claim7.holds_tied_plain_at .later [] [.data, .data] true Rows.digestEndsCard.stood.harness false
    row_holds (fun _ h => by cases h) (by kernel_rfl) (fun _ h => by cases h) digestEnds_row_tie rfl ⟨rfl, rfl⟩ (by kernel_rfl) rfl
    (fun f fn hf hfn => by
      obtain rfl : f = 4 := Option.some.inj ((show Tryd.prog.funcNamed Tryd.f4.name = some 4 by kernel_rfl).symm.trans hf) |>.symm
      obtain rfl : fn = Tryd.f4 := (Option.some.inj (Tryd.func4.symm.trans hfn)).symm
      exact ⟨by kernel_rfl, fun j t ht => by
        rw [Tryd.params4] at ht
        have h3 : t = 3 ∨ t = 5 := by
          rcases j with _ | _ | j
          · exact .inl (by simpa using ht.symm)
          · exact .inr (by simpa using ht.symm)
          · simp at ht
        rcases h3 with rfl | rfl
        · exact (show Tryd.prog.wantsStandIn 3 = false by kernel_rfl)
        · exact (show Tryd.prog.wantsStandIn 5 = false by kernel_rfl)⟩)
    (by kernel_rfl)
end Go.Proofs.YtlnjeplifndjgaaDoor.digestEnds
namespace Go.Proofs.YtlnjeplifndjgaaDoor
theorem digestEnds_holds : Rows.DigestEndsCardSaid := digestEnds.proved
#print axioms digestEnds_holds
end Go.Proofs.YtlnjeplifndjgaaDoor
