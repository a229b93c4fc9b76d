/- For all roots a and b, keystonelaw02.DigestPairs answers true: Pair is the digest of the two roots one behind the other, and it and Hex are the document's; the two tables stand as the program's text lays them (tied). -/
import Derived.Test.YtlnjeplifndjgaaDoorCards
import Derived.Test.YtlnjeplifndjgaaDoorTie
import Derived.Test.YtlnjeplifndjgaaDoorLaid
import Derived.Test.YtlnjeplifndjgaaDoorAwake2
import Derived.Test.YtlnjeplifndjgaaDoorEqual
import Derived.Test.YtlnjeplifndjgaaDoorCls
import Derived.Deep.Cut
import Derived.Deep.CutRange
import Derived.ProofKit
import Derived.OpenShut
import Derived.ShutString
import Derived.ChangeOld
import Derived.SevenTiedAt
import Derived.Stop.Joined
namespace Go.Proofs.YtlnjeplifndjgaaDoor.digestPairs
open Go.ChangeShapes Go.WideShapes Go.ChangeAt Go.RowKit
set_option linter.unusedVariables false
set_option maxRecDepth 100000

theorem own : ownKnob Tryd.prog.godebug = none := by kernel_rfl
theorem laidOut : laidOutB Tryd.prog = true := by kernel_rfl

/-- A slice literal without elements. -/
theorem own_empty (w : World) : (w.alloc (.cells #[] 5)).drew.ownsRow w.heap.size 5 1 (.slice (some ⟨w.heap.size, 0, none⟩) 0 0) 0 [] :=
  ⟨rfl, .inr ⟨w.heap.size, 0, #[], rfl, Nat.le_refl _, heap_alloc_new w _, Nat.le_refl _, Nat.zero_le _, rfl, rfl⟩⟩
theorem below_grown {w w' : World} {v : Value} {B e n : Nat} {xs : List Value} {W : World} (hW : Below W.heap.size W w) (hown : w.ownsRow B e 1 v n xs) (hB : W.heap.size ≤ B) (h : w.grownBy w' v.ownBlock) : Below W.heap.size W w' :=
  hW.grown h hW.size (fun k hk => Nat.le_trans hB (hown.lt k hk).1)

set_option maxHeartbeats 1000000 in
theorem walk (a b : List Nat) (ha : a.length = 32) (hb : b.length = 32) (hba : ∀ z ∈ a, z < 256) (hbb : ∀ z ∈ b, z < 256) (w : World) (hT : Tabs w) :
    Calls Tryd.prog 5 #[.agg (nums .u8 a), .agg (nums .u8 b)] w fun e w' => e = .returned (.bool true) ∧ Below w.heap.size w w' := by
  go_enter Tryd.func5, Tryd.ntmps5
  go_wp2_with (first
    | (refine wpList_box_has rfl 2 rfl 24 (.tmp 0) rfl .u8 a rfl ?_; intro w1 H1 B1 S1; replace S1 := hid S1)
    | (refine wpList_box_has rfl 3 rfl 24 (.tmp 1) rfl .u8 b rfl ?_; intro w2 H2 B2 S2; replace S2 := hid S2)
    | (go_at_call 6; refine (awake_any _ ((hT.keep B1).keep B2)).mono ?_; rintro e w3 ⟨rfl, B3⟩))
  have H1b := (H1.keep B2).keep B3
  have H2b := H2.keep B3
  have HW3 := below_more (below_more B1 B2 (Nat.le_refl _)) B3 (Nat.le_refl _)
  have n1 : w.heap.size < w1.heap.size := by have := S1.out; omega
  have n2 : w1.heap.size < w3.heap.size := H2b.lt
  clear H1 B1 S1 H2 B2 S2 B3
  generalize w1.heap.size = Bb at *
  have HS1 : ∀ j, j < 32 → w3.cell? (Addr.add ⟨w.heap.size, 0, none⟩ j) = some (.int .u8 (a.getD j 0 : Nat)) := fun j hj => by
    rw [Addr.add_lit, Nat.zero_add]; exact H1b.cell j (by omega)
  have HS2 : ∀ j, j < 32 → w3.cell? (Addr.add ⟨Bb, 0, none⟩ j) = some (.int .u8 (b.getD j 0 : Nat)) := fun j hj => by
    rw [Addr.add_lit, Nat.zero_add]; exact H2b.cell j (by omega)
  have HA := hid HS1
  have HB := hid HS2
  clear HS1 HS2
  go_cut [5] from 8 to 12 (fun v wc => ∃ g cap, v = .slice (some ⟨g, 0, none⟩) 64 cap ∧ 64 ≤ cap ∧ cap ≤ maxLen ∧ Reads wc (some ⟨g, 0, none⟩) (a ++ b) ∧ Has wc w.heap.size 24 .u8 a ∧ Has wc Bb 24 .u8 b ∧ Below w.heap.size w wc)
  case first =>
    rename_i J K' hJ hK'
    have B3a : Below w3.heap.size w3 (w3.alloc (.cells #[] 5)).drew := ((Below.refl _ w3).alloc (Nat.le_refl _) _).drew
    have HA1 : ∀ j, j < a.length → (w3.alloc (.cells #[] 5)).drew.cell? (Addr.add ⟨w.heap.size, 0, none⟩ j) = some (.int .u8 (a.getD j 0 : Nat)) := fun j hj => by
      rw [Addr.add_lit, Nat.zero_add]; exact (H1b.keep B3a).cell j hj
    have HA1' := hid HA1
    clear HA1
    go_region_law (first
      | (refine step_append_own rfl (.tmp 8) (.tmp 9) 22 rfl w3.heap.size 5 .u8 Tryd.underlying22 Tryd.zero5 _ 0 [] rfl (by exact own_empty w3) ⟨w.heap.size, 0, none⟩ a 32 (by rw [ha]; rfl) (by exact HA1'.out) (by rw [ha]; omega) (by exact B3a.size) ?_; intro v1 w4 own1 grow1; have B4 : Below w3.heap.size w3 w4 := below_grown B3a (own_empty w3) (Nat.le_refl _) grow1)
      | (refine step_append_own rfl (.tmp 10) (.tmp 11) 22 rfl w3.heap.size 5 .u8 Tryd.underlying22 Tryd.zero5 v1 _ _ rfl own1 ⟨Bb, 0, none⟩ b 32 (by rw [hb]; rfl) (by intro j hj; rw [Addr.add_lit, Nat.zero_add]; exact (H2b.keep B4).cell j hj) (by rw [ha, hb]; omega) (by exact B4.size) ?_; intro v2 w5 own2 grow2; have B5 : Below w3.heap.size w3 w5 := below_grown B4 own1 (Nat.le_refl _) grow2))
    clear grow1 grow2 HA HB HA1'
    simp [Act.put]
    refine hK' _ _ (Met.intro (hJ _ _ ?_))
    (repeat apply Exists.intro)
    refine ⟨?rel, rfl⟩
    case rel =>
      rw [List.nil_append, ← List.map_append, Nat.zero_add, ha, hb] at own2
      obtain ⟨hlen, ⟨hv, h64⟩ | ⟨g, cap, cur, hv, hg1, hg2, hg3, hg4, hg5, hg6⟩⟩ := own2
      · omega
      · have hcell : ∀ i, i < (a ++ b).length → w5.cell? ⟨g, 0 + i, none⟩ = some (.int .u8 ((a ++ b).getD i 0 : Nat)) := fun i hi => by
          have hl : (a ++ b).length = 64 := by rw [List.length_append, ha, hb]
          rw [Nat.zero_add, cell_of_row w5 g i cur _ _ hg2, ← Array.getElem?_toList]
          have h7 := congrArg (fun l => l[i]?) hg6
          simp only [List.getElem?_take, List.getElem?_map] at h7
          rw [if_pos (by omega)] at h7
          rw [h7, List.getD_eq_getElem?_getD, List.getElem?_eq_getElem hi]
          rfl
        exact ⟨g, cap, hv, by omega, hg4, .inr ⟨g, 0, rfl, hcell⟩, H1b.keep B5, H2b.keep B5, below_more HW3 B5 (Nat.le_refl _)⟩
  case rest =>
    obtain ⟨g, cap, rfl, hc1, hc2, hR, HA, HB, HW⟩ := hcut
    clear H1b HW3 H2b n2
    have hab : (a ++ b).length = 64 := by rw [List.length_append, ha, hb]
    have hbab : ∀ z ∈ a ++ b, z < 256 := fun z hz => by
      rcases List.mem_append.1 hz with hz | hz
      · exact hba z hz
      · exact hbb z hz
    have HO := hid (fun wq (hq : Cls wc wq) => of_any (some ⟨g, 0, none⟩) cap (a ++ b) wq ((hT.keep HW).keep hq.bel) (by omega) hc2 (by omega) hbab (hR.keep hq.bel))
    have HPr := hid (fun wq (hq : Cls wc wq) => pair_any a b ha hb hba hbb wq ((hT.keep HW).keep hq.bel))
    have HRp := hid (fun wq (hq : Cls wc wq) => rpair_any a b ha hb hba hbb wq)
    have HHx := hid (fun wq (hq : Cls wc wq) => hex_any a ha hba wq)
    have HRx := hid (fun wq (hq : Cls wc wq) => rhex_any a ha hba wq)
    have he1 := eql_api (sha (a ++ b)) (sha (a ++ b)) (sha_length _) (sha_length _) (sha_bytes _) (sha_bytes _)
    have he2 := eql_roots (sha (a ++ b)) (sha (a ++ b)) (sha_length _) (sha_length _) (sha_bytes _) (sha_bytes _)
    have HLA := hid (fun wq (hq : Cls wc wq) => HA.keep hq.bel)
    have HLB := hid (fun wq (hq : Cls wc wq) => HB.keep hq.bel)
    rw [decide_eq_true rfl] at he1 he2
    rw [hab] at HO
    clear hab hbab hR HA HB
    generalize sha (a ++ b) = S at *
    generalize strOf (hexUp a 32) = sx at *
    go_wp2
    refine wp_region_cls (by kernel_rfl) (by kernel_rfl) ?_
    go_big_quiet_want
    refine quiet_load 24 (.tmp 2) rfl w.heap.size .u8 a rfl 24 HLA.out _ _ Tryd.underlying24 (by rw [ha]; exact Tryd.size24) ?_
    simp only [Act.put, List.setIfInBounds_toArray, List.set_cons_succ, List.set_cons_zero]
    go_big_quiet_on
    go_big_quiet_want
    refine quiet_load 24 (.tmp 3) rfl Bb .u8 b rfl 24 HLB.out _ _ Tryd.underlying24 (by rw [hb]; exact Tryd.size24) ?_
    simp only [Act.put, List.setIfInBounds_toArray, List.set_cons_succ, List.set_cons_zero]
    go_big_quiet_on
    go_big_quiet_want
    refine quiet_call 9 #[.agg (nums .u8 a), .agg (nums .u8 b)] (.agg (nums .u8 S)) (fun _ => by simp [go_sem]) (fun wq hq => (HPr.out wq hq).mono fun e w' h => ⟨h.1, hq.more h.2⟩) ?_
    simp only [Act.put, List.setIfInBounds_toArray, List.set_cons_succ, List.set_cons_zero]
    go_big_quiet_on
    go_big_quiet_step ((exact fun _ => rfl))
    go_big_quiet_want
    refine quiet_call 7 #[.slice (some ⟨g, 0, none⟩) 64 cap] (.agg (nums .u8 S)) (fun _ => by simp [go_sem]) (fun wq hq => (HO.out wq hq).mono fun e w' h => ⟨h.1, hq.more h.2⟩) ?_
    simp only [Act.put, List.setIfInBounds_toArray, List.set_cons_succ, List.set_cons_zero]
    go_big_quiet_on
    go_big_quiet_step ((exact fun _ => rfl))
    go_big_quiet_step ((exact fun _ => rfl))
    go_big_quiet_want
    refine quiet_load 24 (.tmp 2) rfl w.heap.size .u8 a rfl 24 HLA.out _ _ Tryd.underlying24 (by rw [ha]; exact Tryd.size24) ?_
    simp only [Act.put, List.setIfInBounds_toArray, List.set_cons_succ, List.set_cons_zero]
    go_big_quiet_on
    go_big_quiet_want
    refine quiet_load 24 (.tmp 3) rfl Bb .u8 b rfl 24 HLB.out _ _ Tryd.underlying24 (by rw [hb]; exact Tryd.size24) ?_
    simp only [Act.put, List.setIfInBounds_toArray, List.set_cons_succ, List.set_cons_zero]
    go_big_quiet_on
    go_big_quiet_want
    refine quiet_call 9 #[.agg (nums .u8 a), .agg (nums .u8 b)] (.agg (nums .u8 S)) (fun _ => by simp [go_sem]) (fun wq hq => (HPr.out wq hq).mono fun e w' h => ⟨h.1, hq.more h.2⟩) ?_
    simp only [Act.put, List.setIfInBounds_toArray, List.set_cons_succ, List.set_cons_zero]
    go_big_quiet_on
    go_big_quiet_want
    refine quiet_load 24 (.tmp 2) rfl w.heap.size .u8 a rfl 24 HLA.out _ _ Tryd.underlying24 (by rw [ha]; exact Tryd.size24) ?_
    simp only [Act.put, List.setIfInBounds_toArray, List.set_cons_succ, List.set_cons_zero]
    go_big_quiet_on
    go_big_quiet_want
    refine quiet_load 24 (.tmp 3) rfl Bb .u8 b rfl 24 HLB.out _ _ Tryd.underlying24 (by rw [hb]; exact Tryd.size24) ?_
    simp only [Act.put, List.setIfInBounds_toArray, List.set_cons_succ, List.set_cons_zero]
    go_big_quiet_on
    go_big_quiet_want
    refine quiet_call 10 #[.agg (nums .u8 a), .agg (nums .u8 b)] (.agg (nums .u8 S)) (fun _ => by simp [go_sem]) (fun wq hq => (HRp.out wq hq).mono fun e w' h => ⟨h.1, hq.more h.2⟩) ?_
    simp only [Act.put, List.setIfInBounds_toArray, List.set_cons_succ, List.set_cons_zero]
    go_big_quiet_on
    go_big_quiet_step ((exact fun _ => rfl))
    go_big_quiet_step ((exact fun _ => rfl))
    go_big_quiet_step ((exact fun _ => rfl))
    go_big_quiet_want
    refine quiet_load 24 (.tmp 2) rfl w.heap.size .u8 a rfl 24 HLA.out _ _ Tryd.underlying24 (by rw [ha]; exact Tryd.size24) ?_
    simp only [Act.put, List.setIfInBounds_toArray, List.set_cons_succ, List.set_cons_zero]
    go_big_quiet_on
    go_big_quiet_want
    refine quiet_call 11 #[.agg (nums .u8 a)] (.string sx) (fun _ => by simp [go_sem]) (fun wq hq => (HHx.out wq hq).mono fun e w' h => ⟨h.1, hq.more h.2⟩) ?_
    simp only [Act.put, List.setIfInBounds_toArray, List.set_cons_succ, List.set_cons_zero]
    go_big_quiet_on
    go_big_quiet_want
    refine quiet_load 24 (.tmp 2) rfl w.heap.size .u8 a rfl 24 HLA.out _ _ Tryd.underlying24 (by rw [ha]; exact Tryd.size24) ?_
    simp only [Act.put, List.setIfInBounds_toArray, List.set_cons_succ, List.set_cons_zero]
    go_big_quiet_on
    go_big_quiet_want
    refine quiet_call 12 #[.agg (nums .u8 a)] (.string sx) (fun _ => by simp [go_sem]) (fun wq hq => (HRx.out wq hq).mono fun e w' h => ⟨h.1, hq.more h.2⟩) ?_
    simp only [Act.put, List.setIfInBounds_toArray, List.set_cons_succ, List.set_cons_zero]
    go_big_quiet_on
    go_big_quiet_step ((exact fun _ => rfl))
    go_big_quiet_step ((exact fun _ => rfl))
    go_big_quiet_step ((exact fun _ => rfl))
    refine wpQuiet_nil ?_
    intro w9 h9
    go_wp2
    go_ret
    exact ⟨rfl, below_more HW h9.bel (Nat.le_refl _)⟩

/-- A root that came in by value. -/
theorem open_root {H : Type} {enc : TypeId × Value → H} {W : World} {base : Nat} {v : Value} {d : DataW H} {p : List MemPlace} {b0 : Nat} {sp : Nat → Bool} {held : Bool} (hv : Value.okWide Tryd.prog W .any base 24 v) (h : DataW.Trod enc Tryd.prog W b0 sp held 24 v d p) :
    ∃ a : List Nat, v = .agg (nums .u8 a) ∧ a.length = 32 ∧ ∀ z ∈ a, z < 256 := by
  have hv' := hv
  simp only [Value.okWide, Tryd.underlying24] at hv'
  obtain ⟨cs, rfl, hsz, _⟩ := hv'
  have c24 : Tryd.prog.cellsOf 24 = 32 := by kernel_rfl
  have c5 : Tryd.prog.cellsOf 5 = 1 := by kernel_rfl
  obtain ⟨fuel, hf⟩ := h
  obtain ⟨xs, m, _, _, hl, hxs, hel⟩ := DataW.trod_array Tryd.underlying24 hf
  have hsize : cs.size = 32 := hsz.trans c24
  have key : ∀ i (hi : i < cs.size), ∃ n : Nat, cs[i] = .int .u8 (n : Int) ∧ n < 256 := by
    intro i hi
    have h1 := hel i (by omega)
    rw [c5, Nat.mul_one, List.getElem?_eq_getElem (by omega)] at h1
    obtain ⟨n, e1, _, hw⟩ := DataW.trod_int Tryd.underlying5 h1
    have hb := bounds_u8 hw
    have e2 : (cs.toList.drop i).take 1 = [cs[i]] := by
      rw [List.drop_eq_getElem_cons (by simpa using hi)]
      simp
    have e3 : [cs[i]] = [Value.int .u8 n] := e2.symm.trans e1
    refine ⟨n.toNat, ?_, by omega⟩
    have e4 : cs[i] = Value.int .u8 n := by simpa using e3
    rw [e4]
    congr 1
    omega
  refine ⟨cs.toList.map fun v => (intOf v).toNat, ?_, by simp [hsize], ?_⟩
  · congr 1
    apply Array.toList_inj.1
    unfold nums
    apply List.ext_getElem
    · simp
    · intro i h1 h2
      obtain ⟨n, e, hn⟩ := key i (by simpa using h1)
      simp [e, intOf]
  · intro z hz
    obtain ⟨v, hv, rfl⟩ := List.mem_map.1 hz
    obtain ⟨i, hi, rfl⟩ := List.mem_iff_getElem.1 hv
    obtain ⟨n, e, hn⟩ := key i (by simpa using hi)
    simp [e, intOf, hn]

/-- The door's own heap meets the condition. -/
theorem door_met (os : Os) (args : Array Value) : laidMetH Tryd.prog laidTwo ((World.doorLaid Tryd.prog 19 os).forCall (fun _ _ => 0) ⟨#[], args, []⟩).memory :=
  laidMetH_of_parts3 (fuel := 8) (laidMet_of_run' 8 (by kernel_rfl) (by kernel_rfl)) (by kernel_rfl) (by kernel_rfl)

theorem lifted (os : Os) (started : os.Started) (H : Type) (enc : TypeId × Value → H) :
    ReturnsInHanded {} Tryd.checked os 5 .any (fun w args => (Rows.digestPairsSpec.pre enc Tryd.prog Tryd.f5 [] false w args ∧ laidMetH Tryd.prog laidTwo w) ∧ sizedMet enc Tryd.prog Tryd.f5 (OpenSpec.ofChange Rows.digestPairsSpec) false w args)
      (Rows.digestPairsSpec.post enc Tryd.prog Tryd.f5 false true false false) := by
  refine returnsInHanded_of_change_and (C := Tryd.checked) (X := fun w _ => laidMetH Tryd.prog laidTwo w) (fun _ _ _ hh h => h.of_heap hh) own started (by kernel_rfl) Tryd.func5
    (ChangeSpec.witness_shaped (enc := enc) (C := Tryd.checked) (os := os) (X := fun w _ => laidMetH Tryd.prog laidTwo w) false (World.doorLaid Tryd.prog 19 os) #[.agg (nums .u8 (zeros 32)), .agg (nums .u8 (zeros 32))] 8 rfl (World.shaped_of_RefB (by kernel_rfl) (by kernel_rfl)) (by kernel_rfl) (by kernel_rfl) (by kernel_rfl) (door_met os _)) ?_
  intro W base args ds gs before hval0 hW _ _ hL _
  have hval : ∀ (j : Nat) t v, Tryd.f5.params[j]? = some t → args[j]? = some v → Value.okWide Tryd.prog W .any base t v := hval0
  have hW' := hW
  obtain ⟨p, q, hA0, hV, rfl, hfz, hnd⟩ := hW
  have hA : DataW.TrodAll enc Tryd.prog W 0 (fun _ => true) true Tryd.f5.params.toList args.toList ds p := hA0
  rw [Tryd.params5] at hA hval
  obtain ⟨v0, vs0, d0, ds0, p0, q0, hargs, rfl, rfl, h0, r0⟩ := trodAll_cons hA
  obtain ⟨v1, vs1, d1, ds1, p1, q1, rfl, rfl, rfl, h1, r1⟩ := trodAll_cons r0
  obtain ⟨rfl, rfl, rfl⟩ := trodAll_nil r1
  obtain rfl : args = #[v0, v1] := by cases args; simp_all
  obtain ⟨rfl, rfl⟩ := trodVars_none hV
  have lt0 : ∀ x ∈ p0, x.block < W.heap.size := by obtain ⟨m, hm⟩ := h0; exact DataW.trod_lt m _ _ _ hm
  have lt1 : ∀ x ∈ p1, x.block < W.heap.size := by obtain ⟨m, hm⟩ := h1; exact DataW.trod_lt m _ _ _ hm
  obtain ⟨a, rfl, ha, hba⟩ := open_root (hval 0 24 v0 rfl rfl) h0
  obtain ⟨b, rfl, hb, hbb⟩ := open_root (hval 1 24 v1 rfl rfl) h1
  clear hA0 hval0
  refine (walk a b ha hb hba hbb W (tabs_of_laid hL)).mono fun e W' ⟨he, bel⟩ => ?_
  subst he
  exact ⟨_, rfl, _, _, _, [], _, [], hW', trodAll_mk1 (shut_bool Tryd.underlying4 _), (trodAll_cons_mk (Below.trod laidOut (by kernel_rfl) (of_decide_eq_true (by kernel_rfl)) h0 bel lt0) (trodAll_cons_mk (Below.trod laidOut (by kernel_rfl) (of_decide_eq_true (by kernel_rfl)) h1 bel lt1) trodAll_mk0)), rfl, bel.frame _, fun h => by cases h⟩

theorem row_holds : Rows.DigestPairsSaid :=
  OpenClaim.holds_of_wide 5 Tryd.f5 rfl rfl rfl rfl rfl rfl rfl ⟨rfl, rfl, rfl, rfl, rfl⟩ rfl rfl rfl rfl rfl (by kernel_rfl) Tryd.func5 (by kernel_rfl)
    (of_decide_eq_true (by kernel_rfl)) (by unfold Func.isWrapper; first | (rw [if_pos (by decide +kernel)]; kernel_rfl) | (rw [if_neg (by decide +kernel)]; exact ⟨rfl, rfl⟩))
    (fun os started H enc _ => lifted os started H enc)

theorem proved : Rows.DigestPairsCardSaid :=
  Claim7.holds_tied_plain_at .later [] [.data, .data] true Rows.digestPairsCard.stood.harness false
    row_holds (fun _ h => by cases h) (by kernel_rfl) (fun _ h => by cases h) digestPairs_row_tie rfl ⟨rfl, rfl⟩ (by kernel_rfl) rfl
    (fun f fn hf hfn => by
      obtain rfl : f = 5 := Option.some.inj ((show Tryd.prog.funcNamed Tryd.f5.name = some 5 by kernel_rfl).symm.trans hf) |>.symm
      obtain rfl : fn = Tryd.f5 := (Option.some.inj (Tryd.func5.symm.trans hfn)).symm
      exact ⟨by kernel_rfl, fun j t ht => by
        rw [Tryd.params5] at ht
        have h3 : t = 24 := by
          rcases j with _ | _ | j
          · simpa using ht.symm
          · simpa using ht.symm
          · simp at ht
        subst h3
        exact (show Tryd.prog.wantsStandIn 24 = false by kernel_rfl)⟩)
    (by kernel_rfl)
end Go.Proofs.YtlnjeplifndjgaaDoor.digestPairs
namespace Go.Proofs.YtlnjeplifndjgaaDoor
theorem digestPairs_holds : Rows.DigestPairsCardSaid := digestPairs.proved
#print axioms digestPairs_holds
end Go.Proofs.YtlnjeplifndjgaaDoor
