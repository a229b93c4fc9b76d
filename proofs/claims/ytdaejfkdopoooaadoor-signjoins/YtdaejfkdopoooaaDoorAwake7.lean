/- The fixed facts that every statement of layer 7 asks first hold. -/
import Derived.Test.YtdaejfkdopoooaaDoorRootsL
import Derived.Test.YtdaejfkdopoooaaDoorKnown7
namespace Go.Proofs.YtdaejfkdopoooaaDoor
open Go.RowKit
set_option linter.unusedVariables false
set_option maxRecDepth 100000

theorem lone_rt (x : Nat) (hx : x < 256) : Rt (x :: zeros 31) := ⟨rfl, fun z hz => by
  rcases List.mem_cons.1 hz with rfl | hz
  · exact hx
  · unfold zeros at hz; rw [(List.mem_replicate.1 hz).2]; decide⟩
theorem valid_nil (w : World) (hT : Tabs w) : Calls Tryd.prog 12 #[.slice none 0 0, .agg (nums .u8 (zeros 32)), .agg (nums .u8 (zeros 32))] w fun e w' => e = .returned (.bool false) ∧ Below w.heap.size w w' := by
  have := valid_any none 0 [] (zeros 32) (zeros 32) w hT (Nat.le_refl _) (by decide) (by decide) (RootsAt.nil w _) zero_rt zero_rt
  exact this
theorem valid_lone (b : Nat) (k m t : List Nat) (hk : Rt k) (hm : Rt m) (ht : Same (pr k m) t) (w : World) (hT : Tabs w) (hR : RootsAt w (some ⟨b, 0, none⟩) [k]) : Calls Tryd.prog 12 #[.slice (some ⟨b, 0, none⟩) 1 1, .agg (nums .u8 m), .agg (nums .u8 t)] w fun e w' => e = .returned (.bool true) ∧ Below w.heap.size w w' := by
  have hp := pr_rt k m
  rw [ht.out] at hp
  have := valid_any (some ⟨b, 0, none⟩) 1 [k] m t w hT (Nat.le_refl _) (by decide) (by simp) hR hm hp
  have e : joinR (tagsR [k] m) = t := by
    show joinR [pr k m] = t
    rw [joinR_one (pr_rt k m).len, ht.out]
  rw [e, decide_eq_true rfl, Bool.and_true] at this
  exact this
theorem join_two (b : Nat) (x y z : List Nat) (h : Same (joinR [x, y]) z) (w : World) (hR : RootsAt w (some ⟨b, 0, none⟩) [x, y]) : Calls Tryd.prog 8 #[.slice (some ⟨b, 0, none⟩) 2 2, ] w fun e w' => e = .returned (.agg (nums .u8 z)) ∧ Below w.heap.size w w' := by
  have := join_any' (some ⟨b, 0, none⟩) 2 [x, y] w (Nat.le_refl _) (by decide) hR
  rw [h.out] at this
  exact this

set_option maxHeartbeats 1000000 in
theorem awake_any (w : World) (hT : Tabs w) : Calls Tryd.prog 5 #[] w fun e w' => e = .returned (.bool true) ∧ Below w.heap.size w w' := by
  have hzr := zero_rt
  have h1r := lone_rt 1 (by decide)
  have h2r := lone_rt 2 (by decide)
  obtain ⟨t, ht⟩ : ∃ t, Same (pr (1 :: zeros 31) (2 :: zeros 31)) t := ⟨_, ⟨rfl⟩⟩
  have htr : Rt t := by rw [← ht.out]; exact pr_rt _ _
  have htz : t ≠ zeros 32 := by rw [← ht.out]; exact tag_not_zero
  have HTg := hid (fun wq (hq : Tabs wq) => tag_any (1 :: zeros 31) (2 :: zeros 31) h1r h2r wq hq)
  rw [ht.out] at HTg
  have HV0 := hid valid_nil
  have HV1 := hid (fun b wq hq hr => valid_lone b (1 :: zeros 31) (2 :: zeros 31) t h1r h2r ht wq hq hr)
  have HJ := hid (fun b wq hr => join_two b t t (zeros 32) ⟨joinR_twice htr.len⟩ wq hr)
  have q1 := fun w => eql_api t (zeros 32) htr.len hzr.len htr.byte hzr.byte w
  have q2 := fun w => eql_api (zeros 32) (zeros 32) hzr.len hzr.len hzr.byte hzr.byte w
  rw [decide_eq_false htz] at q1
  rw [decide_eq_true rfl] at q2
  obtain ⟨k1, hk1⟩ : ∃ k, Same (1 :: zeros 31) k := ⟨_, ⟨rfl⟩⟩
  obtain ⟨k2, hk2⟩ : ∃ k, Same (2 :: zeros 31) k := ⟨_, ⟨rfl⟩⟩
  rw [hk1.out, hk2.out] at HTg HV1
  rw [hk1.out] at h1r
  rw [hk2.out] at h2r
  clear ht htz
  go_enter Tryd.func5, Tryd.ntmps5
  go_wp2_with (first
    | (refine wpList_build_has rfl 24 #[(0, .const (.int .u8 1))] rfl .u8 k1 (by rw [← hk1.out]; kernel_rfl) ?_)
    | (refine wpList_build_has rfl 24 #[(0, .const (.int .u8 2))] rfl .u8 k2 (by rw [← hk2.out]; kernel_rfl) ?_))
  refine (HTg.out _ hT).mono ?_
  rintro e w1 ⟨rfl, B1⟩
  go_wp2_with (first
    | (refine wpList_build_has rfl 24 #[] rfl .u8 (zeros 32) (by kernel_rfl) ?_)
    | (refine wpList_alloc_has rfl 1 rfl 24 rfl .u8 32 Tryd.zero24 ?_; intro w2 H2 B2 S2; have HW2 := below_more B1 B2 (Nat.le_refl _))
    | (refine wpList_store_has rfl 24 (.tmp 1) (.tmp 4) rfl w1.heap.size .u8 t (zeros 32) rfl rfl 24 H2 (htr.size _ Tryd.size24) (by rw [htr.len, zeros_length]) ?_; intro w3 H3 O3; have HW3 := below_only HW2 O3 B1.size))
  refine (HV0.out _ (hT.keep HW3)).mono ?_
  rintro e w4 ⟨rfl, B4⟩
  have H4 := H3.keep B4
  have HW4 := below_more HW3 B4 (Nat.le_refl _)
  clear H2 B2 S2 O3 H3 HW2 HW3 B4
  go_wp2_with (first
    | (refine wpList_runW rfl _ (run_load_has (.tmp 1) rfl w1.heap.size t rfl 24 H4 htr) ?_)
    | (refine wpList_buildW rfl 24 #[] rfl .u8 (zeros 32) (by kernel_rfl) ?_)
    | (refine wpList_flow (fun v wq => ∃ g, v = .slice (some ⟨g, 0, none⟩) 2 2 ∧ RootsAt wq (some ⟨g, 0, none⟩) [t, t]) rfl (flow_roots 22 24 2 #[(0, .tmp 15), (1, .tmp 16)] rfl Tryd.underlying22 Tryd.rootInfo [t, t] [.tmp 15, .tmp 16] rfl rfl (by intro r hr; rcases List.mem_cons.1 hr with rfl | hr; exact htr.len; rw [List.mem_singleton.1 hr]; exact htr.len) rfl (by decide) (by decide) (fun w' h => ⟨_, rfl, HasR.at (htr.one.append htr.one) h⟩)) ?_; rintro v w5 ⟨g5, rfl, R5⟩ B5; have H5 := H4.keep B5; have HW5 := below_more HW4 B5 (Nat.le_refl _)))
  refine (HJ.out g5 w5 R5).mono ?_
  rintro e w6 ⟨rfl, B6⟩
  have H6 := H5.keep B6
  have HW6 := below_more HW5 B6 (Nat.le_refl _)
  clear H4 H5 HW4 HW5 B5 B6 R5
  go_wp2_with (first
    | (refine wpList_buildW rfl 24 #[] rfl .u8 (zeros 32) (by kernel_rfl) ?_)
    | (refine wpList_buildW rfl 24 #[(0, .const (.int .u8 1))] rfl .u8 k1 (by rw [← hk1.out]; kernel_rfl) ?_)
    | (refine wpList_flow (fun v wq => ∃ g, v = .slice (some ⟨g, 0, none⟩) 1 1 ∧ RootsAt wq (some ⟨g, 0, none⟩) [k1]) rfl (flow_roots 22 24 1 #[(0, .tmp 23)] rfl Tryd.underlying22 Tryd.rootInfo [k1] [.tmp 23] rfl rfl (by intro r hr; rw [List.mem_singleton.1 hr]; exact h1r.len) rfl (by decide) (by decide) (fun w' h => ⟨_, rfl, HasR.at h1r.one h⟩)) ?_; rintro v w7 ⟨g7, rfl, R7⟩ B7; have H7 := H6.keep B7; have HW7 := below_more HW6 B7 (Nat.le_refl _))
    | (refine wpList_buildW rfl 24 #[(0, .const (.int .u8 2))] rfl .u8 k2 (by rw [← hk2.out]; kernel_rfl) ?_)
    | (refine wpList_runW rfl _ (run_load_has (.tmp 1) rfl w1.heap.size t rfl 24 H7 htr) ?_))
  refine (HV1.out g7 w7 (hT.keep HW7) R7).mono ?_
  rintro e w8 ⟨rfl, B8⟩
  have HW8 := below_more HW7 B8 (Nat.le_refl _)
  clear H6 H7 HW6 HW7 B7 B8 R7
  go_wp2_with fail
  go_ret
  exact ⟨rfl, HW8⟩
end Go.Proofs.YtdaejfkdopoooaaDoor
