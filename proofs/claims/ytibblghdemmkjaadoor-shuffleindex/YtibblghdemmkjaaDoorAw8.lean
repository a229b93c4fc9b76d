/- The fixed facts that every statement of layer 8 asks first hold. -/
import Derived.Test.YtibblghdemmkjaaDoorLs8
namespace Go.Proofs.YtibblghdemmkjaaDoor
open Go.RowKit
set_option linter.unusedVariables false
set_option maxRecDepth 100000

theorem lone_rt (x : Nat) (hx : x < 256) : Rt (x :: zeros 31) := ⟨rfl, fun z hz => by
  rcases List.mem_cons.1 hz with rfl | hz
  · exact hx
  · unfold zeros at hz; rw [(List.mem_replicate.1 hz).2]; decide⟩
theorem wpList_build_none {P : Program} {ops : Array Oper} {Q : Exit → Act → World → Prop} {a : Act} {w : World} {rest : List Oper} {o : Oper} (hgd : o.guard = none) (t : TypeId) (ho : o.op = .build t #[]) (cs : Array Value)
    (hb : P.built t [] = some cs) (h : wpList P ops Q rest (a.put o.dst (.agg cs)) w) : wpList P ops Q (o :: rest) a w :=
  wpList_plain hgd fun K hK => wp_build t #[] ho (by simp [hb]) (by simp only [List.map_toArray, List.map_nil, hb]; exact hK _ _ h)
set_option maxHeartbeats 1000000 in
theorem nobody_any (cs : Array Value) (s : List Nat) (w : World) :
    Calls Tryd.prog 10 #[.agg cs, .slice none 0 0, .agg (nums .u8 s)] w fun e w' => e = .returned (.tuple #[.int .u64 0, .int .i64 6]) ∧ Below w.heap.size w w' := by
  go_enter Tryd.func10, Tryd.ntmps10
  go_wp2
  refine bodyPost_ret (results_tmp_tmp rfl _ _) rfl ?_
  exact ⟨rfl, ((Below.refl _ w).alloc (Nat.le_refl _) _).alloc (by simp) _⟩

theorem built_state : ∃ Z, Tryd.prog.built 52 [] = some Z := Option.isSome_iff_exists.1 (show (Tryd.prog.built 52 []).isSome = true by kernel_rfl)
theorem index_three (s : List Nat) (w : World) :
    Calls Tryd.prog 7 #[.int .u64 3, .int .u64 3, .agg (nums .u8 s)] w fun e w' => e = .returned (.tuple #[.int .u64 0, .int .i64 2]) ∧ Below w.heap.size w w' :=
  index_bad 3 3 s (by omega) (by omega) (by omega) w
theorem index_one (s : List Nat) (hs : Rt s) (w : World) (hT : Tabs w) :
    Calls Tryd.prog 7 #[.int .u64 0, .int .u64 1, .agg (nums .u8 s)] w fun e w' => e = .returned (.tuple #[.int .u64 0, .int .i64 0]) ∧ Below w.heap.size w w' := by
  have h0 : ∀ n i, n = 1 → i = 0 → ix s n 5 i = 0 := fun n i hn hi => by
    have := ix_lt s 5 (show i < n by omega)
    rw [hn] at this ⊢
    exact Nat.lt_one_iff.1 this
  have h : ∀ n i : Nat, n = 1 → i = 0 → Calls Tryd.prog 7 #[.int .u64 i, .int .u64 n, .agg (nums .u8 s)] w fun e w' => e = .returned (.tuple #[.int .u64 ((0 : Nat) : Int), .int .i64 0]) ∧ Below w.heap.size w w' := fun n i hn hi => by
    have h := index_ok i n s hs (by omega) (by omega) w hT
    rw [h0 n i hn hi] at h
    exact h
  exact h 1 0 rfl rfl
theorem list_three (s : List Nat) (hs : Rt s) (w : World) (hT : Tabs w) :
    Calls Tryd.prog 9 #[.int .u64 3, .agg (nums .u8 s)] w fun e w' => (∃ g, e = .returned (.tuple #[.slice (some ⟨g, 0, none⟩) 3 3, .int .i64 0])) ∧ Below w.heap.size w w' := by
  have h : ∀ n : Nat, n = 3 → Calls Tryd.prog 9 #[.int .u64 n, .agg (nums .u8 s)] w fun e w' => (∃ g, e = .returned (.tuple #[.slice (some ⟨g, 0, none⟩) n n, .int .i64 0])) ∧ Below w.heap.size w w' := fun n hn =>
    (list_ok n s hs (by omega) w hT).mono fun e w' ⟨g, _, he, _, hb⟩ => ⟨⟨g, he⟩, hb⟩
  exact h 3 rfl

set_option maxHeartbeats 1000000 in
theorem awake_any (w : World) (hT : Tabs w) : Calls Tryd.prog 6 #[] w fun e w' => e = .returned (.bool true) ∧ Below w.heap.size w w' := by
  have h7 := lone_rt 7 (by decide)
  have h9 := lone_rt 9 (by decide)
  obtain ⟨Z, hZ⟩ := built_state
  obtain ⟨k7, hk7⟩ : ∃ k, Same (7 :: zeros 31) k := ⟨_, ⟨rfl⟩⟩
  obtain ⟨k9, hk9⟩ : ∃ k, Same (9 :: zeros 31) k := ⟨_, ⟨rfl⟩⟩
  rw [hk7.out] at h7
  rw [hk9.out] at h9
  have HI := hid (fun wq hq => index_one k7 h7 wq hq)
  have HB := hid (fun (wq : World) => index_three (zeros 32) wq)
  have HL := hid (fun wq hq => list_three k9 h9 wq hq)
  have HN := hid (fun wq => nobody_any Z (zeros 32) wq)
  have HZ : Same _ _ := ⟨hZ⟩
  have hTT := hid hT
  clear hT hZ
  go_enter Tryd.func6, Tryd.ntmps6
  go_wp2_with (refine wpList_build_has rfl 24 #[(0, .const (.int .u8 7))] rfl .u8 k7 (by rw [← hk7.out]; kernel_rfl) ?_)
  refine (HI.out _ hTT.out).mono ?_
  rintro e w1 ⟨rfl, B1⟩
  go_wp2_with (refine wpList_build_has rfl 24 #[] rfl .u8 (zeros 32) (by kernel_rfl) ?_)
  refine (HB.out _).mono ?_
  rintro e w2 ⟨rfl, B2⟩
  have HB2 := hid (below_more B1 B2 (Nat.le_refl _))
  clear B1 B2
  go_wp2_with (first
    | (refine wpList_build_none rfl 52 rfl Z HZ.out ?_)
    | (refine wpList_build_has rfl 24 #[] rfl .u8 (zeros 32) (by kernel_rfl) ?_))
  refine (HN.out _).mono ?_
  rintro e w3 ⟨rfl, B3⟩
  have HB3 := hid (below_more HB2.out B3 (Nat.le_refl _))
  clear B3
  go_wp2_with (refine wpList_build_has rfl 24 #[(0, .const (.int .u8 9))] rfl .u8 k9 (by rw [← hk9.out]; kernel_rfl) ?_)
  refine (HL.out _ (hTT.out.keep HB3.out)).mono ?_
  rintro e w4 ⟨⟨g, rfl⟩, B4⟩
  have HB4 := hid (below_more HB3.out B4 (Nat.le_refl _))
  clear B4
  go_wp2
  go_ret
  exact ⟨rfl, HB4.out⟩
end Go.Proofs.YtibblghdemmkjaaDoor
