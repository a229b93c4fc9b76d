/- The bytes of the state that is zero: how many. -/
import Derived.Test.YtpaamhmighgjeaaGreatLst5
import Derived.Test.YtpaamhmighgjeaaGreatFlowG
import Derived.Test.YtpaamhmighgjeaaGreatRunOps
import Derived.Test.YtpaamhmighgjeaaGreatBitsP
namespace Go.Proofs.YtpaamhmighgjeaaGreat
open Go.RowKit Go.Shelf
set_option linter.unusedVariables false
set_option linter.unusedSimpArgs false
set_option maxRecDepth 100000

theorem mid_of {cs ds : List Value} {off : Nat} (h : (cs.drop off).take ds.length = ds) : ∀ (j : Nat) v, ds[j]? = some v → cs[off + j]? = some v := by
  intro j v hv
  rw [← h, List.getElem?_take] at hv
  split at hv
  · rw [List.getElem?_drop] at hv; exact hv
  · cases hv
def hd0 : List Value := hdC 0 0 (zeros 32) (zeros 32) (zeros 32)
def eth0 : List Value := ethC (zeros 32) 0
def cp0 : List Value := cpC 0 (zeros 32)
/-- The zero state's cells. -/
def zSt : List Value := [.int .u64 0] ++ hd0 ++ cellsB (zeros 512) ++ cellsB (zeros 512) ++ eth0 ++ [.slice none 0 0, .int .u64 0, .slice none 0 0, .slice none 0 0] ++ cellsB (zeros 256) ++ List.replicate 8 (.int .u64 0) ++ [.slice none 0 0, .slice none 0 0] ++ List.replicate 4 (.bool false) ++ cp0 ++ cp0 ++ cp0
structure ZSt (cs : List Value) : Prop where
  c0 : cs[0]? = some (.int .u64 0)
  hd : ∀ (j : Nat) v, hd0[j]? = some v → cs[1 + j]? = some v
  br : ∀ (j : Nat) v, (cellsB (zeros 512))[j]? = some v → cs[99 + j]? = some v
  sr : ∀ (j : Nat) v, (cellsB (zeros 512))[j]? = some v → cs[611 + j]? = some v
  eth : ∀ (j : Nat) v, eth0[j]? = some v → cs[1123 + j]? = some v
  c1156 : cs[1156]? = some (.slice none 0 0)
  c1157 : cs[1157]? = some (.int .u64 0)
  c1158 : cs[1158]? = some (.slice none 0 0)
  c1159 : cs[1159]? = some (.slice none 0 0)
  mx : ∀ (j : Nat) v, (cellsB (zeros 256))[j]? = some v → cs[1160 + j]? = some v
  fn : ∀ (j : Nat), j < 8 → cs[1416 + j]? = some (.int .u64 0)
  c1424 : cs[1424]? = some (.slice none 0 0)
  c1425 : cs[1425]? = some (.slice none 0 0)
  bt : ∀ (j : Nat), j < 4 → cs[1426 + j]? = some (.bool false)
  p1 : ∀ (j : Nat) v, cp0[j]? = some v → cs[1430 + j]? = some v
  p2 : ∀ (j : Nat) v, cp0[j]? = some v → cs[1463 + j]? = some v
  p3 : ∀ (j : Nat) v, cp0[j]? = some v → cs[1496 + j]? = some v
theorem zSt_ok : ZSt zSt := by
  refine ⟨by kernel_rfl, mid_of (by kernel_rfl), mid_of (by kernel_rfl), mid_of (by kernel_rfl), mid_of (by kernel_rfl), by kernel_rfl, by kernel_rfl, by kernel_rfl, by kernel_rfl, mid_of (by kernel_rfl), fun j hj => ?_, by kernel_rfl, by kernel_rfl, fun j hj => ?_, mid_of (by kernel_rfl), mid_of (by kernel_rfl), mid_of (by kernel_rfl)⟩
  · have h : ∀ (j : Nat) v, (List.replicate 8 (Value.int .u64 0))[j]? = some v → zSt[1416 + j]? = some v := mid_of (by kernel_rfl)
    exact h j _ (by rw [List.getElem?_replicate, if_pos hj])
  · have h : ∀ (j : Nat) v, (List.replicate 4 (Value.bool false))[j]? = some v → zSt[1426 + j]? = some v := mid_of (by kernel_rfl)
    exact h j _ (by rw [List.getElem?_replicate, if_pos hj])
theorem tyHd : Ty Tryz.prog 63 hd0 := ⟨by kernel_rfl, _, Tryz.underlying63, rfl⟩
theorem tyEh : Ty Tryz.prog 66 eth0 := ⟨by kernel_rfl, _, Tryz.underlying66, rfl⟩
theorem zSt_built : ∃ cs : List Value, Tryz.prog.built 74 [] = some cs.toArray ∧ ZSt cs := ⟨zSt, by kernel_rfl, zSt_ok⟩
structure SAt (w wk : World) (gst g : Nat) (cs : List Value) (fs : List (List Nat × Bool)) : Prop where
  hx : HasC wk gst 74 cs
  hw : ∃ S, Wr wk g S fs
  bl : Below w.heap.size w wk
theorem SAt.step {w wk w' : World} {gst g : Nat} {cs : List Value} {fs F : List (List Nat × Bool)} {S : Nat → Prop} (h : SAt w wk gst g cs fs) (hne : gst ≠ g) (hg : w.heap.size ≤ g) (q1 : Wr w' g S (fs ++ F)) (q2 : wk.grownBy w' (some g)) : SAt w w' gst g cs (fs ++ F) :=
  ⟨h.hx.grown q2 hne, ⟨S, q1⟩, h.bl.grown q2 h.bl.size (fun j hj => by cases hj; exact hg)⟩
theorem SAt.below {w wk w' : World} {gst g : Nat} {cs : List Value} {fs : List (List Nat × Bool)} (h : SAt w wk gst g cs fs) (hb : Below wk.heap.size wk w') : SAt w w' gst g cs fs := by
  obtain ⟨S, hW⟩ := h.hw
  exact ⟨h.hx.keep hb, ⟨S, hW.below hb⟩, below_more h.bl hb (Nat.le_refl _)⟩
theorem SAt.roots {w wk : World} {gst g : Nat} {cs : List Value} {fs : List (List Nat × Bool)} (h : SAt w wk gst g cs fs) (off n m : Nat) (hm : m = n * 32) (hc : ∀ (j : Nat) v, (cellsB (zeros m))[j]? = some v → cs[off + j]? = some v) : RsAt wk gst off (List.replicate n (zeros 32)) := by
  refine ⟨h.hx.lt, fun k hk j v hv => h.hx.cell ?_⟩
  rw [List.length_replicate] at hk
  have e : (List.replicate n (zeros 32)).getD k [] = zeros 32 := by simp [List.getD_eq_getElem?_getD, hk]
  rw [e] at hv
  obtain ⟨hj, rfl⟩ := cellsB_get _ j v hv
  rw [zeros_length] at hj
  rw [Nat.add_assoc]
  refine hc (k * 32 + j) _ ?_
  have h2 : k * 32 + j < m := by omega
  have z1 : ∀ (n i : Nat), i < n → (zeros n).getD i 0 = 0 := fun n i hi => by unfold zeros; rw [List.getD_eq_getElem?_getD, List.getElem?_replicate, if_pos hi]; rfl
  rw [z1 32 j hj]
  unfold cellsB zeros
  rw [List.getElem?_map, List.getElem?_replicate, if_pos h2]
  rfl

set_option maxHeartbeats 8000000 in
theorem state0_any (cs : List Value) (hz : ZSt cs) (w : World) :
    Calls Tryz.prog 19 #[.agg cs.toArray] w fun e w' => ∃ v bs, e = .returned v ∧ Row w' w.heap.size v bs ∧ bs.length = 1653 ∧ Below w.heap.size w w' := by
  have HZ := hid hz
  have c0 := hz.c0
  clear hz
  go_enter Tryz.func19, Tryz.ntmps19
  go_wp2_with ((with_reducible refine at_list' ?_); first
    | (refine wpList_box_c rfl 1 rfl (.tmp 0) rfl cs rfl ?_; intro w1 H1 B1 S1; have c0w := H1.cell c0))
  have BA : Below w1.heap.size w1 (w1.alloc (.cells #[.int .i64 0, .pointer none] 84)) := (Below.refl _ w1).alloc (Nat.le_refl _) _
  have WA := wr_new w1
  have XA := H1.keep BA
  rw [S1] at WA
  have SZ2 : (w1.alloc (.cells #[.int .i64 0, .pointer none] 84)).heap.size = w.heap.size + 1 + 1 := by rw [World.size_alloc, S1]
  generalize w1.alloc (.cells #[.int .i64 0, .pointer none] 84) = v2 at *
  have Z2 : Hid (SAt w v2 w.heap.size (w.heap.size + 1) cs ([] : List (List Nat × Bool))) := hid ⟨XA, ⟨_, WA⟩, B1.trans (BA.mono (by omega))⟩
  clear H1 B1 S1 BA WA XA c0w c0
  rw [← SZ2]
  clear SZ2
  have BA : Below v2.heap.size v2 (v2.alloc (.cells #[.int .u64 0] 23)) := (Below.refl _ v2).alloc (Nat.le_refl _) _
  have HA := heap_alloc_new v2 (.cells #[.int .u64 0] 23)
  have hne : w.heap.size + 1 < v2.heap.size := by obtain ⟨S, hW⟩ := Z2.out.hw; exact hW.gt
  have Z3 := hid (Z2.out.below BA)
  generalize v2.alloc (.cells #[.int .u64 0] 23) = v3 at *
  clear BA
  obtain ⟨S3, W3⟩ := Z3.out.hw
  refine (num_wr (w.heap.size + 1) S3 ([] : List (List Nat × Bool)) [0] v2.heap.size 0 1 v3 W3 (by omega) (by simp [numF, rootF, hdF, ethF, cpF]) (by simp) (fun i hi => by obtain rfl : i = 0 := (by simpa using hi); exact cell_of_row v3 _ 0 _ _ (0, 0) HA) (by simp)).mono ?_
  rintro x v4 ⟨⟨u4, rfl⟩, q1, q2⟩
  have Z4 : Hid (SAt w v4 w.heap.size (w.heap.size + 1) cs (([] : List (List Nat × Bool)) ++ numF [0])) := hid (Z3.out.step (by omega) (by omega) q1 q2)
  clear q1 q2 Z3
  go_wp2_with ((with_reducible refine at_list' ?_); first
    | (refine wpList_mid_c tyHd rfl (.tmp 8) rfl w.heap.size 1 74 cs hd0 (by exact rfl) rfl Z4.out.hx HZ.out.hd ?_))
  obtain ⟨S4, W4⟩ := Z4.out.hw
  refine (putHd_any (w.heap.size + 1) S4 (([] : List (List Nat × Bool)) ++ numF [0]) 0 0 (zeros 32) (zeros 32) (zeros 32) v4 W4 (by simp [numF, rootF, hdF, ethF, cpF]) (by decide) (by decide) (zeros_length 32) (fun z hz => by unfold zeros at hz; rw [(List.mem_replicate.1 hz).2]; decide) (zeros_length 32) (fun z hz => by unfold zeros at hz; rw [(List.mem_replicate.1 hz).2]; decide) (zeros_length 32) (fun z hz => by unfold zeros at hz; rw [(List.mem_replicate.1 hz).2]; decide)).mono ?_
  rintro x v5 ⟨⟨u5, rfl⟩, q1, q2⟩
  have Z5 : Hid (SAt w v5 w.heap.size (w.heap.size + 1) cs ((([] : List (List Nat × Bool)) ++ numF [0]) ++ hdF 0 0 (zeros 32) (zeros 32) (zeros 32))) := hid (Z4.out.step (by omega) (by omega) q1 q2)
  clear q1 q2 Z4
  go_wp2_with fail
  obtain ⟨S5, W5⟩ := Z5.out.hw
  have HC := roots_wr (w.heap.size + 1) S5 ((([] : List (List Nat × Bool)) ++ numF [0]) ++ hdF 0 0 (zeros 32) (zeros 32) (zeros 32)) (List.replicate 16 (zeros 32)) w.heap.size 99 16 v5 W5 (by omega) (by simp [numF, rootF, hdF, ethF, cpF]) (fun r hr => by rw [(List.mem_replicate.1 hr).2]; exact zeros_length 32) (fun r hr z hz => by rw [(List.mem_replicate.1 hr).2] at hz; unfold zeros at hz; rw [(List.mem_replicate.1 hz).2]; decide) (Z5.out.roots 99 16 512 rfl HZ.out.br) (by simp)
  rw [List.length_replicate] at HC
  refine (HC).mono ?_
  rintro x v6 ⟨⟨u6, rfl⟩, q1, q2⟩
  clear HC
  have Z6 : Hid (SAt w v6 w.heap.size (w.heap.size + 1) cs (((([] : List (List Nat × Bool)) ++ numF [0]) ++ hdF 0 0 (zeros 32) (zeros 32) (zeros 32)) ++ rootF (List.replicate 16 (zeros 32)))) := hid (Z5.out.step (by omega) (by omega) q1 q2)
  clear q1 q2 Z5
  go_wp2_with fail
  obtain ⟨S6, W6⟩ := Z6.out.hw
  have HC := roots_wr (w.heap.size + 1) S6 (((([] : List (List Nat × Bool)) ++ numF [0]) ++ hdF 0 0 (zeros 32) (zeros 32) (zeros 32)) ++ rootF (List.replicate 16 (zeros 32))) (List.replicate 16 (zeros 32)) w.heap.size 611 16 v6 W6 (by omega) (by simp [numF, rootF, hdF, ethF, cpF]) (fun r hr => by rw [(List.mem_replicate.1 hr).2]; exact zeros_length 32) (fun r hr z hz => by rw [(List.mem_replicate.1 hr).2] at hz; unfold zeros at hz; rw [(List.mem_replicate.1 hz).2]; decide) (Z6.out.roots 611 16 512 rfl HZ.out.sr) (by simp)
  rw [List.length_replicate] at HC
  refine (HC).mono ?_
  rintro x v7 ⟨⟨u7, rfl⟩, q1, q2⟩
  clear HC
  have Z7 : Hid (SAt w v7 w.heap.size (w.heap.size + 1) cs ((((([] : List (List Nat × Bool)) ++ numF [0]) ++ hdF 0 0 (zeros 32) (zeros 32) (zeros 32)) ++ rootF (List.replicate 16 (zeros 32))) ++ rootF (List.replicate 16 (zeros 32)))) := hid (Z6.out.step (by omega) (by omega) q1 q2)
  clear q1 q2 Z6
  go_wp2_with ((with_reducible refine at_list' ?_); first
    | (refine wpList_mid_c tyEh rfl (.tmp 17) rfl w.heap.size 1123 74 cs eth0 (by exact rfl) rfl Z7.out.hx HZ.out.eth ?_))
  obtain ⟨S7, W7⟩ := Z7.out.hw
  refine (putEth_any (w.heap.size + 1) S7 ((((([] : List (List Nat × Bool)) ++ numF [0]) ++ hdF 0 0 (zeros 32) (zeros 32) (zeros 32)) ++ rootF (List.replicate 16 (zeros 32))) ++ rootF (List.replicate 16 (zeros 32))) (zeros 32) 0 v7 W7 (by simp [numF, rootF, hdF, ethF, cpF]) (by decide) (zeros_length 32) (fun z hz => by unfold zeros at hz; rw [(List.mem_replicate.1 hz).2]; decide)).mono ?_
  rintro x v8 ⟨⟨u8, rfl⟩, q1, q2⟩
  have Z8 : Hid (SAt w v8 w.heap.size (w.heap.size + 1) cs (((((([] : List (List Nat × Bool)) ++ numF [0]) ++ hdF 0 0 (zeros 32) (zeros 32) (zeros 32)) ++ rootF (List.replicate 16 (zeros 32))) ++ rootF (List.replicate 16 (zeros 32))) ++ ethF (zeros 32) 0)) := hid (Z7.out.step (by omega) (by omega) q1 q2)
  clear q1 q2 Z7
  go_wp2_with fail
  refine wp_region_flow 4 4 (fun i v wq => match i with
    | 0 => v = .agg ([.int .i64 40, .int .i64 8, .func (.func 93) #[] #[], .func (.func 95) #[] #[]] : List Value).toArray
    | 1 => v = .pointer (some ⟨w.heap.size, 1156, none⟩)
    | 2 => v = .slice none 0 0
    | _ => IsB wq v []) (by kernel_rfl) (by kernel_rfl) (fun _ d _ _ _ h => by cases d <;> exact h) ?_ ?_ ?_ ?_
  · intro i v wq wq' hi hv hb
    match i, hi with
    | 0, _ => exact hv
    | 1, _ => exact hv
    | 2, _ => exact hv
    | 3, _ => exact hv.keep hb
    | (k + 4), hk => exact absurd hk (by omega)
  · intro i o hi ho aq wq hc hk hdep
    match i, hi with
    | 0, _ =>
      cases ho
      refine flow_fun 53 _ _ rfl (fun _ _ => by simp [go_sem]) #[] (by simp [Act.eval]) ?_
      refine (lstEth wq).mono ?_
      rintro e w' ⟨rfl, B⟩
      exact ⟨_, rfl, rfl, B⟩
    | 1, _ =>
      cases ho
      exact flow_value _ (run_fieldAt 74 (.tmp 1) 5 rfl (.pointer (some ⟨w.heap.size, 0, none⟩)) (.pointer (some ⟨w.heap.size, 1156, none⟩)) (by simpa [Act.eval] using hk 1 (by decide)) (by kernel_rfl)) rfl
    | 2, _ =>
      cases ho
      have ea : aq.tmps.getD 21 undef = .pointer (some ⟨w.heap.size, 1156, none⟩) := hdep 1 21 rfl (by kernel_rfl)
      exact flow_value _ (run_cell 67 (.tmp 21) rfl ⟨w.heap.size, 1156, none⟩ (by simpa [Act.eval] using ea) _ ((Z8.out.below hc.bel).hx.cell HZ.out.c1156) _ Tryz.underlying67 rfl) rfl
    | 3, _ =>
      cases ho
      have ea : aq.tmps.getD 20 undef = .agg ([.int .i64 40, .int .i64 8, .func (.func 93) #[] #[], .func (.func 95) #[] #[]] : List Value).toArray := hdep 0 20 rfl (by kernel_rfl)
      have eb : aq.tmps.getD 22 undef = .slice none 0 0 := hdep 2 22 rfl (by kernel_rfl)
      refine flow_fun 54 _ _ rfl (fun _ _ => by simp [go_sem]) #[.agg ([.int .i64 40, .int .i64 8, .func (.func 93) #[] #[], .func (.func 95) #[] #[]] : List Value).toArray, .slice none 0 0] (by rw [show (#[Operand.tmp 20, Operand.tmp 22] : Array Operand).map aq.eval = #[aq.tmps.getD 20 undef, aq.tmps.getD 22 undef] from by simp [Act.eval], ea, eb]) ?_
      refine (enc0Eth _ _ _ _ (by decide) wq).mono ?_
      rintro e w' ⟨v, rfl, R, B⟩
      exact ⟨_, rfl, R.isB (fun z hz => by simp at hz), B⟩
    | (k + 4), hk => exact absurd hk (by omega)
  · intro o h4 ho
    omega
  intro vf v9 hc hv
  have e3 : IsB v9 (vf 3) [] := hv 3 23 (by decide) rfl
  clear hv
  simp only [List.take_succ_cons, List.take_zero, List.drop_succ_cons, List.drop_zero, putAll, Act.put, List.setIfInBounds_toArray, List.set_cons_succ, List.set_cons_zero]
  have Z9 := hid (Z8.out.below hc.bel)
  clear hc
  obtain ⟨S9, W9⟩ := Z9.out.hw
  go_wp2_with fail
  refine (part_wr (w.heap.size + 1) S9 (((((([] : List (List Nat × Bool)) ++ numF [0]) ++ hdF 0 0 (zeros 32) (zeros 32) (zeros 32)) ++ rootF (List.replicate 16 (zeros 32))) ++ rootF (List.replicate 16 (zeros 32))) ++ ethF (zeros 32) 0) (vf 3) [] v9 W9 e3 (by simp [numF, rootF, hdF, ethF, cpF]) (by simp)).mono ?_
  rintro x v10 ⟨⟨u10, rfl⟩, q1, q2⟩
  clear e3
  have Z10 : Hid (SAt w v10 w.heap.size (w.heap.size + 1) cs ((((((([] : List (List Nat × Bool)) ++ numF [0]) ++ hdF 0 0 (zeros 32) (zeros 32) (zeros 32)) ++ rootF (List.replicate 16 (zeros 32))) ++ rootF (List.replicate 16 (zeros 32))) ++ ethF (zeros 32) 0) ++ [([], true)])) := hid (Z9.out.step (by omega) (by omega) q1 q2)
  clear q1 q2 Z9
  have cd := Z10.out.hx.cell HZ.out.c1157
  go_wp2_with fail
  clear cd
  have BA : Below v10.heap.size v10 (v10.alloc (.cells #[.int .u64 0] 23)) := (Below.refl _ v10).alloc (Nat.le_refl _) _
  have HA := heap_alloc_new v10 (.cells #[.int .u64 0] 23)
  have hne : w.heap.size + 1 < v10.heap.size := by obtain ⟨S, hW⟩ := Z10.out.hw; exact hW.gt
  have Z11 := hid (Z10.out.below BA)
  generalize v10.alloc (.cells #[.int .u64 0] 23) = v11 at *
  clear BA
  obtain ⟨S11, W11⟩ := Z11.out.hw
  refine (num_wr (w.heap.size + 1) S11 ((((((([] : List (List Nat × Bool)) ++ numF [0]) ++ hdF 0 0 (zeros 32) (zeros 32) (zeros 32)) ++ rootF (List.replicate 16 (zeros 32))) ++ rootF (List.replicate 16 (zeros 32))) ++ ethF (zeros 32) 0) ++ [([], true)]) [0] v10.heap.size 0 1 v11 W11 (by omega) (by simp [numF, rootF, hdF, ethF, cpF]) (by simp) (fun i hi => by obtain rfl : i = 0 := (by simpa using hi); exact cell_of_row v11 _ 0 _ _ (0, 0) HA) (by simp)).mono ?_
  rintro x v12 ⟨⟨u12, rfl⟩, q1, q2⟩
  have Z12 : Hid (SAt w v12 w.heap.size (w.heap.size + 1) cs (((((((([] : List (List Nat × Bool)) ++ numF [0]) ++ hdF 0 0 (zeros 32) (zeros 32) (zeros 32)) ++ rootF (List.replicate 16 (zeros 32))) ++ rootF (List.replicate 16 (zeros 32))) ++ ethF (zeros 32) 0) ++ [([], true)]) ++ numF [0])) := hid (Z11.out.step (by omega) (by omega) q1 q2)
  clear q1 q2 Z11
  go_wp2_with fail
  refine wp_region_flow 4 4 (fun i v wq => match i with
    | 0 => v = .agg ([.int .i64 105, .int .i64 32, .func (.func 99) #[] #[], .func (.func 100) #[] #[]] : List Value).toArray
    | 1 => v = .pointer (some ⟨w.heap.size, 1158, none⟩)
    | 2 => v = .slice none 0 0
    | _ => IsB wq v []) (by kernel_rfl) (by kernel_rfl) (fun _ d _ _ _ h => by cases d <;> exact h) ?_ ?_ ?_ ?_
  · intro i v wq wq' hi hv hb
    match i, hi with
    | 0, _ => exact hv
    | 1, _ => exact hv
    | 2, _ => exact hv
    | 3, _ => exact hv.keep hb
    | (k + 4), hk => exact absurd hk (by omega)
  · intro i o hi ho aq wq hc hk hdep
    match i, hi with
    | 0, _ =>
      cases ho
      refine flow_fun 55 _ _ rfl (fun _ _ => by simp [go_sem]) #[] (by simp [Act.eval]) ?_
      refine (lstVal wq).mono ?_
      rintro e w' ⟨rfl, B⟩
      exact ⟨_, rfl, rfl, B⟩
    | 1, _ =>
      cases ho
      exact flow_value _ (run_fieldAt 74 (.tmp 1) 7 rfl (.pointer (some ⟨w.heap.size, 0, none⟩)) (.pointer (some ⟨w.heap.size, 1158, none⟩)) (by simpa [Act.eval] using hk 1 (by decide)) (by kernel_rfl)) rfl
    | 2, _ =>
      cases ho
      have ea : aq.tmps.getD 30 undef = .pointer (some ⟨w.heap.size, 1158, none⟩) := hdep 1 30 rfl (by kernel_rfl)
      exact flow_value _ (run_cell 68 (.tmp 30) rfl ⟨w.heap.size, 1158, none⟩ (by simpa [Act.eval] using ea) _ ((Z12.out.below hc.bel).hx.cell HZ.out.c1158) _ Tryz.underlying68 rfl) rfl
    | 3, _ =>
      cases ho
      have ea : aq.tmps.getD 29 undef = .agg ([.int .i64 105, .int .i64 32, .func (.func 99) #[] #[], .func (.func 100) #[] #[]] : List Value).toArray := hdep 0 29 rfl (by kernel_rfl)
      have eb : aq.tmps.getD 31 undef = .slice none 0 0 := hdep 2 31 rfl (by kernel_rfl)
      refine flow_fun 56 _ _ rfl (fun _ _ => by simp [go_sem]) #[.agg ([.int .i64 105, .int .i64 32, .func (.func 99) #[] #[], .func (.func 100) #[] #[]] : List Value).toArray, .slice none 0 0] (by rw [show (#[Operand.tmp 29, Operand.tmp 31] : Array Operand).map aq.eval = #[aq.tmps.getD 29 undef, aq.tmps.getD 31 undef] from by simp [Act.eval], ea, eb]) ?_
      refine (enc0Val _ _ _ _ (by decide) wq).mono ?_
      rintro e w' ⟨v, rfl, R, B⟩
      exact ⟨_, rfl, R.isB (fun z hz => by simp at hz), B⟩
    | (k + 4), hk => exact absurd hk (by omega)
  · intro o h4 ho
    omega
  intro vf v13 hc hv
  have e3 : IsB v13 (vf 3) [] := hv 3 32 (by decide) rfl
  clear hv
  simp only [List.take_succ_cons, List.take_zero, List.drop_succ_cons, List.drop_zero, putAll, Act.put, List.setIfInBounds_toArray, List.set_cons_succ, List.set_cons_zero]
  have Z13 := hid (Z12.out.below hc.bel)
  clear hc
  obtain ⟨S13, W13⟩ := Z13.out.hw
  go_wp2_with fail
  refine (part_wr (w.heap.size + 1) S13 (((((((([] : List (List Nat × Bool)) ++ numF [0]) ++ hdF 0 0 (zeros 32) (zeros 32) (zeros 32)) ++ rootF (List.replicate 16 (zeros 32))) ++ rootF (List.replicate 16 (zeros 32))) ++ ethF (zeros 32) 0) ++ [([], true)]) ++ numF [0]) (vf 3) [] v13 W13 e3 (by simp [numF, rootF, hdF, ethF, cpF]) (by simp)).mono ?_
  rintro x v14 ⟨⟨u14, rfl⟩, q1, q2⟩
  clear e3
  have Z14 : Hid (SAt w v14 w.heap.size (w.heap.size + 1) cs ((((((((([] : List (List Nat × Bool)) ++ numF [0]) ++ hdF 0 0 (zeros 32) (zeros 32) (zeros 32)) ++ rootF (List.replicate 16 (zeros 32))) ++ rootF (List.replicate 16 (zeros 32))) ++ ethF (zeros 32) 0) ++ [([], true)]) ++ numF [0]) ++ [([], true)])) := hid (Z13.out.step (by omega) (by omega) q1 q2)
  clear q1 q2 Z13
  go_wp2_with fail
  refine wp_region_flow 4 4 (fun i v wq => match i with
    | 0 => v = .agg ([.int .i64 8, .int .i64 32, .func (.func 65) #[] #[], .func (.func 68) #[] #[]] : List Value).toArray
    | 1 => v = .pointer (some ⟨w.heap.size, 1159, none⟩)
    | 2 => v = .slice none 0 0
    | _ => IsB wq v []) (by kernel_rfl) (by kernel_rfl) (fun _ d _ _ _ h => by cases d <;> exact h) ?_ ?_ ?_ ?_
  · intro i v wq wq' hi hv hb
    match i, hi with
    | 0, _ => exact hv
    | 1, _ => exact hv
    | 2, _ => exact hv
    | 3, _ => exact hv.keep hb
    | (k + 4), hk => exact absurd hk (by omega)
  · intro i o hi ho aq wq hc hk hdep
    match i, hi with
    | 0, _ =>
      cases ho
      refine flow_fun 26 _ _ rfl (fun _ _ => by simp [go_sem]) #[.int .i64 32] (by simp [Act.eval]) ?_
      refine (lstNum wq).mono ?_
      rintro e w' ⟨rfl, B⟩
      exact ⟨_, rfl, rfl, B⟩
    | 1, _ =>
      cases ho
      exact flow_value _ (run_fieldAt 74 (.tmp 1) 8 rfl (.pointer (some ⟨w.heap.size, 0, none⟩)) (.pointer (some ⟨w.heap.size, 1159, none⟩)) (by simpa [Act.eval] using hk 1 (by decide)) (by kernel_rfl)) rfl
    | 2, _ =>
      cases ho
      have ea : aq.tmps.getD 35 undef = .pointer (some ⟨w.heap.size, 1159, none⟩) := hdep 1 35 rfl (by kernel_rfl)
      exact flow_value _ (run_cell 22 (.tmp 35) rfl ⟨w.heap.size, 1159, none⟩ (by simpa [Act.eval] using ea) _ ((Z14.out.below hc.bel).hx.cell HZ.out.c1159) _ Tryz.underlying22 rfl) rfl
    | 3, _ =>
      cases ho
      have ea : aq.tmps.getD 34 undef = .agg ([.int .i64 8, .int .i64 32, .func (.func 65) #[] #[], .func (.func 68) #[] #[]] : List Value).toArray := hdep 0 34 rfl (by kernel_rfl)
      have eb : aq.tmps.getD 36 undef = .slice none 0 0 := hdep 2 36 rfl (by kernel_rfl)
      refine flow_fun 27 _ _ rfl (fun _ _ => by simp [go_sem]) #[.agg ([.int .i64 8, .int .i64 32, .func (.func 65) #[] #[], .func (.func 68) #[] #[]] : List Value).toArray, .slice none 0 0] (by rw [show (#[Operand.tmp 34, Operand.tmp 36] : Array Operand).map aq.eval = #[aq.tmps.getD 34 undef, aq.tmps.getD 36 undef] from by simp [Act.eval], ea, eb]) ?_
      refine (enc0Num _ _ _ _ (by decide) wq).mono ?_
      rintro e w' ⟨v, rfl, R, B⟩
      exact ⟨_, rfl, R.isB (fun z hz => by simp at hz), B⟩
    | (k + 4), hk => exact absurd hk (by omega)
  · intro o h4 ho
    omega
  intro vf v15 hc hv
  have e3 : IsB v15 (vf 3) [] := hv 3 37 (by decide) rfl
  clear hv
  simp only [List.take_succ_cons, List.take_zero, List.drop_succ_cons, List.drop_zero, putAll, Act.put, List.setIfInBounds_toArray, List.set_cons_succ, List.set_cons_zero]
  have Z15 := hid (Z14.out.below hc.bel)
  clear hc
  obtain ⟨S15, W15⟩ := Z15.out.hw
  go_wp2_with fail
  refine (part_wr (w.heap.size + 1) S15 ((((((((([] : List (List Nat × Bool)) ++ numF [0]) ++ hdF 0 0 (zeros 32) (zeros 32) (zeros 32)) ++ rootF (List.replicate 16 (zeros 32))) ++ rootF (List.replicate 16 (zeros 32))) ++ ethF (zeros 32) 0) ++ [([], true)]) ++ numF [0]) ++ [([], true)]) (vf 3) [] v15 W15 e3 (by simp [numF, rootF, hdF, ethF, cpF]) (by simp)).mono ?_
  rintro x v16 ⟨⟨u16, rfl⟩, q1, q2⟩
  clear e3
  have Z16 : Hid (SAt w v16 w.heap.size (w.heap.size + 1) cs (((((((((([] : List (List Nat × Bool)) ++ numF [0]) ++ hdF 0 0 (zeros 32) (zeros 32) (zeros 32)) ++ rootF (List.replicate 16 (zeros 32))) ++ rootF (List.replicate 16 (zeros 32))) ++ ethF (zeros 32) 0) ++ [([], true)]) ++ numF [0]) ++ [([], true)]) ++ [([], true)])) := hid (Z15.out.step (by omega) (by omega) q1 q2)
  clear q1 q2 Z15
  go_wp2_with fail
  obtain ⟨S16, W16⟩ := Z16.out.hw
  have HC := roots_wr (w.heap.size + 1) S16 (((((((((([] : List (List Nat × Bool)) ++ numF [0]) ++ hdF 0 0 (zeros 32) (zeros 32) (zeros 32)) ++ rootF (List.replicate 16 (zeros 32))) ++ rootF (List.replicate 16 (zeros 32))) ++ ethF (zeros 32) 0) ++ [([], true)]) ++ numF [0]) ++ [([], true)]) ++ [([], true)]) (List.replicate 8 (zeros 32)) w.heap.size 1160 8 v16 W16 (by omega) (by simp [numF, rootF, hdF, ethF, cpF]) (fun r hr => by rw [(List.mem_replicate.1 hr).2]; exact zeros_length 32) (fun r hr z hz => by rw [(List.mem_replicate.1 hr).2] at hz; unfold zeros at hz; rw [(List.mem_replicate.1 hz).2]; decide) (Z16.out.roots 1160 8 256 rfl HZ.out.mx) (by simp)
  rw [List.length_replicate] at HC
  refine (HC).mono ?_
  rintro x v17 ⟨⟨u17, rfl⟩, q1, q2⟩
  clear HC
  have Z17 : Hid (SAt w v17 w.heap.size (w.heap.size + 1) cs ((((((((((([] : List (List Nat × Bool)) ++ numF [0]) ++ hdF 0 0 (zeros 32) (zeros 32) (zeros 32)) ++ rootF (List.replicate 16 (zeros 32))) ++ rootF (List.replicate 16 (zeros 32))) ++ ethF (zeros 32) 0) ++ [([], true)]) ++ numF [0]) ++ [([], true)]) ++ [([], true)]) ++ rootF (List.replicate 8 (zeros 32)))) := hid (Z16.out.step (by omega) (by omega) q1 q2)
  clear q1 q2 Z16
  go_wp2_with fail
  obtain ⟨S17, W17⟩ := Z17.out.hw
  have HC := num_wr (w.heap.size + 1) S17 ((((((((((([] : List (List Nat × Bool)) ++ numF [0]) ++ hdF 0 0 (zeros 32) (zeros 32) (zeros 32)) ++ rootF (List.replicate 16 (zeros 32))) ++ rootF (List.replicate 16 (zeros 32))) ++ ethF (zeros 32) 0) ++ [([], true)]) ++ numF [0]) ++ [([], true)]) ++ [([], true)]) ++ rootF (List.replicate 8 (zeros 32))) (List.replicate 8 0) w.heap.size 1416 8 v17 W17 (by omega) (by simp [numF, rootF, hdF, ethF, cpF]) (by simp) (fun i hi => by rw [List.length_replicate] at hi; rw [show (List.replicate 8 0).getD i 0 = 0 by rw [List.getD_eq_getElem?_getD, List.getElem?_replicate, if_pos hi]; rfl]; exact Z17.out.hx.cell (HZ.out.fn i hi)) (by simp)
  rw [List.length_replicate] at HC
  refine (HC).mono ?_
  rintro x v18 ⟨⟨u18, rfl⟩, q1, q2⟩
  clear HC
  have Z18 : Hid (SAt w v18 w.heap.size (w.heap.size + 1) cs (((((((((((([] : List (List Nat × Bool)) ++ numF [0]) ++ hdF 0 0 (zeros 32) (zeros 32) (zeros 32)) ++ rootF (List.replicate 16 (zeros 32))) ++ rootF (List.replicate 16 (zeros 32))) ++ ethF (zeros 32) 0) ++ [([], true)]) ++ numF [0]) ++ [([], true)]) ++ [([], true)]) ++ rootF (List.replicate 8 (zeros 32))) ++ numF (List.replicate 8 0))) := hid (Z17.out.step (by omega) (by omega) q1 q2)
  clear q1 q2 Z17
  go_wp2_with fail
  refine wp_region_flow 4 4 (fun i v wq => match i with
    | 0 => v = .agg ([.int .i64 0, .int .i64 32, .func (.func 102) #[] #[], .func (.func 103) #[] #[]] : List Value).toArray
    | 1 => v = .pointer (some ⟨w.heap.size, 1424, none⟩)
    | 2 => v = .slice none 0 0
    | _ => IsB wq v []) (by kernel_rfl) (by kernel_rfl) (fun _ d _ _ _ h => by cases d <;> exact h) ?_ ?_ ?_ ?_
  · intro i v wq wq' hi hv hb
    match i, hi with
    | 0, _ => exact hv
    | 1, _ => exact hv
    | 2, _ => exact hv
    | 3, _ => exact hv.keep hb
    | (k + 4), hk => exact absurd hk (by omega)
  · intro i o hi ho aq wq hc hk hdep
    match i, hi with
    | 0, _ =>
      cases ho
      refine flow_fun 57 _ _ rfl (fun _ _ => by simp [go_sem]) #[] (by simp [Act.eval]) ?_
      refine (lstPen wq).mono ?_
      rintro e w' ⟨rfl, B⟩
      exact ⟨_, rfl, rfl, B⟩
    | 1, _ =>
      cases ho
      exact flow_value _ (run_fieldAt 74 (.tmp 1) 11 rfl (.pointer (some ⟨w.heap.size, 0, none⟩)) (.pointer (some ⟨w.heap.size, 1424, none⟩)) (by simpa [Act.eval] using hk 1 (by decide)) (by kernel_rfl)) rfl
    | 2, _ =>
      cases ho
      have ea : aq.tmps.getD 46 undef = .pointer (some ⟨w.heap.size, 1424, none⟩) := hdep 1 46 rfl (by kernel_rfl)
      exact flow_value _ (run_cell 71 (.tmp 46) rfl ⟨w.heap.size, 1424, none⟩ (by simpa [Act.eval] using ea) _ ((Z18.out.below hc.bel).hx.cell HZ.out.c1424) _ Tryz.underlying71 rfl) rfl
    | 3, _ =>
      cases ho
      have ea : aq.tmps.getD 45 undef = .agg ([.int .i64 0, .int .i64 32, .func (.func 102) #[] #[], .func (.func 103) #[] #[]] : List Value).toArray := hdep 0 45 rfl (by kernel_rfl)
      have eb : aq.tmps.getD 47 undef = .slice none 0 0 := hdep 2 47 rfl (by kernel_rfl)
      refine flow_fun 58 _ _ rfl (fun _ _ => by simp [go_sem]) #[.agg ([.int .i64 0, .int .i64 32, .func (.func 102) #[] #[], .func (.func 103) #[] #[]] : List Value).toArray, .slice none 0 0] (by rw [show (#[Operand.tmp 45, Operand.tmp 47] : Array Operand).map aq.eval = #[aq.tmps.getD 45 undef, aq.tmps.getD 47 undef] from by simp [Act.eval], ea, eb]) ?_
      refine (enc0Pen _ _ _ _ (by decide) wq).mono ?_
      rintro e w' ⟨v, rfl, R, B⟩
      exact ⟨_, rfl, R.isB (fun z hz => by simp at hz), B⟩
    | (k + 4), hk => exact absurd hk (by omega)
  · intro o h4 ho
    omega
  intro vf v19 hc hv
  have e3 : IsB v19 (vf 3) [] := hv 3 48 (by decide) rfl
  clear hv
  simp only [List.take_succ_cons, List.take_zero, List.drop_succ_cons, List.drop_zero, putAll, Act.put, List.setIfInBounds_toArray, List.set_cons_succ, List.set_cons_zero]
  have Z19 := hid (Z18.out.below hc.bel)
  clear hc
  obtain ⟨S19, W19⟩ := Z19.out.hw
  go_wp2_with fail
  refine (part_wr (w.heap.size + 1) S19 (((((((((((([] : List (List Nat × Bool)) ++ numF [0]) ++ hdF 0 0 (zeros 32) (zeros 32) (zeros 32)) ++ rootF (List.replicate 16 (zeros 32))) ++ rootF (List.replicate 16 (zeros 32))) ++ ethF (zeros 32) 0) ++ [([], true)]) ++ numF [0]) ++ [([], true)]) ++ [([], true)]) ++ rootF (List.replicate 8 (zeros 32))) ++ numF (List.replicate 8 0)) (vf 3) [] v19 W19 e3 (by simp [numF, rootF, hdF, ethF, cpF]) (by simp)).mono ?_
  rintro x v20 ⟨⟨u20, rfl⟩, q1, q2⟩
  clear e3
  have Z20 : Hid (SAt w v20 w.heap.size (w.heap.size + 1) cs ((((((((((((([] : List (List Nat × Bool)) ++ numF [0]) ++ hdF 0 0 (zeros 32) (zeros 32) (zeros 32)) ++ rootF (List.replicate 16 (zeros 32))) ++ rootF (List.replicate 16 (zeros 32))) ++ ethF (zeros 32) 0) ++ [([], true)]) ++ numF [0]) ++ [([], true)]) ++ [([], true)]) ++ rootF (List.replicate 8 (zeros 32))) ++ numF (List.replicate 8 0)) ++ [([], true)])) := hid (Z19.out.step (by omega) (by omega) q1 q2)
  clear q1 q2 Z19
  go_wp2_with fail
  refine wp_region_flow 4 4 (fun i v wq => match i with
    | 0 => v = .agg ([.int .i64 0, .int .i64 32, .func (.func 102) #[] #[], .func (.func 103) #[] #[]] : List Value).toArray
    | 1 => v = .pointer (some ⟨w.heap.size, 1425, none⟩)
    | 2 => v = .slice none 0 0
    | _ => IsB wq v []) (by kernel_rfl) (by kernel_rfl) (fun _ d _ _ _ h => by cases d <;> exact h) ?_ ?_ ?_ ?_
  · intro i v wq wq' hi hv hb
    match i, hi with
    | 0, _ => exact hv
    | 1, _ => exact hv
    | 2, _ => exact hv
    | 3, _ => exact hv.keep hb
    | (k + 4), hk => exact absurd hk (by omega)
  · intro i o hi ho aq wq hc hk hdep
    match i, hi with
    | 0, _ =>
      cases ho
      refine flow_fun 57 _ _ rfl (fun _ _ => by simp [go_sem]) #[] (by simp [Act.eval]) ?_
      refine (lstPen wq).mono ?_
      rintro e w' ⟨rfl, B⟩
      exact ⟨_, rfl, rfl, B⟩
    | 1, _ =>
      cases ho
      exact flow_value _ (run_fieldAt 74 (.tmp 1) 12 rfl (.pointer (some ⟨w.heap.size, 0, none⟩)) (.pointer (some ⟨w.heap.size, 1425, none⟩)) (by simpa [Act.eval] using hk 1 (by decide)) (by kernel_rfl)) rfl
    | 2, _ =>
      cases ho
      have ea : aq.tmps.getD 51 undef = .pointer (some ⟨w.heap.size, 1425, none⟩) := hdep 1 51 rfl (by kernel_rfl)
      exact flow_value _ (run_cell 71 (.tmp 51) rfl ⟨w.heap.size, 1425, none⟩ (by simpa [Act.eval] using ea) _ ((Z20.out.below hc.bel).hx.cell HZ.out.c1425) _ Tryz.underlying71 rfl) rfl
    | 3, _ =>
      cases ho
      have ea : aq.tmps.getD 50 undef = .agg ([.int .i64 0, .int .i64 32, .func (.func 102) #[] #[], .func (.func 103) #[] #[]] : List Value).toArray := hdep 0 50 rfl (by kernel_rfl)
      have eb : aq.tmps.getD 52 undef = .slice none 0 0 := hdep 2 52 rfl (by kernel_rfl)
      refine flow_fun 58 _ _ rfl (fun _ _ => by simp [go_sem]) #[.agg ([.int .i64 0, .int .i64 32, .func (.func 102) #[] #[], .func (.func 103) #[] #[]] : List Value).toArray, .slice none 0 0] (by rw [show (#[Operand.tmp 50, Operand.tmp 52] : Array Operand).map aq.eval = #[aq.tmps.getD 50 undef, aq.tmps.getD 52 undef] from by simp [Act.eval], ea, eb]) ?_
      refine (enc0Pen _ _ _ _ (by decide) wq).mono ?_
      rintro e w' ⟨v, rfl, R, B⟩
      exact ⟨_, rfl, R.isB (fun z hz => by simp at hz), B⟩
    | (k + 4), hk => exact absurd hk (by omega)
  · intro o h4 ho
    omega
  intro vf v21 hc hv
  have e3 : IsB v21 (vf 3) [] := hv 3 53 (by decide) rfl
  clear hv
  simp only [List.take_succ_cons, List.take_zero, List.drop_succ_cons, List.drop_zero, putAll, Act.put, List.setIfInBounds_toArray, List.set_cons_succ, List.set_cons_zero]
  have Z21 := hid (Z20.out.below hc.bel)
  clear hc
  obtain ⟨S21, W21⟩ := Z21.out.hw
  go_wp2_with fail
  refine (part_wr (w.heap.size + 1) S21 ((((((((((((([] : List (List Nat × Bool)) ++ numF [0]) ++ hdF 0 0 (zeros 32) (zeros 32) (zeros 32)) ++ rootF (List.replicate 16 (zeros 32))) ++ rootF (List.replicate 16 (zeros 32))) ++ ethF (zeros 32) 0) ++ [([], true)]) ++ numF [0]) ++ [([], true)]) ++ [([], true)]) ++ rootF (List.replicate 8 (zeros 32))) ++ numF (List.replicate 8 0)) ++ [([], true)]) (vf 3) [] v21 W21 e3 (by simp [numF, rootF, hdF, ethF, cpF]) (by simp)).mono ?_
  rintro x v22 ⟨⟨u22, rfl⟩, q1, q2⟩
  clear e3
  have Z22 : Hid (SAt w v22 w.heap.size (w.heap.size + 1) cs (((((((((((((([] : List (List Nat × Bool)) ++ numF [0]) ++ hdF 0 0 (zeros 32) (zeros 32) (zeros 32)) ++ rootF (List.replicate 16 (zeros 32))) ++ rootF (List.replicate 16 (zeros 32))) ++ ethF (zeros 32) 0) ++ [([], true)]) ++ numF [0]) ++ [([], true)]) ++ [([], true)]) ++ rootF (List.replicate 8 (zeros 32))) ++ numF (List.replicate 8 0)) ++ [([], true)]) ++ [([], true)])) := hid (Z21.out.step (by omega) (by omega) q1 q2)
  clear q1 q2 Z21
  go_wp2_with fail
  have HT : IsT v22 (.slice (some ⟨w.heap.size, 1426, none⟩) 4 4) (List.replicate 4 false) := ⟨some ⟨w.heap.size, 1426, none⟩, 4, rfl, Nat.le_refl _, by decide, .inr ⟨w.heap.size, 1426, rfl, fun i hi => by rw [List.length_replicate] at hi; rw [show (List.replicate 4 false).getD i false = false by rw [List.getD_eq_getElem?_getD, List.getElem?_replicate, if_pos hi]; rfl]; exact Z22.out.hx.cell (HZ.out.bt i hi)⟩⟩
  refine (putBits_any _ _ false v22 HT (by simp)).mono ?_
  rintro x v23 ⟨vb, rfl, R5, B5⟩
  have Z23 := hid (Z22.out.below B5)
  have hvb := R5.isB (putB_byte _ _)
  have hvl : (putB (List.replicate 4 false) false).length = 1 := by kernel_rfl
  clear R5 B5 HT
  obtain ⟨S23, W23⟩ := Z23.out.hw
  go_wp2_with fail
  refine (fixed_wr (w.heap.size + 1) S23 (((((((((((((([] : List (List Nat × Bool)) ++ numF [0]) ++ hdF 0 0 (zeros 32) (zeros 32) (zeros 32)) ++ rootF (List.replicate 16 (zeros 32))) ++ rootF (List.replicate 16 (zeros 32))) ++ ethF (zeros 32) 0) ++ [([], true)]) ++ numF [0]) ++ [([], true)]) ++ [([], true)]) ++ rootF (List.replicate 8 (zeros 32))) ++ numF (List.replicate 8 0)) ++ [([], true)]) ++ [([], true)]) vb (putB (List.replicate 4 false) false) v23 W23 hvb (by simp [numF, rootF, hdF, ethF, cpF]) (by rw [hvl]; decide)).mono ?_
  rintro x v24 ⟨⟨u24, rfl⟩, q1, q2⟩
  clear hvb
  have Z24 : Hid (SAt w v24 w.heap.size (w.heap.size + 1) cs ((((((((((((((([] : List (List Nat × Bool)) ++ numF [0]) ++ hdF 0 0 (zeros 32) (zeros 32) (zeros 32)) ++ rootF (List.replicate 16 (zeros 32))) ++ rootF (List.replicate 16 (zeros 32))) ++ ethF (zeros 32) 0) ++ [([], true)]) ++ numF [0]) ++ [([], true)]) ++ [([], true)]) ++ rootF (List.replicate 8 (zeros 32))) ++ numF (List.replicate 8 0)) ++ [([], true)]) ++ [([], true)]) ++ [(putB (List.replicate 4 false) false, false)])) := hid (Z23.out.step (by omega) (by omega) q1 q2)
  clear q1 q2 Z23
  go_wp2_with ((with_reducible refine at_list' ?_); first
    | (refine wpList_mid_c Tryz.ty27 rfl (.tmp 59) rfl w.heap.size 1430 74 cs cp0 (by exact rfl) rfl Z24.out.hx HZ.out.p1 ?_))
  obtain ⟨S24, W24⟩ := Z24.out.hw
  refine (putCp_any (w.heap.size + 1) S24 ((((((((((((((([] : List (List Nat × Bool)) ++ numF [0]) ++ hdF 0 0 (zeros 32) (zeros 32) (zeros 32)) ++ rootF (List.replicate 16 (zeros 32))) ++ rootF (List.replicate 16 (zeros 32))) ++ ethF (zeros 32) 0) ++ [([], true)]) ++ numF [0]) ++ [([], true)]) ++ [([], true)]) ++ rootF (List.replicate 8 (zeros 32))) ++ numF (List.replicate 8 0)) ++ [([], true)]) ++ [([], true)]) ++ [(putB (List.replicate 4 false) false, false)]) 0 (zeros 32) v24 W24 (by simp [numF, rootF, hdF, ethF, cpF]) (by decide) (zeros_length 32) (fun z hz => by unfold zeros at hz; rw [(List.mem_replicate.1 hz).2]; decide)).mono ?_
  rintro x v25 ⟨⟨u25, rfl⟩, q1, q2⟩
  have Z25 : Hid (SAt w v25 w.heap.size (w.heap.size + 1) cs (((((((((((((((([] : List (List Nat × Bool)) ++ numF [0]) ++ hdF 0 0 (zeros 32) (zeros 32) (zeros 32)) ++ rootF (List.replicate 16 (zeros 32))) ++ rootF (List.replicate 16 (zeros 32))) ++ ethF (zeros 32) 0) ++ [([], true)]) ++ numF [0]) ++ [([], true)]) ++ [([], true)]) ++ rootF (List.replicate 8 (zeros 32))) ++ numF (List.replicate 8 0)) ++ [([], true)]) ++ [([], true)]) ++ [(putB (List.replicate 4 false) false, false)]) ++ cpF 0 (zeros 32))) := hid (Z24.out.step (by omega) (by omega) q1 q2)
  clear q1 q2 Z24
  go_wp2_with ((with_reducible refine at_list' ?_); first
    | (refine wpList_mid_c Tryz.ty27 rfl (.tmp 62) rfl w.heap.size 1463 74 cs cp0 (by exact rfl) rfl Z25.out.hx HZ.out.p2 ?_))
  obtain ⟨S25, W25⟩ := Z25.out.hw
  refine (putCp_any (w.heap.size + 1) S25 (((((((((((((((([] : List (List Nat × Bool)) ++ numF [0]) ++ hdF 0 0 (zeros 32) (zeros 32) (zeros 32)) ++ rootF (List.replicate 16 (zeros 32))) ++ rootF (List.replicate 16 (zeros 32))) ++ ethF (zeros 32) 0) ++ [([], true)]) ++ numF [0]) ++ [([], true)]) ++ [([], true)]) ++ rootF (List.replicate 8 (zeros 32))) ++ numF (List.replicate 8 0)) ++ [([], true)]) ++ [([], true)]) ++ [(putB (List.replicate 4 false) false, false)]) ++ cpF 0 (zeros 32)) 0 (zeros 32) v25 W25 (by simp [numF, rootF, hdF, ethF, cpF]) (by decide) (zeros_length 32) (fun z hz => by unfold zeros at hz; rw [(List.mem_replicate.1 hz).2]; decide)).mono ?_
  rintro x v26 ⟨⟨u26, rfl⟩, q1, q2⟩
  have Z26 : Hid (SAt w v26 w.heap.size (w.heap.size + 1) cs ((((((((((((((((([] : List (List Nat × Bool)) ++ numF [0]) ++ hdF 0 0 (zeros 32) (zeros 32) (zeros 32)) ++ rootF (List.replicate 16 (zeros 32))) ++ rootF (List.replicate 16 (zeros 32))) ++ ethF (zeros 32) 0) ++ [([], true)]) ++ numF [0]) ++ [([], true)]) ++ [([], true)]) ++ rootF (List.replicate 8 (zeros 32))) ++ numF (List.replicate 8 0)) ++ [([], true)]) ++ [([], true)]) ++ [(putB (List.replicate 4 false) false, false)]) ++ cpF 0 (zeros 32)) ++ cpF 0 (zeros 32))) := hid (Z25.out.step (by omega) (by omega) q1 q2)
  clear q1 q2 Z25
  go_wp2_with ((with_reducible refine at_list' ?_); first
    | (refine wpList_mid_c Tryz.ty27 rfl (.tmp 65) rfl w.heap.size 1496 74 cs cp0 (by exact rfl) rfl Z26.out.hx HZ.out.p3 ?_))
  obtain ⟨S26, W26⟩ := Z26.out.hw
  refine (putCp_any (w.heap.size + 1) S26 ((((((((((((((((([] : List (List Nat × Bool)) ++ numF [0]) ++ hdF 0 0 (zeros 32) (zeros 32) (zeros 32)) ++ rootF (List.replicate 16 (zeros 32))) ++ rootF (List.replicate 16 (zeros 32))) ++ ethF (zeros 32) 0) ++ [([], true)]) ++ numF [0]) ++ [([], true)]) ++ [([], true)]) ++ rootF (List.replicate 8 (zeros 32))) ++ numF (List.replicate 8 0)) ++ [([], true)]) ++ [([], true)]) ++ [(putB (List.replicate 4 false) false, false)]) ++ cpF 0 (zeros 32)) ++ cpF 0 (zeros 32)) 0 (zeros 32) v26 W26 (by simp [numF, rootF, hdF, ethF, cpF]) (by decide) (zeros_length 32) (fun z hz => by unfold zeros at hz; rw [(List.mem_replicate.1 hz).2]; decide)).mono ?_
  rintro x v27 ⟨⟨u27, rfl⟩, q1, q2⟩
  have Z27 : Hid (SAt w v27 w.heap.size (w.heap.size + 1) cs (((((((((((((((((([] : List (List Nat × Bool)) ++ numF [0]) ++ hdF 0 0 (zeros 32) (zeros 32) (zeros 32)) ++ rootF (List.replicate 16 (zeros 32))) ++ rootF (List.replicate 16 (zeros 32))) ++ ethF (zeros 32) 0) ++ [([], true)]) ++ numF [0]) ++ [([], true)]) ++ [([], true)]) ++ rootF (List.replicate 8 (zeros 32))) ++ numF (List.replicate 8 0)) ++ [([], true)]) ++ [([], true)]) ++ [(putB (List.replicate 4 false) false, false)]) ++ cpF 0 (zeros 32)) ++ cpF 0 (zeros 32)) ++ cpF 0 (zeros 32))) := hid (Z26.out.step (by omega) (by omega) q1 q2)
  clear q1 q2 Z26
  obtain ⟨S27, W27⟩ := Z27.out.hw
  go_wp2_with fail
  have hfin : (cont (((((((((((((((((([] : List (List Nat × Bool)) ++ numF [0]) ++ hdF 0 0 (zeros 32) (zeros 32) (zeros 32)) ++ rootF (List.replicate 16 (zeros 32))) ++ rootF (List.replicate 16 (zeros 32))) ++ ethF (zeros 32) 0) ++ [([], true)]) ++ numF [0]) ++ [([], true)]) ++ [([], true)]) ++ rootF (List.replicate 8 (zeros 32))) ++ numF (List.replicate 8 0)) ++ [([], true)]) ++ [([], true)]) ++ [(putB (List.replicate 4 false) false, false)]) ++ cpF 0 (zeros 32)) ++ cpF 0 (zeros 32)) ++ cpF 0 (zeros 32))).length = 1653 := by kernel_rfl
  have hlf : decide (lenF (((((((((((((((((([] : List (List Nat × Bool)) ++ numF [0]) ++ hdF 0 0 (zeros 32) (zeros 32) (zeros 32)) ++ rootF (List.replicate 16 (zeros 32))) ++ rootF (List.replicate 16 (zeros 32))) ++ ethF (zeros 32) 0) ++ [([], true)]) ++ numF [0]) ++ [([], true)]) ++ [([], true)]) ++ rootF (List.replicate 8 (zeros 32))) ++ numF (List.replicate 8 0)) ++ [([], true)]) ++ [([], true)]) ++ [(putB (List.replicate 4 false) false, false)]) ++ cpF 0 (zeros 32)) ++ cpF 0 (zeros 32)) ++ cpF 0 (zeros 32)) ≤ 1099511627776) = true := by kernel_rfl
  refine (bytes_any (w.heap.size + 1) S27 (((((((((((((((((([] : List (List Nat × Bool)) ++ numF [0]) ++ hdF 0 0 (zeros 32) (zeros 32) (zeros 32)) ++ rootF (List.replicate 16 (zeros 32))) ++ rootF (List.replicate 16 (zeros 32))) ++ ethF (zeros 32) 0) ++ [([], true)]) ++ numF [0]) ++ [([], true)]) ++ [([], true)]) ++ rootF (List.replicate 8 (zeros 32))) ++ numF (List.replicate 8 0)) ++ [([], true)]) ++ [([], true)]) ++ [(putB (List.replicate 4 false) false, false)]) ++ cpF 0 (zeros 32)) ++ cpF 0 (zeros 32)) ++ cpF 0 (zeros 32)) v27 W27 (by simp [numF, rootF, hdF, ethF, cpF]) (of_decide_eq_true hlf)).mono ?_
  rintro x v28 ⟨vr, rfl, R9, B9⟩
  have HR9 := hid (R9.base Z27.out.bl.size)
  have HB9 := hid (below_more Z27.out.bl B9 (Nat.le_refl _))
  clear R9 B9 W27
  go_wp2
  go_ret
  exact ⟨_, _, rfl, HR9.out, hfin, HB9.out⟩
end Go.Proofs.YtpaamhmighgjeaaGreat
