/- ssz's Reader in regions that draw their order; Reader.Root. -/
import Derived.Test.YtpaamhmighgjeaaGreatFlowJ
import Derived.Test.YtpaamhmighgjeaaGreatRunOps
import Derived.Test.YtpaamhmighgjeaaGreatReaderQ
namespace Go.Proofs.YtpaamhmighgjeaaGreat
open Go.RowKit Go.Shelf
set_option linter.unusedVariables false
set_option maxRecDepth 100000

theorem grownRefl (g : Nat) (w : World) : w.grownBy w (some g) := ⟨rfl, rfl, rfl, Nat.le_refl _, fun _ _ _ => rfl⟩
theorem grownDrew (g : Nat) (w : World) : w.grownBy { w with drawn := w.drawn + 1 } (some g) := ⟨rfl, rfl, rfl, Nat.le_refl _, fun _ _ _ => rfl⟩
theorem grownBelow {g : Nat} {w w' : World} (h : Below w.heap.size w w') : w.grownBy w' (some g) := ⟨h.os, h.tape, h.output, h.size, fun k hk _ => h.block k hk⟩
/-- A before, B behind the operation c. -/
def JRd (c : Nat) (A B : World → Prop) (done : Array Bool) (w : World) : Prop := (done.getD c true = false → A w) ∧ (done.getD c true = true → B w)
section
variable {P : Program} {o : Oper} {a : Act} {w : World} {Q : Exit → Act → World → Prop} {I : Value → World → Prop} {A B : World → Prop}
theorem flowJ_of {g c i : Nat} {done : Array Bool} (hci : c ≠ i) (hA : ∀ w', Below w.heap.size w w' → A w → A w') (hB : ∀ w', Below w.heap.size w w' → B w → B w') (hJ : JRd c A B done w)
    (h : o.wp P a w (fun a' w' => ∃ v, a' = a.put o.dst v ∧ I v w' ∧ Below w.heap.size w w') Q) : o.wp P a w (fun a' w' => ∃ v, a' = a.put o.dst v ∧ I v w' ∧ w.grownBy w' (some g) ∧ JRd c A B (done.setIfInBounds i true) w') Q :=
  Oper.wp_mono (by
    rintro a' w' ⟨v, h1, h2, h3⟩
    refine ⟨v, h1, h2, grownBelow h3, fun e => ?_, fun e => ?_⟩
    · rw [getD_set_ne true (Ne.symm hci)] at e; exact hA w' h3 (hJ.1 e)
    · rw [getD_set_ne true (Ne.symm hci)] at e; exact hB w' h3 (hJ.2 e)) h
theorem flowJ_fun {g c : Nat} {done : Array Bool} (hcs : c < done.size) (f : FuncId) (xs : Array Operand) (ts : Array TypeId) (ho : o.op = .call { callee := .value (.func f), args := xs, argTypes := ts }) (hf : ∀ args w, (callFunc f args).run P w = .ok (.enter f args) w) (args : Array Value) (hargs : xs.map a.eval = args)
    (hc : Calls P f args w fun e w' => ∃ v, e = .returned v ∧ I v w' ∧ w.grownBy w' (some g) ∧ B w') : o.wp P a w (fun a' w' => ∃ v, a' = a.put o.dst v ∧ I v w' ∧ w.grownBy w' (some g) ∧ JRd c A B (done.setIfInBounds c true) w') Q := by
  unfold Oper.wp
  rw [run_enter f xs ts ho hf, hargs, Oper.upon_enter]
  refine hc.mono ?_
  rintro e w' ⟨v, rfl, h1, h2, h3⟩
  refine ⟨v, rfl, h1, h2, fun e => ?_, fun _ => h3⟩
  simp [hcs] at e
end
theorem grown_isB {g : Nat} {w w' : World} (h : w.grownBy w' (some g)) {v : Value} {bs : List Nat} (hI : IsB w v bs) (hS : inS (fun k => k ≠ g) v) : IsB w' v bs :=
  hI.keepS hS fun k hk hl => h.block k hl (fun e => hk (Option.some.inj e))
theorem grown_cell {g : Nat} {w w' : World} (h : w.grownBy w' (some g)) {p : Addr} {v : Value} (hp : p.block ≠ g) (hc : w.cell? p = some v) : w'.cell? p = some v :=
  (World.cell?_of_block (h.block p.block (block_lt_of_cell hc) (fun e => hp (Option.some.inj e)))).trans hc
theorem grown_has {g b : Nat} {w w' : World} {t : TypeId} {k : IntKind} {l : List Nat} (h : w.grownBy w' (some g)) (hb : b ≠ g) (hH : Has w b t k l) : Has w' b t k l := by
  unfold Has; rw [h.block b hH.lt (fun e => hb (Option.some.inj e))]; exact hH
theorem rootZero : (Tryz.prog.info? 25).map (fun i => (i.zero, i.size)) = some (some (.agg (nums .u8 (zeros 32))), 32) := by kernel_rfl
theorem rootUnd : Tryz.prog.underlying 25 = some (.array 32 5) := by kernel_rfl
theorem rootSize : (Tryz.prog.info? 25).map (·.size) = some 32 := by kernel_rfl

set_option maxHeartbeats 1000000 in
theorem rroot_any {g : Nat} {S : Nat → Prop} {bs : List Nat} {size taken : Nat} {ps : List Nat} {wrong : Bool} (w : World) (h : Rd w g S bs size taken ps wrong) (hs : size ≤ 4611686018427387904) (hl : bs.length ≤ 140737488355328) :
    Calls Tryz.prog 34 #[.pointer (some ⟨g, 0, none⟩)] w fun e w' => e = .returned (.agg (nums .u8 (fixB bs size taken 32 wrong))) ∧ Rd w' g S bs size (fixT size taken 32 wrong) ps (fixW size taken 32 wrong) ∧ w.grownBy w' (some g) := by
  have hgl := h.gt
  have hb := h.byte
  have hfl : (fixB bs size taken 32 wrong).length = 32 := fixB_length h.ts h.ok
  have HR := hid h
  clear h
  go_enter Tryz.func34, Tryz.ntmps34
  go_wp2_with ((with_reducible refine at_list' ?_); first
    | (refine wpList_alloc_has rfl 2 rfl 25 rfl .u8 32 rootZero ?_; intro w1 H1 B1 S1)
    | (refine wpList_alloc_has rfl 3 rfl 25 rfl .u8 32 rootZero ?_; intro w2 H2 B2 S2))
  have HgL : Hid (g < w2.heap.size) := hid (by have := B1.size; have := B2.size; omega)
  have hn1 : w1.heap.size ≠ g := by have := B1.size; omega
  have hn0 : w.heap.size ≠ g := by omega
  have HH := hid (And.intro (H1.keep B2) H2)
  have HBW := hid (below_more B1 B2 (Nat.le_refl _))
  have HA : Hid (∀ (u u' : World), Below u.heap.size u u' → (fun u => Rd u g S bs size taken ps wrong) u → (fun u => Rd u g S bs size taken ps wrong) u') := fun u u' h k => k.below h
  have HB : Hid (∀ (u u' : World), Below u.heap.size u u' → (fun u => Rd u g S bs size (fixT size taken 32 wrong) ps (fixW size taken 32 wrong)) u → (fun u => Rd u g S bs size (fixT size taken 32 wrong) ps (fixW size taken 32 wrong)) u') := fun u u' h k => k.below h
  have HJ0 : Hid (JRd 2 (fun u => Rd u g S bs size taken ps wrong) (fun u => Rd u g S bs size (fixT size taken 32 wrong) ps (fixW size taken 32 wrong)) (Array.replicate 4 false) { w2 with drawn := w2.drawn + 1 }) := ⟨fun _ => HR.out.below (HBW.out.drew), fun e => by simp at e⟩
  have HS1 := hid S1
  clear H1 H2 B1 B2 S2 S1
  simp only [Act.put, List.setIfInBounds_toArray, List.set_cons_succ, List.set_cons_zero]
  refine wp_region_flowJ (fun a b => a.grownBy b (some (g))) (JRd 2 (fun u => Rd u g S bs size taken ps wrong) (fun u => Rd u g S bs size (fixT size taken 32 wrong) ps (fixW size taken 32 wrong))) 3 (fun i v wq => match i with
    | 0 => v = .slice (some ⟨w1.heap.size, 0, none⟩) 32 32
    | 1 => v = .pointer (some ⟨g, 0, none⟩)
    | _ => IsB wq v (fixB bs size taken 32 wrong) ∧ inS (fun k => w2.heap.size ≤ k) v) (by kernel_rfl) (by kernel_rfl) (grownRefl _) (fun _ _ _ h k => grown_trans h k) (grownDrew _) HJ0.out (fun _ d _ _ _ h => by cases d <;> exact h) ?_ ?_ ?_ ?_
  · intro i o g b hi ho hg v wq hv
    match i, hi with
    | 0, _ => cases ho; cases hg
    | 1, _ => cases ho; cases hg
    | 2, _ => cases ho; cases hg
    | (k + 3), hk => exact absurd hk (by omega)
  · intro i v wq wq' hi hv hb
    match i, hi with
    | 0, _ => exact hv
    | 1, _ => exact hv
    | 2, _ => exact ⟨grown_isB hb hv.1 (hv.2.mono fun k hk => by have := HgL.out; omega), hv.2⟩
    | (k + 3), hk => exact absurd hk (by omega)
  · intro i o hi ho aq wq done hc hsz hun hJ hk hdep
    match i, hi with
    | 0, _ =>
      cases ho
      refine flowJ_of (by decide) (HA.out wq) (HB.out wq) hJ ?_
      have e3 : aq.tmps.getD 3 undef = .pointer (some ⟨w1.heap.size, 0, none⟩) := hk 3 (by decide)
      exact flow_value _ (run_sliceAll 25 (.tmp 3) rfl _ _ e3 (by kernel_rfl)) rfl
    | 1, _ =>
      cases ho
      refine flowJ_of (by decide) (HA.out wq) (HB.out wq) hJ ?_
      exact flow_move (.tmp 0) rfl (hk 0 (by decide))
    | 2, _ =>
      cases ho
      have e0 : aq.tmps.getD 5 undef = .pointer (some ⟨g, 0, none⟩) := hdep 1 5 rfl (by kernel_rfl)
      refine flowJ_fun (by rw [hsz]; decide) 77 _ _ rfl (fun _ _ => by simp [go_sem]) #[.pointer (some ⟨g, 0, none⟩), .int .i64 ((32 : Nat) : Int)] (by rw [show (#[Operand.tmp 5, Operand.const (.int .i64 32)] : Array Operand).map aq.eval = #[aq.tmps.getD 5 undef, .int .i64 32] from by simp [Act.eval], e0]; rfl) ?_
      refine (fixed_any 32 wq (hJ.1 hun) (by decide) hs hl).mono ?_
      rintro e w' ⟨v', rfl, q1, q2, q3⟩
      exact ⟨_, rfl, ⟨q1.isB (fixB_byte hb size taken 32 wrong), q1.inS.mono fun k hk => Nat.le_trans hc.size hk.1⟩, q3, q2⟩
    | (k + 3), hk => exact absurd hk (by omega)
  intro vf w8 hc hv hs8 hj
  have e0 : vf 0 = _ := hv 0 4 (by decide) rfl
  have e2 : IsB w8 (vf 2) _ ∧ _ := hv 2 6 (by decide) rfl
  have hB8 : Rd w8 g S bs size (fixT size taken 32 wrong) ps (fixW size taken 32 wrong) := hj.2 rfl
  have hH8 := grown_has hc hn1 HH.out.2
  have hH0 := grown_has hc hn0 HH.out.1
  clear hv hs8 hj
  simp only [List.take_succ_cons, List.take_zero, List.drop_succ_cons, List.drop_zero, putAll, Act.put, List.setIfInBounds_toArray, List.set_cons_succ, List.set_cons_zero]
  rw [e0]
  obtain ⟨⟨⟨ao6, cap6, e6, hc6, _, _, hR6⟩, h86⟩, hin6⟩ := e2
  rw [e6]
  have hsS : ∀ k, S k → k < w.heap.size := HR.out.lt
  have hsz1 := HS1.out
  have HO : Hid (over (zeros 32) 0 (fixB bs size taken 32 wrong) = fixB bs size taken 32 wrong) := over_all _ _ (by rw [zeros_length, hfl])
  have hGW := hid (grown_trans (grownBelow (g := g) HBW.out) hc)
  have hB8' := hid hB8
  have hH0' := hid hH0
  clear hB8 hH0 hc e0 e6
  go_wp2_with ((with_reducible refine at_list' ?_); first
    | (refine wpList_copy_has rfl (.tmp 4) (.tmp 6) 39 39 rfl 5 Tryz.underlying39 Tryz.one5 _ _ _ _ _ _ rfl rfl w1.heap.size 0 .u8 (zeros 32) 25 hH8 (fixB bs size taken 32 wrong) (by rw [hfl]; rfl) (fun hp => ⟨rfl, Reads.src hR6 hp⟩) (by rw [hfl, zeros_length]; omega) ?_; intro w9 H9 O9; rw [HO.out] at H9)
    | (refine wpList_load_has rfl 25 (.tmp 3) rfl w1.heap.size .u8 (fixB bs size taken 32 wrong) rfl 25 H9 _ _ rootUnd (by rw [hfl]; exact rootSize) ?_)
    | (refine wpList_store_has rfl 25 (.tmp 2) (.tmp 8) rfl w.heap.size .u8 (fixB bs size taken 32 wrong) (zeros 32) rfl rfl 25 (hH0'.out.only O9 (by omega)) (by rw [hfl]; exact rootSize) (by rw [zeros_length, hfl]) ?_; intro w10 H10 O10))
  have s8 := hGW.out.size
  have sz9 := O9.size
  have sz10 := O10.size
  refine bodyPost_ret (results_has rfl _ _ w.heap.size 25 .u8 (fixB bs size taken 32 wrong) _ _ rfl H10 rootUnd (by rw [hfl]; exact rootSize)) rfl ?_
  refine ⟨rfl, hB8'.out.keep (by omega) (fun k hk => ?_) ?_, ⟨O10.os.trans (O9.os.trans hGW.out.os), O10.tape.trans (O9.tape.trans hGW.out.tape), O10.output.trans (O9.output.trans hGW.out.output), by omega, fun k hk hne => ?_⟩⟩
  · have := hsS k hk
    exact (O10.block k (by omega)).trans (O9.block k (by omega))
  · exact (O10.block g (by omega)).trans (O9.block g (by omega))
  · exact (O10.block k (by omega)).trans ((O9.block k (by omega)).trans (hGW.out.block k hk hne))
end Go.Proofs.YtpaamhmighgjeaaGreat
