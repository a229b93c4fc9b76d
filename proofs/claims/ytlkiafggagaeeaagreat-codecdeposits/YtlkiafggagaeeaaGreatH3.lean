/- Own texts of the proof, joined: TakeS TakeDd TakeDp DecDp FlowV FlowR Val6 AppK VIn5 Va6DepositData VIDd5. -/
import Derived.Test.YtlkiafggagaeeaaGreatH2
import Derived.Deep.AppendSrc
/- Numbers and roots taken, over the state. -/
namespace Go.Proofs.YtlkiafggagaeeaaGreat
open Go.RowKit Go.Shelf
set_option linter.unusedVariables false
set_option linter.unusedSimpArgs false
set_option maxRecDepth 100000

theorem fixS_ok {bs : List Nat} {size n : Nat} {s : Rs} (h : s.1 ≤ size ∧ (s.2 = false → size ≤ bs.length)) : (fixS size n s).1 ≤ size ∧ ((fixS size n s).2 = false → size ≤ bs.length) := by
  obtain ⟨h1, h2⟩ := h
  refine ⟨?_, fun h => h2 ?_⟩
  · show fixT size s.1 n s.2 ≤ size
    unfold fixT fixW
    by_cases hw : (s.2 || decide (size - s.1 < n)) = true
    · rw [if_pos hw]; exact h1
    · rw [if_neg hw]
      simp only [Bool.or_eq_true, decide_eq_true_eq, not_or] at hw
      omega
  · have h' : (s.2 || decide (size - s.1 < n)) = false := h
    simp only [Bool.or_eq_false_iff] at h'
    exact h'.1
theorem rnumS {g : Nat} {S : Nat → Prop} {bs : List Nat} {size : Nat} {ps : List Nat} (s : Rs) (w : World) (h : Rd w g S bs size s.1 ps s.2) (hs : size ≤ 4611686018427387904) (hl : bs.length ≤ 140737488355328) :
    Calls Tryz.prog 68 #[.pointer (some ⟨g, 0, none⟩)] w fun e w' => e = .returned (.int .u64 (numAt bs size s : Nat)) ∧ Rd w' g S bs size (fixS size 8 s).1 ps (fixS size 8 s).2 ∧ w.grownBy w' (some g) := rnum_any w h hs hl
theorem rrootS {g : Nat} {S : Nat → Prop} {bs : List Nat} {size : Nat} {ps : List Nat} (s : Rs) (w : World) (h : Rd w g S bs size s.1 ps s.2) (hs : size ≤ 4611686018427387904) (hl : bs.length ≤ 140737488355328) :
    Calls Tryz.prog 63 #[.pointer (some ⟨g, 0, none⟩)] w fun e w' => e = .returned (.agg (nums .u8 (rootAt bs size s))) ∧ Rd w' g S bs size (fixS size 32 s).1 ps (fixS size 32 s).2 ∧ w.grownBy w' (some g) := rroot_any w h hs hl
end Go.Proofs.YtlkiafggagaeeaaGreat

/- DepositDatas taken. -/
namespace Go.Proofs.YtlkiafggagaeeaaGreat
open Go.RowKit Go.Shelf
set_option linter.unusedVariables false
set_option linter.unusedSimpArgs false
set_option maxRecDepth 100000

/-- The cells that takeDepositData takes, and the state behind. -/
def ddTake (bs : List Nat) (size : Nat) (s : Rs) : List Value := ddC (rootAt bs size s) (rootAt bs size (fixS size 32 s)) (numAt bs size (fixS size 32 (fixS size 32 s))) (rootAt bs size (fixS size 8 (fixS size 32 (fixS size 32 s))))
def ddS (size : Nat) (s : Rs) : Rs := (fixS size 32 (fixS size 8 (fixS size 32 (fixS size 32 s))))
theorem ddTake_len (bs : List Nat) (size : Nat) (s : Rs) (h1 : s.1 ≤ size) (h2 : s.2 = false → size ≤ bs.length) : (ddTake bs size s).length = 97 ∧ (ddTake bs size s).toArray.all (·.oneCell') = true := by
  have q0 : s.1 ≤ size ∧ (s.2 = false → size ≤ bs.length) := ⟨h1, h2⟩
  have q1 : (fixS size 32 s).1 ≤ size ∧ ((fixS size 32 s).2 = false → size ≤ bs.length) := fixS_ok q0
  have q2 : (fixS size 32 (fixS size 32 s)).1 ≤ size ∧ ((fixS size 32 (fixS size 32 s)).2 = false → size ≤ bs.length) := fixS_ok q1
  have q3 : (fixS size 8 (fixS size 32 (fixS size 32 s))).1 ≤ size ∧ ((fixS size 8 (fixS size 32 (fixS size 32 s))).2 = false → size ≤ bs.length) := fixS_ok q2
  exact ⟨ddC_length _ _ _ _ (fixB_length q0.1 q0.2) (fixB_length q1.1 q1.2) (fixB_length q3.1 q3.2), ddC_one _ _ _ _⟩
theorem ddBuild (v0 : List Nat) (v1 : List Nat) (v2 : Nat) (v3 : List Nat) (h0 : v0.length = 32) (h1 : v1.length = 32) (h3 : v3.length = 32) (w : World) : (Instr.build 73 #[(0, .agg (nums .u8 v0)), (1, .agg (nums .u8 v1)), (2, .int .u64 (v2 : Nat)), (3, .agg (nums .u8 v3))]).run Tryz.prog w = .ok (.agg (ddC v0 v1 v2 v3).toArray) w := by
  have h := build_all Tryz.ty73 _ Tryz.underlying73 #[(0, 32), (32, 32), (64, 1), (65, 32)] (fun w => by kernel_rfl) #[(0, .agg (nums .u8 v0)), (1, .agg (nums .u8 v1)), (2, .int .u64 (v2 : Nat)), (3, .agg (nums .u8 v3))]
    (by
      have e0 : (Value.agg (nums .u8 v0)).cells.size = 32 := (nums_size _ _).trans h0
      have e1 : (Value.agg (nums .u8 v1)).cells.size = 32 := (nums_size _ _).trans h1
      have e3 : (Value.agg (nums .u8 v3)).cells.size = 32 := (nums_size _ _).trans h3
      refine ⟨?_, ?_, ?_, ?_, trivial⟩ <;> (try rw [e3]) <;> (try rw [e1]) <;> (try rw [e0]) <;> rfl) (by rw [show outC (#[(0, .agg (nums .u8 v0)), (1, .agg (nums .u8 v1)), (2, .int .u64 (v2 : Nat)), (3, .agg (nums .u8 v3))] : Array (Nat × Value)).toList = ddC v0 v1 v2 v3 from rfl, ddC_length _ _ _ _ h0 h1 h3]; rfl) w
  rw [show outC (#[(0, .agg (nums .u8 v0)), (1, .agg (nums .u8 v1)), (2, .int .u64 (v2 : Nat)), (3, .agg (nums .u8 v3))] : Array (Nat × Value)).toList = ddC v0 v1 v2 v3 from rfl] at h
  exact h

set_option maxHeartbeats 1000000 in
theorem takeDd_any {g : Nat} {S : Nat → Prop} {bs : List Nat} {size : Nat} {ps : List Nat} (s : Rs) (w : World) (h : Rd w g S bs size s.1 ps s.2) (hs : size ≤ 4611686018427387904) (hl : bs.length ≤ 140737488355328) :
    Calls Tryz.prog 127 #[.pointer (some ⟨g, 0, none⟩)] w fun x w' => x = .returned (.agg (ddTake bs size s).toArray) ∧ (ddTake bs size s).length = 97 ∧ (ddTake bs size s).toArray.all (·.oneCell') = true ∧ Rd w' g S bs size (ddS size s).1 ps (ddS size s).2 ∧ w.grownBy w' (some g) := by
  have hgl := h.gt
  have HTL := hid (ddTake_len bs size s h.ts h.ok)
  have HR := hid h
  clear h
  go_enter Tryz.func127, Tryz.ntmps127
  go_wp2_with ((with_reducible refine at_list' ?_); first
    | (refine wpList_alloc_c Tryz.ty73 rfl 2 rfl rfl ?_; intro w1 H1 B1 S1))
  have hne : w.heap.size ≠ g := by omega
  have HS : Hid (∀ k, S k → k < w.heap.size) := hid HR.out.lt
  have X1 := hid (HR.out.below B1)
  have HH1 := hid H1
  have G1 := hid (grownBelow (g := g) B1)
  clear H1 B1 S1 HR
  have HQ1 := hid (rrootS s w1 X1.out hs hl)
  refine HQ1.out.mono ?_
  rintro e w2 ⟨rfl, q1, q2⟩
  have HL0 : Hid ((rootAt bs size s).length = 32) := hid (fixB_length X1.out.ts X1.out.ok)
  have HH2 := hid (HH1.out.grown q2 hne)
  have G2 := hid (grown_trans G1.out q2)
  obtain ⟨v0, hv0⟩ : ∃ v, rootAt bs size s = v := ⟨_, rfl⟩
  rw [hv0]
  rw [hv0] at HL0
  obtain ⟨s2, hs2⟩ : ∃ z, fixS size 32 s = z := ⟨_, rfl⟩
  rw [hs2] at q1
  have X2 := hid q1
  have HV0 := hid hv0
  have HZ2 := hid hs2
  clear q1 q2 hv0 hs2 HH1 G1 HQ1 X1
  have HQ2 := hid (rrootS s2 w2 X2.out hs hl)
  go_wp2_with fail
  refine HQ2.out.mono ?_
  rintro e w3 ⟨rfl, q1, q2⟩
  have HL1 : Hid ((rootAt bs size s2).length = 32) := hid (fixB_length X2.out.ts X2.out.ok)
  have HH3 := hid (HH2.out.grown q2 hne)
  have G3 := hid (grown_trans G2.out q2)
  obtain ⟨v1, hv1⟩ : ∃ v, rootAt bs size s2 = v := ⟨_, rfl⟩
  rw [hv1]
  rw [hv1] at HL1
  obtain ⟨s3, hs3⟩ : ∃ z, fixS size 32 s2 = z := ⟨_, rfl⟩
  rw [hs3] at q1
  have X3 := hid q1
  have HV1 := hid hv1
  have HZ3 := hid hs3
  clear q1 q2 hv1 hs3 HH2 G2 HQ2 X2
  have HQ3 := hid (rnumS s3 w3 X3.out hs hl)
  go_wp2_with fail
  refine HQ3.out.mono ?_
  rintro e w4 ⟨rfl, q1, q2⟩
  have HH4 := hid (HH3.out.grown q2 hne)
  have G4 := hid (grown_trans G3.out q2)
  obtain ⟨v2, hv2⟩ : ∃ v, numAt bs size s3 = v := ⟨_, rfl⟩
  rw [hv2]
  obtain ⟨s4, hs4⟩ : ∃ z, fixS size 8 s3 = z := ⟨_, rfl⟩
  rw [hs4] at q1
  have X4 := hid q1
  have HV2 := hid hv2
  have HZ4 := hid hs4
  clear q1 q2 hv2 hs4 HH3 G3 HQ3 X3
  have HQ4 := hid (rrootS s4 w4 X4.out hs hl)
  go_wp2_with fail
  refine HQ4.out.mono ?_
  rintro e w5 ⟨rfl, q1, q2⟩
  have HL3 : Hid ((rootAt bs size s4).length = 32) := hid (fixB_length X4.out.ts X4.out.ok)
  have HH5 := hid (HH4.out.grown q2 hne)
  have G5 := hid (grown_trans G4.out q2)
  obtain ⟨v3, hv3⟩ : ∃ v, rootAt bs size s4 = v := ⟨_, rfl⟩
  rw [hv3]
  rw [hv3] at HL3
  obtain ⟨s5, hs5⟩ : ∃ z, fixS size 32 s4 = z := ⟨_, rfl⟩
  rw [hs5] at q1
  have X5 := hid q1
  have HV3 := hid hv3
  have HZ5 := hid hs5
  clear q1 q2 hv3 hs5 HH4 G4 HQ4 X4
  have HBd := hid (ddBuild v0 v1 v2 v3 HL0.out HL1.out HL3.out w5)
  have HV : Hid (ddTake bs size s = ddC v0 v1 v2 v3) := hid (by unfold ddTake; simp only [HV0.out, HZ2.out, HV1.out, HZ3.out, HV2.out, HZ4.out, HV3.out, HZ5.out])
  have HW : Hid (ddS size s = s5) := hid (by unfold ddS; simp only [HZ2.out, HZ3.out, HZ4.out, HZ5.out])
  rw [HV.out] at HTL
  go_wp2_with ((with_reducible refine at_list' ?_); first
    | (refine wpList_build_c rfl _ rfl #[(0, .agg (nums .u8 v0)), (1, .agg (nums .u8 v1)), (2, .int .u64 (v2 : Nat)), (3, .agg (nums .u8 v3))] (by simp [Act.eval]) _ HBd.out ?_)
    | (refine wpList_store_c Tryz.ty73 rfl (.tmp 2) (.tmp 11) rfl w.heap.size (ddC v0 v1 v2 v3) rfl rfl (by rw [HTL.out.1]; rfl) HTL.out.2 _ HH5.out rfl ?_; intro w9 H9 O9))
  refine bodyPost_ret (results_c1 Tryz.ty73 rfl _ w9 w.heap.size _ rfl H9 (by rw [HTL.out.1]; rfl)) rfl ?_
  have sz9 := O9.size
  have s8 := G5.out.size
  rw [HV.out, HW.out]
  refine ⟨rfl, HTL.out.1, HTL.out.2, X5.out.keep (by omega) (fun k hk => O9.block k (by have := HS.out k hk; omega)) (O9.block g (by omega)), O9.os.trans G5.out.os, O9.tape.trans G5.out.tape, O9.output.trans G5.out.output, by omega, fun k hk hn => (O9.block k (by omega)).trans (G5.out.block k hk hn)⟩
end Go.Proofs.YtlkiafggagaeeaaGreat

/- Deposits taken: six roots into an array of the struct's own, then its data. -/
namespace Go.Proofs.YtlkiafggagaeeaaGreat
open Go.RowKit Go.Shelf
set_option linter.unusedVariables false
set_option linter.unusedSimpArgs false
set_option maxRecDepth 100000

/-- The state behind k roots, and the roots. -/
def rsS (size : Nat) (s : Rs) : Nat → Rs
  | 0 => s
  | k + 1 => fixS size 32 (rsS size s k)
def rsT (bs : List Nat) (size : Nat) (s : Rs) (k : Nat) : List (List Nat) := (List.range k).map fun i => rootAt bs size (rsS size s i)
theorem rsS_ok {bs : List Nat} {size : Nat} {s : Rs} (h : s.1 ≤ size ∧ (s.2 = false → size ≤ bs.length)) : ∀ k, (rsS size s k).1 ≤ size ∧ ((rsS size s k).2 = false → size ≤ bs.length)
  | 0 => h
  | k + 1 => fixS_ok (rsS_ok h k)
theorem rsT_length (bs : List Nat) (size : Nat) (s : Rs) (k : Nat) : (rsT bs size s k).length = k := by simp [rsT]
theorem rsT_len {bs : List Nat} {size : Nat} {s : Rs} (h : s.1 ≤ size ∧ (s.2 = false → size ≤ bs.length)) (k : Nat) : ∀ r ∈ rsT bs size s k, r.length = 32 := by
  intro r hr
  obtain ⟨i, _, rfl⟩ := List.mem_map.1 hr
  have q := rsS_ok h i
  exact fixB_length q.1 q.2
theorem rsT_succ (bs : List Nat) (size : Nat) (s : Rs) (k : Nat) : rsT bs size s (k + 1) = rsT bs size s k ++ [rootAt bs size (rsS size s k)] := by
  simp [rsT, List.range_succ]
/-- Worlds that differ in two blocks alone, and in what was made. -/
structure Gr2 (g b : Nat) (w w' : World) : Prop where
  os : w'.os = w.os
  tape : w'.tape = w.tape
  output : w'.output = w.output
  size : w.heap.size ≤ w'.heap.size
  block : ∀ k, k < w.heap.size → k ≠ g → k ≠ b → w'.heap[k]? = w.heap[k]?
theorem Gr2.refl (g b : Nat) (w : World) : Gr2 g b w w := ⟨rfl, rfl, rfl, Nat.le_refl _, fun _ _ _ _ => rfl⟩
theorem Gr2.grown {g b : Nat} {w w1 w2 : World} (h : Gr2 g b w w1) (k : w1.grownBy w2 (some g)) : Gr2 g b w w2 :=
  ⟨k.os.trans h.os, k.tape.trans h.tape, k.output.trans h.output, Nat.le_trans h.size k.size, fun j hj hg hb => (k.block j (Nat.lt_of_lt_of_le hj h.size) (fun e => hg (by cases e; rfl))).trans (h.block j hj hg hb)⟩
theorem Gr2.only {g b : Nat} {w w1 w2 : World} (h : Gr2 g b w w1) (k : Only b w1 w2) : Gr2 g b w w2 :=
  ⟨k.os.trans h.os, k.tape.trans h.tape, k.output.trans h.output, by rw [k.size]; exact h.size, fun j hj hg hb => (k.block j hb).trans (h.block j hj hg hb)⟩
/-- A part of a struct's cells, written over. -/
theorem HasC.part {w : World} {g : Nat} {t : TypeId} {A O B N : List Value} {o : Nat} (h : HasC w g t (A ++ (O ++ B))) (ho : A.length = o) (hn : N.length = O.length) :
    w.there g o N.toArray.size ∧ HasC (w.setCells g o N) g t (A ++ (N ++ B)) ∧ Only g w (w.setCells g o N) := by
  subst ho
  obtain ⟨h1, h2⟩ := heap_setCells N w _ A.length h
  have hs : (A ++ (O ++ B)).toArray.size = A.length + (O.length + B.length) := by simp
  refine ⟨fun j hj => ⟨?_, frozen_of_row w g _ _ _ h⟩, ?_, h2⟩
  · rw [List.size_toArray] at hj
    rw [cell_of_row w g _ _ _ (0, 0) h, Array.getElem?_eq_getElem (by omega)]
    rfl
  · unfold HasC
    rw [h1]
    congr 2
    apply Array.ext_getElem?
    intro i
    rw [setV_get N _ A.length (by omega) i]
    simp only [List.getElem?_toArray]
    by_cases ha : i < A.length
    · rw [if_neg (by omega), List.getElem?_append_left ha, List.getElem?_append_left ha]
    · by_cases hb : i < A.length + N.length
      · rw [if_pos (by omega), List.getElem?_append_right (by omega), List.getElem?_append_left (by omega)]
      · rw [if_neg (by omega), List.getElem?_append_right (by omega), List.getElem?_append_right (by omega), List.getElem?_append_right (by omega), List.getElem?_append_right (by omega), hn]
theorem wpList_run {P : Program} {w : World} {ops : Array Oper} {rest : List Oper} {o : Oper} {a : Act} {Q : Exit → Act → World → Prop} (hgd : o.guard = none) (v : Value) (hr : (execOp a.eval o).run P w = .ok (.value v) w) (h : wpList P ops Q rest (a.put o.dst v) w) : wpList P ops Q (o :: rest) a w :=
  wpList_plain hgd fun _ hK => by unfold Oper.wp; rw [hr]; exact hK _ _ h
/-- k roots taken, zero roots behind. -/
def rsU (bs : List Nat) (size : Nat) (s : Rs) (k : Nat) : List Value := cellsB ((rsT bs size s k).flatten ++ zeros ((6 - k) * 32))
theorem rsU_zero (bs : List Nat) (size : Nat) (s : Rs) : rsU bs size s 0 = cellsB (zeros 192) := by simp [rsU, rsT]
theorem rsU_all (bs : List Nat) (size : Nat) (s : Rs) : rsU bs size s 6 = cellsB (rsT bs size s 6).flatten := by simp [rsU, zeros]
theorem rsU_form (bs : List Nat) (size : Nat) (s : Rs) (k : Nat) (hk : k < 6) (T : List Value) : rsU bs size s k ++ T = cellsB (rsT bs size s k).flatten ++ (cellsB (zeros 32) ++ (cellsB (zeros ((6 - (k + 1)) * 32)) ++ T)) := by
  have e : (6 - k) * 32 = 32 + (6 - (k + 1)) * 32 := by omega
  have hz : zeros ((6 - k) * 32) = zeros 32 ++ zeros ((6 - (k + 1)) * 32) := by unfold zeros; rw [e, List.replicate_append_replicate]
  rw [rsU, hz]
  simp [cellsB]
theorem rsU_next (bs : List Nat) (size : Nat) (s : Rs) (k : Nat) (T : List Value) : cellsB (rsT bs size s k).flatten ++ (cellsB (rootAt bs size (rsS size s k)) ++ (cellsB (zeros ((6 - (k + 1)) * 32)) ++ T)) = rsU bs size s (k + 1) ++ T := by
  rw [rsU, rsT_succ]
  simp [cellsB]
set_option maxHeartbeats 2000000 in
theorem takeRoots_any {g : Nat} {S : Nat → Prop} {bs : List Nat} {size : Nat} {ps : List Nat} (s : Rs) (w : World) (h : Rd w g S bs size s.1 ps s.2) (hs : size ≤ 4611686018427387904) (hl : bs.length ≤ 140737488355328) (b : Nat) (T : List Value) (hB : HasC w b 75 (cellsB (zeros 192) ++ T)) (hbg : b ≠ g) (hbS : ¬ S b) :
    Calls Tryz.prog 126 #[.pointer (some ⟨g, 0, none⟩), .slice (some ⟨b, 0, none⟩) 6 6] w fun x w' => (∃ u, x = .returned u) ∧ HasC w' b 75 (cellsB (rsT bs size s 6).flatten ++ T) ∧ Rd w' g S bs size (rsS size s 6).1 ps (rsS size s 6).2 ∧ Gr2 g b w w' := by
  have hok := hid (rsS_ok ⟨h.ts, h.ok⟩)
  have hlen := hid (rsT_len ⟨h.ts, h.ok⟩ : ∀ k, ∀ r ∈ rsT bs size s k, r.length = 32)
  have X0 := hid (And.intro h hB)
  clear h hB
  go_enter Tryz.func126, Tryz.ntmps126
  go_wp2
  go_loopw [4, 7] (fun _ c wr => ∃ k : Nat, k ≤ 6 ∧ c = .int .i64 (k : Nat) ∧ HasC wr b 75 (rsU bs size s k ++ T) ∧ Rd wr g S bs size (rsS size s k).1 ps (rsS size s k).2 ∧ Gr2 g b w wr) (fun _ c _ => 6 - (intOf c).toNat)
  case atStart => exact ⟨0, by omega, rfl, by rw [rsU_zero]; exact X0.out.2, X0.out.1, Gr2.refl g b w⟩
  case round =>
    clear X0
    obtain ⟨k, hk, rfl, hH, hR, hG⟩ := hrel
    by_cases hk6 : k < 6
    · have hq := hok.out k
      have h32 : (rootAt bs size (rsS size s k)).length = 32 := fixB_length hq.1 hq.2
      have HQ := hid (rrootS (rsS size s k) wr hR hs hl)
      have hlk := rsT_len (bs := bs) (size := size) (s := s) (by exact hok.out 0) k
      have hfl : (cellsB (rsT bs size s k).flatten).length = k * 32 := by
        rw [cellsB_length, flatten_roots _ hlk, rsT_length]
      have hnx := rsU_next bs size s k T
      rw [rsU_form bs size s k hk6] at hH
      obtain ⟨r, hr⟩ : ∃ r, rootAt bs size (rsS size s k) = r := ⟨_, rfl⟩
      rw [hr] at h32 hnx HQ
      obtain ⟨A, hA⟩ : ∃ A, cellsB (rsT bs size s k).flatten = A := ⟨_, rfl⟩
      rw [hA] at hfl hnx hH
      have HF := hid (And.intro h32 (And.intro hfl hnx))
      have HH := hid hH
      have HG := hid hG
      have hS := hid hR.lt
      have hgl := hR.gt
      clear h32 hfl hnx hH hG hR hlk hr hA hq
      go_wp2_with fail
      refine HQ.out.mono ?_
      rintro e w1 ⟨rfl, q1, q2⟩
      have H1 := HH.out.grown q2 hbg
      have G1 := hid (HG.out.grown q2)
      have X1 := hid q1
      obtain ⟨p1, p2, p3⟩ := H1.part (N := cellsB r) (o := k * 32) HF.out.2.1 (by rw [cellsB_length, cellsB_length, HF.out.1]; rfl)
      have P1 := hid (And.intro p1 (And.intro p2 p3))
      clear q1 q2 HQ HG H1 p1 p2 p3 HH
      go_wp2_with ((with_reducible refine at_list' ?_); first
        | (refine wpList_store_mid rfl 24 (.tmp 14) (.tmp 13) rfl b (k * 32) (nums .u8 r) rfl rfl P1.out.1 (by rw [Tryz.size24, nums_size, HF.out.1]) (nums_one .u8 r) ?_))
      have HH2 := P1.out.2.1
      rw [HF.out.2.2] at HH2
      have O2 := hid P1.out.2.2
      have Z := hid (And.intro HH2 (And.intro (X1.out.keep (by rw [O2.out.size]; exact Nat.le_refl _) (fun j hj => O2.out.block j (fun e => hbS (e ▸ hj))) (O2.out.block g (fun e => hbg e.symm))) (G1.out.only O2.out)))
      clear HH2 O2 P1 X1 G1
      go_wp2
      go_roundw
      case rel => exact ⟨k + 1, by omega, by go_num, Z.out.1, Z.out.2.1, Z.out.2.2⟩
      case measure => simp [intOf]; omega
    · have hk2 : k = 6 := by omega
      subst hk2
      rw [rsU_all] at hH
      have Z := hid (And.intro hH (And.intro hR hG))
      clear hH hR hG
      go_wp2
      go_end0
      exact ⟨⟨_, rfl⟩, Z.out.1, Z.out.2.1, Z.out.2.2⟩
/-- The cells that takeDeposit takes, and the state behind. -/
def dpTake (bs : List Nat) (size : Nat) (s : Rs) : List Value := dpC (rsT bs size s 6) (ddTake bs size (rsS size s 6))
def dpS (size : Nat) (s : Rs) : Rs := ddS size (rsS size s 6)
theorem dpTake_len (bs : List Nat) (size : Nat) (s : Rs) (h1 : s.1 ≤ size) (h2 : s.2 = false → size ≤ bs.length) : (dpTake bs size s).length = 289 ∧ (dpTake bs size s).toArray.all (·.oneCell') = true := by
  have q := rsS_ok (bs := bs) (size := size) (s := s) ⟨h1, h2⟩ 6
  obtain ⟨a1, a2⟩ := ddTake_len bs size _ q.1 q.2
  refine ⟨dpC_length _ _ (rsT_length _ _ _ _) (rsT_len ⟨h1, h2⟩ 6) a1, ?_⟩
  simp only [List.all_toArray, List.all_eq_true] at a2 ⊢
  intro v hv
  simp only [dpTake, dpC, List.mem_append, List.not_mem_nil, or_false] at hv
  rcases hv with hv | hv
  · exact cellsB_one _ v hv
  · exact a2 v hv
theorem dpZ_form : dpK (List.replicate 6 (zeros 32)) (zeros 32) (zeros 32) 0 (zeros 32) = cellsB (zeros 192) ++ ddC (zeros 32) (zeros 32) 0 (zeros 32) := by kernel_rfl
theorem run_sl6 {o : Oper} {a : Act} {w : World} (x : Operand) (ho : o.op = .slice 71 x none none none) (g : Nat) (hx : a.eval x = .pointer (some ⟨g, 0, none⟩)) : (execOp a.eval o).run Tryz.prog w = .ok (.value (.slice (some ⟨g, 0, none⟩) 6 6)) w := by
  unfold execOp
  simp only [ho, hx, Option.map]
  go_simp
set_option maxHeartbeats 2000000 in
theorem takeDp_any {g : Nat} {S : Nat → Prop} {bs : List Nat} {size : Nat} {ps : List Nat} (s : Rs) (w : World) (h : Rd w g S bs size s.1 ps s.2) (hs : size ≤ 4611686018427387904) (hl : bs.length ≤ 140737488355328) :
    Calls Tryz.prog 79 #[.pointer (some ⟨g, 0, none⟩)] w fun x w' => x = .returned (.agg (dpTake bs size s).toArray) ∧ (dpTake bs size s).length = 289 ∧ (dpTake bs size s).toArray.all (·.oneCell') = true ∧ Rd w' g S bs size (dpS size s).1 ps (dpS size s).2 ∧ w.grownBy w' (some g) := by
  have hgl := h.gt
  have HTL := hid (dpTake_len bs size s h.ts h.ok)
  have HR := hid h
  have HOK := hid (And.intro h.ts h.ok)
  have HS : Hid (∀ k, S k → k < w.heap.size) := hid h.lt
  clear h
  go_enter Tryz.func79, Tryz.ntmps79
  go_wp2_with ((with_reducible refine at_list' ?_); first
    | (refine wpList_alloc_c Tryz.ty75 rfl 2 rfl rfl ?_; intro w1 H1 B1 S1)
    | (refine wpList_alloc_c Tryz.ty75 rfl 3 rfl rfl ?_; intro w2 H2 B2 S2; rw [S1] at H2 S2; simp only [S1])
    | (refine wpList_run rfl (.slice (some ⟨w.heap.size + 1, 0, none⟩) 6 6) (run_sl6 (.tmp 5) rfl (w.heap.size + 1) rfl) ?_))
  rw [dpZ_form] at H2
  have X2 := (HR.out.below B1).below B2
  have s2 : w2.heap.size = w.heap.size + 2 := by omega
  have HQ := hid (takeRoots_any s w2 X2 hs hl (w.heap.size + 1) _ H2 (by omega) (fun e => by have := HS.out _ e; omega))
  have HA := hid (H1.keep B2)
  have HB := hid (B1.trans (B2.mono (by omega)))
  clear H1 B1 S1 H2 B2 S2 X2 HR
  refine HQ.out.mono ?_
  rintro e w3 ⟨⟨u, rfl⟩, q1, q2, q3⟩
  have HA3 : HasC w3 w.heap.size 75 (dpK (List.replicate 6 (zeros 32)) (zeros 32) (zeros 32) 0 (zeros 32)) := by
    have h := HA.out
    unfold HasC at h ⊢
    rw [q3.block w.heap.size (by omega) (by omega) (by omega)]
    exact h
  have HC3 := hid q1
  have G3 : w.grownBy w3 (some g) := ⟨q3.os.trans HB.out.os, q3.tape.trans HB.out.tape, q3.output.trans HB.out.output, by have := q3.size; omega, fun k hk hn => (q3.block k (by omega) (fun e => hn (by rw [e])) (by omega)).trans (HB.out.block k hk)⟩
  have GG3 := hid G3
  have HAA3 := hid HA3
  have s3 := q3.size
  have HQ2 := hid (takeDd_any (rsS size s 6) w3 q2 hs hl)
  clear q1 q2 q3 G3 HA3 HQ HA HB
  go_wp2_with fail
  refine HQ2.out.mono ?_
  rintro e w4 ⟨rfl, hD, hD1, q1, q2⟩
  have HC4 := HC3.out.grown q2 (by omega)
  have HA4 := hid (HAA3.out.grown q2 (by omega))
  have G4 := hid (grown_trans GG3.out q2)
  have X4 := hid q1
  have s4 := q2.size
  obtain ⟨E, hE⟩ : ∃ E, ddTake bs size (rsS size s 6) = E := ⟨_, rfl⟩
  rw [hE] at hD hD1
  rw [hE]
  have hfl : (cellsB (rsT bs size s 6).flatten).length = 192 := by
    rw [cellsB_length, flatten_roots _ (rsT_len HOK.out 6), rsT_length]
  have hz : (ddC (zeros 32) (zeros 32) 0 (zeros 32)).length = 97 := rfl
  rw [← List.append_nil (ddC (zeros 32) (zeros 32) 0 (zeros 32))] at HC4
  obtain ⟨p1, p2, p3⟩ := HC4.part (N := E) (o := 192) hfl (by rw [hD, hz])
  have hdp : cellsB (rsT bs size s 6).flatten ++ (E ++ []) = dpTake bs size s := by rw [← hE]; rfl
  rw [hdp] at p2
  have P := hid (And.intro p1 (And.intro p2 (And.intro p3 (And.intro hD hD1))))
  have hts : (Tryz.prog.info? 73).map (·.size) = some E.toArray.size := by rw [Tryz.ty73.size, List.size_toArray, hD]; rfl
  have HTS := hid hts
  clear p1 p2 p3 hD hD1 hz hfl hdp hE hts HC3 HC4 HAA3 GG3 q1 q2 HQ2
  go_wp2_with ((with_reducible refine at_list' ?_); first
    | (refine wpList_store_mid rfl 73 (.tmp 10) (.tmp 9) rfl (w.heap.size + 1) 192 E.toArray rfl rfl P.out.1 HTS.out P.out.2.2.2.2 ?_)
    | (refine wpList_load_c Tryz.ty75 rfl (.tmp 3) rfl (w.heap.size + 1) (dpTake bs size s) rfl (by rw [HTL.out.1]; rfl) P.out.2.1 ?_)
    | (refine wpList_store_c Tryz.ty75 rfl (.tmp 2) (.tmp 11) rfl w.heap.size (dpTake bs size s) rfl rfl (by rw [HTL.out.1]; rfl) HTL.out.2 _ (HA4.out.only P.out.2.2.1 (by omega)) rfl ?_; intro w9 H9 O9))
  refine bodyPost_ret (results_c1 Tryz.ty75 rfl _ w9 w.heap.size _ rfl H9 (by rw [HTL.out.1]; rfl)) rfl ?_
  have O5 := P.out.2.2.1
  have sz5 := O5.size
  have sz9 := O9.size
  refine ⟨rfl, HTL.out.1, HTL.out.2, X4.out.keep (by omega) (fun k hk => (O9.block k (by have := HS.out k hk; omega)).trans (O5.block k (by have := HS.out k hk; omega))) ((O9.block g (by omega)).trans (O5.block g (by omega))), (O9.os.trans O5.os).trans G4.out.os, (O9.tape.trans O5.tape).trans G4.out.tape, (O9.output.trans O5.output).trans G4.out.output, by omega, fun k hk hn => ((O9.block k (by omega)).trans (O5.block k (by omega))).trans (G4.out.block k hk hn)⟩
end Go.Proofs.YtlkiafggagaeeaaGreat

/- Deposits taken: answer, decode, ToDeposit. -/
namespace Go.Proofs.YtlkiafggagaeeaaGreat
open Go.RowKit Go.Shelf
set_option linter.unusedVariables false
set_option maxRecDepth 100000

def dpZ : List Value := dpK (List.replicate 6 (zeros 32)) (zeros 32) (zeros 32) 0 (zeros 32)
theorem dpZ_length : dpZ.length = 289 := rfl
theorem dpZ_one : dpZ.toArray.all (·.oneCell') = true := by kernel_rfl
/-- What a good or a bad Deposit answers. -/
def dpA (t : Bool) (C : List Value) : Value := .tuple #[.agg (if t then C else dpZ).toArray, .int .i64 (if t then 0 else 3)]
theorem dpA_form (t : Bool) (C : List Value) (hl : C.length = 289) (h1 : C.toArray.all (·.oneCell') = true) : ∃ (C' : List Value) (n : Int), dpA t C = .tuple #[.agg C'.toArray, .int .i64 n] ∧ C'.length = 289 ∧ C'.toArray.all (·.oneCell') = true := by
  cases t
  · exact ⟨dpZ, 3, rfl, dpZ_length, dpZ_one⟩
  · exact ⟨C, 0, rfl, hl, h1⟩
/-- What ToDeposit answers. -/
def dpD (bs : List Nat) : Value := if bs.length = 296 then dpA true (dpTake bs 296 (0, false)) else dpA false []

set_option maxHeartbeats 1000000 in
theorem answerDp_any (C : List Value) (t : Bool) (w : World) (hl : C.length = 289) (h1 : C.toArray.all (·.oneCell') = true) :
    Calls Tryz.prog 125 #[.agg C.toArray, .bool t] w fun x w' => x = .returned (dpA t C) ∧ Below w.heap.size w w' := by
  have HL := hid hl
  have H1C := hid h1
  clear hl h1
  cases t with
  | true =>
    go_enter Tryz.func125, Tryz.ntmps125
    go_wp2_with (first
      | (refine wpList_box_c rfl 2 rfl (.tmp 0) rfl C rfl ?_; intro w1 H1 B1 S1)
      | (refine wpList_alloc_c Tryz.ty75 rfl 4 rfl rfl ?_; intro w2 H2 B2 S2; rw [S1] at H2 S2; rw [S1])
      | (refine wpList_load_c Tryz.ty75 rfl (.tmp 2) rfl w.heap.size C rfl (by rw [HL.out]; rfl) (H1.keep B2) ?_)
      | (refine wpList_store_c Tryz.ty75 rfl (.tmp 4) (.tmp 10) rfl (w.heap.size + 1) C rfl rfl (by rw [HL.out]; rfl) H1C.out _ H2 rfl ?_; intro w3 H3 O3))
    refine bodyPost_ret (results_c Tryz.ty75 rfl _ w3 (w.heap.size + 1) C (.int .i64 0) rfl rfl H3 (by rw [HL.out]; rfl)) rfl ⟨rfl, ?_⟩
    exact below_only (B1.trans (B2.mono (by omega))) O3 (by omega)
  | false =>
    go_enter Tryz.func125, Tryz.ntmps125
    go_wp2_with (first
      | (refine wpList_box_c rfl 2 rfl (.tmp 0) rfl C rfl ?_; intro w1 H1 B1 S1)
      | (refine wpList_alloc_c Tryz.ty75 rfl 4 rfl rfl ?_; intro w2 H2 B2 S2; rw [S1] at H2 S2; rw [S1])
      | (refine wpList_alloc_c Tryz.ty75 rfl 6 rfl rfl ?_; intro w4 H4 B4 S4; rw [S2] at H4 S4; rw [S2])
      | (refine wpList_load_c Tryz.ty75 rfl (.tmp 6) rfl (w.heap.size + 1 + 1) dpZ rfl rfl H4 ?_)
      | (refine wpList_store_c Tryz.ty75 rfl (.tmp 4) (.tmp 9) rfl (w.heap.size + 1) dpZ rfl rfl rfl dpZ_one _ (H2.keep B4) rfl ?_; intro w3 H3 O3))
    refine bodyPost_ret (results_c Tryz.ty75 rfl _ w3 (w.heap.size + 1) dpZ (.int .i64 3) rfl rfl H3 rfl) rfl ⟨rfl, ?_⟩
    exact below_only (B1.trans ((B2.mono (by omega)).trans (B4.mono (by omega)))) O3 (by omega)

theorem partsDp {g : Nat} {S : Nat → Prop} {bs : List Nat} (w : World) (h : Rd w g S bs 296 (dpS 296 (0, decide (bs.length < 296))).1 [] (dpS 296 (0, decide (bs.length < 296))).2) (hl : bs.length ≤ 140737488355328) :
    Calls Tryz.prog 64 #[.pointer (some ⟨g, 0, none⟩)] w fun e w' => ∃ u, e = .returned (.tuple #[u, .bool (decide (bs.length = 296))]) ∧ Below w.heap.size w w' := by
  by_cases hlt : bs.length < 296
  · have h1 : decide (bs.length < 296) = true := by simp [hlt]
    have h2 : decide (bs.length = 296) = false := by simp; omega
    rw [h1] at h
    rw [h2]
    refine (parts_bad w h (.inl rfl) (by decide) hl (by simp)).mono ?_
    rintro e w' ⟨rfl, n, rfl⟩
    exact ⟨_, rfl, below_drew0 (Below.refl _ _) n⟩
  · have h1 : decide (bs.length < 296) = false := by simp; omega
    rw [h1] at h
    by_cases heq : bs.length = 296
    · rw [show decide (bs.length = 296) = true by simp [heq]]
      refine (parts_ok w h (fun _ => heq) (fun i hi => by simp at hi) (by decide) hl (by simp)).mono ?_
      rintro e w' ⟨u, rfl, _, hb⟩
      exact ⟨u, rfl, hb⟩
    · rw [show decide (bs.length = 296) = false by simp [heq]]
      refine (parts_bad w h (.inr (.inr ⟨rfl, heq⟩)) (by decide) hl (by simp)).mono ?_
      rintro e w' ⟨rfl, n, rfl⟩
      exact ⟨_, rfl, below_drew0 (Below.refl _ _) n⟩

theorem dp_ans (bs : List Nat) (C : List Value) (h : dpTake bs 296 (0, decide (bs.length < 296)) = C) : dpA (decide (bs.length = 296)) C = dpD bs := by
  unfold dpD
  by_cases hl : bs.length = 296
  · rw [if_pos hl, ← h, show decide (bs.length < 296) = false by simp; omega, show decide (bs.length = 296) = true by simp [hl]]
  · rw [if_neg hl, show decide (bs.length = 296) = false by simp [hl]]
    rfl

set_option maxHeartbeats 1000000 in
theorem decodeDp_any (v : Value) (bs : List Nat) (w : World) (hB : IsB w v bs) (hl : bs.length ≤ 140737488355328) :
    Calls Tryz.prog 78 #[v, .int .i64 296, .func (.func 79) #[] #[]] w fun x w' => x = .returned (dpD bs) ∧ Below w.heap.size w w' := by
  have HI := hid hB
  obtain ⟨⟨ao, cap, rfl, _⟩, _⟩ := hB
  go_enter Tryz.func78, Tryz.ntmps78
  go_wp2_with ((with_reducible refine at_list' ?_); first
    | (refine wpList_alloc_c Tryz.ty75 rfl 6 rfl rfl ?_; intro w1 H1 B1 S1))
  have HC := hid (read_any _ bs 296 w1 (HI.out.keep B1) (by decide) hl)
  have HH1 := hid H1
  have HB1 := hid B1
  have s1 := S1
  clear H1 B1 S1 HI
  refine HC.out.mono ?_
  rintro e w2 ⟨g, S, hg, rfl, q1, q2, q3⟩
  have HT := hid (takeDp_any (0, decide (bs.length < 296)) w2 q1 (by decide) hl)
  have HH2 := hid (HH1.out.keep q3)
  have HB2 := hid (HB1.out.trans (q3.mono (by omega)))
  have s2 := q3.size
  have hgl := q1.gt
  clear q1 q2 q3 HC HH1 HB1
  go_wp2_with fail
  refine HT.out.mono ?_
  rintro e w3 ⟨rfl, h32, h33, q1, q2⟩
  have HH3 := hid (HH2.out.grown q2 (by omega))
  have s3 := q2.size
  have HB3 : Hid (Below w.heap.size w w3) := hid ⟨q2.os.trans HB2.out.os, q2.tape.trans HB2.out.tape, q2.output.trans HB2.out.output, by omega, fun j hj => (q2.block j (by omega) (fun h => by have := Option.some.inj h; omega)).trans (HB2.out.block j hj)⟩
  have HR := hid q1
  have H32 := hid h32
  have H33 := hid h33
  clear q1 q2 h32 h33 HT HH2 HB2
  obtain ⟨E, hE⟩ : ∃ E, dpTake bs 296 (0, decide (bs.length < 296)) = E := ⟨_, rfl⟩
  rw [hE] at H32 H33
  rw [hE]
  have HE := hid hE
  clear hE
  go_wp2_with ((with_reducible refine at_list' ?_); first
    | (refine wpList_alloc_c Tryz.ty75 rfl 9 rfl rfl ?_; intro w4 H4 B4 S4)
    | (refine wpList_store_c Tryz.ty75 rfl (.tmp 9) (.tmp 17) rfl w3.heap.size (E) rfl rfl (by rw [H32.out]; rfl) H33.out _ H4 rfl ?_; intro w5 H5 O5))
  have s5 := O5.size
  have B35 : Below w3.heap.size w3 w5 := below_only B4 O5 (Nat.le_refl _)
  have HP := hid (partsDp w5 (HR.out.below B35) hl)
  have HB5 := hid (HB3.out.trans (B35.mono (by omega)))
  have HH5 := hid (HH3.out.keep B35)
  have HX5 := hid H5
  have HA := hid (dp_ans bs E HE.out)
  clear H4 B4 O5 H5 B35 HR HB3 HH3 HE
  refine HP.out.mono ?_
  rintro e w6 ⟨u, rfl, B6⟩
  have HB6 := hid (HB5.out.trans (B6.mono (by omega)))
  have HH6 := hid (HH5.out.keep B6)
  have HX6 := hid (HX5.out.keep B6)
  have s6 := B6.size
  clear B6 HP HB5 HH5 HX5
  obtain ⟨t, ht⟩ : ∃ t, decide (bs.length = 296) = t := ⟨_, rfl⟩
  rw [ht]
  rw [ht] at HA
  obtain ⟨C, n, hC, hCl, hC1⟩ := dpA_form t E H32.out H33.out
  have HC := hid hC
  have HCl := hid hCl
  have HC1 := hid hC1
  clear ht hC hCl hC1
  go_wp2_with ((with_reducible refine at_list' ?_); first
    | (refine wpList_load_c Tryz.ty75 rfl (.tmp 9) rfl w3.heap.size (E) rfl (by rw [H32.out]; rfl) HX6.out ?_))
  have HN := hid (answerDp_any E t w6 H32.out H33.out)
  rw [HC.out] at HN
  refine HN.out.mono ?_
  rintro e w7 ⟨rfl, B7⟩
  have HB7 := hid (HB6.out.trans (B7.mono (by omega)))
  have HH7 := hid (HH6.out.keep B7)
  have s7 := B7.size
  clear B7 HB6 HH6 HN HX6
  go_wp2_with ((with_reducible refine at_list' ?_); first
    | (refine wpList_store_c Tryz.ty75 rfl (.tmp 6) (.tmp 26) rfl w.heap.size C rfl rfl (by rw [HCl.out]; rfl) HC1.out _ HH7.out rfl ?_; intro w8 H8 O8))
  refine bodyPost_ret (results_c Tryz.ty75 rfl _ w8 w.heap.size C (.int .i64 n) rfl rfl H8 (by rw [HCl.out]; rfl)) rfl ⟨?_, below_only HB7.out O8 (Nat.le_refl _)⟩
  rw [← HC.out, HA.out]

set_option maxHeartbeats 1000000 in
theorem toDp_any (v : Value) (bs : List Nat) (w : World) (hB : IsB w v bs) (hl : bs.length ≤ 140737488355328) :
    Calls Tryz.prog 31 #[v] w fun x w' => x = .returned (dpD bs) ∧ Below w.heap.size w w' := by
  have HI := hid hB
  obtain ⟨⟨ao, cap, rfl, _⟩, _⟩ := hB
  obtain ⟨C, n, hC, hCl, hC1⟩ : ∃ (C : List Value) (n : Int), dpD bs = .tuple #[.agg C.toArray, .int .i64 n] ∧ C.length = 289 ∧ C.toArray.all (·.oneCell') = true := by
    rw [← dp_ans bs _ rfl]
    obtain ⟨h1, h2⟩ := dpTake_len bs 296 (0, decide (bs.length < 296)) (Nat.zero_le _) (fun h => by simpa using h)
    exact dpA_form _ _ h1 h2
  have HC := hid hC
  have HCl := hid hCl
  have HC1 := hid hC1
  rw [hC]
  clear hC hCl hC1
  go_enter Tryz.func31, Tryz.ntmps31
  go_wp2_with ((with_reducible refine at_list' ?_); first
    | (refine wpList_alloc_c Tryz.ty75 rfl 2 rfl rfl ?_; intro w1 H1 B1 S1))
  have HN := hid (decodeDp_any _ bs w1 (HI.out.keep B1) hl)
  rw [HC.out] at HN
  have HH := hid H1
  have HB := hid B1
  have s1 := S1
  clear H1 B1 S1 HI
  refine HN.out.mono ?_
  rintro e w7 ⟨rfl, B7⟩
  have HB7 := hid (HB.out.trans (B7.mono (by omega)))
  have HH7 := hid (HH.out.keep B7)
  have s7 := B7.size
  clear B7 HN HH HB
  go_wp2_with ((with_reducible refine at_list' ?_); first
    | (refine wpList_store_c Tryz.ty75 rfl (.tmp 2) (.tmp 6) rfl w.heap.size C rfl rfl (by rw [HCl.out]; rfl) HC1.out _ HH7.out rfl ?_; intro w8 H8 O8))
  refine bodyPost_ret (results_c Tryz.ty75 rfl _ w8 w.heap.size C (.int .i64 n) rfl rfl H8 (by rw [HCl.out]; rfl)) rfl ⟨rfl, below_only HB7.out O8 (Nat.le_refl _)⟩
end Go.Proofs.YtlkiafggagaeeaaGreat

/- Steps of a flow over the document's values. -/
namespace Go.Proofs.YtlkiafggagaeeaaGreat
open Go.RowKit
set_option linter.unusedVariables false
set_option maxRecDepth 100000
theorem fieldV (k off : Nat) (h : (k = 0 ∧ off = 0) ∨ (k = 1 ∧ off = 1) ∨ (k = 2 ∧ off = 33) ∨ (k = 3 ∧ off = 34)) (g : Nat) (w : World) : (Instr.fieldAt 33 (.pointer (some ⟨g, 0, none⟩)) k).run Tryz.prog w = .ok (.pointer (some ⟨g, off, none⟩)) w := by
  rcases h with ⟨rfl, rfl⟩ | ⟨rfl, rfl⟩ | ⟨rfl, rfl⟩ | ⟨rfl, rfl⟩ <;> kernel_rfl
end Go.Proofs.YtlkiafggagaeeaaGreat

/- Flows whose operations may also store into memory that the others don't read: over any order of worlds R in the place of 'nothing old has turned'. -/
namespace Go.Proofs.YtlkiafggagaeeaaGreat
open Go Go.RowKit
set_option linter.unusedVariables false
section
variable {P : Program}
structure FlowRInv (R : World → World → Prop) (ops : Array Oper) (n : Nat) (I : Nat → Value → World → Prop) (w0 : World) (a0 : Act) (done : Array Bool) (a : Act) (w : World) : Prop where
  head : HeadInv .any ops n done
  cls : R w0 w
  defers : a.defers = a0.defers
  size : a.tmps.size = a0.tmps.size
  keep : ∀ s, (∀ i, i < n → dstOf ops i ≠ some s) → a.tmps[s]? = a0.tmps[s]?
  known : ∀ i, i < n → done.getD i false = true → ∀ d, dstOf ops i = some d → I i (a.tmps.getD d undef) w
  stor : ∀ i, i < n → done.getD i false = true → dstOf ops i = none → ∃ v, I i v w
theorem flowR_any {R : World → World → Prop} {ops : Array Oper} {n late : Nat} {I : Nat → Value → World → Prop} {w0 : World} {a0 : Act} {Q : Exit → Act → World → Prop} (hB : flowGB ops n late a0.tmps.size = true)
    (hRr : ∀ w, R w w) (hRt : ∀ a b c, R a b → R b c → R a c) (hRd : ∀ w : World, R w { w with drawn := w.drawn + 1 })
    (hQ : ∀ c d v a w, Q (.panic c) (a.put d v) w → Q (.panic c) a w)
    (hguard : ∀ i o g b, i < n → ops[i]? = some o → o.guard = some (g, b) → ∀ v w, I g v w → v = .bool b)
    (hI : ∀ i v w w', i < n → I i v w → R w w' → I i v w')
    (hop : ∀ i o, i < n → ops[i]? = some o → ∀ a w, R w0 w → (∀ s, (∀ j, j < n → dstOf ops j ≠ some s) → a.tmps.getD s undef = a0.tmps.getD s undef) →
      (∀ j d, dstOf ops j = some d → (o.after.any fun e => Region.binds .any e && e.on == j) = true → I j (a.tmps.getD d undef) w) →
      o.wp P a w (fun a' w' => ∃ v, a' = a.put o.dst v ∧ I i v w' ∧ R w w') Q)
    (hlate : ∀ o, late < n → ops[late]? = some o → ∀ (a : Act) w, R w0 w → (∀ s, (∀ j, j < n → dstOf ops j ≠ some s) → a.tmps.getD s undef = a0.tmps.getD s undef) →
      (∀ j d, dstOf ops j = some d → (o.after.any fun e => Region.binds .any e && e.on == j) = true → I j (a.tmps.getD d undef) w) → ∃ v, (∀ w, (execOp a.eval o).run P w = .ok (.value v) w) ∧ I late v w)
    (htail : ∀ v w, R w0 w → (∀ i d, i < n → dstOf ops i = some d → I i (v i) w) → (∀ i, i < n → dstOf ops i = none → ∃ v, I i v w) → wpAny P .any ops Q (ops.size - n) ((List.range ops.size).map fun i => decide (i < n)).toArray (putAll v (ops.toList.take n) 0 a0) w) :
    ∀ f (done : Array Bool) (a : Act) (w : World), (List.range n).countP (fun i => !done.getD i true) = f → FlowRInv R ops n I w0 a0 done a w → wpAny P .any ops Q (f + (ops.size - n)) done a w := by
  simp only [flowGB, Bool.and_eq_true, decide_eq_true_eq, List.all_eq_true, List.mem_range, Bool.or_eq_true] at hB
  obtain ⟨⟨⟨⟨⟨hn, hsel⟩, hdir⟩, hall⟩, hlt8⟩, hseq⟩ := hB
  have hat : ∀ i, i < n → ∃ o, ops[i]? = some o := fun i hi => ⟨_, Array.getElem?_eq_getElem (by omega)⟩
  have hgd : ∀ i o, i < n → ops[i]? = some o → (∀ g b, o.guard = some (g, b) → Region.waitsFor .any ops i g = true ∧ ∃ d, dstOf ops g = some d) ∧ (∀ e ∈ o.after, Region.binds .any e = true → e.on < i) ∧ ∀ d, o.dst = some d → d < a0.tmps.size ∧ ∀ j, j < n → j ≠ i → dstOf ops j ≠ some d := by
    intro i o hi ho
    have := hall i hi
    rw [ho] at this
    simp only [Bool.and_eq_true, Array.all_eq_true_iff_forall_mem, Bool.or_eq_true, Bool.not_eq_true', decide_eq_true_eq] at this
    obtain ⟨⟨h1, h2⟩, h3⟩ := this
    refine ⟨fun g b hg => by
      rw [hg] at h1
      simp only [Bool.and_eq_true] at h1
      exact ⟨h1.1.2, Option.isSome_iff_exists.1 h1.2⟩, fun e he hb => (h2 e he).resolve_left (by rw [hb]; decide), fun d hd => ?_⟩
    rw [hd] at h3
    simp only [Bool.and_eq_true, decide_eq_true_eq, List.all_eq_true, List.mem_range, Bool.or_eq_true] at h3
    exact ⟨h3.1, fun j hj hne => (h3.2 j hj).resolve_left hne⟩
  intro f
  induction f with
  | zero =>
    intro done a w hcount inv
    have hdone : ∀ i, i < n → done.getD i true = true := fun i hi => by
      have := List.countP_eq_zero.1 hcount i (List.mem_range.2 hi)
      simpa using this
    have hdn : done = ((List.range ops.size).map fun i => decide (i < n)).toArray := by
      apply Array.ext_getElem?
      intro i
      by_cases hi : i < ops.size
      · have hi' : i < done.size := by rw [inv.head.size]; exact hi
        have h1 : (((List.range ops.size).map fun i => decide (i < n)).toArray)[i]? = some (decide (i < n)) := by simp [hi]
        rw [h1, Array.getElem?_eq_getElem hi']
        by_cases hin : i < n
        · have := hdone i hin
          simp [hi'] at this
          simp [hin, this]
        · have := inv.head.tail i (by omega) hi
          simp [hi'] at this
          simp [hin, this]
      · rw [Array.getElem?_eq_none (by rw [inv.head.size]; omega), Array.getElem?_eq_none (by simp; omega)]
    have hk : ∀ i, i < n → done.getD i false = true := fun i hi => by
      have h1 := hdone i hi
      have hi' : i < done.size := by rw [inv.head.size]; omega
      simp [hi'] at h1 ⊢
      exact h1
    have ha : a = putAll (fun i => match dstOf ops i with | some d => a.tmps.getD d undef | none => undef) (ops.toList.take n) 0 a0 := by
      have hd1 := putAll_defers (fun i => match dstOf ops i with | some d => a.tmps.getD d undef | none => undef) (ops.toList.take n) 0 a0
      have hs1 := putAll_size (fun i => match dstOf ops i with | some d => a.tmps.getD d undef | none => undef) (ops.toList.take n) 0 a0
      have ht1 : ∀ s, a.tmps[s]? = (putAll (fun i => match dstOf ops i with | some d => a.tmps.getD d undef | none => undef) (ops.toList.take n) 0 a0).tmps[s]? := fun s => by
        rw [putAll_get _ s (a.tmps.getD s undef) _ 0 a0 (fun j o hj ho => by
          rw [List.getElem?_take] at hj
          split at hj
          · have : dstOf ops j = some s := by unfold dstOf; rw [Array.getElem?_toList] at hj; rw [hj]; exact ho
            rw [Nat.zero_add, this]
          · cases hj)]
        split
        · rename_i h
          rw [Array.getElem?_eq_getElem (by rw [inv.size]; exact h.2)]
          simp [inv.size, h.2]
        · rename_i h
          by_cases hsz : s < a0.tmps.size
          · refine inv.keep s fun i hi e => h ⟨?_, hsz⟩
            obtain ⟨o, ho⟩ := hat i hi
            refine ⟨o, ?_, by unfold dstOf at e; rw [ho] at e; exact e⟩
            rw [List.mem_take_iff_getElem]
            have := Array.getElem?_eq_some_iff.1 ho
            exact ⟨i, by simp; omega, by simpa using this.2⟩
          · rw [Array.getElem?_eq_none (by rw [inv.size]; omega), Array.getElem?_eq_none (by omega)]
      generalize putAll (fun i => match dstOf ops i with | some d => a.tmps.getD d undef | none => undef) (ops.toList.take n) 0 a0 = b at *
      obtain ⟨ta, da⟩ := a
      obtain ⟨tb, db⟩ := b
      have e1 : ta = tb := Array.ext_getElem? ht1
      have e2 : da = db := inv.defers.trans hd1.symm
      rw [e1, e2]
    rw [Nat.zero_add, ha, hdn]
    refine htail _ w inv.cls (fun i d hi hd => ?_) (fun i hi hd => inv.stor i hi (hk i hi) hd)
    have := inv.known i hi (hk i hi) d hd
    simpa [hd] using this
  | succ f ih =>
    intro done a w hcount inv
    have hex : ∃ i, i < n ∧ done.getD i true = false := by
      have : 0 < (List.range n).countP (fun i => !done.getD i true) := by omega
      obtain ⟨i, hi, hd⟩ := List.countP_pos_iff.1 this
      exact ⟨i, List.mem_range.1 hi, by simpa using hd⟩
    have hready : ∃ i, i < n ∧ i ∈ Region.ready .any ops done := by
      obtain ⟨i0, hi0, hd0⟩ := hex
      have key : ∀ m, m < n → done.getD m true = false → ∃ i, i < n ∧ i ∈ Region.ready .any ops done := by
        intro m
        induction m using Nat.strongRecOn with
        | _ m ihm =>
          intro hm hd
          obtain ⟨o, ho⟩ := hat m hm
          by_cases hw : ∀ e ∈ o.after, Region.binds .any e = true → done.getD e.on false = true
          · exact ⟨m, hm, mem_ready.2 ⟨hd, o, ho, hw⟩⟩
          · simp only [Classical.not_forall] at hw
            obtain ⟨e, he, hb, hnd⟩ := hw
            have hlt := (hgd m o hm ho).2.1 e he hb
            refine ihm e.on hlt (by omega) ?_
            have hi' : e.on < done.size := by rw [inv.head.size]; omega
            simp [hi'] at hnd ⊢
            exact hnd
      exact key i0 hi0 hd0
    obtain ⟨r, hr, hrr⟩ := hready
    rw [Nat.succ_add]
    have hstep : ∀ i o v w', i < n → i ∈ Region.ready .any ops done → ops[i]? = some o → I i v w' → R w w' →
        (List.range n).countP (fun j => !(done.setIfInBounds i true).getD j true) = f ∧ FlowRInv R ops n I w0 a0 (done.setIfInBounds i true) (a.put o.dst v) w' := by
      intro i o v w' hin hi ho hv hB
      obtain ⟨hun, o', ho', hwait⟩ := mem_ready.1 hi
      obtain ⟨g1, g2, g3⟩ := hgd i o hin ho
      refine ⟨?_, inv.head.set hi hin, hRt _ _ _ inv.cls hB, by rw [put_defers]; exact inv.defers, by rw [put_size]; exact inv.size, fun s hs' => ?_, fun j hj hdj d hd => ?_, fun j hj hdj hd => ?_⟩
      · have hii : i < done.size := by rw [inv.head.size]; omega
        have hcp := count_step done i hii hun n hin
        omega
      · rw [put_get, if_neg (fun h => hs' i hin (by unfold dstOf; rw [ho]; exact h.1))]
        exact inv.keep s hs'
      · by_cases e : j = i
        · subst e
          have hd' : o.dst = some d := by unfold dstOf at hd; rw [ho] at hd; exact hd
          have : (a.put o.dst v).tmps.getD d undef = v := by
            rw [Array.getD_eq_getD_getElem?, put_get, if_pos ⟨hd', by rw [inv.size]; exact (g3 d hd').1⟩]; rfl
          rw [this]; exact hv
        · have hdj' : done.getD j false = true := by rwa [getD_set_ne false (Ne.symm e)] at hdj
          have : (a.put o.dst v).tmps.getD d undef = a.tmps.getD d undef := by
            rw [Array.getD_eq_getD_getElem?, put_get, if_neg (fun h => (g3 d h.1).2 j hj e hd), ← Array.getD_eq_getD_getElem?]
          rw [this]
          exact hI j _ w w' hj (inv.known j hj hdj' d hd) hB
      · by_cases e : j = i
        · subst e
          exact ⟨v, hv⟩
        · have hdj' : done.getD j false = true := by rwa [getD_set_ne false (Ne.symm e)] at hdj
          obtain ⟨u, hu⟩ := inv.stor j hj hdj' hd
          exact ⟨u, hI j _ w w' hj hu hB⟩
    have hdeps : ∀ i o, i < n → i ∈ Region.ready .any ops done → ops[i]? = some o → ∀ j d, dstOf ops j = some d → (o.after.any fun e => Region.binds .any e && e.on == j) = true → I j (a.tmps.getD d undef) w := by
      intro i o hin hi ho j d hd hj
      obtain ⟨hun, o', ho', hwait⟩ := mem_ready.1 hi
      obtain rfl : o' = o := Option.some.inj (ho'.symm.trans ho)
      obtain ⟨g1, g2, g3⟩ := hgd i o' hin ho
      obtain ⟨k, hk, hk2⟩ := Array.any_eq_true.1 hj
      simp only [Bool.and_eq_true, beq_iff_eq] at hk2
      have hmem := Array.getElem_mem hk
      have hl := hwait _ hmem hk2.1
      have hlt := g2 _ hmem hk2.1
      rw [hk2.2] at hl hlt
      exact inv.known j (by omega) hl d hd
    have hwant : ∀ i o, i < n → i ∈ Region.ready .any ops done → ops[i]? = some o → Region.wanted o (yielded ops a.tmps) = true := by
      intro i o hin hi ho
      unfold Region.wanted
      cases hg : o.guard with
      | none => rfl
      | some gb =>
        obtain ⟨g, b⟩ := gb
        obtain ⟨q2, d, hd⟩ := (hgd i o hin ho).1 g b hg
        unfold Region.waitsFor at q2
        rw [ho] at q2
        have hv := hguard i o g b hin ho hg _ _ (hdeps i o hin hi ho g d hd q2)
        have hv2 : a.tmps[d]? = some (.bool b) := by
          rw [Array.getD_eq_getD_getElem?] at hv
          cases hq : a.tmps[d]? with
          | none => rw [hq] at hv; cases hv
          | some u => rw [hq] at hv; exact congrArg some hv
        have hy : yielded ops a.tmps g = some b := by
          unfold dstOf at hd
          unfold yielded
          rw [hd]
          simp [hv2]
        simp [hy]
    have hkeep : ∀ s, (∀ j, j < n → dstOf ops j ≠ some s) → a.tmps.getD s undef = a0.tmps.getD s undef := fun s hs' => by rw [Array.getD_eq_getD_getElem?, inv.keep s hs', ← Array.getD_eq_getD_getElem?]
    by_cases hbut : ∀ i, i < n → i ≠ late → done.getD i true = true
    · have hrl : r = late := Classical.byContradiction fun h => by
        have h1 := hbut r hr h
        rw [(mem_ready.1 hrr).1] at h1; cases h1
      subst hrl
      have hdn : done = doneBut ops n r := by
        apply Array.ext_getElem?
        intro i
        by_cases hi : i < ops.size
        · have hi' : i < done.size := by rw [inv.head.size]; exact hi
          have h1 : (doneBut ops n r)[i]? = some (decide (i < n) && decide (i ≠ r)) := by simp [doneBut, hi]
          rw [h1, Array.getElem?_eq_getElem hi']
          by_cases hin : i < n
          · by_cases hir : i = r
            · subst hir
              have := (mem_ready.1 hrr).1
              simp [hi'] at this
              simp [this]
            · have := hbut i hin hir
              simp [hi'] at this
              simp [hin, hir, this]
          · have := inv.head.tail i (by omega) hi
            simp [hi'] at this
            simp [hin, this]
        · rw [Array.getElem?_eq_none (by rw [inv.head.size]; omega), Array.getElem?_eq_none (by simp [doneBut]; omega)]
      obtain ⟨o, ho⟩ := hat r hr
      obtain ⟨v, hrun, hv⟩ := hlate o hr ho a w inv.cls hkeep (hdeps r o hr hrr ho)
      obtain ⟨q1, q2⟩ := hstep r o v w hr hrr ho hv (hRr w)
      have hw := hwant r o hr hrr ho
      have hfr := hlt8.resolve_left (by omega)
      rw [← hdn] at hfr
      exact wpAny_take ho hsel hfr.1 hfr.2 (fun c a w h => hQ c _ _ a w h) (.inl ⟨hw, hrun⟩) (ih _ _ _ q1 q2)
    · simp only [Classical.not_forall] at hbut
      obtain ⟨u, hu, hul, hud⟩ := hbut
      have hud' : done.getD u false = false := by
        have hi' : u < done.size := by rw [inv.head.size]; omega
        simp [hi'] at hud ⊢
        exact hud
      refine ⟨fun e => (by rw [e] at hrr; cases hrr), fun i hi => ?_⟩
      obtain ⟨hun, o, ho, hwait⟩ := mem_ready.1 hi
      have hin : i < n := Nat.lt_of_not_le fun h => by
        have his : i < ops.size := (Array.getElem?_eq_some_iff.1 ho).1
        have hw := ((hdir i his).resolve_left (by omega) u hu).resolve_left hul
        have := reach_done inv.head.closed u 4 i o ho hwait hw
        rw [hud'] at this
        cases this
      unfold wpOp
      rw [ho]
      have hw := hwant i o hin hi ho
      simp only [hw, if_true]
      refine .inl (Oper.wp_mono ?_ (hop i o hin ho a w inv.cls hkeep (hdeps i o hin hi ho)))
      rintro a' w' ⟨v, rfl, hv, hB⟩
      obtain ⟨q1, q2⟩ := hstep i o v w' hin hi ho hv hB
      exact ih _ _ _ q1 q2

/-- The region, told as a flow. -/
theorem wp_region_flowR {id : Nat} {Q : Exit → Act → World → Prop} {a : Act} {w : World} {l : List Oper} (R : World → World → Prop) (n late : Nat) (I : Nat → Value → World → Prop) (hm : P.follows .mixedOrders = true) (hB : flowGB l.toArray n late a.tmps.size = true)
    (hRr : ∀ w, R w w) (hRt : ∀ a b c, R a b → R b c → R a c) (hRd : ∀ w : World, R w { w with drawn := w.drawn + 1 })
    (hQ : ∀ c d v a w, Q (.panic c) (a.put d v) w → Q (.panic c) a w)
    (hguard : ∀ i o g b, i < n → l.toArray[i]? = some o → o.guard = some (g, b) → ∀ v w, I g v w → v = .bool b)
    (hI : ∀ i v w w', i < n → I i v w → R w w' → I i v w')
    (hop : ∀ i o, i < n → l.toArray[i]? = some o → ∀ a' w', R w w' → (∀ s, (∀ j, j < n → dstOf l.toArray j ≠ some s) → a'.tmps.getD s undef = a.tmps.getD s undef) →
      (∀ j d, dstOf l.toArray j = some d → (o.after.any fun e => Region.binds .any e && e.on == j) = true → I j (a'.tmps.getD d undef) w') →
      o.wp P a' w' (fun a'' w'' => ∃ v, a'' = a'.put o.dst v ∧ I i v w'' ∧ R w' w'') Q)
    (hlate : ∀ o, late < n → l.toArray[late]? = some o → ∀ (a' : Act) w', R w w' → (∀ s, (∀ j, j < n → dstOf l.toArray j ≠ some s) → a'.tmps.getD s undef = a.tmps.getD s undef) →
      (∀ j d, dstOf l.toArray j = some d → (o.after.any fun e => Region.binds .any e && e.on == j) = true → I j (a'.tmps.getD d undef) w') → ∃ v, (∀ w, (execOp a'.eval o).run P w = .ok (.value v) w) ∧ I late v w')
    (htail : ∀ v w', R w w' → (∀ i d, i < n → dstOf l.toArray i = some d → I i (v i) w') → (∀ i, i < n → dstOf l.toArray i = none → ∃ v, I i v w') → wpList P l.toArray Q (l.drop n) (putAll v (l.take n) 0 a) w') : (Code.region id l.toArray true).wp P Q a w := by
  have hB' := hB
  simp only [flowGB, Bool.and_eq_true, decide_eq_true_eq] at hB'
  have hn : n < l.length := by simpa using hB'.1.1.1.1.1
  have h3 : (l.drop n).length = l.toArray.size - n := by simp
  refine wp_region_any hm ?_
  have hc0 : (List.range n).countP (fun i => !(Array.replicate l.toArray.size false).getD i true) = n := by
    have : (List.range n).countP (fun i => !(Array.replicate l.toArray.size false).getD i true) = (List.range n).length := List.countP_eq_length.2 fun i hi => by
      have := List.mem_range.1 hi
      simp [show i < l.length by omega]
    rw [this, List.length_range]
  have K := flowR_any (P := P) (Q := Q) (w0 := w) (a0 := a) (R := R) hB hRr hRt hRd hQ hguard hI hop hlate (fun v w' hc hv hs => by
    have := wpAny_of_seq (P := P) (md := .any) (Q' := Q) (l.drop n) n _ _ w' (fun j => by simp [List.getElem?_drop]) (by rw [h3]; exact hB'.2) (htail v w' hc hv hs)
    rw [h3] at this
    simpa using this) n (Array.replicate l.toArray.size false) a { w with drawn := w.drawn + 1 } hc0
    ⟨⟨by simp, fun j oj _ hx => (by rw [getD_replicate_false] at hx; cases hx), fun t _ ht => getD_in (by simpa using ht) (getD_replicate_false _ _)⟩, hRd w, rfl, rfl, fun _ _ => rfl, fun i _ hx => (by rw [getD_replicate_false] at hx; cases hx), fun i _ hx => (by rw [getD_replicate_false] at hx; cases hx)⟩
  rwa [show n + (l.toArray.size - n) = l.toArray.size by simp; omega] at K
end
/-- Nothing has turned but the block g, and that only to hold NEW. -/
structure TurnsTo (g : Nat) (new : Obj) (w w' : World) : Prop where
  os : w'.os = w.os
  tape : w'.tape = w.tape
  output : w'.output = w.output
  size : w.heap.size ≤ w'.heap.size
  block : ∀ k, k < w.heap.size → k ≠ g → w'.heap[k]? = w.heap[k]?
  self : w'.heap[g]? = w.heap[g]? ∨ w'.heap[g]? = some new
theorem TurnsTo.refl (g : Nat) (new : Obj) (w : World) : TurnsTo g new w w := ⟨rfl, rfl, rfl, Nat.le_refl _, fun _ _ _ => rfl, .inl rfl⟩
theorem TurnsTo.trans {g : Nat} {new : Obj} {a b c : World} (h : TurnsTo g new a b) (k : TurnsTo g new b c) : TurnsTo g new a c :=
  ⟨k.os.trans h.os, k.tape.trans h.tape, k.output.trans h.output, Nat.le_trans h.size k.size, fun i hi hg => (k.block i (Nat.lt_of_lt_of_le hi h.size) hg).trans (h.block i hi hg), by
    rcases k.self with e | e
    · rw [e]; exact h.self
    · exact .inr e⟩
theorem TurnsTo.drew (g : Nat) (new : Obj) (w : World) : TurnsTo g new w { w with drawn := w.drawn + 1 } := ⟨rfl, rfl, rfl, Nat.le_refl _, fun _ _ _ => rfl, .inl rfl⟩
theorem TurnsTo.of_below {g : Nat} {new : Obj} {w w' : World} (h : Below w.heap.size w w') (hg : g < w.heap.size) : TurnsTo g new w w' :=
  ⟨h.os, h.tape, h.output, h.size, fun k hk _ => h.block k hk, .inl (h.block g hg)⟩
theorem TurnsTo.below {B g : Nat} {new : Obj} {w w' : World} (h : TurnsTo g new w w') (hg : B ≤ g) (hB : B ≤ w.heap.size) : Below B w w' :=
  ⟨h.os, h.tape, h.output, h.size, fun k hk => h.block k (by omega) (by omega)⟩
theorem TurnsTo.cell {g : Nat} {new : Obj} {w w' : World} (h : TurnsTo g new w w') {p : Addr} (hp : p.block ≠ g) {v : Value} (hc : w.cell? p = some v) : w'.cell? p = some v :=
  (World.cell?_of_block (h.block p.block (block_lt_of_cell hc) hp)).trans hc
theorem TurnsTo.isB {g : Nat} {new : Obj} {w w' : World} (h : TurnsTo g new w w') {v : Value} {bs : List Nat} (hI : IsB w v bs) (hS : inS (fun k => k ≠ g) v) : IsB w' v bs :=
  hI.keepS hS fun k hk hl => h.block k hl hk
theorem IsT.keepS {l : List Bool} {v : Value} {w w' : World} {S : Nat → Prop} (h : IsT w v l) (hS : inS S v) (hk : ∀ k, S k → k < w.heap.size → w'.heap[k]? = w.heap[k]?) : IsT w' v l := by
  obtain ⟨ao, cap, rfl, h1, h2, h3⟩ := h
  refine ⟨ao, cap, rfl, h1, h2, ?_⟩
  rcases h3 with h3 | ⟨b, off, rfl, hc⟩
  · exact .inl h3
  · exact .inr ⟨b, off, rfl, fun i hi => (World.cell?_of_block (a := ⟨b, off + i, none⟩) (hk b hS (block_lt_of_cell (hc i hi)))).trans (hc i hi)⟩
theorem TurnsTo.isT {g : Nat} {new : Obj} {w w' : World} (h : TurnsTo g new w w') {v : Value} {l : List Bool} (hI : IsT w v l) (hS : inS (fun k => k ≠ g) v) : IsT w' v l :=
  hI.keepS hS fun k hk hl => h.block k hl hk
theorem TurnsTo.range {g : Nat} {new : Obj} {w w' : World} (h : TurnsTo g new w w') {b o : Nat} {cs : List Value} (hb : b ≠ g) (hc : w.rangeAt b o cs) : w'.rangeAt b o cs := fun j v hv => h.cell (p := ⟨b, o + j, none⟩) hb (hc j v hv)
section
variable {P : Program} {o : Oper} {a : Act} {w : World} {Q : Exit → Act → World → Prop} {I : Value → World → Prop} {R : World → World → Prop}
theorem flowR_of (hR : ∀ w', Below w.heap.size w w' → R w w') (h : o.wp P a w (fun a' w' => ∃ v, a' = a.put o.dst v ∧ I v w' ∧ Below w.heap.size w w') Q) : o.wp P a w (fun a' w' => ∃ v, a' = a.put o.dst v ∧ I v w' ∧ R w w') Q :=
  Oper.wp_mono (by rintro a' w' ⟨v, h1, h2, h3⟩; exact ⟨v, h1, h2, hR w' h3⟩) h
/-- A store of a whole array or struct over a block. -/
theorem flowR_store (ty : TypeId) (x y : Operand) (ho : o.op = .store ty x y) (g : Nat) (cells : Array Value) (hx : a.eval x = .pointer (some ⟨g, 0, none⟩)) (hy : a.eval y = .agg cells) (t : TypeId) (old : Array Value) (hg : w.heap[g]? = some (.cells old t (0, 0)))
    (hi : (P.info? ty).map (·.size) = some cells.size) (hold : old.size = cells.size) (h1 : cells.all (·.oneCell') = true) (hI : ∀ w', w'.heap[g]? = some (.cells cells t (0, 0)) → I undef w') :
    o.wp P a w (fun a' w' => ∃ v, a' = a.put o.dst v ∧ I v w' ∧ TurnsTo g (.cells cells t (0, 0)) w w') Q := by
  have hO := Only.setRow w g cells
  exact wp_store_row ty x y ho g cells hx hy t old hg hi hold h1 ⟨undef, rfl, hI _ (setRow_heap w g _ _ _ _ hg), ⟨hO.os, hO.tape, hO.output, by rw [hO.size]; exact Nat.le_refl _, fun k _ hk => hO.block k hk, .inr (setRow_heap w g _ _ _ _ hg)⟩⟩
end
theorem TurnsTo.lt {g : Nat} {new : Obj} {w w' : World} (h : TurnsTo g new w w') (hg : g < w.heap.size) : g < w'.heap.size := Nat.lt_of_lt_of_le hg h.size
end Go.Proofs.YtlkiafggagaeeaaGreat

/- Values of structs, as parts. -/
namespace Go.Proofs.YtlkiafggagaeeaaGreat
open Go.RowKit Go.Shelf
set_option linter.unusedVariables false
set_option linter.unusedSimpArgs false
set_option maxRecDepth 100000

structure Rt6 (r : List Nat) : Prop where
  len : r.length = 32
  byte : ∀ z ∈ r, z < 256
/-- A part of a struct lies where the parts before it end. -/
theorem seg {ps : List (List Value)} {i : Nat} {c : List Value} {off : Nat} (hc : ps[i]? = some c) (ho : (ps.take i).flatten.length = off) (j : Nat) (v : Value) (h : c[j]? = some v) : ps.flatten[off + j]? = some v := by
  have hi : i < ps.length := (List.getElem?_eq_some_iff.1 hc).1
  have hci : ps[i] = c := by rw [List.getElem?_eq_getElem hi] at hc; exact Option.some.inj hc
  have hps : ps = ps.take i ++ (c :: ps.drop (i + 1)) := by rw [← hci, ← List.drop_eq_getElem_cons hi, List.take_append_drop]
  have hj : j < c.length := (List.getElem?_eq_some_iff.1 h).1
  rw [hps, List.flatten_append, List.flatten_cons, ← ho, List.getElem?_append_right (by omega), Nat.add_sub_cancel_left, List.getElem?_append_left hj]
  exact h
/-- The cells of a row of values. -/
def rowV : List (Vt × Value × Value) → List (List Value)
  | [] => []
  | x :: r => valL x.1.num x.1.root x.2.1 x.2.2 :: rowV r
theorem ksAt_of {w : World} {b : Nat} {t : TypeId} {cs : List Value} (hg : HasC w b t cs) : ∀ (xs : List (Vt × Value × Value)) (off : Nat), (∀ (j : Nat) (v : Value), (rowV xs).flatten[j]? = some v → cs[off + j]? = some v) → (∀ x ∈ xs, VAt w x.1 x.2.1 x.2.2) → KsAt w (xs.map (·.1)) b off := by
  intro xs
  induction xs with
  | nil => intro off _ _; rw [List.map_nil, KsAt]; exact trivial
  | cons x xs ih =>
    intro off h hv
    have hx := hv x (List.mem_cons_self ..)
    have hrl : x.1.root.length = 32 := by
      have h2 := hx
      obtain ⟨y, sb, sk⟩ := x
      cases y
      rw [VAt] at h2
      exact h2.1.2.1
    have hl := valL_length x.1.num x.1.root x.2.1 x.2.2 hrl
    rw [List.map_cons, KsAt]
    refine ⟨⟨x.2.1, x.2.2, hg.range off _ (fun j v hj => h j v ?_), hx⟩, ih (off + 35) (fun j v hj => ?_) (fun y hy => hv y (List.mem_cons_of_mem _ hy))⟩
    · have hjl : j < (valL x.1.num x.1.root x.2.1 x.2.2).length := (List.getElem?_eq_some_iff.1 hj).1
      rw [rowV, List.flatten_cons, List.getElem?_append_left hjl]; exact hj
    · have := h (35 + j) v (by rw [rowV, List.flatten_cons, List.getElem?_append_right (by omega), hl, Nat.add_sub_cancel_left]; exact hj)
      rw [Nat.add_assoc]; exact this
mutual
/-- No lone part. -/
def wide : Vt → Prop
  | .mk _ _ _ ks => ks.length ≠ 1 ∧ wideK ks
def wideK : List Vt → Prop
  | [] => True
  | x :: r => wide x ∧ wideK r
end
theorem zero_nobool : ∀ (j : Nat) (b : Bool), (valL 0 (zeros 32) nilS nilS)[j]? ≠ some (.bool b) := by
  intro j b h
  have hm := List.mem_of_getElem? h
  simp [valL, cellsB] at hm
mutual
/-- A store into a block of one value leaves such a value as it is. -/
theorem VAt.aside {w w' : World} {g : Nat} {t : TypeId} (hg : HasC w g t (valL 0 (zeros 32) nilS nilS)) (hl : (valL 0 (zeros 32) nilS nilS).length = 35) (ho : Only g w w') : ∀ (x : Vt) {sb sk : Value}, wide x → VAt w x sb sk → VAt w' x sb sk
  | .mk n r bs ks, sb, sk, hw, h => by
    rw [wide] at hw
    obtain ⟨h1, hk⟩ := hw
    rw [VAt] at h ⊢
    obtain ⟨h0, ⟨ao, cap, e, e1, e2, e3⟩, ao', cap', h2, h3, h4, h5⟩ := h
    have e4 : bs.length = 0 ∨ ∃ b off, ao = some ⟨b, off, none⟩ ∧ ∀ i, i < bs.length → w'.cell? ⟨b, off + i, none⟩ = some (.bool (bs.getD i false)) := by
      rcases e3 with e3 | ⟨b, off, e4, e5⟩
      · exact .inl e3
      · by_cases hz : bs.length = 0
        · exact .inl hz
        · refine .inr ⟨b, off, e4, fun i hi => (World.cell?_of_block (a := ⟨b, off + i, none⟩) (ho.block b (fun eb => ?_))).trans (e5 i hi)⟩
          subst eb
          have h5 := e5 0 (by omega)
          rw [cell_of_row w b _ _ _ (0, 0) hg] at h5
          exact zero_nobool _ _ (by simpa using h5)
    refine ⟨h0, ⟨ao, cap, e, e1, e2, e4⟩, ao', cap', h2, h3, h4, ?_⟩
    rcases h5 with h5 | ⟨b, off, h6, h7⟩
    · exact .inl h5
    · by_cases hz : ks.length = 0
      · exact .inl hz
      · refine .inr ⟨b, off, h6, KsAt.aside hg hl ho ks hk ?_ h7⟩
        intro eb
        subst eb
        have hx : ks[1]? = some ks[1] := List.getElem?_eq_getElem (by omega)
        obtain ⟨sb', sk', hr, hv⟩ := KsAt.get h7 hx
        have := hr 0 _ (valL_0 _ _ _ _)
        rw [cell_of_row w b _ _ _ (0, 0) hg] at this
        have := (Array.getElem?_eq_some_iff.1 this).1
        simp at this
        omega
theorem KsAt.aside {w w' : World} {g : Nat} {t : TypeId} (hg : HasC w g t (valL 0 (zeros 32) nilS nilS)) (hl : (valL 0 (zeros 32) nilS nilS).length = 35) (ho : Only g w w') : ∀ (l : List Vt) {b off : Nat}, wideK l → b ≠ g → KsAt w l b off → KsAt w' l b off
  | [], b, off, _, _, _ => by rw [KsAt]; exact trivial
  | x :: rest, b, off, hw, hb, h => by
    rw [wideK] at hw
    rw [KsAt] at h ⊢
    obtain ⟨⟨sb, sk, h1, h2⟩, h3⟩ := h
    exact ⟨⟨sb, sk, fun j v hj => (World.cell?_of_block (a := ⟨b, off + j, none⟩) (ho.block b hb)).trans (h1 j v hj), VAt.aside hg hl ho x hw.1 h2⟩, KsAt.aside hg hl ho rest hw.2 hb h3⟩
end
/-- A value of parts. -/
theorem isV_all {w : World} {b k : Nat} {ks : List Vt} (hk : ks.length = k) (hm : k ≤ maxLen) (h : KsAt w ks b 0) : VAt w (.mk 0 (zeros 32) [] ks) nilS (.slice (some ⟨b, 0, none⟩) k k) := by
  subst hk
  rw [VAt]
  exact ⟨⟨by decide, zeros32, zeros_byte 32⟩, isT_nil w, some ⟨b, 0, none⟩, ks.length, rfl, Nat.le_refl _, hm, .inr ⟨b, 0, rfl, h⟩⟩
theorem IsV.bits {w : World} {ao : Option Addr} {c : Nat} {l : List Bool} (h : IsT w (.slice ao l.length c) l) : IsV w (.agg (valL 0 (zeros 32) (.slice ao l.length c) nilS).toArray) (.mk 0 (zeros 32) l []) := by
  refine ⟨_, nilS, rfl, ?_⟩
  rw [VAt]
  exact ⟨⟨by decide, zeros32, zeros_byte 32⟩, h, none, 0, rfl, Nat.le_refl _, by decide, .inl rfl⟩
theorem IsV.leaf (w : World) {n : Nat} {r : List Nat} (hn : n < 18446744073709551616) (hr : r.length = 32) (h8 : ∀ z ∈ r, z < 256) : IsV w (.agg (valL n r nilS nilS).toArray) (.mk n r [] []) := ⟨nilS, nilS, rfl, vAt_leaf w hn hr h8⟩
/-- A slice of structs, made, in a flow. -/
theorem flow_rowsB {P : Program} {o : Oper} {a : Act} {w : World} {Q : Exit → Act → World → Prop} {I : Value → World → Prop} (t e : TypeId) (n sz : Nat) (ps : Array (Nat × Operand)) (ho : o.op = .buildSlice t n ps) (hu : P.underlying t = some (.slice e)) (hi : (P.info? e).map (fun i => (i.zero.isSome, i.size)) = some (true, sz))
    (vs : List (List Value)) (xs : List Operand) (hps : ps.toList = (xs.zipIdx 0).map fun p => (p.2, p.1)) (hx0 : xs.map a.eval = vs.map fun c => Value.agg c.toArray) (hc : ∀ c ∈ vs, c.length = sz) (hn : vs.length = n) (hn0 : 0 < n) (hs0 : 0 < sz) (hn1 : n * sz ≤ 16777216)
    (h : ∀ w', HasC w' w.heap.size e vs.flatten → Below w.heap.size w w' → I (.slice (some ⟨w.heap.size, 0, none⟩) n n) w') : o.wp P a w (fun a' w' => ∃ v, a' = a.put o.dst v ∧ I v w' ∧ Below w.heap.size w w') Q := by
  have hx : (ps.map fun (i, x) => (i, a.eval x)).toList = (vs.zipIdx 0).map fun p => (p.2, Value.agg p.1.toArray) := by
    have e1 : ((xs.map a.eval).zipIdx 0).map (fun p => (p.2, p.1)) = ((vs.map fun c => Value.agg c.toArray).zipIdx 0).map (fun p => (p.2, p.1)) := by rw [hx0]
    rw [List.zipIdx_map, List.zipIdx_map, List.map_map, List.map_map] at e1
    rw [Array.toList_map, hps, List.map_map]
    exact e1
  cases hq : P.info? e with
  | none => rw [hq] at hi; cases hi
  | some ie =>
    rw [hq] at hi
    simp only [Option.map_some, Option.some.injEq, Prod.mk.injEq] at hi
    obtain ⟨z, hz⟩ := Option.isSome_iff_exists.1 hi.1
    refine wp_buildSlice t e n ps ho vs.flatten.toArray ie z hu hq hz (by rw [hi.2]; omega) (by rw [hi.2]; have := Nat.mul_pos hn0 hs0; omega) ?_ ⟨_, rfl, h _ (heap_alloc_new w _) ((Below.refl _ w).alloc (Nat.le_refl _) _), (Below.refl _ w).alloc (Nat.le_refl _) _⟩
    rw [hx, hi.2]
    have hfl := flatten_rows sz vs hc
    have hf := fill_out (fun i => some (i * sz, sz)) ((vs.zipIdx 0).map fun p => (p.2, Value.agg p.1.toArray)) 0 ((Array.range (n * sz)).map (z.cells[· % z.cells.size]!)).toList (by have := partsAt_rows sz vs 0 hc; rw [Nat.zero_mul] at this; exact this) (by rw [outC_rows, hfl, hn]; simp)
    rw [outC_rows, List.take_zero, List.nil_append, Nat.zero_add, List.drop_of_length_le (by rw [hfl, hn]; simp), List.append_nil] at hf
    exact hf
/-- A part of a part. -/
theorem seg2 {ps qs : List (List Value)} {i k : Nat} {c : List Value} {off o2 tot : Nat} (hc : ps[i]? = some qs.flatten) (ho : (ps.take i).flatten.length = off) (hc2 : qs[k]? = some c) (ho2 : (qs.take k).flatten.length = o2) (ht : off + o2 = tot) (j : Nat) (v : Value) (h : c[j]? = some v) : ps.flatten[tot + j]? = some v := by
  have := seg hc ho (o2 + j) v (seg hc2 ho2 j v h)
  rw [← Nat.add_assoc, ht] at this
  exact this
end Go.Proofs.YtlkiafggagaeeaaGreat

/- append onto a row of values of the call's own. -/
namespace Go.Proofs.YtlkiafggagaeeaaGreat
open Go.RowKit Go.Shelf
set_option linter.unusedVariables false
set_option linter.unusedSimpArgs false
set_option maxRecDepth 100000

theorem kept_none {w w' : World} {base n s : Nat} {e : TypeId} {v : Value} {xs : List Value} (h : w.ownsRow base e s v n xs) (hg : w.grownBy w' none) : w'.ownsRow base e s v n xs := by
  rcases h.2 with ⟨rfl, _⟩ | ⟨g, cap, cur, rfl, _⟩
  · exact h.kept hg (.inl rfl)
  · exact h.kept hg (.inr (by simp [Value.ownBlock]))
section
variable {P : Program} (w : World)
theorem run_append_kept (base : Nat) (t tx ty e : TypeId) (i : TypeInfo) (z : Value) (size bytes : Nat) (ht : P.underlying t = some (.slice e)) (hi : P.info? e = some i) (hz : i.zero = some z)
    (hsize : i.size = size) (hby : i.bytes = bytes) (hzs : z.cells.size = size) (hsz : 0 < size) (v : Value) (n : Nat) (xs : List Value) (hown : w.ownsRow base e size v n xs)
    (x : Value) (m : Nat) (news : List Value) (hs : Src P size tx x m news w) (h63 : n + m ≤ maxLen) (hbytes : (n + m) * bytes ≤ 140737488355328) (hbase : base ≤ w.heap.size) :
    ∃ v' w', (Builtin.append_ #[t, tx] ty #[v, x]).run P w = .ok v' w' ∧ w'.ownsRow base e size v' (n + m) (xs ++ news) ∧ w.grownBy w' v.ownBlock ∧ Moved w v v' ∧ w'.ownsRow base e size v n xs ∧ ∀ v2, w.ownsRow base e size v2 (n + m) (xs ++ news) → w'.ownsRow base e size v2 (n + m) (xs ++ news) := by
  subst hsize
  subst hby
  have hsmall : n + m ≤ 9223372036854775807 := by simp only [maxLen] at h63; omega
  have hl := hs.newsLen
  have hlen : (xs ++ news).length = (n + m) * i.size := by rw [List.length_append, hown.1, hl, Nat.add_mul]
  have grown : ∀ (old : Nat), old < n + m → ∀ (row : Option Nat),
      (w.drew.alloc (.cells ((xs ++ news).toArray ++ Builtin.zeroCells z.cells (grownCap w (n + m) old e - (n + m))) e)).ownsRow base e i.size
        (.slice (some ⟨w.heap.size, 0, none⟩) (n + m) (grownCap w (n + m) old e)) (n + m) (xs ++ news) ∧
      w.grownBy (w.drew.alloc (.cells ((xs ++ news).toArray ++ Builtin.zeroCells z.cells (grownCap w (n + m) old e - (n + m))) e)) row := by
    intro old ho row
    have hge := grownCap_ge w (n + m) old e
    have hcm : grownCap w (n + m) old e ≤ maxLen := grownCap_le_maxLen w (n + m) old e h63
    refine ⟨⟨hlen, .inr ⟨w.heap.size, _, _, rfl, hbase, heap_alloc_new w.drew _, hge, hcm, ?_, ?_⟩⟩, ⟨rfl, rfl, rfl, by simp, fun k hk _ => Below.heap_alloc w.drew _ k hk⟩⟩
    · simp only [Array.size_append, List.size_toArray, size_zeroCells, hzs, hlen, ← Nat.add_mul]
      congr 1
      omega
    · simp only [Array.toList_append]
      rw [← hlen]
      exact List.take_left
  rcases hown.2 with ⟨rfl, rfl⟩ | ⟨g, cap, cur, rfl, hbg, hg, hnc, hcm, hcs, htake⟩
  · have hx : xs = [] := List.eq_nil_of_length_eq_zero (by simpa using hown.1)
    subst hx
    by_cases hm : m = 0
    · subst hm
      have hn : news = [] := List.eq_nil_of_length_eq_zero (by simpa using hl)
      subst hn
      refine ⟨.slice none 0 0, w, ?_, World.ownsRow_nil w base e i.size, ⟨rfl, rfl, rfl, Nat.le_refl _, fun _ _ _ => rfl⟩, (fun k hk => by cases hk), World.ownsRow_nil w base e i.size, fun _ h => h⟩
      have h0 := hs.len
      have h1 := hs.cells
      rcases hs.kind with ⟨e', hk⟩ | hk <;> simp [Builtin.append_, run_underlying ht, run_underlying hk, sizeOf, typeInfo, hi, h0, h1]
    · have hr := run_append_grow_src (P := P) w t tx ty e i z ht hi hz none 0 0 [] (run_firstCells_none w.drew _ _ _ _) x m news hs (by omega) (by omega) (growslice_fits (by omega) hbytes)
      have hgr := grown 0 (by omega) (Value.ownBlock (.slice none 0 0))
      have hgn := (grown 0 (by omega) none).2
      exact ⟨_, _, hr, hgr.1, hgr.2, (fun k hk => .inr (by cases hk; exact Nat.le_refl _)), World.ownsRow_nil _ base e i.size, fun v2 h2 => kept_none h2 hgn⟩
  · by_cases hroom : n + m ≤ cap
    · have hfit : n * i.size + news.length ≤ cur.size := by rw [hl, hcs, ← Nat.add_mul]; exact Nat.mul_le_mul_right _ hroom
      have hr := run_append_room_src (P := P) w t tx ty e i ht hi g 0 n cap x m news hs hroom (fun j hj => by rw [cell_of_row w g _ _ _ _ hg, Array.getElem?_eq_getElem (by omega)]; rfl) (fun j hj => frozen_of_row w g _ _ _ hg)
      rw [Nat.zero_add] at hr
      obtain ⟨h1, h2⟩ := heap_setCells news w cur (n * i.size) hg
      have htk2 : (setV cur (n * i.size) news).toList.take ((n + m) * i.size) = xs ++ news := by
        apply List.ext_getElem?
        intro q
        rw [List.getElem?_take]
        have hxl := hown.1
        by_cases hq : q < (n + m) * i.size
        · rw [if_pos hq, Array.getElem?_toList, setV_get news cur (n * i.size) hfit q]
          by_cases hq2 : n * i.size ≤ q
          · rw [if_pos ⟨hq2, by rw [hl, ← Nat.add_mul]; exact hq⟩, List.getElem?_append_right (by omega), hxl]
          · rw [if_neg (by omega), List.getElem?_append_left (by omega), ← htake, List.getElem?_take, if_pos (by omega), Array.getElem?_toList]
        · rw [if_neg hq, List.getElem?_eq_none (by omega)]
      have htk1 : (setV cur (n * i.size) news).toList.take (n * i.size) = xs := by
        have h3 := congrArg (List.take (n * i.size)) htk2
        rw [List.take_take, Nat.min_eq_left (Nat.mul_le_mul_right _ (Nat.le_add_right _ _))] at h3
        rw [h3, ← hown.1, List.take_left]
      have hG : w.grownBy _ (some g) := ⟨h2.os, h2.tape, h2.output, by rw [h2.size]; exact Nat.le_refl _, fun k _ hk => h2.block k (fun e => hk (by rw [e]))⟩
      refine ⟨_, _, hr, ⟨hlen, .inr ⟨g, cap, _, rfl, hbg, h1, hroom, hcm, by rw [setV_size]; exact hcs, htk2⟩⟩, hG, (fun k hk => .inl hk), ⟨hown.1, .inr ⟨g, cap, _, rfl, hbg, h1, hnc, hcm, by rw [setV_size]; exact hcs, htk1⟩⟩, fun v2 hv2 => ?_⟩
      rcases hv2.2 with ⟨rfl, h0⟩ | ⟨g2, cap2, cur2, rfl, hb2, hg2, hn2, hc2, hs2, ht2⟩
      · exact hv2.kept hG (.inl rfl)
      · by_cases hgg : g2 = g
        · subst hgg
          rw [hg] at hg2
          cases hg2
          exact ⟨hlen, .inr ⟨g2, cap2, _, rfl, hb2, h1, hn2, hc2, by rw [setV_size]; exact hs2, htk2⟩⟩
        · exact hv2.kept hG (.inr (by simpa [Value.ownBlock] using hgg))
    · have holds : ∀ j u, xs[j]? = some u → w.cell? ((⟨g, 0, none⟩ : Addr).add j) = some u := hown.cells (g := g) rfl
      have hr := run_append_grow_src (P := P) w t tx ty e i z ht hi hz (some ⟨g, 0, none⟩) n cap xs (run_firstCells_some w.drew _ _ _ _ _ xs hown.1 (by simpa using holds)) x m news hs (by omega) (by omega) (growslice_fits (by omega) hbytes)
      have hgr := grown cap (by omega) (Value.ownBlock (.slice (some ⟨g, 0, none⟩) n cap))
      have hgn := (grown cap (by omega) none).2
      exact ⟨_, _, hr, hgr.1, hgr.2, (fun k hk => .inr (by cases hk; exact Nat.le_refl _)), kept_none hown hgn, fun v2 h2 => kept_none h2 hgn⟩
end

theorem valInfo3 : (Tryz.prog.info? 33).map (fun i => (i.zero, i.size, i.bytes)) = some (some (.agg (valL 0 (zeros 32) nilS nilS).toArray), 35, 88) := by kernel_rfl
theorem HasC.grownO {w w' : World} {g : Nat} {t : TypeId} {cs : List Value} {row : Option Nat} (h : HasC w g t cs) (hG : w.grownBy w' row) (hg : row ≠ some g) : HasC w' g t cs := by
  unfold HasC; rw [hG.block g h.lt (fun e => hg e.symm)]; exact h
/-- Worlds between which only the row u may have grown: it owns what it owned, and whoever owned the longer row owns it. -/
structure AppR (u : Value) (base n : Nat) (xs ys : List Value) (w w' : World) : Prop where
  grown : w.grownBy w' u.ownBlock
  old : w.ownsRow base 33 35 u n xs → w'.ownsRow base 33 35 u n xs
  new : ∀ v, w.ownsRow base 33 35 v (n + 1) ys → w'.ownsRow base 33 35 v (n + 1) ys
theorem AppR.refl {u : Value} {base n : Nat} {xs ys : List Value} (w : World) : AppR u base n xs ys w w := ⟨⟨rfl, rfl, rfl, Nat.le_refl _, fun _ _ _ => rfl⟩, id, fun _ h => h⟩
theorem grownO_trans {w w1 w2 : World} {row : Option Nat} (h : w.grownBy w1 row) (k : w1.grownBy w2 row) : w.grownBy w2 row :=
  ⟨k.os.trans h.os, k.tape.trans h.tape, k.output.trans h.output, Nat.le_trans h.size k.size, fun j hj hne => (k.block j (Nat.lt_of_lt_of_le hj h.size) hne).trans (h.block j hj hne)⟩
theorem AppR.trans {u : Value} {base n : Nat} {xs ys : List Value} {a b c : World} (h : AppR u base n xs ys a b) (k : AppR u base n xs ys b c) : AppR u base n xs ys a c :=
  ⟨grownO_trans h.grown k.grown, fun x => k.old (h.old x), fun v x => k.new v (h.new v x)⟩
theorem AppR.of_below {u : Value} {base n : Nat} {xs ys : List Value} {w w' : World} (h : Below w.heap.size w w') : AppR u base n xs ys w w' :=
  ⟨⟨h.os, h.tape, h.output, h.size, fun k hk _ => h.block k hk⟩, fun x => own_keep x h, fun _ x => own_keep x h⟩
theorem AppR.drew {u : Value} {base n : Nat} {xs ys : List Value} (w : World) : AppR u base n xs ys w { w with drawn := w.drawn + 1 } := AppR.of_below ⟨rfl, rfl, rfl, Nat.le_refl _, fun _ _ => rfl⟩
theorem wp_runW {P : Program} {o : Oper} {a : Act} {w w' : World} {K : Act → World → Prop} {Q : Exit → Act → World → Prop} {v : Value} (hrun : (execOp a.eval o).run P w = .ok (.value v) w') (h : K (a.put o.dst v) w') : o.wp P a w K Q := by
  unfold Oper.wp; rw [hrun]; exact h
theorem HasC.setCellV {w : World} {g : Nat} {t : TypeId} {cs : List Value} (h : HasC w g t cs) (j : Nat) (v : Value) : HasC (w.setCell ⟨g, j, none⟩ v) g t (cs.set j v) := by
  unfold HasC at *
  simp [World.setCell, Array.getElem?_modify, h]
theorem valL_set34 (u v : Value) : (valL 0 (zeros 32) nilS u).set 34 v = valL 0 (zeros 32) nilS v := by kernel_rfl
theorem run_call_append {P : Program} {w w' : World} {o : Oper} {a : Act} (x y : Operand) (t tx : TypeId) (ho : o.op = .call { callee := .builtin .append, args := #[x, y], argTypes := #[t, tx] }) (u v v' : Value) (hx : a.eval x = u) (hy : a.eval y = v)
    (hr : (Builtin.append_ #[t, tx] o.type #[u, v]).run P w = .ok v' w') : (execOp a.eval o).run P w = .ok (.value v') w' := by
  unfold execOp
  simp only [ho, resolve, invoke, builtin, Sem.run_bind, Sem.run_pure, Result.andThen_ok, List.map_toArray, List.map_cons, List.map_nil, hx, hy, hr]
end Go.Proofs.YtlkiafggagaeeaaGreat

/- Values of the document, and which blocks they lie in: whoever leaves these as they are leaves the value as it is. -/
namespace Go.Proofs.YtlkiafggagaeeaaGreat
open Go.RowKit Go.Shelf
set_option linter.unusedVariables false
set_option linter.unusedSimpArgs false
set_option maxRecDepth 100000

/-- The second world has the first one's blocks, where P says so. -/
def Agr (P : Nat → Prop) (w w' : World) : Prop := ∀ b, P b → b < w.heap.size → w'.heap[b]? = w.heap[b]?
theorem Agr.refl (P : Nat → Prop) (w : World) : Agr P w w := fun _ _ _ => rfl
theorem Agr.below {P : Nat → Prop} {w w' w'' : World} (h : Agr P w' w'') (hb : Below w.heap.size w w') : Agr P w w'' := fun b hp hl => (h b hp (Nat.lt_of_lt_of_le hl hb.size)).trans (hb.block b hl)
theorem Agr.only {P : Nat → Prop} {w w' w'' : World} {g : Nat} (h : Agr P w' w'') (ho : Only g w w') : Agr (fun b => P b ∧ b ≠ g) w w'' := fun b hp hl => (h b hp.1 (by rw [ho.size]; exact hl)).trans (ho.block b hp.2)
theorem Agr.mono {P Q : Nat → Prop} {w w' : World} (h : Agr P w w') (hq : ∀ b, Q b → P b) : Agr Q w w' := fun b hb hl => h b (hq b hb) hl
/-- A value that lies in such blocks. -/
def VIn (P : Nat → Prop) (w : World) (x : Vt) (sb sk : Value) : Prop := ∀ w', Agr P w w' → VAt w' x sb sk
def KIn (P : Nat → Prop) (w : World) (ks : List Vt) (b off : Nat) : Prop := ∀ w', Agr P w w' → KsAt w' ks b off
def TIn (P : Nat → Prop) (w : World) (v : Value) (l : List Bool) : Prop := ∀ w', Agr P w w' → IsT w' v l
theorem VIn.at {P : Nat → Prop} {w : World} {x : Vt} {sb sk : Value} (h : VIn P w x sb sk) : VAt w x sb sk := h w (Agr.refl P w)
theorem VIn.keep {P : Nat → Prop} {w w' : World} {x : Vt} {sb sk : Value} (h : VIn P w x sb sk) (hb : Below w.heap.size w w') : VIn P w' x sb sk := fun w'' ha => h w'' (ha.below hb)
theorem VIn.only {P : Nat → Prop} {w w' : World} {x : Vt} {sb sk : Value} {g : Nat} (h : VIn (fun b => P b ∧ b ≠ g) w x sb sk) (ho : Only g w w') : VIn P w' x sb sk := fun w'' ha => h w'' (ha.only ho)
theorem VIn.mono {P Q : Nat → Prop} {w : World} {x : Vt} {sb sk : Value} (h : VIn P w x sb sk) (hq : ∀ b, P b → Q b) : VIn Q w x sb sk := fun w' ha => h w' (ha.mono hq)
theorem KIn.keep {P : Nat → Prop} {w w' : World} {ks : List Vt} {b off : Nat} (h : KIn P w ks b off) (hb : Below w.heap.size w w') : KIn P w' ks b off := fun w'' ha => h w'' (ha.below hb)
theorem KIn.only {P : Nat → Prop} {w w' : World} {ks : List Vt} {b off : Nat} {g : Nat} (h : KIn (fun b => P b ∧ b ≠ g) w ks b off) (ho : Only g w w') : KIn P w' ks b off := fun w'' ha => h w'' (ha.only ho)
theorem TIn.at {P : Nat → Prop} {w : World} {v : Value} {l : List Bool} (h : TIn P w v l) : IsT w v l := h w (Agr.refl P w)
theorem TIn.keep {P : Nat → Prop} {w w' : World} {v : Value} {l : List Bool} (h : TIn P w v l) (hb : Below w.heap.size w w') : TIn P w' v l := fun w'' ha => h w'' (ha.below hb)
/-- What lay there when the call began lies apart from its own variable. -/
theorem TIn.apart {P : Nat → Prop} {w wq : World} {v : Value} {l : List Bool} {g : Nat} (h : TIn P w v l) (hb : Below w.heap.size w wq) (hg : w.heap.size ≤ g) : TIn (fun b => P b ∧ b ≠ g) wq v l :=
  fun w'' ha => h w'' fun b hp hl => (ha b ⟨hp, by omega⟩ (Nat.lt_of_lt_of_le hl hb.size)).trans (hb.block b hl)
theorem TIn.apart1 {P P1 : Nat → Prop} {w : World} {v : Value} {l : List Bool} {g : Nat} (h : Same (fun b => P b ∧ b ≠ g) P1) (t : TIn (fun b => P b ∧ b ≠ g) w v l) : TIn P1 w v l := by rw [← h.out]; exact t
def IsVI (P : Nat → Prop) (w : World) (v : Value) (x : Vt) : Prop := ∃ sb sk, v = .agg (valL x.num x.root sb sk).toArray ∧ VIn P w x sb sk
theorem IsVI.keep {P : Nat → Prop} {w w' : World} {v : Value} {x : Vt} (h : IsVI P w v x) (hb : Below w.heap.size w w') : IsVI P w' v x := by
  obtain ⟨sb, sk, e, h⟩ := h
  exact ⟨sb, sk, e, h.keep hb⟩
theorem IsVI.isV {P : Nat → Prop} {w : World} {v : Value} {x : Vt} (h : IsVI P w v x) : IsV w v x := by
  obtain ⟨sb, sk, e, h⟩ := h
  exact ⟨sb, sk, e, h.at⟩
theorem IsVI.leaf (P : Nat → Prop) (w : World) {n : Nat} {r : List Nat} (hn : n < 18446744073709551616) (hr : r.length = 32) (h8 : ∀ z ∈ r, z < 256) : IsVI P w (.agg (valL n r nilS nilS).toArray) (.mk n r [] []) := ⟨nilS, nilS, rfl, fun w' _ => vAt_leaf w' hn hr h8⟩
theorem IsVI.bits {P : Nat → Prop} {w : World} {ao : Option Addr} {c : Nat} {l : List Bool} (h : TIn P w (.slice ao l.length c) l) : IsVI P w (.agg (valL 0 (zeros 32) (.slice ao l.length c) nilS).toArray) (.mk 0 (zeros 32) l []) := by
  refine ⟨_, nilS, rfl, fun w' ha => ?_⟩
  rw [VAt]
  exact ⟨⟨by decide, zeros32, zeros_byte 32⟩, h w' ha, none, 0, rfl, Nat.le_refl _, by decide, .inl rfl⟩
theorem HasC.agr {P : Nat → Prop} {w w' : World} {b : Nat} {t : TypeId} {cs : List Value} (h : HasC w b t cs) (ha : Agr P w w') (hp : P b) : HasC w' b t cs := by
  have hl := h.lt
  unfold HasC at h ⊢
  rw [ha b hp hl]
  exact h
theorem own_agr {P : Nat → Prop} {w w' : World} {base n s : Nat} {e : TypeId} {v : Value} {xs : List Value} (h : w.ownsRow base e s v n xs) (ha : Agr P w w') (hp : ∀ b, base ≤ b → P b) : w'.ownsRow base e s v n xs := by
  obtain ⟨h1, h2 | ⟨g, cap, cur, hv, hbg, hg, h3⟩⟩ := h
  · exact ⟨h1, .inl h2⟩
  · exact ⟨h1, .inr ⟨g, cap, cur, hv, hbg, by rw [ha g (hp g hbg) (Array.getElem?_eq_some_iff.1 hg).1]; exact hg, h3⟩⟩
/-- A row of values, made. -/
theorem kIn_of {P : Nat → Prop} {w w' : World} {t : TypeId} {cs : List Value} (hg : HasC w' w.heap.size t cs) (hb : Below w.heap.size w w') (hp : P w.heap.size) (xs : List (Vt × Value × Value)) (h : ∀ (j : Nat) (v : Value), (rowV xs).flatten[j]? = some v → cs[0 + j]? = some v) (hv : ∀ x ∈ xs, VIn P w x.1 x.2.1 x.2.2) : KIn P w' (xs.map (·.1)) w.heap.size 0 :=
  fun w'' ha => ksAt_of (hg.agr ha hp) xs 0 h (fun x hx => hv x hx w'' (ha.below hb))
theorem vIn_all {P : Nat → Prop} {w : World} {b k : Nat} {ks : List Vt} (hk : ks.length = k) (hm : k ≤ maxLen) (h : KIn P w ks b 0) : VIn P w (.mk 0 (zeros 32) [] ks) nilS (.slice (some ⟨b, 0, none⟩) k k) := fun w' ha => isV_all hk hm (h w' ha)
end Go.Proofs.YtlkiafggagaeeaaGreat

/- The document's value of a struct (DepositData). -/
namespace Go.Proofs.YtlkiafggagaeeaaGreat
open Go.RowKit Go.Shelf
set_option linter.unusedVariables false
set_option linter.unusedSimpArgs false
set_option maxRecDepth 100000

def ddP6 (zk : List Nat) (zcr : List Nat) (zam : Nat) (zsg : List Nat) : List (List Value) := [cellsB zk, cellsB zcr, [.int .u64 (zam : Nat)], cellsB zsg]
def ddC6 (zk : List Nat) (zcr : List Nat) (zam : Nat) (zsg : List Nat) : List Value := (ddP6 zk zcr zam zsg).flatten
theorem ddC6_length (zk : List Nat) (zcr : List Nat) (zam : Nat) (zsg : List Nat) (hzk : zk.length = 32) (hzcr : zcr.length = 32) (hzsg : zsg.length = 32) : (ddC6 zk zcr zam zsg).length = 97 := by simp [ddC6, ddP6, cellsB_length, hzk, hzcr, hzsg]
def ddV6 (zk : List Nat) (zcr : List Nat) (zam : Nat) (zsg : List Nat) : Vt := .mk 0 (zeros 32) [] [.mk 0 zk [] [], .mk 0 zcr [] [], .mk zam (zeros 32) [] [], .mk 0 zsg [] []]
theorem ddV6_wide (zk : List Nat) (zcr : List Nat) (zam : Nat) (zsg : List Nat) : wide (ddV6 zk zcr zam zsg) := by simp [ddV6, wide, wideK]
set_option maxHeartbeats 2000000 in
theorem ddV6_any (zk : List Nat) (zcr : List Nat) (zam : Nat) (zsg : List Nat) (hzk : Rt6 zk) (hzcr : Rt6 zcr) (hzam : zam < 18446744073709551616) (hzsg : Rt6 zsg) (w : World) : Calls Tryz.prog 34 #[.agg (ddC6 zk zcr zam zsg).toArray] w fun x w' => ∃ v, x = .returned v ∧ IsV w' v (ddV6 zk zcr zam zsg) ∧ Below w.heap.size w w' := by
  go_enter Tryz.func34, Tryz.ntmps34
  go_wp2_with ((with_reducible refine at_list' ?_); first
    | (refine wpList_box_c rfl 1 rfl (.tmp 0) rfl (ddC6 zk zcr zam zsg) rfl ?_; intro w1 H1 B1 S1)
    | (refine wpList_alloc_c Tryz.ty33 rfl 2 rfl rfl ?_; intro w2 H2 B2 S2; rw [S1] at H2 S2; rw [S1]))
  have HX := hid (H1.keep B2)
  have HY := hid H2
  have HB := hid (B1.trans (B2.mono (by omega)))
  have s2 : w2.heap.size = w.heap.size + 2 := by omega
  clear H1 B1 S1 H2 B2 S2
  try simp only [Act.put, List.setIfInBounds_toArray, List.set_cons_succ, List.set_cons_zero]
  refine wp_region_flow 14 14 (fun i v wq => match i with
    | 0 => v = .pointer (some ⟨w.heap.size, 0, none⟩)
    | 1 => v = .agg (nums .u8 zk)
    | 2 => IsV wq v (.mk 0 zk [] [])
    | 3 => v = .pointer (some ⟨w.heap.size, 32, none⟩)
    | 4 => v = .agg (nums .u8 zcr)
    | 5 => IsV wq v (.mk 0 zcr [] [])
    | 6 => v = .pointer (some ⟨w.heap.size, 64, none⟩)
    | 7 => v = .int .u64 (zam : Nat)
    | 8 => IsV wq v (.mk zam (zeros 32) [] [])
    | 9 => v = .pointer (some ⟨w.heap.size, 65, none⟩)
    | 10 => v = .agg (nums .u8 zsg)
    | 11 => IsV wq v (.mk 0 zsg [] [])
    | 12 => ∃ b, v = .slice (some ⟨b, 0, none⟩) 4 4 ∧ KsAt wq [.mk 0 zk [] [], .mk 0 zcr [] [], .mk zam (zeros 32) [] [], .mk 0 zsg [] []] b 0
    | _ => ∃ b, v = .agg (valL 0 (zeros 32) nilS (.slice (some ⟨b, 0, none⟩) 4 4)).toArray ∧ KsAt wq [.mk 0 zk [] [], .mk 0 zcr [] [], .mk zam (zeros 32) [] [], .mk 0 zsg [] []] b 0) (by kernel_rfl) (by kernel_rfl) (fun _ d _ _ _ h => by cases d <;> exact h) ?_ ?_ ?_ ?_
  · intro i v wq wq' hi hv hb
    match i, hi with
    | 0, _ => exact hv
    | 1, _ => exact hv
    | 2, _ => exact hv.keep hb
    | 3, _ => exact hv
    | 4, _ => exact hv
    | 5, _ => exact hv.keep hb
    | 6, _ => exact hv
    | 7, _ => exact hv
    | 8, _ => exact hv.keep hb
    | 9, _ => exact hv
    | 10, _ => exact hv
    | 11, _ => exact hv.keep hb
    | 12, _ => obtain ⟨b, h1, h2⟩ := hv; exact ⟨b, h1, KsAt.keep hb _ h2⟩
    | 13, _ => obtain ⟨b, h1, h2⟩ := hv; exact ⟨b, h1, KsAt.keep hb _ h2⟩
    | (k + 14), hk => exact absurd hk (by omega)
  · intro i o hi ho aq wq hc hk hdep
    match i, hi with
    | 0, _ =>
      cases ho
      have e1 : aq.tmps.getD 1 undef = .pointer (some ⟨w.heap.size, 0, none⟩) := hk 1 (by decide)
      exact flow_value _ (run_fieldAt 73 (.tmp 1) 0 rfl _ _ e1 (by kernel_rfl)) rfl
    | 1, _ =>
      cases ho
      have e0 : aq.tmps.getD 3 undef = .pointer (some ⟨w.heap.size, 0, none⟩) := hdep 0 3 rfl (by kernel_rfl)
      exact flow_value _ (run_mid 24 (.tmp 3) rfl w.heap.size 0 e0 (cellsB zk) ((HX.out.keep (hcB hc)).range 0 (cellsB zk) (seg (ps := ddP6 zk zcr zam zsg) (i := 0) (off := 0) rfl (by simp [ddP6, cellsB_length, hzk.len, hzcr.len, hzsg.len]))) _ Tryz.und24 rfl (by rw [cellsB_length, hzk.len]; exact Tryz.size24)) rfl
    | 2, _ =>
      cases ho
      have e0 : aq.tmps.getD 4 undef = .agg (nums .u8 zk) := hdep 1 4 rfl (by kernel_rfl)
      refine flow_fun 44 _ _ rfl (fun _ _ => by simp [go_sem]) #[.agg (nums .u8 zk)] (by rw [show (#[Operand.tmp 4] : Array Operand).map aq.eval = #[aq.tmps.getD 4 undef] from by simp [Act.eval], e0]) ?_
      refine (r_any zk hzk.len wq).mono ?_
      rintro x w' ⟨rfl, q⟩
      exact ⟨_, rfl, IsV.leaf w' (by decide) hzk.len hzk.byte, q⟩
    | 3, _ =>
      cases ho
      have e1 : aq.tmps.getD 1 undef = .pointer (some ⟨w.heap.size, 0, none⟩) := hk 1 (by decide)
      exact flow_value _ (run_fieldAt 73 (.tmp 1) 1 rfl _ _ e1 (by kernel_rfl)) rfl
    | 4, _ =>
      cases ho
      have e0 : aq.tmps.getD 6 undef = .pointer (some ⟨w.heap.size, 32, none⟩) := hdep 3 6 rfl (by kernel_rfl)
      exact flow_value _ (run_mid 24 (.tmp 6) rfl w.heap.size 32 e0 (cellsB zcr) ((HX.out.keep (hcB hc)).range 32 (cellsB zcr) (seg (ps := ddP6 zk zcr zam zsg) (i := 1) (off := 32) rfl (by simp [ddP6, cellsB_length, hzk.len, hzcr.len, hzsg.len]))) _ Tryz.und24 rfl (by rw [cellsB_length, hzcr.len]; exact Tryz.size24)) rfl
    | 5, _ =>
      cases ho
      have e0 : aq.tmps.getD 7 undef = .agg (nums .u8 zcr) := hdep 4 7 rfl (by kernel_rfl)
      refine flow_fun 44 _ _ rfl (fun _ _ => by simp [go_sem]) #[.agg (nums .u8 zcr)] (by rw [show (#[Operand.tmp 7] : Array Operand).map aq.eval = #[aq.tmps.getD 7 undef] from by simp [Act.eval], e0]) ?_
      refine (r_any zcr hzcr.len wq).mono ?_
      rintro x w' ⟨rfl, q⟩
      exact ⟨_, rfl, IsV.leaf w' (by decide) hzcr.len hzcr.byte, q⟩
    | 6, _ =>
      cases ho
      have e1 : aq.tmps.getD 1 undef = .pointer (some ⟨w.heap.size, 0, none⟩) := hk 1 (by decide)
      exact flow_value _ (run_fieldAt 73 (.tmp 1) 2 rfl _ _ e1 (by kernel_rfl)) rfl
    | 7, _ =>
      cases ho
      have e0 : aq.tmps.getD 9 undef = .pointer (some ⟨w.heap.size, 64, none⟩) := hdep 6 9 rfl (by kernel_rfl)
      exact flow_value _ (run_cell 22 (.tmp 9) rfl _ e0 _ ((HX.out.keep (hcB hc)).cell (seg (ps := ddP6 zk zcr zam zsg) (i := 2) (off := 64) rfl (by simp [ddP6, cellsB_length, hzk.len, hzcr.len, hzsg.len]) 0 _ rfl)) _ Tryz.underlying22 rfl) rfl
    | 8, _ =>
      cases ho
      have e0 : aq.tmps.getD 10 undef = .int .u64 (zam : Nat) := hdep 7 10 rfl (by kernel_rfl)
      refine flow_fun 43 _ _ rfl (fun _ _ => by simp [go_sem]) #[.int .u64 (zam : Nat)] (by rw [show (#[Operand.tmp 10] : Array Operand).map aq.eval = #[aq.tmps.getD 10 undef] from by simp [Act.eval], e0]) ?_
      refine (n_any zam wq).mono ?_
      rintro x w' ⟨rfl, q⟩
      exact ⟨_, rfl, IsV.leaf w' hzam zeros32 (zeros_byte 32), q⟩
    | 9, _ =>
      cases ho
      have e1 : aq.tmps.getD 1 undef = .pointer (some ⟨w.heap.size, 0, none⟩) := hk 1 (by decide)
      exact flow_value _ (run_fieldAt 73 (.tmp 1) 3 rfl _ _ e1 (by kernel_rfl)) rfl
    | 10, _ =>
      cases ho
      have e0 : aq.tmps.getD 12 undef = .pointer (some ⟨w.heap.size, 65, none⟩) := hdep 9 12 rfl (by kernel_rfl)
      exact flow_value _ (run_mid 24 (.tmp 12) rfl w.heap.size 65 e0 (cellsB zsg) ((HX.out.keep (hcB hc)).range 65 (cellsB zsg) (seg (ps := ddP6 zk zcr zam zsg) (i := 3) (off := 65) rfl (by simp [ddP6, cellsB_length, hzk.len, hzcr.len, hzsg.len]))) _ Tryz.und24 rfl (by rw [cellsB_length, hzsg.len]; exact Tryz.size24)) rfl
    | 11, _ =>
      cases ho
      have e0 : aq.tmps.getD 13 undef = .agg (nums .u8 zsg) := hdep 10 13 rfl (by kernel_rfl)
      refine flow_fun 44 _ _ rfl (fun _ _ => by simp [go_sem]) #[.agg (nums .u8 zsg)] (by rw [show (#[Operand.tmp 13] : Array Operand).map aq.eval = #[aq.tmps.getD 13 undef] from by simp [Act.eval], e0]) ?_
      refine (r_any zsg hzsg.len wq).mono ?_
      rintro x w' ⟨rfl, q⟩
      exact ⟨_, rfl, IsV.leaf w' (by decide) hzsg.len hzsg.byte, q⟩
    | 12, _ =>
      cases ho
      obtain ⟨sb0, sk0, e0, h0_⟩ := hdep 2 5 rfl (by kernel_rfl)
      obtain ⟨sb1, sk1, e1, h1_⟩ := hdep 5 8 rfl (by kernel_rfl)
      obtain ⟨sb2, sk2, e2, h2_⟩ := hdep 8 11 rfl (by kernel_rfl)
      obtain ⟨sb3, sk3, e3, h3_⟩ := hdep 11 14 rfl (by kernel_rfl)
      refine flow_rowsB 31 33 4 35 _ rfl Tryz.underlying31 valInfo [valL 0 zk sb0 sk0, valL 0 zcr sb1 sk1, valL zam (zeros 32) sb2 sk2, valL 0 zsg sb3 sk3] [.tmp 5, .tmp 8, .tmp 11, .tmp 14] rfl (by rw [show [Operand.tmp 5, Operand.tmp 8, Operand.tmp 11, Operand.tmp 14].map aq.eval = [aq.tmps.getD 5 undef, aq.tmps.getD 8 undef, aq.tmps.getD 11 undef, aq.tmps.getD 14 undef] from rfl, e0, e1, e2, e3]; rfl) (by simp [valL_length, zeros32, hzk.len, hzcr.len, hzsg.len]) rfl (by decide) (by decide) (by decide) (fun w' h hb => ⟨_, rfl, ksAt_of h [(.mk 0 zk [] [], sb0, sk0), (.mk 0 zcr [] [], sb1, sk1), (.mk zam (zeros 32) [] [], sb2, sk2), (.mk 0 zsg [] [], sb3, sk3)] 0 (fun j v hj => by rw [Nat.zero_add]; exact hj) (fun x hx => ?_)⟩)
      simp only [List.mem_cons, List.not_mem_nil, or_false] at hx
      rcases hx with rfl | rfl | rfl | rfl
      · exact VAt.keep hb _ h0_
      · exact VAt.keep hb _ h1_
      · exact VAt.keep hb _ h2_
      · exact VAt.keep hb _ h3_
    | 13, _ =>
      cases ho
      obtain ⟨b, e6, h6⟩ := hdep 12 15 rfl (by kernel_rfl)
      refine flow_fun 42 _ _ rfl (fun _ _ => by simp [go_sem]) #[.slice (some ⟨b, 0, none⟩) 4 4] (by rw [show (#[Operand.tmp 15] : Array Operand).map aq.eval = #[aq.tmps.getD 15 undef] from by simp [Act.eval], e6]) ?_
      refine (all_any (some ⟨b, 0, none⟩) 4 4 wq).mono ?_
      rintro x w' ⟨rfl, q⟩
      exact ⟨_, rfl, ⟨b, rfl, KsAt.keep q _ h6⟩, q⟩
    | (k + 14), hk => exact absurd hk (by omega)
  · intro o h14 ho
    omega
  intro vf w8 hc hv
  have e7 : ∃ b, vf 13 = _ ∧ KsAt w8 _ b 0 := hv 13 16 (by decide) rfl
  obtain ⟨b, e7, h7⟩ := e7
  have B8 := HB.out.trans ((hcB hc).mono (by omega))
  have H8v := HY.out.keep (hcB hc)
  have s8 := (hcB hc).size
  clear hv hc
  simp only [List.take_succ_cons, List.take_zero, List.drop_succ_cons, List.drop_zero, putAll, Act.put, List.setIfInBounds_toArray, List.set_cons_succ, List.set_cons_zero]
  rw [e7]
  have HB8 := hid B8
  have HK := hid h7
  clear B8 h7 e7 HB
  go_wp2_with ((with_reducible refine at_list' ?_); first
    | (refine wpList_store_c Tryz.ty33 rfl (.tmp 2) (.tmp 16) rfl (w.heap.size + 1) (valL 0 (zeros 32) nilS (.slice (some ⟨b, 0, none⟩) 4 4)) rfl rfl rfl (valL_oneC _ _ _ _ trivial trivial) _ H8v rfl ?_; intro w9 H9 O9))
  refine bodyPost_ret (results_c1 Tryz.ty33 rfl _ w9 (w.heap.size + 1) _ rfl H9 rfl) rfl ⟨_, rfl, ⟨nilS, _, rfl, ?_⟩, below_only HB8.out O9 (by omega)⟩
  exact VAt.aside H8v rfl O9 (ddV6 zk zcr zam zsg) (ddV6_wide zk zcr zam zsg) (isV_all (ks := [.mk 0 zk [] [], .mk 0 zcr [] [], .mk zam (zeros 32) [] [], .mk 0 zsg [] []]) rfl (by decide) HK.out)
end Go.Proofs.YtlkiafggagaeeaaGreat

/- The document's value of a struct (DepositData), and where it lies. -/
namespace Go.Proofs.YtlkiafggagaeeaaGreat
open Go.RowKit Go.Shelf
set_option linter.unusedVariables false
set_option linter.unusedSimpArgs false
set_option maxRecDepth 100000

set_option maxHeartbeats 2000000 in
theorem ddW_any (P : Nat → Prop) (zk : List Nat) (zcr : List Nat) (zam : Nat) (zsg : List Nat) (hzk : Rt6 zk) (hzcr : Rt6 zcr) (hzam : zam < 18446744073709551616) (hzsg : Rt6 zsg) (w : World) (hP : ∀ b, w.heap.size ≤ b → P b) : Calls Tryz.prog 34 #[.agg (ddC6 zk zcr zam zsg).toArray] w fun x w' => ∃ v, x = .returned v ∧ IsVI P w' v (ddV6 zk zcr zam zsg) ∧ Below w.heap.size w w' := by
  go_enter Tryz.func34, Tryz.ntmps34
  go_wp2_with ((with_reducible refine at_list' ?_); first
    | (refine wpList_box_c rfl 1 rfl (.tmp 0) rfl (ddC6 zk zcr zam zsg) rfl ?_; intro w1 H1 B1 S1)
    | (refine wpList_alloc_c Tryz.ty33 rfl 2 rfl rfl ?_; intro w2 H2 B2 S2; rw [S1] at H2 S2; rw [S1]))
  have HX := hid (H1.keep B2)
  have HY := hid H2
  have HB := hid (B1.trans (B2.mono (by omega)))
  have s2 : w2.heap.size = w.heap.size + 2 := by omega
  obtain ⟨P1, hP1⟩ : ∃ P1 : Nat → Prop, Same (fun b => P b ∧ b ≠ w.heap.size + 1) P1 := ⟨_, ⟨rfl⟩⟩
  have HP1 := hid (fun (wq : World) (h : w2.heap.size ≤ wq.heap.size) b (hb : wq.heap.size ≤ b) => show P1 b by rw [← hP1.out]; exact ⟨hP b (by omega), by omega⟩)
  clear H1 B1 S1 H2 B2 S2
  try simp only [Act.put, List.setIfInBounds_toArray, List.set_cons_succ, List.set_cons_zero]
  refine wp_region_flow 14 14 (fun i v wq => match i with
    | 0 => v = .pointer (some ⟨w.heap.size, 0, none⟩)
    | 1 => v = .agg (nums .u8 zk)
    | 2 => IsVI P1 wq v (.mk 0 zk [] [])
    | 3 => v = .pointer (some ⟨w.heap.size, 32, none⟩)
    | 4 => v = .agg (nums .u8 zcr)
    | 5 => IsVI P1 wq v (.mk 0 zcr [] [])
    | 6 => v = .pointer (some ⟨w.heap.size, 64, none⟩)
    | 7 => v = .int .u64 (zam : Nat)
    | 8 => IsVI P1 wq v (.mk zam (zeros 32) [] [])
    | 9 => v = .pointer (some ⟨w.heap.size, 65, none⟩)
    | 10 => v = .agg (nums .u8 zsg)
    | 11 => IsVI P1 wq v (.mk 0 zsg [] [])
    | 12 => ∃ b, v = .slice (some ⟨b, 0, none⟩) 4 4 ∧ KIn P1 wq [.mk 0 zk [] [], .mk 0 zcr [] [], .mk zam (zeros 32) [] [], .mk 0 zsg [] []] b 0
    | _ => ∃ b, v = .agg (valL 0 (zeros 32) nilS (.slice (some ⟨b, 0, none⟩) 4 4)).toArray ∧ KIn P1 wq [.mk 0 zk [] [], .mk 0 zcr [] [], .mk zam (zeros 32) [] [], .mk 0 zsg [] []] b 0) (by kernel_rfl) (by kernel_rfl) (fun _ d _ _ _ h => by cases d <;> exact h) ?_ ?_ ?_ ?_
  · intro i v wq wq' hi hv hb
    match i, hi with
    | 0, _ => exact hv
    | 1, _ => exact hv
    | 2, _ => exact hv.keep hb
    | 3, _ => exact hv
    | 4, _ => exact hv
    | 5, _ => exact hv.keep hb
    | 6, _ => exact hv
    | 7, _ => exact hv
    | 8, _ => exact hv.keep hb
    | 9, _ => exact hv
    | 10, _ => exact hv
    | 11, _ => exact hv.keep hb
    | 12, _ => obtain ⟨b, h1, h2⟩ := hv; exact ⟨b, h1, h2.keep hb⟩
    | 13, _ => obtain ⟨b, h1, h2⟩ := hv; exact ⟨b, h1, h2.keep hb⟩
    | (k + 14), hk => exact absurd hk (by omega)
  · intro i o hi ho aq wq hc hk hdep
    match i, hi with
    | 0, _ =>
      cases ho
      have e1 : aq.tmps.getD 1 undef = .pointer (some ⟨w.heap.size, 0, none⟩) := hk 1 (by decide)
      exact flow_value _ (run_fieldAt 73 (.tmp 1) 0 rfl _ _ e1 (by kernel_rfl)) rfl
    | 1, _ =>
      cases ho
      have e0 : aq.tmps.getD 3 undef = .pointer (some ⟨w.heap.size, 0, none⟩) := hdep 0 3 rfl (by kernel_rfl)
      exact flow_value _ (run_mid 24 (.tmp 3) rfl w.heap.size 0 e0 (cellsB zk) ((HX.out.keep (hcB hc)).range 0 (cellsB zk) (seg (ps := ddP6 zk zcr zam zsg) (i := 0) (off := 0) rfl (by simp [ddP6, cellsB_length, hzk.len, hzcr.len, hzsg.len]))) _ Tryz.und24 rfl (by rw [cellsB_length, hzk.len]; exact Tryz.size24)) rfl
    | 2, _ =>
      cases ho
      have e0 : aq.tmps.getD 4 undef = .agg (nums .u8 zk) := hdep 1 4 rfl (by kernel_rfl)
      refine flow_fun 44 _ _ rfl (fun _ _ => by simp [go_sem]) #[.agg (nums .u8 zk)] (by rw [show (#[Operand.tmp 4] : Array Operand).map aq.eval = #[aq.tmps.getD 4 undef] from by simp [Act.eval], e0]) ?_
      refine (r_any zk hzk.len wq).mono ?_
      rintro x w' ⟨rfl, q⟩
      exact ⟨_, rfl, IsVI.leaf P1 w' (by decide) hzk.len hzk.byte, q⟩
    | 3, _ =>
      cases ho
      have e1 : aq.tmps.getD 1 undef = .pointer (some ⟨w.heap.size, 0, none⟩) := hk 1 (by decide)
      exact flow_value _ (run_fieldAt 73 (.tmp 1) 1 rfl _ _ e1 (by kernel_rfl)) rfl
    | 4, _ =>
      cases ho
      have e0 : aq.tmps.getD 6 undef = .pointer (some ⟨w.heap.size, 32, none⟩) := hdep 3 6 rfl (by kernel_rfl)
      exact flow_value _ (run_mid 24 (.tmp 6) rfl w.heap.size 32 e0 (cellsB zcr) ((HX.out.keep (hcB hc)).range 32 (cellsB zcr) (seg (ps := ddP6 zk zcr zam zsg) (i := 1) (off := 32) rfl (by simp [ddP6, cellsB_length, hzk.len, hzcr.len, hzsg.len]))) _ Tryz.und24 rfl (by rw [cellsB_length, hzcr.len]; exact Tryz.size24)) rfl
    | 5, _ =>
      cases ho
      have e0 : aq.tmps.getD 7 undef = .agg (nums .u8 zcr) := hdep 4 7 rfl (by kernel_rfl)
      refine flow_fun 44 _ _ rfl (fun _ _ => by simp [go_sem]) #[.agg (nums .u8 zcr)] (by rw [show (#[Operand.tmp 7] : Array Operand).map aq.eval = #[aq.tmps.getD 7 undef] from by simp [Act.eval], e0]) ?_
      refine (r_any zcr hzcr.len wq).mono ?_
      rintro x w' ⟨rfl, q⟩
      exact ⟨_, rfl, IsVI.leaf P1 w' (by decide) hzcr.len hzcr.byte, q⟩
    | 6, _ =>
      cases ho
      have e1 : aq.tmps.getD 1 undef = .pointer (some ⟨w.heap.size, 0, none⟩) := hk 1 (by decide)
      exact flow_value _ (run_fieldAt 73 (.tmp 1) 2 rfl _ _ e1 (by kernel_rfl)) rfl
    | 7, _ =>
      cases ho
      have e0 : aq.tmps.getD 9 undef = .pointer (some ⟨w.heap.size, 64, none⟩) := hdep 6 9 rfl (by kernel_rfl)
      exact flow_value _ (run_cell 22 (.tmp 9) rfl _ e0 _ ((HX.out.keep (hcB hc)).cell (seg (ps := ddP6 zk zcr zam zsg) (i := 2) (off := 64) rfl (by simp [ddP6, cellsB_length, hzk.len, hzcr.len, hzsg.len]) 0 _ rfl)) _ Tryz.underlying22 rfl) rfl
    | 8, _ =>
      cases ho
      have e0 : aq.tmps.getD 10 undef = .int .u64 (zam : Nat) := hdep 7 10 rfl (by kernel_rfl)
      refine flow_fun 43 _ _ rfl (fun _ _ => by simp [go_sem]) #[.int .u64 (zam : Nat)] (by rw [show (#[Operand.tmp 10] : Array Operand).map aq.eval = #[aq.tmps.getD 10 undef] from by simp [Act.eval], e0]) ?_
      refine (n_any zam wq).mono ?_
      rintro x w' ⟨rfl, q⟩
      exact ⟨_, rfl, IsVI.leaf P1 w' hzam zeros32 (zeros_byte 32), q⟩
    | 9, _ =>
      cases ho
      have e1 : aq.tmps.getD 1 undef = .pointer (some ⟨w.heap.size, 0, none⟩) := hk 1 (by decide)
      exact flow_value _ (run_fieldAt 73 (.tmp 1) 3 rfl _ _ e1 (by kernel_rfl)) rfl
    | 10, _ =>
      cases ho
      have e0 : aq.tmps.getD 12 undef = .pointer (some ⟨w.heap.size, 65, none⟩) := hdep 9 12 rfl (by kernel_rfl)
      exact flow_value _ (run_mid 24 (.tmp 12) rfl w.heap.size 65 e0 (cellsB zsg) ((HX.out.keep (hcB hc)).range 65 (cellsB zsg) (seg (ps := ddP6 zk zcr zam zsg) (i := 3) (off := 65) rfl (by simp [ddP6, cellsB_length, hzk.len, hzcr.len, hzsg.len]))) _ Tryz.und24 rfl (by rw [cellsB_length, hzsg.len]; exact Tryz.size24)) rfl
    | 11, _ =>
      cases ho
      have e0 : aq.tmps.getD 13 undef = .agg (nums .u8 zsg) := hdep 10 13 rfl (by kernel_rfl)
      refine flow_fun 44 _ _ rfl (fun _ _ => by simp [go_sem]) #[.agg (nums .u8 zsg)] (by rw [show (#[Operand.tmp 13] : Array Operand).map aq.eval = #[aq.tmps.getD 13 undef] from by simp [Act.eval], e0]) ?_
      refine (r_any zsg hzsg.len wq).mono ?_
      rintro x w' ⟨rfl, q⟩
      exact ⟨_, rfl, IsVI.leaf P1 w' (by decide) hzsg.len hzsg.byte, q⟩
    | 12, _ =>
      cases ho
      obtain ⟨sb0, sk0, e0, h0_⟩ := hdep 2 5 rfl (by kernel_rfl)
      obtain ⟨sb1, sk1, e1, h1_⟩ := hdep 5 8 rfl (by kernel_rfl)
      obtain ⟨sb2, sk2, e2, h2_⟩ := hdep 8 11 rfl (by kernel_rfl)
      obtain ⟨sb3, sk3, e3, h3_⟩ := hdep 11 14 rfl (by kernel_rfl)
      refine flow_rowsB 31 33 4 35 _ rfl Tryz.underlying31 valInfo [valL 0 zk sb0 sk0, valL 0 zcr sb1 sk1, valL zam (zeros 32) sb2 sk2, valL 0 zsg sb3 sk3] [.tmp 5, .tmp 8, .tmp 11, .tmp 14] rfl (by rw [show [Operand.tmp 5, Operand.tmp 8, Operand.tmp 11, Operand.tmp 14].map aq.eval = [aq.tmps.getD 5 undef, aq.tmps.getD 8 undef, aq.tmps.getD 11 undef, aq.tmps.getD 14 undef] from rfl, e0, e1, e2, e3]; rfl) (by simp [valL_length, zeros32, hzk.len, hzcr.len, hzsg.len]) rfl (by decide) (by decide) (by decide) (fun w' h hb => ⟨_, rfl, kIn_of h hb (HP1.out wq (hcB hc).size _ (Nat.le_refl _)) [(.mk 0 zk [] [], sb0, sk0), (.mk 0 zcr [] [], sb1, sk1), (.mk zam (zeros 32) [] [], sb2, sk2), (.mk 0 zsg [] [], sb3, sk3)] (fun j v hj => by rw [Nat.zero_add]; exact hj) (fun x hx => ?_)⟩)
      simp only [List.mem_cons, List.not_mem_nil, or_false] at hx
      rcases hx with rfl | rfl | rfl | rfl
      · exact h0_
      · exact h1_
      · exact h2_
      · exact h3_
    | 13, _ =>
      cases ho
      obtain ⟨b, e6, h6⟩ := hdep 12 15 rfl (by kernel_rfl)
      refine flow_fun 42 _ _ rfl (fun _ _ => by simp [go_sem]) #[.slice (some ⟨b, 0, none⟩) 4 4] (by rw [show (#[Operand.tmp 15] : Array Operand).map aq.eval = #[aq.tmps.getD 15 undef] from by simp [Act.eval], e6]) ?_
      refine (all_any (some ⟨b, 0, none⟩) 4 4 wq).mono ?_
      rintro x w' ⟨rfl, q⟩
      exact ⟨_, rfl, ⟨b, rfl, h6.keep q⟩, q⟩
    | (k + 14), hk => exact absurd hk (by omega)
  · intro o h14 ho
    omega
  intro vf w8 hc hv
  have e7 : ∃ b, vf 13 = _ ∧ KIn P1 w8 _ b 0 := hv 13 16 (by decide) rfl
  obtain ⟨b, e7, h7⟩ := e7
  have B8 := HB.out.trans ((hcB hc).mono (by omega))
  have H8v := HY.out.keep (hcB hc)
  have s8 := (hcB hc).size
  clear hv hc
  simp only [List.take_succ_cons, List.take_zero, List.drop_succ_cons, List.drop_zero, putAll, Act.put, List.setIfInBounds_toArray, List.set_cons_succ, List.set_cons_zero]
  rw [e7]
  have HB8 := hid B8
  have HK := hid h7
  clear B8 h7 e7 HB
  go_wp2_with ((with_reducible refine at_list' ?_); first
    | (refine wpList_store_c Tryz.ty33 rfl (.tmp 2) (.tmp 16) rfl (w.heap.size + 1) (valL 0 (zeros 32) nilS (.slice (some ⟨b, 0, none⟩) 4 4)) rfl rfl rfl (valL_oneC _ _ _ _ trivial trivial) _ H8v rfl ?_; intro w9 H9 O9))
  refine bodyPost_ret (results_c1 Tryz.ty33 rfl _ w9 (w.heap.size + 1) _ rfl H9 rfl) rfl ⟨_, rfl, ⟨nilS, _, rfl, ?_⟩, below_only HB8.out O9 (by omega)⟩
  have hk := HK.out
  rw [← hP1.out] at hk
  exact vIn_all (ks := [.mk 0 zk [] [], .mk 0 zcr [] [], .mk zam (zeros 32) [] [], .mk 0 zsg [] []]) rfl (by decide) (hk.only O9)
end Go.Proofs.YtlkiafggagaeeaaGreat

