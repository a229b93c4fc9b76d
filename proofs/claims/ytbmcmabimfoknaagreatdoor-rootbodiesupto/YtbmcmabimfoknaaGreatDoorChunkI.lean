/- The iterator of merkle.Chunks: its contract. -/
import Derived.Test.YtbmcmabimfoknaaGreatDoorClonC
import Derived.RangeFuncNested
import Derived.RangeFuncBound
import Derived.RangeFuncCalls
import Derived.RangeFuncLeaves
import Derived.Shelf.Abstract
import Derived.Shelf.RegionOpen
import Derived.WalkKit
import Derived.OwnWalkIn
import Derived.TacticsInMore
import Derived.LoopNIn
import Derived.LoopIn
namespace Go.Proofs.YtbmcmabimfoknaaGreatDoor
set_option maxRecDepth 100000
open Go.RowKit Go.Shelf
set_option linter.unusedVariables false
attribute [local go_sem] Oper.semAt_some

/-- A root, as a value that is handed on. -/
abbrev RtV : Type := { x : List Nat // Rt x }
/-- What a round keeps: the variable of the bytes, and the bytes. -/
structure KeepsOwn (c : Nat) (ao : Option Addr) (bs : List Nat) (W W' : World) : Prop where
  box : W'.cell? ⟨c, 0, none⟩ = W.cell? ⟨c, 0, none⟩
  row : Reads W ao bs → Reads W' ao bs
theorem KeepsOwn.refl {c : Nat} {ao : Option Addr} {bs : List Nat} (A : World) : KeepsOwn c ao bs A A := ⟨rfl, id⟩
theorem KeepsOwn.trans {c : Nat} {ao : Option Addr} {bs : List Nat} {A B C : World} (h : KeepsOwn c ao bs A B) (k : KeepsOwn c ao bs B C) : KeepsOwn c ao bs A C := ⟨k.box.trans h.box, fun x => k.row (h.row x)⟩
/-- An operation that yields a value, inside a fence. -/
theorem wpListIn_run {F : Fence} {n : Nat} {P : Program} {w : World} {ops : Array Oper} {rest : List Oper} {o : Oper} {a : Act} {Q : Exit → Act → World → Prop} (hgd : o.guard = none) (hab : o.about P w a.eval = none) (hdf : ∀ c, o.op ≠ .defer c)
    (v : Value) (w' : World) (hrun : (execOp a.eval o).run P w = .ok (.value v) w') (h : wpListIn F n P ops Q rest (a.put o.dst v) w') : wpListIn F n P ops Q (o :: rest) a w := by
  refine wpListIn_plain hgd fun K hK => ?_
  unfold Oper.wpIn
  refine ⟨fun f hf => ?_, ?_⟩
  · rw [hab] at hf; cases hf
  · rw [Oper.semAt_plain F _ _ hdf, hrun, Oper.uponIn_value]; exact hK _ _ h
theorem run_alloc_has {P : Program} {w : World} {o : Oper} {a : Act} (t : TypeId) (ho : o.op = .alloc t) (k : IntKind) (n : Nat) (hz : (P.info? t).map (fun i => (i.zero, i.size)) = some (some (.agg (nums k (zeros n))), n)) :
    (execOp a.eval o).run P w = .ok (.value (.pointer (some ⟨w.heap.size, 0, none⟩))) (w.alloc (.cells (nums k (zeros n)) t)) := by
  have hzv : ∀ w, (zeroValue t).run P w = .ok (.agg (nums k (zeros n))) w := by
    intro w
    cases hq : P.info? t with
    | none => simp [hq] at hz
    | some i => simp [hq] at hz; simp [zeroValue, typeInfo, hq, hz.1]
  simp only [execOp, ho, Instr.alloc]
  simp [hzv, newVar, newRow, newObj, Value.cells, go_sem]
  rfl
theorem run_load_has {P : Program} {w : World} {o : Oper} {a : Act} (ty : TypeId) (x : Operand) (ho : o.op = .load ty x) (g : Nat) (k : IntKind) (l : List Nat) (hx : a.eval x = .pointer (some ⟨g, 0, none⟩)) (t : TypeId) (hg : Has w g t k l)
    (n : Nat) (e : TypeId) (hu : P.underlying ty = some (.array n e)) (hi : (P.info? ty).map (·.size) = some l.length) : (execOp a.eval o).run P w = .ok (.value (.agg (nums k l))) w := by
  have hl := run_loadVar_row w g t ty (nums k l) (0, 0) _ hg hu rfl (by rw [hi, nums_size])
  unfold execOp
  simp only [ho, hx, Instr.loadAt, Instr.sureAddr, Sem.run_bind, Sem.run_pure, Result.andThen_ok, hl]
theorem over_chunk (bs : List Nat) (k : Nat) : over (zeros 32) 0 ((bs.drop (32 * k)).take 32) = chunkAt bs k := by
  unfold over chunkAt zeros
  rw [List.take_zero, List.nil_append, List.drop_replicate, Nat.zero_add]

set_option maxRecDepth 100000 in
set_option maxHeartbeats 2000000 in
theorem chunkI_in (F : Fence) (n : Nat) (h7 : F.fn 115) (hro : F.round = none) (hn : 1 ≤ n) (l c cap : Nat) (ao : Option Addr) (bs : List Nat) (h8 : ∀ z ∈ bs, z < 256) (hlen : bs.length ≤ 140737488355328) (hcap : bs.length ≤ cap) (hm : cap ≤ maxLen) (W : World) (J Jx : List RtV → World → Prop) (hJ : AbidesFrom W.heap.size J)
    (hY : ∀ pre x W1, J pre W1 → pre.length < (chunks bs).length → YieldAt F (n - 1) Tryz.prog l #[.agg (nums .u8 x.1)] W1 fun e W' => (e = .returned (.bool true) ∧ J (pre ++ [x]) W' ∧ KeepsOwn c ao bs W1 W') ∨ (e = .returned (.bool false) ∧ Jx (pre ++ [x]) W'))
    (hc : W.cell? ⟨c, 0, none⟩ = some (.slice ao bs.length cap)) (hR : Reads W ao bs) (h0 : J [] W) :
    CallsIn F n Tryz.prog 115 #[.func (.yield l) #[] #[], .pointer (some ⟨c, 0, none⟩)] W fun e W' => (∃ v, e = .returned v) ∧
      ((∃ ys : List RtV, ys.map Subtype.val = chunks bs ∧ J ys W') ∨ (∃ pre : List RtV, pre.map Subtype.val = (chunks bs).take pre.length ∧ Jx pre W')) := by
  refine callsIn_of_wp Tryz.func115 rfl h7 ?_ hro
  simp only [Tryz.ntmps115, List.size_toArray, List.length_cons, List.length_nil, Nat.reduceAdd, Nat.reduceSub, Array.replicate_succ, Array.replicate_zero, List.push_toArray, List.append_toArray, List.nil_append, List.cons_append]
  have hcl := chunks_length bs
  have hmx := hm
  unfold maxLen at hmx
  gi_wp2
  gi_loopw [3, 4] (fun i _ wr => ∃ (k : Nat) (ys : List RtV), k ≤ (chunks bs).length ∧ i = .int .i64 ((32 * k : Nat) : Int) ∧ ys.map Subtype.val = (chunks bs).take k ∧ ys.length = k ∧ J ys wr ∧ KeepsOwn c ao bs W wr) (fun i _ _ => (32 * (chunks bs).length) - (intOf i).toNat)
  case atStart => exact ⟨0, [], Nat.zero_le _, rfl, rfl, rfl, h0, KeepsOwn.refl _⟩
  case round =>
    obtain ⟨k, ys, hk, rfl, hys, hyl, hJs, hKo⟩ := hrel
    have hbx : wr.cell? ⟨c, 0, none⟩ = some (.slice ao bs.length cap) := hKo.box.trans hc
    have hRr := hKo.row hR
    by_cases hlt : 32 * k < bs.length
    · obtain ⟨b, off, rfl, hcc⟩ : ∃ b off, ao = some ⟨b, off, none⟩ ∧ ∀ i, i < bs.length → wr.cell? ⟨b, off + i, none⟩ = some (.int .u8 (bs.getD i 0 : Nat)) := by
        rcases hRr with h | h
        · omega
        · exact h
      have hlt' : ((32 * k : Nat) : Int) < ((bs.length : Nat) : Int) := by omega
      obtain ⟨q, hq⟩ : ∃ q : Nat, 32 * k = q := ⟨_, rfl⟩
      have HQ := hid hq
      rw [hq] at hlt hlt' ⊢
      have H1 : Has (wr.alloc (.cells (nums .u8 (zeros 32)) 23)) wr.heap.size 23 .u8 (zeros 32) := heap_alloc_new wr _
      have B1 : Below wr.heap.size wr (wr.alloc (.cells (nums .u8 (zeros 32)) 23)) := (Below.refl _ _).alloc (Nat.le_refl _) _
      gi_wp2_with (refine wpListIn_run rfl rfl (fun _ h => by cases h) _ _ (run_alloc_has 23 rfl .u8 32 Tryz.zero23) ?_)
      have hc1 : (wr.alloc (.cells (nums .u8 (zeros 32)) 23)).cell? ⟨c, 0, none⟩ = some (.slice (some ⟨b, off, none⟩) bs.length cap) := (B1.cell (p := ⟨c, 0, none⟩) (block_lt_of_cell hbx)).trans hbx
      have hcc1 : ∀ i, i < bs.length → (wr.alloc (.cells (nums .u8 (zeros 32)) 23)).cell? ⟨b, off + i, none⟩ = some (.int .u8 (bs.getD i 0 : Nat)) := fun i hi => (B1.cell (p := ⟨b, off + i, none⟩) (block_lt_of_cell (hcc i hi))).trans (hcc i hi)
      simp only [Act.put, List.setIfInBounds_toArray, List.set_cons_succ, List.set_cons_zero]
      generalize wr.alloc (.cells (nums .u8 (zeros 32)) 23) = w1 at *
      obtain ⟨w2, hrun, H2, O2⟩ := run_copy_has (P := Tryz.prog) (w := w1.drew) 99 99 3 5 Tryz.underlying99 Tryz.one5 (some ⟨wr.heap.size, 0, none⟩) (some ⟨b, off + q, none⟩) 32 32 (bs.length - q) (cap - q) wr.heap.size 0 .u8 (zeros 32) 23 (by exact H1) ((bs.drop q).take 32)
        (by show _ = min _ _; rw [List.length_take, List.length_drop, Nat.min_comm])
        (fun _ => ⟨rfl, _, rfl, fun j hj => by
          rw [List.length_take, List.length_drop] at hj
          rw [Addr.add_lit]
          have h := hcc1 (q + j) (by omega)
          rw [show off + q + j = off + (q + j) by omega]
          have e : ((bs.drop q).take 32).getD j 0 = bs.getD (q + j) 0 := by
            simp [List.getD_eq_getElem?_getD, show j < 32 by omega]
          rw [e]
          exact h⟩) (by rw [zeros_length, List.length_take]; omega)
      have hcq : ¬ cap = q := by omega
      have hql : q ≤ bs.length := by omega
      have HB2 : Hid (Below wr.heap.size wr w2) := below_only B1.drew O2 (Nat.le_refl _)
      have HH2 := hid H2
      clear H1 H2 O2 hcc1
      gi_wp2
      refine wpIn_mono (Q := fun e a' w' => e = .normal ∧ a' = { tmps := #[.func (.yield l) #[] #[], .pointer (some ⟨c, 0, none⟩), undef, .int .i64 (q : Nat), .pointer (some ⟨wr.heap.size, 0, none⟩), .int .i64 (q : Nat), .slice (some ⟨b, off, none⟩) bs.length cap, .int .i64 (bs.length : Nat), .bool true, u9, u10, .slice (some ⟨wr.heap.size, 0, none⟩) 32 32, .slice (some ⟨b, off, none⟩) bs.length cap, .int .i64 (q : Nat), .slice (some ⟨b, off + q, none⟩) (bs.length - q) (cap - q), .int .i64 ((min 32 (bs.length - q) : Nat) : Int), u16, u17, u18, u19], defers := [] } ∧ w' = w2) ?_ ?_
      · gi_region
        all_goals exact ⟨rfl, rfl, rfl⟩
      rintro _ _ w' ⟨rfl, rfl, hw'⟩
      replace hw' := hw'.symm
      subst hw'
      clear hrun hc1 B1
      have hov : over (zeros 32) 0 ((bs.drop q).take 32) = chunkAt bs k := by rw [← HQ.out]; exact over_chunk bs k
      rw [hov] at HH2
      have hJ2 : J ys w2 := hJ ys wr w2 none hJs ⟨HB2.out.os, HB2.out.tape, HB2.out.output, HB2.out.size, fun j hj _ => HB2.out.block j hj⟩ (fun r e => by cases e)
      have hrt := chunkAt_rt bs h8 k
      have hkl : k < (chunks bs).length := by have := HQ.out; omega
      obtain ⟨fn, tmps, assign, body, hy, hRo⟩ := hY ys ⟨chunkAt bs k, hrt⟩ w2 hJ2 (by rw [hyl]; exact hkl)
      dsimp only at hy
      have hts : (ys ++ [(⟨chunkAt bs k, hrt⟩ : RtV)]).map Subtype.val = (chunks bs).take (k + 1) := by
        rw [List.map_append, hys, List.take_succ_eq_append_getElem hkl]
        simp [chunks]
      have HTS := hid hts
      have HKO : Hid (KeepsOwn c (some ⟨b, off, none⟩) bs W w2) := hKo.trans ⟨HB2.out.cell (p := ⟨c, 0, none⟩) (block_lt_of_cell hbx), fun h => h.keep HB2.out⟩
      obtain ⟨x, hx⟩ : ∃ x, chunkAt bs k = x := ⟨_, rfl⟩
      have HRo := hid hRo
      have HX : Same _ _ := ⟨hx⟩
      have HLen : Hid (x.length = 32) := by rw [← hx]; exact hrt.len
      rw [hx] at HH2 hy
      clear hts hJ2 hov hcc hRo hx hJs
      gi_wp2_with (refine wpListIn_run rfl rfl (fun _ h => by cases h) _ _ (run_load_has 23 (.tmp 4) rfl wr.heap.size .u8 x rfl 23 HH2.out _ _ Tryz.und23 (by rw [HLen.out]; exact Tryz.size23)) ?_)
      refine HRo.out.mono ?_
      rintro e W3 (⟨rfl, hJ3, hk3⟩ | ⟨rfl, hJx3⟩)
      · gi_wp2
        go_roundw
        case rel => exact ⟨k + 1, _, by omega, by have := HQ.out; go_num, HTS.out, by simp [hyl], hJ3, HKO.out.trans hk3⟩
        case measure => have := HQ.out; simp [intOf]; omega
      · gi_wp2
        refine bodyPost_ret (results_none rfl _ _ _) rfl ?_
        exact ⟨⟨_, rfl⟩, .inr ⟨_, by rw [HTS.out]; simp [hyl], hJx3⟩⟩
    · obtain rfl : k = (chunks bs).length := by omega
      rw [List.take_length] at hys
      gi_wp2
      go_end0
      exact ⟨⟨_, rfl⟩, .inl ⟨_, hys, hJs⟩⟩
end Go.Proofs.YtbmcmabimfoknaaGreatDoor
