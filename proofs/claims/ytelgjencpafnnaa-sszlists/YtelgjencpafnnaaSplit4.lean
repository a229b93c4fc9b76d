/- ssz's Split: the iterator over the parts of a list. -/
import Derived.Test.YtelgjencpafnnaaRangeM
import Derived.Test.YtelgjencpafnnaaIter
namespace Go.Proofs.Ytelgjencpafnnaa
open Go.RowKit Go.Shelf
set_option linter.unusedVariables false
attribute [local go_sem] Oper.semAt_some

/-- The parts of one size. -/
def pcs (bs : List Nat) (size k : Nat) : List (List Nat) := (List.range k).map fun i => (bs.drop (i * size)).take size
theorem pcs_length (bs : List Nat) (size k : Nat) : (pcs bs size k).length = k := by simp [pcs]
theorem pcs_take (bs : List Nat) (size k t : Nat) (h : t ≤ k) : (pcs bs size k).take t = pcs bs size t := by
  unfold pcs
  rw [← List.map_take, List.take_range, Nat.min_eq_left h]
theorem pcs_succ (bs : List Nat) (size t : Nat) : pcs bs size (t + 1) = pcs bs size t ++ [(bs.drop (t * size)).take size] := by simp [pcs, List.range_succ]
/-- A part that is handed to a round: it lies at or beyond B, in a block of bytes. -/
def MP (size B : Nat) (x : Value × List Nat) (W : World) : Prop :=
  ∃ g off cur, x.1 = .slice (some ⟨g, off, none⟩) size size ∧ B ≤ g ∧ W.heap[g]? = some (.cells cur 5 (0, 0)) ∧ off + size ≤ cur.size ∧ x.2.length = size ∧ (∀ z ∈ x.2, z < 256) ∧ ∀ j, j < size → cur[off + j]? = some (.int .u8 (x.2.getD j 0 : Nat))
/-- What a round keeps: the two variables that the iterator has caught; of the part's block what lies behind the part. -/
def KP (size bo bz : Nat) (x : Value × List Nat) (W V : World) : Prop :=
  (∀ b, b = bo ∨ b = bz → ∀ cs t f, W.heap[b]? = some (.cells cs t f) → V.heap[b]? = some (.cells cs t f)) ∧
  ∀ g off, x.1 = .slice (some ⟨g, off, none⟩) size size → ∀ cur, W.heap[g]? = some (.cells cur 5 (0, 0)) → ∃ cur' : Array Value, V.heap[g]? = some (.cells cur' 5 (0, 0)) ∧ cur'.size = cur.size ∧ ∀ j, off + size ≤ j → cur'[j]? = cur[j]?
theorem KP.trans {size bo bz : Nat} {x : Value × List Nat} {A B C : World} (h : KP size bo bz x A B) (k : KP size bo bz x B C) : KP size bo bz x A C :=
  ⟨fun b hb cs t f e => k.1 b hb cs t f (h.1 b hb cs t f e), fun g off e cur hc => by
    obtain ⟨c1, h1, s1, e1⟩ := h.2 g off e cur hc
    obtain ⟨c2, h2, s2, e2⟩ := k.2 g off e c1 h1
    exact ⟨c2, h2, s2.trans s1, fun j hj => (e2 j hj).trans (e1 j hj)⟩⟩
theorem KP.put {size bo bz : Nat} (x : Value × List Nat) (W : World) (l : Nat) (o o' : Obj) (hl : W.heap[l]? = some o) (ho : o.isCells = false) : KP size bo bz x W (W.putObj l o') := by
  have hne : ∀ b (cs : Array Value) t f, W.heap[b]? = some (.cells cs t f) → b ≠ l := fun b cs t f e h => by
    rw [h, hl] at e
    cases e
    cases ho
  exact ⟨fun b _ cs t f e => (World.putObj_heap_other (hne b cs t f e)).trans e, fun g off _ cur hc => ⟨cur, (World.putObj_heap_other (hne g cur _ _ hc)).trans hc, rfl, fun _ _ => rfl⟩⟩
theorem MP.put {size : Nat} (B : Nat) (x : Value × List Nat) (W : World) (l : Nat) (o o' : Obj) (h : MP size B x W) (hl : W.heap[l]? = some o) (ho : o.isCells = false) : MP size B x (W.putObj l o') := by
  obtain ⟨g, off, cur, h1, h2, h3, h4⟩ := h
  exact ⟨g, off, cur, h1, h2, (World.putObj_heap_other (fun e => by rw [e, hl] at h3; cases h3; cases ho)).trans h3, h4⟩
theorem MP.isB {size B : Nat} {x : Value × List Nat} {W : World} (h : MP size B x W) (hs : size ≤ 1099511627776) : IsB W x.1 x.2 := by
  obtain ⟨g, off, cur, h1, _, h3, h4, h5, h6, h7⟩ := h
  refine ⟨⟨some ⟨g, off, none⟩, size, by rw [h1, h5], by omega, by unfold maxLen; omega, (fun e => nomatch e), Or.inr ⟨g, off, rfl, fun i hi => ?_⟩⟩, h6⟩
  rw [cell_of_row W g _ _ _ (0, 0) h3, h7 i (by omega)]
def lenS : Value → Nat | .slice _ n _ => n | _ => 0
theorem below_none {w w' : World} (h : Below w.heap.size w w') : w.grownBy w' none := ⟨h.os, h.tape, h.output, h.size, fun k hk _ => h.block k hk⟩

set_option maxRecDepth 100000 in
set_option maxHeartbeats 2000000 in
theorem splitIt_in (n : Nat) (hn : 1 ≤ n) (l bo bz : Nat) (bs : List Nat) (size k : Nat) (hsz : 0 < size) (hk : bs.length = k * size) (hlen : bs.length ≤ 1099511627776) (v : Value) (J Jx : List (Value × List Nat) → World → Prop) (W : World)
    (hbo : W.heap[bo]? = some (.cells #[v] 22 (0, 0))) (hbz : W.heap[bz]? = some (.cells #[.int .i64 (size : Nat)] 3 (0, 0))) (hI : IsB W v bs) (hAJ : AbidesFrom W.heap.size J)
    (hY : ∀ pre x V, J pre V → MP size W.heap.size x V → pre.length < k → YieldAt Fence.wide (n - 1) Try.prog l #[x.1] V fun e V' =>
      (e = .returned (.bool true) ∧ J (pre ++ [x]) V' ∧ KP size bo bz x V V') ∨ (e = .returned (.bool false) ∧ Jx (pre ++ [x]) V')) (h0 : J [] W) :
    CallsIn Fence.wide n Try.prog 23 #[.func (.yield l) #[] #[], .pointer (some ⟨bo, 0, none⟩), .pointer (some ⟨bz, 0, none⟩)] W fun e W' => (∃ v, e = .returned v) ∧
      ((∃ xs : List (Value × List Nat), xs.map (·.2) = pcs bs size k ∧ J xs W') ∨ (∃ pre : List (Value × List Nat), (pre.map (·.2) = pcs bs size pre.length ∧ 0 < pre.length ∧ pre.length ≤ k) ∧ Jx pre W')) := by
  have h8 := hI.by8
  refine callsIn_of_wp Try.func23 rfl trivial ?_ rfl
  simp only [Try.ntmps23, List.size_toArray, List.length_cons, List.length_nil, Nat.reduceAdd, Nat.reduceSub, Array.replicate_succ, Array.replicate_zero, List.push_toArray, List.append_toArray, List.nil_append, List.cons_append]
  have hco := cell_of_row W bo 0 _ _ (0, 0) hbo
  gi_wp2_with fail
  refine ⟨trivial, ?_⟩
  refine (callsIn_wide.2 (clone_any v bs W hI (by omega))).mono ?_
  rintro e W1 ⟨v1, rfl, R1, B1⟩
  have J1 : J [] W1 := hAJ [] W W1 none h0 (below_none B1) (fun r e => nomatch e)
  have hz1 := (B1.block bz (Array.getElem?_eq_some_iff.1 hbz).1).trans hbz
  obtain ⟨ap, cap, hv1, hcp, hap⟩ : ∃ ap cap, v1 = .slice ap bs.length cap ∧ bs.length ≤ cap ∧ (0 < k → ∃ g cur, ap = some ⟨g, 0, none⟩ ∧ W.heap.size ≤ g ∧ W1.heap[g]? = some (.cells cur 5 (0, 0)) ∧ bs.length ≤ cur.size ∧ ∀ j, j < bs.length → cur[j]? = some (.int .u8 (bs.getD j 0 : Nat))) := by
    rcases R1.2 with ⟨rfl, h0⟩ | ⟨g, cap, cur, rfl, hb, hg, hnc, hm, hcs, htk⟩
    · exact ⟨none, 0, by rw [h0], by omega, fun h => by have := Nat.mul_pos h hsz; omega⟩
    · refine ⟨_, cap, rfl, hnc, fun _ => ⟨g, cur, rfl, hb, hg, by omega, fun j hj => ?_⟩⟩
      have h1 := congrArg (·[j]?) htk
      simp only [List.getElem?_take] at h1
      rw [if_pos (by omega)] at h1
      rw [← Array.getElem?_toList, h1, cellsB, List.getElem?_map, List.getElem?_eq_getElem hj, List.getD_eq_getElem?_getD, List.getElem?_eq_getElem hj]
      rfl
  subst hv1
  clear hco hbo hI R1
  gi_wp2_with fail
  have HAP := hid hap
  have hks : 0 < k → size ≤ k * size := fun h => by have := Nat.mul_le_mul_right size h; omega
  rw [hk] at hcp
  clear hap
  gi_loopw [4] (fun r wr => ∃ (t : Nat) (ys : List (Value × List Nat)) (aq : Option Addr), t ≤ k ∧ r = .slice aq (k * size - t * size) (cap - t * size) ∧ ys.map (·.2) = pcs bs size t ∧ J ys wr ∧ wr.heap[bz]? = some (.cells #[.int .i64 (size : Nat)] 3 (0, 0)) ∧ (t < k → ∃ g cur, aq = some ⟨g, t * size, none⟩ ∧ W.heap.size ≤ g ∧ wr.heap[g]? = some (.cells cur 5 (0, 0)) ∧ k * size ≤ cur.size ∧ ∀ j, t * size ≤ j → j < k * size → cur[j]? = some (.int .u8 (bs.getD j 0 : Nat))))
    (fun r _ => lenS r)
  case atStart =>
    refine ⟨0, [], ap, Nat.zero_le _, by simp, rfl, J1, hz1, fun h => ?_⟩
    obtain ⟨g, cur, e1, e2, e3, e4, e5⟩ := HAP.out h
    exact ⟨g, cur, by rw [e1, Nat.zero_mul], e2, e3, by omega, fun j _ hj => e5 j (by omega)⟩
  case round =>
    clear HAP J1 hz1
    obtain ⟨t, ys, aq, ht, rfl, hys, hJ, hz, hg⟩ := hrel
    by_cases hlt : t < k
    · obtain ⟨g, cur, rfl, e2, e3, e4, e5⟩ := hg hlt
      have hts : t * size + size ≤ k * size := by
        have := Nat.mul_le_mul_right size (show t + 1 ≤ k by omega)
        rw [Nat.add_mul, Nat.one_mul] at this
        exact this
      have hyl : ys.length = t := by have := congrArg List.length hys; simpa [pcs_length] using this
      obtain ⟨L, hL⟩ : ∃ L, k * size - t * size = L := ⟨_, rfl⟩
      obtain ⟨C, hC⟩ : ∃ C, cap - t * size = C := ⟨_, rfl⟩
      have hxl : ((bs.drop (t * size)).take size).length = size := by rw [List.length_take, List.length_drop, hk]; omega
      have hM : MP size W.heap.size (.slice (some ⟨g, t * size, none⟩) size size, (bs.drop (t * size)).take size) wr := by
        refine ⟨g, t * size, cur, rfl, e2, e3, by omega, hxl, fun z hz => h8 z (List.mem_of_mem_drop (List.mem_of_mem_take hz)), fun j hj => ?_⟩
        rw [e5 _ (by omega) (by omega)]
        congr 3
        rw [List.getD_eq_getElem?_getD, List.getD_eq_getElem?_getD, List.getElem?_take, if_pos hj, List.getElem?_drop]
      obtain ⟨fn, tmps, assign, body, hy, hR⟩ := hY ys _ wr hJ hM (by omega)
      dsimp only at hy
      have hcz := cell_of_row wr bz 0 _ _ (0, 0) hz
      have hL0 : (0 : Int) < (L : Int) := by omega
      have hsC : size ≤ C := by omega
      have hsL : size ≤ L := by omega
      have HX := hid (And.intro hz (And.intro e3 (And.intro e4 e5)))
      have HL := hid (And.intro hL hC)
      rw [hL, hC]
      clear hz e3 e4 e5 hL hC hM hg
      gi_wp2
      refine hR.mono ?_
      rintro e W3 (⟨rfl, hJ3, hk3⟩ | ⟨rfl, hJx3⟩)
      · have hz3 := hk3.1 bz (.inr rfl) _ _ _ HX.out.1
        obtain ⟨cur', h1, h2, h3⟩ := hk3.2 g (t * size) rfl cur HX.out.2.1
        have hcz := cell_of_row W3 bz 0 _ _ (0, 0) hz3
        have HY := hid (And.intro hz3 (And.intro h1 (And.intro h2 h3)))
        clear hz3 h1 h2 h3 hk3
        gi_wp2
        have e1 : (t + 1) * size = t * size + size := by rw [Nat.add_mul, Nat.one_mul]
        have hL1 := HL.out.1
        have hC1 := HL.out.2
        refine ⟨⟨t + 1, ys ++ [(.slice (some ⟨g, t * size, none⟩) size size, (bs.drop (t * size)).take size)], _, by omega, by rw [e1, ← Nat.sub_sub, ← Nat.sub_sub, hL1, hC1], by rw [List.map_append, hys, pcs_succ]; rfl, hJ3, HY.out.1, fun h => ?_⟩, by simp [lenS]; omega⟩
        have h2 := Nat.mul_le_mul_right size (show t + 2 ≤ k by omega)
        rw [Nat.add_mul] at h2
        refine ⟨g, cur', by rw [if_neg (by omega), e1], e2, HY.out.2.1, by rw [HY.out.2.2.1]; exact HX.out.2.2.1, fun j hj hj2 => ?_⟩
        rw [HY.out.2.2.2 j (by omega)]
        exact HX.out.2.2.2 j (by omega) hj2
      · gi_wp2
        refine bodyPost_ret (results_none rfl _ _ _) rfl ?_
        exact ⟨⟨_, rfl⟩, .inr ⟨_, ⟨by rw [List.map_append, hys, List.length_append, hyl, List.length_singleton, pcs_succ]; rfl, by simp, by simp; omega⟩, hJx3⟩⟩
    · obtain rfl : t = k := by omega
      rw [Nat.sub_self]
      gi_wp2
      go_end0
      exact ⟨⟨_, rfl⟩, .inl ⟨_, hys, hJ⟩⟩
end Go.Proofs.Ytelgjencpafnnaa
