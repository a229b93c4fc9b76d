/- Own texts of the proof, joined: Split4 SplitC EqF LenB LisN NumI Lw5AttSl AnsIx LisE. -/
import Derived.Test.YtpaamhmighgjeaaGreatH2
/- ssz's Split: the iterator over the parts of a list. -/
namespace Go.Proofs.YtpaamhmighgjeaaGreat
open Go.RowKit Go.Shelf
set_option linter.unusedVariables false
attribute [local go_sem] Oper.semAt_some

/-- The parts of one size. -/
def pcs (bs : List Nat) (size k : Nat) : List (List Nat) := (List.range k).map fun i => (bs.drop (i * size)).take size
theorem pcs_length (bs : List Nat) (size k : Nat) : (pcs bs size k).length = k := by simp [pcs]
theorem pcs_take (bs : List Nat) (size k t : Nat) (h : t ≤ k) : (pcs bs size k).take t = pcs bs size t := by
  unfold pcs
  rw [← List.map_take, List.take_range, Nat.min_eq_left h]
theorem pcs_succ (bs : List Nat) (size t : Nat) : pcs bs size (t + 1) = pcs bs size t ++ [(bs.drop (t * size)).take size] := by simp [pcs, List.range_succ]
/-- A part that is handed to a round: it lies at or beyond B, in a block of bytes. -/
def MP (size B : Nat) (x : Value × List Nat) (W : World) : Prop :=
  ∃ g off cur, x.1 = .slice (some ⟨g, off, none⟩) size size ∧ B ≤ g ∧ W.heap[g]? = some (.cells cur 5 (0, 0)) ∧ off + size ≤ cur.size ∧ x.2.length = size ∧ (∀ z ∈ x.2, z < 256) ∧ ∀ j, j < size → cur[off + j]? = some (.int .u8 (x.2.getD j 0 : Nat))
/-- What a round keeps: the two variables that the iterator has caught; of the part's block what lies behind the part. -/
def KP (size bo bz : Nat) (x : Value × List Nat) (W V : World) : Prop :=
  (∀ b, b = bo ∨ b = bz → ∀ cs t f, W.heap[b]? = some (.cells cs t f) → V.heap[b]? = some (.cells cs t f)) ∧
  ∀ g off, x.1 = .slice (some ⟨g, off, none⟩) size size → ∀ cur, W.heap[g]? = some (.cells cur 5 (0, 0)) → ∃ cur' : Array Value, V.heap[g]? = some (.cells cur' 5 (0, 0)) ∧ cur'.size = cur.size ∧ ∀ j, off + size ≤ j → cur'[j]? = cur[j]?
theorem KP.trans {size bo bz : Nat} {x : Value × List Nat} {A B C : World} (h : KP size bo bz x A B) (k : KP size bo bz x B C) : KP size bo bz x A C :=
  ⟨fun b hb cs t f e => k.1 b hb cs t f (h.1 b hb cs t f e), fun g off e cur hc => by
    obtain ⟨c1, h1, s1, e1⟩ := h.2 g off e cur hc
    obtain ⟨c2, h2, s2, e2⟩ := k.2 g off e c1 h1
    exact ⟨c2, h2, s2.trans s1, fun j hj => (e2 j hj).trans (e1 j hj)⟩⟩
theorem KP.put {size bo bz : Nat} (x : Value × List Nat) (W : World) (l : Nat) (o o' : Obj) (hl : W.heap[l]? = some o) (ho : o.isCells = false) : KP size bo bz x W (W.putObj l o') := by
  have hne : ∀ b (cs : Array Value) t f, W.heap[b]? = some (.cells cs t f) → b ≠ l := fun b cs t f e h => by
    rw [h, hl] at e
    cases e
    cases ho
  exact ⟨fun b _ cs t f e => (World.putObj_heap_other (hne b cs t f e)).trans e, fun g off _ cur hc => ⟨cur, (World.putObj_heap_other (hne g cur _ _ hc)).trans hc, rfl, fun _ _ => rfl⟩⟩
theorem MP.put {size : Nat} (B : Nat) (x : Value × List Nat) (W : World) (l : Nat) (o o' : Obj) (h : MP size B x W) (hl : W.heap[l]? = some o) (ho : o.isCells = false) : MP size B x (W.putObj l o') := by
  obtain ⟨g, off, cur, h1, h2, h3, h4⟩ := h
  exact ⟨g, off, cur, h1, h2, (World.putObj_heap_other (fun e => by rw [e, hl] at h3; cases h3; cases ho)).trans h3, h4⟩
theorem MP.isB {size B : Nat} {x : Value × List Nat} {W : World} (h : MP size B x W) (hs : size ≤ 1099511627776) : IsB W x.1 x.2 := by
  obtain ⟨g, off, cur, h1, _, h3, h4, h5, h6, h7⟩ := h
  refine ⟨⟨some ⟨g, off, none⟩, size, by rw [h1, h5], by omega, by unfold maxLen; omega, (fun e => nomatch e), Or.inr ⟨g, off, rfl, fun i hi => ?_⟩⟩, h6⟩
  rw [cell_of_row W g _ _ _ (0, 0) h3, h7 i (by omega)]
def lenS : Value → Nat | .slice _ n _ => n | _ => 0
theorem below_none {w w' : World} (h : Below w.heap.size w w') : w.grownBy w' none := ⟨h.os, h.tape, h.output, h.size, fun k hk _ => h.block k hk⟩

set_option maxRecDepth 100000 in
set_option maxHeartbeats 2000000 in
theorem splitIt_in (n : Nat) (hn : 1 ≤ n) (l bo bz : Nat) (bs : List Nat) (size k : Nat) (hsz : 0 < size) (hk : bs.length = k * size) (hlen : bs.length ≤ 1099511627776) (v : Value) (J Jx : List (Value × List Nat) → World → Prop) (W : World)
    (hbo : W.heap[bo]? = some (.cells #[v] 39 (0, 0))) (hbz : W.heap[bz]? = some (.cells #[.int .i64 (size : Nat)] 3 (0, 0))) (hI : IsB W v bs) (hAJ : AbidesFrom W.heap.size J)
    (hY : ∀ pre x V, J pre V → MP size W.heap.size x V → pre.length < k → YieldAt Fence.wide (n - 1) Tryz.prog l #[x.1] V fun e V' =>
      (e = .returned (.bool true) ∧ J (pre ++ [x]) V' ∧ KP size bo bz x V V') ∨ (e = .returned (.bool false) ∧ Jx (pre ++ [x]) V')) (h0 : J [] W) :
    CallsIn Fence.wide n Tryz.prog 120 #[.func (.yield l) #[] #[], .pointer (some ⟨bo, 0, none⟩), .pointer (some ⟨bz, 0, none⟩)] W fun e W' => (∃ v, e = .returned v) ∧
      ((∃ xs : List (Value × List Nat), xs.map (·.2) = pcs bs size k ∧ J xs W') ∨ (∃ pre : List (Value × List Nat), (pre.map (·.2) = pcs bs size pre.length ∧ 0 < pre.length ∧ pre.length ≤ k) ∧ Jx pre W')) := by
  have h8 := hI.by8
  refine callsIn_of_wp Tryz.func120 rfl trivial ?_ rfl
  simp only [Tryz.ntmps120, List.size_toArray, List.length_cons, List.length_nil, Nat.reduceAdd, Nat.reduceSub, Array.replicate_succ, Array.replicate_zero, List.push_toArray, List.append_toArray, List.nil_append, List.cons_append]
  have hco := cell_of_row W bo 0 _ _ (0, 0) hbo
  gi_wp2_with fail
  refine ⟨trivial, ?_⟩
  refine (callsIn_wide.2 (clone_any v bs W hI (by omega))).mono ?_
  rintro e W1 ⟨v1, rfl, R1, B1⟩
  have J1 : J [] W1 := hAJ [] W W1 none h0 (below_none B1) (fun r e => nomatch e)
  have hz1 := (B1.block bz (Array.getElem?_eq_some_iff.1 hbz).1).trans hbz
  obtain ⟨ap, cap, hv1, hcp, hap⟩ : ∃ ap cap, v1 = .slice ap bs.length cap ∧ bs.length ≤ cap ∧ (0 < k → ∃ g cur, ap = some ⟨g, 0, none⟩ ∧ W.heap.size ≤ g ∧ W1.heap[g]? = some (.cells cur 5 (0, 0)) ∧ bs.length ≤ cur.size ∧ ∀ j, j < bs.length → cur[j]? = some (.int .u8 (bs.getD j 0 : Nat))) := by
    rcases R1.2 with ⟨rfl, h0⟩ | ⟨g, cap, cur, rfl, hb, hg, hnc, hm, hcs, htk⟩
    · exact ⟨none, 0, by rw [h0], by omega, fun h => by have := Nat.mul_pos h hsz; omega⟩
    · refine ⟨_, cap, rfl, hnc, fun _ => ⟨g, cur, rfl, hb, hg, by omega, fun j hj => ?_⟩⟩
      have h1 := congrArg (·[j]?) htk
      simp only [List.getElem?_take] at h1
      rw [if_pos (by omega)] at h1
      rw [← Array.getElem?_toList, h1, cellsB, List.getElem?_map, List.getElem?_eq_getElem hj, List.getD_eq_getElem?_getD, List.getElem?_eq_getElem hj]
      rfl
  subst hv1
  clear hco hbo hI R1
  gi_wp2_with fail
  have HAP := hid hap
  have hks : 0 < k → size ≤ k * size := fun h => by have := Nat.mul_le_mul_right size h; omega
  rw [hk] at hcp
  clear hap
  gi_loopw [4] (fun r wr => ∃ (t : Nat) (ys : List (Value × List Nat)) (aq : Option Addr), t ≤ k ∧ r = .slice aq (k * size - t * size) (cap - t * size) ∧ ys.map (·.2) = pcs bs size t ∧ J ys wr ∧ wr.heap[bz]? = some (.cells #[.int .i64 (size : Nat)] 3 (0, 0)) ∧ (t < k → ∃ g cur, aq = some ⟨g, t * size, none⟩ ∧ W.heap.size ≤ g ∧ wr.heap[g]? = some (.cells cur 5 (0, 0)) ∧ k * size ≤ cur.size ∧ ∀ j, t * size ≤ j → j < k * size → cur[j]? = some (.int .u8 (bs.getD j 0 : Nat))))
    (fun r _ => lenS r)
  case atStart =>
    refine ⟨0, [], ap, Nat.zero_le _, by simp, rfl, J1, hz1, fun h => ?_⟩
    obtain ⟨g, cur, e1, e2, e3, e4, e5⟩ := HAP.out h
    exact ⟨g, cur, by rw [e1, Nat.zero_mul], e2, e3, by omega, fun j _ hj => e5 j (by omega)⟩
  case round =>
    clear HAP J1 hz1
    obtain ⟨t, ys, aq, ht, rfl, hys, hJ, hz, hg⟩ := hrel
    by_cases hlt : t < k
    · obtain ⟨g, cur, rfl, e2, e3, e4, e5⟩ := hg hlt
      have hts : t * size + size ≤ k * size := by
        have := Nat.mul_le_mul_right size (show t + 1 ≤ k by omega)
        rw [Nat.add_mul, Nat.one_mul] at this
        exact this
      have hyl : ys.length = t := by have := congrArg List.length hys; simpa [pcs_length] using this
      obtain ⟨L, hL⟩ : ∃ L, k * size - t * size = L := ⟨_, rfl⟩
      obtain ⟨C, hC⟩ : ∃ C, cap - t * size = C := ⟨_, rfl⟩
      have hxl : ((bs.drop (t * size)).take size).length = size := by rw [List.length_take, List.length_drop, hk]; omega
      have hM : MP size W.heap.size (.slice (some ⟨g, t * size, none⟩) size size, (bs.drop (t * size)).take size) wr := by
        refine ⟨g, t * size, cur, rfl, e2, e3, by omega, hxl, fun z hz => h8 z (List.mem_of_mem_drop (List.mem_of_mem_take hz)), fun j hj => ?_⟩
        rw [e5 _ (by omega) (by omega)]
        congr 3
        rw [List.getD_eq_getElem?_getD, List.getD_eq_getElem?_getD, List.getElem?_take, if_pos hj, List.getElem?_drop]
      obtain ⟨fn, tmps, assign, body, hy, hR⟩ := hY ys _ wr hJ hM (by omega)
      dsimp only at hy
      have hcz := cell_of_row wr bz 0 _ _ (0, 0) hz
      have hL0 : (0 : Int) < (L : Int) := by omega
      have hsC : size ≤ C := by omega
      have hsL : size ≤ L := by omega
      have HX := hid (And.intro hz (And.intro e3 (And.intro e4 e5)))
      have HL := hid (And.intro hL hC)
      rw [hL, hC]
      clear hz e3 e4 e5 hL hC hM hg
      gi_wp2
      refine hR.mono ?_
      rintro e W3 (⟨rfl, hJ3, hk3⟩ | ⟨rfl, hJx3⟩)
      · have hz3 := hk3.1 bz (.inr rfl) _ _ _ HX.out.1
        obtain ⟨cur', h1, h2, h3⟩ := hk3.2 g (t * size) rfl cur HX.out.2.1
        have hcz := cell_of_row W3 bz 0 _ _ (0, 0) hz3
        have HY := hid (And.intro hz3 (And.intro h1 (And.intro h2 h3)))
        clear hz3 h1 h2 h3 hk3
        gi_wp2
        have e1 : (t + 1) * size = t * size + size := by rw [Nat.add_mul, Nat.one_mul]
        have hL1 := HL.out.1
        have hC1 := HL.out.2
        refine ⟨⟨t + 1, ys ++ [(.slice (some ⟨g, t * size, none⟩) size size, (bs.drop (t * size)).take size)], _, by omega, by rw [e1, ← Nat.sub_sub, ← Nat.sub_sub, hL1, hC1], by rw [List.map_append, hys, pcs_succ]; rfl, hJ3, HY.out.1, fun h => ?_⟩, by simp [lenS]; omega⟩
        have h2 := Nat.mul_le_mul_right size (show t + 2 ≤ k by omega)
        rw [Nat.add_mul] at h2
        refine ⟨g, cur', by rw [if_neg (by omega), e1], e2, HY.out.2.1, by rw [HY.out.2.2.1]; exact HX.out.2.2.1, fun j hj hj2 => ?_⟩
        rw [HY.out.2.2.2 j (by omega)]
        exact HX.out.2.2.2 j (by omega) hj2
      · gi_wp2
        refine bodyPost_ret (results_none rfl _ _ _) rfl ?_
        exact ⟨⟨_, rfl⟩, .inr ⟨_, ⟨by rw [List.map_append, hys, List.length_append, hyl, List.length_singleton, pcs_succ]; rfl, by simp, by simp; omega⟩, hJx3⟩⟩
    · obtain rfl : t = k := by omega
      rw [Nat.sub_self]
      gi_wp2
      go_end0
      exact ⟨⟨_, rfl⟩, .inl ⟨_, hys, hJ⟩⟩
end Go.Proofs.YtpaamhmighgjeaaGreat

/- ssz's Split: its answer. -/
namespace Go.Proofs.YtpaamhmighgjeaaGreat
open Go.RowKit Go.Shelf
set_option linter.unusedVariables false

set_option maxRecDepth 100000 in
set_option maxHeartbeats 2000000 in
theorem split_ok (v : Value) (bs : List Nat) (size k : Nat) (limit : Int) (w : World) (hI : IsB w v bs) (hsz : 0 < size) (hk : bs.length = k * size) (hlen : bs.length ≤ 1099511627776) (hkl : (k : Int) ≤ limit) (hs : size ≤ 9223372036854775807) :
    Calls Tryz.prog 109 #[v, .int .i64 (size : Nat), .int .i64 limit] w fun x w' => ∃ u bo bz, x = .returned (.tuple #[.func (.func 120) #[] #[.pointer (some ⟨bo, 0, none⟩), .pointer (some ⟨bz, 0, none⟩)], .int .i64 0]) ∧ w.heap.size ≤ bo ∧ w.heap.size ≤ bz ∧
      w'.heap[bo]? = some (.cells #[u] 39 (0, 0)) ∧ w'.heap[bz]? = some (.cells #[.int .i64 (size : Nat)] 3 (0, 0)) ∧ IsB w' u bs ∧ Below w.heap.size w w' := by
  have HI := hid hI
  obtain ⟨⟨ao, cap, rfl, _⟩, h8⟩ := hI
  have h1 : ¬ (size : Int) < 1 := by omega
  have h0 : (size : Int) ≠ 0 := by omega
  have hq : ¬ limit < (k : Int) * (size : Int) / (size : Int) := by rw [Int.mul_ediv_cancel _ h0]; omega
  go_enter Tryz.func109, Tryz.ntmps109
  go_wp2_with fail
  have B1 : Below w.heap.size w (w.alloc (.cells #[.int .i64 (size : Nat)] 3)) := (Below.refl _ w).alloc (Nat.le_refl _) _
  have H1 := heap_alloc_new w (.cells #[.int .i64 (size : Nat)] 3)
  have S1 := World.size_alloc w (.cells #[.int .i64 (size : Nat)] 3)
  generalize w.alloc (.cells #[.int .i64 (size : Nat)] 3) = w1 at B1 H1 S1 ⊢
  have HC := hid (clone_any _ bs w1 (HI.out.keep B1) (by omega))
  rw [hk] at HC
  refine HC.out.mono ?_
  rintro e w2 ⟨u, rfl, R2, B2⟩
  have H2 := (B2.block _ (by omega)).trans H1
  have I2 : IsB w2 u bs := R2.isB h8
  obtain ⟨ao2, cap2, rfl⟩ : ∃ ao2 cap2, u = .slice ao2 bs.length cap2 := by obtain ⟨⟨a, c, e, _⟩, _⟩ := I2; exact ⟨a, c, e⟩
  rw [hk] at I2
  have HX := hid (And.intro H2 (And.intro I2 (below_more B1 B2 (Nat.le_refl _))))
  have s2 := B2.size
  clear H1 B1 R2 B2 H2 I2 HC
  go_wp2_with fail
  have BA : Below w2.heap.size w2 (w2.alloc (.cells #[.slice ao2 (k * size) cap2] 39)) := (Below.refl _ w2).alloc (Nat.le_refl _) _
  have HA := heap_alloc_new w2 (.cells #[.slice ao2 (k * size) cap2] 39)
  refine bodyPost_ret (v := .tuple #[.func (.func 120) #[] #[.pointer (some ⟨w2.heap.size, 0, none⟩), .pointer (some ⟨w.heap.size, 0, none⟩)], .int .i64 0]) (by simp [results, Tryz.results109, go_sem]) rfl ?_
  exact ⟨_, w2.heap.size, w.heap.size, rfl, by omega, Nat.le_refl _, HA, (BA.block _ (by omega)).trans HX.out.1, HX.out.2.1.keep BA, below_more HX.out.2.2 BA (by omega)⟩
set_option maxRecDepth 100000 in
set_option maxHeartbeats 2000000 in
theorem split_bad (v : Value) (bs : List Nat) (size limit : Int) (w : World) (hI : IsB w v bs) (hlen : bs.length ≤ 1099511627776) (h64 : -9223372036854775808 ≤ size ∧ size ≤ 9223372036854775807) (hbad : size < 1 ∨ ((bs.length : Int).tmod size ≠ 0) ∨ limit < (bs.length : Int).tdiv size) :
    Calls Tryz.prog 109 #[v, .int .i64 size, .int .i64 limit] w fun x w' => x = .returned (.tuple #[.nilFunc, .int .i64 3]) ∧ Below w.heap.size w w' := by
  obtain ⟨⟨ao, cap, rfl, _⟩, h8⟩ := hI
  by_cases h1 : size < 1
  · go_enter Tryz.func109, Tryz.ntmps109
    go_wp2_with fail
    refine bodyPost_ret (v := .tuple #[.nilFunc, .int .i64 3]) (by simp [results, Tryz.results109, go_sem]) rfl ?_
    exact ⟨rfl, (Below.refl _ w).alloc (Nat.le_refl _) _⟩
  · have h0 : size ≠ 0 := by omega
    obtain ⟨s, rfl⟩ : ∃ s : Nat, size = (s : Int) := ⟨size.toNat, by omega⟩
    by_cases h2 : ((bs.length : Int) % (s : Int)) = 0
    · have h3 : limit < (bs.length : Int) / (s : Int) := by
        rcases hbad with h | h | h
        · exact absurd h h1
        · rw [Int.tmod_eq_emod_of_nonneg (by omega)] at h; exact absurd h2 h
        · rwa [Int.tdiv_eq_ediv_of_nonneg (by omega)] at h
      have hb : 0 ≤ (bs.length : Int) / (s : Int) ∧ (bs.length : Int) / (s : Int) ≤ 1099511627776 := ⟨Int.ediv_nonneg (by omega) (by omega), Int.le_trans (Int.ediv_le_self _ (by omega)) (by omega)⟩
      go_enter Tryz.func109, Tryz.ntmps109
      go_wp2_with fail
      refine bodyPost_ret (v := .tuple #[.nilFunc, .int .i64 3]) (by simp [results, Tryz.results109, go_sem]) rfl ?_
      exact ⟨rfl, (Below.refl _ w).alloc (Nat.le_refl _) _⟩
    · go_enter Tryz.func109, Tryz.ntmps109
      go_wp2_with fail
      refine bodyPost_ret (v := .tuple #[.nilFunc, .int .i64 3]) (by simp [results, Tryz.results109, go_sem]) rfl ?_
      exact ⟨rfl, (Below.refl _ w).alloc (Nat.le_refl _) _⟩
end Go.Proofs.YtpaamhmighgjeaaGreat

/- A function held against nil. -/
namespace Go.Proofs.YtpaamhmighgjeaaGreat
open Go.RowKit Go.Shelf
set_option linter.unusedVariables false
theorem eqF_some {P : Program} (t : TypeId) (d : TypeDesc) (hd : P.underlying t = some d) (hf : ∃ a b c, d = .func a b c) (f : Nat) (l : Array Value) (w : World) : (binOp .eql t (.func (.func f) #[] l) .nilFunc).run P w = .ok (.bool false) w := by
  obtain ⟨a, b, c, rfl⟩ := hf
  have h : (Op.equalIn 10000 t (.func (.func f) #[] l) .nilFunc).run P w = .ok false w := by
    show (Op.equalIn (9999 + 1) t _ _).run P w = _
    unfold Op.equalIn
    simp only [Sem.run_bind, run_underlying hd, Result.andThen_ok, Sem.run_pure]
  show ((Op.equal t _ _ >>= fun r => pure (Value.bool r) : Sem Value)).run P w = _
  simp only [Op.equal, Op.maxDepth, Sem.run_bind, h, Result.andThen_ok, Sem.run_pure]
theorem eqF_none {P : Program} (t : TypeId) (d : TypeDesc) (hd : P.underlying t = some d) (hf : ∃ a b c, d = .func a b c) (w : World) : (binOp .eql t .nilFunc .nilFunc).run P w = .ok (.bool true) w := by
  obtain ⟨a, b, c, rfl⟩ := hf
  have h : (Op.equalIn 10000 t .nilFunc .nilFunc).run P w = .ok true w := by
    show (Op.equalIn (9999 + 1) t _ _).run P w = _
    unfold Op.equalIn
    simp only [Sem.run_bind, run_underlying hd, Result.andThen_ok, Sem.run_pure]
  show ((Op.equal t _ _ >>= fun r => pure (Value.bool r) : Sem Value)).run P w = _
  simp only [Op.equal, Op.maxDepth, Sem.run_bind, h, Result.andThen_ok, Sem.run_pure]
theorem eqSeq_some (f : Nat) (l : Array Value) (w : World) : (binOp .eql 175 (.func (.func f) #[] l) .nilFunc).run Tryz.prog w = .ok (.bool false) w := eqF_some _ _ Tryz.underlying175 ⟨_, _, _, rfl⟩ f l w
theorem eqSeq_none (w : World) : (binOp .eql 175 .nilFunc .nilFunc).run Tryz.prog w = .ok (.bool true) w := eqF_none _ _ Tryz.underlying175 ⟨_, _, _, rfl⟩ w
end Go.Proofs.YtpaamhmighgjeaaGreat

/- Lengths of parts, and numbers as bytes: there and back. -/
namespace Go.Proofs.YtpaamhmighgjeaaGreat
open Go.RowKit
set_option linter.unusedVariables false
/-- What parts are joined to. -/
def joinB (bss : List (List Nat)) : List Nat := cont (bss.map fun b => (b, true))
def lenB (bss : List (List Nat)) : Nat := (bss.map List.length).sum
theorem lenB_F (bss : List (List Nat)) : lenF (bss.map fun b => (b, true)) = lenB bss := by
  unfold lenF lenB
  rw [List.map_map]; rfl
theorem lenB_take (bss : List (List Nat)) (k : Nat) : lenB (bss.take k) ≤ lenB bss := by
  have := lenF_take (bss.map fun b => (b, true)) k
  rw [← List.map_take, lenB_F, lenB_F] at this
  exact this
theorem lenB_mem {bss : List (List Nat)} {i : Nat} {x : List Nat} (h : bss[i]? = some x) : x.length ≤ lenB bss := by
  have h1 := lenB_take bss (i + 1)
  have hi := (List.getElem?_eq_some_iff.1 h).1
  rw [List.take_succ_eq_append_getElem hi] at h1
  rw [List.getElem?_eq_getElem hi] at h
  cases h
  have e : ∀ (a : List (List Nat)) (b : List Nat), lenB (a ++ [b]) = lenB a + b.length := fun a b => by simp [lenB]
  rw [e] at h1
  omega

theorem le_putL (x k : Nat) : ((le x k).map fun n : Nat => (n : Int)) = putL x k := by
  simp [le, putL, byteAt]
theorem tk_le (x k : Nat) (hk : k ≤ 8) : tk (le x k) = x % 256 ^ k := by
  unfold tk takeV
  rw [le_putL, List.take_of_length_le (by rw [putL_length]; omega), takeL_put]
theorem tk_le4 (x : Nat) (h : x < 4294967296) : tk (le x 4) = x := by
  rw [tk_le x 4 (by decide)]
  exact Nat.mod_eq_of_lt h
theorem lenB_cons (b : List Nat) (r : List (List Nat)) : lenB (b :: r) = b.length + lenB r := by simp [lenB]
theorem lenB_flat (bss : List (List Nat)) : bss.flatten.length = lenB bss := by
  induction bss with
  | nil => rfl
  | cons b r ih => rw [List.flatten_cons, List.length_append, ih, lenB_cons]
theorem back_flat (bss : List (List Nat)) : backB (bss.map fun b => (b, true)) = bss.flatten := by
  induction bss with
  | nil => rfl
  | cons b r ih =>
    rw [List.map_cons, List.flatten_cons, ← ih]
    simp [backB]
theorem front_at (rest : List Nat) : ∀ (bss : List (List Nat)) (p j : Nat), j < bss.length → ((frontB p (bss.map fun b => (b, true)) ++ rest).drop (4 * j)).take 4 = le (p + lenB (bss.take j)) 4
  | [], p, j, h => by simp at h
  | b :: r, p, 0, h => by
    rw [List.map_cons, frontB]
    simp only [if_true, List.append_assoc, Nat.mul_zero, List.drop_zero, List.take_zero]
    rw [List.take_append_of_le_length (by rw [le_length]; exact Nat.le_refl _), List.take_of_length_le (by rw [le_length]; exact Nat.le_refl _)]
    rfl
  | b :: r, p, j + 1, h => by
    rw [List.map_cons, frontB]
    simp only [if_true, List.append_assoc]
    have h4 : (le p 4).length = 4 := le_length _ _
    rw [show 4 * (j + 1) = (le p 4).length + 4 * j by rw [h4]; omega, List.drop_append, List.take_succ_cons, lenB_cons]
    have e : List.drop ((le p 4).length + 4 * j) (le p 4) = [] := List.drop_eq_nil_of_le (by omega)
    rw [e, List.nil_append, show (le p 4).length + 4 * j - (le p 4).length = 4 * j by omega, front_at rest r (p + b.length) j (by simpa using h), Nat.add_assoc]
theorem flat_part : ∀ (bss : List (List Nat)) (i : Nat) (x : List Nat), bss[i]? = some x → (bss.flatten.drop (lenB (bss.take i))).take x.length = x
  | [], i, x, h => by simp at h
  | b :: r, 0, x, h => by
    simp at h
    subst h
    simp [lenB]
  | b :: r, i + 1, x, h => by
    rw [List.take_succ_cons, lenB_cons, List.flatten_cons, List.drop_append, List.drop_eq_nil_of_le (by omega), List.nil_append, show b.length + lenB (r.take i) - b.length = lenB (r.take i) by omega]
    exact flat_part r i x (by simpa using h)
theorem lenB_succ (bss : List (List Nat)) (i : Nat) (x : List Nat) (h : bss[i]? = some x) : lenB (bss.take (i + 1)) = lenB (bss.take i) + x.length := by
  have hi := (List.getElem?_eq_some_iff.1 h).1
  rw [List.getElem?_eq_getElem hi] at h
  cases h
  rw [List.take_succ_eq_append_getElem hi]
  have e : ∀ (a : List (List Nat)) (b : List Nat), lenB (a ++ [b]) = lenB a + b.length := fun a b => by simp [lenB]
  exact e _ _
end Go.Proofs.YtpaamhmighgjeaaGreat

/- A list's number taken. -/
namespace Go.Proofs.YtpaamhmighgjeaaGreat
open Go.RowKit Go.Shelf
set_option linter.unusedVariables false
set_option linter.unusedSimpArgs false
set_option maxRecDepth 100000

theorem takeNum_any {g : Nat} {S : Nat → Prop} {bs : List Nat} {size : Nat} {ps : List Nat} (s : Rs) (w : World) (h : Rd w g S bs size s.1 ps s.2) (hs : size ≤ 4611686018427387904) (hl : bs.length ≤ 140737488355328) :
    Calls Tryz.prog 70 #[.pointer (some ⟨g, 0, none⟩)] w fun e w' => e = .returned (.int .u64 (numAt bs size s : Nat)) ∧ Rd w' g S bs size (fixS size 8 s).1 ps (fixS size 8 s).2 ∧ w.grownBy w' (some g) := by
  have HN := hid (rnumS s w h hs hl)
  go_enter Tryz.func70, Tryz.ntmps70
  go_wp2_with fail
  refine HN.out.mono ?_
  rintro e w2 ⟨rfl, q1, q2⟩
  have X := hid (And.intro q1 q2)
  clear q1 q2
  obtain ⟨n, hn⟩ : ∃ n, numAt bs size s = n := ⟨_, rfl⟩
  rw [hn]
  have hn := hid hn
  go_wp2
  refine bodyPost_ret (v := .int .u64 (n : Nat)) (by simp [results, Tryz.results70, go_sem]) rfl ⟨by rw [hn.out], X.out⟩
theorem answerN_any (n : Nat) (w : World) : Calls Tryz.prog 106 #[.int .u64 (n : Nat), .bool true] w fun e w' => e = .returned (.tuple #[.int .u64 (n : Nat), .int .i64 0]) ∧ w' = w := by
  go_enter Tryz.func106, Tryz.ntmps106
  go_wp2
  refine bodyPost_ret (v := .tuple #[.int .u64 (n : Nat), .int .i64 0]) (by simp [results, Tryz.results106, go_sem]) rfl ⟨rfl, rfl⟩
theorem fixN8 : fixS 8 8 (0, false) = (8, false) := rfl
theorem numAt8 (xb : List Nat) (h8 : xb.length = 8) : numAt xb 8 (0, false) = tk xb := by
  show tk (fixB xb 8 0 8 false) = tk xb
  simp [fixB, fixW, List.take_of_length_le (Nat.le_of_eq h8)]
theorem takeN8 {g : Nat} {S : Nat → Prop} (xb : List Nat) (w : World) (h : Rd w g S xb 8 0 [] false) (h8 : xb.length = 8) :
    Calls Tryz.prog 70 #[.pointer (some ⟨g, 0, none⟩)] w fun e w' => e = .returned (.int .u64 (tk xb : Nat)) ∧ Rd w' g S xb 8 8 [] false ∧ w.grownBy w' (some g) := by
  refine (takeNum_any (0, false) w h (by decide) (by omega)).mono ?_
  rintro e w' ⟨q1, q2, q3⟩
  rw [numAt8 xb h8] at q1
  rw [fixN8] at q2
  exact ⟨q1, q2, q3⟩
theorem read8 (v : Value) (xb : List Nat) (w : World) (hI : IsB w v xb) (h8 : xb.length = 8) :
    Calls Tryz.prog 31 #[v, .int .i64 8] w fun e w' => ∃ g S, w.heap.size ≤ g ∧ e = .returned (.pointer (some ⟨g, 0, none⟩)) ∧ Rd w' g S xb 8 0 [] false ∧ Below w.heap.size w w' := by
  refine (read_any v xb 8 w hI (by decide) (by omega)).mono ?_
  rintro e w' ⟨g, S, hg, q0, q1, q2, q3⟩
  rw [show decide (xb.length < 8) = false by simp; omega] at q1
  exact ⟨g, S, hg, q0, q1, q3⟩
theorem parts8 {g : Nat} {S : Nat → Prop} (xb : List Nat) (w : World) (h : Rd w g S xb 8 8 [] false) (h8 : xb.length = 8) :
    Calls Tryz.prog 35 #[.pointer (some ⟨g, 0, none⟩)] w fun e w' => ∃ u, e = .returned (.tuple #[u, .bool true]) ∧ Below w.heap.size w w' := by
  refine (parts_ok w h (fun _ => h8) (by intro i hi; simp at hi) (by decide) (by omega) (by simp)).mono ?_
  rintro e w' ⟨u, q, _, B⟩
  exact ⟨u, q, B⟩
theorem decN_any (v : Value) (xb : List Nat) (w : World) (hI : IsB w v xb) (h8 : xb.length = 8) :
    Calls Tryz.prog 69 #[v, .int .i64 8, .func (.func 70) #[] #[]] w fun e w' => e = .returned (.tuple #[.int .u64 (tk xb : Nat), .int .i64 0]) ∧ Below w.heap.size w w' := by
  have HC := hid (read8 v xb w hI h8)
  obtain ⟨⟨ao, cap, rfl, _⟩, _⟩ := hI
  have H8 := hid h8
  clear h8
  obtain ⟨n, hn0⟩ : ∃ n, tk xb = n := ⟨_, rfl⟩
  rw [hn0]
  have hn := hid hn0
  clear hn0
  go_enter Tryz.func69, Tryz.ntmps69
  go_wp2_with fail
  refine HC.out.mono ?_
  rintro e w2 ⟨g, S, hg, rfl, q1, q3⟩
  have HT := hid (takeN8 xb w2 q1 H8.out)
  have HB2 := hid q3
  have s2 := q3.size
  clear q1 q3 HC
  rw [hn.out] at HT
  go_wp2_with fail
  refine HT.out.mono ?_
  rintro e w3 ⟨rfl, q1, q2⟩
  have HP := hid (parts8 xb w3 q1 H8.out)
  have HB3 : Hid (Below w.heap.size w w3) := hid ⟨q2.os.trans HB2.out.os, q2.tape.trans HB2.out.tape, q2.output.trans HB2.out.output, Nat.le_trans HB2.out.size q2.size, fun j hj => (q2.block j (by omega) (fun h => by have := Option.some.inj h; omega)).trans (HB2.out.block j hj)⟩
  clear q1 q2 HT HB2
  go_wp2_with fail
  refine HP.out.mono ?_
  rintro e w4 ⟨u, rfl, B4⟩
  have HB4 := hid (below_more HB3.out B4 (Nat.le_refl _))
  clear B4 HB3 HP
  go_wp2_with fail
  refine (answerN_any n w4).mono ?_
  rintro e w5 ⟨rfl, rfl⟩
  go_wp2
  refine bodyPost_ret (v := .tuple #[.int .u64 (n : Nat), .int .i64 0]) (by simp [results, Tryz.results69, go_sem]) rfl ⟨rfl, HB4.out⟩
theorem num2_any (v : Value) (xb : List Nat) (w : World) (hI : IsB w v xb) (h8 : xb.length = 8) :
    Calls Tryz.prog 68 #[v] w fun e w' => e = .returned (.tuple #[.int .u64 (tk xb : Nat), .int .i64 0]) ∧ Below w.heap.size w w' := by
  have HD := hid (decN_any v xb w hI h8)
  obtain ⟨⟨ao, cap, rfl, _⟩, _⟩ := hI
  obtain ⟨n, hn0⟩ : ∃ n, tk xb = n := ⟨_, rfl⟩
  rw [hn0] at HD ⊢
  clear hn0 h8
  go_enter Tryz.func68, Tryz.ntmps68
  go_wp2_with fail
  refine HD.out.mono ?_
  rintro e w5 ⟨rfl, B⟩
  have HB := hid B
  clear B
  go_wp2
  refine bodyPost_ret (v := .tuple #[.int .u64 (n : Nat), .int .i64 0]) (by simp [results, Tryz.results68, go_sem]) rfl ⟨rfl, HB.out⟩
/-- A list of numbers of at most so many. -/
def lsN (limit : Int) : List Value := [.int .i64 8, .int .i64 limit, .func (.func 65) #[] #[], .func (.func 68) #[] #[]]
theorem Tryz.ty89 : Ty Tryz.prog 89 [.int .i64 0, .int .i64 0, .nilFunc, .nilFunc] := ⟨by kernel_rfl, _, Tryz.underlying89, rfl⟩
theorem lsN_one (limit : Int) : (lsN limit).toArray.all (·.oneCell') = true := by simp [lsN, Value.oneCell']
end Go.Proofs.YtpaamhmighgjeaaGreat

/- Lists of numbers put: encode[uint64], List[uint64].put, numbers. -/
namespace Go.Proofs.YtpaamhmighgjeaaGreat
open Go.RowKit Go.Shelf
set_option linter.unusedVariables false
set_option linter.unusedSimpArgs false
set_option maxRecDepth 100000

/-- A slice of numbers. -/
structure IsN (w : World) (v : Value) (ns : List Nat) : Prop where
  ex : ∃ ao cap, v = .slice ao ns.length cap ∧ ns.length ≤ cap ∧ cap ≤ maxLen ∧ (ns.length = 0 ∨ ∃ b off, ao = some ⟨b, off, none⟩ ∧ ∀ i, i < ns.length → w.cell? ⟨b, off + i, none⟩ = some (.int .u64 (ns.getD i 0 : Nat)))
  by64 : ∀ n ∈ ns, n < 18446744073709551616
theorem IsN.keep {w w' : World} {v : Value} {ns : List Nat} (h : IsN w v ns) (hb : Below w.heap.size w w') : IsN w' v ns := by
  obtain ⟨⟨ao, cap, e, h1, h2, h3⟩, h4⟩ := h
  refine ⟨⟨ao, cap, e, h1, h2, ?_⟩, h4⟩
  rcases h3 with h3 | ⟨b, off, e2, hc⟩
  · exact .inl h3
  · exact .inr ⟨b, off, e2, fun i hi => (World.cell?_of_block (hb.block b (block_lt_of_cell (hc i hi)))).trans (hc i hi)⟩
/-- The bytes of numbers. -/
def bytesN (ns : List Nat) : List Nat := (ns.map fun n => le n 8).flatten
theorem cont_fixed : ∀ fs : List (List Nat × Bool), (∀ f ∈ fs, f.2 = false) → cont fs = (fs.map (·.1)).flatten := by
  intro fs h
  have hb : backB fs = [] := by
    unfold backB
    rw [List.flatMap_eq_nil_iff]
    intro f hf
    rw [h f hf]
    rfl
  have hf : ∀ (fs : List (List Nat × Bool)) (p : Nat), (∀ f ∈ fs, f.2 = false) → frontB p fs = (fs.map (·.1)).flatten := by
    intro fs
    induction fs with
    | nil => intro p _; rfl
    | cons f fs ih =>
      intro p h
      have h1 := h f (by simp)
      simp only [frontB, h1, List.map_cons, List.flatten_cons]
      simp only [Bool.false_eq_true, if_false]
      rw [ih _ (fun x hx => h x (List.mem_cons_of_mem _ hx))]
  unfold cont
  rw [hb, hf fs _ h, List.append_nil]
theorem cont_numF (ns : List Nat) : cont (numF ns) = bytesN ns := by
  rw [cont_fixed _ (by intro f hf; simp only [numF, List.mem_map] at hf; obtain ⟨n, _, rfl⟩ := hf; rfl)]
  simp [numF, bytesN, List.map_map, Function.comp_def]
theorem bytesN_length (ns : List Nat) : (bytesN ns).length = 8 * ns.length := by
  unfold bytesN
  induction ns with
  | nil => rfl
  | cons n ns ih => simp only [List.map_cons, List.flatten_cons, List.length_append, ih, le_length, List.length_cons]; omega
theorem bytesN_byte (ns : List Nat) : ∀ z ∈ bytesN ns, z < 256 := by
  intro z hz
  unfold bytesN at hz
  simp only [List.mem_flatten, List.mem_map] at hz
  obtain ⟨l, ⟨n, _, rfl⟩, h⟩ := hz
  exact le_byte n 8 z h
theorem lenF_numF (ns : List Nat) : lenF (numF ns) = 8 * ns.length := by
  induction ns with
  | nil => rfl
  | cons n ns ih => simp only [numF, lenF, List.map_cons, List.flatten_cons, List.length_append, List.sum_cons, le_length, List.length_cons] at ih ⊢; omega

set_option maxHeartbeats 1000000 in
theorem putN_any (g : Nat) (S : Nat → Prop) (fs : List (List Nat × Bool)) (n : Nat) (w : World) (hW : Wr w g S fs) (hfs : fs.length + 1 < 2147483647) (hn : n < 18446744073709551616) :
    Calls Tryz.prog 67 #[.pointer (some ⟨g, 0, none⟩), .int .u64 (n : Nat)] w fun x w' => (∃ u, x = .returned u) ∧ Wr w' g (more S w w') (fs ++ numF [n]) ∧ w.grownBy w' (some g) := by
  have hg := hW.gt
  have hS := hW.out
  have hl := hW.lt
  have hW0 : Wr w g (more S w w) fs := hW.grow (fun k a => .inl a) (fun a => by rcases a with a | a; exact hS a; omega) (fun k a => by rcases a with a | a; exact hl k a; omega)
  have HW := hid hW0
  clear hW hW0
  go_enter Tryz.func67, Tryz.ntmps67
  go_wp2_with fail
  have B2 : Below w.heap.size w (w.alloc (.cells #[.int .u64 (n : Nat)] 23)) := (Below.refl _ w).alloc (Nat.le_refl _) _
  have H2 := heap_alloc_new w (.cells #[.int .u64 (n : Nat)] 23)
  have S2 := World.size_alloc w (.cells #[.int .u64 (n : Nat)] 23)
  generalize w.alloc (.cells #[.int .u64 (n : Nat)] 23) = w2 at B2 H2 S2 ⊢
  have W2 := hid (HW.out.start B2 hg hS hl (Nat.le_refl _))
  have HC := hid (num_wr g (more S w w2) fs [n] w.heap.size 0 1 w2 W2.out (by omega) (by simp; omega) (by simpa using hn) (fun i hi => by
    have : i = 0 := by simpa using hi
    subst this
    exact cell_of_row w2 _ 0 _ _ (0, 0) H2) (by simp))
  have HB := hid B2
  clear B2 H2
  refine HC.out.mono ?_
  rintro x w3 ⟨⟨u3, rfl⟩, q1, q2⟩
  have W3 := hid (Wr.next hg hS hl (by omega) q2.size q1)
  have G3 := hid (grown_trans (grown_below (grown_refl w g) HB.out) q2)
  clear q1 q2 HC W2 HB
  go_wp2
  go_end0
  exact ⟨⟨_, rfl⟩, W3.out, G3.out⟩
set_option maxHeartbeats 1000000 in
theorem encN_any (n : Nat) (w : World) (hn : n < 18446744073709551616) :
    Calls Tryz.prog 66 #[.int .u64 (n : Nat), .func (.func 67) #[] #[]] w fun x w' => ∃ v, x = .returned v ∧ Row w' w.heap.size v (le n 8) ∧ Below w.heap.size w w' := by
  have HPT := hid (fun g S fs w hW hl => putN_any g S fs n w hW hl hn)
  go_enter Tryz.func66, Tryz.ntmps66
  go_wp2_with fail
  have W1 := wr_new w
  have B1 : Below w.heap.size w (w.alloc (.cells #[.int .i64 0, .pointer none] 84)) := (Below.refl _ w).alloc (Nat.le_refl _) _
  have S1 := World.size_alloc w (.cells #[.int .i64 0, .pointer none] 84)
  generalize w.alloc (.cells #[.int .i64 0, .pointer none] 84) = w1 at W1 B1 S1 ⊢
  have HC := hid (HPT.out w.heap.size _ [] w1 W1 (by simp))
  have HB1 := hid B1
  clear B1 W1 HPT
  refine HC.out.mono ?_
  rintro x w3 ⟨⟨u3, rfl⟩, q1, q2⟩
  have s3 := q2.size
  have HB := hid (bytes_any w.heap.size _ _ w3 q1 (by simp [numF]) (by rw [List.nil_append, lenF_numF]; simp))
  have HB3 : Hid (Below w.heap.size w w3) := hid ⟨q2.os.trans HB1.out.os, q2.tape.trans HB1.out.tape, q2.output.trans HB1.out.output, by omega, fun j hj => (q2.block j (by omega) (fun h => by have := Option.some.inj h; omega)).trans (HB1.out.block j hj)⟩
  clear q1 q2 HC HB1
  go_wp2_with fail
  refine HB.out.mono ?_
  rintro x w4 ⟨v, rfl, q1, q2⟩
  rw [List.nil_append, cont_numF, show bytesN [n] = le n 8 by simp [bytesN]] at q1
  have X := hid (And.intro q1 q2)
  clear q1 q2 HB
  go_wp2
  go_ret
  exact ⟨v, rfl, X.out.1.base (by omega), HB3.out.trans (X.out.2.mono (by omega))⟩
theorem num1_any (n : Nat) (w : World) (hn : n < 18446744073709551616) :
    Calls Tryz.prog 65 #[.int .u64 (n : Nat)] w fun x w' => ∃ v, x = .returned v ∧ Row w' w.heap.size v (le n 8) ∧ Below w.heap.size w w' := by
  have HD := hid (encN_any n w hn)
  go_enter Tryz.func65, Tryz.ntmps65
  go_wp2_with fail
  refine HD.out.mono ?_
  rintro e w5 ⟨v, rfl, R, B⟩
  have HB := hid (And.intro R B)
  clear R B
  go_wp2
  go_ret
  exact ⟨v, rfl, HB.out.1, HB.out.2⟩
theorem eqPut (f : Nat) (l : Array Value) (w : World) : (binOp .eql 86 (.func (.func f) #[] l) .nilFunc).run Tryz.prog w = .ok (.bool false) w := eqF_some _ _ Tryz.underlying86 ⟨_, _, _, rfl⟩ f l w
theorem eqTake (f : Nat) (l : Array Value) (w : World) : (binOp .eql 87 (.func (.func f) #[] l) .nilFunc).run Tryz.prog w = .ok (.bool false) w := eqF_some _ _ Tryz.underlying87 ⟨_, _, _, rfl⟩ f l w
set_option maxHeartbeats 1000000 in
theorem lsN_any (limit : Int) (w : World) : Calls Tryz.prog 26 #[.int .i64 limit] w fun e w' => e = .returned (.agg (lsN limit).toArray) ∧ Below w.heap.size w w' := by
  go_enter Tryz.func26, Tryz.ntmps26
  go_wp2_with ((with_reducible refine at_list' ?_); first
    | (refine wpList_alloc_c Tryz.ty89 rfl 2 rfl rfl ?_; intro w1 H1 B1 S1)
    | (refine wpList_build_c rfl #[(0, .const (.int .i64 8)), (1, .tmp 3), (2, .func 65), (3, .func 68)] rfl #[(0, .int .i64 8), (1, .int .i64 limit), (2, .func (.func 65) #[] #[]), (3, .func (.func 68) #[] #[])] (by simp [Act.eval]) (.agg (lsN limit).toArray) (by kernel_rfl) ?_)
    | (refine wpList_store_c Tryz.ty89 rfl (.tmp 2) (.tmp 4) rfl w.heap.size (lsN limit) rfl rfl rfl (lsN_one limit) _ H1 rfl ?_; intro w2 H2 O2))
  refine bodyPost_ret (results_c1 Tryz.ty89 rfl _ _ w.heap.size (lsN limit) rfl H2 rfl) rfl ?_
  exact ⟨rfl, below_only B1 O2 (Nat.le_refl _)⟩
set_option maxHeartbeats 1000000 in
theorem lput_any (limit : Int) (n : Nat) (w : World) (hn : n < 18446744073709551616) :
    Calls Tryz.prog 71 #[.agg (lsN limit).toArray, .int .u64 (n : Nat)] w fun x w' => ∃ v, x = .returned v ∧ Row w' w.heap.size v (le n 8) ∧ Below w.heap.size w w' := by
  go_enter Tryz.func71, Tryz.ntmps71
  go_wp2_with ((with_reducible refine at_list' ?_); first
    | (refine wpList_box_c rfl 2 rfl (.tmp 0) rfl (lsN limit) rfl ?_; intro w1 H1 B1 S1; have hc2 := H1.cell (j := 2) (v := .func (.func 65) #[] #[]) rfl; have heq := eqPut 65 #[] w1))
  have HD := hid (num1_any n w1 hn)
  have HB := hid B1
  clear H1 B1 hc2 heq
  refine HD.out.mono ?_
  rintro e w5 ⟨v, rfl, R, B⟩
  have HX := hid (And.intro R B)
  clear R B HD
  go_wp2
  go_ret
  exact ⟨v, rfl, HX.out.1.base (by omega), below_more HB.out HX.out.2 (Nat.le_refl _)⟩
set_option maxHeartbeats 1000000 in
theorem ltake_any (limit : Int) (v : Value) (xb : List Nat) (w : World) (hI : IsB w v xb) (h8 : xb.length = 8) :
    Calls Tryz.prog 86 #[.agg (lsN limit).toArray, v] w fun x w' => x = .returned (.tuple #[.int .u64 (tk xb : Nat), .int .i64 0]) ∧ Below w.heap.size w w' := by
  have HD := hid (fun w' (hb : Below w.heap.size w w') => num2_any v xb w' (hI.keep hb) h8)
  obtain ⟨⟨ao, cap, rfl, _⟩, _⟩ := hI
  obtain ⟨n, hn0⟩ : ∃ n, tk xb = n := ⟨_, rfl⟩
  rw [hn0] at HD ⊢
  clear hn0 h8
  go_enter Tryz.func86, Tryz.ntmps86
  go_wp2_with ((with_reducible refine at_list' ?_); first
    | (refine wpList_box_c rfl 2 rfl (.tmp 0) rfl (lsN limit) rfl ?_; intro w1 H1 B1 S1; have hc3 := H1.cell (j := 3) (v := .func (.func 68) #[] #[]) rfl; have heq := eqTake 68 #[] w1))
  have HX := hid B1
  have HD2 := hid (HD.out w1 B1)
  clear H1 B1 hc3 heq HD
  refine HD2.out.mono ?_
  rintro e w5 ⟨rfl, B⟩
  have HB := hid B
  clear B HD2
  go_wp2
  refine bodyPost_ret (v := .tuple #[.int .u64 (n : Nat), .int .i64 0]) (by simp [results, Tryz.results86, go_sem]) rfl ⟨rfl, below_more HX.out HB.out (Nat.le_refl _)⟩
end Go.Proofs.YtpaamhmighgjeaaGreat

/- The walk of CodecAttSl, over contracts. -/
namespace Go.Proofs.YtpaamhmighgjeaaGreat
open Go.RowKit
set_option linter.unusedVariables false
set_option linter.unusedSimpArgs false
set_option maxRecDepth 100000

theorem rneqs {o : Oper} {a : Act} {w : World} {s : ByteArray} (x y : Operand) (ho : o.op = .binOp .neq 9 x y 9) (hx : a.eval x = .string s) (hy : a.eval y = .string s) : (execOp a.eval o).run Tryz.prog w = .ok (.value (.bool false)) w := by
  unfold execOp
  simp only [ho, hx, hy]
  simp [go_sem, toList_beq]
theorem valL_oneV {w : World} {x : Vt} {sb sk : Value} (h : VAt w x sb sk) : (valL x.num x.root sb sk).toArray.all (·.oneCell') = true ∧ (valL x.num x.root sb sk).length = 35 := by
  cases x
  rename_i n r bs ks
  rw [VAt] at h
  obtain ⟨⟨_, hr, _⟩, hT, ao, cap, rfl, _⟩ := h
  exact ⟨valL_oneC _ _ _ _ hT.sl trivial, valL_length _ _ _ _ hr⟩
theorem wpList_wantV {P : Program} {w : World} {ops : Array Oper} {rest : List Oper} {o : Oper} {a : Act} {Q : Exit → Act → World → Prop} (hw : Region.wanted o (yielded ops a.tmps) = true) (v : Value) (hr : (execOp a.eval o).run P w = .ok (.value v) w)
    (h : wpList P ops Q rest (a.put o.dst v) w) : wpList P ops Q (o :: rest) a w :=
  BigFrame.wpList_want hw fun K hK => wp_run hr (hK _ _ h)
set_option maxHeartbeats 1000000 in
theorem wide_any (n : Nat) (w : World) : Calls Tryz.prog 6 #[.int .i64 (n : Nat)] w fun e w' => e = .returned (.bool (decide (500 < n))) ∧ w' = w := by
  have h : decide ((n : Int) > 500) = decide (500 < n) := by by_cases c : 500 < n <;> simp [c] <;> omega
  go_enter Tryz.func6, Tryz.ntmps6
  go_wp2
  go_ret
  exact ⟨by simp [← h], rfl⟩
/-- Both lists of numbers. -/
structure Two (ao bo : Option Addr) (c d : Nat) (l m : List Nat) (w : World) : Prop where
  one : IsN w (.slice ao l.length c) l
  two : IsN w (.slice bo m.length d) m
theorem Two.keep {ao bo : Option Addr} {c d : Nat} {l m : List Nat} {w w' : World} (h : Two ao bo c d l m w) (hb : Below w.heap.size w w') : Two ao bo c d l m w' := ⟨h.one.keep hb, h.two.keep hb⟩
set_option maxHeartbeats 2000000 in
theorem CodecAttSl_wide1 (C zs : List Value) (ao bo : Option Addr) (c d : Nat) (l m : List Nat) (w : World) (hT : Ty Tryz.prog 50 zs) (hl : C.length = zs.length) (h0 : C[0]? = some (.slice ao l.length c)) (h133 : C[133]? = some (.slice bo m.length d)) (hw : 500 < l.length) :
    Calls Tryz.prog 4 #[.agg C.toArray] w fun e w' => e = .returned (.bool true) ∧ Below w.heap.size w w' := by
  have HW : Hid (decide (500 < l.length) = true) := hid (by simp [hw])
  have H0 := hid h0
  have H133 := hid h133
  clear hT hl h0 h133 hw
  go_enter Tryz.func4, Tryz.ntmps4
  go_wp2_with (refine wpList_box_c rfl 1 rfl (.tmp 0) rfl C rfl ?_; intro w1 H1 B1 S1)
  refine (awake_any w1).mono ?_
  rintro x w2 ⟨rfl, B2⟩
  have hx0 := (H1.keep B2).cell H0.out
  have T2 := hid (below_more B1 B2 (Nat.le_refl _))
  clear H1 B1 B2 S1
  go_wp2_with fail
  refine (wide_any l.length w2).mono ?_
  rintro x w3 ⟨rfl, rfl⟩
  rw [HW.out]
  go_wp2
  go_ret
  exact ⟨rfl, T2.out⟩
set_option maxHeartbeats 2000000 in
theorem CodecAttSl_wide2 (C zs : List Value) (ao bo : Option Addr) (c d : Nat) (l m : List Nat) (w : World) (hT : Ty Tryz.prog 50 zs) (hl : C.length = zs.length) (h0 : C[0]? = some (.slice ao l.length c)) (h133 : C[133]? = some (.slice bo m.length d)) (hn : l.length ≤ 500) (hw : 500 < m.length) :
    Calls Tryz.prog 4 #[.agg C.toArray] w fun e w' => e = .returned (.bool true) ∧ Below w.heap.size w w' := by
  have HW : Hid (decide (500 < l.length) = false) := hid (by simp; omega)
  have HWm : Hid (decide (500 < m.length) = true) := hid (by simp [hw])
  have H0 := hid h0
  have H133 := hid h133
  clear hT hl h0 h133 hw hn
  go_enter Tryz.func4, Tryz.ntmps4
  go_wp2_with (refine wpList_box_c rfl 1 rfl (.tmp 0) rfl C rfl ?_; intro w1 H1 B1 S1)
  refine (awake_any w1).mono ?_
  rintro x w2 ⟨rfl, B2⟩
  have hx0 := (H1.keep B2).cell H0.out
  have hx1 := (H1.keep B2).cell H133.out
  have T2 := hid (below_more B1 B2 (Nat.le_refl _))
  clear H1 B1 B2 S1
  go_wp2_with fail
  refine (wide_any l.length w2).mono ?_
  rintro x w3 ⟨rfl, rfl⟩
  rw [HW.out]
  go_wp2_with fail
  refine (wide_any m.length _).mono ?_
  rintro x w4 ⟨rfl, rfl⟩
  rw [HWm.out]
  go_wp2
  go_ret
  exact ⟨rfl, T2.out⟩
set_option maxHeartbeats 8000000 in
theorem codecAttSl_good (C zs : List Value) (ao bo : Option Addr) (c d : Nat) (l m : List Nat) (PY : List Value → World → Prop) (hPY : ∀ u wq w', PY u wq → Below wq.heap.size wq w' → PY u w') (X : Vt) (BS : List Nat) (D : Dt) (w : World) (hT : Ty Tryz.prog 50 zs) (hl : C.length = zs.length) (h1 : C.toArray.all (·.oneCell') = true) (h0 : C[0]? = some (.slice ao l.length c)) (h133 : C[133]? = some (.slice bo m.length d)) (hn : l.length ≤ 500) (hm : m.length ≤ 500) (hIT : Two ao bo c d l m w) (hb8 : ∀ z ∈ BS, z < 256)
    (href : ∀ wq, Two ao bo c d l m wq → Calls Tryz.prog 13 #[.agg C.toArray] wq fun x w' => ∃ v, x = .returned v ∧ IsV w' v X ∧ Below wq.heap.size wq w')
    (henc : ∀ wq, Two ao bo c d l m wq → Calls Tryz.prog 14 #[.agg C.toArray] wq fun x w' => ∃ v, x = .returned v ∧ Row w' wq.heap.size v BS ∧ Below wq.heap.size wq w')
    (hdec : ∀ v wq, IsB wq v BS → Calls Tryz.prog 15 #[v] wq fun x w' => (∃ u, x = .returned (.tuple #[.agg u.toArray, .int .i64 0]) ∧ PY u w') ∧ Below wq.heap.size wq w')
    (hly : ∀ u wq, PY u wq → u.length = zs.length ∧ u.toArray.all (·.oneCell') = true) (hrefy : ∀ u wq, PY u wq → Calls Tryz.prog 13 #[.agg u.toArray] wq fun x w' => ∃ v, x = .returned v ∧ IsV w' v X ∧ Below wq.heap.size wq w') (hle : l.length ≤ 32 ∧ m.length ≤ 32)
    (hkd : ∀ wq, Calls Tryz.prog 16 #[] wq fun x w' => ∃ p, x = .returned (.pointer (some ⟨p, 0, none⟩)) ∧ DAt w' D p ∧ Below wq.heap.size wq w')
    (henv : ∀ p u wq, DAt wq D p → IsV wq u X → Calls Tryz.prog 10 #[.pointer (some ⟨p, 0, none⟩), u] wq fun x w' => ∃ v, x = .returned v ∧ Row w' wq.heap.size v BS ∧ Below wq.heap.size wq w')
    (hsm : ∀ Y u v wq, IsV wq u Y → IsV wq v Y → Calls Tryz.prog 12 #[u, v] wq fun x w' => x = .returned (.bool true) ∧ Below wq.heap.size wq w') :
    Calls Tryz.prog 4 #[.agg C.toArray] w fun e w' => e = .returned (.bool true) ∧ Below w.heap.size w w' := by
  have HT := hid hT
  have HL := hid hl
  have H1C := hid h1
  have H0 := hid h0
  have H133 := hid h133
  have HB8 := hid hb8
  have HREF := hid href
  have HENC := hid henc
  have HDEC := hid hdec
  have HKD := hid hkd
  have HENV := hid henv
  have HSM := hid (fun u v wq => hsm X u v wq)
  have HSMY := hid hsm
  have HIT0 := hid hIT
  have HW : Hid (decide (500 < l.length) = false) := hid (by simp; omega)
  have HWm : Hid (decide (500 < m.length) = false) := hid (by simp; omega)
  have HLYA := hid hly
  have HPY := hid hPY
  clear hPY
  have HREFA := hid hrefy
  have hd32 : decide ((l.length : Int) ≤ 32) = true := by simp; omega
  have hd33 : decide ((m.length : Int) ≤ 32) = true := by simp; omega
  clear hly hrefy
  clear hT hl h1 h0 h133 hb8 href henc hdec hkd henv hsm hIT
  go_enter Tryz.func4, Tryz.ntmps4
  go_wp2_with (refine wpList_box_c rfl 1 rfl (.tmp 0) rfl C rfl ?_; intro w1 H1 B1 S1)
  refine (awake_any w1).mono ?_
  rintro x w2 ⟨rfl, B2⟩
  have X2 := H1.keep B2
  have hx0 := X2.cell H0.out
  have hx1 := X2.cell H133.out
  have T2 := below_more B1 B2 (Nat.le_refl _)
  clear H1 B1 B2 S1
  go_wp2_with fail
  refine (wide_any l.length w2).mono ?_
  rintro x w2' ⟨rfl, rfl⟩
  rw [HW.out]
  go_wp2_with fail
  refine (wide_any m.length _).mono ?_
  rintro x w2'' ⟨rfl, rfl⟩
  rw [HWm.out]
  clear hx0 hx1
  go_wp2_with ((with_reducible refine at_list' ?_); (refine wpList_load_c HT.out rfl (.tmp 1) rfl w.heap.size C rfl HL.out X2 ?_))
  refine (HREF.out _ (HIT0.out.keep T2)).mono ?_
  rintro x w3 ⟨v3, rfl, q1, q2⟩
  obtain ⟨sb, sk, rfl, hV⟩ := q1
  obtain ⟨hone, hlen⟩ := valL_oneV hV
  obtain ⟨cs, hcs⟩ : ∃ cs, Same (valL X.num X.root sb sk) cs := ⟨_, ⟨rfl⟩⟩
  have hIV : ∀ wq, Below w3.heap.size w3 wq → IsV wq (.agg cs.toArray) X := fun wq hq => ⟨sb, sk, by rw [hcs.out], hV.keep hq⟩
  rw [hcs.out] at hone hlen ⊢
  have HIV := hid hIV
  have HONE := hid hone
  have HCL := hid hlen
  have X3 := X2.keep q2
  have T3 := below_more T2 q2 (Nat.le_refl _)
  have tyV : Ty Tryz.prog 37 (valL 0 (zeros 32) nilS nilS) := ⟨zeroVal, _, Tryz.underlying37, rfl⟩
  have HTV := hid tyV
  have hvl : (valL 0 (zeros 32) nilS nilS).length = 35 := valL_length _ _ _ _ (zeros_length 32)
  have HVL := hid (hlen.trans hvl.symm)
  clear X2 T2 q2 hV hone hlen hIV tyV hvl hcs
  go_wp2_with ((with_reducible refine at_list' ?_); first
    | (refine wpList_alloc_c HTV.out rfl 3 rfl rfl ?_; intro w4 H4 B4 S4)
    | (refine wpList_store_c HTV.out rfl (.tmp 3) (.tmp 22) rfl w3.heap.size cs rfl rfl HVL.out HONE.out _ H4 rfl ?_; intro w5 H5 O5; have B35 := hid (below_only B4 O5 (Nat.le_refl _)); have X5 := X3.keep B35.out)
    | (refine wpList_load_c HT.out rfl (.tmp 1) rfl w.heap.size C rfl HL.out X5 ?_))
  have T5 := below_more T3 B35.out (Nat.le_refl _)
  have hgv : w3.heap.size < w5.heap.size := H5.lt
  refine (HENC.out w5 (HIT0.out.keep T5)).mono ?_
  rintro x w6 ⟨v4, rfl, R6, B6⟩
  have HV6 := hid (R6.isB HB8.out)
  have X6 := X5.keep B6
  have V6 := H5.keep B6
  have T6 := below_more T5 B6 (Nat.le_refl _)
  have B36 := hid (below_more B35.out B6 (Nat.le_refl _))
  clear R6 B6 X5 H5 O5 H4 B4 S4 T5 X3 T3 B35
  go_wp2_with fail
  refine (HDEC.out v4 w6 HV6.out).mono ?_
  rintro x w7 ⟨⟨CYl, rfl, hIu⟩, B7⟩
  have HLY := hid (HLYA.out CYl w7 hIu).1
  have H1Y := hid (HLYA.out CYl w7 hIu).2
  have HREFY := hid (HREFA.out CYl)
  have HIU7 := hid hIu
  clear hIu
  have V4 := HV6.out.keep B7
  have X7 := X6.keep B7
  have V7 := V6.keep B7
  have T7 := below_more T6 B7 (Nat.le_refl _)
  have B37 := hid (below_more B36.out B7 (Nat.le_refl _))
  clear X6 V6 T6 B36 HV6
  go_wp2_with ((with_reducible refine at_list' ?_); first
    | (refine wpList_alloc_c HT.out rfl 5 rfl rfl ?_; intro w8 H8 B8 S8)
    | (refine wpList_store_c HT.out rfl (.tmp 5) (.tmp 28) rfl w7.heap.size CYl rfl rfl HLY.out H1Y.out _ H8 rfl ?_; intro w9 H9 O9; have B79 := hid (below_only B8 O9 (Nat.le_refl _))))
  have HV4 := hid (V4.keep B79.out)
  have HX1 := hid (X7.keep B79.out)
  have HG3 := hid (V7.keep B79.out)
  have T9 := hid (below_more T7 B79.out (Nat.le_refl _))
  have HIT := hid (HIT0.out.keep T9.out)
  have HIU := hid (HPY.out _ _ _ HIU7.out B79.out)
  have HX5 := hid H9
  have HX := hid (HIV.out w9 (below_more B37.out B79.out (Nat.le_refl _)))
  obtain ⟨gv, hgve⟩ : ∃ g, w3.heap.size = g := ⟨_, rfl⟩
  obtain ⟨g5, hg5e⟩ : ∃ g, w7.heap.size = g := ⟨_, rfl⟩
  rw [hgve] at HG3 ⊢
  rw [hg5e] at HX5 ⊢
  clear V4 X7 V7 T7 H8 B8 S8 H9 O9 B7 B79 B37 HIV hgve hg5e hgv
  refine wp_region_flowM 13 13 (fun i v wq => match i with
    | 0 => v = v4
    | 1 => v = .string (strOf BS)
    | 2 => ∃ p, v = .pointer (some ⟨p, 0, none⟩) ∧ DAt wq D p
    | 3 => v = .agg cs.toArray
    | 4 => IsB wq v BS
    | 5 => v = .string (strOf BS)
    | 6 => v = .bool false
    | 7 => v = .bool false
    | 8 => v = .agg C.toArray
    | 9 => IsV wq v X
    | 10 => v = .agg cs.toArray
    | 11 => v = .bool true
    | _ => v = .bool false) (by kernel_rfl) (by kernel_rfl) (fun _ d _ _ _ h => by cases d <;> exact h) ?_ ?_ ?_ ?_ ?_
  · intro i o g b hi ho hg v wq hv
    match i, hi with
    | 0, _ => cases ho; cases hg
    | 1, _ => cases ho; cases hg
    | 2, _ => cases ho; cases hg
    | 3, _ => cases ho; cases hg
    | 4, _ => cases ho; cases hg
    | 5, _ => cases ho; cases hg
    | 6, _ => cases ho; cases hg
    | 7, _ => cases ho; cases hg
    | 8, _ => cases ho; cases hg; exact hv
    | 9, _ => cases ho; cases hg; exact hv
    | 10, _ => cases ho; cases hg; exact hv
    | 11, _ => cases ho; cases hg; exact hv
    | 12, _ => cases ho; cases hg; exact hv
    | (k + 13), hk => exact absurd hk (by omega)
  · intro i v wq wq' hi hv hb
    match i, hi with
    | 0, _ => exact hv
    | 1, _ => exact hv
    | 2, _ => obtain ⟨p, e, h⟩ := hv; exact ⟨p, e, h.keep hb⟩
    | 3, _ => exact hv
    | 4, _ => exact hv.keep hb
    | 5, _ => exact hv
    | 6, _ => exact hv
    | 7, _ => exact hv
    | 8, _ => exact hv
    | 9, _ => exact hv.keep hb
    | 10, _ => exact hv
    | 11, _ => exact hv
    | 12, _ => exact hv
    | (k + 13), hk => exact absurd hk (by omega)
  · intro i o hi ho aq wq hc hk hdep
    match i, hi with
    | 0, _ =>
      cases ho
      exact flow_move (.tmp 4) rfl (hk 4 (by decide))
    | 1, _ =>
      cases ho
      have e22 : aq.tmps.getD 30 undef = v4 := hdep 0 30 rfl (by kernel_rfl)
      exact flow_value _ (rconv (.tmp 30) rfl (by rw [show aq.eval (.tmp 30) = v4 from by simpa [Act.eval] using e22]; exact HV4.out.keep hc.bel)) rfl
    | 2, _ =>
      cases ho
      refine flow_fun 16 _ _ rfl (fun _ _ => by simp [go_sem]) #[] (by simp) ?_
      refine (HKD.out wq).mono ?_
      rintro e w' ⟨p, rfl, h, B⟩
      exact ⟨_, rfl, ⟨p, rfl, h⟩, B⟩
    | 3, _ =>
      cases ho
      exact flow_value _ (run_mid 37 (.tmp 3) rfl gv 0 (by simpa [Act.eval] using hk 3 (by decide)) cs ((HG3.out.keep hc.bel).range 0 cs (fun j v hv => by rw [Nat.zero_add]; exact hv)) _ Tryz.underlying37 rfl (by rw [HCL.out]; kernel_rfl)) rfl
    | 4, _ =>
      cases ho
      obtain ⟨p, e24, hD⟩ : ∃ p, aq.tmps.getD 32 undef = .pointer (some ⟨p, 0, none⟩) ∧ DAt wq D p := hdep 2 32 rfl (by kernel_rfl)
      have e25 : aq.tmps.getD 33 undef = .agg cs.toArray := hdep 3 33 rfl (by kernel_rfl)
      refine flow_fun 10 _ _ rfl (fun _ _ => by simp [go_sem]) #[.pointer (some ⟨p, 0, none⟩), .agg cs.toArray] (by rw [show (#[Operand.tmp 32, Operand.tmp 33] : Array Operand).map aq.eval = #[aq.tmps.getD 32 undef, aq.tmps.getD 33 undef] from by simp [Act.eval], e24, e25]) ?_
      refine (HENV.out p _ wq hD (HX.out.keep hc.bel)).mono ?_
      rintro e w' ⟨v, rfl, R, B⟩
      exact ⟨_, rfl, R.isB HB8.out, B⟩
    | 5, _ =>
      cases ho
      have e26 : IsB wq (aq.tmps.getD 34 undef) BS := hdep 4 34 rfl (by kernel_rfl)
      exact flow_value _ (rconv (.tmp 34) rfl (by simpa [Act.eval] using e26)) rfl
    | 6, _ =>
      cases ho
      have e23 : aq.tmps.getD 31 undef = .string (strOf BS) := hdep 1 31 rfl (by kernel_rfl)
      have e27 : aq.tmps.getD 35 undef = .string (strOf BS) := hdep 5 35 rfl (by kernel_rfl)
      exact flow_value _ (rneqs (.tmp 31) (.tmp 35) rfl (by simpa [Act.eval] using e23) (by simpa [Act.eval] using e27)) rfl
    | 7, _ =>
      cases ho
      have e28 : aq.tmps.getD 36 undef = .bool false := hdep 6 36 rfl (by kernel_rfl)
      exact flow_move (.tmp 36) rfl (by simpa [Act.eval] using e28)
    | 8, _ =>
      cases ho
      exact flow_value _ (run_mid 50 (.tmp 1) rfl w.heap.size 0 (by simpa [Act.eval] using hk 1 (by decide)) C ((HX1.out.keep hc.bel).range 0 C (fun j v hv => by rw [Nat.zero_add]; exact hv)) _ Tryz.underlying50 rfl (by rw [HL.out]; exact HT.out.size)) rfl
    | 9, _ =>
      cases ho
      have e30 : aq.tmps.getD 38 undef = .agg C.toArray := hdep 8 38 rfl (by kernel_rfl)
      refine flow_fun 13 _ _ rfl (fun _ _ => by simp [go_sem]) #[.agg C.toArray] (by rw [show (#[Operand.tmp 38] : Array Operand).map aq.eval = #[aq.tmps.getD 38 undef] from by simp [Act.eval], e30]) ?_
      refine (HREF.out wq (HIT.out.keep hc.bel)).mono ?_
      rintro e w' ⟨v, rfl, h, B⟩
      exact ⟨_, rfl, h, B⟩
    | 10, _ =>
      cases ho
      exact flow_value _ (run_mid 37 (.tmp 3) rfl gv 0 (by simpa [Act.eval] using hk 3 (by decide)) cs ((HG3.out.keep hc.bel).range 0 cs (fun j v hv => by rw [Nat.zero_add]; exact hv)) _ Tryz.underlying37 rfl (by rw [HCL.out]; kernel_rfl)) rfl
    | 11, _ =>
      cases ho
      have e31 : IsV wq (aq.tmps.getD 39 undef) X := hdep 9 39 rfl (by kernel_rfl)
      have e32 : aq.tmps.getD 40 undef = .agg cs.toArray := hdep 10 40 rfl (by kernel_rfl)
      refine flow_fun 12 _ _ rfl (fun _ _ => by simp [go_sem]) #[aq.tmps.getD 39 undef, .agg cs.toArray] (by rw [show (#[Operand.tmp 39, Operand.tmp 40] : Array Operand).map aq.eval = #[aq.tmps.getD 39 undef, aq.tmps.getD 40 undef] from by simp [Act.eval], e32]) ?_
      refine (HSM.out _ _ wq e31 (HX.out.keep hc.bel)).mono ?_
      rintro e w' ⟨rfl, B⟩
      exact ⟨_, rfl, rfl, B⟩
    | 12, _ =>
      cases ho
      have e33 : aq.tmps.getD 41 undef = .bool true := hdep 11 41 rfl (by kernel_rfl)
      refine flow_value _ ?_ rfl
      have e33' : aq.tmps[41]?.getD undef = .bool true := by simpa using e33
      unfold execOp
      simp [e33', go_sem]
    | (k + 13), hk => exact absurd hk (by omega)
  · intro o h13 ho
    omega
  intro vf w10 hc hv
  have e25 : vf 7 = _ := hv 7 37 (by decide) rfl
  have e30 : vf 12 = _ := hv 12 42 (by decide) rfl
  clear hv
  simp only [List.take_succ_cons, List.take_zero, List.drop_succ_cons, List.drop_zero, putAll, Act.put, List.setIfInBounds_toArray, List.set_cons_succ, List.set_cons_zero]
  rw [e25, e30]
  clear e25 e30
  have HX1 := hid (HX1.out.keep hc.bel)
  have HG3 := hid (HG3.out.keep hc.bel)
  have HX5 := hid (HX5.out.keep hc.bel)
  have HX := hid (HX.out.keep hc.bel)
  have hx0 := HX1.out.cell H0.out
  have hx1 := HX1.out.cell H133.out
  have HIU := hid (HPY.out _ _ _ HIU.out hc.bel)
  have T10 := hid (below_more T9.out hc.bel (Nat.le_refl _))
  clear hc T9
  go_wp2
  refine wp_region_flowM 7 7 (fun i v wq => match i with
    | 0 => v = .int .i64 0
    | 1 => v = .bool true
    | 2 => v = .bool true
    | 3 => v = .agg CYl.toArray
    | 4 => IsV wq v X
    | 5 => v = .agg cs.toArray
    | _ => v = .bool true) (by kernel_rfl) (by kernel_rfl) (fun _ d _ _ _ h => by cases d <;> exact h) ?_ ?_ ?_ ?_ ?_
  · intro i o g b hi ho hg v wq hv
    match i, hi with
    | 0, _ => cases ho; cases hg
    | 1, _ => cases ho; cases hg
    | 2, _ => cases ho; cases hg
    | 3, _ => cases ho; cases hg; exact hv
    | 4, _ => cases ho; cases hg; exact hv
    | 5, _ => cases ho; cases hg; exact hv
    | 6, _ => cases ho; cases hg; exact hv
    | (k + 7), hk => exact absurd hk (by omega)
  · intro i v wq wq' hi hv hb
    match i, hi with
    | 0, _ => exact hv
    | 1, _ => exact hv
    | 2, _ => exact hv
    | 3, _ => exact hv
    | 4, _ => exact hv.keep hb
    | 5, _ => exact hv
    | 6, _ => exact hv
    | (k + 7), hk => exact absurd hk (by omega)
  · intro i o hi ho aq wq hc hk hdep
    match i, hi with
    | 0, _ =>
      cases ho
      exact flow_move (.tmp 6) rfl (hk 6 (by decide))
    | 1, _ =>
      cases ho
      have e50 : aq.tmps.getD 66 undef = .int .i64 0 := hdep 0 66 rfl (by kernel_rfl)
      refine flow_value _ ?_ rfl
      have e50' : aq.tmps[66]?.getD undef = .int .i64 0 := by simpa using e50
      unfold execOp
      simp [e50', go_sem]
    | 2, _ =>
      cases ho
      have e51 : aq.tmps.getD 67 undef = .bool true := hdep 1 67 rfl (by kernel_rfl)
      exact flow_move (.tmp 67) rfl (by simpa [Act.eval] using e51)
    | 3, _ =>
      cases ho
      exact flow_value _ (run_mid 50 (.tmp 5) rfl g5 0 (by simpa [Act.eval] using hk 5 (by decide)) CYl ((HX5.out.keep hc.bel).range 0 CYl (fun j v hv => by rw [Nat.zero_add]; exact hv)) _ Tryz.underlying50 rfl (by rw [HLY.out]; exact HT.out.size)) rfl
    | 4, _ =>
      cases ho
      have e53 : aq.tmps.getD 69 undef = .agg CYl.toArray := hdep 3 69 rfl (by kernel_rfl)
      refine flow_fun 13 _ _ rfl (fun _ _ => by simp [go_sem]) #[.agg CYl.toArray] (by rw [show (#[Operand.tmp 69] : Array Operand).map aq.eval = #[aq.tmps.getD 69 undef] from by simp [Act.eval], e53]) ?_
      refine (HREFY.out wq (HPY.out _ _ _ HIU.out hc.bel)).mono ?_
      rintro e w' ⟨v, rfl, h, B⟩
      exact ⟨_, rfl, h, B⟩
    | 5, _ =>
      cases ho
      exact flow_value _ (run_mid 37 (.tmp 3) rfl gv 0 (by simpa [Act.eval] using hk 3 (by decide)) cs ((HG3.out.keep hc.bel).range 0 cs (fun j v hv => by rw [Nat.zero_add]; exact hv)) _ Tryz.underlying37 rfl (by rw [HCL.out]; kernel_rfl)) rfl
    | 6, _ =>
      cases ho
      have e54 : IsV wq (aq.tmps.getD 70 undef) X := hdep 4 70 rfl (by kernel_rfl)
      have e55 : aq.tmps.getD 71 undef = .agg cs.toArray := hdep 5 71 rfl (by kernel_rfl)
      refine flow_fun 12 _ _ rfl (fun _ _ => by simp [go_sem]) #[aq.tmps.getD 70 undef, .agg cs.toArray] (by rw [show (#[Operand.tmp 70, Operand.tmp 71] : Array Operand).map aq.eval = #[aq.tmps.getD 70 undef, aq.tmps.getD 71 undef] from by simp [Act.eval], e55]) ?_
      refine (HSM.out _ _ wq e54 (HX.out.keep hc.bel)).mono ?_
      rintro e w' ⟨rfl, B⟩
      exact ⟨_, rfl, rfl, B⟩
    | (k + 7), hk => exact absurd hk (by omega)
  · intro o h7 ho
    omega
  intro vf w11 hc hv
  have e34 : vf 2 = _ := hv 2 68 (by decide) rfl
  have e38 : vf 6 = _ := hv 6 72 (by decide) rfl
  clear hv
  simp only [List.take_succ_cons, List.take_zero, List.drop_succ_cons, List.drop_zero, putAll, Act.put, List.setIfInBounds_toArray, List.set_cons_succ, List.set_cons_zero]
  rw [e34, e38]
  have T11 := hid (below_more T10.out hc.bel (Nat.le_refl _))
  clear e34 e38 hc
  go_wp2
  go_ret
  exact ⟨rfl, T11.out⟩
set_option maxHeartbeats 8000000 in
theorem codecAttSl_bad1 (C zs : List Value) (ao bo : Option Addr) (c d : Nat) (l m : List Nat) (X : Vt) (BS : List Nat) (D : Dt) (w : World) (hT : Ty Tryz.prog 50 zs) (hl : C.length = zs.length) (h1 : C.toArray.all (·.oneCell') = true) (h0 : C[0]? = some (.slice ao l.length c)) (h133 : C[133]? = some (.slice bo m.length d)) (hn : l.length ≤ 500) (hm : m.length ≤ 500) (hIT : Two ao bo c d l m w) (hb8 : ∀ z ∈ BS, z < 256)
    (href : ∀ wq, Two ao bo c d l m wq → Calls Tryz.prog 13 #[.agg C.toArray] wq fun x w' => ∃ v, x = .returned v ∧ IsV w' v X ∧ Below wq.heap.size wq w')
    (henc : ∀ wq, Two ao bo c d l m wq → Calls Tryz.prog 14 #[.agg C.toArray] wq fun x w' => ∃ v, x = .returned v ∧ Row w' wq.heap.size v BS ∧ Below wq.heap.size wq w')
    (X0 : Vt) (hdec : ∀ v wq, IsB wq v BS → Calls Tryz.prog 15 #[v] wq fun x w' => x = .returned (.tuple #[.agg zs.toArray, .int .i64 3]) ∧ Below wq.heap.size wq w')
    (hz1 : zs.toArray.all (·.oneCell') = true) (hzb : Tryz.prog.built 50 [] = some zs.toArray) (href0 : ∀ wq, Calls Tryz.prog 13 #[.agg zs.toArray] wq fun x w' => ∃ v, x = .returned v ∧ IsV w' v X0 ∧ Below wq.heap.size wq w') (hgt : 32 < l.length)
    (hkd : ∀ wq, Calls Tryz.prog 16 #[] wq fun x w' => ∃ p, x = .returned (.pointer (some ⟨p, 0, none⟩)) ∧ DAt w' D p ∧ Below wq.heap.size wq w')
    (henv : ∀ p u wq, DAt wq D p → IsV wq u X → Calls Tryz.prog 10 #[.pointer (some ⟨p, 0, none⟩), u] wq fun x w' => ∃ v, x = .returned v ∧ Row w' wq.heap.size v BS ∧ Below wq.heap.size wq w')
    (hsm : ∀ Y u v wq, IsV wq u Y → IsV wq v Y → Calls Tryz.prog 12 #[u, v] wq fun x w' => x = .returned (.bool true) ∧ Below wq.heap.size wq w') :
    Calls Tryz.prog 4 #[.agg C.toArray] w fun e w' => e = .returned (.bool true) ∧ Below w.heap.size w w' := by
  have HT := hid hT
  have HL := hid hl
  have H1C := hid h1
  have H0 := hid h0
  have H133 := hid h133
  have HB8 := hid hb8
  have HREF := hid href
  have HENC := hid henc
  have HDEC := hid hdec
  have HKD := hid hkd
  have HENV := hid henv
  have HSM := hid (fun u v wq => hsm X u v wq)
  have HSMY := hid hsm
  have HIT0 := hid hIT
  have HW : Hid (decide (500 < l.length) = false) := hid (by simp; omega)
  have HWm : Hid (decide (500 < m.length) = false) := hid (by simp; omega)
  have HREF0 := hid href0
  have HZ1 := hid hz1
  have HZB := hid hzb
  have hd32 : decide ((l.length : Int) ≤ 32) = false := by simp; omega
  clear href0 hz1 hzb
  clear hT hl h1 h0 h133 hb8 href henc hdec hkd henv hsm hIT
  go_enter Tryz.func4, Tryz.ntmps4
  go_wp2_with (refine wpList_box_c rfl 1 rfl (.tmp 0) rfl C rfl ?_; intro w1 H1 B1 S1)
  refine (awake_any w1).mono ?_
  rintro x w2 ⟨rfl, B2⟩
  have X2 := H1.keep B2
  have hx0 := X2.cell H0.out
  have hx1 := X2.cell H133.out
  have T2 := below_more B1 B2 (Nat.le_refl _)
  clear H1 B1 B2 S1
  go_wp2_with fail
  refine (wide_any l.length w2).mono ?_
  rintro x w2' ⟨rfl, rfl⟩
  rw [HW.out]
  go_wp2_with fail
  refine (wide_any m.length _).mono ?_
  rintro x w2'' ⟨rfl, rfl⟩
  rw [HWm.out]
  clear hx0 hx1
  go_wp2_with ((with_reducible refine at_list' ?_); (refine wpList_load_c HT.out rfl (.tmp 1) rfl w.heap.size C rfl HL.out X2 ?_))
  refine (HREF.out _ (HIT0.out.keep T2)).mono ?_
  rintro x w3 ⟨v3, rfl, q1, q2⟩
  obtain ⟨sb, sk, rfl, hV⟩ := q1
  obtain ⟨hone, hlen⟩ := valL_oneV hV
  obtain ⟨cs, hcs⟩ : ∃ cs, Same (valL X.num X.root sb sk) cs := ⟨_, ⟨rfl⟩⟩
  have hIV : ∀ wq, Below w3.heap.size w3 wq → IsV wq (.agg cs.toArray) X := fun wq hq => ⟨sb, sk, by rw [hcs.out], hV.keep hq⟩
  rw [hcs.out] at hone hlen ⊢
  have HIV := hid hIV
  have HONE := hid hone
  have HCL := hid hlen
  have X3 := X2.keep q2
  have T3 := below_more T2 q2 (Nat.le_refl _)
  have tyV : Ty Tryz.prog 37 (valL 0 (zeros 32) nilS nilS) := ⟨zeroVal, _, Tryz.underlying37, rfl⟩
  have HTV := hid tyV
  have hvl : (valL 0 (zeros 32) nilS nilS).length = 35 := valL_length _ _ _ _ (zeros_length 32)
  have HVL := hid (hlen.trans hvl.symm)
  clear X2 T2 q2 hV hone hlen hIV tyV hvl hcs
  go_wp2_with ((with_reducible refine at_list' ?_); first
    | (refine wpList_alloc_c HTV.out rfl 3 rfl rfl ?_; intro w4 H4 B4 S4)
    | (refine wpList_store_c HTV.out rfl (.tmp 3) (.tmp 22) rfl w3.heap.size cs rfl rfl HVL.out HONE.out _ H4 rfl ?_; intro w5 H5 O5; have B35 := hid (below_only B4 O5 (Nat.le_refl _)); have X5 := X3.keep B35.out)
    | (refine wpList_load_c HT.out rfl (.tmp 1) rfl w.heap.size C rfl HL.out X5 ?_))
  have T5 := below_more T3 B35.out (Nat.le_refl _)
  have hgv : w3.heap.size < w5.heap.size := H5.lt
  refine (HENC.out w5 (HIT0.out.keep T5)).mono ?_
  rintro x w6 ⟨v4, rfl, R6, B6⟩
  have HV6 := hid (R6.isB HB8.out)
  have X6 := X5.keep B6
  have V6 := H5.keep B6
  have T6 := below_more T5 B6 (Nat.le_refl _)
  have B36 := hid (below_more B35.out B6 (Nat.le_refl _))
  clear R6 B6 X5 H5 O5 H4 B4 S4 T5 X3 T3 B35
  go_wp2_with fail
  refine (HDEC.out v4 w6 HV6.out).mono ?_
  rintro x w7 ⟨rfl, B7⟩
  have V4 := HV6.out.keep B7
  have X7 := X6.keep B7
  have V7 := V6.keep B7
  have T7 := below_more T6 B7 (Nat.le_refl _)
  have B37 := hid (below_more B36.out B7 (Nat.le_refl _))
  clear X6 V6 T6 B36 HV6
  go_wp2_with ((with_reducible refine at_list' ?_); first
    | (refine wpList_alloc_c HT.out rfl 5 rfl rfl ?_; intro w8 H8 B8 S8)
    | (refine wpList_store_c HT.out rfl (.tmp 5) (.tmp 28) rfl w7.heap.size zs rfl rfl rfl HZ1.out _ H8 rfl ?_; intro w9 H9 O9; have B79 := hid (below_only B8 O9 (Nat.le_refl _))))
  have HV4 := hid (V4.keep B79.out)
  have HX1 := hid (X7.keep B79.out)
  have HG3 := hid (V7.keep B79.out)
  have T9 := hid (below_more T7 B79.out (Nat.le_refl _))
  have HIT := hid (HIT0.out.keep T9.out)
  have HX5 := hid H9
  have HX := hid (HIV.out w9 (below_more B37.out B79.out (Nat.le_refl _)))
  obtain ⟨gv, hgve⟩ : ∃ g, w3.heap.size = g := ⟨_, rfl⟩
  obtain ⟨g5, hg5e⟩ : ∃ g, w7.heap.size = g := ⟨_, rfl⟩
  rw [hgve] at HG3 ⊢
  rw [hg5e] at HX5 ⊢
  clear V4 X7 V7 T7 H8 B8 S8 H9 O9 B7 B79 B37 HIV hgve hg5e hgv
  refine wp_region_flowM 13 13 (fun i v wq => match i with
    | 0 => v = v4
    | 1 => v = .string (strOf BS)
    | 2 => ∃ p, v = .pointer (some ⟨p, 0, none⟩) ∧ DAt wq D p
    | 3 => v = .agg cs.toArray
    | 4 => IsB wq v BS
    | 5 => v = .string (strOf BS)
    | 6 => v = .bool false
    | 7 => v = .bool false
    | 8 => v = .agg C.toArray
    | 9 => IsV wq v X
    | 10 => v = .agg cs.toArray
    | 11 => v = .bool true
    | _ => v = .bool false) (by kernel_rfl) (by kernel_rfl) (fun _ d _ _ _ h => by cases d <;> exact h) ?_ ?_ ?_ ?_ ?_
  · intro i o g b hi ho hg v wq hv
    match i, hi with
    | 0, _ => cases ho; cases hg
    | 1, _ => cases ho; cases hg
    | 2, _ => cases ho; cases hg
    | 3, _ => cases ho; cases hg
    | 4, _ => cases ho; cases hg
    | 5, _ => cases ho; cases hg
    | 6, _ => cases ho; cases hg
    | 7, _ => cases ho; cases hg
    | 8, _ => cases ho; cases hg; exact hv
    | 9, _ => cases ho; cases hg; exact hv
    | 10, _ => cases ho; cases hg; exact hv
    | 11, _ => cases ho; cases hg; exact hv
    | 12, _ => cases ho; cases hg; exact hv
    | (k + 13), hk => exact absurd hk (by omega)
  · intro i v wq wq' hi hv hb
    match i, hi with
    | 0, _ => exact hv
    | 1, _ => exact hv
    | 2, _ => obtain ⟨p, e, h⟩ := hv; exact ⟨p, e, h.keep hb⟩
    | 3, _ => exact hv
    | 4, _ => exact hv.keep hb
    | 5, _ => exact hv
    | 6, _ => exact hv
    | 7, _ => exact hv
    | 8, _ => exact hv
    | 9, _ => exact hv.keep hb
    | 10, _ => exact hv
    | 11, _ => exact hv
    | 12, _ => exact hv
    | (k + 13), hk => exact absurd hk (by omega)
  · intro i o hi ho aq wq hc hk hdep
    match i, hi with
    | 0, _ =>
      cases ho
      exact flow_move (.tmp 4) rfl (hk 4 (by decide))
    | 1, _ =>
      cases ho
      have e22 : aq.tmps.getD 30 undef = v4 := hdep 0 30 rfl (by kernel_rfl)
      exact flow_value _ (rconv (.tmp 30) rfl (by rw [show aq.eval (.tmp 30) = v4 from by simpa [Act.eval] using e22]; exact HV4.out.keep hc.bel)) rfl
    | 2, _ =>
      cases ho
      refine flow_fun 16 _ _ rfl (fun _ _ => by simp [go_sem]) #[] (by simp) ?_
      refine (HKD.out wq).mono ?_
      rintro e w' ⟨p, rfl, h, B⟩
      exact ⟨_, rfl, ⟨p, rfl, h⟩, B⟩
    | 3, _ =>
      cases ho
      exact flow_value _ (run_mid 37 (.tmp 3) rfl gv 0 (by simpa [Act.eval] using hk 3 (by decide)) cs ((HG3.out.keep hc.bel).range 0 cs (fun j v hv => by rw [Nat.zero_add]; exact hv)) _ Tryz.underlying37 rfl (by rw [HCL.out]; kernel_rfl)) rfl
    | 4, _ =>
      cases ho
      obtain ⟨p, e24, hD⟩ : ∃ p, aq.tmps.getD 32 undef = .pointer (some ⟨p, 0, none⟩) ∧ DAt wq D p := hdep 2 32 rfl (by kernel_rfl)
      have e25 : aq.tmps.getD 33 undef = .agg cs.toArray := hdep 3 33 rfl (by kernel_rfl)
      refine flow_fun 10 _ _ rfl (fun _ _ => by simp [go_sem]) #[.pointer (some ⟨p, 0, none⟩), .agg cs.toArray] (by rw [show (#[Operand.tmp 32, Operand.tmp 33] : Array Operand).map aq.eval = #[aq.tmps.getD 32 undef, aq.tmps.getD 33 undef] from by simp [Act.eval], e24, e25]) ?_
      refine (HENV.out p _ wq hD (HX.out.keep hc.bel)).mono ?_
      rintro e w' ⟨v, rfl, R, B⟩
      exact ⟨_, rfl, R.isB HB8.out, B⟩
    | 5, _ =>
      cases ho
      have e26 : IsB wq (aq.tmps.getD 34 undef) BS := hdep 4 34 rfl (by kernel_rfl)
      exact flow_value _ (rconv (.tmp 34) rfl (by simpa [Act.eval] using e26)) rfl
    | 6, _ =>
      cases ho
      have e23 : aq.tmps.getD 31 undef = .string (strOf BS) := hdep 1 31 rfl (by kernel_rfl)
      have e27 : aq.tmps.getD 35 undef = .string (strOf BS) := hdep 5 35 rfl (by kernel_rfl)
      exact flow_value _ (rneqs (.tmp 31) (.tmp 35) rfl (by simpa [Act.eval] using e23) (by simpa [Act.eval] using e27)) rfl
    | 7, _ =>
      cases ho
      have e28 : aq.tmps.getD 36 undef = .bool false := hdep 6 36 rfl (by kernel_rfl)
      exact flow_move (.tmp 36) rfl (by simpa [Act.eval] using e28)
    | 8, _ =>
      cases ho
      exact flow_value _ (run_mid 50 (.tmp 1) rfl w.heap.size 0 (by simpa [Act.eval] using hk 1 (by decide)) C ((HX1.out.keep hc.bel).range 0 C (fun j v hv => by rw [Nat.zero_add]; exact hv)) _ Tryz.underlying50 rfl (by rw [HL.out]; exact HT.out.size)) rfl
    | 9, _ =>
      cases ho
      have e30 : aq.tmps.getD 38 undef = .agg C.toArray := hdep 8 38 rfl (by kernel_rfl)
      refine flow_fun 13 _ _ rfl (fun _ _ => by simp [go_sem]) #[.agg C.toArray] (by rw [show (#[Operand.tmp 38] : Array Operand).map aq.eval = #[aq.tmps.getD 38 undef] from by simp [Act.eval], e30]) ?_
      refine (HREF.out wq (HIT.out.keep hc.bel)).mono ?_
      rintro e w' ⟨v, rfl, h, B⟩
      exact ⟨_, rfl, h, B⟩
    | 10, _ =>
      cases ho
      exact flow_value _ (run_mid 37 (.tmp 3) rfl gv 0 (by simpa [Act.eval] using hk 3 (by decide)) cs ((HG3.out.keep hc.bel).range 0 cs (fun j v hv => by rw [Nat.zero_add]; exact hv)) _ Tryz.underlying37 rfl (by rw [HCL.out]; kernel_rfl)) rfl
    | 11, _ =>
      cases ho
      have e31 : IsV wq (aq.tmps.getD 39 undef) X := hdep 9 39 rfl (by kernel_rfl)
      have e32 : aq.tmps.getD 40 undef = .agg cs.toArray := hdep 10 40 rfl (by kernel_rfl)
      refine flow_fun 12 _ _ rfl (fun _ _ => by simp [go_sem]) #[aq.tmps.getD 39 undef, .agg cs.toArray] (by rw [show (#[Operand.tmp 39, Operand.tmp 40] : Array Operand).map aq.eval = #[aq.tmps.getD 39 undef, aq.tmps.getD 40 undef] from by simp [Act.eval], e32]) ?_
      refine (HSM.out _ _ wq e31 (HX.out.keep hc.bel)).mono ?_
      rintro e w' ⟨rfl, B⟩
      exact ⟨_, rfl, rfl, B⟩
    | 12, _ =>
      cases ho
      have e33 : aq.tmps.getD 41 undef = .bool true := hdep 11 41 rfl (by kernel_rfl)
      refine flow_value _ ?_ rfl
      have e33' : aq.tmps[41]?.getD undef = .bool true := by simpa using e33
      unfold execOp
      simp [e33', go_sem]
    | (k + 13), hk => exact absurd hk (by omega)
  · intro o h13 ho
    omega
  intro vf w10 hc hv
  have e25 : vf 7 = _ := hv 7 37 (by decide) rfl
  have e30 : vf 12 = _ := hv 12 42 (by decide) rfl
  clear hv
  simp only [List.take_succ_cons, List.take_zero, List.drop_succ_cons, List.drop_zero, putAll, Act.put, List.setIfInBounds_toArray, List.set_cons_succ, List.set_cons_zero]
  rw [e25, e30]
  clear e25 e30
  have HX1 := hid (HX1.out.keep hc.bel)
  have HG3 := hid (HG3.out.keep hc.bel)
  have HX5 := hid (HX5.out.keep hc.bel)
  have HX := hid (HX.out.keep hc.bel)
  have hx0 := HX1.out.cell H0.out
  have hx1 := HX1.out.cell H133.out
  have T10 := hid (below_more T9.out hc.bel (Nat.le_refl _))
  clear hc T9
  go_wp2_with ((with_reducible refine at_list' ?_); (refine wpList_wantV (by rfl) (.agg zs.toArray) (run_mid 50 (.tmp 5) rfl g5 0 rfl zs (HX5.out.range 0 zs (fun j v hv => by rw [Nat.zero_add]; exact hv)) _ Tryz.underlying50 rfl (by exact HT.out.size)) ?_))
  refine (HREF0.out w10).mono ?_
  rintro x w11 ⟨v11, rfl, q1, q2⟩
  have HQ := hid q1
  have T11 := hid (below_more T10.out q2 (Nat.le_refl _))
  clear q1 q2 hx0 hx1
  go_wp2_with ((with_reducible refine at_list' ?_); (refine wpList_buildNW (by rfl) 50 rfl zs.toArray HZB.out ?_))
  refine (HREF0.out w11).mono ?_
  rintro x w12 ⟨v12, rfl, q1, q2⟩
  have HQ2 := hid q1
  have HQ1 := hid (HQ.out.keep q2)
  have T12 := hid (below_more T11.out q2 (Nat.le_refl _))
  clear q1 q2
  go_wp2_with fail
  refine (HSMY.out X0 v11 v12 w12 HQ1.out HQ2.out).mono ?_
  rintro x w13 ⟨rfl, B13⟩
  have T13 := hid (below_more T12.out B13 (Nat.le_refl _))
  clear B13
  go_wp2
  go_ret
  exact ⟨rfl, T13.out⟩
set_option maxHeartbeats 8000000 in
theorem codecAttSl_bad2 (C zs : List Value) (ao bo : Option Addr) (c d : Nat) (l m : List Nat) (X : Vt) (BS : List Nat) (D : Dt) (w : World) (hT : Ty Tryz.prog 50 zs) (hl : C.length = zs.length) (h1 : C.toArray.all (·.oneCell') = true) (h0 : C[0]? = some (.slice ao l.length c)) (h133 : C[133]? = some (.slice bo m.length d)) (hn : l.length ≤ 500) (hm : m.length ≤ 500) (hIT : Two ao bo c d l m w) (hb8 : ∀ z ∈ BS, z < 256)
    (href : ∀ wq, Two ao bo c d l m wq → Calls Tryz.prog 13 #[.agg C.toArray] wq fun x w' => ∃ v, x = .returned v ∧ IsV w' v X ∧ Below wq.heap.size wq w')
    (henc : ∀ wq, Two ao bo c d l m wq → Calls Tryz.prog 14 #[.agg C.toArray] wq fun x w' => ∃ v, x = .returned v ∧ Row w' wq.heap.size v BS ∧ Below wq.heap.size wq w')
    (X0 : Vt) (hdec : ∀ v wq, IsB wq v BS → Calls Tryz.prog 15 #[v] wq fun x w' => x = .returned (.tuple #[.agg zs.toArray, .int .i64 3]) ∧ Below wq.heap.size wq w')
    (hz1 : zs.toArray.all (·.oneCell') = true) (hzb : Tryz.prog.built 50 [] = some zs.toArray) (href0 : ∀ wq, Calls Tryz.prog 13 #[.agg zs.toArray] wq fun x w' => ∃ v, x = .returned v ∧ IsV w' v X0 ∧ Below wq.heap.size wq w') (hle : l.length ≤ 32) (hgt : 32 < m.length)
    (hkd : ∀ wq, Calls Tryz.prog 16 #[] wq fun x w' => ∃ p, x = .returned (.pointer (some ⟨p, 0, none⟩)) ∧ DAt w' D p ∧ Below wq.heap.size wq w')
    (henv : ∀ p u wq, DAt wq D p → IsV wq u X → Calls Tryz.prog 10 #[.pointer (some ⟨p, 0, none⟩), u] wq fun x w' => ∃ v, x = .returned v ∧ Row w' wq.heap.size v BS ∧ Below wq.heap.size wq w')
    (hsm : ∀ Y u v wq, IsV wq u Y → IsV wq v Y → Calls Tryz.prog 12 #[u, v] wq fun x w' => x = .returned (.bool true) ∧ Below wq.heap.size wq w') :
    Calls Tryz.prog 4 #[.agg C.toArray] w fun e w' => e = .returned (.bool true) ∧ Below w.heap.size w w' := by
  have HT := hid hT
  have HL := hid hl
  have H1C := hid h1
  have H0 := hid h0
  have H133 := hid h133
  have HB8 := hid hb8
  have HREF := hid href
  have HENC := hid henc
  have HDEC := hid hdec
  have HKD := hid hkd
  have HENV := hid henv
  have HSM := hid (fun u v wq => hsm X u v wq)
  have HSMY := hid hsm
  have HIT0 := hid hIT
  have HW : Hid (decide (500 < l.length) = false) := hid (by simp; omega)
  have HWm : Hid (decide (500 < m.length) = false) := hid (by simp; omega)
  have HREF0 := hid href0
  have HZ1 := hid hz1
  have HZB := hid hzb
  have hd32 : decide ((l.length : Int) ≤ 32) = true := by simp; omega
  have hd33 : decide ((m.length : Int) ≤ 32) = false := by simp; omega
  clear href0 hz1 hzb
  clear hT hl h1 h0 h133 hb8 href henc hdec hkd henv hsm hIT
  go_enter Tryz.func4, Tryz.ntmps4
  go_wp2_with (refine wpList_box_c rfl 1 rfl (.tmp 0) rfl C rfl ?_; intro w1 H1 B1 S1)
  refine (awake_any w1).mono ?_
  rintro x w2 ⟨rfl, B2⟩
  have X2 := H1.keep B2
  have hx0 := X2.cell H0.out
  have hx1 := X2.cell H133.out
  have T2 := below_more B1 B2 (Nat.le_refl _)
  clear H1 B1 B2 S1
  go_wp2_with fail
  refine (wide_any l.length w2).mono ?_
  rintro x w2' ⟨rfl, rfl⟩
  rw [HW.out]
  go_wp2_with fail
  refine (wide_any m.length _).mono ?_
  rintro x w2'' ⟨rfl, rfl⟩
  rw [HWm.out]
  clear hx0 hx1
  go_wp2_with ((with_reducible refine at_list' ?_); (refine wpList_load_c HT.out rfl (.tmp 1) rfl w.heap.size C rfl HL.out X2 ?_))
  refine (HREF.out _ (HIT0.out.keep T2)).mono ?_
  rintro x w3 ⟨v3, rfl, q1, q2⟩
  obtain ⟨sb, sk, rfl, hV⟩ := q1
  obtain ⟨hone, hlen⟩ := valL_oneV hV
  obtain ⟨cs, hcs⟩ : ∃ cs, Same (valL X.num X.root sb sk) cs := ⟨_, ⟨rfl⟩⟩
  have hIV : ∀ wq, Below w3.heap.size w3 wq → IsV wq (.agg cs.toArray) X := fun wq hq => ⟨sb, sk, by rw [hcs.out], hV.keep hq⟩
  rw [hcs.out] at hone hlen ⊢
  have HIV := hid hIV
  have HONE := hid hone
  have HCL := hid hlen
  have X3 := X2.keep q2
  have T3 := below_more T2 q2 (Nat.le_refl _)
  have tyV : Ty Tryz.prog 37 (valL 0 (zeros 32) nilS nilS) := ⟨zeroVal, _, Tryz.underlying37, rfl⟩
  have HTV := hid tyV
  have hvl : (valL 0 (zeros 32) nilS nilS).length = 35 := valL_length _ _ _ _ (zeros_length 32)
  have HVL := hid (hlen.trans hvl.symm)
  clear X2 T2 q2 hV hone hlen hIV tyV hvl hcs
  go_wp2_with ((with_reducible refine at_list' ?_); first
    | (refine wpList_alloc_c HTV.out rfl 3 rfl rfl ?_; intro w4 H4 B4 S4)
    | (refine wpList_store_c HTV.out rfl (.tmp 3) (.tmp 22) rfl w3.heap.size cs rfl rfl HVL.out HONE.out _ H4 rfl ?_; intro w5 H5 O5; have B35 := hid (below_only B4 O5 (Nat.le_refl _)); have X5 := X3.keep B35.out)
    | (refine wpList_load_c HT.out rfl (.tmp 1) rfl w.heap.size C rfl HL.out X5 ?_))
  have T5 := below_more T3 B35.out (Nat.le_refl _)
  have hgv : w3.heap.size < w5.heap.size := H5.lt
  refine (HENC.out w5 (HIT0.out.keep T5)).mono ?_
  rintro x w6 ⟨v4, rfl, R6, B6⟩
  have HV6 := hid (R6.isB HB8.out)
  have X6 := X5.keep B6
  have V6 := H5.keep B6
  have T6 := below_more T5 B6 (Nat.le_refl _)
  have B36 := hid (below_more B35.out B6 (Nat.le_refl _))
  clear R6 B6 X5 H5 O5 H4 B4 S4 T5 X3 T3 B35
  go_wp2_with fail
  refine (HDEC.out v4 w6 HV6.out).mono ?_
  rintro x w7 ⟨rfl, B7⟩
  have V4 := HV6.out.keep B7
  have X7 := X6.keep B7
  have V7 := V6.keep B7
  have T7 := below_more T6 B7 (Nat.le_refl _)
  have B37 := hid (below_more B36.out B7 (Nat.le_refl _))
  clear X6 V6 T6 B36 HV6
  go_wp2_with ((with_reducible refine at_list' ?_); first
    | (refine wpList_alloc_c HT.out rfl 5 rfl rfl ?_; intro w8 H8 B8 S8)
    | (refine wpList_store_c HT.out rfl (.tmp 5) (.tmp 28) rfl w7.heap.size zs rfl rfl rfl HZ1.out _ H8 rfl ?_; intro w9 H9 O9; have B79 := hid (below_only B8 O9 (Nat.le_refl _))))
  have HV4 := hid (V4.keep B79.out)
  have HX1 := hid (X7.keep B79.out)
  have HG3 := hid (V7.keep B79.out)
  have T9 := hid (below_more T7 B79.out (Nat.le_refl _))
  have HIT := hid (HIT0.out.keep T9.out)
  have HX5 := hid H9
  have HX := hid (HIV.out w9 (below_more B37.out B79.out (Nat.le_refl _)))
  obtain ⟨gv, hgve⟩ : ∃ g, w3.heap.size = g := ⟨_, rfl⟩
  obtain ⟨g5, hg5e⟩ : ∃ g, w7.heap.size = g := ⟨_, rfl⟩
  rw [hgve] at HG3 ⊢
  rw [hg5e] at HX5 ⊢
  clear V4 X7 V7 T7 H8 B8 S8 H9 O9 B7 B79 B37 HIV hgve hg5e hgv
  refine wp_region_flowM 13 13 (fun i v wq => match i with
    | 0 => v = v4
    | 1 => v = .string (strOf BS)
    | 2 => ∃ p, v = .pointer (some ⟨p, 0, none⟩) ∧ DAt wq D p
    | 3 => v = .agg cs.toArray
    | 4 => IsB wq v BS
    | 5 => v = .string (strOf BS)
    | 6 => v = .bool false
    | 7 => v = .bool false
    | 8 => v = .agg C.toArray
    | 9 => IsV wq v X
    | 10 => v = .agg cs.toArray
    | 11 => v = .bool true
    | _ => v = .bool false) (by kernel_rfl) (by kernel_rfl) (fun _ d _ _ _ h => by cases d <;> exact h) ?_ ?_ ?_ ?_ ?_
  · intro i o g b hi ho hg v wq hv
    match i, hi with
    | 0, _ => cases ho; cases hg
    | 1, _ => cases ho; cases hg
    | 2, _ => cases ho; cases hg
    | 3, _ => cases ho; cases hg
    | 4, _ => cases ho; cases hg
    | 5, _ => cases ho; cases hg
    | 6, _ => cases ho; cases hg
    | 7, _ => cases ho; cases hg
    | 8, _ => cases ho; cases hg; exact hv
    | 9, _ => cases ho; cases hg; exact hv
    | 10, _ => cases ho; cases hg; exact hv
    | 11, _ => cases ho; cases hg; exact hv
    | 12, _ => cases ho; cases hg; exact hv
    | (k + 13), hk => exact absurd hk (by omega)
  · intro i v wq wq' hi hv hb
    match i, hi with
    | 0, _ => exact hv
    | 1, _ => exact hv
    | 2, _ => obtain ⟨p, e, h⟩ := hv; exact ⟨p, e, h.keep hb⟩
    | 3, _ => exact hv
    | 4, _ => exact hv.keep hb
    | 5, _ => exact hv
    | 6, _ => exact hv
    | 7, _ => exact hv
    | 8, _ => exact hv
    | 9, _ => exact hv.keep hb
    | 10, _ => exact hv
    | 11, _ => exact hv
    | 12, _ => exact hv
    | (k + 13), hk => exact absurd hk (by omega)
  · intro i o hi ho aq wq hc hk hdep
    match i, hi with
    | 0, _ =>
      cases ho
      exact flow_move (.tmp 4) rfl (hk 4 (by decide))
    | 1, _ =>
      cases ho
      have e22 : aq.tmps.getD 30 undef = v4 := hdep 0 30 rfl (by kernel_rfl)
      exact flow_value _ (rconv (.tmp 30) rfl (by rw [show aq.eval (.tmp 30) = v4 from by simpa [Act.eval] using e22]; exact HV4.out.keep hc.bel)) rfl
    | 2, _ =>
      cases ho
      refine flow_fun 16 _ _ rfl (fun _ _ => by simp [go_sem]) #[] (by simp) ?_
      refine (HKD.out wq).mono ?_
      rintro e w' ⟨p, rfl, h, B⟩
      exact ⟨_, rfl, ⟨p, rfl, h⟩, B⟩
    | 3, _ =>
      cases ho
      exact flow_value _ (run_mid 37 (.tmp 3) rfl gv 0 (by simpa [Act.eval] using hk 3 (by decide)) cs ((HG3.out.keep hc.bel).range 0 cs (fun j v hv => by rw [Nat.zero_add]; exact hv)) _ Tryz.underlying37 rfl (by rw [HCL.out]; kernel_rfl)) rfl
    | 4, _ =>
      cases ho
      obtain ⟨p, e24, hD⟩ : ∃ p, aq.tmps.getD 32 undef = .pointer (some ⟨p, 0, none⟩) ∧ DAt wq D p := hdep 2 32 rfl (by kernel_rfl)
      have e25 : aq.tmps.getD 33 undef = .agg cs.toArray := hdep 3 33 rfl (by kernel_rfl)
      refine flow_fun 10 _ _ rfl (fun _ _ => by simp [go_sem]) #[.pointer (some ⟨p, 0, none⟩), .agg cs.toArray] (by rw [show (#[Operand.tmp 32, Operand.tmp 33] : Array Operand).map aq.eval = #[aq.tmps.getD 32 undef, aq.tmps.getD 33 undef] from by simp [Act.eval], e24, e25]) ?_
      refine (HENV.out p _ wq hD (HX.out.keep hc.bel)).mono ?_
      rintro e w' ⟨v, rfl, R, B⟩
      exact ⟨_, rfl, R.isB HB8.out, B⟩
    | 5, _ =>
      cases ho
      have e26 : IsB wq (aq.tmps.getD 34 undef) BS := hdep 4 34 rfl (by kernel_rfl)
      exact flow_value _ (rconv (.tmp 34) rfl (by simpa [Act.eval] using e26)) rfl
    | 6, _ =>
      cases ho
      have e23 : aq.tmps.getD 31 undef = .string (strOf BS) := hdep 1 31 rfl (by kernel_rfl)
      have e27 : aq.tmps.getD 35 undef = .string (strOf BS) := hdep 5 35 rfl (by kernel_rfl)
      exact flow_value _ (rneqs (.tmp 31) (.tmp 35) rfl (by simpa [Act.eval] using e23) (by simpa [Act.eval] using e27)) rfl
    | 7, _ =>
      cases ho
      have e28 : aq.tmps.getD 36 undef = .bool false := hdep 6 36 rfl (by kernel_rfl)
      exact flow_move (.tmp 36) rfl (by simpa [Act.eval] using e28)
    | 8, _ =>
      cases ho
      exact flow_value _ (run_mid 50 (.tmp 1) rfl w.heap.size 0 (by simpa [Act.eval] using hk 1 (by decide)) C ((HX1.out.keep hc.bel).range 0 C (fun j v hv => by rw [Nat.zero_add]; exact hv)) _ Tryz.underlying50 rfl (by rw [HL.out]; exact HT.out.size)) rfl
    | 9, _ =>
      cases ho
      have e30 : aq.tmps.getD 38 undef = .agg C.toArray := hdep 8 38 rfl (by kernel_rfl)
      refine flow_fun 13 _ _ rfl (fun _ _ => by simp [go_sem]) #[.agg C.toArray] (by rw [show (#[Operand.tmp 38] : Array Operand).map aq.eval = #[aq.tmps.getD 38 undef] from by simp [Act.eval], e30]) ?_
      refine (HREF.out wq (HIT.out.keep hc.bel)).mono ?_
      rintro e w' ⟨v, rfl, h, B⟩
      exact ⟨_, rfl, h, B⟩
    | 10, _ =>
      cases ho
      exact flow_value _ (run_mid 37 (.tmp 3) rfl gv 0 (by simpa [Act.eval] using hk 3 (by decide)) cs ((HG3.out.keep hc.bel).range 0 cs (fun j v hv => by rw [Nat.zero_add]; exact hv)) _ Tryz.underlying37 rfl (by rw [HCL.out]; kernel_rfl)) rfl
    | 11, _ =>
      cases ho
      have e31 : IsV wq (aq.tmps.getD 39 undef) X := hdep 9 39 rfl (by kernel_rfl)
      have e32 : aq.tmps.getD 40 undef = .agg cs.toArray := hdep 10 40 rfl (by kernel_rfl)
      refine flow_fun 12 _ _ rfl (fun _ _ => by simp [go_sem]) #[aq.tmps.getD 39 undef, .agg cs.toArray] (by rw [show (#[Operand.tmp 39, Operand.tmp 40] : Array Operand).map aq.eval = #[aq.tmps.getD 39 undef, aq.tmps.getD 40 undef] from by simp [Act.eval], e32]) ?_
      refine (HSM.out _ _ wq e31 (HX.out.keep hc.bel)).mono ?_
      rintro e w' ⟨rfl, B⟩
      exact ⟨_, rfl, rfl, B⟩
    | 12, _ =>
      cases ho
      have e33 : aq.tmps.getD 41 undef = .bool true := hdep 11 41 rfl (by kernel_rfl)
      refine flow_value _ ?_ rfl
      have e33' : aq.tmps[41]?.getD undef = .bool true := by simpa using e33
      unfold execOp
      simp [e33', go_sem]
    | (k + 13), hk => exact absurd hk (by omega)
  · intro o h13 ho
    omega
  intro vf w10 hc hv
  have e25 : vf 7 = _ := hv 7 37 (by decide) rfl
  have e30 : vf 12 = _ := hv 12 42 (by decide) rfl
  clear hv
  simp only [List.take_succ_cons, List.take_zero, List.drop_succ_cons, List.drop_zero, putAll, Act.put, List.setIfInBounds_toArray, List.set_cons_succ, List.set_cons_zero]
  rw [e25, e30]
  clear e25 e30
  have HX1 := hid (HX1.out.keep hc.bel)
  have HG3 := hid (HG3.out.keep hc.bel)
  have HX5 := hid (HX5.out.keep hc.bel)
  have HX := hid (HX.out.keep hc.bel)
  have hx0 := HX1.out.cell H0.out
  have hx1 := HX1.out.cell H133.out
  have T10 := hid (below_more T9.out hc.bel (Nat.le_refl _))
  clear hc T9
  go_wp2_with ((with_reducible refine at_list' ?_); (refine wpList_wantV (by rfl) (.agg zs.toArray) (run_mid 50 (.tmp 5) rfl g5 0 rfl zs (HX5.out.range 0 zs (fun j v hv => by rw [Nat.zero_add]; exact hv)) _ Tryz.underlying50 rfl (by exact HT.out.size)) ?_))
  refine (HREF0.out w10).mono ?_
  rintro x w11 ⟨v11, rfl, q1, q2⟩
  have HQ := hid q1
  have T11 := hid (below_more T10.out q2 (Nat.le_refl _))
  clear q1 q2 hx0 hx1
  go_wp2_with ((with_reducible refine at_list' ?_); (refine wpList_buildNW (by rfl) 50 rfl zs.toArray HZB.out ?_))
  refine (HREF0.out w11).mono ?_
  rintro x w12 ⟨v12, rfl, q1, q2⟩
  have HQ2 := hid q1
  have HQ1 := hid (HQ.out.keep q2)
  have T12 := hid (below_more T11.out q2 (Nat.le_refl _))
  clear q1 q2
  go_wp2_with fail
  refine (HSMY.out X0 v11 v12 w12 HQ1.out HQ2.out).mono ?_
  rintro x w13 ⟨rfl, B13⟩
  have T13 := hid (below_more T12.out B13 (Nat.le_refl _))
  clear B13
  go_wp2
  go_ret
  exact ⟨rfl, T13.out⟩
end Go.Proofs.YtpaamhmighgjeaaGreat

/- Attestations taken: answer. -/
namespace Go.Proofs.YtpaamhmighgjeaaGreat
open Go.RowKit Go.Shelf
set_option linter.unusedVariables false
set_option maxRecDepth 100000

/-- An Attestation's cells; the zero one. -/
abbrev ix0 : List Value := atC (.slice none 0 0) vt0 (zeros 32)
theorem Tryz.ty31 : Ty Tryz.prog 31 ix0 := ⟨by kernel_rfl, _, Tryz.underlying31, rfl⟩
theorem ix0_one : ix0.toArray.all (·.oneCell') = true := by kernel_rfl
/-- What a good or a bad Indexed answers. -/
def ixA (t : Bool) (C : List Value) : Value := .tuple #[.agg (if t then C else ix0).toArray, .int .i64 (if t then 0 else 3)]

set_option maxHeartbeats 1000000 in
theorem answerIx_any (C : List Value) (t : Bool) (w : World) (hl : C.length = 133) (h1 : C.toArray.all (·.oneCell') = true) :
    Calls Tryz.prog 36 #[.agg C.toArray, .bool t] w fun x w' => x = .returned (ixA t C) ∧ Below w.heap.size w w' := by
  have HL := hid hl
  have HO := hid h1
  clear hl h1
  cases t with
  | true =>
    go_enter Tryz.func36, Tryz.ntmps36
    go_wp2_with (first
      | (refine wpList_box_c rfl 2 rfl (.tmp 0) rfl C rfl ?_; intro w1 H1 B1 S1)
      | (refine wpList_alloc_c Tryz.ty31 rfl 4 rfl rfl ?_; intro w2 H2 B2 S2; rw [S1] at H2 S2; rw [S1])
      | (refine wpList_load_c Tryz.ty31 rfl (.tmp 2) rfl w.heap.size C rfl (by rw [HL.out]; rfl) (H1.keep B2) ?_)
      | (refine wpList_store_c Tryz.ty31 rfl (.tmp 4) (.tmp 10) rfl (w.heap.size + 1) C rfl rfl (by rw [HL.out]; rfl) HO.out _ H2 rfl ?_; intro w3 H3 O3))
    refine bodyPost_ret (results_c Tryz.ty31 rfl _ w3 (w.heap.size + 1) C (.int .i64 0) rfl rfl H3 (by rw [HL.out]; rfl)) rfl ⟨rfl, ?_⟩
    exact below_only (B1.trans (B2.mono (by omega))) O3 (by omega)
  | false =>
    go_enter Tryz.func36, Tryz.ntmps36
    go_wp2_with (first
      | (refine wpList_box_c rfl 2 rfl (.tmp 0) rfl C rfl ?_; intro w1 H1 B1 S1)
      | (refine wpList_alloc_c Tryz.ty31 rfl 4 rfl rfl ?_; intro w2 H2 B2 S2; rw [S1] at H2 S2; rw [S1])
      | (refine wpList_alloc_c Tryz.ty31 rfl 6 rfl rfl ?_; intro w4 H4 B4 S4; rw [S2] at H4 S4; rw [S2])
      | (refine wpList_load_c Tryz.ty31 rfl (.tmp 6) rfl (w.heap.size + 1 + 1) ix0 rfl rfl H4 ?_)
      | (refine wpList_store_c Tryz.ty31 rfl (.tmp 4) (.tmp 9) rfl (w.heap.size + 1) ix0 rfl rfl rfl ix0_one _ (H2.keep B4) rfl ?_; intro w3 H3 O3))
    refine bodyPost_ret (results_c Tryz.ty31 rfl _ w3 (w.heap.size + 1) ix0 (.int .i64 3) rfl rfl H3 rfl) rfl ⟨rfl, ?_⟩
    exact below_only (B1.trans ((B2.mono (by omega)).trans (B4.mono (by omega)))) O3 (by omega)
end Go.Proofs.YtpaamhmighgjeaaGreat

/- Lists of numbers: Encode, pieces. -/
namespace Go.Proofs.YtpaamhmighgjeaaGreat
open Go.RowKit Go.Shelf
set_option linter.unusedVariables false
set_option linter.unusedSimpArgs false
set_option maxRecDepth 100000

theorem numF_succ (ns : List Nat) (t : Nat) (h : t < ns.length) : numF (ns.take t) ++ [(le (ns.getD t 0) 8, false)] = numF (ns.take (t + 1)) := by
  unfold numF
  rw [List.take_add_one, List.getElem?_eq_getElem h, List.getD_eq_getElem?_getD, List.getElem?_eq_getElem h, List.map_append]
  rfl
theorem numF_length (ns : List Nat) : (numF ns).length = ns.length := by simp [numF]
set_option maxHeartbeats 2000000 in
theorem lenc_any (limit : Int) (v : Value) (ns : List Nat) (w : World) (hN : IsN w v ns) (hl : ns.length ≤ 100000000) :
    Calls Tryz.prog 27 #[.agg (lsN limit).toArray, v] w fun x w' => ∃ u, x = .returned u ∧ Row w' w.heap.size u (bytesN ns) ∧ Below w.heap.size w w' := by
  obtain ⟨⟨nao, ncap, rfl, hcap, hmx, hc⟩, h64⟩ := hN
  have HC := hid hc
  have H64 := hid h64
  clear hc h64
  go_enter Tryz.func27, Tryz.ntmps27
  go_wp2_with ((with_reducible refine at_list' ?_); first
    | (refine wpList_box_c rfl 2 rfl (.tmp 0) rfl (lsN limit) rfl ?_; intro w1 H1 B1 S1; have hc0 := H1.cell (j := 0) (v := .int .i64 8) rfl))
  have W2 := wr_new w1
  have B2 : Below w1.heap.size w1 (w1.alloc (.cells #[.int .i64 0, .pointer none] 84)) := (Below.refl _ w1).alloc (Nat.le_refl _) _
  have S2 := World.size_alloc w1 (.cells #[.int .i64 0, .pointer none] 84)
  rw [S1] at W2
  generalize w1.alloc (.cells #[.int .i64 0, .pointer none] 84) = w2 at W2 B2 S2 ⊢
  have hg2 := W2.gt
  have W2' : Wr w2 (w.heap.size + 1) (more (fun _ => False) w2 w2) [] := W2.grow (fun k a => a.elim) (fun a => by rcases a with a | a; exact a; omega) (fun k a => by rcases a with a | a; exact a.elim; omega)
  have HX := hid (And.intro (H1.keep B2) (And.intro W2' (B1.trans (B2.mono (by omega)))))
  have s2 : w2.heap.size = w.heap.size + 2 := by omega
  clear H1 B1 S1 hc0 W2 W2' B2 S2
  go_loopw [7, 13] (fun _ i wr => ∃ t : Nat, t ≤ ns.length ∧ i = .int .i64 t ∧ Wr wr (w.heap.size + 1) (more (fun _ => False) w2 wr) (numF (ns.take t)) ∧ w2.grownBy wr (some (w.heap.size + 1))) (fun _ i _ => ns.length - (intOf i).toNat)
  case atStart => exact ⟨0, Nat.zero_le _, rfl, HX.out.2.1, grown_refl _ _⟩
  case round =>
    obtain ⟨t, ht, rfl, hW, hG⟩ := hrel
    have H0 := hid (And.intro hW hG)
    have hbl : Below w.heap.size w wr := ⟨hG.os.trans HX.out.2.2.os, hG.tape.trans HX.out.2.2.tape, hG.output.trans HX.out.2.2.output, by have := hG.size; omega, fun j hj => (hG.block j (by omega) (fun h => by have := Option.some.inj h; omega)).trans (HX.out.2.2.block j hj)⟩
    have hLs := HX.out.1.grown hG (by omega)
    have hgs := hG.size
    have HB := hid hbl
    clear hW hG hbl
    by_cases hlt : t < ns.length
    · obtain ⟨b, off, rfl, hcc⟩ := HC.out.resolve_left (by omega)
      have hct := cell_keep HB.out (hcc t hlt)
      have hn64 : ns.getD t 0 < 18446744073709551616 := by
        rw [List.getD_eq_getElem?_getD, List.getElem?_eq_getElem hlt]
        exact H64.out _ (List.getElem_mem hlt)
      have hsu := numF_succ ns t hlt
      obtain ⟨x, HX1⟩ : ∃ x, Hid (ns.getD t 0 = x) := ⟨_, hid rfl⟩
      rw [HX1.out] at hct hn64 hsu
      have hc0 := hLs.cell (j := 0) (v := .int .i64 8) rfl
      have HL := hid hLs
      have HSU := hid hsu
      have HP := hid (lput_any limit x wr hn64)
      clear hcc hLs hsu hn64
      go_wp2_with ((with_reducible refine at_list' ?_); first
        | (refine wpList_load_c Tryz.ty89 rfl (.tmp 2) rfl w.heap.size (lsN limit) rfl rfl HL.out ?_))
      refine HP.out.mono ?_
      rintro e w3 ⟨u, rfl, R, B3⟩
      have hI := R.isB (le_byte x 8)
      have s3 := B3.size
      have W3 := hid (Wr.start H0.out.1 B3 (by omega) (fun a => a) (fun k a => a.elim) hgs)
      have HF := hid (fixed_wr (w.heap.size + 1) _ _ u (le x 8) w3 W3.out hI (by rw [numF_length, List.length_take]; omega) (by rw [le_length]; omega))
      obtain ⟨ua, uc, hu, _⟩ := R.form
      subst hu
      have HG3 := hid (grown_below H0.out.2 B3)
      clear R B3 hI hct hc0 HP
      go_wp2_with fail
      refine HF.out.mono ?_
      rintro e w4 ⟨⟨u4, rfl⟩, q1, q2⟩
      have W4 := hid (Wr.next (show w.heap.size + 1 < w2.heap.size by omega) (fun a => a) (fun k a => a.elim) (Nat.le_trans hgs s3) q2.size q1)
      have G4 := hid (grown_trans HG3.out q2)
      clear q1 q2 HF
      go_wp2
      exact ⟨⟨t + 1, by omega, by simp, by rw [← HSU.out]; exact W4.out, G4.out⟩, by simp [intOf]; omega⟩
    · obtain rfl : t = ns.length := by omega
      rw [List.take_length] at H0
      have HB5 := hid (bytes_any (w.heap.size + 1) _ _ wr H0.out.1 (by rw [numF_length]; omega) (by rw [lenF_numF]; omega))
      clear hLs
      go_wp2_with fail
      refine HB5.out.mono ?_
      rintro e w5 ⟨u, rfl, R, B5⟩
      rw [cont_numF] at R
      have HY := hid (And.intro R B5)
      clear R B5 HB5
      go_wp2
      go_ret
      exact ⟨u, rfl, HY.out.1.base HB.out.size, below_more HB.out HY.out.2 (Nat.le_refl _)⟩

theorem split8_ok (v : Value) (bs : List Nat) (k : Nat) (limit : Int) (w : World) (hI : IsB w v bs) (hk : bs.length = k * 8) (hlen : bs.length ≤ 1099511627776) (hkl : (k : Int) ≤ limit) :
    Calls Tryz.prog 109 #[v, .int .i64 8, .int .i64 limit] w fun x w' => ∃ u bo bz, x = .returned (.tuple #[.func (.func 120) #[] #[.pointer (some ⟨bo, 0, none⟩), .pointer (some ⟨bz, 0, none⟩)], .int .i64 0]) ∧ w.heap.size ≤ bo ∧ w.heap.size ≤ bz ∧
      w'.heap[bo]? = some (.cells #[u] 39 (0, 0)) ∧ w'.heap[bz]? = some (.cells #[.int .i64 8] 3 (0, 0)) ∧ IsB w' u bs ∧ Below w.heap.size w w' := by
  have h := split_ok v bs 8 k limit w hI (by decide) hk hlen hkl (by decide)
  rw [show ((8 : Nat) : Int) = 8 from rfl] at h
  exact h
set_option maxHeartbeats 1000000 in
theorem pieces_ok (v : Value) (bs : List Nat) (k : Nat) (limit : Int) (w : World) (hI : IsB w v bs) (hk : bs.length = k * 8) (hlen : bs.length ≤ 1099511627776) (hkl : (k : Int) ≤ limit) :
    Calls Tryz.prog 85 #[.agg (lsN limit).toArray, v] w fun x w' => ∃ u bo bz, x = .returned (.tuple #[.func (.func 120) #[] #[.pointer (some ⟨bo, 0, none⟩), .pointer (some ⟨bz, 0, none⟩)], .int .i64 0]) ∧ w.heap.size ≤ bo ∧ w.heap.size ≤ bz ∧
      w'.heap[bo]? = some (.cells #[u] 39 (0, 0)) ∧ w'.heap[bz]? = some (.cells #[.int .i64 8] 3 (0, 0)) ∧ IsB w' u bs ∧ Below w.heap.size w w' := by
  have HD := hid (fun w' (hb : Below w.heap.size w w') => split8_ok v bs k limit w' (hI.keep hb) hk hlen hkl)
  obtain ⟨⟨ao, cap, rfl, _⟩, _⟩ := hI
  clear hk hlen hkl
  go_enter Tryz.func85, Tryz.ntmps85
  go_wp2_with ((with_reducible refine at_list' ?_); first
    | (refine wpList_box_c rfl 2 rfl (.tmp 0) rfl (lsN limit) rfl ?_; intro w1 H1 B1 S1; have hc0 := H1.cell (j := 0) (v := .int .i64 8) rfl; have hc1 := H1.cell (j := 1) (v := .int .i64 limit) rfl))
  have HX := hid B1
  have HD2 := hid (HD.out w1 B1)
  clear H1 B1 hc0 hc1 HD
  refine HD2.out.mono ?_
  rintro e w2 ⟨u, bo, bz, rfl, q1, q2, q3, q4, q5, q6⟩
  have HY := hid (And.intro q1 (And.intro q2 (And.intro q3 (And.intro q4 (And.intro q5 q6)))))
  clear q1 q2 q3 q4 q5 q6 HD2
  go_wp2
  refine bodyPost_ret (v := .tuple #[.func (.func 120) #[] #[.pointer (some ⟨bo, 0, none⟩), .pointer (some ⟨bz, 0, none⟩)], .int .i64 0]) (by simp [results, Tryz.results85, go_sem]) rfl ?_
  exact ⟨u, bo, bz, rfl, by have := HY.out.1; omega, by have := HY.out.2.1; omega, HY.out.2.2.1, HY.out.2.2.2.1, HY.out.2.2.2.2.1, below_more HX.out HY.out.2.2.2.2.2 (Nat.le_refl _)⟩
set_option maxHeartbeats 1000000 in
theorem pieces_bad (v : Value) (bs : List Nat) (limit : Int) (w : World) (hI : IsB w v bs) (hlen : bs.length ≤ 1099511627776) (hbad : ((bs.length : Int).tmod 8 ≠ 0) ∨ limit < (bs.length : Int).tdiv 8) :
    Calls Tryz.prog 85 #[.agg (lsN limit).toArray, v] w fun x w' => x = .returned (.tuple #[.nilFunc, .int .i64 3]) ∧ Below w.heap.size w w' := by
  have HD := hid (fun w' (hb : Below w.heap.size w w') => split_bad v bs 8 limit w' (hI.keep hb) hlen (by decide) (.inr hbad))
  obtain ⟨⟨ao, cap, rfl, _⟩, _⟩ := hI
  go_enter Tryz.func85, Tryz.ntmps85
  go_wp2_with ((with_reducible refine at_list' ?_); first
    | (refine wpList_box_c rfl 2 rfl (.tmp 0) rfl (lsN limit) rfl ?_; intro w1 H1 B1 S1; have hc0 := H1.cell (j := 0) (v := .int .i64 8) rfl; have hc1 := H1.cell (j := 1) (v := .int .i64 limit) rfl))
  have HX := hid B1
  have HD2 := hid (HD.out w1 B1)
  clear H1 B1 hc0 hc1 HD
  refine HD2.out.mono ?_
  rintro e w2 ⟨rfl, q6⟩
  have HY := hid q6
  clear q6 HD2
  go_wp2
  refine bodyPost_ret (v := .tuple #[.nilFunc, .int .i64 3]) (by simp [results, Tryz.results85, go_sem]) rfl ?_
  exact ⟨rfl, below_more HX.out HY.out (Nat.le_refl _)⟩
end Go.Proofs.YtpaamhmighgjeaaGreat

