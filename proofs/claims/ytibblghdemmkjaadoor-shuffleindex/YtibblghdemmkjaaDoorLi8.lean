/- moveAll and List. -/
import Derived.Test.YtibblghdemmkjaaDoorRi8
namespace Go.Proofs.YtibblghdemmkjaaDoor
open Go.RowKit
set_option linter.unusedVariables false
set_option maxRecDepth 100000

theorem run_cell {P : Program} {o : Oper} {a : Act} {w : World} (ty : TypeId) (x : Operand) (ho : o.op = .load ty x) (p : Addr) (hx : a.eval x = .pointer (some p)) (v : Value) (hc : w.cell? p = some v)
    (d : TypeDesc) (hu : P.underlying ty = some d) (hd : d.isRow = false) : (execOp a.eval o).run P w = .ok (.value v) w := by
  have hagg : (isAgg ty).run P w = .ok false w := by
    unfold isAgg
    rw [Sem.run_bind, run_underlying hu w]
    cases d <;> simp_all
  have hl : (loadVar ty p).run P w = .ok v w := by simp [loadVar, hagg, hc]
  unfold execOp
  simp only [ho, hx, Instr.loadAt, Instr.sureAddr, Sem.run_bind, Sem.run_pure, Result.andThen_ok, hl]
theorem run_atG {P : Program} {o : Oper} {a : Act} {w : World} (ty e : TypeId) (sz : Nat) (x y : Operand) (ho : o.op = .indexAddr ty x y) (hu : P.underlying ty = some (.slice e)) (hs : (P.info? e).map (·.size) = some sz) (b off n cap i : Nat) (hx : a.eval x = .slice (some ⟨b, off, none⟩) n cap) (hy : a.eval y = .int .i64 (i : Int)) (hi : i < n) :
    (execOp a.eval o).run P w = .ok (.value (.pointer (some ⟨b, off + i * sz, none⟩))) w := by
  have hz : (sizeOf e).run P w = .ok sz w := by
    cases hq : P.info? e with
    | none => rw [hq] at hs; cases hs
    | some ie => rw [hq] at hs; simp only [Option.map_some, Option.some.injEq] at hs; simp [sizeOf, typeInfo, hq, hs, go_sem]
  unfold execOp
  simp only [ho, hx, hy]
  by_cases h0 : i * sz = 0
  · simp [Instr.indexAt, underlying, hu, hz, hi, h0, Addr.add, asIntOf, go_sem]
  · simp [Instr.indexAt, underlying, hu, hz, hi, h0, Addr.add, asIntOf, go_sem]

/-- The first k of a list, changed. -/
def upd (f : Nat → Nat) (l : List Nat) (k : Nat) : List Nat := (l.take k).map f ++ l.drop k
theorem upd_zero (f : Nat → Nat) (l : List Nat) : upd f l 0 = l := by simp [upd]
theorem upd_all (f : Nat → Nat) (l : List Nat) : upd f l l.length = l.map f := by simp [upd]
theorem upd_length (f : Nat → Nat) (l : List Nat) (k : Nat) : (upd f l k).length = l.length := by simp [upd]; omega
theorem upd_get (f : Nat → Nat) (l : List Nat) (k : Nat) (hk : k < l.length) : (upd f l k).getD k 0 = l.getD k 0 := by
  unfold upd
  rw [List.getD_eq_getElem?_getD, List.getElem?_append_right (by simp; omega)]
  simp [List.getD_eq_getElem?_getD, show min k l.length = k by omega]
theorem upd_set (f : Nat → Nat) (l : List Nat) (k : Nat) (hk : k < l.length) : (upd f l k).set k (f (l.getD k 0)) = upd f l (k + 1) := by
  unfold upd
  have hml : ((l.take k).map f).length = k := by simp; omega
  rw [List.set_append, if_neg (by omega), hml, Nat.sub_self, List.drop_eq_getElem_cons hk, List.set_cons_zero, List.take_succ_eq_append_getElem hk, List.map_append, List.append_assoc]
  simp [List.getD_eq_getElem?_getD, hk]
/-- The first numbers. -/
def upI (n k : Nat) : List Nat := List.range k ++ zeros (n - k)
theorem upI_zero (n : Nat) : upI n 0 = zeros n := by simp [upI]
theorem upI_all (n : Nat) : upI n n = List.range n := by simp [upI, zeros]
theorem upI_length (n k : Nat) (hk : k ≤ n) : (upI n k).length = n := by simp [upI, zeros]; omega
theorem upI_set (n k : Nat) (hk : k < n) : (upI n k).set k k = upI n (k + 1) := by
  unfold upI
  rw [List.set_append, if_neg (by simp), List.length_range, Nat.sub_self, show n - k = n - (k + 1) + 1 by omega, List.range_succ, List.append_assoc]
  rfl
/-- The pages of a round. -/
def pgs (s : List Nat) (r N : Nat) : List (List Nat) := (List.range N).map (pg s r)
theorem pgs_length (s : List Nat) (r N : Nat) : (pgs s r N).length = N := by simp [pgs]
theorem pgs_get (s : List Nat) (r N q : Nat) (hq : q < N) : (pgs s r N).getD q [] = pg s r q := by
  simp [pgs, List.getD_eq_getElem?_getD, hq]
theorem pgs_rts (s : List Nat) (r N : Nat) : Rts (pgs s r N) := by
  refine ⟨fun x hx => ?_, fun x hx => ?_⟩
  all_goals
    obtain ⟨q, _, rfl⟩ := List.mem_map.1 hx
  · exact (pg_rt s r q).len
  · exact (pg_rt s r q).byte
theorem wpList_make_u64 {P : Program} {w : World} {ops : Array Oper} {rest : List Oper} {o : Oper} {a : Act} {Q : Exit → Act → World → Prop} (hgd : o.guard = none) (l c : Operand) (t : TypeId) (ho : o.op = Op.makeSlice t l c) (e : TypeId) (k : IntKind) (sz : Nat) (hsz : sz ≤ 8) (h1 : P.underlying t = some (.slice e))
    (hz : (P.info? e).map (fun i => (i.zero, i.size, i.bytes)) = some (some (.int k 0), 1, sz)) (kl kc : IntKind) (L C : Int) (n : Nat) (hl : a.eval l = .int kl L) (hc : a.eval c = .int kc C) (hL : L = (n : Int)) (hC : C = (n : Int)) (b2 : n ≤ 1099511627776)
    (h : ∀ w', Has w' w.heap.size e k (zeros n) → Below w.heap.size w w' → wpList P ops Q rest (a.put o.dst (.slice (some ⟨w.heap.size, 0, none⟩) n n)) w') : wpList P ops Q (o :: rest) a w := by
  obtain ⟨i0, hi, hz0, hz1, hz2⟩ : ∃ i, P.info? e = some i ∧ i.zero = some (.int k 0) ∧ i.size = 1 ∧ i.bytes = sz := by
    cases hq : P.info? e with
    | none => simp [hq] at hz
    | some i => simp [hq] at hz; exact ⟨i, rfl, hz.1, hz.2.1, hz.2.2⟩
  have hmul : n * sz ≤ 8 * n := by rw [Nat.mul_comm]; exact Nat.mul_le_mul_right n hsz
  refine wpList_make_full w hgd l c t ho w.heap.size e i0 (.int k 0) 1 h1 hi hz0 hz1 kl kc L C n hl hc hL hC (by rw [hz2]; first | omega | (rw [Nat.mul_comm]; omega)) (by unfold maxLen; omega) (Nat.le_refl _) fun w' hown hgrow => ?_
  refine h w' ?_ ((Below.refl _ _).grown hgrow (Nat.le_refl _) (by simp))
  obtain ⟨hlen, ⟨hv, _⟩ | ⟨g, cap, cur, hv, hb, hg, hnc, hm, hcs, htk⟩⟩ := hown
  · cases hv
  · simp only [Value.slice.injEq, Option.some.injEq, Addr.mk.injEq] at hv
    obtain ⟨⟨hv1, _, _⟩, hv2, hv3⟩ := hv
    subst hv1
    subst hv3
    rw [List.take_of_length_le (by simp [hcs])] at htk
    unfold Has
    rw [hg]
    have : cur = nums k (zeros n) := by
      apply Array.toList_inj.1
      rw [htk]
      apply List.ext_getElem?
      intro j
      by_cases hj : j < n
      · simp [madeCells, nums, zeros, hj, Value.cells, Nat.mod_one]
      · simp [madeCells, nums, zeros, hj]
    rw [this]

set_option maxHeartbeats 4000000 in
theorem moveAll_any (base g n r : Nat) (l s : List Nat) (hs : Rt s) (hr : r < 256) (hl : l.length = n) (hn : n ≤ 1048576) (hall : ∀ k, k < n → l.getD k 0 < n) (w : World) (hT : Tabs w) (hG : Has w g 22 .u64 l) (hb : base ≤ g) :
    Calls Tryd.prog 19 #[.slice (some ⟨g, 0, none⟩) n n, .agg (nums .u8 s), .int .u8 r] w fun e w' => e = .returned (.tuple #[]) ∧ Has w' g 22 .u64 (l.map (mv s r n)) ∧ Below base w w' := by
  have hgl := hG.lt
  by_cases hn0 : n = 0
  · subst hn0
    obtain rfl : l = [] := List.eq_nil_of_length_eq_zero hl
    go_enter Tryd.func19, Tryd.ntmps19
    go_wp2_with (refine wpList_box_has rfl 4 rfl 24 (.tmp 1) rfl .u8 s rfl ?_; intro w1 H1 B1 S1)
    refine bodyPost_ret (results_none rfl _ _ _) rfl ?_
    exact ⟨rfl, hG.keep B1, B1.mono (by omega)⟩
  · have hzI : ((n : Int) == 0) = false := by simp; omega
    obtain ⟨N, hN⟩ : ∃ N, (n - 1) / 256 + 1 = N := ⟨_, rfl⟩
    have hNI : ((n : Int) - 1) / 256 + 1 = (N : Int) := by omega
    have hN4 : N ≤ 4096 := by omega
    have hN0 : 0 < N := by omega
    have hnN : (n - 1) / 256 < N := by omega
    have HL := hid hl
    have HA := hid hall
    clear hl hall hN
    have hTT := hid hT
    obtain ⟨p, hp⟩ : ∃ p, Same (pv s r n) p := ⟨_, ⟨rfl⟩⟩
    have HPV := hid (fun wq hq => pivot_any n r s hs hr (by omega) (by omega) wq hq)
    rw [hp.out] at HPV
    clear hT
    go_enter Tryd.func19, Tryd.ntmps19
    go_wp2_with (first
      | (refine wpList_box_has rfl 4 rfl 24 (.tmp 1) rfl .u8 s rfl ?_; intro w1 H1 B1 S1)
      | (refine wpList_load_has rfl 24 (.tmp 4) rfl w.heap.size .u8 s rfl 24 H1 _ _ Tryd.und24 (hs.size _ Tryd.size24) ?_)
      | (go_at_call 12; refine (HPV.out w1 (hTT.out.keep B1)).mono ?_; rintro e w2 ⟨rfl, B2⟩)
      | (at_make; refine wpList_make_roots rfl (.tmp 24) (.tmp 24) 70 rfl 24 Tryd.underlying70 Tryd.rootInfo .u64 .u64 _ _ N rfl rfl (by rfl) (by rfl) (by omega) ?_; intro w3 H3 B3))
    have hbg : w3.heap.size ≠ w2.heap.size := by have := H3.lt; omega
    have hs12 := B1.size
    have hs23 := B2.size
    have hs34 := H3.lt
    have BA : Below w3.heap.size w3 (w3.alloc (.cells #[.slice (some ⟨w2.heap.size, 0, none⟩) N N] 70)) := (Below.refl _ w3).alloc (Nat.le_refl _) _
    have hP4 := heap_alloc_new w3 (.cells #[.slice (some ⟨w2.heap.size, 0, none⟩) N N] 70)
    have hS4 := ((H1.keep B2).keep B3).keep BA
    have hH4 := H3.keep BA
    have hB4 := below_more (below_more (below_more B1 B2 (Nat.le_refl _)) B3 (Nat.le_refl _)) BA (Nat.le_refl _)
    rw [← upTo_zero (pgs s r N) N] at hH4
    generalize w3.alloc (.cells #[.slice (some ⟨w2.heap.size, 0, none⟩) N N] 70) = w4 at *
    have hgw1 : w.heap.size < w1.heap.size := H1.lt
    obtain ⟨b, hbe⟩ : ∃ b, w2.heap.size = b := ⟨_, rfl⟩
    obtain ⟨gp, hgpe⟩ : ∃ b, w3.heap.size = b := ⟨_, rfl⟩
    rw [hbe] at hP4 hH4 hbg hs34 hs23 ⊢
    rw [hgpe] at hP4 hbg hs34 ⊢
    clear H1 B1 B2 H3 B3 BA hgpe hbe HPV
    have hgp4 : gp < w4.heap.size := (Array.getElem?_eq_some_iff.1 hP4).1
    have hlb := hH4.lt
    have HPS : Same (pgs s r N) (pgs s r N) := ⟨rfl⟩
    have hpl := pgs_length s r N
    have hpr := pgs_rts s r N
    have hpg := pgs_get s r N
    generalize hPSe : pgs s r N = ps at *
    have HPSE : Same (pgs s r N) ps := ⟨hPSe⟩
    clear hPSe HPS
    have HPL := hid hpl
    have HPT := hid hpr
    have HPGT := hid hpg
    clear hpl hpr hpg
    have hB4h := hid hB4
    clear hB4
    go_loopw [9, 28] (fun _ c wr => ∃ k : Nat, k ≤ N ∧ c = .int .i64 (k : Nat) ∧ Has wr b 24 .u8 (upTo ps N k).flatten ∧ wr.heap[gp]? = some (.cells #[.slice (some ⟨b, 0, none⟩) N N] 70 (0, 0)) ∧ Has wr w.heap.size 24 .u8 s ∧ Below w.heap.size w wr) (fun _ c _ => N - (intOf c).toNat)
    case atStart => exact ⟨0, by omega, rfl, hH4, hP4, hS4, hB4h.out⟩
    case round =>
      clear hH4 hP4 hS4 hB4h hgp4 hlb
      obtain ⟨k, hk, rfl, hH, hP, hS, hB⟩ := hrel
      have hgpl : gp < wr.heap.size := (Array.getElem?_eq_some_iff.1 hP).1
      have hbl := hH.lt
      by_cases hkN : k < N
      · have HP := hid hP
        have HS := hid hS
        have HB := hid hB
        have HT := hid (hTT.out.keep hB)
        have hwk : IntKind.u64.wrap (k : Int) = (k : Int) := (by rw [IntKind.wrap_u64]; omega)
        have hc0 := cell_of_one hP
        have HPG := hid (fun wq hq => page_any k r s hs hr (by omega) wq hq)
        have hget := HPGT.out k hkN
        have hD := pg_rt s r k
        obtain ⟨D, hDe⟩ : ∃ D, Same (pg s r k) D := ⟨_, ⟨rfl⟩⟩
        rw [hDe.out] at hD HPG hget
        have HGT : Same _ _ := ⟨hget⟩
        have hfl := upTo_flat ps N k HPT.out HPL.out (by omega)
        have HH := hid hH
        have HFL := hid hfl
        clear hP hS hB hH hget hfl
        go_wp2
        refine wp_region_flow 8 8 (fun i v wq => match i with
          | 0 => v = .slice (some ⟨b, 0, none⟩) N N
          | 1 => v = .int .i64 (k : Nat)
          | 2 => v = .int .i64 (k : Nat)
          | 3 => v = .int .u64 (k : Nat)
          | 4 => v = .agg (nums .u8 s)
          | 5 => v = .int .u8 (r : Nat)
          | 6 => v = .agg (nums .u8 D)
          | _ => v = .pointer (some ⟨b, 32 * k, none⟩)) (by kernel_rfl) (by kernel_rfl) (fun _ d _ _ _ h => by cases d <;> exact h) ?_ ?_ ?_ ?_
        · intro i v wq wq' hi hv hb
          match i, hi with
          | 0, _ => exact hv
          | 1, _ => exact hv
          | 2, _ => exact hv
          | 3, _ => exact hv
          | 4, _ => exact hv
          | 5, _ => exact hv
          | 6, _ => exact hv
          | 7, _ => exact hv
          | (k + 8), hk => exact absurd hk (by omega)
        · intro i o hi ho aq wq hc hk hdep
          match i, hi with
          | 0, _ =>
            cases ho
            refine flow_value _ (run_cell 70 (.tmp 8) rfl ⟨gp, 0, none⟩ (by simpa [Act.eval] using hk 8 (by decide)) _ (cell_of_one ((hc.bel.block gp hgpl).trans HP.out)) _ Tryd.underlying70 rfl) rfl
          | 1, _ =>
            cases ho
            exact flow_move (.tmp 9) rfl (hk 9 (by decide))
          | 2, _ =>
            cases ho
            exact flow_move (.tmp 9) rfl (hk 9 (by decide))
          | 3, _ =>
            cases ho
            have e33 : aq.tmps.getD 33 undef = .int .i64 (k : Nat) := hdep 2 33 rfl (by kernel_rfl)
            refine flow_value _ ?_ rfl
            have e33' : aq.tmps[33]?.getD undef = .int .i64 (k : Nat) := by simpa using e33
            unfold execOp
            simp [e33', go_sem, hwk]
          | 4, _ =>
            cases ho
            exact flow_load_has 24 (.tmp 4) rfl w.heap.size .u8 s (by simpa [Act.eval] using hk 4 (by decide)) 24 (HS.out.keep hc.bel) _ _ Tryd.und24 (hs.size _ Tryd.size24) rfl
          | 5, _ =>
            cases ho
            exact flow_move (.tmp 2) rfl (hk 2 (by decide))
          | 6, _ =>
            cases ho
            have e34 : aq.tmps.getD 34 undef = .int .u64 (k : Nat) := hdep 3 34 rfl (by kernel_rfl)
            have e35 : aq.tmps.getD 35 undef = .agg (nums .u8 s) := hdep 4 35 rfl (by kernel_rfl)
            have e36 : aq.tmps.getD 36 undef = .int .u8 (r : Nat) := hdep 5 36 rfl (by kernel_rfl)
            refine flow_fun 14 _ _ rfl (fun _ _ => by simp [go_sem]) #[.int .u64 (k : Nat), .agg (nums .u8 s), .int .u8 (r : Nat)] (by rw [show (#[Operand.tmp 34, Operand.tmp 35, Operand.tmp 36] : Array Operand).map aq.eval = #[aq.tmps.getD 34 undef, aq.tmps.getD 35 undef, aq.tmps.getD 36 undef] from by simp [Act.eval], e34, e35, e36]) ?_
            refine (HPG.out wq (HT.out.keep hc.bel)).mono ?_
            rintro e w' ⟨rfl, B⟩
            exact ⟨_, rfl, rfl, B⟩
          | 7, _ =>
            cases ho
            have e31 : aq.tmps.getD 31 undef = .slice (some ⟨b, 0, none⟩) N N := hdep 0 31 rfl (by kernel_rfl)
            have e32 : aq.tmps.getD 32 undef = .int .i64 (k : Nat) := hdep 1 32 rfl (by kernel_rfl)
            refine flow_value (.pointer (some ⟨b, 32 * k, none⟩)) ?_ rfl
            rw [show 32 * k = 0 + k * 32 by omega]
            exact run_atG (P := Tryd.prog) (a := aq) (w := wq) 70 24 32 (.tmp 31) (.tmp 32) rfl Tryd.underlying70 Tryd.size24 b 0 N N k (by simpa [Act.eval] using e31) (by simpa [Act.eval] using e32) hkN
          | (k + 8), hk => exact absurd hk (by omega)
        · intro o h8 ho
          omega
        intro vf w7 hc hv
        have e37 : vf 6 = _ := hv 6 37 (by decide) rfl
        have e38 : vf 7 = _ := hv 7 38 (by decide) rfl
        clear hv
        simp only [List.take_succ_cons, List.take_zero, List.drop_succ_cons, List.drop_zero, putAll, Act.put, List.setIfInBounds_toArray, List.set_cons_succ, List.set_cons_zero]
        rw [e37, e38]
        refine wpList_store_part rfl 24 (.tmp 38) (.tmp 37) rfl b k 24 _ D rfl rfl (HH.out.keep hc.bel) hD.len (by rw [HFL.out]; omega) Tryd.size24 ?_
        intro w9 H9 O9
        rw [upTo_next ps N k HPT.out HPL.out hkN D HGT.out.symm] at H9
        have HH9 := hid H9
        have hbw : w.heap.size < b := by omega
        have HP9 := hid ((O9.block gp hbg).trans ((hc.bel.block gp hgpl).trans HP.out))
        have HS9 := hid ((HS.out.keep hc.bel).only O9 (by omega))
        have HB9 := hid (below_only (below_more HB.out hc.bel (Nat.le_refl _)) O9 (by omega))
        clear H9 O9 e37 e38
        go_wp2
        go_roundw
        case rel => exact ⟨k + 1, by omega, by go_num, HH9.out, HP9.out, HS9.out, HB9.out⟩
        case measure => simp [intOf]; omega
      · have hke : N = k := by omega
        subst hke
        have hL0 : Has wr g 22 .u64 (upd (mv s r n) l 0) := by rw [upd_zero]; exact hG.keep hB
        have hR0 : RootsAt wr (some ⟨b, 0, none⟩) ps := by rw [upTo_all ps N HPL.out] at hH; exact HasR.at HPT.out hH
        have hB0 := hid (hB.mono (show base ≤ w.heap.size by omega))
        have hP0 := hid hP
        have hbw : w.heap.size < b := by omega
        have hgw : w.heap.size < gp := by omega
        clear hS hB hH hP
        go_wp2
        go_loopw [10, 11, 42] (fun _ _ c wr => ∃ k : Nat, k ≤ n ∧ c = .int .i64 (k : Nat) ∧ Has wr g 22 .u64 (upd (mv s r n) l k) ∧ wr.heap[gp]? = some (.cells #[.slice (some ⟨b, 0, none⟩) N N] 70 (0, 0)) ∧ RootsAt wr (some ⟨b, 0, none⟩) ps ∧ Below base w wr) (fun _ _ c _ => n - (intOf c).toNat)
        case atStart => exact ⟨0, by omega, rfl, hL0, hP0.out, hR0, hB0.out⟩
        case round =>
          clear hL0 hR0 hB0 hP0 hgpl hbl
          obtain ⟨k, hk, rfl, hL, hP, hR, hB⟩ := hrel
          have hll : (upd (mv s r n) l k).length = n := by rw [upd_length]; exact HL.out
          by_cases hkn : k < n
          · have hxe := upd_get (mv s r n) l k (by rw [HL.out]; exact hkn)
            have hst := upd_set (mv s r n) l k (by rw [HL.out]; exact hkn)
            have hxn := HA.out k hkn
            have hcl := hL.cell k (by omega)
            rw [hxe] at hcl
            obtain ⟨x, hx⟩ : ∃ x, l.getD k 0 = x := ⟨_, rfl⟩
            rw [hx] at hcl hxn hst
            have HMV := hid (movedB_any x n r gp b N s ps HPL.out HPGT.out (by omega) hnN hs hr (by omega) hxn wr hP hR)
            rw [hp.out] at HMV
            obtain ⟨Y, hY⟩ : ∃ Y, Same (mv s r n x) Y := ⟨_, ⟨rfl⟩⟩
            rw [hY.out] at HMV hst
            have HST : Same _ _ := ⟨hst⟩
            have HLL := hid hll
            have HL1 := hid hL
            have hgl1 := hL.lt
            have hgp1 : gp < wr.heap.size := (Array.getElem?_eq_some_iff.1 hP).1
            have HP1 := hid hP
            have HR1 := hid hR
            have HB1 := hid hB
            clear hst hll hxe hx hL hP hR hB
            go_wp2_with (go_at_call 11; refine HMV.out.mono ?_; rintro e w5 ⟨rfl, B5⟩; have HL5 := hid (HL1.out.keep B5); have hc5 := HL5.out.cell k (by rw [HLL.out]; exact hkn); have hf5 := HL5.out.frozen k; have HB5 := hid B5; clear B5)
            go_roundw
            case rel =>
              have O := Only.setCell w5 g k (.int .u64 (Y : Nat))
              exact ⟨k + 1, by omega, by go_num, by rw [← HST.out]; exact HL5.out.set k Y, (O.block gp (by omega)).trans ((HB5.out.block gp hgp1).trans HP1.out), (HR1.out.keep HB5.out).only O (by omega), below_only (below_more HB1.out HB5.out (by omega)) O hb⟩
            case measure => simp [intOf]; omega
          · have hke : n = k := by omega
            subst hke
            have hLm : Has wr g 22 .u64 (l.map (mv s r n)) := by
              have h := hL
              have e := upd_all (mv s r n) l
              rw [HL.out] at e
              rw [e] at h
              exact h
            have HLm := hid hLm
            have HB1 := hid hB
            clear hL hLm hB hP hR
            go_wp2
            go_end0
            exact ⟨rfl, HLm.out, HB1.out⟩
end Go.Proofs.YtibblghdemmkjaaDoor
