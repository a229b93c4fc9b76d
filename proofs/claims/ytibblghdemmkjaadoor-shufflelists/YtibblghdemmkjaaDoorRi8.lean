/- The document’s Index. -/
import Derived.Test.YtibblghdemmkjaaDoorIx8
namespace Go.Proofs.YtibblghdemmkjaaDoor
open Go.RowKit
set_option linter.unusedVariables false
set_option maxRecDepth 100000

theorem flow_load_has {w : World} {o : Oper} {a : Act} {Q : Exit → Act → World → Prop} {I : Value → World → Prop} {P : Program} (ty : TypeId) (x : Operand) (ho : o.op = .load ty x) (g : Nat) (k : IntKind) (l : List Nat) (hx : a.eval x = .pointer (some ⟨g, 0, none⟩))
    (t : TypeId) (hg : Has w g t k l) (n : Nat) (e : TypeId) (hu : P.underlying ty = some (.array n e)) (hi : (P.info? ty).map (·.size) = some l.length) (hI : I (.agg (nums k l)) w) : o.wp P a w (fun a' w' => ∃ v, a' = a.put o.dst v ∧ I v w' ∧ Below w.heap.size w w') Q := by
  refine flow_value _ ?_ hI
  have hl : (loadVar ty ⟨g, 0, none⟩).run P w = .ok (.agg (nums k l)) w := run_loadVar_row w g t ty (nums k l) (0, 0) _ hg hu rfl (by rw [hi, nums_size])
  unfold execOp
  simp only [ho, hx, Instr.loadAt, Instr.sureAddr, Sem.run_bind, Sem.run_pure, Result.andThen_ok, hl]
theorem flow_byteH {w : World} {o : Oper} {a : Act} {Q : Exit → Act → World → Prop} {I : Value → World → Prop} (x : Operand) (ho : o.op = .buildSlice 58 1 #[(0, x)]) (r : Nat) (hx : a.eval x = .int .u8 (r : Nat))
    (h : ∀ w', Has w' w.heap.size 5 .u8 [r] → I (.slice (some ⟨w.heap.size, 0, none⟩) 1 1) w') : o.wp Tryd.prog a w (fun a' w' => ∃ v, a' = a.put o.dst v ∧ I v w' ∧ Below w.heap.size w w') Q := by
  obtain ⟨i0, hi, hz0, hz1, hz2⟩ := info_parts Tryd.info5
  refine wp_buildSlice 58 5 1 _ ho #[.int .u8 (r : Nat)] i0 (.int .u8 0) Tryd.underlying58 hi hz0 (by rw [hz1]; decide) (by rw [hz1]; decide) ?_ ⟨_, rfl, h _ (heap_alloc_new w _), (Below.refl _ w).alloc (Nat.le_refl _) _⟩
  rw [hz1]
  simp only [List.map_toArray, List.map_cons, List.map_nil, hx]
  have e : ((Array.range (1 * 1)).map fun x => (Value.int IntKind.u8 0).cells[x % (Value.int IntKind.u8 0).cells.size]!) = #[Value.int .u8 0] := by kernel_rfl
  rw [e]
  simp [Instr.fill, Value.cells]
theorem rmax_any (a b : Nat) (w : World) : Calls Tryd.prog 17 #[.int .u64 a, .int .u64 b] w fun e w' => e = .returned (.int .u64 (max a b : Nat)) ∧ w' = w := by
  by_cases h : b < a
  · rw [show max a b = a by omega]
    go_enter Tryd.func17, Tryd.ntmps17
    go_wp2
    go_ret
    exact ⟨rfl, rfl⟩
  · rw [show max a b = b by omega]
    go_enter Tryd.func17, Tryd.ntmps17
    go_wp2
    go_ret
    exact ⟨rfl, rfl⟩
/-- The first eight bytes of a root. -/
theorem rtake8 {w : World} {g : Nat} {t : TypeId} {l : List Nat} (h : Has w g t .u8 l) (hl : l.length = 32) (hb : ∀ z ∈ l, z < 256) :
    Calls Tryd.prog 16 #[.slice (some ⟨g, 0, none⟩) 8 32] w fun e w' => e = .returned (.int .u64 (tk l : Nat)) ∧ w' = w := by
  have h8 : (l.take 8).length = 8 := by rw [List.length_take, hl]; rfl
  have h := rtake_isB (.slice (some ⟨g, 0, none⟩) 8 32) (l.take 8) w ⟨⟨some ⟨g, 0, none⟩, 32, by rw [h8], by rw [h8]; omega, by unfold maxLen; omega, (fun e => by cases e), .inr ⟨g, 0, rfl, fun i hi => ?_⟩⟩, fun z hz => hb z (List.mem_of_mem_take hz)⟩
  · rw [tk_take8] at h; exact h
  · rw [h8] at hi
    rw [Nat.zero_add, h.cell i (by omega)]
    congr 3
    simp [hi, List.getD_eq_getElem?_getD]

set_option maxHeartbeats 1000000 in
theorem rindex_bad (i n : Nat) (s : List Nat) (hi : i < 18446744073709551616) (hn : n < 18446744073709551616) (h : n ≤ i ∨ 1099511627776 < n) (w : World) :
    Calls Tryd.prog 8 #[.int .u64 i, .int .u64 n, .agg (nums .u8 s)] w fun e w' => e = .returned (.tuple #[.int .u64 0, .bool false]) ∧ Below w.heap.size w w' := by
  by_cases h0 : n = 0
  · subst h0
    go_enter Tryd.func8, Tryd.ntmps8
    go_wp2_with (refine wpList_box_has rfl 5 rfl 24 (.tmp 2) rfl .u8 s rfl ?_; intro w1 H1 B1 S1)
    refine bodyPost_ret (results_tmp_tmp rfl _ _) rfl ?_
    exact ⟨rfl, B1⟩
  · have hz : ¬ (n : Int) = 0 := by omega
    by_cases hin : n ≤ i
    all_goals
      have hx : i < n → 1099511627776 < n := fun q => by omega
      go_enter Tryd.func8, Tryd.ntmps8
      go_wp2_with (refine wpList_box_has rfl 5 rfl 24 (.tmp 2) rfl .u8 s rfl ?_; intro w1 H1 B1 S1)
      refine bodyPost_ret (results_tmp_tmp rfl _ _) rfl ?_
      exact ⟨rfl, B1⟩

set_option maxHeartbeats 4000000 in
theorem rindex_ok (i n : Nat) (s : List Nat) (hs : Rt s) (hi : i < n) (hn : n ≤ 1099511627776) (w : World) :
    Calls Tryd.prog 8 #[.int .u64 i, .int .u64 n, .agg (nums .u8 s)] w fun e w' => e = .returned (.tuple #[.int .u64 (ix s n 5 i : Nat), .bool true]) ∧ Below w.heap.size w w' := by
  have hd0 : ((n : Int) == 0) = false := by simp; omega
  have hd1 : decide (n ≤ i) = false := by simpa using hi
  have hd2 : decide (1099511627776 < (n : Int)) = false := by simp; omega
  have hz : ¬ (n : Int) = 0 := by omega
  have hlx := fun k => ix_lt s k hi
  have HLX := hid hlx
  clear hlx
  obtain ⟨Z, hZ⟩ : ∃ Z, Same (ix s n 5 i) Z := ⟨_, ⟨rfl⟩⟩
  rw [hZ.out]
  go_enter Tryd.func8, Tryd.ntmps8
  go_wp2_with (refine wpList_box_has rfl 5 rfl 24 (.tmp 2) rfl .u8 s rfl ?_; intro w1 H1 B1 S1)
  have HG := hid H1
  have HB := hid B1
  have hlt := H1.lt
  clear H1 B1 S1
  go_loopw [0, 8, 9, 10, 11, 12, 13] (fun a c _ _ _ _ _ wr => ∃ k : Nat, k ≤ 5 ∧ a = .int .u64 (ix s n k i : Nat) ∧ c = .int .i64 (k : Nat) ∧ Below w1.heap.size w1 wr) (fun _ c _ _ _ _ _ _ => 5 - (intOf c).toNat)
  case atStart => exact ⟨0, by omega, rfl, rfl, Below.refl _ _⟩
  case round =>
    obtain ⟨k, hk, rfl, rfl, hb⟩ := hrel
    by_cases hlt5 : k < 5
    · have hx := HLX.out k
      have hix : ix s n (k + 1) i = mv s k n (ix s n k i) := rfl
      obtain ⟨x, hxe⟩ : ∃ x, Same (ix s n k i) x := ⟨_, ⟨rfl⟩⟩
      rw [hxe.out] at hx hix ⊢
      have HIX : Same _ _ := ⟨hix⟩
      clear hix
      have hp := pv_lt s k (show 0 < n by omega)
      have hfl := fl_lt s k x (show 0 < n by omega)
      have hfd : fl s k n x = (pv s k n + n - x) % n := rfl
      have hpd : pv s k n = tk (sha (s ++ [k])) % n := rfl
      have hD0 := sha_rt (s ++ [k])
      have HRD := hid (rdig_any s hs (.slice (some ⟨wr.heap.size, 0, none⟩) 1 1) [k] (wr.alloc (.cells #[.int .u8 (k : Nat)] 5)) ((own_byte wr k).isB (one_byte (by omega))) (by simp))
      obtain ⟨D0, hDs⟩ : ∃ D, Same (sha (s ++ [k])) D := ⟨_, ⟨rfl⟩⟩
      rw [hDs.out] at hpd hD0 HRD
      have htk := tk_lt D0 hD0.byte
      obtain ⟨f, hfe⟩ : ∃ f, Same (fl s k n x) f := ⟨_, ⟨rfl⟩⟩
      rw [hfe.out] at hfl hfd
      obtain ⟨p, hpe⟩ : ∃ p, Same (pv s k n) p := ⟨_, ⟨rfl⟩⟩
      rw [hpe.out] at hp hfd hpd
      have hfI := flipI hfd (by omega)
      have hpI : ((tk D0 : Nat) : Int) % (n : Int) = (p : Int) := by rw [hpd, Int.natCast_emod]
      clear hfd hpd
      have HMX := hid (fun wq => rmax_any x f wq)
      have hmn : max x f < n := by omega
      have hmvd : mv s k n x = if tb s k (max x (fl s k n x)) = 1 then fl s k n x else x := rfl
      rw [hfe.out] at hmvd
      obtain ⟨m, hme⟩ : ∃ m, max x f = m := ⟨_, rfl⟩
      rw [hme] at HMX hmn hmvd
      clear hme
      obtain ⟨q, hq⟩ : ∃ q, m / 256 = q := ⟨_, rfl⟩
      have hqI : (m : Int) / 256 = (q : Int) := by omega
      obtain ⟨kk, hkk⟩ : ∃ k, m % 256 / 8 = k := ⟨_, rfl⟩
      have hkI : (m : Int) % 256 / 8 = (kk : Int) := by omega
      have hk32 : kk < 32 := by omega
      obtain ⟨d, hd⟩ : ∃ d, m % 8 = d := ⟨_, rfl⟩
      have hdI : (m : Int) % 8 = (d : Int) := by omega
      have hd8 : d < 8 := by omega
      have htb : tb s k m = (pg s k q).getD kk 0 / 2 ^ d % 2 := by unfold tb; rw [hq, hkk, hd]
      have hD := pg_rt s k q
      have hpg : pg s k q = sha (s ++ ([k] ++ le q 4)) := rfl
      have hLb := le_byte q 4
      have hLl := le_length q 4
      have HP := hid (fun wq => refput_le (q : Int) q 4 rfl (by omega) (by omega) wq)
      obtain ⟨L, hL⟩ : ∃ L, Same (le q 4) L := ⟨_, ⟨rfl⟩⟩
      rw [hL.out] at hLb hLl HP hpg
      obtain ⟨D, hDq⟩ : ∃ D, Same (pg s k q) D := ⟨_, ⟨rfl⟩⟩
      have hDe : Same (sha (s ++ ([k] ++ L))) D := ⟨by rw [← hDq.out, hpg]⟩
      rw [hDq.out] at hD htb
      clear hpg hq hkk hd
      obtain ⟨y, hy⟩ : ∃ y, D.getD kk 0 = y := ⟨_, rfl⟩
      have hy8 : y < 256 := by rw [← hy]; exact hD.getD kk
      obtain ⟨c, hce⟩ : ∃ c, Hid (y / 2 ^ d = c) := ⟨_, rfl⟩
      have hc8 : c < 256 := by rw [← hce.out]; exact Nat.lt_of_le_of_lt (Nat.div_le_self _ _) hy8
      rw [hy, hce.out] at htb
      have hlow : bits .and .u8 ((y : Int) / 2 ^ d) 1 = ((c % 2 : Nat) : Int) := by
        rw [show (y : Int) / 2 ^ d = (c : Int) by rw [← hce.out]; simp]
        exact low_bit c hc8
      have HY := hid hy
      clear hy
      rw [htb] at hmvd
      have HM : Same _ _ := ⟨hmvd⟩
      clear htb hmvd
      have hbb := byte_app (one_byte (show k < 256 by omega)) hLb
      have h39 : ([k] ++ L).length ≤ 1099511627776 := by rw [List.length_append, hLl]; simp
      have hwr8 : IntKind.u8.wrap (k : Int) = (k : Int) := (by rw [IntKind.wrap_u8]; omega)
      have hwq : IntKind.u64.wrap (q : Int) = (q : Int) := (by rw [IntKind.wrap_u64]; omega)
      have hGr := HG.out.keep hb
      have HBr := hid hb
      have hgl := hGr.lt
      have hb2 := hid (below_more HB.out hb (Nat.le_refl _))
      clear hb
      go_wp2_with (first
        | (refine wpList_load_has rfl 24 (.tmp 5) rfl w.heap.size .u8 s rfl 24 hGr _ _ Tryd.und24 (hs.size _ Tryd.size24) ?_)
        | (go_at_call 15; refine HRD.out.mono ?_; rintro e w2 ⟨rfl, B2⟩; have T2 := below_more ((Below.refl _ wr).alloc (Nat.le_refl _) _) B2 (Nat.le_refl _))
        | (refine wpList_alloc_has rfl 9 rfl 23 rfl .u8 32 Tryd.zero23 ?_; intro w3 H3 B3 S3)
        | (refine wpList_store_has rfl 23 (.tmp 9) (.tmp 33) rfl w2.heap.size .u8 D0 (zeros 32) rfl rfl 23 H3 (hD0.size _ Tryd.size23) (by rw [hD0.len, zeros_length]) ?_; intro w4 H4 O4; have HI4 := hid (rtake8 H4 hD0.len hD0.byte); have HB4 := hid (below_only (below_more T2 B3 (Nat.le_refl _)) O4 (by have := T2.size; omega)))
        | (go_at_call 16; refine HI4.out.mono ?_; rintro e w5 ⟨rfl, rfl⟩)
        | (go_at_call 17; refine (HMX.out _).mono ?_; rintro e w6 ⟨rfl, rfl⟩))
      have HGa := hid (hGr.keep HB4.out)
      have hgl4 := HGa.out.lt
      refine wp_region_flow 10 10 (fun i v wq => match i with
        | 0 => v = .agg (nums .u8 s)
        | 1 => v = .int .i64 (k : Nat)
        | 2 => v = .int .u8 (k : Nat)
        | 3 => ∃ g, v = .slice (some ⟨g, 0, none⟩) 1 1 ∧ Has wq g 5 .u8 [k]
        | 4 => v = .int .u64 (m : Nat)
        | 5 => v = .int .u64 (q : Nat)
        | 6 => IsB wq v L
        | 7 => IsB wq v ([k] ++ L)
        | 8 => v = .agg (nums .u8 D)
        | _ => ∃ g, v = .pointer (some ⟨g, 0, none⟩) ∧ Has wq g 23 .u8 (zeros 32) ∧ wr.heap.size ≤ g) (by kernel_rfl) (by kernel_rfl) (fun _ d _ _ _ h => by cases d <;> exact h) ?_ ?_ ?_ ?_
      · intro i v wq wq' hi hv hb
        match i, hi with
        | 0, _ => exact hv
        | 1, _ => exact hv
        | 2, _ => exact hv
        | 3, _ => obtain ⟨g, e, h⟩ := hv; exact ⟨g, e, h.keep hb⟩
        | 4, _ => exact hv
        | 5, _ => exact hv
        | 6, _ => exact hv.keep hb
        | 7, _ => exact hv.keep hb
        | 8, _ => exact hv
        | 9, _ => obtain ⟨g, e, h, l⟩ := hv; exact ⟨g, e, h.keep hb, l⟩
        | (k + 10), hk => exact absurd hk (by omega)
      · intro i o hi ho aq wq hc hk hdep
        match i, hi with
        | 0, _ =>
          cases ho
          exact flow_load_has 24 (.tmp 5) rfl w.heap.size .u8 s (by simpa [Act.eval] using hk 5 (by decide)) 24 (HGa.out.keep hc.bel) _ _ Tryd.und24 (hs.size _ Tryd.size24) rfl
        | 1, _ =>
          cases ho
          exact flow_move (.tmp 8) rfl (hk 8 (by decide))
        | 2, _ =>
          cases ho
          have e49 : aq.tmps.getD 49 undef = .int .i64 (k : Nat) := hdep 1 49 rfl (by kernel_rfl)
          refine flow_value _ ?_ rfl
          have e49' : aq.tmps[49]?.getD undef = .int .i64 (k : Nat) := by simpa using e49
          unfold execOp
          simp [e49', go_sem, hwr8]
        | 3, _ =>
          cases ho
          have e50 : aq.tmps.getD 50 undef = .int .u8 (k : Nat) := hdep 2 50 rfl (by kernel_rfl)
          exact flow_byteH (.tmp 50) rfl k (by simpa [Act.eval] using e50) (fun w' R => ⟨_, rfl, R⟩)
        | 4, _ =>
          cases ho
          exact flow_move (.tmp 12) rfl (hk 12 (by decide))
        | 5, _ =>
          cases ho
          have e52 : aq.tmps.getD 52 undef = .int .u64 (m : Nat) := hdep 4 52 rfl (by kernel_rfl)
          refine flow_value _ ?_ rfl
          have e52' : aq.tmps[52]?.getD undef = .int .u64 (m : Nat) := by simpa using e52
          unfold execOp
          simp [e52', go_sem, hqI, hwq]
        | 6, _ =>
          cases ho
          have e53 : aq.tmps.getD 53 undef = .int .u64 (q : Nat) := hdep 5 53 rfl (by kernel_rfl)
          refine flow_fun 18 _ _ rfl (fun _ _ => by simp [go_sem]) #[.int .u64 (q : Nat), .int .i64 4] (by rw [show (#[Operand.tmp 53, Operand.const (.int .i64 4)] : Array Operand).map aq.eval = #[aq.tmps.getD 53 undef, .int .i64 4] from by simp [Act.eval], e53]) ?_
          refine (HP.out wq).mono ?_
          rintro e w' ⟨v, rfl, R, B⟩
          exact ⟨_, rfl, R.isB hLb, B⟩
        | 7, _ =>
          cases ho
          obtain ⟨g, e51, hH⟩ : ∃ g, aq.tmps.getD 51 undef = .slice (some ⟨g, 0, none⟩) 1 1 ∧ Has wq g 5 .u8 [k] := hdep 3 51 rfl (by kernel_rfl)
          have e54 : IsB wq (aq.tmps.getD 54 undef) L := hdep 6 54 rfl (by kernel_rfl)
          exact flow_append_full (.tmp 51) (.tmp 54) 58 rfl ⟨g, 0, none⟩ [k] 1 rfl (by simpa [Act.eval] using e51) (fun j hj => by rw [Addr.add_lit, Nat.zero_add]; exact hH.cell j hj) _ L rfl (by simpa [Act.eval] using e54.src) (by rw [hLl]; omega) (by rw [hLl]; simp) (fun v' w' R B => R.isB hbb)
        | 8, _ =>
          cases ho
          have e48 : aq.tmps.getD 48 undef = .agg (nums .u8 s) := hdep 0 48 rfl (by kernel_rfl)
          have e55 : IsB wq (aq.tmps.getD 55 undef) ([k] ++ L) := hdep 7 55 rfl (by kernel_rfl)
          refine flow_fun 15 _ _ rfl (fun _ _ => by simp [go_sem]) #[.agg (nums .u8 s), aq.tmps.getD 55 undef] (by rw [show (#[Operand.tmp 48, Operand.tmp 55] : Array Operand).map aq.eval = #[aq.tmps.getD 48 undef, aq.tmps.getD 55 undef] from by simp [Act.eval], e48]) ?_
          have h := rdig_any s hs _ _ wq e55 h39
          rw [hDe.out] at h
          refine h.mono ?_
          rintro e w' ⟨rfl, B⟩
          exact ⟨_, rfl, rfl, B⟩
        | 9, _ =>
          cases ho
          exact flow_alloc 23 rfl .u8 32 Tryd.zero23 fun w' hH hB => ⟨wq.heap.size, rfl, hH, Nat.le_trans HB4.out.size hc.bel.size⟩
        | (k + 10), hk => exact absurd hk (by omega)
      · intro o h10 ho
        omega
      intro vf w7 hc hv
      have e56 : vf 8 = _ := hv 8 56 (by decide) rfl
      obtain ⟨g, e13, H13, hg⟩ : ∃ g, vf 9 = .pointer (some ⟨g, 0, none⟩) ∧ Has w7 g 23 .u8 (zeros 32) ∧ wr.heap.size ≤ g := hv 9 13 (by decide) rfl
      clear hv
      simp only [List.take_succ_cons, List.take_zero, List.drop_succ_cons, List.drop_zero, putAll, Act.put, List.setIfInBounds_toArray, List.set_cons_succ, List.set_cons_zero]
      rw [e56, e13]
      refine wpList_store_has rfl 23 (.tmp 13) (.tmp 56) rfl g .u8 D (zeros 32) rfl rfl 23 H13 (hD.size _ Tryd.size23) (by rw [hD.len, zeros_length]) ?_
      intro w9 H9 O9
      have hcell := H9.cell kk (by rw [hD.len]; exact hk32)
      rw [HY.out] at hcell
      have HB9 := hid (below_only (below_more HB4.out hc.bel (Nat.le_refl _)) O9 hg)
      clear e56 e13 H13 O9 hc HB4
      rcases (show c % 2 = 1 ∨ c % 2 = 0 by omega) with hm | hm
      all_goals
        have HM2 := HM.out
        rw [hm] at hlow HM2
        simp only [if_pos, Nat.zero_ne_one, if_false] at HM2
        have HM3 : Same _ _ := ⟨HM2⟩
        clear HM2 HM
        go_wp2
        go_roundw
        case rel => exact ⟨k + 1, by omega, by rw [HIX.out, HM3.out], by go_num, below_more HBr.out HB9.out (Nat.le_refl _)⟩
        case measure => simp [intOf]; omega
    · have hke : k = 5 := by omega
      have hz5 : ix s n k i = Z := by rw [hke]; exact hZ.out
      rw [hz5]
      have HB5 := hid (below_more HB.out hb (Nat.le_refl _))
      clear hb hz5
      subst hke
      go_wp2
      refine bodyPost_ret (results_tmp_tmp rfl _ _) rfl ?_
      exact ⟨rfl, HB5.out⟩
end Go.Proofs.YtibblghdemmkjaaDoor
