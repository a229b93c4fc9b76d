/- Own texts of the proof, joined: RootG Kinds6 Many6 KDDeposit FlowV FlowR AppV RowsB RefNum. -/
import Derived.Test.YtfmecdmkepnlmaaDoorH4
/- What the document's Root answers, as a word that goes on. -/
namespace Go.Proofs.YtfmecdmkepnlmaaDoor
open Go.RowKit Go.Shelf
set_option linter.unusedVariables false
set_option maxRecDepth 100000

/-- Root answers R for this kind and this value, wherever they lie. -/
def Rooted (d : Dt) (x : Vt) (R : List Nat) : Prop := ∀ (p : Nat) (v : Value) (w : World), DAt w d p → IsV w v x →
  Calls Tryd.prog 9 #[.pointer (some ⟨p, 0, none⟩), v] w fun e w' => e = .returned (.agg (nums .u8 R)) ∧ Below w.heap.size w w'
theorem rooted_any (d : Dt) (x : Vt) (ho : okR d x) : Rooted d x (rootV d x) := fun p v w hD hV => rroot_any d x p v w ho hD hV
set_option maxHeartbeats 1000000 in
theorem Rooted.box (n num : Nat) (ds : List Dt) (ks : List Vt) (r : List Nat) (bs : List Bool) (rs : List (List Nat)) (hl : ds.length = ks.length) (hrln : rs.length = ks.length) (hm : ds.length ≤ 1048576) (hrts : Rts rs) (hall : ∀ i d x, ds[i]? = some d → ks[i]? = some x → Rooted d x (rs.getD i [])) :
    Rooted (.mk 8 n ds) (.mk num r bs ks) (fullR (depth (ds.length : Nat)) rs) := by
  intro p v w hD hV
  obtain ⟨sb, sk, rfl, hV⟩ := hV
  rw [DAt] at hD
  obtain ⟨hd0, hd1, dao, dcap, hd2, hdc, hdm, hds⟩ := hD
  rw [VAt] at hV
  obtain ⟨⟨hn0, hrl, hr8⟩, _, kao, kcap, rfl, hkc, hkm, hks⟩ := hV
  have hzr := zero_rt
  have hfr : Rt (fullR (depth (ds.length : Nat)) rs) := full_rt _ _ hrts
  have HR := hid (And.intro hrts hrln)
  have HS := hid (And.intro hds hks)
  have HL := hid hl
  have HO := hid (And.intro hall (And.intro hdm hrl))
  have hlk : ks.length ≤ 1048576 := hl ▸ hm
  clear hrts hrln hds hks hall hrl hr8 hdc hkc hl
  obtain ⟨Z, HZ⟩ : ∃ Z, Same (fullR (depth (ds.length : Nat)) rs) Z := ⟨_, ⟨rfl⟩⟩
  rw [HZ.out] at hfr ⊢
  go_enter Tryd.func9, Tryd.ntmps9
  go_wp2_with ((with_reducible refine at_list' ?_); first
    | (refine wpList_box_c rfl 3 rfl (.tmp 1) rfl (valL num r sb (.slice kao ks.length kcap)) rfl ?_; intro w1 H1 B1 S1)
    | (refine wpList_alloc_has rfl 4 rfl 24 rfl .u8 32 Tryd.zero24 ?_; intro w2 H2 B2 S2; rw [S1] at H2 S2; rw [S1]; have hd02 := cell_keep B2 (cell_keep B1 hd0); have hd12 := cell_keep B2 (cell_keep B1 hd1); have hd22 := cell_keep B2 (cell_keep B1 hd2); have HX := hid (H1.keep B2)))
  have L2 := below_more B1 B2 (Nat.le_refl _)
  clear H1 B1 B2 hd02 hd12 hd22
  go_loopw [8, 12, 13] (fun l i _ wr => ∃ t : Nat, t ≤ ks.length ∧ i = .int .i64 t ∧ wr.ownsRow (w.heap.size + 2) 24 32 l t (cellsOf (rs.take t)) ∧ HasC wr w.heap.size 40 (valL num r sb (.slice kao ks.length kcap)) ∧ Has wr (w.heap.size + 1) 24 .u8 (zeros 32) ∧ Below w.heap.size w wr) (fun _ i _ _ => ks.length - (intOf i).toNat)
  case atStart => exact ⟨0, Nat.zero_le _, rfl, World.ownsRow_nil _ _ _ _, HX.out, H2, L2⟩
  case round =>
    clear HX H2 L2 S1 S2
    obtain ⟨t, ht, rfl, hown, hX, hA, hW⟩ := hrel
    have hd0r := cell_keep hW hd0
    have hk34 := hX.cell (valL_34 num r sb (.slice kao ks.length kcap) HO.out.2.2)
    have hwl := hW.size
    have hal := hA.lt
    by_cases hlt : t < ks.length
    · obtain ⟨db, doff, rfl, hDs⟩ := HS.out.1.resolve_left (by have := HL.out; omega)
      obtain ⟨kb, koff, rfl, hKs⟩ := HS.out.2.resolve_left (by omega)
      have hx := List.getElem?_eq_getElem hlt
      have hdl : t < ds.length := by have := HL.out; omega
      have hdx := List.getElem?_eq_getElem hdl
      generalize ks[t] = x at hx
      generalize ds[t] = d at hdx
      obtain ⟨q, hq, hDq⟩ := DsAt.get hDs hdx
      obtain ⟨sb1, sk1, hr1, hV1⟩ := KsAt.get hKs hx
      have hxl : x.root.length = 32 := by
        have h2 := hV1
        cases x
        rw [VAt] at h2
        exact h2.1.2.1
      have hrt : t < rs.length := by have := HR.out.2; omega
      have hqr := HR.out.1.rt t hrt
      have hnx : rs.take t ++ [rs.getD t []] = rs.take (t + 1) := by rw [List.take_add_one, List.getElem?_eq_getElem hrt, List.getD_eq_getElem?_getD, List.getElem?_eq_getElem hrt]; rfl
      have hsh : Rts (rs.take t) := HR.out.1.take t
      have HI := hid (fun wq (hb : Below wr.heap.size wr wq) => HO.out.1 t d x hdx hx q (.agg (valL x.num x.root sb1 sk1).toArray) wq (DAt.keep (hW.trans (hb.mono hW.size)) d hDq) ⟨sb1, sk1, rfl, VAt.keep (hW.trans (hb.mono hW.size)) x hV1⟩)
      obtain ⟨Q, HQ⟩ : ∃ Q, Same (rs.getD t []) Q := ⟨_, ⟨rfl⟩⟩
      rw [HQ.out] at hqr hnx HI
      have HF := hid (And.intro (cell_keep hW hd2) (And.intro hdl (And.intro (show wr.cell? ⟨db, doff + t * 1, none⟩ = some (.pointer (some ⟨q, 0, none⟩)) by rw [Nat.mul_one]; exact cell_keep hW hq) (And.intro hk34 (And.intro hlt (And.intro (show wr.rangeAt kb (koff + t * 35) (valL x.num x.root sb1 sk1) by rw [Nat.mul_comm t 35]; exact rangeAt_keep hr1 hW) hxl))))))
      have HN := hid (And.intro hnx hsh)
      have HXA := hid (And.intro hX (And.intro hA hW))
      have HOW := hid hown
      clear hq hDq hr1 hV1 hxl hrt hnx hsh hDs hKs hdx hx hX hA hW hown
      go_wp2_with fail
      try simp only [Act.put, List.setIfInBounds_toArray, List.set_cons_succ, List.set_cons_zero]
      refine wp_region_flow9 14 0 (fun i v wq => match i with
        | 0 => v = u8
        | 1 => v = .pointer (some ⟨p, 0, none⟩)
        | 2 => v = .pointer (some ⟨p, 0, none⟩)
        | 3 => v = .pointer (some ⟨p, 2, none⟩)
        | 4 => v = .slice (some ⟨db, doff, none⟩) ds.length dcap
        | 5 => v = .int .i64 (t : Nat)
        | 6 => v = .pointer (some ⟨db, doff + t * 1, none⟩)
        | 7 => v = .pointer (some ⟨q, 0, none⟩)
        | 8 => v = .pointer (some ⟨w.heap.size, 34, none⟩)
        | 9 => v = .slice (some ⟨kb, koff, none⟩) ks.length kcap
        | 10 => v = .int .i64 (t : Nat)
        | 11 => v = .pointer (some ⟨kb, koff + t * 35, none⟩)
        | 12 => v = .agg (valL x.num x.root sb1 sk1).toArray
        | _ => v = .agg (nums .u8 Q)) (by kernel_rfl) (by kernel_rfl) (fun _ d _ _ _ h => by cases d <;> exact h) ?_ ?_ ?_ ?_
      · intro i v wq wq' hi hv hb
        match i, hi with
        | 0, _ => exact hv
        | 1, _ => exact hv
        | 2, _ => exact hv
        | 3, _ => exact hv
        | 4, _ => exact hv
        | 5, _ => exact hv
        | 6, _ => exact hv
        | 7, _ => exact hv
        | 8, _ => exact hv
        | 9, _ => exact hv
        | 10, _ => exact hv
        | 11, _ => exact hv
        | 12, _ => exact hv
        | 13, _ => exact hv
        | (k + 14), hk => exact absurd hk (by omega)
      · intro i o hi ho aq wq hc hk hdep
        match i, hi with
        | 0, _ =>
          cases ho
          exact flow_move (.tmp 8) rfl (hk 8 (by decide))
        | 1, _ =>
          cases ho
          exact flow_move (.tmp 0) rfl (hk 0 (by decide))
        | 2, _ =>
          cases ho
          have e0 : aq.tmps.getD 137 undef = .pointer (some ⟨p, 0, none⟩) := hdep 1 137 rfl (by kernel_rfl)
          exact flow_value _ (run_nilOk (.tmp 137) rfl _ e0) rfl
        | 3, _ =>
          cases ho
          have e0 : aq.tmps.getD 138 undef = .pointer (some ⟨p, 0, none⟩) := hdep 2 138 rfl (by kernel_rfl)
          exact flow_value _ (run_fieldAt 79 (.tmp 138) 2 rfl _ _ e0 (by kernel_rfl)) rfl
        | 4, _ =>
          cases ho
          have e0 : aq.tmps.getD 139 undef = .pointer (some ⟨p, 2, none⟩) := hdep 3 139 rfl (by kernel_rfl)
          exact flow_value _ (run_cell 77 (.tmp 139) rfl _ e0 _ (cell_keep (hcB hc) HF.out.1) _ Tryd.underlying77 rfl) rfl
        | 5, _ =>
          cases ho
          exact flow_move (.tmp 13) rfl (hk 13 (by decide))
        | 6, _ =>
          cases ho
          have e0 : aq.tmps.getD 140 undef = .slice (some ⟨db, doff, none⟩) ds.length dcap := hdep 4 140 rfl (by kernel_rfl)
          have e1 : aq.tmps.getD 141 undef = .int .i64 (t : Nat) := hdep 5 141 rfl (by kernel_rfl)
          exact flow_value _ (run_atG 77 35 1 (.tmp 140) (.tmp 141) rfl Tryd.underlying77 sizeD1 db doff ds.length dcap t e0 e1 HF.out.2.1) rfl
        | 7, _ =>
          cases ho
          have e0 : aq.tmps.getD 142 undef = .pointer (some ⟨db, doff + t * 1, none⟩) := hdep 6 142 rfl (by kernel_rfl)
          exact flow_value _ (run_cell 35 (.tmp 142) rfl _ e0 _ (cell_keep (hcB hc) HF.out.2.2.1) _ Tryd.underlying35 rfl) rfl
        | 8, _ =>
          cases ho
          have e1 : aq.tmps.getD 3 undef = .pointer (some ⟨w.heap.size, 0, none⟩) := hk 3 (by decide)
          exact flow_value _ (run_fieldAt 40 (.tmp 3) 3 rfl _ _ e1 (by kernel_rfl)) rfl
        | 9, _ =>
          cases ho
          have e0 : aq.tmps.getD 144 undef = .pointer (some ⟨w.heap.size, 34, none⟩) := hdep 8 144 rfl (by kernel_rfl)
          exact flow_value _ (run_cell 38 (.tmp 144) rfl _ e0 _ (cell_keep (hcB hc) HF.out.2.2.2.1) _ Tryd.underlying38 rfl) rfl
        | 10, _ =>
          cases ho
          exact flow_move (.tmp 12) rfl (hk 12 (by decide))
        | 11, _ =>
          cases ho
          have e0 : aq.tmps.getD 145 undef = .slice (some ⟨kb, koff, none⟩) ks.length kcap := hdep 9 145 rfl (by kernel_rfl)
          have e1 : aq.tmps.getD 146 undef = .int .i64 (t : Nat) := hdep 10 146 rfl (by kernel_rfl)
          exact flow_value _ (run_atG 38 40 35 (.tmp 145) (.tmp 146) rfl Tryd.underlying38 sizeV35 kb koff ks.length kcap t e0 e1 HF.out.2.2.2.2.1) rfl
        | 12, _ =>
          cases ho
          have e0 : aq.tmps.getD 147 undef = .pointer (some ⟨kb, koff + t * 35, none⟩) := hdep 11 147 rfl (by kernel_rfl)
          exact flow_value _ (run_mid 40 (.tmp 147) rfl kb (koff + t * 35) e0 (valL x.num x.root sb1 sk1) (rangeAt_keep HF.out.2.2.2.2.2.1 (hcB hc)) _ Tryd.underlying40 rfl (by rw [valL_length _ _ _ _ HF.out.2.2.2.2.2.2]; exact sizeV35)) rfl
        | 13, _ =>
          cases ho
          have e0 : aq.tmps.getD 143 undef = .pointer (some ⟨q, 0, none⟩) := hdep 7 143 rfl (by kernel_rfl)
          have e1 : aq.tmps.getD 148 undef = .agg (valL x.num x.root sb1 sk1).toArray := hdep 12 148 rfl (by kernel_rfl)
          refine flow_fun 9 _ _ rfl (fun _ _ => by simp [go_sem]) #[.pointer (some ⟨q, 0, none⟩), .agg (valL x.num x.root sb1 sk1).toArray] (by rw [show (#[Operand.tmp 143, Operand.tmp 148] : Array Operand).map aq.eval = #[aq.tmps.getD 143 undef, aq.tmps.getD 148 undef] from by simp [Act.eval], e0, e1]) ?_
          refine (HI.out wq (hcB hc)).mono ?_
          rintro e w' ⟨rfl, q⟩
          exact ⟨_, rfl, rfl, q⟩
        | (k + 14), hk => exact absurd hk (by omega)
      · intro o _ ho a' w' hc hk hdep
        cases ho
        have e8 : a'.tmps.getD 8 undef = u8 := hk 8 (by decide)
        exact ⟨u8, fun w => run_move (.tmp 8) rfl _ e8, rfl⟩
      intro vf w8 hc hv
      have e0 : vf 0 = _ := hv 0 136 (by decide) rfl
      have e13 : vf 13 = _ := hv 13 149 (by decide) rfl
      have B8 := hcB hc
      clear hv hc
      simp only [List.take_succ_cons, List.take_zero, List.drop_succ_cons, List.drop_zero, putAll, Act.put, List.setIfInBounds_toArray, List.set_cons_succ, List.set_cons_zero]
      rw [e0, e13]
      have own8 := own_keep HOW.out B8
      have hX8 := HXA.out.1.keep B8
      have hA8 := HXA.out.2.1.keep B8
      have L8 := HXA.out.2.2.trans (B8.mono HXA.out.2.2.size)
      have hwl8 := L8.size
      have hal8 := hA8.lt
      clear e0 e13 HI HF HXA HOW B8
      go_wp2_with ((with_reducible refine at_list' ?_); first
        | (refine wpList_one_root rfl 81 24 (.tmp 149) rfl Tryd.underlying81 Tryd.root26 Q rfl hqr.len ?_; intro w3 H3 B3 S3; have own3 := own_keep own8 B3; have L3 := below_more L8 B3 (Nat.le_refl _))
        | (refine wpList_append_roots rfl (.tmp 136) (.tmp 150) 81 rfl (w.heap.size + 2) 24 Tryd.underlying81 Tryd.root26 _ t (rs.take t) [Q] rfl own3 hqr.one ⟨w8.heap.size, 0, none⟩ 1 rfl (by intro j hj; rw [Addr.add_lit, Nat.zero_add, H3.cell j (by rw [hqr.len]; simpa using hj)]; simp) (by simp; omega) (by omega) ?_; intro v' w4 own4 grow4))
      have L4 := below_grownR L3 own3 (by omega) grow4
      have hX4 : HasC w4 w.heap.size 40 _ := (grow4.block _ (hX8.keep B3).lt (fun e => by have := (own3.lt _ e.symm).1; omega)).trans (hX8.keep B3)
      have hA4 : Has w4 (w.heap.size + 1) 24 .u8 (zeros 32) := (grow4.block _ (hA8.keep B3).lt (fun e => by have := (own3.lt _ e.symm).1; omega)).trans (hA8.keep B3)
      go_roundw
      case rel =>
        rw [HN.out.1] at own4
        exact ⟨t + 1, by omega, by go_num, own4, hX4, hA4, L4⟩
      case measure => simp [intOf]; omega
    · have ht2 : t = ks.length := by omega
      subst ht2
      rw [List.take_of_length_le (by rw [HR.out.2]; exact Nat.le_refl _)] at hown
      obtain ⟨hn1, ao1, cap1, rfl, hc1, hm1, hRA⟩ := RootsAt.own HR.out.1 hown
      have HC := hid (rtree_any ao1 cap1 rs (ds.length : Nat) wr hc1 hm1 hRA (by rw [HR.out.2, HL.out]; exact Int.le_refl _) (by omega))
      rw [HZ.out] at HC
      have HXA := hid (And.intro hX (And.intro hA hW))
      clear hX hA hW hown hRA hc1 hm1 hn1
      go_wp2_with fail
      refine HC.out.mono ?_
      rintro e w3 ⟨rfl, B3⟩
      have hd03 := cell_keep B3 hd0r
      have hA3 := HXA.out.2.1.keep B3
      have L3 := HXA.out.2.2.trans (B3.mono HXA.out.2.2.size)
      have hs3 := B3.size
      clear HC HXA B3 hk34
      go_wp2_with ((with_reducible refine at_list' ?_); first
        | (refine wpList_alloc_has rfl 14 rfl 24 rfl .u8 32 Tryd.zero24 ?_; intro w4 H4 B4 S4)
        | (refine wpList_store_has rfl 24 (.tmp 14) (.tmp 156) rfl w3.heap.size .u8 Z (zeros 32) rfl rfl 24 H4 (hfr.size _ Tryd.size24) (by rw [hfr.len, zeros_length]) ?_; intro w5 H5 O5; have hd05 := (World.cell?_of_block (a := ⟨p, 0, none⟩) (O5.block p (by have := block_lt_of_cell hd03; show ¬ p = w3.heap.size; simp at this; omega))).trans (cell_keep B4 hd03))
        | (refine wpList_load_has rfl 24 (.tmp 14) rfl w3.heap.size .u8 Z rfl 24 H5 _ _ Tryd.underlying24 (hfr.size _ Tryd.size24) ?_)
        | (refine wpList_store_has rfl 24 (.tmp 4) (.tmp 169) rfl (w.heap.size + 1) .u8 Z (zeros 32) rfl rfl 24 ((hA3.keep B4).only O5 (by have := hA3.lt; omega)) (hfr.size _ Tryd.size24) (by rw [hfr.len, zeros_length]) ?_; intro w6 H6 O6))
      refine bodyPost_ret (results_has rfl _ _ (w.heap.size + 1) 24 .u8 Z _ _ rfl H6 Tryd.underlying24 (hfr.size _ Tryd.size24)) rfl ?_
      exact ⟨rfl, below_only (below_only (below_more L3 B4 (Nat.le_refl _)) O5 (by omega)) O6 (by omega)⟩

set_option maxHeartbeats 1000000 in
theorem Rooted.many4 (n num f0 m0 : Nat) (ds0 : List Dt) (ks : List Vt) (r : List Nat) (bs : List Bool) (rs : List (List Nat)) (hn : n ≤ 1048576) (hf0 : f0 = 3 ∨ f0 = 8) (hrln : rs.length = ks.length) (hlk : ks.length ≤ 2000) (hrts : Rts rs) (hall : ∀ i x, ks[i]? = some x → Rooted (.mk f0 m0 ds0) x (rs.getD i [])) :
    Rooted (.mk 4 n [.mk f0 m0 ds0]) (.mk num r bs ks) (treeZ n rs) := by
  intro p v w hD hV
  obtain ⟨sb, sk, rfl, hV⟩ := hV
  rw [DAt] at hD
  obtain ⟨hd0, hd1, dao, dcap, hd2, hdc, hdm, hds⟩ := hD
  obtain ⟨db, doff, rfl, hDs⟩ := hds.resolve_left (by simp)
  rw [DsAt] at hDs
  obtain ⟨⟨q, hq, hDq⟩, _⟩ := hDs
  have hDq' := hDq
  rw [DAt] at hDq'
  have hq0 := hDq'.1
  clear hDq'
  rw [VAt] at hV
  obtain ⟨⟨hn0, hrl, hr8⟩, _, kao, kcap, rfl, hkc, hkm, hks⟩ := hV
  have hTr := treeZ_rt n rs hrts
  have HT := hid (fun ao cap wq (h1 : rs.length ≤ cap) (h2 : cap ≤ maxLen) (h3 : RootsAt wq ao rs) => (show Calls Tryd.prog 43 #[.slice ao rs.length cap, .int .i64 ((n : Nat) : Int)] wq fun e w' => e = .returned (.tuple #[.agg (nums .u8 (treeZ n rs)), .bool (decide (rs.length ≤ n))]) ∧ Below wq.heap.size wq w' by
    by_cases hle : rs.length ≤ n
    · rw [treeZ, if_pos hle, decide_eq_true hle]
      exact rtree_any ao cap rs (n : Nat) wq h1 h2 h3 (by omega) (by omega)
    · rw [treeZ, if_neg hle, decide_eq_false hle]
      exact rtree_bad ao cap rs (n : Nat) wq h1 h2 (by omega) (by omega) (.inr (by omega))))
  obtain ⟨T, HTT⟩ : ∃ T, Same (treeZ n rs) T := ⟨_, ⟨rfl⟩⟩
  obtain ⟨okb, HOK⟩ : ∃ b, Hid (decide (rs.length ≤ n) = b) := ⟨_, hid rfl⟩
  rw [HTT.out] at hTr ⊢
  rw [HTT.out, HOK.out] at HT
  have hzr := zero_rt
  have HR := hid (And.intro hrts hrln)
  have HS := hid hks
  have HO := hid (And.intro hall (And.intro hDq hrl))
  have hHR := hid hrl
  have hlk : ks.length ≤ 2000 := hlk
  clear hrts hrln hks hall hrl hr8 hdc hkc hDq
  rcases hf0 with rfl | rfl
  all_goals
    go_enter Tryd.func9, Tryd.ntmps9
    go_wp2_with ((with_reducible refine at_list' ?_); first
      | (refine wpList_box_c rfl 3 rfl (.tmp 1) rfl (valL num r sb (.slice kao ks.length kcap)) rfl ?_; intro w1 H1 B1 S1)
      | (refine wpList_alloc_has rfl 4 rfl 24 rfl .u8 32 Tryd.zero24 ?_; intro w2 H2 B2 S2; rw [S1] at H2 S2; rw [S1]; have hd02 := cell_keep B2 (cell_keep B1 hd0); have hd12 := cell_keep B2 (cell_keep B1 hd1); have hd22 := cell_keep B2 (cell_keep B1 hd2); have hq2 := cell_keep B2 (cell_keep B1 hq); have hq02 := cell_keep B2 (cell_keep B1 hq0); have HX := hid (H1.keep B2)))
    have L2 := below_more B1 B2 (Nat.le_refl _)
    clear H1 B1 B2 hd02 hd12 hd22 hq2 hq02
    go_loopw [8, 12, 13] (fun l i _ wr => ∃ t : Nat, t ≤ ks.length ∧ i = .int .i64 t ∧ wr.ownsRow (w.heap.size + 2) 24 32 l t (cellsOf (rs.take t)) ∧ HasC wr w.heap.size 40 (valL num r sb (.slice kao ks.length kcap)) ∧ Has wr (w.heap.size + 1) 24 .u8 (zeros 32) ∧ Below w.heap.size w wr) (fun _ i _ _ => ks.length - (intOf i).toNat)
    case atStart => exact ⟨0, Nat.zero_le _, rfl, World.ownsRow_nil _ _ _ _, HX.out, H2, L2⟩
    case round =>
      clear HX H2 L2 S1 S2
      obtain ⟨t, ht, rfl, hown, hX, hA, hW⟩ := hrel
      have hd0r := cell_keep hW hd0
      have hk34 := hX.cell (valL_34 num r sb (.slice kao ks.length kcap) hHR.out)
      have hwl := hW.size
      have hal := hA.lt
      by_cases hlt : t < ks.length
      · obtain ⟨kb, koff, rfl, hKs⟩ := HS.out.resolve_left (by omega)
        have hx := List.getElem?_eq_getElem hlt
        generalize ks[t] = x at hx
        obtain ⟨sb1, sk1, hr1, hV1⟩ := KsAt.get hKs hx
        have hxl : x.root.length = 32 := by
          have h2 := hV1
          cases x
          rw [VAt] at h2
          exact h2.1.2.1
        have hrt : t < rs.length := by have := HR.out.2; omega
        have hqr := HR.out.1.rt t hrt
        have hnx : rs.take t ++ [rs.getD t []] = rs.take (t + 1) := by rw [List.take_add_one, List.getElem?_eq_getElem hrt, List.getD_eq_getElem?_getD, List.getElem?_eq_getElem hrt]; rfl
        have hsh : Rts (rs.take t) := HR.out.1.take t
        have HI := hid (fun wq (hb : Below wr.heap.size wr wq) => HO.out.1 t x hx q (.agg (valL x.num x.root sb1 sk1).toArray) wq (DAt.keep (hW.trans (hb.mono hW.size)) _ HO.out.2.1) ⟨sb1, sk1, rfl, VAt.keep (hW.trans (hb.mono hW.size)) x hV1⟩)
        obtain ⟨Q, HQ⟩ : ∃ Q, Same (rs.getD t []) Q := ⟨_, ⟨rfl⟩⟩
        rw [HQ.out] at hqr hnx HI
        have hdl : (0 : Nat) < 1 := by decide
        have HF := hid (And.intro (cell_keep hW hd2) (And.intro hdl (And.intro (show wr.cell? ⟨db, doff + 0 * 1, none⟩ = some (.pointer (some ⟨q, 0, none⟩)) by rw [Nat.zero_mul]; exact cell_keep hW hq) (And.intro hk34 (And.intro hlt (And.intro (show wr.rangeAt kb (koff + t * 35) (valL x.num x.root sb1 sk1) by rw [Nat.mul_comm t 35]; exact rangeAt_keep hr1 hW) hxl))))))
        have HN := hid (And.intro hnx hsh)
        have HXA := hid (And.intro hX (And.intro hA hW))
        have HOW := hid hown
        clear hr1 hV1 hxl hrt hnx hsh hKs hx hX hA hW hown
        go_wp2_with fail
        try simp only [Act.put, List.setIfInBounds_toArray, List.set_cons_succ, List.set_cons_zero]
        refine wp_region_flow9 14 0 (fun i v wq => match i with
          | 0 => v = u8
          | 1 => v = .pointer (some ⟨p, 0, none⟩)
          | 2 => v = .pointer (some ⟨p, 0, none⟩)
          | 3 => v = .pointer (some ⟨p, 2, none⟩)
          | 4 => v = .slice (some ⟨db, doff, none⟩) 1 dcap
          | 5 => v = .int .i64 (0 : Nat)
          | 6 => v = .pointer (some ⟨db, doff + 0 * 1, none⟩)
          | 7 => v = .pointer (some ⟨q, 0, none⟩)
          | 8 => v = .pointer (some ⟨w.heap.size, 34, none⟩)
          | 9 => v = .slice (some ⟨kb, koff, none⟩) ks.length kcap
          | 10 => v = .int .i64 (t : Nat)
          | 11 => v = .pointer (some ⟨kb, koff + t * 35, none⟩)
          | 12 => v = .agg (valL x.num x.root sb1 sk1).toArray
          | _ => v = .agg (nums .u8 Q)) (by kernel_rfl) (by kernel_rfl) (fun _ d _ _ _ h => by cases d <;> exact h) ?_ ?_ ?_ ?_
        · intro i v wq wq' hi hv hb
          match i, hi with
          | 0, _ => exact hv
          | 1, _ => exact hv
          | 2, _ => exact hv
          | 3, _ => exact hv
          | 4, _ => exact hv
          | 5, _ => exact hv
          | 6, _ => exact hv
          | 7, _ => exact hv
          | 8, _ => exact hv
          | 9, _ => exact hv
          | 10, _ => exact hv
          | 11, _ => exact hv
          | 12, _ => exact hv
          | 13, _ => exact hv
          | (k + 14), hk => exact absurd hk (by omega)
        · intro i o hi ho aq wq hc hk hdep
          match i, hi with
          | 0, _ =>
            cases ho
            exact flow_move (.tmp 8) rfl (hk 8 (by decide))
          | 1, _ =>
            cases ho
            exact flow_move (.tmp 0) rfl (hk 0 (by decide))
          | 2, _ =>
            cases ho
            have e0 : aq.tmps.getD 137 undef = .pointer (some ⟨p, 0, none⟩) := hdep 1 137 rfl (by kernel_rfl)
            exact flow_value _ (run_nilOk (.tmp 137) rfl _ e0) rfl
          | 3, _ =>
            cases ho
            have e0 : aq.tmps.getD 138 undef = .pointer (some ⟨p, 0, none⟩) := hdep 2 138 rfl (by kernel_rfl)
            exact flow_value _ (run_fieldAt 79 (.tmp 138) 2 rfl _ _ e0 (by kernel_rfl)) rfl
          | 4, _ =>
            cases ho
            have e0 : aq.tmps.getD 139 undef = .pointer (some ⟨p, 2, none⟩) := hdep 3 139 rfl (by kernel_rfl)
            exact flow_value _ (run_cell 77 (.tmp 139) rfl _ e0 _ (cell_keep (hcB hc) HF.out.1) _ Tryd.underlying77 rfl) rfl
          | 5, _ =>
            cases ho
            exact flow_move (.tmp 13) rfl (hk 13 (by decide))
          | 6, _ =>
            cases ho
            have e0 : aq.tmps.getD 140 undef = .slice (some ⟨db, doff, none⟩) 1 dcap := hdep 4 140 rfl (by kernel_rfl)
            have e1 : aq.tmps.getD 141 undef = .int .i64 (0 : Nat) := hdep 5 141 rfl (by kernel_rfl)
            exact flow_value _ (run_atG 77 35 1 (.tmp 140) (.tmp 141) rfl Tryd.underlying77 sizeD1 db doff 1 dcap 0 e0 e1 HF.out.2.1) rfl
          | 7, _ =>
            cases ho
            have e0 : aq.tmps.getD 142 undef = .pointer (some ⟨db, doff + 0 * 1, none⟩) := hdep 6 142 rfl (by kernel_rfl)
            exact flow_value _ (run_cell 35 (.tmp 142) rfl _ e0 _ (cell_keep (hcB hc) HF.out.2.2.1) _ Tryd.underlying35 rfl) rfl
          | 8, _ =>
            cases ho
            have e1 : aq.tmps.getD 3 undef = .pointer (some ⟨w.heap.size, 0, none⟩) := hk 3 (by decide)
            exact flow_value _ (run_fieldAt 40 (.tmp 3) 3 rfl _ _ e1 (by kernel_rfl)) rfl
          | 9, _ =>
            cases ho
            have e0 : aq.tmps.getD 144 undef = .pointer (some ⟨w.heap.size, 34, none⟩) := hdep 8 144 rfl (by kernel_rfl)
            exact flow_value _ (run_cell 38 (.tmp 144) rfl _ e0 _ (cell_keep (hcB hc) HF.out.2.2.2.1) _ Tryd.underlying38 rfl) rfl
          | 10, _ =>
            cases ho
            exact flow_move (.tmp 12) rfl (hk 12 (by decide))
          | 11, _ =>
            cases ho
            have e0 : aq.tmps.getD 145 undef = .slice (some ⟨kb, koff, none⟩) ks.length kcap := hdep 9 145 rfl (by kernel_rfl)
            have e1 : aq.tmps.getD 146 undef = .int .i64 (t : Nat) := hdep 10 146 rfl (by kernel_rfl)
            exact flow_value _ (run_atG 38 40 35 (.tmp 145) (.tmp 146) rfl Tryd.underlying38 sizeV35 kb koff ks.length kcap t e0 e1 HF.out.2.2.2.2.1) rfl
          | 12, _ =>
            cases ho
            have e0 : aq.tmps.getD 147 undef = .pointer (some ⟨kb, koff + t * 35, none⟩) := hdep 11 147 rfl (by kernel_rfl)
            exact flow_value _ (run_mid 40 (.tmp 147) rfl kb (koff + t * 35) e0 (valL x.num x.root sb1 sk1) (rangeAt_keep HF.out.2.2.2.2.2.1 (hcB hc)) _ Tryd.underlying40 rfl (by rw [valL_length _ _ _ _ HF.out.2.2.2.2.2.2]; exact sizeV35)) rfl
          | 13, _ =>
            cases ho
            have e0 : aq.tmps.getD 143 undef = .pointer (some ⟨q, 0, none⟩) := hdep 7 143 rfl (by kernel_rfl)
            have e1 : aq.tmps.getD 148 undef = .agg (valL x.num x.root sb1 sk1).toArray := hdep 12 148 rfl (by kernel_rfl)
            refine flow_fun 9 _ _ rfl (fun _ _ => by simp [go_sem]) #[.pointer (some ⟨q, 0, none⟩), .agg (valL x.num x.root sb1 sk1).toArray] (by rw [show (#[Operand.tmp 143, Operand.tmp 148] : Array Operand).map aq.eval = #[aq.tmps.getD 143 undef, aq.tmps.getD 148 undef] from by simp [Act.eval], e0, e1]) ?_
            refine (HI.out wq (hcB hc)).mono ?_
            rintro e w' ⟨rfl, q⟩
            exact ⟨_, rfl, rfl, q⟩
          | (k + 14), hk => exact absurd hk (by omega)
        · intro o _ ho a' w' hc hk hdep
          cases ho
          have e8 : a'.tmps.getD 8 undef = u8 := hk 8 (by decide)
          exact ⟨u8, fun w => run_move (.tmp 8) rfl _ e8, rfl⟩
        intro vf w8 hc hv
        have e0 : vf 0 = _ := hv 0 136 (by decide) rfl
        have e13 : vf 13 = _ := hv 13 149 (by decide) rfl
        have B8 := hcB hc
        clear hv hc
        simp only [List.take_succ_cons, List.take_zero, List.drop_succ_cons, List.drop_zero, putAll, Act.put, List.setIfInBounds_toArray, List.set_cons_succ, List.set_cons_zero]
        rw [e0, e13]
        have own8 := own_keep HOW.out B8
        have hX8 := HXA.out.1.keep B8
        have hA8 := HXA.out.2.1.keep B8
        have L8 := HXA.out.2.2.trans (B8.mono HXA.out.2.2.size)
        have hwl8 := L8.size
        have hal8 := hA8.lt
        clear e0 e13 HI HF HXA HOW B8
        go_wp2_with ((with_reducible refine at_list' ?_); first
          | (refine wpList_one_root rfl 81 24 (.tmp 149) rfl Tryd.underlying81 Tryd.root26 Q rfl hqr.len ?_; intro w3 H3 B3 S3; have own3 := own_keep own8 B3; have L3 := below_more L8 B3 (Nat.le_refl _))
          | (refine wpList_append_roots rfl (.tmp 136) (.tmp 150) 81 rfl (w.heap.size + 2) 24 Tryd.underlying81 Tryd.root26 _ t (rs.take t) [Q] rfl own3 hqr.one ⟨w8.heap.size, 0, none⟩ 1 rfl (by intro j hj; rw [Addr.add_lit, Nat.zero_add, H3.cell j (by rw [hqr.len]; simpa using hj)]; simp) (by simp; omega) (by omega) ?_; intro v' w4 own4 grow4))
        have L4 := below_grownR L3 own3 (by omega) grow4
        have hX4 : HasC w4 w.heap.size 40 _ := (grow4.block _ (hX8.keep B3).lt (fun e => by have := (own3.lt _ e.symm).1; omega)).trans (hX8.keep B3)
        have hA4 : Has w4 (w.heap.size + 1) 24 .u8 (zeros 32) := (grow4.block _ (hA8.keep B3).lt (fun e => by have := (own3.lt _ e.symm).1; omega)).trans (hA8.keep B3)
        go_roundw
        case rel =>
          rw [HN.out.1] at own4
          exact ⟨t + 1, by omega, by go_num, own4, hX4, hA4, L4⟩
        case measure => simp [intOf]; omega
      · have ht2 : t = ks.length := by omega
        subst ht2
        rw [List.take_of_length_le (by rw [HR.out.2]; exact Nat.le_refl _)] at hown
        obtain ⟨hn1, ao1, cap1, rfl, hc1, hm1, hRA⟩ := RootsAt.own HR.out.1 hown
        have HC := hid (HT.out ao1 cap1 wr hc1 hm1 hRA)
        have HXA := hid (And.intro hX (And.intro hA hW))
        clear hX hA hW hown hRA hc1 hm1 hn1
        go_wp2_with fail
        refine HC.out.mono ?_
        rintro e w4 ⟨rfl, B4⟩
        have hd04 := cell_keep B4 hd0r
        have HX4 := hid (And.intro (HXA.out.1.keep B4) (And.intro (HXA.out.2.1.keep B4) (HXA.out.2.2.trans (B4.mono HXA.out.2.2.size))))
        have s4 := HX4.out.2.2.size
        have hp4 : p ≠ w4.heap.size := fun e => by have h := block_lt_of_cell hd04; rw [e] at h; exact Nat.lt_irrefl _ h
        have hx4 : w.heap.size ≠ w4.heap.size := by have := HX4.out.1.lt; omega
        have ha4 : w.heap.size + 1 ≠ w4.heap.size := by have := HX4.out.2.1.lt; omega
        have HPP := hid (And.intro hp4 (And.intro hx4 ha4))
        clear hp4 hx4 ha4 HC HXA B4 hk34 hd0r
        go_wp2_with ((with_reducible refine at_list' ?_); first
          | (refine wpList_alloc_has rfl 14 rfl 24 rfl .u8 32 Tryd.zero24 ?_; intro w5 H5 B5 S5)
          | (refine wpList_store_has rfl 24 (.tmp 14) (.tmp 156) rfl w4.heap.size .u8 T (zeros 32) rfl rfl 24 H5 (hTr.size _ Tryd.size24) (by rw [hTr.len, zeros_length]) ?_; intro w6 H6 O6; have hd06 := (World.cell?_of_block (a := ⟨p, 0, none⟩) (O6.block p HPP.out.1)).trans (cell_keep B5 hd04); have hA6 := (HX4.out.2.1.keep B5).only O6 HPP.out.2.2)
          | (refine wpList_load_has rfl 24 (.tmp 14) rfl w4.heap.size .u8 T rfl 24 H6 _ _ Tryd.underlying24 (hTr.size _ Tryd.size24) ?_)
          | (refine wpList_store_has rfl 24 (.tmp 4) (.tmp 169) rfl (w.heap.size + 1) .u8 T (zeros 32) rfl rfl 24 hA6 (hTr.size _ Tryd.size24) (by rw [hTr.len, zeros_length]) ?_; intro w8 H8 O8))
        refine bodyPost_ret (results_has rfl _ _ (w.heap.size + 1) 24 .u8 T _ _ rfl H8 Tryd.underlying24 (hTr.size _ Tryd.size24)) rfl ?_
        exact ⟨rfl, below_only (below_only (below_more HX4.out.2.2 B5 (Nat.le_refl _)) O6 (by omega)) O8 (by omega)⟩
set_option maxHeartbeats 1000000 in
theorem Rooted.many5 (n num f0 m0 : Nat) (ds0 : List Dt) (ks : List Vt) (r : List Nat) (bs : List Bool) (rs : List (List Nat)) (hn : n ≤ 1048576) (hf0 : f0 = 3 ∨ f0 = 8) (hrln : rs.length = ks.length) (hlk : ks.length ≤ 2000) (hrts : Rts rs) (hall : ∀ i x, ks[i]? = some x → Rooted (.mk f0 m0 ds0) x (rs.getD i [])) :
    Rooted (.mk 5 n [.mk f0 m0 ds0]) (.mk num r bs ks) (pr (treeZ n rs) (wUp ks.length 8)) := by
  intro p v w hD hV
  obtain ⟨sb, sk, rfl, hV⟩ := hV
  rw [DAt] at hD
  obtain ⟨hd0, hd1, dao, dcap, hd2, hdc, hdm, hds⟩ := hD
  obtain ⟨db, doff, rfl, hDs⟩ := hds.resolve_left (by simp)
  rw [DsAt] at hDs
  obtain ⟨⟨q, hq, hDq⟩, _⟩ := hDs
  have hDq' := hDq
  rw [DAt] at hDq'
  have hq0 := hDq'.1
  clear hDq'
  rw [VAt] at hV
  obtain ⟨⟨hn0, hrl, hr8⟩, _, kao, kcap, rfl, hkc, hkm, hks⟩ := hV
  have hTr := treeZ_rt n rs hrts
  have HT := hid (fun ao cap wq (h1 : rs.length ≤ cap) (h2 : cap ≤ maxLen) (h3 : RootsAt wq ao rs) => (show Calls Tryd.prog 43 #[.slice ao rs.length cap, .int .i64 ((n : Nat) : Int)] wq fun e w' => e = .returned (.tuple #[.agg (nums .u8 (treeZ n rs)), .bool (decide (rs.length ≤ n))]) ∧ Below wq.heap.size wq w' by
    by_cases hle : rs.length ≤ n
    · rw [treeZ, if_pos hle, decide_eq_true hle]
      exact rtree_any ao cap rs (n : Nat) wq h1 h2 h3 (by omega) (by omega)
    · rw [treeZ, if_neg hle, decide_eq_false hle]
      exact rtree_bad ao cap rs (n : Nat) wq h1 h2 (by omega) (by omega) (.inr (by omega))))
  obtain ⟨T, HTT⟩ : ∃ T, Same (treeZ n rs) T := ⟨_, ⟨rfl⟩⟩
  obtain ⟨okb, HOK⟩ : ∃ b, Hid (decide (rs.length ≤ n) = b) := ⟨_, hid rfl⟩
  rw [HTT.out] at hTr ⊢
  rw [HTT.out, HOK.out] at HT
  have hpr := pr_rt T (wUp ks.length 8)
  have HMX := hid (fun w => rmix_any T ks.length hTr (by omega) w)
  obtain ⟨Z, HZ⟩ : ∃ Z, Same (pr T (wUp ks.length 8)) Z := ⟨_, ⟨rfl⟩⟩
  rw [HZ.out] at hpr HMX ⊢
  have hzr := zero_rt
  have HR := hid (And.intro hrts hrln)
  have HS := hid hks
  have HO := hid (And.intro hall (And.intro hDq hrl))
  have hHR := hid hrl
  have hlk : ks.length ≤ 2000 := hlk
  clear hrts hrln hks hall hrl hr8 hdc hkc hDq
  rcases hf0 with rfl | rfl
  all_goals
    go_enter Tryd.func9, Tryd.ntmps9
    go_wp2_with ((with_reducible refine at_list' ?_); first
      | (refine wpList_box_c rfl 3 rfl (.tmp 1) rfl (valL num r sb (.slice kao ks.length kcap)) rfl ?_; intro w1 H1 B1 S1)
      | (refine wpList_alloc_has rfl 4 rfl 24 rfl .u8 32 Tryd.zero24 ?_; intro w2 H2 B2 S2; rw [S1] at H2 S2; rw [S1]; have hd02 := cell_keep B2 (cell_keep B1 hd0); have hd12 := cell_keep B2 (cell_keep B1 hd1); have hd22 := cell_keep B2 (cell_keep B1 hd2); have hq2 := cell_keep B2 (cell_keep B1 hq); have hq02 := cell_keep B2 (cell_keep B1 hq0); have HX := hid (H1.keep B2)))
    have L2 := below_more B1 B2 (Nat.le_refl _)
    clear H1 B1 B2 hd02 hd12 hd22 hq2 hq02
    go_loopw [8, 12, 13] (fun l i _ wr => ∃ t : Nat, t ≤ ks.length ∧ i = .int .i64 t ∧ wr.ownsRow (w.heap.size + 2) 24 32 l t (cellsOf (rs.take t)) ∧ HasC wr w.heap.size 40 (valL num r sb (.slice kao ks.length kcap)) ∧ Has wr (w.heap.size + 1) 24 .u8 (zeros 32) ∧ Below w.heap.size w wr) (fun _ i _ _ => ks.length - (intOf i).toNat)
    case atStart => exact ⟨0, Nat.zero_le _, rfl, World.ownsRow_nil _ _ _ _, HX.out, H2, L2⟩
    case round =>
      clear HX H2 L2 S1 S2
      obtain ⟨t, ht, rfl, hown, hX, hA, hW⟩ := hrel
      have hd0r := cell_keep hW hd0
      have hk34 := hX.cell (valL_34 num r sb (.slice kao ks.length kcap) hHR.out)
      have hwl := hW.size
      have hal := hA.lt
      by_cases hlt : t < ks.length
      · obtain ⟨kb, koff, rfl, hKs⟩ := HS.out.resolve_left (by omega)
        have hx := List.getElem?_eq_getElem hlt
        generalize ks[t] = x at hx
        obtain ⟨sb1, sk1, hr1, hV1⟩ := KsAt.get hKs hx
        have hxl : x.root.length = 32 := by
          have h2 := hV1
          cases x
          rw [VAt] at h2
          exact h2.1.2.1
        have hrt : t < rs.length := by have := HR.out.2; omega
        have hqr := HR.out.1.rt t hrt
        have hnx : rs.take t ++ [rs.getD t []] = rs.take (t + 1) := by rw [List.take_add_one, List.getElem?_eq_getElem hrt, List.getD_eq_getElem?_getD, List.getElem?_eq_getElem hrt]; rfl
        have hsh : Rts (rs.take t) := HR.out.1.take t
        have HI := hid (fun wq (hb : Below wr.heap.size wr wq) => HO.out.1 t x hx q (.agg (valL x.num x.root sb1 sk1).toArray) wq (DAt.keep (hW.trans (hb.mono hW.size)) _ HO.out.2.1) ⟨sb1, sk1, rfl, VAt.keep (hW.trans (hb.mono hW.size)) x hV1⟩)
        obtain ⟨Q, HQ⟩ : ∃ Q, Same (rs.getD t []) Q := ⟨_, ⟨rfl⟩⟩
        rw [HQ.out] at hqr hnx HI
        have hdl : (0 : Nat) < 1 := by decide
        have HF := hid (And.intro (cell_keep hW hd2) (And.intro hdl (And.intro (show wr.cell? ⟨db, doff + 0 * 1, none⟩ = some (.pointer (some ⟨q, 0, none⟩)) by rw [Nat.zero_mul]; exact cell_keep hW hq) (And.intro hk34 (And.intro hlt (And.intro (show wr.rangeAt kb (koff + t * 35) (valL x.num x.root sb1 sk1) by rw [Nat.mul_comm t 35]; exact rangeAt_keep hr1 hW) hxl))))))
        have HN := hid (And.intro hnx hsh)
        have HXA := hid (And.intro hX (And.intro hA hW))
        have HOW := hid hown
        clear hr1 hV1 hxl hrt hnx hsh hKs hx hX hA hW hown
        go_wp2_with fail
        try simp only [Act.put, List.setIfInBounds_toArray, List.set_cons_succ, List.set_cons_zero]
        refine wp_region_flow9 14 0 (fun i v wq => match i with
          | 0 => v = u8
          | 1 => v = .pointer (some ⟨p, 0, none⟩)
          | 2 => v = .pointer (some ⟨p, 0, none⟩)
          | 3 => v = .pointer (some ⟨p, 2, none⟩)
          | 4 => v = .slice (some ⟨db, doff, none⟩) 1 dcap
          | 5 => v = .int .i64 (0 : Nat)
          | 6 => v = .pointer (some ⟨db, doff + 0 * 1, none⟩)
          | 7 => v = .pointer (some ⟨q, 0, none⟩)
          | 8 => v = .pointer (some ⟨w.heap.size, 34, none⟩)
          | 9 => v = .slice (some ⟨kb, koff, none⟩) ks.length kcap
          | 10 => v = .int .i64 (t : Nat)
          | 11 => v = .pointer (some ⟨kb, koff + t * 35, none⟩)
          | 12 => v = .agg (valL x.num x.root sb1 sk1).toArray
          | _ => v = .agg (nums .u8 Q)) (by kernel_rfl) (by kernel_rfl) (fun _ d _ _ _ h => by cases d <;> exact h) ?_ ?_ ?_ ?_
        · intro i v wq wq' hi hv hb
          match i, hi with
          | 0, _ => exact hv
          | 1, _ => exact hv
          | 2, _ => exact hv
          | 3, _ => exact hv
          | 4, _ => exact hv
          | 5, _ => exact hv
          | 6, _ => exact hv
          | 7, _ => exact hv
          | 8, _ => exact hv
          | 9, _ => exact hv
          | 10, _ => exact hv
          | 11, _ => exact hv
          | 12, _ => exact hv
          | 13, _ => exact hv
          | (k + 14), hk => exact absurd hk (by omega)
        · intro i o hi ho aq wq hc hk hdep
          match i, hi with
          | 0, _ =>
            cases ho
            exact flow_move (.tmp 8) rfl (hk 8 (by decide))
          | 1, _ =>
            cases ho
            exact flow_move (.tmp 0) rfl (hk 0 (by decide))
          | 2, _ =>
            cases ho
            have e0 : aq.tmps.getD 137 undef = .pointer (some ⟨p, 0, none⟩) := hdep 1 137 rfl (by kernel_rfl)
            exact flow_value _ (run_nilOk (.tmp 137) rfl _ e0) rfl
          | 3, _ =>
            cases ho
            have e0 : aq.tmps.getD 138 undef = .pointer (some ⟨p, 0, none⟩) := hdep 2 138 rfl (by kernel_rfl)
            exact flow_value _ (run_fieldAt 79 (.tmp 138) 2 rfl _ _ e0 (by kernel_rfl)) rfl
          | 4, _ =>
            cases ho
            have e0 : aq.tmps.getD 139 undef = .pointer (some ⟨p, 2, none⟩) := hdep 3 139 rfl (by kernel_rfl)
            exact flow_value _ (run_cell 77 (.tmp 139) rfl _ e0 _ (cell_keep (hcB hc) HF.out.1) _ Tryd.underlying77 rfl) rfl
          | 5, _ =>
            cases ho
            exact flow_move (.tmp 13) rfl (hk 13 (by decide))
          | 6, _ =>
            cases ho
            have e0 : aq.tmps.getD 140 undef = .slice (some ⟨db, doff, none⟩) 1 dcap := hdep 4 140 rfl (by kernel_rfl)
            have e1 : aq.tmps.getD 141 undef = .int .i64 (0 : Nat) := hdep 5 141 rfl (by kernel_rfl)
            exact flow_value _ (run_atG 77 35 1 (.tmp 140) (.tmp 141) rfl Tryd.underlying77 sizeD1 db doff 1 dcap 0 e0 e1 HF.out.2.1) rfl
          | 7, _ =>
            cases ho
            have e0 : aq.tmps.getD 142 undef = .pointer (some ⟨db, doff + 0 * 1, none⟩) := hdep 6 142 rfl (by kernel_rfl)
            exact flow_value _ (run_cell 35 (.tmp 142) rfl _ e0 _ (cell_keep (hcB hc) HF.out.2.2.1) _ Tryd.underlying35 rfl) rfl
          | 8, _ =>
            cases ho
            have e1 : aq.tmps.getD 3 undef = .pointer (some ⟨w.heap.size, 0, none⟩) := hk 3 (by decide)
            exact flow_value _ (run_fieldAt 40 (.tmp 3) 3 rfl _ _ e1 (by kernel_rfl)) rfl
          | 9, _ =>
            cases ho
            have e0 : aq.tmps.getD 144 undef = .pointer (some ⟨w.heap.size, 34, none⟩) := hdep 8 144 rfl (by kernel_rfl)
            exact flow_value _ (run_cell 38 (.tmp 144) rfl _ e0 _ (cell_keep (hcB hc) HF.out.2.2.2.1) _ Tryd.underlying38 rfl) rfl
          | 10, _ =>
            cases ho
            exact flow_move (.tmp 12) rfl (hk 12 (by decide))
          | 11, _ =>
            cases ho
            have e0 : aq.tmps.getD 145 undef = .slice (some ⟨kb, koff, none⟩) ks.length kcap := hdep 9 145 rfl (by kernel_rfl)
            have e1 : aq.tmps.getD 146 undef = .int .i64 (t : Nat) := hdep 10 146 rfl (by kernel_rfl)
            exact flow_value _ (run_atG 38 40 35 (.tmp 145) (.tmp 146) rfl Tryd.underlying38 sizeV35 kb koff ks.length kcap t e0 e1 HF.out.2.2.2.2.1) rfl
          | 12, _ =>
            cases ho
            have e0 : aq.tmps.getD 147 undef = .pointer (some ⟨kb, koff + t * 35, none⟩) := hdep 11 147 rfl (by kernel_rfl)
            exact flow_value _ (run_mid 40 (.tmp 147) rfl kb (koff + t * 35) e0 (valL x.num x.root sb1 sk1) (rangeAt_keep HF.out.2.2.2.2.2.1 (hcB hc)) _ Tryd.underlying40 rfl (by rw [valL_length _ _ _ _ HF.out.2.2.2.2.2.2]; exact sizeV35)) rfl
          | 13, _ =>
            cases ho
            have e0 : aq.tmps.getD 143 undef = .pointer (some ⟨q, 0, none⟩) := hdep 7 143 rfl (by kernel_rfl)
            have e1 : aq.tmps.getD 148 undef = .agg (valL x.num x.root sb1 sk1).toArray := hdep 12 148 rfl (by kernel_rfl)
            refine flow_fun 9 _ _ rfl (fun _ _ => by simp [go_sem]) #[.pointer (some ⟨q, 0, none⟩), .agg (valL x.num x.root sb1 sk1).toArray] (by rw [show (#[Operand.tmp 143, Operand.tmp 148] : Array Operand).map aq.eval = #[aq.tmps.getD 143 undef, aq.tmps.getD 148 undef] from by simp [Act.eval], e0, e1]) ?_
            refine (HI.out wq (hcB hc)).mono ?_
            rintro e w' ⟨rfl, q⟩
            exact ⟨_, rfl, rfl, q⟩
          | (k + 14), hk => exact absurd hk (by omega)
        · intro o _ ho a' w' hc hk hdep
          cases ho
          have e8 : a'.tmps.getD 8 undef = u8 := hk 8 (by decide)
          exact ⟨u8, fun w => run_move (.tmp 8) rfl _ e8, rfl⟩
        intro vf w8 hc hv
        have e0 : vf 0 = _ := hv 0 136 (by decide) rfl
        have e13 : vf 13 = _ := hv 13 149 (by decide) rfl
        have B8 := hcB hc
        clear hv hc
        simp only [List.take_succ_cons, List.take_zero, List.drop_succ_cons, List.drop_zero, putAll, Act.put, List.setIfInBounds_toArray, List.set_cons_succ, List.set_cons_zero]
        rw [e0, e13]
        have own8 := own_keep HOW.out B8
        have hX8 := HXA.out.1.keep B8
        have hA8 := HXA.out.2.1.keep B8
        have L8 := HXA.out.2.2.trans (B8.mono HXA.out.2.2.size)
        have hwl8 := L8.size
        have hal8 := hA8.lt
        clear e0 e13 HI HF HXA HOW B8
        go_wp2_with ((with_reducible refine at_list' ?_); first
          | (refine wpList_one_root rfl 81 24 (.tmp 149) rfl Tryd.underlying81 Tryd.root26 Q rfl hqr.len ?_; intro w3 H3 B3 S3; have own3 := own_keep own8 B3; have L3 := below_more L8 B3 (Nat.le_refl _))
          | (refine wpList_append_roots rfl (.tmp 136) (.tmp 150) 81 rfl (w.heap.size + 2) 24 Tryd.underlying81 Tryd.root26 _ t (rs.take t) [Q] rfl own3 hqr.one ⟨w8.heap.size, 0, none⟩ 1 rfl (by intro j hj; rw [Addr.add_lit, Nat.zero_add, H3.cell j (by rw [hqr.len]; simpa using hj)]; simp) (by simp; omega) (by omega) ?_; intro v' w4 own4 grow4))
        have L4 := below_grownR L3 own3 (by omega) grow4
        have hX4 : HasC w4 w.heap.size 40 _ := (grow4.block _ (hX8.keep B3).lt (fun e => by have := (own3.lt _ e.symm).1; omega)).trans (hX8.keep B3)
        have hA4 : Has w4 (w.heap.size + 1) 24 .u8 (zeros 32) := (grow4.block _ (hA8.keep B3).lt (fun e => by have := (own3.lt _ e.symm).1; omega)).trans (hA8.keep B3)
        go_roundw
        case rel =>
          rw [HN.out.1] at own4
          exact ⟨t + 1, by omega, by go_num, own4, hX4, hA4, L4⟩
        case measure => simp [intOf]; omega
      · have ht2 : t = ks.length := by omega
        subst ht2
        rw [List.take_of_length_le (by rw [HR.out.2]; exact Nat.le_refl _)] at hown
        obtain ⟨hn1, ao1, cap1, rfl, hc1, hm1, hRA⟩ := RootsAt.own HR.out.1 hown
        have HC := hid (HT.out ao1 cap1 wr hc1 hm1 hRA)
        have HXA := hid (And.intro hX (And.intro hA hW))
        clear hX hA hW hown hRA hc1 hm1 hn1
        go_wp2_with fail
        refine HC.out.mono ?_
        rintro e w4 ⟨rfl, B4⟩
        have hd04 := cell_keep B4 hd0r
        have HX4 := hid (And.intro (HXA.out.1.keep B4) (And.intro (HXA.out.2.1.keep B4) (HXA.out.2.2.trans (B4.mono HXA.out.2.2.size))))
        have s4 := HX4.out.2.2.size
        have hp4 : p ≠ w4.heap.size := fun e => by have h := block_lt_of_cell hd04; rw [e] at h; exact Nat.lt_irrefl _ h
        have hx4 : w.heap.size ≠ w4.heap.size := by have := HX4.out.1.lt; omega
        have ha4 : w.heap.size + 1 ≠ w4.heap.size := by have := HX4.out.2.1.lt; omega
        have HPP := hid (And.intro hp4 (And.intro hx4 ha4))
        clear hp4 hx4 ha4 HC HXA B4 hk34 hd0r
        go_wp2_with ((with_reducible refine at_list' ?_); first
          | (refine wpList_alloc_has rfl 14 rfl 24 rfl .u8 32 Tryd.zero24 ?_; intro w5 H5 B5 S5)
          | (refine wpList_store_has rfl 24 (.tmp 14) (.tmp 156) rfl w4.heap.size .u8 T (zeros 32) rfl rfl 24 H5 (hTr.size _ Tryd.size24) (by rw [hTr.len, zeros_length]) ?_; intro w6 H6 O6; have hd06 := (World.cell?_of_block (a := ⟨p, 0, none⟩) (O6.block p HPP.out.1)).trans (cell_keep B5 hd04); have hX6 := (HX4.out.1.keep B5).only O6 HPP.out.2.1; have hk36 := hX6.cell (valL_34 num r sb (.slice kao ks.length kcap) hHR.out))
          | (refine wpList_load_has rfl 24 (.tmp 14) rfl w4.heap.size .u8 T rfl 24 H6 _ _ Tryd.underlying24 (hTr.size _ Tryd.size24) ?_))
        refine (HMX.out w6).mono ?_
        rintro e w7 ⟨rfl, B7⟩
        have hA7 := ((HX4.out.2.1.keep B5).only O6 HPP.out.2.2).keep B7
        have L6 := below_only (below_more HX4.out.2.2 B5 (Nat.le_refl _)) O6 (by omega)
        have L7 := hid (L6.trans (B7.mono L6.size))
        clear HX4 H5 B5 S5 H6 O6 hd06 hX6 hk36 L6 B7 hd04
        go_wp2_with ((with_reducible refine at_list' ?_); first
          | (refine wpList_store_has rfl 24 (.tmp 4) (.tmp 168) rfl (w.heap.size + 1) .u8 Z (zeros 32) rfl rfl 24 hA7 (hpr.size _ Tryd.size24) (by rw [hpr.len, zeros_length]) ?_; intro w8 H8 O8))
        refine bodyPost_ret (results_has rfl _ _ (w.heap.size + 1) 24 .u8 Z _ _ rfl H8 Tryd.underlying24 (hpr.size _ Tryd.size24)) rfl ?_
        exact ⟨rfl, below_only L7.out O8 (by omega)⟩
end Go.Proofs.YtfmecdmkepnlmaaDoor

/- The document's kinds of structs. -/
namespace Go.Proofs.YtfmecdmkepnlmaaDoor
open Go.RowKit Go.Shelf
set_option linter.unusedVariables false
set_option linter.unusedSimpArgs false
set_option maxRecDepth 100000

def dTruth : Dt := .mk 2 0 []
def dBits : Dt := .mk 7 32 []
theorem dAt_leaf2 {w : World} {p f n : Nat} (h : w.heap[p]? = some (.cells #[.int .i64 (f : Nat), .int .i64 (n : Nat), .slice none 0 0] 79 (0, 0))) : DAt w (.mk f n []) p := by
  rw [DAt]
  exact ⟨cell_of_row w p 0 _ _ (0, 0) h, cell_of_row w p 1 _ _ (0, 0) h, none, 0, cell_of_row w p 2 _ _ (0, 0) h, by simp, by simp, .inl rfl⟩
def cpD : Dt := dBox [dNum, dRoot]
set_option maxHeartbeats 1000000 in
theorem cpD_any (w : World) : Calls Tryd.prog 63 #[] w fun x w' => ∃ p, x = .returned (.pointer (some ⟨p, 0, none⟩)) ∧ DAt w' cpD p ∧ Below w.heap.size w w' := by
  go_enter Tryd.func63, Tryd.ntmps63
  go_wp2_with fail
  refine (num_any' w).mono ?_
  rintro e w1 ⟨rfl, q1, q2⟩
  have K0_0 := hid q1
  have L0 := hid (q2)
  clear q1 q2
  go_wp2_with fail
  refine (root_any' w1).mono ?_
  rintro e w2 ⟨rfl, q1, q2⟩
  have K1_0 := hid (DAt.keep q2 _ K0_0.out)
  have K1_1 := hid q1
  have L1 := hid (L0.out.trans (q2.mono L0.out.size))
  clear q1 q2 K0_0
  clear L0
  go_wp2_with fail
  have hB : Below w2.heap.size w2 (w2.alloc (.cells #[.pointer (some ⟨w.heap.size, 0, none⟩), .pointer (some ⟨w1.heap.size, 0, none⟩)] 35)) := (Below.refl _ w2).alloc (Nat.le_refl _) _
  have h := heap_alloc_new w2 (.cells #[.pointer (some ⟨w.heap.size, 0, none⟩), .pointer (some ⟨w1.heap.size, 0, none⟩)] 35)
  generalize w2.alloc (.cells #[.pointer (some ⟨w.heap.size, 0, none⟩), .pointer (some ⟨w1.heap.size, 0, none⟩)] 35) = wz at hB h ⊢
  have hD : DsAt wz [dNum, dRoot] w2.heap.size 0 := by
    rw [DsAt, DsAt, DsAt]
    exact ⟨⟨_, cell_of_row _ _ 0 _ _ (0, 0) h, DAt.keep hB _ K1_0.out⟩, ⟨_, cell_of_row _ _ 1 _ _ (0, 0) h, DAt.keep hB _ K1_1.out⟩, trivial⟩
  have HC := hid (box_any w2.heap.size 2 [dNum, dRoot] wz rfl (by decide) hD)
  have HZ := hid (L1.out.trans (hB.mono L1.out.size))
  clear hB h hD
  refine HC.out.mono ?_
  rintro e wy ⟨rfl, q1, q2⟩
  have X := hid (And.intro q1 q2)
  clear q1 q2 HC
  go_wp2
  go_ret
  exact ⟨_, rfl, X.out.1, HZ.out.trans (X.out.2.mono HZ.out.size)⟩
def exD : Dt := dBox [dNum, dNum]
set_option maxHeartbeats 1000000 in
theorem exD_any (w : World) : Calls Tryd.prog 30 #[] w fun x w' => ∃ p, x = .returned (.pointer (some ⟨p, 0, none⟩)) ∧ DAt w' exD p ∧ Below w.heap.size w w' := by
  go_enter Tryd.func30, Tryd.ntmps30
  go_wp2_with fail
  refine (num_any' w).mono ?_
  rintro e w1 ⟨rfl, q1, q2⟩
  have K0_0 := hid q1
  have L0 := hid (q2)
  clear q1 q2
  go_wp2_with fail
  refine (num_any' w1).mono ?_
  rintro e w2 ⟨rfl, q1, q2⟩
  have K1_0 := hid (DAt.keep q2 _ K0_0.out)
  have K1_1 := hid q1
  have L1 := hid (L0.out.trans (q2.mono L0.out.size))
  clear q1 q2 K0_0
  clear L0
  go_wp2_with fail
  have hB : Below w2.heap.size w2 (w2.alloc (.cells #[.pointer (some ⟨w.heap.size, 0, none⟩), .pointer (some ⟨w1.heap.size, 0, none⟩)] 35)) := (Below.refl _ w2).alloc (Nat.le_refl _) _
  have h := heap_alloc_new w2 (.cells #[.pointer (some ⟨w.heap.size, 0, none⟩), .pointer (some ⟨w1.heap.size, 0, none⟩)] 35)
  generalize w2.alloc (.cells #[.pointer (some ⟨w.heap.size, 0, none⟩), .pointer (some ⟨w1.heap.size, 0, none⟩)] 35) = wz at hB h ⊢
  have hD : DsAt wz [dNum, dNum] w2.heap.size 0 := by
    rw [DsAt, DsAt, DsAt]
    exact ⟨⟨_, cell_of_row _ _ 0 _ _ (0, 0) h, DAt.keep hB _ K1_0.out⟩, ⟨_, cell_of_row _ _ 1 _ _ (0, 0) h, DAt.keep hB _ K1_1.out⟩, trivial⟩
  have HC := hid (box_any w2.heap.size 2 [dNum, dNum] wz rfl (by decide) hD)
  have HZ := hid (L1.out.trans (hB.mono L1.out.size))
  clear hB h hD
  refine HC.out.mono ?_
  rintro e wy ⟨rfl, q1, q2⟩
  have X := hid (And.intro q1 q2)
  clear q1 q2 HC
  go_wp2
  go_ret
  exact ⟨_, rfl, X.out.1, HZ.out.trans (X.out.2.mono HZ.out.size)⟩
def vtD : Dt := dBox [dNum, dNum, dRoot, cpD, cpD]
set_option maxHeartbeats 1000000 in
theorem vtD_any (w : World) : Calls Tryd.prog 49 #[] w fun x w' => ∃ p, x = .returned (.pointer (some ⟨p, 0, none⟩)) ∧ DAt w' vtD p ∧ Below w.heap.size w w' := by
  go_enter Tryd.func49, Tryd.ntmps49
  go_wp2_with fail
  refine (num_any' w).mono ?_
  rintro e w1 ⟨rfl, q1, q2⟩
  have K0_0 := hid q1
  have L0 := hid (q2)
  clear q1 q2
  go_wp2_with fail
  refine (num_any' w1).mono ?_
  rintro e w2 ⟨rfl, q1, q2⟩
  have K1_0 := hid (DAt.keep q2 _ K0_0.out)
  have K1_1 := hid q1
  have L1 := hid (L0.out.trans (q2.mono L0.out.size))
  clear q1 q2 K0_0
  clear L0
  go_wp2_with fail
  refine (root_any' w2).mono ?_
  rintro e w3 ⟨rfl, q1, q2⟩
  have K2_0 := hid (DAt.keep q2 _ K1_0.out)
  have K2_1 := hid (DAt.keep q2 _ K1_1.out)
  have K2_2 := hid q1
  have L2 := hid (L1.out.trans (q2.mono L1.out.size))
  clear q1 q2 K1_0 K1_1
  clear L1
  go_wp2_with fail
  refine (cpD_any w3).mono ?_
  rintro e w4 ⟨p3, rfl, q1, q2⟩
  have K3_0 := hid (DAt.keep q2 _ K2_0.out)
  have K3_1 := hid (DAt.keep q2 _ K2_1.out)
  have K3_2 := hid (DAt.keep q2 _ K2_2.out)
  have K3_3 := hid q1
  have L3 := hid (L2.out.trans (q2.mono L2.out.size))
  clear q1 q2 K2_0 K2_1 K2_2
  clear L2
  go_wp2_with fail
  refine (cpD_any w4).mono ?_
  rintro e w5 ⟨p4, rfl, q1, q2⟩
  have K4_0 := hid (DAt.keep q2 _ K3_0.out)
  have K4_1 := hid (DAt.keep q2 _ K3_1.out)
  have K4_2 := hid (DAt.keep q2 _ K3_2.out)
  have K4_3 := hid (DAt.keep q2 _ K3_3.out)
  have K4_4 := hid q1
  have L4 := hid (L3.out.trans (q2.mono L3.out.size))
  clear q1 q2 K3_0 K3_1 K3_2 K3_3
  clear L3
  go_wp2_with fail
  have hB : Below w5.heap.size w5 (w5.alloc (.cells #[.pointer (some ⟨w.heap.size, 0, none⟩), .pointer (some ⟨w1.heap.size, 0, none⟩), .pointer (some ⟨w2.heap.size, 0, none⟩), .pointer (some ⟨p3, 0, none⟩), .pointer (some ⟨p4, 0, none⟩)] 35)) := (Below.refl _ w5).alloc (Nat.le_refl _) _
  have h := heap_alloc_new w5 (.cells #[.pointer (some ⟨w.heap.size, 0, none⟩), .pointer (some ⟨w1.heap.size, 0, none⟩), .pointer (some ⟨w2.heap.size, 0, none⟩), .pointer (some ⟨p3, 0, none⟩), .pointer (some ⟨p4, 0, none⟩)] 35)
  generalize w5.alloc (.cells #[.pointer (some ⟨w.heap.size, 0, none⟩), .pointer (some ⟨w1.heap.size, 0, none⟩), .pointer (some ⟨w2.heap.size, 0, none⟩), .pointer (some ⟨p3, 0, none⟩), .pointer (some ⟨p4, 0, none⟩)] 35) = wz at hB h ⊢
  have hD : DsAt wz [dNum, dNum, dRoot, cpD, cpD] w5.heap.size 0 := by
    rw [DsAt, DsAt, DsAt, DsAt, DsAt, DsAt]
    exact ⟨⟨_, cell_of_row _ _ 0 _ _ (0, 0) h, DAt.keep hB _ K4_0.out⟩, ⟨_, cell_of_row _ _ 1 _ _ (0, 0) h, DAt.keep hB _ K4_1.out⟩, ⟨_, cell_of_row _ _ 2 _ _ (0, 0) h, DAt.keep hB _ K4_2.out⟩, ⟨_, cell_of_row _ _ 3 _ _ (0, 0) h, DAt.keep hB _ K4_3.out⟩, ⟨_, cell_of_row _ _ 4 _ _ (0, 0) h, DAt.keep hB _ K4_4.out⟩, trivial⟩
  have HC := hid (box_any w5.heap.size 5 [dNum, dNum, dRoot, cpD, cpD] wz rfl (by decide) hD)
  have HZ := hid (L4.out.trans (hB.mono L4.out.size))
  clear hB h hD
  refine HC.out.mono ?_
  rintro e wy ⟨rfl, q1, q2⟩
  have X := hid (And.intro q1 q2)
  clear q1 q2 HC
  go_wp2
  go_ret
  exact ⟨_, rfl, X.out.1, HZ.out.trans (X.out.2.mono HZ.out.size)⟩
def ddD : Dt := dBox [dRoot, dRoot, dNum, dRoot]
set_option maxHeartbeats 1000000 in
theorem ddD_any (w : World) : Calls Tryd.prog 25 #[] w fun x w' => ∃ p, x = .returned (.pointer (some ⟨p, 0, none⟩)) ∧ DAt w' ddD p ∧ Below w.heap.size w w' := by
  go_enter Tryd.func25, Tryd.ntmps25
  go_wp2_with fail
  refine (root_any' w).mono ?_
  rintro e w1 ⟨rfl, q1, q2⟩
  have K0_0 := hid q1
  have L0 := hid (q2)
  clear q1 q2
  go_wp2_with fail
  refine (root_any' w1).mono ?_
  rintro e w2 ⟨rfl, q1, q2⟩
  have K1_0 := hid (DAt.keep q2 _ K0_0.out)
  have K1_1 := hid q1
  have L1 := hid (L0.out.trans (q2.mono L0.out.size))
  clear q1 q2 K0_0
  clear L0
  go_wp2_with fail
  refine (num_any' w2).mono ?_
  rintro e w3 ⟨rfl, q1, q2⟩
  have K2_0 := hid (DAt.keep q2 _ K1_0.out)
  have K2_1 := hid (DAt.keep q2 _ K1_1.out)
  have K2_2 := hid q1
  have L2 := hid (L1.out.trans (q2.mono L1.out.size))
  clear q1 q2 K1_0 K1_1
  clear L1
  go_wp2_with fail
  refine (root_any' w3).mono ?_
  rintro e w4 ⟨rfl, q1, q2⟩
  have K3_0 := hid (DAt.keep q2 _ K2_0.out)
  have K3_1 := hid (DAt.keep q2 _ K2_1.out)
  have K3_2 := hid (DAt.keep q2 _ K2_2.out)
  have K3_3 := hid q1
  have L3 := hid (L2.out.trans (q2.mono L2.out.size))
  clear q1 q2 K2_0 K2_1 K2_2
  clear L2
  go_wp2_with fail
  have hB : Below w4.heap.size w4 (w4.alloc (.cells #[.pointer (some ⟨w.heap.size, 0, none⟩), .pointer (some ⟨w1.heap.size, 0, none⟩), .pointer (some ⟨w2.heap.size, 0, none⟩), .pointer (some ⟨w3.heap.size, 0, none⟩)] 35)) := (Below.refl _ w4).alloc (Nat.le_refl _) _
  have h := heap_alloc_new w4 (.cells #[.pointer (some ⟨w.heap.size, 0, none⟩), .pointer (some ⟨w1.heap.size, 0, none⟩), .pointer (some ⟨w2.heap.size, 0, none⟩), .pointer (some ⟨w3.heap.size, 0, none⟩)] 35)
  generalize w4.alloc (.cells #[.pointer (some ⟨w.heap.size, 0, none⟩), .pointer (some ⟨w1.heap.size, 0, none⟩), .pointer (some ⟨w2.heap.size, 0, none⟩), .pointer (some ⟨w3.heap.size, 0, none⟩)] 35) = wz at hB h ⊢
  have hD : DsAt wz [dRoot, dRoot, dNum, dRoot] w4.heap.size 0 := by
    rw [DsAt, DsAt, DsAt, DsAt, DsAt]
    exact ⟨⟨_, cell_of_row _ _ 0 _ _ (0, 0) h, DAt.keep hB _ K3_0.out⟩, ⟨_, cell_of_row _ _ 1 _ _ (0, 0) h, DAt.keep hB _ K3_1.out⟩, ⟨_, cell_of_row _ _ 2 _ _ (0, 0) h, DAt.keep hB _ K3_2.out⟩, ⟨_, cell_of_row _ _ 3 _ _ (0, 0) h, DAt.keep hB _ K3_3.out⟩, trivial⟩
  have HC := hid (box_any w4.heap.size 4 [dRoot, dRoot, dNum, dRoot] wz rfl (by decide) hD)
  have HZ := hid (L3.out.trans (hB.mono L3.out.size))
  clear hB h hD
  refine HC.out.mono ?_
  rintro e wy ⟨rfl, q1, q2⟩
  have X := hid (And.intro q1 q2)
  clear q1 q2 HC
  go_wp2
  go_ret
  exact ⟨_, rfl, X.out.1, HZ.out.trans (X.out.2.mono HZ.out.size)⟩
end Go.Proofs.YtfmecdmkepnlmaaDoor

/- The document's kind of a list. -/
namespace Go.Proofs.YtfmecdmkepnlmaaDoor
open Go.RowKit Go.Shelf
set_option linter.unusedVariables false
set_option maxRecDepth 100000

set_option maxHeartbeats 1000000 in
theorem many_any (p n : Nat) (d : Dt) (w : World) (hD : DAt w d p) : Calls Tryd.prog 47 #[.pointer (some ⟨p, 0, none⟩), .int .i64 (n : Nat)] w fun x w' => ∃ q, x = .returned (.pointer (some ⟨q, 0, none⟩)) ∧ DAt w' (.mk 5 n [d]) q ∧ Below w.heap.size w w' := by
  have HD := hid hD
  clear hD
  go_enter Tryd.func47, Tryd.ntmps47
  go_wp2
  go_ret
  have B1 : Below w.heap.size w (w.alloc (.cells #[.pointer (some ⟨p, 0, none⟩)] 35)) := (Below.refl _ w).alloc (Nat.le_refl _) _
  have h1 := heap_alloc_new w (.cells #[.pointer (some ⟨p, 0, none⟩)] 35)
  have s1 : (w.alloc (.cells #[.pointer (some ⟨p, 0, none⟩)] 35)).heap.size = w.heap.size + 1 := by simp
  generalize w.alloc (.cells #[.pointer (some ⟨p, 0, none⟩)] 35) = w1 at *
  have B2 : Below w1.heap.size w1 (w1.alloc (.cells #[.int .i64 5, .int .i64 (n : Nat), .slice (some ⟨w.heap.size, 0, none⟩) 1 1] 79)) := (Below.refl _ w1).alloc (Nat.le_refl _) _
  have h2 := heap_alloc_new w1 (.cells #[.int .i64 5, .int .i64 (n : Nat), .slice (some ⟨w.heap.size, 0, none⟩) 1 1] 79)
  refine ⟨w.heap.size + 1, rfl, ?_, B1.trans (B2.mono B1.size)⟩
  rw [s1] at h2
  rw [DAt]
  refine ⟨cell_of_row _ _ 0 _ _ (0, 0) h2, cell_of_row _ _ 1 _ _ (0, 0) h2, some ⟨w.heap.size, 0, none⟩, 1, cell_of_row _ _ 2 _ _ (0, 0) h2, Nat.le_refl _, by decide, .inr ⟨w.heap.size, 0, rfl, ?_⟩⟩
  rw [DsAt, DsAt]
  exact ⟨⟨p, cell_keep B2 (cell_of_row _ _ 0 _ _ (0, 0) h1), DAt.keep B2 _ (DAt.keep B1 _ HD.out)⟩, trivial⟩
end Go.Proofs.YtfmecdmkepnlmaaDoor

/- The document's kind of a Deposit. -/
namespace Go.Proofs.YtfmecdmkepnlmaaDoor
open Go.RowKit Go.Shelf
set_option linter.unusedVariables false
set_option linter.unusedSimpArgs false
set_option maxRecDepth 100000

set_option maxHeartbeats 1000000 in
theorem just_any (p n : Nat) (d : Dt) (w : World) (hD : DAt w d p) : Calls Tryd.prog 54 #[.pointer (some ⟨p, 0, none⟩), .int .i64 (n : Nat)] w fun x w' => ∃ q, x = .returned (.pointer (some ⟨q, 0, none⟩)) ∧ DAt w' (.mk 4 n [d]) q ∧ Below w.heap.size w w' := by
  have HD := hid hD
  clear hD
  go_enter Tryd.func54, Tryd.ntmps54
  go_wp2
  go_ret
  have B1 : Below w.heap.size w (w.alloc (.cells #[.pointer (some ⟨p, 0, none⟩)] 35)) := (Below.refl _ w).alloc (Nat.le_refl _) _
  have h1 := heap_alloc_new w (.cells #[.pointer (some ⟨p, 0, none⟩)] 35)
  have s1 : (w.alloc (.cells #[.pointer (some ⟨p, 0, none⟩)] 35)).heap.size = w.heap.size + 1 := by simp
  generalize w.alloc (.cells #[.pointer (some ⟨p, 0, none⟩)] 35) = w1 at *
  have B2 : Below w1.heap.size w1 (w1.alloc (.cells #[.int .i64 4, .int .i64 (n : Nat), .slice (some ⟨w.heap.size, 0, none⟩) 1 1] 79)) := (Below.refl _ w1).alloc (Nat.le_refl _) _
  have h2 := heap_alloc_new w1 (.cells #[.int .i64 4, .int .i64 (n : Nat), .slice (some ⟨w.heap.size, 0, none⟩) 1 1] 79)
  refine ⟨w.heap.size + 1, rfl, ?_, B1.trans (B2.mono B1.size)⟩
  rw [s1] at h2
  rw [DAt]
  refine ⟨cell_of_row _ _ 0 _ _ (0, 0) h2, cell_of_row _ _ 1 _ _ (0, 0) h2, some ⟨w.heap.size, 0, none⟩, 1, cell_of_row _ _ 2 _ _ (0, 0) h2, Nat.le_refl _, by decide, .inr ⟨w.heap.size, 0, rfl, ?_⟩⟩
  rw [DsAt, DsAt]
  exact ⟨⟨p, cell_keep B2 (cell_of_row _ _ 0 _ _ (0, 0) h1), DAt.keep B2 _ (DAt.keep B1 _ HD.out)⟩, trivial⟩
def dVec : Dt := .mk 4 6 [dRoot]
def dpD : Dt := dBox [dVec, ddD]
set_option maxHeartbeats 1000000 in
theorem dpD_any (w : World) : Calls Tryd.prog 16 #[] w fun x w' => ∃ p, x = .returned (.pointer (some ⟨p, 0, none⟩)) ∧ DAt w' dpD p ∧ Below w.heap.size w w' := by
  go_enter Tryd.func16, Tryd.ntmps16
  go_wp2_with fail
  refine (root_any' w).mono ?_
  rintro e w0 ⟨rfl, q1, q2⟩
  have HM := hid (just_any w.heap.size 6 dRoot w0 q1)
  have L0 := hid q2
  clear q1 q2
  go_wp2_with fail
  refine HM.out.mono ?_
  rintro e w1 ⟨p0, rfl, q1, q2⟩
  have K0_0 := hid q1
  have L1 := hid (L0.out.trans (q2.mono L0.out.size))
  clear q1 q2 HM L0
  go_wp2_with fail
  refine (ddD_any w1).mono ?_
  rintro e w2 ⟨p1, rfl, q1, q2⟩
  have K1_0 := hid (DAt.keep q2 _ K0_0.out)
  have K1_1 := hid q1
  have L2 := hid (L1.out.trans (q2.mono L1.out.size))
  clear q1 q2 K0_0 L1
  go_wp2_with fail
  have hB : Below w2.heap.size w2 (w2.alloc (.cells #[.pointer (some ⟨p0, 0, none⟩), .pointer (some ⟨p1, 0, none⟩)] 35)) := (Below.refl _ w2).alloc (Nat.le_refl _) _
  have h := heap_alloc_new w2 (.cells #[.pointer (some ⟨p0, 0, none⟩), .pointer (some ⟨p1, 0, none⟩)] 35)
  generalize w2.alloc (.cells #[.pointer (some ⟨p0, 0, none⟩), .pointer (some ⟨p1, 0, none⟩)] 35) = wz at hB h ⊢
  have hD : DsAt wz [dVec, ddD] w2.heap.size 0 := by
    rw [DsAt, DsAt, DsAt]
    exact ⟨⟨_, cell_of_row _ _ 0 _ _ (0, 0) h, DAt.keep hB _ K1_0.out⟩, ⟨_, cell_of_row _ _ 1 _ _ (0, 0) h, DAt.keep hB _ K1_1.out⟩, trivial⟩
  have HC := hid (box_any w2.heap.size 2 [dVec, ddD] wz rfl (by decide) hD)
  have HZ := hid (L2.out.trans (hB.mono L2.out.size))
  clear hB h hD
  refine HC.out.mono ?_
  rintro e wy ⟨rfl, q1, q2⟩
  have X := hid (And.intro q1 q2)
  clear q1 q2 HC
  go_wp2
  go_ret
  exact ⟨_, rfl, X.out.1, HZ.out.trans (X.out.2.mono HZ.out.size)⟩
end Go.Proofs.YtfmecdmkepnlmaaDoor

/- Steps of a flow over the document's values. -/
namespace Go.Proofs.YtfmecdmkepnlmaaDoor
open Go.RowKit
set_option linter.unusedVariables false
set_option maxRecDepth 100000
theorem fieldV (k off : Nat) (h : (k = 0 ∧ off = 0) ∨ (k = 1 ∧ off = 1) ∨ (k = 2 ∧ off = 33) ∨ (k = 3 ∧ off = 34)) (g : Nat) (w : World) : (Instr.fieldAt 40 (.pointer (some ⟨g, 0, none⟩)) k).run Tryd.prog w = .ok (.pointer (some ⟨g, off, none⟩)) w := by
  rcases h with ⟨rfl, rfl⟩ | ⟨rfl, rfl⟩ | ⟨rfl, rfl⟩ | ⟨rfl, rfl⟩ <;> kernel_rfl
end Go.Proofs.YtfmecdmkepnlmaaDoor

/- Flows whose operations may also store into memory that the others don't read: over any order of worlds R in the place of 'nothing old has turned'. -/
namespace Go.Proofs.YtfmecdmkepnlmaaDoor
open Go Go.RowKit
set_option linter.unusedVariables false
section
variable {P : Program}
structure FlowRInv (R : World → World → Prop) (ops : Array Oper) (n : Nat) (I : Nat → Value → World → Prop) (w0 : World) (a0 : Act) (done : Array Bool) (a : Act) (w : World) : Prop where
  head : HeadInv .any ops n done
  cls : R w0 w
  defers : a.defers = a0.defers
  size : a.tmps.size = a0.tmps.size
  keep : ∀ s, (∀ i, i < n → dstOf ops i ≠ some s) → a.tmps[s]? = a0.tmps[s]?
  known : ∀ i, i < n → done.getD i false = true → ∀ d, dstOf ops i = some d → I i (a.tmps.getD d undef) w
  stor : ∀ i, i < n → done.getD i false = true → dstOf ops i = none → ∃ v, I i v w
theorem flowR_any {R : World → World → Prop} {ops : Array Oper} {n late : Nat} {I : Nat → Value → World → Prop} {w0 : World} {a0 : Act} {Q : Exit → Act → World → Prop} (hB : flowGB ops n late a0.tmps.size = true)
    (hRr : ∀ w, R w w) (hRt : ∀ a b c, R a b → R b c → R a c) (hRd : ∀ w : World, R w { w with drawn := w.drawn + 1 })
    (hQ : ∀ c d v a w, Q (.panic c) (a.put d v) w → Q (.panic c) a w)
    (hguard : ∀ i o g b, i < n → ops[i]? = some o → o.guard = some (g, b) → ∀ v w, I g v w → v = .bool b)
    (hI : ∀ i v w w', i < n → I i v w → R w w' → I i v w')
    (hop : ∀ i o, i < n → ops[i]? = some o → ∀ a w, R w0 w → (∀ s, (∀ j, j < n → dstOf ops j ≠ some s) → a.tmps.getD s undef = a0.tmps.getD s undef) →
      (∀ j d, dstOf ops j = some d → (o.after.any fun e => Region.binds .any e && e.on == j) = true → I j (a.tmps.getD d undef) w) →
      o.wp P a w (fun a' w' => ∃ v, a' = a.put o.dst v ∧ I i v w' ∧ R w w') Q)
    (hlate : ∀ o, late < n → ops[late]? = some o → ∀ (a : Act) w, R w0 w → (∀ s, (∀ j, j < n → dstOf ops j ≠ some s) → a.tmps.getD s undef = a0.tmps.getD s undef) →
      (∀ j d, dstOf ops j = some d → (o.after.any fun e => Region.binds .any e && e.on == j) = true → I j (a.tmps.getD d undef) w) → ∃ v, (∀ w, (execOp a.eval o).run P w = .ok (.value v) w) ∧ I late v w)
    (htail : ∀ v w, R w0 w → (∀ i d, i < n → dstOf ops i = some d → I i (v i) w) → (∀ i, i < n → dstOf ops i = none → ∃ v, I i v w) → wpAny P .any ops Q (ops.size - n) ((List.range ops.size).map fun i => decide (i < n)).toArray (putAll v (ops.toList.take n) 0 a0) w) :
    ∀ f (done : Array Bool) (a : Act) (w : World), (List.range n).countP (fun i => !done.getD i true) = f → FlowRInv R ops n I w0 a0 done a w → wpAny P .any ops Q (f + (ops.size - n)) done a w := by
  simp only [flowGB, Bool.and_eq_true, decide_eq_true_eq, List.all_eq_true, List.mem_range, Bool.or_eq_true] at hB
  obtain ⟨⟨⟨⟨⟨hn, hsel⟩, hdir⟩, hall⟩, hlt8⟩, hseq⟩ := hB
  have hat : ∀ i, i < n → ∃ o, ops[i]? = some o := fun i hi => ⟨_, Array.getElem?_eq_getElem (by omega)⟩
  have hgd : ∀ i o, i < n → ops[i]? = some o → (∀ g b, o.guard = some (g, b) → Region.waitsFor .any ops i g = true ∧ ∃ d, dstOf ops g = some d) ∧ (∀ e ∈ o.after, Region.binds .any e = true → e.on < i) ∧ ∀ d, o.dst = some d → d < a0.tmps.size ∧ ∀ j, j < n → j ≠ i → dstOf ops j ≠ some d := by
    intro i o hi ho
    have := hall i hi
    rw [ho] at this
    simp only [Bool.and_eq_true, Array.all_eq_true_iff_forall_mem, Bool.or_eq_true, Bool.not_eq_true', decide_eq_true_eq] at this
    obtain ⟨⟨h1, h2⟩, h3⟩ := this
    refine ⟨fun g b hg => by
      rw [hg] at h1
      simp only [Bool.and_eq_true] at h1
      exact ⟨h1.1.2, Option.isSome_iff_exists.1 h1.2⟩, fun e he hb => (h2 e he).resolve_left (by rw [hb]; decide), fun d hd => ?_⟩
    rw [hd] at h3
    simp only [Bool.and_eq_true, decide_eq_true_eq, List.all_eq_true, List.mem_range, Bool.or_eq_true] at h3
    exact ⟨h3.1, fun j hj hne => (h3.2 j hj).resolve_left hne⟩
  intro f
  induction f with
  | zero =>
    intro done a w hcount inv
    have hdone : ∀ i, i < n → done.getD i true = true := fun i hi => by
      have := List.countP_eq_zero.1 hcount i (List.mem_range.2 hi)
      simpa using this
    have hdn : done = ((List.range ops.size).map fun i => decide (i < n)).toArray := by
      apply Array.ext_getElem?
      intro i
      by_cases hi : i < ops.size
      · have hi' : i < done.size := by rw [inv.head.size]; exact hi
        have h1 : (((List.range ops.size).map fun i => decide (i < n)).toArray)[i]? = some (decide (i < n)) := by simp [hi]
        rw [h1, Array.getElem?_eq_getElem hi']
        by_cases hin : i < n
        · have := hdone i hin
          simp [hi'] at this
          simp [hin, this]
        · have := inv.head.tail i (by omega) hi
          simp [hi'] at this
          simp [hin, this]
      · rw [Array.getElem?_eq_none (by rw [inv.head.size]; omega), Array.getElem?_eq_none (by simp; omega)]
    have hk : ∀ i, i < n → done.getD i false = true := fun i hi => by
      have h1 := hdone i hi
      have hi' : i < done.size := by rw [inv.head.size]; omega
      simp [hi'] at h1 ⊢
      exact h1
    have ha : a = putAll (fun i => match dstOf ops i with | some d => a.tmps.getD d undef | none => undef) (ops.toList.take n) 0 a0 := by
      have hd1 := putAll_defers (fun i => match dstOf ops i with | some d => a.tmps.getD d undef | none => undef) (ops.toList.take n) 0 a0
      have hs1 := putAll_size (fun i => match dstOf ops i with | some d => a.tmps.getD d undef | none => undef) (ops.toList.take n) 0 a0
      have ht1 : ∀ s, a.tmps[s]? = (putAll (fun i => match dstOf ops i with | some d => a.tmps.getD d undef | none => undef) (ops.toList.take n) 0 a0).tmps[s]? := fun s => by
        rw [putAll_get _ s (a.tmps.getD s undef) _ 0 a0 (fun j o hj ho => by
          rw [List.getElem?_take] at hj
          split at hj
          · have : dstOf ops j = some s := by unfold dstOf; rw [Array.getElem?_toList] at hj; rw [hj]; exact ho
            rw [Nat.zero_add, this]
          · cases hj)]
        split
        · rename_i h
          rw [Array.getElem?_eq_getElem (by rw [inv.size]; exact h.2)]
          simp [inv.size, h.2]
        · rename_i h
          by_cases hsz : s < a0.tmps.size
          · refine inv.keep s fun i hi e => h ⟨?_, hsz⟩
            obtain ⟨o, ho⟩ := hat i hi
            refine ⟨o, ?_, by unfold dstOf at e; rw [ho] at e; exact e⟩
            rw [List.mem_take_iff_getElem]
            have := Array.getElem?_eq_some_iff.1 ho
            exact ⟨i, by simp; omega, by simpa using this.2⟩
          · rw [Array.getElem?_eq_none (by rw [inv.size]; omega), Array.getElem?_eq_none (by omega)]
      generalize putAll (fun i => match dstOf ops i with | some d => a.tmps.getD d undef | none => undef) (ops.toList.take n) 0 a0 = b at *
      obtain ⟨ta, da⟩ := a
      obtain ⟨tb, db⟩ := b
      have e1 : ta = tb := Array.ext_getElem? ht1
      have e2 : da = db := inv.defers.trans hd1.symm
      rw [e1, e2]
    rw [Nat.zero_add, ha, hdn]
    refine htail _ w inv.cls (fun i d hi hd => ?_) (fun i hi hd => inv.stor i hi (hk i hi) hd)
    have := inv.known i hi (hk i hi) d hd
    simpa [hd] using this
  | succ f ih =>
    intro done a w hcount inv
    have hex : ∃ i, i < n ∧ done.getD i true = false := by
      have : 0 < (List.range n).countP (fun i => !done.getD i true) := by omega
      obtain ⟨i, hi, hd⟩ := List.countP_pos_iff.1 this
      exact ⟨i, List.mem_range.1 hi, by simpa using hd⟩
    have hready : ∃ i, i < n ∧ i ∈ Region.ready .any ops done := by
      obtain ⟨i0, hi0, hd0⟩ := hex
      have key : ∀ m, m < n → done.getD m true = false → ∃ i, i < n ∧ i ∈ Region.ready .any ops done := by
        intro m
        induction m using Nat.strongRecOn with
        | _ m ihm =>
          intro hm hd
          obtain ⟨o, ho⟩ := hat m hm
          by_cases hw : ∀ e ∈ o.after, Region.binds .any e = true → done.getD e.on false = true
          · exact ⟨m, hm, mem_ready.2 ⟨hd, o, ho, hw⟩⟩
          · simp only [Classical.not_forall] at hw
            obtain ⟨e, he, hb, hnd⟩ := hw
            have hlt := (hgd m o hm ho).2.1 e he hb
            refine ihm e.on hlt (by omega) ?_
            have hi' : e.on < done.size := by rw [inv.head.size]; omega
            simp [hi'] at hnd ⊢
            exact hnd
      exact key i0 hi0 hd0
    obtain ⟨r, hr, hrr⟩ := hready
    rw [Nat.succ_add]
    have hstep : ∀ i o v w', i < n → i ∈ Region.ready .any ops done → ops[i]? = some o → I i v w' → R w w' →
        (List.range n).countP (fun j => !(done.setIfInBounds i true).getD j true) = f ∧ FlowRInv R ops n I w0 a0 (done.setIfInBounds i true) (a.put o.dst v) w' := by
      intro i o v w' hin hi ho hv hB
      obtain ⟨hun, o', ho', hwait⟩ := mem_ready.1 hi
      obtain ⟨g1, g2, g3⟩ := hgd i o hin ho
      refine ⟨?_, inv.head.set hi hin, hRt _ _ _ inv.cls hB, by rw [put_defers]; exact inv.defers, by rw [put_size]; exact inv.size, fun s hs' => ?_, fun j hj hdj d hd => ?_, fun j hj hdj hd => ?_⟩
      · have hii : i < done.size := by rw [inv.head.size]; omega
        have hcp := count_step done i hii hun n hin
        omega
      · rw [put_get, if_neg (fun h => hs' i hin (by unfold dstOf; rw [ho]; exact h.1))]
        exact inv.keep s hs'
      · by_cases e : j = i
        · subst e
          have hd' : o.dst = some d := by unfold dstOf at hd; rw [ho] at hd; exact hd
          have : (a.put o.dst v).tmps.getD d undef = v := by
            rw [Array.getD_eq_getD_getElem?, put_get, if_pos ⟨hd', by rw [inv.size]; exact (g3 d hd').1⟩]; rfl
          rw [this]; exact hv
        · have hdj' : done.getD j false = true := by rwa [getD_set_ne false (Ne.symm e)] at hdj
          have : (a.put o.dst v).tmps.getD d undef = a.tmps.getD d undef := by
            rw [Array.getD_eq_getD_getElem?, put_get, if_neg (fun h => (g3 d h.1).2 j hj e hd), ← Array.getD_eq_getD_getElem?]
          rw [this]
          exact hI j _ w w' hj (inv.known j hj hdj' d hd) hB
      · by_cases e : j = i
        · subst e
          exact ⟨v, hv⟩
        · have hdj' : done.getD j false = true := by rwa [getD_set_ne false (Ne.symm e)] at hdj
          obtain ⟨u, hu⟩ := inv.stor j hj hdj' hd
          exact ⟨u, hI j _ w w' hj hu hB⟩
    have hdeps : ∀ i o, i < n → i ∈ Region.ready .any ops done → ops[i]? = some o → ∀ j d, dstOf ops j = some d → (o.after.any fun e => Region.binds .any e && e.on == j) = true → I j (a.tmps.getD d undef) w := by
      intro i o hin hi ho j d hd hj
      obtain ⟨hun, o', ho', hwait⟩ := mem_ready.1 hi
      obtain rfl : o' = o := Option.some.inj (ho'.symm.trans ho)
      obtain ⟨g1, g2, g3⟩ := hgd i o' hin ho
      obtain ⟨k, hk, hk2⟩ := Array.any_eq_true.1 hj
      simp only [Bool.and_eq_true, beq_iff_eq] at hk2
      have hmem := Array.getElem_mem hk
      have hl := hwait _ hmem hk2.1
      have hlt := g2 _ hmem hk2.1
      rw [hk2.2] at hl hlt
      exact inv.known j (by omega) hl d hd
    have hwant : ∀ i o, i < n → i ∈ Region.ready .any ops done → ops[i]? = some o → Region.wanted o (yielded ops a.tmps) = true := by
      intro i o hin hi ho
      unfold Region.wanted
      cases hg : o.guard with
      | none => rfl
      | some gb =>
        obtain ⟨g, b⟩ := gb
        obtain ⟨q2, d, hd⟩ := (hgd i o hin ho).1 g b hg
        unfold Region.waitsFor at q2
        rw [ho] at q2
        have hv := hguard i o g b hin ho hg _ _ (hdeps i o hin hi ho g d hd q2)
        have hv2 : a.tmps[d]? = some (.bool b) := by
          rw [Array.getD_eq_getD_getElem?] at hv
          cases hq : a.tmps[d]? with
          | none => rw [hq] at hv; cases hv
          | some u => rw [hq] at hv; exact congrArg some hv
        have hy : yielded ops a.tmps g = some b := by
          unfold dstOf at hd
          unfold yielded
          rw [hd]
          simp [hv2]
        simp [hy]
    have hkeep : ∀ s, (∀ j, j < n → dstOf ops j ≠ some s) → a.tmps.getD s undef = a0.tmps.getD s undef := fun s hs' => by rw [Array.getD_eq_getD_getElem?, inv.keep s hs', ← Array.getD_eq_getD_getElem?]
    by_cases hbut : ∀ i, i < n → i ≠ late → done.getD i true = true
    · have hrl : r = late := Classical.byContradiction fun h => by
        have h1 := hbut r hr h
        rw [(mem_ready.1 hrr).1] at h1; cases h1
      subst hrl
      have hdn : done = doneBut ops n r := by
        apply Array.ext_getElem?
        intro i
        by_cases hi : i < ops.size
        · have hi' : i < done.size := by rw [inv.head.size]; exact hi
          have h1 : (doneBut ops n r)[i]? = some (decide (i < n) && decide (i ≠ r)) := by simp [doneBut, hi]
          rw [h1, Array.getElem?_eq_getElem hi']
          by_cases hin : i < n
          · by_cases hir : i = r
            · subst hir
              have := (mem_ready.1 hrr).1
              simp [hi'] at this
              simp [this]
            · have := hbut i hin hir
              simp [hi'] at this
              simp [hin, hir, this]
          · have := inv.head.tail i (by omega) hi
            simp [hi'] at this
            simp [hin, this]
        · rw [Array.getElem?_eq_none (by rw [inv.head.size]; omega), Array.getElem?_eq_none (by simp [doneBut]; omega)]
      obtain ⟨o, ho⟩ := hat r hr
      obtain ⟨v, hrun, hv⟩ := hlate o hr ho a w inv.cls hkeep (hdeps r o hr hrr ho)
      obtain ⟨q1, q2⟩ := hstep r o v w hr hrr ho hv (hRr w)
      have hw := hwant r o hr hrr ho
      have hfr := hlt8.resolve_left (by omega)
      rw [← hdn] at hfr
      exact wpAny_take ho hsel hfr.1 hfr.2 (fun c a w h => hQ c _ _ a w h) (.inl ⟨hw, hrun⟩) (ih _ _ _ q1 q2)
    · simp only [Classical.not_forall] at hbut
      obtain ⟨u, hu, hul, hud⟩ := hbut
      have hud' : done.getD u false = false := by
        have hi' : u < done.size := by rw [inv.head.size]; omega
        simp [hi'] at hud ⊢
        exact hud
      refine ⟨fun e => (by rw [e] at hrr; cases hrr), fun i hi => ?_⟩
      obtain ⟨hun, o, ho, hwait⟩ := mem_ready.1 hi
      have hin : i < n := Nat.lt_of_not_le fun h => by
        have his : i < ops.size := (Array.getElem?_eq_some_iff.1 ho).1
        have hw := ((hdir i his).resolve_left (by omega) u hu).resolve_left hul
        have := reach_done inv.head.closed u 4 i o ho hwait hw
        rw [hud'] at this
        cases this
      unfold wpOp
      rw [ho]
      have hw := hwant i o hin hi ho
      simp only [hw, if_true]
      refine .inl (Oper.wp_mono ?_ (hop i o hin ho a w inv.cls hkeep (hdeps i o hin hi ho)))
      rintro a' w' ⟨v, rfl, hv, hB⟩
      obtain ⟨q1, q2⟩ := hstep i o v w' hin hi ho hv hB
      exact ih _ _ _ q1 q2

/-- The region, told as a flow. -/
theorem wp_region_flowR {id : Nat} {Q : Exit → Act → World → Prop} {a : Act} {w : World} {l : List Oper} (R : World → World → Prop) (n late : Nat) (I : Nat → Value → World → Prop) (hm : P.follows .mixedOrders = true) (hB : flowGB l.toArray n late a.tmps.size = true)
    (hRr : ∀ w, R w w) (hRt : ∀ a b c, R a b → R b c → R a c) (hRd : ∀ w : World, R w { w with drawn := w.drawn + 1 })
    (hQ : ∀ c d v a w, Q (.panic c) (a.put d v) w → Q (.panic c) a w)
    (hguard : ∀ i o g b, i < n → l.toArray[i]? = some o → o.guard = some (g, b) → ∀ v w, I g v w → v = .bool b)
    (hI : ∀ i v w w', i < n → I i v w → R w w' → I i v w')
    (hop : ∀ i o, i < n → l.toArray[i]? = some o → ∀ a' w', R w w' → (∀ s, (∀ j, j < n → dstOf l.toArray j ≠ some s) → a'.tmps.getD s undef = a.tmps.getD s undef) →
      (∀ j d, dstOf l.toArray j = some d → (o.after.any fun e => Region.binds .any e && e.on == j) = true → I j (a'.tmps.getD d undef) w') →
      o.wp P a' w' (fun a'' w'' => ∃ v, a'' = a'.put o.dst v ∧ I i v w'' ∧ R w' w'') Q)
    (hlate : ∀ o, late < n → l.toArray[late]? = some o → ∀ (a' : Act) w', R w w' → (∀ s, (∀ j, j < n → dstOf l.toArray j ≠ some s) → a'.tmps.getD s undef = a.tmps.getD s undef) →
      (∀ j d, dstOf l.toArray j = some d → (o.after.any fun e => Region.binds .any e && e.on == j) = true → I j (a'.tmps.getD d undef) w') → ∃ v, (∀ w, (execOp a'.eval o).run P w = .ok (.value v) w) ∧ I late v w')
    (htail : ∀ v w', R w w' → (∀ i d, i < n → dstOf l.toArray i = some d → I i (v i) w') → (∀ i, i < n → dstOf l.toArray i = none → ∃ v, I i v w') → wpList P l.toArray Q (l.drop n) (putAll v (l.take n) 0 a) w') : (Code.region id l.toArray true).wp P Q a w := by
  have hB' := hB
  simp only [flowGB, Bool.and_eq_true, decide_eq_true_eq] at hB'
  have hn : n < l.length := by simpa using hB'.1.1.1.1.1
  have h3 : (l.drop n).length = l.toArray.size - n := by simp
  refine wp_region_any hm ?_
  have hc0 : (List.range n).countP (fun i => !(Array.replicate l.toArray.size false).getD i true) = n := by
    have : (List.range n).countP (fun i => !(Array.replicate l.toArray.size false).getD i true) = (List.range n).length := List.countP_eq_length.2 fun i hi => by
      have := List.mem_range.1 hi
      simp [show i < l.length by omega]
    rw [this, List.length_range]
  have K := flowR_any (P := P) (Q := Q) (w0 := w) (a0 := a) (R := R) hB hRr hRt hRd hQ hguard hI hop hlate (fun v w' hc hv hs => by
    have := wpAny_of_seq (P := P) (md := .any) (Q' := Q) (l.drop n) n _ _ w' (fun j => by simp [List.getElem?_drop]) (by rw [h3]; exact hB'.2) (htail v w' hc hv hs)
    rw [h3] at this
    simpa using this) n (Array.replicate l.toArray.size false) a { w with drawn := w.drawn + 1 } hc0
    ⟨⟨by simp, fun j oj _ hx => (by rw [getD_replicate_false] at hx; cases hx), fun t _ ht => getD_in (by simpa using ht) (getD_replicate_false _ _)⟩, hRd w, rfl, rfl, fun _ _ => rfl, fun i _ hx => (by rw [getD_replicate_false] at hx; cases hx), fun i _ hx => (by rw [getD_replicate_false] at hx; cases hx)⟩
  rwa [show n + (l.toArray.size - n) = l.toArray.size by simp; omega] at K
end
/-- Nothing has turned but the block g, and that only to hold NEW. -/
structure TurnsTo (g : Nat) (new : Obj) (w w' : World) : Prop where
  os : w'.os = w.os
  tape : w'.tape = w.tape
  output : w'.output = w.output
  size : w.heap.size ≤ w'.heap.size
  block : ∀ k, k < w.heap.size → k ≠ g → w'.heap[k]? = w.heap[k]?
  self : w'.heap[g]? = w.heap[g]? ∨ w'.heap[g]? = some new
theorem TurnsTo.refl (g : Nat) (new : Obj) (w : World) : TurnsTo g new w w := ⟨rfl, rfl, rfl, Nat.le_refl _, fun _ _ _ => rfl, .inl rfl⟩
theorem TurnsTo.trans {g : Nat} {new : Obj} {a b c : World} (h : TurnsTo g new a b) (k : TurnsTo g new b c) : TurnsTo g new a c :=
  ⟨k.os.trans h.os, k.tape.trans h.tape, k.output.trans h.output, Nat.le_trans h.size k.size, fun i hi hg => (k.block i (Nat.lt_of_lt_of_le hi h.size) hg).trans (h.block i hi hg), by
    rcases k.self with e | e
    · rw [e]; exact h.self
    · exact .inr e⟩
theorem TurnsTo.drew (g : Nat) (new : Obj) (w : World) : TurnsTo g new w { w with drawn := w.drawn + 1 } := ⟨rfl, rfl, rfl, Nat.le_refl _, fun _ _ _ => rfl, .inl rfl⟩
theorem TurnsTo.of_below {g : Nat} {new : Obj} {w w' : World} (h : Below w.heap.size w w') (hg : g < w.heap.size) : TurnsTo g new w w' :=
  ⟨h.os, h.tape, h.output, h.size, fun k hk _ => h.block k hk, .inl (h.block g hg)⟩
theorem TurnsTo.below {B g : Nat} {new : Obj} {w w' : World} (h : TurnsTo g new w w') (hg : B ≤ g) (hB : B ≤ w.heap.size) : Below B w w' :=
  ⟨h.os, h.tape, h.output, h.size, fun k hk => h.block k (by omega) (by omega)⟩
theorem TurnsTo.cell {g : Nat} {new : Obj} {w w' : World} (h : TurnsTo g new w w') {p : Addr} (hp : p.block ≠ g) {v : Value} (hc : w.cell? p = some v) : w'.cell? p = some v :=
  (World.cell?_of_block (h.block p.block (block_lt_of_cell hc) hp)).trans hc
theorem TurnsTo.isB {g : Nat} {new : Obj} {w w' : World} (h : TurnsTo g new w w') {v : Value} {bs : List Nat} (hI : IsB w v bs) (hS : inS (fun k => k ≠ g) v) : IsB w' v bs :=
  hI.keepS hS fun k hk hl => h.block k hl hk
theorem IsT.keepS {l : List Bool} {v : Value} {w w' : World} {S : Nat → Prop} (h : IsT w v l) (hS : inS S v) (hk : ∀ k, S k → k < w.heap.size → w'.heap[k]? = w.heap[k]?) : IsT w' v l := by
  obtain ⟨ao, cap, rfl, h1, h2, h3⟩ := h
  refine ⟨ao, cap, rfl, h1, h2, ?_⟩
  rcases h3 with h3 | ⟨b, off, rfl, hc⟩
  · exact .inl h3
  · exact .inr ⟨b, off, rfl, fun i hi => (World.cell?_of_block (a := ⟨b, off + i, none⟩) (hk b hS (block_lt_of_cell (hc i hi)))).trans (hc i hi)⟩
theorem TurnsTo.isT {g : Nat} {new : Obj} {w w' : World} (h : TurnsTo g new w w') {v : Value} {l : List Bool} (hI : IsT w v l) (hS : inS (fun k => k ≠ g) v) : IsT w' v l :=
  hI.keepS hS fun k hk hl => h.block k hl hk
theorem TurnsTo.range {g : Nat} {new : Obj} {w w' : World} (h : TurnsTo g new w w') {b o : Nat} {cs : List Value} (hb : b ≠ g) (hc : w.rangeAt b o cs) : w'.rangeAt b o cs := fun j v hv => h.cell (p := ⟨b, o + j, none⟩) hb (hc j v hv)
section
variable {P : Program} {o : Oper} {a : Act} {w : World} {Q : Exit → Act → World → Prop} {I : Value → World → Prop} {R : World → World → Prop}
theorem flowR_of (hR : ∀ w', Below w.heap.size w w' → R w w') (h : o.wp P a w (fun a' w' => ∃ v, a' = a.put o.dst v ∧ I v w' ∧ Below w.heap.size w w') Q) : o.wp P a w (fun a' w' => ∃ v, a' = a.put o.dst v ∧ I v w' ∧ R w w') Q :=
  Oper.wp_mono (by rintro a' w' ⟨v, h1, h2, h3⟩; exact ⟨v, h1, h2, hR w' h3⟩) h
/-- A store of a whole array or struct over a block. -/
theorem flowR_store (ty : TypeId) (x y : Operand) (ho : o.op = .store ty x y) (g : Nat) (cells : Array Value) (hx : a.eval x = .pointer (some ⟨g, 0, none⟩)) (hy : a.eval y = .agg cells) (t : TypeId) (old : Array Value) (hg : w.heap[g]? = some (.cells old t (0, 0)))
    (hi : (P.info? ty).map (·.size) = some cells.size) (hold : old.size = cells.size) (h1 : cells.all (·.oneCell') = true) (hI : ∀ w', w'.heap[g]? = some (.cells cells t (0, 0)) → I undef w') :
    o.wp P a w (fun a' w' => ∃ v, a' = a.put o.dst v ∧ I v w' ∧ TurnsTo g (.cells cells t (0, 0)) w w') Q := by
  have hO := Only.setRow w g cells
  exact wp_store_row ty x y ho g cells hx hy t old hg hi hold h1 ⟨undef, rfl, hI _ (setRow_heap w g _ _ _ _ hg), ⟨hO.os, hO.tape, hO.output, by rw [hO.size]; exact Nat.le_refl _, fun k _ hk => hO.block k hk, .inr (setRow_heap w g _ _ _ _ hg)⟩⟩
end
theorem TurnsTo.lt {g : Nat} {new : Obj} {w w' : World} (h : TurnsTo g new w w') (hg : g < w.heap.size) : g < w'.heap.size := Nat.lt_of_lt_of_le hg h.size
end Go.Proofs.YtfmecdmkepnlmaaDoor

/- append onto a row of the call's own: the row behind, and what rows stay. -/
namespace Go.Proofs.YtfmecdmkepnlmaaDoor
open Go.RowKit
set_option linter.unusedVariables false
set_option maxRecDepth 100000

theorem kept_none {w w' : World} {base n s : Nat} {e : TypeId} {v : Value} {xs : List Value} (h : w.ownsRow base e s v n xs) (hg : w.grownBy w' none) : w'.ownsRow base e s v n xs := by
  rcases h.2 with ⟨rfl, _⟩ | ⟨g, cap, cur, rfl, _⟩
  · exact h.kept hg (.inl rfl)
  · exact h.kept hg (.inr (by simp [Value.ownBlock]))
section
variable {P : Program} (w : World)
theorem run_append_kept (base : Nat) (t tx ty e : TypeId) (i : TypeInfo) (z : Value) (size bytes : Nat) (ht : P.underlying t = some (.slice e)) (hi : P.info? e = some i) (hz : i.zero = some z)
    (hsize : i.size = size) (hby : i.bytes = bytes) (hzs : z.cells.size = size) (hsz : 0 < size) (v : Value) (n : Nat) (xs : List Value) (hown : w.ownsRow base e size v n xs)
    (x : Value) (m : Nat) (news : List Value) (hs : Src P size tx x m news w) (h63 : n + m ≤ maxLen) (hbytes : (n + m) * bytes ≤ 140737488355328) (hbase : base ≤ w.heap.size) :
    ∃ v' w', (Builtin.append_ #[t, tx] ty #[v, x]).run P w = .ok v' w' ∧ w'.ownsRow base e size v' (n + m) (xs ++ news) ∧ w.grownBy w' v.ownBlock ∧ Moved w v v' ∧ w'.ownsRow base e size v n xs ∧ ∀ v2, w.ownsRow base e size v2 (n + m) (xs ++ news) → w'.ownsRow base e size v2 (n + m) (xs ++ news) := by
  subst hsize
  subst hby
  have hsmall : n + m ≤ 9223372036854775807 := by simp only [maxLen] at h63; omega
  have hl := hs.newsLen
  have hlen : (xs ++ news).length = (n + m) * i.size := by rw [List.length_append, hown.1, hl, Nat.add_mul]
  have grown : ∀ (old : Nat), old < n + m → ∀ (row : Option Nat),
      (w.drew.alloc (.cells ((xs ++ news).toArray ++ Builtin.zeroCells z.cells (grownCap w (n + m) old e - (n + m))) e)).ownsRow base e i.size
        (.slice (some ⟨w.heap.size, 0, none⟩) (n + m) (grownCap w (n + m) old e)) (n + m) (xs ++ news) ∧
      w.grownBy (w.drew.alloc (.cells ((xs ++ news).toArray ++ Builtin.zeroCells z.cells (grownCap w (n + m) old e - (n + m))) e)) row := by
    intro old ho row
    have hge := grownCap_ge w (n + m) old e
    have hcm : grownCap w (n + m) old e ≤ maxLen := grownCap_le_maxLen w (n + m) old e h63
    refine ⟨⟨hlen, .inr ⟨w.heap.size, _, _, rfl, hbase, heap_alloc_new w.drew _, hge, hcm, ?_, ?_⟩⟩, ⟨rfl, rfl, rfl, by simp, fun k hk _ => Below.heap_alloc w.drew _ k hk⟩⟩
    · simp only [Array.size_append, List.size_toArray, size_zeroCells, hzs, hlen, ← Nat.add_mul]
      congr 1
      omega
    · simp only [Array.toList_append]
      rw [← hlen]
      exact List.take_left
  rcases hown.2 with ⟨rfl, rfl⟩ | ⟨g, cap, cur, rfl, hbg, hg, hnc, hcm, hcs, htake⟩
  · have hx : xs = [] := List.eq_nil_of_length_eq_zero (by simpa using hown.1)
    subst hx
    by_cases hm : m = 0
    · subst hm
      have hn : news = [] := List.eq_nil_of_length_eq_zero (by simpa using hl)
      subst hn
      refine ⟨.slice none 0 0, w, ?_, World.ownsRow_nil w base e i.size, ⟨rfl, rfl, rfl, Nat.le_refl _, fun _ _ _ => rfl⟩, (fun k hk => by cases hk), World.ownsRow_nil w base e i.size, fun _ h => h⟩
      have h0 := hs.len
      have h1 := hs.cells
      rcases hs.kind with ⟨e', hk⟩ | hk <;> simp [Builtin.append_, run_underlying ht, run_underlying hk, sizeOf, typeInfo, hi, h0, h1]
    · have hr := run_append_grow_src (P := P) w t tx ty e i z ht hi hz none 0 0 [] (run_firstCells_none w.drew _ _ _ _) x m news hs (by omega) (by omega) (growslice_fits (by omega) hbytes)
      have hgr := grown 0 (by omega) (Value.ownBlock (.slice none 0 0))
      have hgn := (grown 0 (by omega) none).2
      exact ⟨_, _, hr, hgr.1, hgr.2, (fun k hk => .inr (by cases hk; exact Nat.le_refl _)), World.ownsRow_nil _ base e i.size, fun v2 h2 => kept_none h2 hgn⟩
  · by_cases hroom : n + m ≤ cap
    · have hfit : n * i.size + news.length ≤ cur.size := by rw [hl, hcs, ← Nat.add_mul]; exact Nat.mul_le_mul_right _ hroom
      have hr := run_append_room_src (P := P) w t tx ty e i ht hi g 0 n cap x m news hs hroom (fun j hj => by rw [cell_of_row w g _ _ _ _ hg, Array.getElem?_eq_getElem (by omega)]; rfl) (fun j hj => frozen_of_row w g _ _ _ hg)
      rw [Nat.zero_add] at hr
      obtain ⟨h1, h2⟩ := heap_setCells news w cur (n * i.size) hg
      have htk2 : (setV cur (n * i.size) news).toList.take ((n + m) * i.size) = xs ++ news := by
        apply List.ext_getElem?
        intro q
        rw [List.getElem?_take]
        have hxl := hown.1
        by_cases hq : q < (n + m) * i.size
        · rw [if_pos hq, Array.getElem?_toList, setV_get news cur (n * i.size) hfit q]
          by_cases hq2 : n * i.size ≤ q
          · rw [if_pos ⟨hq2, by rw [hl, ← Nat.add_mul]; exact hq⟩, List.getElem?_append_right (by omega), hxl]
          · rw [if_neg (by omega), List.getElem?_append_left (by omega), ← htake, List.getElem?_take, if_pos (by omega), Array.getElem?_toList]
        · rw [if_neg hq, List.getElem?_eq_none (by omega)]
      have htk1 : (setV cur (n * i.size) news).toList.take (n * i.size) = xs := by
        have h3 := congrArg (List.take (n * i.size)) htk2
        rw [List.take_take, Nat.min_eq_left (Nat.mul_le_mul_right _ (Nat.le_add_right _ _))] at h3
        rw [h3, ← hown.1, List.take_left]
      have hG : w.grownBy _ (some g) := ⟨h2.os, h2.tape, h2.output, by rw [h2.size]; exact Nat.le_refl _, fun k _ hk => h2.block k (fun e => hk (by rw [e]))⟩
      refine ⟨_, _, hr, ⟨hlen, .inr ⟨g, cap, _, rfl, hbg, h1, hroom, hcm, by rw [setV_size]; exact hcs, htk2⟩⟩, hG, (fun k hk => .inl hk), ⟨hown.1, .inr ⟨g, cap, _, rfl, hbg, h1, hnc, hcm, by rw [setV_size]; exact hcs, htk1⟩⟩, fun v2 hv2 => ?_⟩
      rcases hv2.2 with ⟨rfl, h0⟩ | ⟨g2, cap2, cur2, rfl, hb2, hg2, hn2, hc2, hs2, ht2⟩
      · exact hv2.kept hG (.inl rfl)
      · by_cases hgg : g2 = g
        · subst hgg
          rw [hg] at hg2
          cases hg2
          exact ⟨hlen, .inr ⟨g2, cap2, _, rfl, hb2, h1, hn2, hc2, by rw [setV_size]; exact hs2, htk2⟩⟩
        · exact hv2.kept hG (.inr (by simpa [Value.ownBlock] using hgg))
    · have holds : ∀ j u, xs[j]? = some u → w.cell? ((⟨g, 0, none⟩ : Addr).add j) = some u := hown.cells (g := g) rfl
      have hr := run_append_grow_src (P := P) w t tx ty e i z ht hi hz (some ⟨g, 0, none⟩) n cap xs (run_firstCells_some w.drew _ _ _ _ _ xs hown.1 (by simpa using holds)) x m news hs (by omega) (by omega) (growslice_fits (by omega) hbytes)
      have hgr := grown cap (by omega) (Value.ownBlock (.slice (some ⟨g, 0, none⟩) n cap))
      have hgn := (grown cap (by omega) none).2
      exact ⟨_, _, hr, hgr.1, hgr.2, (fun k hk => .inr (by cases hk; exact Nat.le_refl _)), kept_none hown hgn, fun v2 h2 => kept_none h2 hgn⟩
end

end Go.Proofs.YtfmecdmkepnlmaaDoor

/- A row of structs made in a flow, with what stayed. -/
namespace Go.Proofs.YtfmecdmkepnlmaaDoor
open Go.RowKit Go.Shelf
set_option linter.unusedVariables false
set_option linter.unusedSimpArgs false
set_option maxRecDepth 100000

/-- A slice of structs, made, in a flow. -/
theorem flow_rowsB {P : Program} {o : Oper} {a : Act} {w : World} {Q : Exit → Act → World → Prop} {I : Value → World → Prop} (t e : TypeId) (n sz : Nat) (ps : Array (Nat × Operand)) (ho : o.op = .buildSlice t n ps) (hu : P.underlying t = some (.slice e)) (hi : (P.info? e).map (fun i => (i.zero.isSome, i.size)) = some (true, sz))
    (vs : List (List Value)) (xs : List Operand) (hps : ps.toList = (xs.zipIdx 0).map fun p => (p.2, p.1)) (hx0 : xs.map a.eval = vs.map fun c => Value.agg c.toArray) (hc : ∀ c ∈ vs, c.length = sz) (hn : vs.length = n) (hn0 : 0 < n) (hs0 : 0 < sz) (hn1 : n * sz ≤ 16777216)
    (h : ∀ w', HasC w' w.heap.size e vs.flatten → Below w.heap.size w w' → I (.slice (some ⟨w.heap.size, 0, none⟩) n n) w') : o.wp P a w (fun a' w' => ∃ v, a' = a.put o.dst v ∧ I v w' ∧ Below w.heap.size w w') Q := by
  have hx : (ps.map fun (i, x) => (i, a.eval x)).toList = (vs.zipIdx 0).map fun p => (p.2, Value.agg p.1.toArray) := by
    have e1 : ((xs.map a.eval).zipIdx 0).map (fun p => (p.2, p.1)) = ((vs.map fun c => Value.agg c.toArray).zipIdx 0).map (fun p => (p.2, p.1)) := by rw [hx0]
    rw [List.zipIdx_map, List.zipIdx_map, List.map_map, List.map_map] at e1
    rw [Array.toList_map, hps, List.map_map]
    exact e1
  cases hq : P.info? e with
  | none => rw [hq] at hi; cases hi
  | some ie =>
    rw [hq] at hi
    simp only [Option.map_some, Option.some.injEq, Prod.mk.injEq] at hi
    obtain ⟨z, hz⟩ := Option.isSome_iff_exists.1 hi.1
    refine wp_buildSlice t e n ps ho vs.flatten.toArray ie z hu hq hz (by rw [hi.2]; omega) (by rw [hi.2]; have := Nat.mul_pos hn0 hs0; omega) ?_ ⟨_, rfl, h _ (heap_alloc_new w _) ((Below.refl _ w).alloc (Nat.le_refl _) _), (Below.refl _ w).alloc (Nat.le_refl _) _⟩
    rw [hx, hi.2]
    have hfl := flatten_rows sz vs hc
    have hf := fill_out (fun i => some (i * sz, sz)) ((vs.zipIdx 0).map fun p => (p.2, Value.agg p.1.toArray)) 0 ((Array.range (n * sz)).map (z.cells[· % z.cells.size]!)).toList (by have := partsAt_rows sz vs 0 hc; rw [Nat.zero_mul] at this; exact this) (by rw [outC_rows, hfl, hn]; simp)
    rw [outC_rows, List.take_zero, List.nil_append, Nat.zero_add, List.drop_of_length_le (by rw [hfl, hn]; simp), List.append_nil] at hf
    exact hf
/-- A part of a part. -/
theorem seg2 {ps qs : List (List Value)} {i k : Nat} {c : List Value} {off o2 tot : Nat} (hc : ps[i]? = some qs.flatten) (ho : (ps.take i).flatten.length = off) (hc2 : qs[k]? = some c) (ho2 : (qs.take k).flatten.length = o2) (ht : off + o2 = tot) (j : Nat) (v : Value) (h : c[j]? = some v) : ps.flatten[tot + j]? = some v := by
  have := seg hc ho (o2 + j) v (seg hc2 ho2 j v h)
  rw [← Nat.add_assoc, ht] at this
  exact this
end Go.Proofs.YtfmecdmkepnlmaaDoor

/- The document's value of a list of numbers. -/
namespace Go.Proofs.YtfmecdmkepnlmaaDoor
open Go.RowKit Go.Shelf
set_option linter.unusedVariables false
set_option maxRecDepth 100000

/-- The cells of numbers as values. -/
def rowN (ns : List Nat) : List Value := (ns.map fun n => valL n (zeros 32) nilS nilS).flatten
theorem sizeU1 : (Tryd.prog.info? 23).map (·.size) = some 1 := by kernel_rfl
theorem valInfo3 : (Tryd.prog.info? 40).map (fun i => (i.zero, i.size, i.bytes)) = some (some (.agg (valL 0 (zeros 32) nilS nilS).toArray), 35, 88) := by kernel_rfl
theorem HasC.grownO {w w' : World} {g : Nat} {t : TypeId} {cs : List Value} {row : Option Nat} (h : HasC w g t cs) (hG : w.grownBy w' row) (hg : row ≠ some g) : HasC w' g t cs := by
  unfold HasC; rw [hG.block g h.lt (fun e => hg e.symm)]; exact h
/-- Worlds between which only the row u may have grown: it owns what it owned, and whoever owned the longer row owns it. -/
structure AppR (u : Value) (base n : Nat) (xs ys : List Value) (w w' : World) : Prop where
  grown : w.grownBy w' u.ownBlock
  old : w.ownsRow base 40 35 u n xs → w'.ownsRow base 40 35 u n xs
  new : ∀ v, w.ownsRow base 40 35 v (n + 1) ys → w'.ownsRow base 40 35 v (n + 1) ys
theorem AppR.refl {u : Value} {base n : Nat} {xs ys : List Value} (w : World) : AppR u base n xs ys w w := ⟨⟨rfl, rfl, rfl, Nat.le_refl _, fun _ _ _ => rfl⟩, id, fun _ h => h⟩
theorem grownO_trans {w w1 w2 : World} {row : Option Nat} (h : w.grownBy w1 row) (k : w1.grownBy w2 row) : w.grownBy w2 row :=
  ⟨k.os.trans h.os, k.tape.trans h.tape, k.output.trans h.output, Nat.le_trans h.size k.size, fun j hj hne => (k.block j (Nat.lt_of_lt_of_le hj h.size) hne).trans (h.block j hj hne)⟩
theorem AppR.trans {u : Value} {base n : Nat} {xs ys : List Value} {a b c : World} (h : AppR u base n xs ys a b) (k : AppR u base n xs ys b c) : AppR u base n xs ys a c :=
  ⟨grownO_trans h.grown k.grown, fun x => k.old (h.old x), fun v x => k.new v (h.new v x)⟩
theorem AppR.of_below {u : Value} {base n : Nat} {xs ys : List Value} {w w' : World} (h : Below w.heap.size w w') : AppR u base n xs ys w w' :=
  ⟨⟨h.os, h.tape, h.output, h.size, fun k hk _ => h.block k hk⟩, fun x => own_keep x h, fun _ x => own_keep x h⟩
theorem AppR.drew {u : Value} {base n : Nat} {xs ys : List Value} (w : World) : AppR u base n xs ys w { w with drawn := w.drawn + 1 } := AppR.of_below ⟨rfl, rfl, rfl, Nat.le_refl _, fun _ _ => rfl⟩
theorem wp_runW {P : Program} {o : Oper} {a : Act} {w w' : World} {K : Act → World → Prop} {Q : Exit → Act → World → Prop} {v : Value} (hrun : (execOp a.eval o).run P w = .ok (.value v) w') (h : K (a.put o.dst v) w') : o.wp P a w K Q := by
  unfold Oper.wp; rw [hrun]; exact h
theorem val_src {w : World} {b x : Nat} (h : HasC w b 40 (valL x (zeros 32) nilS nilS)) : Src Tryd.prog 35 38 (.slice (some ⟨b, 0, none⟩) 1 1) 1 (valL x (zeros 32) nilS nilS) w := by
  refine Src.ofSlice w Tryd.underlying38 ⟨b, 0, none⟩ 1 1 _ (by rw [valL_length _ _ _ _ zeros32]) (fun j u hj => by rw [Addr.add_lit, Nat.zero_add]; exact h.cell hj) (fun u hu => ?_)
  have := valL_oneC x (zeros 32) nilS nilS trivial trivial
  exact (Array.all_eq_true_iff_forall_mem.1 this) u (by simpa using hu)
theorem rowN_succ (ns : List Nat) (t : Nat) (h : t < ns.length) : rowN (ns.take t) ++ valL (ns.getD t 0) (zeros 32) nilS nilS = rowN (ns.take (t + 1)) := by
  unfold rowN
  rw [List.take_add_one, List.getElem?_eq_getElem h, List.getD_eq_getElem?_getD, List.getElem?_eq_getElem h]
  show _ = (List.map (fun n => valL n (zeros 32) nilS nilS) (ns.take t ++ [ns[t]])).flatten
  rw [List.map_append, List.flatten_append]
  simp only [List.map_cons, List.map_nil, List.flatten_cons, List.flatten_nil, List.append_nil]
  rfl
theorem HasC.setCell {w : World} {g : Nat} {t : TypeId} {cs : List Value} (h : HasC w g t cs) (j : Nat) (v : Value) : HasC (w.setCell ⟨g, j, none⟩ v) g t (cs.set j v) := by
  unfold HasC at *
  simp [World.setCell, Array.getElem?_modify, h]
theorem valL_set34 (u v : Value) : (valL 0 (zeros 32) nilS u).set 34 v = valL 0 (zeros 32) nilS v := by kernel_rfl
set_option maxHeartbeats 1000000 in
theorem refNumbers_any (v : Value) (ns : List Nat) (w : World) (hN : IsN w v ns) (hl : ns.length ≤ 500) :
    Calls Tryd.prog 20 #[v] w fun e w' => ∃ u, e = .returned (.agg (valL 0 (zeros 32) nilS u).toArray) ∧ w'.ownsRow (w.heap.size + 2) 40 35 u ns.length (rowN ns) ∧ Below w.heap.size w w' := by
  obtain ⟨⟨nao, ncap, rfl, hcap, hmx, hc⟩, h64⟩ := hN
  have HC := hid hc
  have H64 := hid h64
  clear hc h64
  go_enter Tryd.func20, Tryd.ntmps20
  go_wp2_with ((with_reducible refine at_list' ?_); first
    | (refine wpList_alloc_c Tryd.ty40 rfl 2 rfl rfl ?_; intro w1 H1 B1 S1)
    | (refine wpList_build_c rfl _ rfl #[] (by simp) _ (build_none _) ?_)
    | (refine wpList_alloc_c Tryd.ty40 rfl 3 rfl rfl ?_; intro w2 H2 B2 S2; rw [S1] at H2 S2; simp only [S1])
    | (refine wpList_store_c Tryd.ty40 rfl (.tmp 3) (.tmp 5) rfl (w.heap.size + 1) (valL 0 (zeros 32) nilS nilS) rfl rfl rfl (valL_oneC _ _ _ _ trivial trivial) _ H2 rfl ?_; intro w3 H3 O3))
  have L3 := below_only (B1.trans (B2.mono B1.size)) O3 (by omega)
  have X3 := hid (And.intro H3 (And.intro ((H1.keep B2).only O3 (by omega)) L3))
  clear H1 B1 S1 H2 B2 S2 H3 O3 L3
  go_loopw [4] (fun i wr => ∃ (t : Nat) (u : Value), t ≤ ns.length ∧ i = .int .i64 t ∧ HasC wr (w.heap.size + 1) 40 (valL 0 (zeros 32) nilS u) ∧ wr.ownsRow (w.heap.size + 2) 40 35 u t (rowN (ns.take t)) ∧ HasC wr w.heap.size 40 (valL 0 (zeros 32) nilS nilS) ∧ Below w.heap.size w wr) (fun i _ => ns.length - (intOf i).toNat)
  case atStart => exact ⟨0, nilS, Nat.zero_le _, rfl, X3.out.1, World.ownsRow_nil _ _ _ _, X3.out.2.1, X3.out.2.2⟩
  case round =>
    clear X3
    obtain ⟨t, u, ht, rfl, hX, hown, hA, hW⟩ := hrel
    have hxl := hX.lt
    have hwl := hW.size
    have hol := fun g hg => (own_lt hown g hg)
    by_cases hlt : t < ns.length
    · obtain ⟨nb, noff, rfl, hcc⟩ := HC.out.resolve_left (by omega)
      have hct := cell_keep hW (hcc t hlt)
      have hnb : nb < w.heap.size := block_lt_of_cell (hcc t hlt)
      have hsu := rowN_succ ns t hlt
      obtain ⟨x, HX⟩ : ∃ x, Same (ns.getD t 0) x := ⟨_, ⟨rfl⟩⟩
      rw [HX.out] at hct hsu
      have HF := hid (And.intro hX (And.intro (fun e => by have := (hol _ e).1; omega : u.ownBlock ≠ some (w.heap.size + 1)) (And.intro (show wr.cell? ⟨nb, noff + t * 1, none⟩ = some (.int .u64 (x : Nat)) by rw [Nat.mul_one]; exact hct) (And.intro (fun e => by have := (hol _ e.symm).1; omega : some nb ≠ u.ownBlock) (And.intro (fun g hg => (hol g hg).2 : ∀ g, u.ownBlock = some g → g < wr.heap.size) (And.intro hown (show w.heap.size + 2 ≤ wr.heap.size by omega)))))))
      have HO := hid (And.intro hA (And.intro hW (And.intro hsu (fun g hg => (hol g hg).1 : ∀ g, u.ownBlock = some g → w.heap.size + 2 ≤ g))))
      clear hct hsu hcc hX hown hA hW hol
      go_wp2_with fail
      try simp only [Act.put, List.setIfInBounds_toArray, List.set_cons_succ, List.set_cons_zero]
      refine wp_region_flowR (AppR u (w.heap.size + 2) t (rowN (ns.take t)) (rowN (ns.take t) ++ valL x (zeros 32) nilS nilS)) 10 10 (fun i v wq => match i with
        | 0 => v = .pointer (some ⟨w.heap.size + 1, 34, none⟩)
        | 1 => v = u
        | 2 => v = .slice (some ⟨nb, noff, none⟩) ns.length ncap
        | 3 => v = .int .i64 (t : Nat)
        | 4 => v = .pointer (some ⟨nb, noff + t * 1, none⟩)
        | 5 => v = .int .u64 (x : Nat)
        | 6 => v = .agg (valL x (zeros 32) nilS nilS).toArray
        | 7 => ∃ b, wr.heap.size ≤ b ∧ v = .slice (some ⟨b, 0, none⟩) 1 1 ∧ HasC wq b 40 (valL x (zeros 32) nilS nilS)
        | 8 => wq.ownsRow (w.heap.size + 2) 40 35 v (t + 1) (rowN (ns.take t) ++ valL x (zeros 32) nilS nilS)
        | _ => v = .pointer (some ⟨w.heap.size + 1, 34, none⟩)) (by kernel_rfl) (by kernel_rfl) (AppR.refl) (fun _ _ _ h k => h.trans k) (AppR.drew) (fun _ d _ _ _ h => by cases d <;> exact h) ?_ ?_ ?_ ?_ ?_
      · intro i o g b hi ho hg v wq hv
        match i, hi with
        | 0, _ => cases ho; cases hg
        | 1, _ => cases ho; cases hg
        | 2, _ => cases ho; cases hg
        | 3, _ => cases ho; cases hg
        | 4, _ => cases ho; cases hg
        | 5, _ => cases ho; cases hg
        | 6, _ => cases ho; cases hg
        | 7, _ => cases ho; cases hg
        | 8, _ => cases ho; cases hg
        | 9, _ => cases ho; cases hg
        | (k + 10), hk => exact absurd hk (by omega)
      · intro i v wq wq' hi hv hb
        match i, hi with
        | 0, _ => exact hv
        | 1, _ => exact hv
        | 2, _ => exact hv
        | 3, _ => exact hv
        | 4, _ => exact hv
        | 5, _ => exact hv
        | 6, _ => exact hv
        | 7, _ => obtain ⟨b, h1, h2, h3⟩ := hv; exact ⟨b, h1, h2, h3.grownO hb.grown (fun e => by have := HF.out.2.2.2.2.1 _ e; omega)⟩
        | 8, _ => exact hb.new _ hv
        | 9, _ => exact hv
        | (k + 10), hk => exact absurd hk (by omega)
      · intro i o hi ho aq wq hc hk hdep
        match i, hi with
        | 0, _ =>
          cases ho
          refine flowR_of (fun w' h => AppR.of_below h) ?_
          have e1 : aq.tmps.getD 3 undef = .pointer (some ⟨w.heap.size + 1, 0, none⟩) := hk 3 (by decide)
          exact flow_value _ (run_fieldAt 40 (.tmp 3) 3 rfl _ _ e1 (by kernel_rfl)) rfl
        | 1, _ =>
          cases ho
          refine flowR_of (fun w' h => AppR.of_below h) ?_
          have e0 : aq.tmps.getD 12 undef = .pointer (some ⟨w.heap.size + 1, 34, none⟩) := hdep 0 12 rfl (by kernel_rfl)
          exact flow_value _ (run_cell 38 (.tmp 12) rfl _ e0 _ ((HF.out.1.grownO hc.grown HF.out.2.1).cell (valL_34 0 (zeros 32) nilS u zeros32)) _ Tryd.underlying38 rfl) rfl
        | 2, _ =>
          cases ho
          refine flowR_of (fun w' h => AppR.of_below h) ?_
          exact flow_move (.tmp 0) rfl (hk 0 (by decide))
        | 3, _ =>
          cases ho
          refine flowR_of (fun w' h => AppR.of_below h) ?_
          exact flow_move (.tmp 4) rfl (hk 4 (by decide))
        | 4, _ =>
          cases ho
          refine flowR_of (fun w' h => AppR.of_below h) ?_
          have e0 : aq.tmps.getD 14 undef = .slice (some ⟨nb, noff, none⟩) ns.length ncap := hdep 2 14 rfl (by kernel_rfl)
          have e1 : aq.tmps.getD 15 undef = .int .i64 (t : Nat) := hdep 3 15 rfl (by kernel_rfl)
          exact flow_value _ (run_atG 22 23 1 (.tmp 14) (.tmp 15) rfl Tryd.underlying22 sizeU1 nb noff ns.length ncap t e0 e1 hlt) rfl
        | 5, _ =>
          cases ho
          refine flowR_of (fun w' h => AppR.of_below h) ?_
          have e0 : aq.tmps.getD 16 undef = .pointer (some ⟨nb, noff + t * 1, none⟩) := hdep 4 16 rfl (by kernel_rfl)
          exact flow_value _ (run_cell 23 (.tmp 16) rfl _ e0 _ (hc.grown.cell HF.out.2.2.1 HF.out.2.2.2.1) _ Tryd.underlying23 rfl) rfl
        | 6, _ =>
          cases ho
          refine flowR_of (fun w' h => AppR.of_below h) ?_
          have e0 : aq.tmps.getD 17 undef = .int .u64 (x : Nat) := hdep 5 17 rfl (by kernel_rfl)
          refine flow_fun 57 _ _ rfl (fun _ _ => by simp [go_sem]) #[.int .u64 (x : Nat)] (by rw [show (#[Operand.tmp 17] : Array Operand).map aq.eval = #[aq.tmps.getD 17 undef] from by simp [Act.eval], e0]) ?_
          refine (n_any x wq).mono ?_
          rintro e w' ⟨rfl, q⟩
          exact ⟨_, rfl, rfl, q⟩
        | 7, _ =>
          cases ho
          refine flowR_of (fun w' h => AppR.of_below h) ?_
          have e0 : aq.tmps.getD 18 undef = .agg (valL x (zeros 32) nilS nilS).toArray := hdep 6 18 rfl (by kernel_rfl)
          refine flow_rowsB 38 40 1 35 _ rfl Tryd.underlying38 valInfo [valL x (zeros 32) nilS nilS] [.tmp 18] rfl (by rw [show [Operand.tmp 18].map aq.eval = [aq.tmps.getD 18 undef] from rfl, e0]; rfl) (by simp [valL_length, zeros32]) rfl (by decide) (by decide) (by decide) (fun w' h hb => ⟨wq.heap.size, hc.grown.size, rfl, (by simpa using h)⟩)
        | 8, _ =>
          cases ho
          obtain ⟨b, h1, e1, h3⟩ := hdep 7 19 rfl (by kernel_rfl)
          have e0 : aq.tmps.getD 13 undef = u := hdep 1 13 rfl (by kernel_rfl)
          obtain ⟨i0, hi, hz0, hz1, hz2⟩ := info_parts valInfo3
          obtain ⟨v2, w2, hrun, hown2, hg2, hmv, hk1, hk2⟩ := run_append_kept (P := Tryd.prog) wq (w.heap.size + 2) 38 38 38 40 i0 _ 35 _ Tryd.underlying38 hi hz0 hz1 hz2 rfl (by decide) u t _ (hc.old HF.out.2.2.2.2.2.1) (.slice (some ⟨b, 0, none⟩) 1 1) 1 (valL x (zeros 32) nilS nilS) (val_src h3) (by unfold maxLen; omega) (by omega) (by have := hc.grown.size; have := HF.out.2.2.2.2.2.2; omega)
          exact wp_runW (run_call_append (.tmp 13) (.tmp 19) 38 38 rfl u (.slice (some ⟨b, 0, none⟩) 1 1) v2 e0 e1 hrun) ⟨v2, rfl, hown2, ⟨hg2, fun _ => hk1, hk2⟩⟩
        | 9, _ =>
          cases ho
          refine flowR_of (fun w' h => AppR.of_below h) ?_
          have e1 : aq.tmps.getD 3 undef = .pointer (some ⟨w.heap.size + 1, 0, none⟩) := hk 3 (by decide)
          exact flow_value _ (run_fieldAt 40 (.tmp 3) 3 rfl _ _ e1 (by kernel_rfl)) rfl
        | (k + 10), hk => exact absurd hk (by omega)
      · intro o h10 ho
        omega
      intro vf w8 hc hv hv2
      have e9 : vf 9 = _ := hv 9 21 (by decide) rfl
      have h8 : w8.ownsRow (w.heap.size + 2) 40 35 (vf 8) (t + 1) _ := hv 8 20 (by decide) rfl
      obtain ⟨g1, cap1, e8⟩ := ownsRow_succ h8
      rw [e8, HO.out.2.2.1] at h8
      have hX8 := HF.out.1.grownO hc.grown HF.out.2.1
      have hA8 := HO.out.1.grownO hc.grown (fun e => by have := HO.out.2.2.2 _ e; omega)
      have L8 := HO.out.2.1.grown hc.grown hwl (fun k hk => by have := HO.out.2.2.2 _ hk; omega)
      clear hv hv2 hc
      simp only [List.take_succ_cons, List.take_zero, List.drop_succ_cons, List.drop_zero, putAll, Act.put, List.setIfInBounds_toArray, List.set_cons_succ, List.set_cons_zero]
      rw [e8, e9]
      have c34 := hX8.cell (valL_34 0 (zeros 32) nilS u zeros32)
      have f34 := frozen_of_row w8 (w.heap.size + 1) 34 _ _ hX8
      have Y8 := hid (And.intro h8 (And.intro hX8 (And.intro hA8 L8)))
      clear e8 e9 h8 hX8 hA8 L8
      go_wp2_with fail
      have hO := Only.setCell w8 (w.heap.size + 1) 34 (.slice (some ⟨g1, 0, none⟩) (t + 1) cap1)
      have hX9 := Y8.out.2.1.setCell 34 (.slice (some ⟨g1, 0, none⟩) (t + 1) cap1)
      rw [valL_set34] at hX9
      have hg1 := (own_lt Y8.out.1 g1 rfl).1
      refine ⟨⟨t + 1, _, by omega, by go_num, hX9, own_only Y8.out.1 hO (fun _ => by simp [Value.ownBlock]; omega) (by simp [Value.ownBlock]; omega), Y8.out.2.2.1.only hO (by omega), below_only Y8.out.2.2.2 hO (by omega)⟩, by simp [intOf]; omega⟩
    · have ht2 : t = ns.length := by omega
      subst ht2
      rw [List.take_of_length_le (Nat.le_refl _)] at hown
      have HO := hid (And.intro hX (And.intro hown (And.intro hA hW)))
      have hun : u.oneCell' = true := by
        rcases hown.2 with ⟨rfl, _⟩ | ⟨g, cap, cur, rfl, _⟩ <;> rfl
      have husl : isSl u := by
        rcases hown.2 with ⟨rfl, _⟩ | ⟨g, cap, cur, rfl, _⟩ <;> trivial
      clear hX hown hA hW hol
      go_wp2_with ((with_reducible refine at_list' ?_); first
        | (refine wpList_load_c Tryd.ty40 rfl (.tmp 3) rfl (w.heap.size + 1) (valL 0 (zeros 32) nilS u) rfl rfl HO.out.1 ?_)
        | (refine wpList_store_c Tryd.ty40 rfl (.tmp 2) (.tmp 22) rfl w.heap.size (valL 0 (zeros 32) nilS u) rfl rfl rfl (valL_oneC _ _ _ _ trivial husl) _ HO.out.2.2.1 rfl ?_; intro w9 H9 O9))
      refine bodyPost_ret (results_c1 Tryd.ty40 rfl _ w9 w.heap.size _ rfl H9 rfl) rfl ⟨u, rfl, own_only HO.out.2.1 O9 (fun _ e => by have := (own_lt HO.out.2.1 _ e).1; omega) (fun e => by have := (own_lt HO.out.2.1 _ e).1; omega), below_only HO.out.2.2.2 O9 (Nat.le_refl _)⟩
end Go.Proofs.YtfmecdmkepnlmaaDoor

