/- Own texts of the proof, joined: EncG FlowM Lw5Pending AnsPd TakeS TakeVt GoodAt. -/
import Derived.Test.YtoajeencniomoaaGreatH1
/- The document's Encode at parts; the recursion. -/
namespace Go.Proofs.YtoajeencniomoaaGreat
open Go.RowKit
set_option linter.unusedVariables false
set_option maxRecDepth 100000

theorem RowP.form {w : World} {base : Nat} {v : Value} {us : List Value} (h : RowP w base v us) (h0 : 0 < us.length) : ∃ g cap, v = .slice (some ⟨g, 0, none⟩) us.length cap ∧ us.length ≤ cap ∧ cap ≤ maxLen ∧ ∀ (i : Nat) u, us[i]? = some u → w.cell? ⟨g, i, none⟩ = some u := by
  obtain ⟨_, h⟩ := h
  rcases h with ⟨rfl, h1⟩ | ⟨g, cap, cur, rfl, hb, hg, hc, hm, hcs, htk⟩
  · omega
  · refine ⟨g, cap, rfl, hc, hm, fun i u hu => ?_⟩
    have hi := (List.getElem?_eq_some_iff.1 hu).1
    rw [cell_of_row w g i cur _ (0, 0) hg]
    have : (cur.toList.take (us.length * 1))[i]? = us[i]? := by rw [htk]
    rw [List.getElem?_take, if_pos (by omega), Array.getElem?_toList] at this
    rw [this, hu]
theorem RowP.lt {w : World} {base : Nat} {v : Value} {us : List Value} (h : RowP w base v us) (k : Nat) (hk : v.ownBlock = some k) : base ≤ k ∧ k < w.heap.size := World.ownsRow.lt h k hk
theorem RowP.below {w w' : World} {base : Nat} {v : Value} {us : List Value} (h : RowP w base v us) (hb : Below w.heap.size w w') : RowP w' base v us := by
  obtain ⟨hl, h⟩ := h
  refine ⟨hl, ?_⟩
  rcases h with h | ⟨g, cap, cur, rfl, hb', hg', r⟩
  · exact .inl h
  · exact .inr ⟨g, cap, cur, rfl, hb', (hb.block g (Array.getElem?_eq_some_iff.1 hg').1).trans hg', r⟩

set_option maxHeartbeats 1000000 in
theorem enc_none (f num : Nat) (hf : f = 0 ∨ f = 4 ∨ f = 5 ∨ f = 8) (r : List Nat) (sb : Value) (aok : Option Addr) (capk p : Nat) (w : World) (hr : r.length = 32) (d0 : w.cell? ⟨p, 0, none⟩ = some (.int .i64 (f : Nat))) :
    Calls Tryz.prog 13 #[.pointer (some ⟨p, 0, none⟩), .agg (valL num r sb (.slice aok 0 capk)).toArray] w fun x w' => ∃ v, x = .returned v ∧ Row w' w.heap.size v [] ∧ Below w.heap.size w w' := by
  have HR := hid hr
  clear hr
  rcases hf with rfl | rfl | rfl | rfl
  all_goals
    go_enter Tryz.func13, Tryz.ntmps13
    go_wp2_with ((with_reducible refine at_list' ?_); first
      | (refine wpList_box_c rfl 3 rfl (.tmp 1) rfl (valL num r sb (.slice aok 0 capk)) rfl ?_; intro w1 H1 B1 S1; have hc0 := H1.cell (valL_34 num r sb _ HR.out); have d1 := cell_keep B1 d0))
    have HB := hid B1
    have s1 := S1
    clear H1 B1 S1 d0
    go_loopw [5, 6] (fun kd i wr => kd = .slice none 0 0 ∧ i = .int .i64 0 ∧ wr = w1) (fun _ i _ => 0)
    case atStart => exact ⟨rfl, rfl, rfl⟩
    case round =>
      obtain ⟨rfl, rfl, hwr⟩ := hrel
      replace hwr := hwr.symm
      subst hwr
      go_wp2_with (go_at_call 52; refine (ser_nil aok capk w1).mono ?_; rintro x w2 ⟨rfl, B2⟩; have HB2 := hid (below_more HB.out B2 (Nat.le_refl _)); clear B2)
      go_ret
      exact ⟨_, rfl, Row.nil _ _, HB2.out⟩

set_option maxHeartbeats 4000000 in
theorem enc_some0 (N : Nat) (IH : ∀ (d : Dt) (v : Vt) (sb sk : Value) (p : Nat) (w : World), v.deep ≤ N → okD d → okV d v → DAt w d p → VAt w v sb sk → Calls Tryz.prog 13 #[.pointer (some ⟨p, 0, none⟩), .agg (valL v.num v.root sb sk).toArray] w fun e w' => ∃ u, e = .returned u ∧ Row w' w.heap.size u (encV d v) ∧ Below w.heap.size w w')
    (m bd od dl capd num : Nat) (ds : List Dt) (r : List Nat) (ks : List Vt) (sb : Value) (bv ov capk p : Nat) (w : World) (hr : r.length = 32) (hm0 : 0 < m) (hm : m ≤ 1048576) (hks : ks.length = m) (hdl : ds.length = dl) (hd0 : 0 < dl) (h8 : 0 = 8 → m ≤ dl) (hN : deepK ks ≤ N) (hok : okDs ds) (hov : okK (kdsV 0 ds m) ks) (hb : lenF (encK (kdsV 0 ds m) ks) ≤ 274877906944)
    (hD : DsAt w ds bd od) (hK : KsAt w ks bv ov) (hc1 : dl ≤ capd) (hc2 : capd ≤ maxLen) (hc3 : m ≤ capk) (hc4 : capk ≤ maxLen)
    (d0 : w.cell? ⟨p, 0, none⟩ = some (.int .i64 (0 : Nat))) (d2 : w.cell? ⟨p, 2, none⟩ = some (.slice (some ⟨bd, od, none⟩) dl capd)) :
    Calls Tryz.prog 13 #[.pointer (some ⟨p, 0, none⟩), .agg (valL num r sb (.slice (some ⟨bv, ov, none⟩) m capk)).toArray] w fun x w' => ∃ v, x = .returned v ∧ Row w' w.heap.size v (cont (encK (kdsV 0 ds m) ks)) ∧ Below w.heap.size w w' := by
  have hkl := kdsV_length 0 ds m (fun e => by rw [hdl]; exact h8 e) (fun _ => by rw [hdl]; exact hd0)
  have hkg : ∀ (k : Nat) d, (kdsV 0 ds m)[k]? = some d → (0 = 8 → ds[k]? = some d) ∧ (0 ≠ 8 → ds[0]? = some d) := fun k d h => kdsV_get h
  have hko := kdsV_ok (f := 0) (n := m) hok
  have hby := encK_byte ks hK (kdsV 0 ds m)
  have HSER := hid (ser_step N IH)
  generalize kdsV 0 ds m = kds at *
  obtain ⟨C, hC⟩ : ∃ C, Same (cont (encK kds ks)) C := ⟨_, ⟨rfl⟩⟩
  rw [hC.out]
  have HKG := hid hkg
  have HKL := hid hkl
  have HR := hid hr
  have HD := hid hD
  have HK := hid hK
  have HX := hid (And.intro hko (And.intro hby (And.intro hov hb)))
  have HKS := hid hks
  have HDL := hid hdl
  clear IH hkg hkl hr hD hK hko hby hov hb hks hdl hok
  go_enter Tryz.func13, Tryz.ntmps13
  go_wp2_with ((with_reducible refine at_list' ?_); first
    | (refine wpList_box_c rfl 3 rfl (.tmp 1) rfl (valL num r sb (.slice (some ⟨bv, ov, none⟩) m capk)) rfl ?_; intro w1 H1 B1 S1; have d1 := cell_keep B1 d0))
  have HC1 := hid H1
  have HB1 := hid B1
  have hs1 := H1.lt
  clear H1 B1 S1 d1
  go_loopw [5, 6] (fun kd i wr => ∃ (k : Nat) (ps : List Value), k ≤ m ∧ ps.length = k ∧ i = .int .i64 (k : Nat) ∧ RowP wr (w.heap.size + 1) kd ps ∧ (∀ (j : Nat) d, j < k → kds[j]? = some d → ∃ q, ps[j]? = some (.pointer (some ⟨q, 0, none⟩)) ∧ DAt w d q) ∧ HasC wr w.heap.size 33 (valL num r sb (.slice (some ⟨bv, ov, none⟩) m capk)) ∧ Below w.heap.size w wr) (fun _ i _ => m - (intOf i).toNat)
  case atStart => exact ⟨0, [], by omega, rfl, rfl, World.ownsRow_nil _ _ _ _, (fun j d hj => by omega), HC1.out, HB1.out⟩
  case round =>
    clear HC1 HB1 hs1
    obtain ⟨k, ps, hk, hpl, rfl, hR, hP, hH, hB⟩ := hrel
    have hc0 := hH.cell (valL_34 num r sb _ HR.out)
    have hsz := hH.lt
    by_cases hkm : k < m
    · obtain ⟨d, hd⟩ : ∃ d, kds[k]? = some d := ⟨_, List.getElem?_eq_getElem (by rw [HKL.out]; exact hkm)⟩
      have hg := HKG.out k d hd
      obtain ⟨q, hpc, hDq⟩ := HD.out.get (hg.2 (by decide))
      have hpc2 := cell_keep hB hpc
      have e0 := cell_keep hB d0
      have e2 := cell_keep hB d2
      rw [Nat.add_zero] at hpc2
      have HRP := hid hR
      have HP := hid hP
      have HH := hid hH
      have HB := hid hB
      have HPL := hid hpl
      have HDQ := hid hDq
      have HD2 := hid hd
      have BA : Below wr.heap.size wr (wr.alloc (.cells #[.pointer (some ⟨q, 0, none⟩)] 41)) := (Below.refl _ wr).alloc (Nat.le_refl _) _
      have HBA := hid BA
      clear hR hP hH hB hpl hDq hd hg hpc BA
      go_wp2_with (at_builtin; refine wpList_append_p rfl (.tmp 60) (.tmp 67) rfl (w.heap.size + 1) u5 ps rfl (HRP.out.below HBA.out) wr.heap.size (.pointer (some ⟨q, 0, none⟩)) rfl (cell_of_one (heap_alloc_new wr _)) rfl (by rw [HPL.out]; omega) (by have := HBA.out.size; omega) ?_; intro v5 w5 R5 G5 M5; have HR5 := hid R5; have HG5 := hid G5; clear R5 G5 M5)
      go_roundw
      case rel =>
        have hl5 : (ps ++ [Value.pointer (some ⟨q, 0, none⟩)]).length = k + 1 := by simp [HPL.out]
        have hlt : ∀ j, u5.ownBlock = some j → w.heap.size + 1 ≤ j := fun j hj => (HRP.out.lt j hj).1
        refine ⟨k + 1, ps ++ [Value.pointer (some ⟨q, 0, none⟩)], by omega, hl5, by go_num, HR5.out, fun j d' hj hd' => ?_, ?_, ?_⟩
        · by_cases hjk : j < k
          · obtain ⟨q', h1, h2⟩ := HP.out j d' hjk hd'
            exact ⟨q', by rw [List.getElem?_append_left (by rw [HPL.out]; exact hjk)]; exact h1, h2⟩
          · obtain rfl : j = k := by omega
            rw [HD2.out] at hd'
            cases hd'
            exact ⟨q, by rw [List.getElem?_append_right (by rw [HPL.out]; exact Nat.le_refl _), HPL.out, Nat.sub_self]; rfl, HDQ.out⟩
        · have h1 := HH.out.keep HBA.out
          exact (HG5.out.block w.heap.size h1.lt (fun e => by have := hlt _ e.symm; omega)).trans h1
        · have h1 := below_more HB.out HBA.out (Nat.le_refl _)
          exact h1.grown HG5.out h1.size (fun j hj => by have := hlt j hj; omega)
      case measure => simp [intOf]; omega
    · have hke : m = k := by omega
      subst hke
      obtain ⟨g, cap, rfl, hgc1, hgc2, hgc⟩ := hR.form (by omega)
      rw [hpl] at hgc1 ⊢
      have hDk : DsAt wr kds g 0 := dsAt_of kds g 0 fun i d hd => by
        have hi : i < m := by have := (List.getElem?_eq_some_iff.1 hd).1; rw [HKL.out] at this; exact this
        obtain ⟨q, h1, h2⟩ := hP i d hi hd
        exact ⟨q, by rw [Nat.zero_add]; exact hgc i _ h1, h2.keep hB⟩
      have HS := hid (HSER.out kds ks m g 0 cap bv ov capk wr HKL.out HKS.out hm0 hm hN HX.out.1 HX.out.2.2.1 HX.out.2.1 HX.out.2.2.2 hDk (HK.out.keep hB) hgc1 hgc2 hc3 hc4)
      rw [hC.out] at HS
      have HB := hid hB
      clear hDk hgc hR hP hH hB hpl
      go_wp2_with (go_at_call 52; refine HS.out.mono ?_; rintro x w2 ⟨u, rfl, R2, B2⟩; have HR2 := hid R2; have HB2 := hid (below_more HB.out B2 (Nat.le_refl _)); clear R2 B2)
      go_ret
      exact ⟨_, rfl, HR2.out.base HB.out.size, HB2.out⟩

set_option maxHeartbeats 4000000 in
theorem enc_some4 (N : Nat) (IH : ∀ (d : Dt) (v : Vt) (sb sk : Value) (p : Nat) (w : World), v.deep ≤ N → okD d → okV d v → DAt w d p → VAt w v sb sk → Calls Tryz.prog 13 #[.pointer (some ⟨p, 0, none⟩), .agg (valL v.num v.root sb sk).toArray] w fun e w' => ∃ u, e = .returned u ∧ Row w' w.heap.size u (encV d v) ∧ Below w.heap.size w w')
    (m bd od dl capd num : Nat) (ds : List Dt) (r : List Nat) (ks : List Vt) (sb : Value) (bv ov capk p : Nat) (w : World) (hr : r.length = 32) (hm0 : 0 < m) (hm : m ≤ 1048576) (hks : ks.length = m) (hdl : ds.length = dl) (hd0 : 0 < dl) (h8 : 4 = 8 → m ≤ dl) (hN : deepK ks ≤ N) (hok : okDs ds) (hov : okK (kdsV 4 ds m) ks) (hb : lenF (encK (kdsV 4 ds m) ks) ≤ 274877906944)
    (hD : DsAt w ds bd od) (hK : KsAt w ks bv ov) (hc1 : dl ≤ capd) (hc2 : capd ≤ maxLen) (hc3 : m ≤ capk) (hc4 : capk ≤ maxLen)
    (d0 : w.cell? ⟨p, 0, none⟩ = some (.int .i64 (4 : Nat))) (d2 : w.cell? ⟨p, 2, none⟩ = some (.slice (some ⟨bd, od, none⟩) dl capd)) :
    Calls Tryz.prog 13 #[.pointer (some ⟨p, 0, none⟩), .agg (valL num r sb (.slice (some ⟨bv, ov, none⟩) m capk)).toArray] w fun x w' => ∃ v, x = .returned v ∧ Row w' w.heap.size v (cont (encK (kdsV 4 ds m) ks)) ∧ Below w.heap.size w w' := by
  have hkl := kdsV_length 4 ds m (fun e => by rw [hdl]; exact h8 e) (fun _ => by rw [hdl]; exact hd0)
  have hkg : ∀ (k : Nat) d, (kdsV 4 ds m)[k]? = some d → (4 = 8 → ds[k]? = some d) ∧ (4 ≠ 8 → ds[0]? = some d) := fun k d h => kdsV_get h
  have hko := kdsV_ok (f := 4) (n := m) hok
  have hby := encK_byte ks hK (kdsV 4 ds m)
  have HSER := hid (ser_step N IH)
  generalize kdsV 4 ds m = kds at *
  obtain ⟨C, hC⟩ : ∃ C, Same (cont (encK kds ks)) C := ⟨_, ⟨rfl⟩⟩
  rw [hC.out]
  have HKG := hid hkg
  have HKL := hid hkl
  have HR := hid hr
  have HD := hid hD
  have HK := hid hK
  have HX := hid (And.intro hko (And.intro hby (And.intro hov hb)))
  have HKS := hid hks
  have HDL := hid hdl
  clear IH hkg hkl hr hD hK hko hby hov hb hks hdl hok
  go_enter Tryz.func13, Tryz.ntmps13
  go_wp2_with ((with_reducible refine at_list' ?_); first
    | (refine wpList_box_c rfl 3 rfl (.tmp 1) rfl (valL num r sb (.slice (some ⟨bv, ov, none⟩) m capk)) rfl ?_; intro w1 H1 B1 S1; have d1 := cell_keep B1 d0))
  have HC1 := hid H1
  have HB1 := hid B1
  have hs1 := H1.lt
  clear H1 B1 S1 d1
  go_loopw [5, 6] (fun kd i wr => ∃ (k : Nat) (ps : List Value), k ≤ m ∧ ps.length = k ∧ i = .int .i64 (k : Nat) ∧ RowP wr (w.heap.size + 1) kd ps ∧ (∀ (j : Nat) d, j < k → kds[j]? = some d → ∃ q, ps[j]? = some (.pointer (some ⟨q, 0, none⟩)) ∧ DAt w d q) ∧ HasC wr w.heap.size 33 (valL num r sb (.slice (some ⟨bv, ov, none⟩) m capk)) ∧ Below w.heap.size w wr) (fun _ i _ => m - (intOf i).toNat)
  case atStart => exact ⟨0, [], by omega, rfl, rfl, World.ownsRow_nil _ _ _ _, (fun j d hj => by omega), HC1.out, HB1.out⟩
  case round =>
    clear HC1 HB1 hs1
    obtain ⟨k, ps, hk, hpl, rfl, hR, hP, hH, hB⟩ := hrel
    have hc0 := hH.cell (valL_34 num r sb _ HR.out)
    have hsz := hH.lt
    by_cases hkm : k < m
    · obtain ⟨d, hd⟩ : ∃ d, kds[k]? = some d := ⟨_, List.getElem?_eq_getElem (by rw [HKL.out]; exact hkm)⟩
      have hg := HKG.out k d hd
      obtain ⟨q, hpc, hDq⟩ := HD.out.get (hg.2 (by decide))
      have hpc2 := cell_keep hB hpc
      have e0 := cell_keep hB d0
      have e2 := cell_keep hB d2
      rw [Nat.add_zero] at hpc2
      have HRP := hid hR
      have HP := hid hP
      have HH := hid hH
      have HB := hid hB
      have HPL := hid hpl
      have HDQ := hid hDq
      have HD2 := hid hd
      have BA : Below wr.heap.size wr (wr.alloc (.cells #[.pointer (some ⟨q, 0, none⟩)] 41)) := (Below.refl _ wr).alloc (Nat.le_refl _) _
      have HBA := hid BA
      clear hR hP hH hB hpl hDq hd hg hpc BA
      go_wp2_with (at_builtin; refine wpList_append_p rfl (.tmp 60) (.tmp 67) rfl (w.heap.size + 1) u5 ps rfl (HRP.out.below HBA.out) wr.heap.size (.pointer (some ⟨q, 0, none⟩)) rfl (cell_of_one (heap_alloc_new wr _)) rfl (by rw [HPL.out]; omega) (by have := HBA.out.size; omega) ?_; intro v5 w5 R5 G5 M5; have HR5 := hid R5; have HG5 := hid G5; clear R5 G5 M5)
      go_roundw
      case rel =>
        have hl5 : (ps ++ [Value.pointer (some ⟨q, 0, none⟩)]).length = k + 1 := by simp [HPL.out]
        have hlt : ∀ j, u5.ownBlock = some j → w.heap.size + 1 ≤ j := fun j hj => (HRP.out.lt j hj).1
        refine ⟨k + 1, ps ++ [Value.pointer (some ⟨q, 0, none⟩)], by omega, hl5, by go_num, HR5.out, fun j d' hj hd' => ?_, ?_, ?_⟩
        · by_cases hjk : j < k
          · obtain ⟨q', h1, h2⟩ := HP.out j d' hjk hd'
            exact ⟨q', by rw [List.getElem?_append_left (by rw [HPL.out]; exact hjk)]; exact h1, h2⟩
          · obtain rfl : j = k := by omega
            rw [HD2.out] at hd'
            cases hd'
            exact ⟨q, by rw [List.getElem?_append_right (by rw [HPL.out]; exact Nat.le_refl _), HPL.out, Nat.sub_self]; rfl, HDQ.out⟩
        · have h1 := HH.out.keep HBA.out
          exact (HG5.out.block w.heap.size h1.lt (fun e => by have := hlt _ e.symm; omega)).trans h1
        · have h1 := below_more HB.out HBA.out (Nat.le_refl _)
          exact h1.grown HG5.out h1.size (fun j hj => by have := hlt j hj; omega)
      case measure => simp [intOf]; omega
    · have hke : m = k := by omega
      subst hke
      obtain ⟨g, cap, rfl, hgc1, hgc2, hgc⟩ := hR.form (by omega)
      rw [hpl] at hgc1 ⊢
      have hDk : DsAt wr kds g 0 := dsAt_of kds g 0 fun i d hd => by
        have hi : i < m := by have := (List.getElem?_eq_some_iff.1 hd).1; rw [HKL.out] at this; exact this
        obtain ⟨q, h1, h2⟩ := hP i d hi hd
        exact ⟨q, by rw [Nat.zero_add]; exact hgc i _ h1, h2.keep hB⟩
      have HS := hid (HSER.out kds ks m g 0 cap bv ov capk wr HKL.out HKS.out hm0 hm hN HX.out.1 HX.out.2.2.1 HX.out.2.1 HX.out.2.2.2 hDk (HK.out.keep hB) hgc1 hgc2 hc3 hc4)
      rw [hC.out] at HS
      have HB := hid hB
      clear hDk hgc hR hP hH hB hpl
      go_wp2_with (go_at_call 52; refine HS.out.mono ?_; rintro x w2 ⟨u, rfl, R2, B2⟩; have HR2 := hid R2; have HB2 := hid (below_more HB.out B2 (Nat.le_refl _)); clear R2 B2)
      go_ret
      exact ⟨_, rfl, HR2.out.base HB.out.size, HB2.out⟩

set_option maxHeartbeats 4000000 in
theorem enc_some5 (N : Nat) (IH : ∀ (d : Dt) (v : Vt) (sb sk : Value) (p : Nat) (w : World), v.deep ≤ N → okD d → okV d v → DAt w d p → VAt w v sb sk → Calls Tryz.prog 13 #[.pointer (some ⟨p, 0, none⟩), .agg (valL v.num v.root sb sk).toArray] w fun e w' => ∃ u, e = .returned u ∧ Row w' w.heap.size u (encV d v) ∧ Below w.heap.size w w')
    (m bd od dl capd num : Nat) (ds : List Dt) (r : List Nat) (ks : List Vt) (sb : Value) (bv ov capk p : Nat) (w : World) (hr : r.length = 32) (hm0 : 0 < m) (hm : m ≤ 1048576) (hks : ks.length = m) (hdl : ds.length = dl) (hd0 : 0 < dl) (h8 : 5 = 8 → m ≤ dl) (hN : deepK ks ≤ N) (hok : okDs ds) (hov : okK (kdsV 5 ds m) ks) (hb : lenF (encK (kdsV 5 ds m) ks) ≤ 274877906944)
    (hD : DsAt w ds bd od) (hK : KsAt w ks bv ov) (hc1 : dl ≤ capd) (hc2 : capd ≤ maxLen) (hc3 : m ≤ capk) (hc4 : capk ≤ maxLen)
    (d0 : w.cell? ⟨p, 0, none⟩ = some (.int .i64 (5 : Nat))) (d2 : w.cell? ⟨p, 2, none⟩ = some (.slice (some ⟨bd, od, none⟩) dl capd)) :
    Calls Tryz.prog 13 #[.pointer (some ⟨p, 0, none⟩), .agg (valL num r sb (.slice (some ⟨bv, ov, none⟩) m capk)).toArray] w fun x w' => ∃ v, x = .returned v ∧ Row w' w.heap.size v (cont (encK (kdsV 5 ds m) ks)) ∧ Below w.heap.size w w' := by
  have hkl := kdsV_length 5 ds m (fun e => by rw [hdl]; exact h8 e) (fun _ => by rw [hdl]; exact hd0)
  have hkg : ∀ (k : Nat) d, (kdsV 5 ds m)[k]? = some d → (5 = 8 → ds[k]? = some d) ∧ (5 ≠ 8 → ds[0]? = some d) := fun k d h => kdsV_get h
  have hko := kdsV_ok (f := 5) (n := m) hok
  have hby := encK_byte ks hK (kdsV 5 ds m)
  have HSER := hid (ser_step N IH)
  generalize kdsV 5 ds m = kds at *
  obtain ⟨C, hC⟩ : ∃ C, Same (cont (encK kds ks)) C := ⟨_, ⟨rfl⟩⟩
  rw [hC.out]
  have HKG := hid hkg
  have HKL := hid hkl
  have HR := hid hr
  have HD := hid hD
  have HK := hid hK
  have HX := hid (And.intro hko (And.intro hby (And.intro hov hb)))
  have HKS := hid hks
  have HDL := hid hdl
  clear IH hkg hkl hr hD hK hko hby hov hb hks hdl hok
  go_enter Tryz.func13, Tryz.ntmps13
  go_wp2_with ((with_reducible refine at_list' ?_); first
    | (refine wpList_box_c rfl 3 rfl (.tmp 1) rfl (valL num r sb (.slice (some ⟨bv, ov, none⟩) m capk)) rfl ?_; intro w1 H1 B1 S1; have d1 := cell_keep B1 d0))
  have HC1 := hid H1
  have HB1 := hid B1
  have hs1 := H1.lt
  clear H1 B1 S1 d1
  go_loopw [5, 6] (fun kd i wr => ∃ (k : Nat) (ps : List Value), k ≤ m ∧ ps.length = k ∧ i = .int .i64 (k : Nat) ∧ RowP wr (w.heap.size + 1) kd ps ∧ (∀ (j : Nat) d, j < k → kds[j]? = some d → ∃ q, ps[j]? = some (.pointer (some ⟨q, 0, none⟩)) ∧ DAt w d q) ∧ HasC wr w.heap.size 33 (valL num r sb (.slice (some ⟨bv, ov, none⟩) m capk)) ∧ Below w.heap.size w wr) (fun _ i _ => m - (intOf i).toNat)
  case atStart => exact ⟨0, [], by omega, rfl, rfl, World.ownsRow_nil _ _ _ _, (fun j d hj => by omega), HC1.out, HB1.out⟩
  case round =>
    clear HC1 HB1 hs1
    obtain ⟨k, ps, hk, hpl, rfl, hR, hP, hH, hB⟩ := hrel
    have hc0 := hH.cell (valL_34 num r sb _ HR.out)
    have hsz := hH.lt
    by_cases hkm : k < m
    · obtain ⟨d, hd⟩ : ∃ d, kds[k]? = some d := ⟨_, List.getElem?_eq_getElem (by rw [HKL.out]; exact hkm)⟩
      have hg := HKG.out k d hd
      obtain ⟨q, hpc, hDq⟩ := HD.out.get (hg.2 (by decide))
      have hpc2 := cell_keep hB hpc
      have e0 := cell_keep hB d0
      have e2 := cell_keep hB d2
      rw [Nat.add_zero] at hpc2
      have HRP := hid hR
      have HP := hid hP
      have HH := hid hH
      have HB := hid hB
      have HPL := hid hpl
      have HDQ := hid hDq
      have HD2 := hid hd
      have BA : Below wr.heap.size wr (wr.alloc (.cells #[.pointer (some ⟨q, 0, none⟩)] 41)) := (Below.refl _ wr).alloc (Nat.le_refl _) _
      have HBA := hid BA
      clear hR hP hH hB hpl hDq hd hg hpc BA
      go_wp2_with (at_builtin; refine wpList_append_p rfl (.tmp 60) (.tmp 67) rfl (w.heap.size + 1) u5 ps rfl (HRP.out.below HBA.out) wr.heap.size (.pointer (some ⟨q, 0, none⟩)) rfl (cell_of_one (heap_alloc_new wr _)) rfl (by rw [HPL.out]; omega) (by have := HBA.out.size; omega) ?_; intro v5 w5 R5 G5 M5; have HR5 := hid R5; have HG5 := hid G5; clear R5 G5 M5)
      go_roundw
      case rel =>
        have hl5 : (ps ++ [Value.pointer (some ⟨q, 0, none⟩)]).length = k + 1 := by simp [HPL.out]
        have hlt : ∀ j, u5.ownBlock = some j → w.heap.size + 1 ≤ j := fun j hj => (HRP.out.lt j hj).1
        refine ⟨k + 1, ps ++ [Value.pointer (some ⟨q, 0, none⟩)], by omega, hl5, by go_num, HR5.out, fun j d' hj hd' => ?_, ?_, ?_⟩
        · by_cases hjk : j < k
          · obtain ⟨q', h1, h2⟩ := HP.out j d' hjk hd'
            exact ⟨q', by rw [List.getElem?_append_left (by rw [HPL.out]; exact hjk)]; exact h1, h2⟩
          · obtain rfl : j = k := by omega
            rw [HD2.out] at hd'
            cases hd'
            exact ⟨q, by rw [List.getElem?_append_right (by rw [HPL.out]; exact Nat.le_refl _), HPL.out, Nat.sub_self]; rfl, HDQ.out⟩
        · have h1 := HH.out.keep HBA.out
          exact (HG5.out.block w.heap.size h1.lt (fun e => by have := hlt _ e.symm; omega)).trans h1
        · have h1 := below_more HB.out HBA.out (Nat.le_refl _)
          exact h1.grown HG5.out h1.size (fun j hj => by have := hlt j hj; omega)
      case measure => simp [intOf]; omega
    · have hke : m = k := by omega
      subst hke
      obtain ⟨g, cap, rfl, hgc1, hgc2, hgc⟩ := hR.form (by omega)
      rw [hpl] at hgc1 ⊢
      have hDk : DsAt wr kds g 0 := dsAt_of kds g 0 fun i d hd => by
        have hi : i < m := by have := (List.getElem?_eq_some_iff.1 hd).1; rw [HKL.out] at this; exact this
        obtain ⟨q, h1, h2⟩ := hP i d hi hd
        exact ⟨q, by rw [Nat.zero_add]; exact hgc i _ h1, h2.keep hB⟩
      have HS := hid (HSER.out kds ks m g 0 cap bv ov capk wr HKL.out HKS.out hm0 hm hN HX.out.1 HX.out.2.2.1 HX.out.2.1 HX.out.2.2.2 hDk (HK.out.keep hB) hgc1 hgc2 hc3 hc4)
      rw [hC.out] at HS
      have HB := hid hB
      clear hDk hgc hR hP hH hB hpl
      go_wp2_with (go_at_call 52; refine HS.out.mono ?_; rintro x w2 ⟨u, rfl, R2, B2⟩; have HR2 := hid R2; have HB2 := hid (below_more HB.out B2 (Nat.le_refl _)); clear R2 B2)
      go_ret
      exact ⟨_, rfl, HR2.out.base HB.out.size, HB2.out⟩

set_option maxHeartbeats 4000000 in
theorem enc_some8 (N : Nat) (IH : ∀ (d : Dt) (v : Vt) (sb sk : Value) (p : Nat) (w : World), v.deep ≤ N → okD d → okV d v → DAt w d p → VAt w v sb sk → Calls Tryz.prog 13 #[.pointer (some ⟨p, 0, none⟩), .agg (valL v.num v.root sb sk).toArray] w fun e w' => ∃ u, e = .returned u ∧ Row w' w.heap.size u (encV d v) ∧ Below w.heap.size w w')
    (m bd od dl capd num : Nat) (ds : List Dt) (r : List Nat) (ks : List Vt) (sb : Value) (bv ov capk p : Nat) (w : World) (hr : r.length = 32) (hm0 : 0 < m) (hm : m ≤ 1048576) (hks : ks.length = m) (hdl : ds.length = dl) (hd0 : 0 < dl) (h8 : 8 = 8 → m ≤ dl) (hN : deepK ks ≤ N) (hok : okDs ds) (hov : okK (kdsV 8 ds m) ks) (hb : lenF (encK (kdsV 8 ds m) ks) ≤ 274877906944)
    (hD : DsAt w ds bd od) (hK : KsAt w ks bv ov) (hc1 : dl ≤ capd) (hc2 : capd ≤ maxLen) (hc3 : m ≤ capk) (hc4 : capk ≤ maxLen)
    (d0 : w.cell? ⟨p, 0, none⟩ = some (.int .i64 (8 : Nat))) (d2 : w.cell? ⟨p, 2, none⟩ = some (.slice (some ⟨bd, od, none⟩) dl capd)) :
    Calls Tryz.prog 13 #[.pointer (some ⟨p, 0, none⟩), .agg (valL num r sb (.slice (some ⟨bv, ov, none⟩) m capk)).toArray] w fun x w' => ∃ v, x = .returned v ∧ Row w' w.heap.size v (cont (encK (kdsV 8 ds m) ks)) ∧ Below w.heap.size w w' := by
  have hkl := kdsV_length 8 ds m (fun e => by rw [hdl]; exact h8 e) (fun _ => by rw [hdl]; exact hd0)
  have hkg : ∀ (k : Nat) d, (kdsV 8 ds m)[k]? = some d → (8 = 8 → ds[k]? = some d) ∧ (8 ≠ 8 → ds[0]? = some d) := fun k d h => kdsV_get h
  have hko := kdsV_ok (f := 8) (n := m) hok
  have hby := encK_byte ks hK (kdsV 8 ds m)
  have HSER := hid (ser_step N IH)
  generalize kdsV 8 ds m = kds at *
  obtain ⟨C, hC⟩ : ∃ C, Same (cont (encK kds ks)) C := ⟨_, ⟨rfl⟩⟩
  rw [hC.out]
  have HKG := hid hkg
  have HKL := hid hkl
  have HR := hid hr
  have HD := hid hD
  have HK := hid hK
  have HX := hid (And.intro hko (And.intro hby (And.intro hov hb)))
  have HKS := hid hks
  have HDL := hid hdl
  clear IH hkg hkl hr hD hK hko hby hov hb hks hdl hok
  go_enter Tryz.func13, Tryz.ntmps13
  go_wp2_with ((with_reducible refine at_list' ?_); first
    | (refine wpList_box_c rfl 3 rfl (.tmp 1) rfl (valL num r sb (.slice (some ⟨bv, ov, none⟩) m capk)) rfl ?_; intro w1 H1 B1 S1; have d1 := cell_keep B1 d0))
  have HC1 := hid H1
  have HB1 := hid B1
  have hs1 := H1.lt
  clear H1 B1 S1 d1
  go_loopw [5, 6] (fun kd i wr => ∃ (k : Nat) (ps : List Value), k ≤ m ∧ ps.length = k ∧ i = .int .i64 (k : Nat) ∧ RowP wr (w.heap.size + 1) kd ps ∧ (∀ (j : Nat) d, j < k → kds[j]? = some d → ∃ q, ps[j]? = some (.pointer (some ⟨q, 0, none⟩)) ∧ DAt w d q) ∧ HasC wr w.heap.size 33 (valL num r sb (.slice (some ⟨bv, ov, none⟩) m capk)) ∧ Below w.heap.size w wr) (fun _ i _ => m - (intOf i).toNat)
  case atStart => exact ⟨0, [], by omega, rfl, rfl, World.ownsRow_nil _ _ _ _, (fun j d hj => by omega), HC1.out, HB1.out⟩
  case round =>
    clear HC1 HB1 hs1
    obtain ⟨k, ps, hk, hpl, rfl, hR, hP, hH, hB⟩ := hrel
    have hc0 := hH.cell (valL_34 num r sb _ HR.out)
    have hsz := hH.lt
    by_cases hkm : k < m
    · obtain ⟨d, hd⟩ : ∃ d, kds[k]? = some d := ⟨_, List.getElem?_eq_getElem (by rw [HKL.out]; exact hkm)⟩
      have hg := HKG.out k d hd
      obtain ⟨q, hpc, hDq⟩ := HD.out.get (hg.1 (by first | rfl | trivial))
      have hpc2 := cell_keep hB hpc
      have e0 := cell_keep hB d0
      have e2 := cell_keep hB d2
      have h8l := h8 (by first | rfl | trivial)
      have HRP := hid hR
      have HP := hid hP
      have HH := hid hH
      have HB := hid hB
      have HPL := hid hpl
      have HDQ := hid hDq
      have HD2 := hid hd
      have BA : Below wr.heap.size wr (wr.alloc (.cells #[.pointer (some ⟨q, 0, none⟩)] 41)) := (Below.refl _ wr).alloc (Nat.le_refl _) _
      have HBA := hid BA
      clear hR hP hH hB hpl hDq hd hg hpc BA
      go_wp2_with (at_builtin; refine wpList_append_p rfl (.tmp 50) (.tmp 58) rfl (w.heap.size + 1) u5 ps rfl (HRP.out.below HBA.out) wr.heap.size (.pointer (some ⟨q, 0, none⟩)) rfl (cell_of_one (heap_alloc_new wr _)) rfl (by rw [HPL.out]; omega) (by have := HBA.out.size; omega) ?_; intro v5 w5 R5 G5 M5; have HR5 := hid R5; have HG5 := hid G5; clear R5 G5 M5)
      go_roundw
      case rel =>
        have hl5 : (ps ++ [Value.pointer (some ⟨q, 0, none⟩)]).length = k + 1 := by simp [HPL.out]
        have hlt : ∀ j, u5.ownBlock = some j → w.heap.size + 1 ≤ j := fun j hj => (HRP.out.lt j hj).1
        refine ⟨k + 1, ps ++ [Value.pointer (some ⟨q, 0, none⟩)], by omega, hl5, by go_num, HR5.out, fun j d' hj hd' => ?_, ?_, ?_⟩
        · by_cases hjk : j < k
          · obtain ⟨q', h1, h2⟩ := HP.out j d' hjk hd'
            exact ⟨q', by rw [List.getElem?_append_left (by rw [HPL.out]; exact hjk)]; exact h1, h2⟩
          · obtain rfl : j = k := by omega
            rw [HD2.out] at hd'
            cases hd'
            exact ⟨q, by rw [List.getElem?_append_right (by rw [HPL.out]; exact Nat.le_refl _), HPL.out, Nat.sub_self]; rfl, HDQ.out⟩
        · have h1 := HH.out.keep HBA.out
          exact (HG5.out.block w.heap.size h1.lt (fun e => by have := hlt _ e.symm; omega)).trans h1
        · have h1 := below_more HB.out HBA.out (Nat.le_refl _)
          exact h1.grown HG5.out h1.size (fun j hj => by have := hlt j hj; omega)
      case measure => simp [intOf]; omega
    · have hke : m = k := by omega
      subst hke
      obtain ⟨g, cap, rfl, hgc1, hgc2, hgc⟩ := hR.form (by omega)
      rw [hpl] at hgc1 ⊢
      have hDk : DsAt wr kds g 0 := dsAt_of kds g 0 fun i d hd => by
        have hi : i < m := by have := (List.getElem?_eq_some_iff.1 hd).1; rw [HKL.out] at this; exact this
        obtain ⟨q, h1, h2⟩ := hP i d hi hd
        exact ⟨q, by rw [Nat.zero_add]; exact hgc i _ h1, h2.keep hB⟩
      have HS := hid (HSER.out kds ks m g 0 cap bv ov capk wr HKL.out HKS.out hm0 hm hN HX.out.1 HX.out.2.2.1 HX.out.2.1 HX.out.2.2.2 hDk (HK.out.keep hB) hgc1 hgc2 hc3 hc4)
      rw [hC.out] at HS
      have HB := hid hB
      clear hDk hgc hR hP hH hB hpl
      go_wp2_with (go_at_call 52; refine HS.out.mono ?_; rintro x w2 ⟨u, rfl, R2, B2⟩; have HR2 := hid R2; have HB2 := hid (below_more HB.out B2 (Nat.le_refl _)); clear R2 B2)
      go_ret
      exact ⟨_, rfl, HR2.out.base HB.out.size, HB2.out⟩

set_option maxHeartbeats 1000000 in
theorem enc_step (N : Nat) (IH : ∀ (d : Dt) (v : Vt) (sb sk : Value) (p : Nat) (w : World), v.deep ≤ N → okD d → okV d v → DAt w d p → VAt w v sb sk → Calls Tryz.prog 13 #[.pointer (some ⟨p, 0, none⟩), .agg (valL v.num v.root sb sk).toArray] w fun e w' => ∃ u, e = .returned u ∧ Row w' w.heap.size u (encV d v) ∧ Below w.heap.size w w') :
    ∀ (d : Dt) (v : Vt) (sb sk : Value) (p : Nat) (w : World), v.deep ≤ N + 1 → okD d → okV d v → DAt w d p → VAt w v sb sk → Calls Tryz.prog 13 #[.pointer (some ⟨p, 0, none⟩), .agg (valL v.num v.root sb sk).toArray] w fun e w' => ∃ u, e = .returned u ∧ Row w' w.heap.size u (encV d v) ∧ Below w.heap.size w w'
  | .mk f n ds, .mk num r bs ks, sb, sk, p, w, hN, hok, hov, hD, hV => by
    rw [okV] at hov
    rw [okD] at hok
    rw [DAt] at hD
    rw [VAt] at hV
    rw [Vt.deep] at hN
    obtain ⟨d0, d1, aod, capd, d2, hcd1, hcd2, hDs⟩ := hD
    obtain ⟨⟨hn, hr, h8⟩, hTb, aok, capk, hske, hck1, hck2, hKs⟩ := hV
    obtain ⟨hb1, hk1, hf8, hk0, hlf, hokk⟩ := hov
    obtain ⟨hf, hn2, hsm, hdl, hf4, hokds⟩ := hok
    show Calls Tryz.prog 13 #[.pointer (some ⟨p, 0, none⟩), .agg (valL num r sb sk).toArray] w _
    rw [encV]
    by_cases e1 : f = 1
    · subst e1; rw [if_pos rfl]; exact encL_num num r sb sk p w hn d0
    rw [if_neg e1]
    by_cases e2 : f = 2
    · subst e2; rw [if_pos rfl]; exact encL_truth num r sb sk p w hn d0
    rw [if_neg e2]
    by_cases e3 : f = 3
    · subst e3; rw [if_pos rfl]; exact encL_root num r sb sk p w hr h8 d0
    rw [if_neg e3]
    by_cases e6 : f = 6
    · subst e6; rw [if_pos rfl]; exact encL_bits6 num r sb sk p w bs hr hTb hb1 d0
    rw [if_neg e6]
    by_cases e7 : f = 7
    · subst e7; rw [if_pos rfl]; exact encL_bits7 num r sb sk p w bs hr hTb hb1 d0
    rw [if_neg e7]
    have hff : f = 0 ∨ f = 4 ∨ f = 5 ∨ f = 8 := by omega
    subst hske
    rcases hKs with h0 | ⟨bv, ov, rfl, hK⟩
    · obtain rfl : ks = [] := List.eq_nil_of_length_eq_zero h0
      have hc : cont (encK (kdsV f ds ([] : List Vt).length) []) = [] := by
        have : encK (kdsV f ds ([] : List Vt).length) [] = [] := by generalize kdsV f ds _ = l; cases l <;> rw [encK]
        rw [this]; rfl
      rw [hc]
      exact enc_none f num hff r sb aok capk p w hr d0
    · by_cases hm0 : ks.length = 0
      · obtain rfl : ks = [] := List.eq_nil_of_length_eq_zero hm0
        have hc : cont (encK (kdsV f ds ([] : List Vt).length) []) = [] := by
          have : encK (kdsV f ds ([] : List Vt).length) [] = [] := by generalize kdsV f ds _ = l; cases l <;> rw [encK]
          rw [this]; rfl
        rw [hc]
        exact enc_none f num hff r sb _ capk p w hr d0
      · have hd0 := hk0 (by omega)
        rcases hDs with h0 | ⟨bd, od, rfl, hD⟩
        · omega
        rcases hff with rfl | rfl | rfl | rfl
        · exact enc_some0 N IH ks.length bd od ds.length capd num ds r ks sb bv ov capk p w hr (by omega) hk1 rfl rfl hd0 hf8 (by omega) hokds hokk hlf hD hK hcd1 hcd2 hck1 hck2 d0 d2
        · exact enc_some4 N IH ks.length bd od ds.length capd num ds r ks sb bv ov capk p w hr (by omega) hk1 rfl rfl hd0 hf8 (by omega) hokds hokk hlf hD hK hcd1 hcd2 hck1 hck2 d0 d2
        · exact enc_some5 N IH ks.length bd od ds.length capd num ds r ks sb bv ov capk p w hr (by omega) hk1 rfl rfl hd0 hf8 (by omega) hokds hokk hlf hD hK hcd1 hcd2 hck1 hck2 d0 d2
        · exact enc_some8 N IH ks.length bd od ds.length capd num ds r ks sb bv ov capk p w hr (by omega) hk1 rfl rfl hd0 hf8 (by omega) hokds hokk hlf hD hK hcd1 hcd2 hck1 hck2 d0 d2
theorem enc_deep (N : Nat) : ∀ (d : Dt) (v : Vt) (sb sk : Value) (p : Nat) (w : World), v.deep ≤ N → okD d → okV d v → DAt w d p → VAt w v sb sk → Calls Tryz.prog 13 #[.pointer (some ⟨p, 0, none⟩), .agg (valL v.num v.root sb sk).toArray] w fun e w' => ∃ u, e = .returned u ∧ Row w' w.heap.size u (encV d v) ∧ Below w.heap.size w w' := by
  induction N with
  | zero => intro d v sb sk p w h; cases v; rw [Vt.deep] at h; omega
  | succ N ih => exact enc_step N ih
/-- The document's Encode of any value, at any kind that it fits. -/
theorem enc_any (d : Dt) (v : Vt) (u : Value) (p : Nat) (w : World) (hd : okD d) (hv : okV d v) (hD : DAt w d p) (hV : IsV w u v) :
    Calls Tryz.prog 13 #[.pointer (some ⟨p, 0, none⟩), u] w fun e w' => ∃ u, e = .returned u ∧ Row w' w.heap.size u (encV d v) ∧ Below w.heap.size w w' := by
  obtain ⟨sb, sk, rfl, h⟩ := hV
  exact enc_deep v.deep d v sb sk p w (Nat.le_refl _) hd hv hD h
end Go.Proofs.YtoajeencniomoaaGreat

/- Flows whose operations may bear guards that are known to hold, and hang together in chains of any length. -/
namespace Go.Proofs.YtoajeencniomoaaGreat
open Go Go.RowKit
section
variable {P : Program}
/-- Those below k that one of m waits for, itself or by others, and m. -/
def markG (ops : Array Oper) : Nat → List Nat → List Nat
  | 0, m => m
  | k + 1, m => if m.any (fun j => Region.waitsFor .any ops j k) then markG ops k (k :: m) else markG ops k m
def reachM (ops : Array Oper) (t i : Nat) : Bool := (markG ops t [t]).contains i
theorem markG_done {ops : Array Oper} {done : Array Bool} (hcl : ∀ j oj, ops[j]? = some oj → done.getD j false = true → ∀ e ∈ oj.after, Region.binds .any e = true → done.getD e.on false = true) {t : Nat} {o : Oper} (ho : ops[t]? = some o) (hall : ∀ e ∈ o.after, Region.binds .any e = true → done.getD e.on false = true) :
    ∀ k m, (∀ i ∈ m, i = t ∨ done.getD i false = true) → ∀ i ∈ markG ops k m, i = t ∨ done.getD i false = true := by
  intro k
  induction k with
  | zero => intro m hm i hi; exact hm i hi
  | succ k ih =>
    intro m hm i hi
    rw [markG] at hi
    split at hi
    · rename_i hany
      refine ih (k :: m) (fun q hq => ?_) i hi
      rcases List.mem_cons.1 hq with rfl | hq
      · obtain ⟨j, hj, hw⟩ := List.any_eq_true.1 hany
        rcases hm j hj with rfl | hd
        · exact .inr (waits_done ho hall hw)
        · cases hz : ops[j]? with
          | none => unfold Region.waitsFor at hw; rw [hz] at hw; cases hw
          | some oj => exact .inr (waits_done hz (hcl j oj hz hd) hw)
      · exact hm q hq
    · exact ih m hm i hi
theorem reachM_done {ops : Array Oper} {done : Array Bool} (hcl : ∀ j oj, ops[j]? = some oj → done.getD j false = true → ∀ e ∈ oj.after, Region.binds .any e = true → done.getD e.on false = true) {t i : Nat} {o : Oper} (ho : ops[t]? = some o) (hall : ∀ e ∈ o.after, Region.binds .any e = true → done.getD e.on false = true) (h : reachM ops t i = true) (hne : i ≠ t) : done.getD i false = true :=
  (markG_done hcl ho hall t [t] (fun q hq => .inl (List.mem_singleton.1 hq)) i (by unfold reachM at h; simpa using h)).resolve_left hne
/-- What a flow asks of a region's text: its head's guards are known, it waits upwards alone, writes each slot once; its tail waits for all of the head, but for one operation that only reads slots and may come late (late: its place; n: there is none). -/
def flowMB (ops : Array Oper) (n late sz : Nat) : Bool :=
  decide (n < ops.size) && Region.noSelect ops && ((List.range ops.size).all fun t => decide (t < n) || (List.range n).all fun i => decide (i = late) || reachM ops t i) &&
  ((List.range n).all fun i => match ops[i]? with
    | some o => (match o.guard with | none => true | some (g, _) => decide (g < i) && Region.waitsFor .any ops i g && (dstOf ops g).isSome) && (o.after.all fun e => !Region.binds .any e || decide (e.on < i)) && (match o.dst with
      | none => true
      | some d => decide (d < sz) && (List.range n).all fun j => decide (j = i) || decide (dstOf ops j ≠ some d))
    | none => false) && (decide (n ≤ late) || (Region.free .any ops (doneBut ops n late) late && (Region.ready .any ops (doneBut ops n late)).contains late)) &&
  Region.seqB .any ops (ops.size - n) n ((List.range ops.size).map fun i => decide (i < n)).toArray

theorem flowM_any {ops : Array Oper} {n late : Nat} {I : Nat → Value → World → Prop} {w0 : World} {a0 : Act} {Q : Exit → Act → World → Prop} (hB : flowMB ops n late a0.tmps.size = true)
    (hQ : ∀ c d v a w, Q (.panic c) (a.put d v) w → Q (.panic c) a w)
    (hguard : ∀ i o g b, i < n → ops[i]? = some o → o.guard = some (g, b) → ∀ v w, I g v w → v = .bool b)
    (hI : ∀ i v w w', i < n → I i v w → Below w.heap.size w w' → I i v w')
    (hop : ∀ i o, i < n → ops[i]? = some o → ∀ a w, Cls w0 w → (∀ s, (∀ j, j < n → dstOf ops j ≠ some s) → a.tmps.getD s undef = a0.tmps.getD s undef) →
      (∀ j d, dstOf ops j = some d → (o.after.any fun e => Region.binds .any e && e.on == j) = true → I j (a.tmps.getD d undef) w) →
      o.wp P a w (fun a' w' => ∃ v, a' = a.put o.dst v ∧ I i v w' ∧ Below w.heap.size w w') Q)
    (hlate : ∀ o, late < n → ops[late]? = some o → ∀ (a : Act) w, Cls w0 w → (∀ s, (∀ j, j < n → dstOf ops j ≠ some s) → a.tmps.getD s undef = a0.tmps.getD s undef) →
      (∀ j d, dstOf ops j = some d → (o.after.any fun e => Region.binds .any e && e.on == j) = true → I j (a.tmps.getD d undef) w) → ∃ v, (∀ w, (execOp a.eval o).run P w = .ok (.value v) w) ∧ I late v w)
    (htail : ∀ v w, Cls w0 w → (∀ i d, i < n → dstOf ops i = some d → I i (v i) w) → wpAny P .any ops Q (ops.size - n) ((List.range ops.size).map fun i => decide (i < n)).toArray (putAll v (ops.toList.take n) 0 a0) w) :
    ∀ f (done : Array Bool) (a : Act) (w : World), (List.range n).countP (fun i => !done.getD i true) = f → FlowInv ops n I w0 a0 done a w → wpAny P .any ops Q (f + (ops.size - n)) done a w := by
  simp only [flowMB, Bool.and_eq_true, decide_eq_true_eq, List.all_eq_true, List.mem_range, Bool.or_eq_true] at hB
  obtain ⟨⟨⟨⟨⟨hn, hsel⟩, hdir⟩, hall⟩, hlt8⟩, hseq⟩ := hB
  have hat : ∀ i, i < n → ∃ o, ops[i]? = some o := fun i hi => ⟨_, Array.getElem?_eq_getElem (by omega)⟩
  have hgd : ∀ i o, i < n → ops[i]? = some o → (∀ g b, o.guard = some (g, b) → Region.waitsFor .any ops i g = true ∧ ∃ d, dstOf ops g = some d) ∧ (∀ e ∈ o.after, Region.binds .any e = true → e.on < i) ∧ ∀ d, o.dst = some d → d < a0.tmps.size ∧ ∀ j, j < n → j ≠ i → dstOf ops j ≠ some d := by
    intro i o hi ho
    have := hall i hi
    rw [ho] at this
    simp only [Bool.and_eq_true, Array.all_eq_true_iff_forall_mem, Bool.or_eq_true, Bool.not_eq_true', decide_eq_true_eq] at this
    obtain ⟨⟨h1, h2⟩, h3⟩ := this
    refine ⟨fun g b hg => by
      rw [hg] at h1
      simp only [Bool.and_eq_true] at h1
      exact ⟨h1.1.2, Option.isSome_iff_exists.1 h1.2⟩, fun e he hb => (h2 e he).resolve_left (by rw [hb]; decide), fun d hd => ?_⟩
    rw [hd] at h3
    simp only [Bool.and_eq_true, decide_eq_true_eq, List.all_eq_true, List.mem_range, Bool.or_eq_true] at h3
    exact ⟨h3.1, fun j hj hne => (h3.2 j hj).resolve_left hne⟩
  intro f
  induction f with
  | zero =>
    intro done a w hcount inv
    have hdone : ∀ i, i < n → done.getD i true = true := fun i hi => by
      have := List.countP_eq_zero.1 hcount i (List.mem_range.2 hi)
      simpa using this
    have hdn : done = ((List.range ops.size).map fun i => decide (i < n)).toArray := by
      apply Array.ext_getElem?
      intro i
      by_cases hi : i < ops.size
      · have hi' : i < done.size := by rw [inv.head.size]; exact hi
        have h1 : (((List.range ops.size).map fun i => decide (i < n)).toArray)[i]? = some (decide (i < n)) := by simp [hi]
        rw [h1, Array.getElem?_eq_getElem hi']
        by_cases hin : i < n
        · have := hdone i hin
          simp [hi'] at this
          simp [hin, this]
        · have := inv.head.tail i (by omega) hi
          simp [hi'] at this
          simp [hin, this]
      · rw [Array.getElem?_eq_none (by rw [inv.head.size]; omega), Array.getElem?_eq_none (by simp; omega)]
    have hk : ∀ i, i < n → done.getD i false = true := fun i hi => by
      have h1 := hdone i hi
      have hi' : i < done.size := by rw [inv.head.size]; omega
      simp [hi'] at h1 ⊢
      exact h1
    have ha : a = putAll (fun i => match dstOf ops i with | some d => a.tmps.getD d undef | none => undef) (ops.toList.take n) 0 a0 := by
      have hd1 := putAll_defers (fun i => match dstOf ops i with | some d => a.tmps.getD d undef | none => undef) (ops.toList.take n) 0 a0
      have hs1 := putAll_size (fun i => match dstOf ops i with | some d => a.tmps.getD d undef | none => undef) (ops.toList.take n) 0 a0
      have ht1 : ∀ s, a.tmps[s]? = (putAll (fun i => match dstOf ops i with | some d => a.tmps.getD d undef | none => undef) (ops.toList.take n) 0 a0).tmps[s]? := fun s => by
        rw [putAll_get _ s (a.tmps.getD s undef) _ 0 a0 (fun j o hj ho => by
          rw [List.getElem?_take] at hj
          split at hj
          · have : dstOf ops j = some s := by unfold dstOf; rw [Array.getElem?_toList] at hj; rw [hj]; exact ho
            rw [Nat.zero_add, this]
          · cases hj)]
        split
        · rename_i h
          rw [Array.getElem?_eq_getElem (by rw [inv.size]; exact h.2)]
          simp [inv.size, h.2]
        · rename_i h
          by_cases hsz : s < a0.tmps.size
          · refine inv.keep s fun i hi e => h ⟨?_, hsz⟩
            obtain ⟨o, ho⟩ := hat i hi
            refine ⟨o, ?_, by unfold dstOf at e; rw [ho] at e; exact e⟩
            rw [List.mem_take_iff_getElem]
            have := Array.getElem?_eq_some_iff.1 ho
            exact ⟨i, by simp; omega, by simpa using this.2⟩
          · rw [Array.getElem?_eq_none (by rw [inv.size]; omega), Array.getElem?_eq_none (by omega)]
      generalize putAll (fun i => match dstOf ops i with | some d => a.tmps.getD d undef | none => undef) (ops.toList.take n) 0 a0 = b at *
      obtain ⟨ta, da⟩ := a
      obtain ⟨tb, db⟩ := b
      have e1 : ta = tb := Array.ext_getElem? ht1
      have e2 : da = db := inv.defers.trans hd1.symm
      rw [e1, e2]
    rw [Nat.zero_add, ha, hdn]
    refine htail _ w inv.cls fun i d hi hd => ?_
    have := inv.known i hi (hk i hi) d hd
    simpa [hd] using this
  | succ f ih =>
    intro done a w hcount inv
    have hex : ∃ i, i < n ∧ done.getD i true = false := by
      have : 0 < (List.range n).countP (fun i => !done.getD i true) := by omega
      obtain ⟨i, hi, hd⟩ := List.countP_pos_iff.1 this
      exact ⟨i, List.mem_range.1 hi, by simpa using hd⟩
    have hready : ∃ i, i < n ∧ i ∈ Region.ready .any ops done := by
      obtain ⟨i0, hi0, hd0⟩ := hex
      have key : ∀ m, m < n → done.getD m true = false → ∃ i, i < n ∧ i ∈ Region.ready .any ops done := by
        intro m
        induction m using Nat.strongRecOn with
        | _ m ihm =>
          intro hm hd
          obtain ⟨o, ho⟩ := hat m hm
          by_cases hw : ∀ e ∈ o.after, Region.binds .any e = true → done.getD e.on false = true
          · exact ⟨m, hm, mem_ready.2 ⟨hd, o, ho, hw⟩⟩
          · simp only [Classical.not_forall] at hw
            obtain ⟨e, he, hb, hnd⟩ := hw
            have hlt := (hgd m o hm ho).2.1 e he hb
            refine ihm e.on hlt (by omega) ?_
            have hi' : e.on < done.size := by rw [inv.head.size]; omega
            simp [hi'] at hnd ⊢
            exact hnd
      exact key i0 hi0 hd0
    obtain ⟨r, hr, hrr⟩ := hready
    rw [Nat.succ_add]
    have hstep : ∀ i o v w', i < n → i ∈ Region.ready .any ops done → ops[i]? = some o → I i v w' → Below w.heap.size w w' →
        (List.range n).countP (fun j => !(done.setIfInBounds i true).getD j true) = f ∧ FlowInv ops n I w0 a0 (done.setIfInBounds i true) (a.put o.dst v) w' := by
      intro i o v w' hin hi ho hv hB
      obtain ⟨hun, o', ho', hwait⟩ := mem_ready.1 hi
      obtain ⟨g1, g2, g3⟩ := hgd i o hin ho
      refine ⟨?_, inv.head.set hi hin, inv.cls.more hB, by rw [put_defers]; exact inv.defers, by rw [put_size]; exact inv.size, fun s hs' => ?_, fun j hj hdj d hd => ?_⟩
      · have hii : i < done.size := by rw [inv.head.size]; omega
        have hcp := count_step done i hii hun n hin
        omega
      · rw [put_get, if_neg (fun h => hs' i hin (by unfold dstOf; rw [ho]; exact h.1))]
        exact inv.keep s hs'
      · by_cases e : j = i
        · subst e
          have hd' : o.dst = some d := by unfold dstOf at hd; rw [ho] at hd; exact hd
          have : (a.put o.dst v).tmps.getD d undef = v := by
            rw [Array.getD_eq_getD_getElem?, put_get, if_pos ⟨hd', by rw [inv.size]; exact (g3 d hd').1⟩]; rfl
          rw [this]; exact hv
        · have hdj' : done.getD j false = true := by rwa [getD_set_ne false (Ne.symm e)] at hdj
          have : (a.put o.dst v).tmps.getD d undef = a.tmps.getD d undef := by
            rw [Array.getD_eq_getD_getElem?, put_get, if_neg (fun h => (g3 d h.1).2 j hj e hd), ← Array.getD_eq_getD_getElem?]
          rw [this]
          exact hI j _ w w' hj (inv.known j hj hdj' d hd) hB
    have hdeps : ∀ i o, i < n → i ∈ Region.ready .any ops done → ops[i]? = some o → ∀ j d, dstOf ops j = some d → (o.after.any fun e => Region.binds .any e && e.on == j) = true → I j (a.tmps.getD d undef) w := by
      intro i o hin hi ho j d hd hj
      obtain ⟨hun, o', ho', hwait⟩ := mem_ready.1 hi
      obtain rfl : o' = o := Option.some.inj (ho'.symm.trans ho)
      obtain ⟨g1, g2, g3⟩ := hgd i o' hin ho
      obtain ⟨k, hk, hk2⟩ := Array.any_eq_true.1 hj
      simp only [Bool.and_eq_true, beq_iff_eq] at hk2
      have hmem := Array.getElem_mem hk
      have hl := hwait _ hmem hk2.1
      have hlt := g2 _ hmem hk2.1
      rw [hk2.2] at hl hlt
      exact inv.known j (by omega) hl d hd
    have hwant : ∀ i o, i < n → i ∈ Region.ready .any ops done → ops[i]? = some o → Region.wanted o (yielded ops a.tmps) = true := by
      intro i o hin hi ho
      unfold Region.wanted
      cases hg : o.guard with
      | none => rfl
      | some gb =>
        obtain ⟨g, b⟩ := gb
        obtain ⟨q2, d, hd⟩ := (hgd i o hin ho).1 g b hg
        unfold Region.waitsFor at q2
        rw [ho] at q2
        have hv := hguard i o g b hin ho hg _ _ (hdeps i o hin hi ho g d hd q2)
        have hv2 : a.tmps[d]? = some (.bool b) := by
          rw [Array.getD_eq_getD_getElem?] at hv
          cases hq : a.tmps[d]? with
          | none => rw [hq] at hv; cases hv
          | some u => rw [hq] at hv; exact congrArg some hv
        have hy : yielded ops a.tmps g = some b := by
          unfold dstOf at hd
          unfold yielded
          rw [hd]
          simp [hv2]
        simp [hy]
    have hkeep : ∀ s, (∀ j, j < n → dstOf ops j ≠ some s) → a.tmps.getD s undef = a0.tmps.getD s undef := fun s hs' => by rw [Array.getD_eq_getD_getElem?, inv.keep s hs', ← Array.getD_eq_getD_getElem?]
    by_cases hbut : ∀ i, i < n → i ≠ late → done.getD i true = true
    · have hrl : r = late := Classical.byContradiction fun h => by
        have h1 := hbut r hr h
        rw [(mem_ready.1 hrr).1] at h1; cases h1
      subst hrl
      have hdn : done = doneBut ops n r := by
        apply Array.ext_getElem?
        intro i
        by_cases hi : i < ops.size
        · have hi' : i < done.size := by rw [inv.head.size]; exact hi
          have h1 : (doneBut ops n r)[i]? = some (decide (i < n) && decide (i ≠ r)) := by simp [doneBut, hi]
          rw [h1, Array.getElem?_eq_getElem hi']
          by_cases hin : i < n
          · by_cases hir : i = r
            · subst hir
              have := (mem_ready.1 hrr).1
              simp [hi'] at this
              simp [this]
            · have := hbut i hin hir
              simp [hi'] at this
              simp [hin, hir, this]
          · have := inv.head.tail i (by omega) hi
            simp [hi'] at this
            simp [hin, this]
        · rw [Array.getElem?_eq_none (by rw [inv.head.size]; omega), Array.getElem?_eq_none (by simp [doneBut]; omega)]
      obtain ⟨o, ho⟩ := hat r hr
      obtain ⟨v, hrun, hv⟩ := hlate o hr ho a w inv.cls hkeep (hdeps r o hr hrr ho)
      obtain ⟨q1, q2⟩ := hstep r o v w hr hrr ho hv (Below.refl _ w)
      have hw := hwant r o hr hrr ho
      have hfr := hlt8.resolve_left (by omega)
      rw [← hdn] at hfr
      exact wpAny_take ho hsel hfr.1 hfr.2 (fun c a w h => hQ c _ _ a w h) (.inl ⟨hw, hrun⟩) (ih _ _ _ q1 q2)
    · simp only [Classical.not_forall] at hbut
      obtain ⟨u, hu, hul, hud⟩ := hbut
      have hud' : done.getD u false = false := by
        have hi' : u < done.size := by rw [inv.head.size]; omega
        simp [hi'] at hud ⊢
        exact hud
      refine ⟨fun e => (by rw [e] at hrr; cases hrr), fun i hi => ?_⟩
      obtain ⟨hun, o, ho, hwait⟩ := mem_ready.1 hi
      have hin : i < n := Nat.lt_of_not_le fun h => by
        have his : i < ops.size := (Array.getElem?_eq_some_iff.1 ho).1
        have hw := ((hdir i his).resolve_left (by omega) u hu).resolve_left hul
        have := reachM_done inv.head.closed ho hwait hw (by omega)
        rw [hud'] at this
        cases this
      unfold wpOp
      rw [ho]
      have hw := hwant i o hin hi ho
      simp only [hw, if_true]
      refine .inl (Oper.wp_mono ?_ (hop i o hin ho a w inv.cls hkeep (hdeps i o hin hi ho)))
      rintro a' w' ⟨v, rfl, hv, hB⟩
      obtain ⟨q1, q2⟩ := hstep i o v w' hin hi ho hv hB
      exact ih _ _ _ q1 q2

/-- The region, told as a flow. -/
theorem wp_region_flowM {id : Nat} {Q : Exit → Act → World → Prop} {a : Act} {w : World} {l : List Oper} (n late : Nat) (I : Nat → Value → World → Prop) (hm : P.follows .mixedOrders = true) (hB : flowMB l.toArray n late a.tmps.size = true)
    (hQ : ∀ c d v a w, Q (.panic c) (a.put d v) w → Q (.panic c) a w)
    (hguard : ∀ i o g b, i < n → l.toArray[i]? = some o → o.guard = some (g, b) → ∀ v w, I g v w → v = .bool b)
    (hI : ∀ i v w w', i < n → I i v w → Below w.heap.size w w' → I i v w')
    (hop : ∀ i o, i < n → l.toArray[i]? = some o → ∀ a' w', Cls w w' → (∀ s, (∀ j, j < n → dstOf l.toArray j ≠ some s) → a'.tmps.getD s undef = a.tmps.getD s undef) →
      (∀ j d, dstOf l.toArray j = some d → (o.after.any fun e => Region.binds .any e && e.on == j) = true → I j (a'.tmps.getD d undef) w') →
      o.wp P a' w' (fun a'' w'' => ∃ v, a'' = a'.put o.dst v ∧ I i v w'' ∧ Below w'.heap.size w' w'') Q)
    (hlate : ∀ o, late < n → l.toArray[late]? = some o → ∀ (a' : Act) w', Cls w w' → (∀ s, (∀ j, j < n → dstOf l.toArray j ≠ some s) → a'.tmps.getD s undef = a.tmps.getD s undef) →
      (∀ j d, dstOf l.toArray j = some d → (o.after.any fun e => Region.binds .any e && e.on == j) = true → I j (a'.tmps.getD d undef) w') → ∃ v, (∀ w, (execOp a'.eval o).run P w = .ok (.value v) w) ∧ I late v w')
    (htail : ∀ v w', Cls w w' → (∀ i d, i < n → dstOf l.toArray i = some d → I i (v i) w') → wpList P l.toArray Q (l.drop n) (putAll v (l.take n) 0 a) w') : (Code.region id l.toArray true).wp P Q a w := by
  have hB' := hB
  simp only [flowMB, Bool.and_eq_true, decide_eq_true_eq] at hB'
  have hn : n < l.length := by simpa using hB'.1.1.1.1.1
  have h3 : (l.drop n).length = l.toArray.size - n := by simp
  refine wp_region_any hm ?_
  have hc0 : (List.range n).countP (fun i => !(Array.replicate l.toArray.size false).getD i true) = n := by
    have : (List.range n).countP (fun i => !(Array.replicate l.toArray.size false).getD i true) = (List.range n).length := List.countP_eq_length.2 fun i hi => by
      have := List.mem_range.1 hi
      simp [show i < l.length by omega]
    rw [this, List.length_range]
  have K := flowM_any (P := P) (Q := Q) (w0 := w) (a0 := a) hB hQ hguard hI hop hlate (fun v w' hc hv => by
    have := wpAny_of_seq (P := P) (md := .any) (Q' := Q) (l.drop n) n _ _ w' (fun j => by simp [List.getElem?_drop]) (by rw [h3]; exact hB'.2) (htail v w' hc hv)
    rw [h3] at this
    simpa using this) n (Array.replicate l.toArray.size false) a { w with drawn := w.drawn + 1 } hc0
    ⟨⟨by simp, fun j oj _ hx => (by rw [getD_replicate_false] at hx; cases hx), fun t _ ht => getD_in (by simpa using ht) (getD_replicate_false _ _)⟩, ⟨(Below.refl _ w).drew⟩, rfl, rfl, fun _ _ => rfl, fun i _ hx => (by rw [getD_replicate_false] at hx; cases hx)⟩
  rwa [show n + (l.toArray.size - n) = l.toArray.size by simp; omega] at K
end
end Go.Proofs.YtoajeencniomoaaGreat

/- The walk of CodecPendings, over contracts. -/
namespace Go.Proofs.YtoajeencniomoaaGreat
open Go.RowKit
set_option linter.unusedVariables false
set_option linter.unusedSimpArgs false
set_option maxRecDepth 100000

theorem rneqs {o : Oper} {a : Act} {w : World} {s : ByteArray} (x y : Operand) (ho : o.op = .binOp .neq 9 x y 9) (hx : a.eval x = .string s) (hy : a.eval y = .string s) : (execOp a.eval o).run Tryz.prog w = .ok (.value (.bool false)) w := by
  unfold execOp
  simp only [ho, hx, hy]
  simp [go_sem, toList_beq]
theorem valL_oneV {w : World} {x : Vt} {sb sk : Value} (h : VAt w x sb sk) : (valL x.num x.root sb sk).toArray.all (·.oneCell') = true ∧ (valL x.num x.root sb sk).length = 35 := by
  cases x
  rename_i n r bs ks
  rw [VAt] at h
  obtain ⟨⟨_, hr, _⟩, hT, ao, cap, rfl, _⟩ := h
  exact ⟨valL_oneC _ _ _ _ hT.sl trivial, valL_length _ _ _ _ hr⟩
theorem wpList_wantV {P : Program} {w : World} {ops : Array Oper} {rest : List Oper} {o : Oper} {a : Act} {Q : Exit → Act → World → Prop} (hw : Region.wanted o (yielded ops a.tmps) = true) (v : Value) (hr : (execOp a.eval o).run P w = .ok (.value v) w)
    (h : wpList P ops Q rest (a.put o.dst v) w) : wpList P ops Q (o :: rest) a w :=
  BigFrame.wpList_want hw fun K hK => wp_run hr (hK _ _ h)
set_option maxHeartbeats 1000000 in
theorem wide_any (n : Nat) (w : World) : Calls Tryz.prog 16 #[.int .i64 (n : Nat)] w fun e w' => e = .returned (.bool (decide (500 < n))) ∧ w' = w := by
  have h : decide ((n : Int) > 500) = decide (500 < n) := by by_cases c : 500 < n <;> simp [c] <;> omega
  go_enter Tryz.func16, Tryz.ntmps16
  go_wp2
  go_ret
  exact ⟨by simp [← h], rfl⟩
set_option maxHeartbeats 2000000 in
theorem CodecPendings_wide (C zs : List Value) (ao : Option Addr) (c : Nat) (l : List Bool) (w : World) (hT : Ty Tryz.prog 54 zs) (hl : C.length = zs.length) (h0 : C[0]? = some (.slice ao l.length c)) (hw : 500 < l.length) :
    Calls Tryz.prog 5 #[.agg C.toArray] w fun e w' => e = .returned (.bool true) ∧ Below w.heap.size w w' := by
  have HW : Hid (decide (500 < l.length) = true) := hid (by simp [hw])
  have H0 := hid h0
  clear hT hl h0 hw
  go_enter Tryz.func5, Tryz.ntmps5
  go_wp2_with (refine wpList_box_c rfl 1 rfl (.tmp 0) rfl C rfl ?_; intro w1 H1 B1 S1)
  refine (awake_any w1).mono ?_
  rintro x w2 ⟨rfl, B2⟩
  have hx0 := (H1.keep B2).cell H0.out
  have T2 := hid (below_more B1 B2 (Nat.le_refl _))
  clear H1 B1 B2 S1
  go_wp2_with fail
  refine (wide_any l.length w2).mono ?_
  rintro x w3 ⟨rfl, rfl⟩
  rw [HW.out]
  go_wp2
  go_ret
  exact ⟨rfl, T2.out⟩
set_option maxHeartbeats 8000000 in
theorem codecPending_good (C zs : List Value) (ao : Option Addr) (c : Nat) (l : List Bool) (CY : Value → List Value) (X : Vt) (BS : List Nat) (D : Dt) (w : World) (hT : Ty Tryz.prog 54 zs) (hl : C.length = zs.length) (h1 : C.toArray.all (·.oneCell') = true) (h0 : C[0]? = some (.slice ao l.length c)) (hn : l.length ≤ 500) (hIT : IsT w (.slice ao l.length c) l) (hb8 : ∀ z ∈ BS, z < 256)
    (href : ∀ wq, IsT wq (.slice ao l.length c) l → Calls Tryz.prog 21 #[.agg C.toArray] wq fun x w' => ∃ v, x = .returned v ∧ IsV w' v X ∧ Below wq.heap.size wq w')
    (henc : ∀ wq, IsT wq (.slice ao l.length c) l → Calls Tryz.prog 22 #[.agg C.toArray] wq fun x w' => ∃ v, x = .returned v ∧ Row w' wq.heap.size v BS ∧ Below wq.heap.size wq w')
    (hdec : ∀ v wq, IsB wq v BS → Calls Tryz.prog 23 #[v] wq fun x w' => (∃ u, x = .returned (.tuple #[.agg (CY u).toArray, .int .i64 0]) ∧ IsT w' u l) ∧ Below wq.heap.size wq w')
    (hly : ∀ u wq, IsT wq u l → (CY u).length = zs.length ∧ (CY u).toArray.all (·.oneCell') = true) (hrefy : ∀ u wq, IsT wq u l → Calls Tryz.prog 21 #[.agg (CY u).toArray] wq fun x w' => ∃ v, x = .returned v ∧ IsV w' v X ∧ Below wq.heap.size wq w') (hle : l.length ≤ 32)
    (hkd : ∀ wq, Calls Tryz.prog 24 #[] wq fun x w' => ∃ p, x = .returned (.pointer (some ⟨p, 0, none⟩)) ∧ DAt w' D p ∧ Below wq.heap.size wq w')
    (henv : ∀ p u wq, DAt wq D p → IsV wq u X → Calls Tryz.prog 13 #[.pointer (some ⟨p, 0, none⟩), u] wq fun x w' => ∃ v, x = .returned v ∧ Row w' wq.heap.size v BS ∧ Below wq.heap.size wq w')
    (hsm : ∀ Y u v wq, IsV wq u Y → IsV wq v Y → Calls Tryz.prog 15 #[u, v] wq fun x w' => x = .returned (.bool true) ∧ Below wq.heap.size wq w') :
    Calls Tryz.prog 5 #[.agg C.toArray] w fun e w' => e = .returned (.bool true) ∧ Below w.heap.size w w' := by
  have HT := hid hT
  have HL := hid hl
  have H1C := hid h1
  have H0 := hid h0
  have HB8 := hid hb8
  have HREF := hid href
  have HENC := hid henc
  have HDEC := hid hdec
  have HKD := hid hkd
  have HENV := hid henv
  have HSM := hid (fun u v wq => hsm X u v wq)
  have HSMY := hid hsm
  have HIT0 := hid hIT
  have HW : Hid (decide (500 < l.length) = false) := hid (by simp; omega)
  have HLYA := hid hly
  have HREFA := hid hrefy
  have hd32 : decide ((l.length : Int) ≤ 32) = true := by simp; omega
  clear hly hrefy
  clear hT hl h1 h0 hb8 href henc hdec hkd henv hsm hIT
  go_enter Tryz.func5, Tryz.ntmps5
  go_wp2_with (refine wpList_box_c rfl 1 rfl (.tmp 0) rfl C rfl ?_; intro w1 H1 B1 S1)
  refine (awake_any w1).mono ?_
  rintro x w2 ⟨rfl, B2⟩
  have X2 := H1.keep B2
  have hx0 := X2.cell H0.out
  have T2 := below_more B1 B2 (Nat.le_refl _)
  clear H1 B1 B2 S1
  go_wp2_with fail
  refine (wide_any l.length w2).mono ?_
  rintro x w2' ⟨rfl, rfl⟩
  rw [HW.out]
  clear hx0
  go_wp2_with ((with_reducible refine at_list' ?_); (refine wpList_load_c HT.out rfl (.tmp 1) rfl w.heap.size C rfl HL.out X2 ?_))
  refine (HREF.out _ (HIT0.out.keep T2)).mono ?_
  rintro x w3 ⟨v3, rfl, q1, q2⟩
  obtain ⟨sb, sk, rfl, hV⟩ := q1
  obtain ⟨hone, hlen⟩ := valL_oneV hV
  obtain ⟨cs, hcs⟩ : ∃ cs, Same (valL X.num X.root sb sk) cs := ⟨_, ⟨rfl⟩⟩
  have hIV : ∀ wq, Below w3.heap.size w3 wq → IsV wq (.agg cs.toArray) X := fun wq hq => ⟨sb, sk, by rw [hcs.out], hV.keep hq⟩
  rw [hcs.out] at hone hlen ⊢
  have HIV := hid hIV
  have HONE := hid hone
  have HCL := hid hlen
  have X3 := X2.keep q2
  have T3 := below_more T2 q2 (Nat.le_refl _)
  have tyV : Ty Tryz.prog 33 (valL 0 (zeros 32) nilS nilS) := ⟨zeroVal, _, Tryz.underlying33, rfl⟩
  have HTV := hid tyV
  have hvl : (valL 0 (zeros 32) nilS nilS).length = 35 := valL_length _ _ _ _ (zeros_length 32)
  have HVL := hid (hlen.trans hvl.symm)
  clear X2 T2 q2 hV hone hlen hIV tyV hvl hcs
  go_wp2_with ((with_reducible refine at_list' ?_); first
    | (refine wpList_alloc_c HTV.out rfl 3 rfl rfl ?_; intro w4 H4 B4 S4)
    | (refine wpList_store_c HTV.out rfl (.tmp 3) (.tmp 14) rfl w3.heap.size cs rfl rfl HVL.out HONE.out _ H4 rfl ?_; intro w5 H5 O5; have B35 := hid (below_only B4 O5 (Nat.le_refl _)); have X5 := X3.keep B35.out)
    | (refine wpList_load_c HT.out rfl (.tmp 1) rfl w.heap.size C rfl HL.out X5 ?_))
  have T5 := below_more T3 B35.out (Nat.le_refl _)
  have hgv : w3.heap.size < w5.heap.size := H5.lt
  refine (HENC.out w5 (HIT0.out.keep T5)).mono ?_
  rintro x w6 ⟨v4, rfl, R6, B6⟩
  have HV6 := hid (R6.isB HB8.out)
  have X6 := X5.keep B6
  have V6 := H5.keep B6
  have T6 := below_more T5 B6 (Nat.le_refl _)
  have B36 := hid (below_more B35.out B6 (Nat.le_refl _))
  clear R6 B6 X5 H5 O5 H4 B4 S4 T5 X3 T3 B35
  go_wp2_with fail
  refine (HDEC.out v4 w6 HV6.out).mono ?_
  rintro x w7 ⟨⟨u, rfl, hIu⟩, B7⟩
  have HLY := hid (HLYA.out u w7 hIu).1
  have H1Y := hid (HLYA.out u w7 hIu).2
  have HREFY := hid (HREFA.out u)
  have HIU7 := hid hIu
  obtain ⟨CYl, hCY⟩ : ∃ C, CY u = C := ⟨_, rfl⟩
  rw [hCY] at HLY H1Y HREFY ⊢
  clear hIu hCY
  have V4 := HV6.out.keep B7
  have X7 := X6.keep B7
  have V7 := V6.keep B7
  have T7 := below_more T6 B7 (Nat.le_refl _)
  have B37 := hid (below_more B36.out B7 (Nat.le_refl _))
  clear X6 V6 T6 B36 HV6
  go_wp2_with ((with_reducible refine at_list' ?_); first
    | (refine wpList_alloc_c HT.out rfl 5 rfl rfl ?_; intro w8 H8 B8 S8)
    | (refine wpList_store_c HT.out rfl (.tmp 5) (.tmp 20) rfl w7.heap.size CYl rfl rfl HLY.out H1Y.out _ H8 rfl ?_; intro w9 H9 O9; have B79 := hid (below_only B8 O9 (Nat.le_refl _))))
  have HV4 := hid (V4.keep B79.out)
  have HX1 := hid (X7.keep B79.out)
  have HG3 := hid (V7.keep B79.out)
  have T9 := hid (below_more T7 B79.out (Nat.le_refl _))
  have HIT := hid (HIT0.out.keep T9.out)
  have HIU := hid (HIU7.out.keep B79.out)
  have HX5 := hid H9
  have HX := hid (HIV.out w9 (below_more B37.out B79.out (Nat.le_refl _)))
  obtain ⟨gv, hgve⟩ : ∃ g, w3.heap.size = g := ⟨_, rfl⟩
  obtain ⟨g5, hg5e⟩ : ∃ g, w7.heap.size = g := ⟨_, rfl⟩
  rw [hgve] at HG3 ⊢
  rw [hg5e] at HX5 ⊢
  clear V4 X7 V7 T7 H8 B8 S8 H9 O9 B7 B79 B37 HIV hgve hg5e hgv
  refine wp_region_flowM 13 13 (fun i v wq => match i with
    | 0 => v = v4
    | 1 => v = .string (strOf BS)
    | 2 => ∃ p, v = .pointer (some ⟨p, 0, none⟩) ∧ DAt wq D p
    | 3 => v = .agg cs.toArray
    | 4 => IsB wq v BS
    | 5 => v = .string (strOf BS)
    | 6 => v = .bool false
    | 7 => v = .bool false
    | 8 => v = .agg C.toArray
    | 9 => IsV wq v X
    | 10 => v = .agg cs.toArray
    | 11 => v = .bool true
    | _ => v = .bool false) (by kernel_rfl) (by kernel_rfl) (fun _ d _ _ _ h => by cases d <;> exact h) ?_ ?_ ?_ ?_ ?_
  · intro i o g b hi ho hg v wq hv
    match i, hi with
    | 0, _ => cases ho; cases hg
    | 1, _ => cases ho; cases hg
    | 2, _ => cases ho; cases hg
    | 3, _ => cases ho; cases hg
    | 4, _ => cases ho; cases hg
    | 5, _ => cases ho; cases hg
    | 6, _ => cases ho; cases hg
    | 7, _ => cases ho; cases hg
    | 8, _ => cases ho; cases hg; exact hv
    | 9, _ => cases ho; cases hg; exact hv
    | 10, _ => cases ho; cases hg; exact hv
    | 11, _ => cases ho; cases hg; exact hv
    | 12, _ => cases ho; cases hg; exact hv
    | (k + 13), hk => exact absurd hk (by omega)
  · intro i v wq wq' hi hv hb
    match i, hi with
    | 0, _ => exact hv
    | 1, _ => exact hv
    | 2, _ => obtain ⟨p, e, h⟩ := hv; exact ⟨p, e, h.keep hb⟩
    | 3, _ => exact hv
    | 4, _ => exact hv.keep hb
    | 5, _ => exact hv
    | 6, _ => exact hv
    | 7, _ => exact hv
    | 8, _ => exact hv
    | 9, _ => exact hv.keep hb
    | 10, _ => exact hv
    | 11, _ => exact hv
    | 12, _ => exact hv
    | (k + 13), hk => exact absurd hk (by omega)
  · intro i o hi ho aq wq hc hk hdep
    match i, hi with
    | 0, _ =>
      cases ho
      exact flow_move (.tmp 4) rfl (hk 4 (by decide))
    | 1, _ =>
      cases ho
      have e22 : aq.tmps.getD 22 undef = v4 := hdep 0 22 rfl (by kernel_rfl)
      exact flow_value _ (rconv (.tmp 22) rfl (by rw [show aq.eval (.tmp 22) = v4 from by simpa [Act.eval] using e22]; exact HV4.out.keep hc.bel)) rfl
    | 2, _ =>
      cases ho
      refine flow_fun 24 _ _ rfl (fun _ _ => by simp [go_sem]) #[] (by simp) ?_
      refine (HKD.out wq).mono ?_
      rintro e w' ⟨p, rfl, h, B⟩
      exact ⟨_, rfl, ⟨p, rfl, h⟩, B⟩
    | 3, _ =>
      cases ho
      exact flow_value _ (run_mid 33 (.tmp 3) rfl gv 0 (by simpa [Act.eval] using hk 3 (by decide)) cs ((HG3.out.keep hc.bel).range 0 cs (fun j v hv => by rw [Nat.zero_add]; exact hv)) _ Tryz.underlying33 rfl (by rw [HCL.out]; kernel_rfl)) rfl
    | 4, _ =>
      cases ho
      obtain ⟨p, e24, hD⟩ : ∃ p, aq.tmps.getD 24 undef = .pointer (some ⟨p, 0, none⟩) ∧ DAt wq D p := hdep 2 24 rfl (by kernel_rfl)
      have e25 : aq.tmps.getD 25 undef = .agg cs.toArray := hdep 3 25 rfl (by kernel_rfl)
      refine flow_fun 13 _ _ rfl (fun _ _ => by simp [go_sem]) #[.pointer (some ⟨p, 0, none⟩), .agg cs.toArray] (by rw [show (#[Operand.tmp 24, Operand.tmp 25] : Array Operand).map aq.eval = #[aq.tmps.getD 24 undef, aq.tmps.getD 25 undef] from by simp [Act.eval], e24, e25]) ?_
      refine (HENV.out p _ wq hD (HX.out.keep hc.bel)).mono ?_
      rintro e w' ⟨v, rfl, R, B⟩
      exact ⟨_, rfl, R.isB HB8.out, B⟩
    | 5, _ =>
      cases ho
      have e26 : IsB wq (aq.tmps.getD 26 undef) BS := hdep 4 26 rfl (by kernel_rfl)
      exact flow_value _ (rconv (.tmp 26) rfl (by simpa [Act.eval] using e26)) rfl
    | 6, _ =>
      cases ho
      have e23 : aq.tmps.getD 23 undef = .string (strOf BS) := hdep 1 23 rfl (by kernel_rfl)
      have e27 : aq.tmps.getD 27 undef = .string (strOf BS) := hdep 5 27 rfl (by kernel_rfl)
      exact flow_value _ (rneqs (.tmp 23) (.tmp 27) rfl (by simpa [Act.eval] using e23) (by simpa [Act.eval] using e27)) rfl
    | 7, _ =>
      cases ho
      have e28 : aq.tmps.getD 28 undef = .bool false := hdep 6 28 rfl (by kernel_rfl)
      exact flow_move (.tmp 28) rfl (by simpa [Act.eval] using e28)
    | 8, _ =>
      cases ho
      exact flow_value _ (run_mid 54 (.tmp 1) rfl w.heap.size 0 (by simpa [Act.eval] using hk 1 (by decide)) C ((HX1.out.keep hc.bel).range 0 C (fun j v hv => by rw [Nat.zero_add]; exact hv)) _ Tryz.underlying54 rfl (by rw [HL.out]; exact HT.out.size)) rfl
    | 9, _ =>
      cases ho
      have e30 : aq.tmps.getD 30 undef = .agg C.toArray := hdep 8 30 rfl (by kernel_rfl)
      refine flow_fun 21 _ _ rfl (fun _ _ => by simp [go_sem]) #[.agg C.toArray] (by rw [show (#[Operand.tmp 30] : Array Operand).map aq.eval = #[aq.tmps.getD 30 undef] from by simp [Act.eval], e30]) ?_
      refine (HREF.out wq (HIT.out.keep hc.bel)).mono ?_
      rintro e w' ⟨v, rfl, h, B⟩
      exact ⟨_, rfl, h, B⟩
    | 10, _ =>
      cases ho
      exact flow_value _ (run_mid 33 (.tmp 3) rfl gv 0 (by simpa [Act.eval] using hk 3 (by decide)) cs ((HG3.out.keep hc.bel).range 0 cs (fun j v hv => by rw [Nat.zero_add]; exact hv)) _ Tryz.underlying33 rfl (by rw [HCL.out]; kernel_rfl)) rfl
    | 11, _ =>
      cases ho
      have e31 : IsV wq (aq.tmps.getD 31 undef) X := hdep 9 31 rfl (by kernel_rfl)
      have e32 : aq.tmps.getD 32 undef = .agg cs.toArray := hdep 10 32 rfl (by kernel_rfl)
      refine flow_fun 15 _ _ rfl (fun _ _ => by simp [go_sem]) #[aq.tmps.getD 31 undef, .agg cs.toArray] (by rw [show (#[Operand.tmp 31, Operand.tmp 32] : Array Operand).map aq.eval = #[aq.tmps.getD 31 undef, aq.tmps.getD 32 undef] from by simp [Act.eval], e32]) ?_
      refine (HSM.out _ _ wq e31 (HX.out.keep hc.bel)).mono ?_
      rintro e w' ⟨rfl, B⟩
      exact ⟨_, rfl, rfl, B⟩
    | 12, _ =>
      cases ho
      have e33 : aq.tmps.getD 33 undef = .bool true := hdep 11 33 rfl (by kernel_rfl)
      refine flow_value _ ?_ rfl
      have e33' : aq.tmps[33]?.getD undef = .bool true := by simpa using e33
      unfold execOp
      simp [e33', go_sem]
    | (k + 13), hk => exact absurd hk (by omega)
  · intro o h13 ho
    omega
  intro vf w10 hc hv
  have e25 : vf 7 = _ := hv 7 29 (by decide) rfl
  have e30 : vf 12 = _ := hv 12 34 (by decide) rfl
  clear hv
  simp only [List.take_succ_cons, List.take_zero, List.drop_succ_cons, List.drop_zero, putAll, Act.put, List.setIfInBounds_toArray, List.set_cons_succ, List.set_cons_zero]
  rw [e25, e30]
  clear e25 e30
  have HX1 := hid (HX1.out.keep hc.bel)
  have HG3 := hid (HG3.out.keep hc.bel)
  have HX5 := hid (HX5.out.keep hc.bel)
  have HX := hid (HX.out.keep hc.bel)
  have hx0 := HX1.out.cell H0.out
  have HIU := hid (HIU.out.keep hc.bel)
  have T10 := hid (below_more T9.out hc.bel (Nat.le_refl _))
  clear hc T9
  go_wp2
  refine wp_region_flowM 7 7 (fun i v wq => match i with
    | 0 => v = .int .i64 0
    | 1 => v = .bool true
    | 2 => v = .bool true
    | 3 => v = .agg CYl.toArray
    | 4 => IsV wq v X
    | 5 => v = .agg cs.toArray
    | _ => v = .bool true) (by kernel_rfl) (by kernel_rfl) (fun _ d _ _ _ h => by cases d <;> exact h) ?_ ?_ ?_ ?_ ?_
  · intro i o g b hi ho hg v wq hv
    match i, hi with
    | 0, _ => cases ho; cases hg
    | 1, _ => cases ho; cases hg
    | 2, _ => cases ho; cases hg
    | 3, _ => cases ho; cases hg; exact hv
    | 4, _ => cases ho; cases hg; exact hv
    | 5, _ => cases ho; cases hg; exact hv
    | 6, _ => cases ho; cases hg; exact hv
    | (k + 7), hk => exact absurd hk (by omega)
  · intro i v wq wq' hi hv hb
    match i, hi with
    | 0, _ => exact hv
    | 1, _ => exact hv
    | 2, _ => exact hv
    | 3, _ => exact hv
    | 4, _ => exact hv.keep hb
    | 5, _ => exact hv
    | 6, _ => exact hv
    | (k + 7), hk => exact absurd hk (by omega)
  · intro i o hi ho aq wq hc hk hdep
    match i, hi with
    | 0, _ =>
      cases ho
      exact flow_move (.tmp 6) rfl (hk 6 (by decide))
    | 1, _ =>
      cases ho
      have e50 : aq.tmps.getD 50 undef = .int .i64 0 := hdep 0 50 rfl (by kernel_rfl)
      refine flow_value _ ?_ rfl
      have e50' : aq.tmps[50]?.getD undef = .int .i64 0 := by simpa using e50
      unfold execOp
      simp [e50', go_sem]
    | 2, _ =>
      cases ho
      have e51 : aq.tmps.getD 51 undef = .bool true := hdep 1 51 rfl (by kernel_rfl)
      exact flow_move (.tmp 51) rfl (by simpa [Act.eval] using e51)
    | 3, _ =>
      cases ho
      exact flow_value _ (run_mid 54 (.tmp 5) rfl g5 0 (by simpa [Act.eval] using hk 5 (by decide)) CYl ((HX5.out.keep hc.bel).range 0 CYl (fun j v hv => by rw [Nat.zero_add]; exact hv)) _ Tryz.underlying54 rfl (by rw [HLY.out]; exact HT.out.size)) rfl
    | 4, _ =>
      cases ho
      have e53 : aq.tmps.getD 53 undef = .agg CYl.toArray := hdep 3 53 rfl (by kernel_rfl)
      refine flow_fun 21 _ _ rfl (fun _ _ => by simp [go_sem]) #[.agg CYl.toArray] (by rw [show (#[Operand.tmp 53] : Array Operand).map aq.eval = #[aq.tmps.getD 53 undef] from by simp [Act.eval], e53]) ?_
      refine (HREFY.out wq (HIU.out.keep hc.bel)).mono ?_
      rintro e w' ⟨v, rfl, h, B⟩
      exact ⟨_, rfl, h, B⟩
    | 5, _ =>
      cases ho
      exact flow_value _ (run_mid 33 (.tmp 3) rfl gv 0 (by simpa [Act.eval] using hk 3 (by decide)) cs ((HG3.out.keep hc.bel).range 0 cs (fun j v hv => by rw [Nat.zero_add]; exact hv)) _ Tryz.underlying33 rfl (by rw [HCL.out]; kernel_rfl)) rfl
    | 6, _ =>
      cases ho
      have e54 : IsV wq (aq.tmps.getD 54 undef) X := hdep 4 54 rfl (by kernel_rfl)
      have e55 : aq.tmps.getD 55 undef = .agg cs.toArray := hdep 5 55 rfl (by kernel_rfl)
      refine flow_fun 15 _ _ rfl (fun _ _ => by simp [go_sem]) #[aq.tmps.getD 54 undef, .agg cs.toArray] (by rw [show (#[Operand.tmp 54, Operand.tmp 55] : Array Operand).map aq.eval = #[aq.tmps.getD 54 undef, aq.tmps.getD 55 undef] from by simp [Act.eval], e55]) ?_
      refine (HSM.out _ _ wq e54 (HX.out.keep hc.bel)).mono ?_
      rintro e w' ⟨rfl, B⟩
      exact ⟨_, rfl, rfl, B⟩
    | (k + 7), hk => exact absurd hk (by omega)
  · intro o h7 ho
    omega
  intro vf w11 hc hv
  have e34 : vf 2 = _ := hv 2 52 (by decide) rfl
  have e38 : vf 6 = _ := hv 6 56 (by decide) rfl
  clear hv
  simp only [List.take_succ_cons, List.take_zero, List.drop_succ_cons, List.drop_zero, putAll, Act.put, List.setIfInBounds_toArray, List.set_cons_succ, List.set_cons_zero]
  rw [e34, e38]
  have T11 := hid (below_more T10.out hc.bel (Nat.le_refl _))
  clear e34 e38 hc
  go_wp2
  go_ret
  exact ⟨rfl, T11.out⟩
set_option maxHeartbeats 8000000 in
theorem codecPending_bad (C zs : List Value) (ao : Option Addr) (c : Nat) (l : List Bool) (X : Vt) (BS : List Nat) (D : Dt) (w : World) (hT : Ty Tryz.prog 54 zs) (hl : C.length = zs.length) (h1 : C.toArray.all (·.oneCell') = true) (h0 : C[0]? = some (.slice ao l.length c)) (hn : l.length ≤ 500) (hIT : IsT w (.slice ao l.length c) l) (hb8 : ∀ z ∈ BS, z < 256)
    (href : ∀ wq, IsT wq (.slice ao l.length c) l → Calls Tryz.prog 21 #[.agg C.toArray] wq fun x w' => ∃ v, x = .returned v ∧ IsV w' v X ∧ Below wq.heap.size wq w')
    (henc : ∀ wq, IsT wq (.slice ao l.length c) l → Calls Tryz.prog 22 #[.agg C.toArray] wq fun x w' => ∃ v, x = .returned v ∧ Row w' wq.heap.size v BS ∧ Below wq.heap.size wq w')
    (X0 : Vt) (hdec : ∀ v wq, IsB wq v BS → Calls Tryz.prog 23 #[v] wq fun x w' => x = .returned (.tuple #[.agg zs.toArray, .int .i64 3]) ∧ Below wq.heap.size wq w')
    (hz1 : zs.toArray.all (·.oneCell') = true) (hzb : Tryz.prog.built 54 [] = some zs.toArray) (href0 : ∀ wq, Calls Tryz.prog 21 #[.agg zs.toArray] wq fun x w' => ∃ v, x = .returned v ∧ IsV w' v X0 ∧ Below wq.heap.size wq w') (hgt : 32 < l.length)
    (hkd : ∀ wq, Calls Tryz.prog 24 #[] wq fun x w' => ∃ p, x = .returned (.pointer (some ⟨p, 0, none⟩)) ∧ DAt w' D p ∧ Below wq.heap.size wq w')
    (henv : ∀ p u wq, DAt wq D p → IsV wq u X → Calls Tryz.prog 13 #[.pointer (some ⟨p, 0, none⟩), u] wq fun x w' => ∃ v, x = .returned v ∧ Row w' wq.heap.size v BS ∧ Below wq.heap.size wq w')
    (hsm : ∀ Y u v wq, IsV wq u Y → IsV wq v Y → Calls Tryz.prog 15 #[u, v] wq fun x w' => x = .returned (.bool true) ∧ Below wq.heap.size wq w') :
    Calls Tryz.prog 5 #[.agg C.toArray] w fun e w' => e = .returned (.bool true) ∧ Below w.heap.size w w' := by
  have HT := hid hT
  have HL := hid hl
  have H1C := hid h1
  have H0 := hid h0
  have HB8 := hid hb8
  have HREF := hid href
  have HENC := hid henc
  have HDEC := hid hdec
  have HKD := hid hkd
  have HENV := hid henv
  have HSM := hid (fun u v wq => hsm X u v wq)
  have HSMY := hid hsm
  have HIT0 := hid hIT
  have HW : Hid (decide (500 < l.length) = false) := hid (by simp; omega)
  have HREF0 := hid href0
  have HZ1 := hid hz1
  have HZB := hid hzb
  have hd32 : decide ((l.length : Int) ≤ 32) = false := by simp; omega
  clear href0 hz1 hzb
  clear hT hl h1 h0 hb8 href henc hdec hkd henv hsm hIT
  go_enter Tryz.func5, Tryz.ntmps5
  go_wp2_with (refine wpList_box_c rfl 1 rfl (.tmp 0) rfl C rfl ?_; intro w1 H1 B1 S1)
  refine (awake_any w1).mono ?_
  rintro x w2 ⟨rfl, B2⟩
  have X2 := H1.keep B2
  have hx0 := X2.cell H0.out
  have T2 := below_more B1 B2 (Nat.le_refl _)
  clear H1 B1 B2 S1
  go_wp2_with fail
  refine (wide_any l.length w2).mono ?_
  rintro x w2' ⟨rfl, rfl⟩
  rw [HW.out]
  clear hx0
  go_wp2_with ((with_reducible refine at_list' ?_); (refine wpList_load_c HT.out rfl (.tmp 1) rfl w.heap.size C rfl HL.out X2 ?_))
  refine (HREF.out _ (HIT0.out.keep T2)).mono ?_
  rintro x w3 ⟨v3, rfl, q1, q2⟩
  obtain ⟨sb, sk, rfl, hV⟩ := q1
  obtain ⟨hone, hlen⟩ := valL_oneV hV
  obtain ⟨cs, hcs⟩ : ∃ cs, Same (valL X.num X.root sb sk) cs := ⟨_, ⟨rfl⟩⟩
  have hIV : ∀ wq, Below w3.heap.size w3 wq → IsV wq (.agg cs.toArray) X := fun wq hq => ⟨sb, sk, by rw [hcs.out], hV.keep hq⟩
  rw [hcs.out] at hone hlen ⊢
  have HIV := hid hIV
  have HONE := hid hone
  have HCL := hid hlen
  have X3 := X2.keep q2
  have T3 := below_more T2 q2 (Nat.le_refl _)
  have tyV : Ty Tryz.prog 33 (valL 0 (zeros 32) nilS nilS) := ⟨zeroVal, _, Tryz.underlying33, rfl⟩
  have HTV := hid tyV
  have hvl : (valL 0 (zeros 32) nilS nilS).length = 35 := valL_length _ _ _ _ (zeros_length 32)
  have HVL := hid (hlen.trans hvl.symm)
  clear X2 T2 q2 hV hone hlen hIV tyV hvl hcs
  go_wp2_with ((with_reducible refine at_list' ?_); first
    | (refine wpList_alloc_c HTV.out rfl 3 rfl rfl ?_; intro w4 H4 B4 S4)
    | (refine wpList_store_c HTV.out rfl (.tmp 3) (.tmp 14) rfl w3.heap.size cs rfl rfl HVL.out HONE.out _ H4 rfl ?_; intro w5 H5 O5; have B35 := hid (below_only B4 O5 (Nat.le_refl _)); have X5 := X3.keep B35.out)
    | (refine wpList_load_c HT.out rfl (.tmp 1) rfl w.heap.size C rfl HL.out X5 ?_))
  have T5 := below_more T3 B35.out (Nat.le_refl _)
  have hgv : w3.heap.size < w5.heap.size := H5.lt
  refine (HENC.out w5 (HIT0.out.keep T5)).mono ?_
  rintro x w6 ⟨v4, rfl, R6, B6⟩
  have HV6 := hid (R6.isB HB8.out)
  have X6 := X5.keep B6
  have V6 := H5.keep B6
  have T6 := below_more T5 B6 (Nat.le_refl _)
  have B36 := hid (below_more B35.out B6 (Nat.le_refl _))
  clear R6 B6 X5 H5 O5 H4 B4 S4 T5 X3 T3 B35
  go_wp2_with fail
  refine (HDEC.out v4 w6 HV6.out).mono ?_
  rintro x w7 ⟨rfl, B7⟩
  have V4 := HV6.out.keep B7
  have X7 := X6.keep B7
  have V7 := V6.keep B7
  have T7 := below_more T6 B7 (Nat.le_refl _)
  have B37 := hid (below_more B36.out B7 (Nat.le_refl _))
  clear X6 V6 T6 B36 HV6
  go_wp2_with ((with_reducible refine at_list' ?_); first
    | (refine wpList_alloc_c HT.out rfl 5 rfl rfl ?_; intro w8 H8 B8 S8)
    | (refine wpList_store_c HT.out rfl (.tmp 5) (.tmp 20) rfl w7.heap.size zs rfl rfl rfl HZ1.out _ H8 rfl ?_; intro w9 H9 O9; have B79 := hid (below_only B8 O9 (Nat.le_refl _))))
  have HV4 := hid (V4.keep B79.out)
  have HX1 := hid (X7.keep B79.out)
  have HG3 := hid (V7.keep B79.out)
  have T9 := hid (below_more T7 B79.out (Nat.le_refl _))
  have HIT := hid (HIT0.out.keep T9.out)
  have HX5 := hid H9
  have HX := hid (HIV.out w9 (below_more B37.out B79.out (Nat.le_refl _)))
  obtain ⟨gv, hgve⟩ : ∃ g, w3.heap.size = g := ⟨_, rfl⟩
  obtain ⟨g5, hg5e⟩ : ∃ g, w7.heap.size = g := ⟨_, rfl⟩
  rw [hgve] at HG3 ⊢
  rw [hg5e] at HX5 ⊢
  clear V4 X7 V7 T7 H8 B8 S8 H9 O9 B7 B79 B37 HIV hgve hg5e hgv
  refine wp_region_flowM 13 13 (fun i v wq => match i with
    | 0 => v = v4
    | 1 => v = .string (strOf BS)
    | 2 => ∃ p, v = .pointer (some ⟨p, 0, none⟩) ∧ DAt wq D p
    | 3 => v = .agg cs.toArray
    | 4 => IsB wq v BS
    | 5 => v = .string (strOf BS)
    | 6 => v = .bool false
    | 7 => v = .bool false
    | 8 => v = .agg C.toArray
    | 9 => IsV wq v X
    | 10 => v = .agg cs.toArray
    | 11 => v = .bool true
    | _ => v = .bool false) (by kernel_rfl) (by kernel_rfl) (fun _ d _ _ _ h => by cases d <;> exact h) ?_ ?_ ?_ ?_ ?_
  · intro i o g b hi ho hg v wq hv
    match i, hi with
    | 0, _ => cases ho; cases hg
    | 1, _ => cases ho; cases hg
    | 2, _ => cases ho; cases hg
    | 3, _ => cases ho; cases hg
    | 4, _ => cases ho; cases hg
    | 5, _ => cases ho; cases hg
    | 6, _ => cases ho; cases hg
    | 7, _ => cases ho; cases hg
    | 8, _ => cases ho; cases hg; exact hv
    | 9, _ => cases ho; cases hg; exact hv
    | 10, _ => cases ho; cases hg; exact hv
    | 11, _ => cases ho; cases hg; exact hv
    | 12, _ => cases ho; cases hg; exact hv
    | (k + 13), hk => exact absurd hk (by omega)
  · intro i v wq wq' hi hv hb
    match i, hi with
    | 0, _ => exact hv
    | 1, _ => exact hv
    | 2, _ => obtain ⟨p, e, h⟩ := hv; exact ⟨p, e, h.keep hb⟩
    | 3, _ => exact hv
    | 4, _ => exact hv.keep hb
    | 5, _ => exact hv
    | 6, _ => exact hv
    | 7, _ => exact hv
    | 8, _ => exact hv
    | 9, _ => exact hv.keep hb
    | 10, _ => exact hv
    | 11, _ => exact hv
    | 12, _ => exact hv
    | (k + 13), hk => exact absurd hk (by omega)
  · intro i o hi ho aq wq hc hk hdep
    match i, hi with
    | 0, _ =>
      cases ho
      exact flow_move (.tmp 4) rfl (hk 4 (by decide))
    | 1, _ =>
      cases ho
      have e22 : aq.tmps.getD 22 undef = v4 := hdep 0 22 rfl (by kernel_rfl)
      exact flow_value _ (rconv (.tmp 22) rfl (by rw [show aq.eval (.tmp 22) = v4 from by simpa [Act.eval] using e22]; exact HV4.out.keep hc.bel)) rfl
    | 2, _ =>
      cases ho
      refine flow_fun 24 _ _ rfl (fun _ _ => by simp [go_sem]) #[] (by simp) ?_
      refine (HKD.out wq).mono ?_
      rintro e w' ⟨p, rfl, h, B⟩
      exact ⟨_, rfl, ⟨p, rfl, h⟩, B⟩
    | 3, _ =>
      cases ho
      exact flow_value _ (run_mid 33 (.tmp 3) rfl gv 0 (by simpa [Act.eval] using hk 3 (by decide)) cs ((HG3.out.keep hc.bel).range 0 cs (fun j v hv => by rw [Nat.zero_add]; exact hv)) _ Tryz.underlying33 rfl (by rw [HCL.out]; kernel_rfl)) rfl
    | 4, _ =>
      cases ho
      obtain ⟨p, e24, hD⟩ : ∃ p, aq.tmps.getD 24 undef = .pointer (some ⟨p, 0, none⟩) ∧ DAt wq D p := hdep 2 24 rfl (by kernel_rfl)
      have e25 : aq.tmps.getD 25 undef = .agg cs.toArray := hdep 3 25 rfl (by kernel_rfl)
      refine flow_fun 13 _ _ rfl (fun _ _ => by simp [go_sem]) #[.pointer (some ⟨p, 0, none⟩), .agg cs.toArray] (by rw [show (#[Operand.tmp 24, Operand.tmp 25] : Array Operand).map aq.eval = #[aq.tmps.getD 24 undef, aq.tmps.getD 25 undef] from by simp [Act.eval], e24, e25]) ?_
      refine (HENV.out p _ wq hD (HX.out.keep hc.bel)).mono ?_
      rintro e w' ⟨v, rfl, R, B⟩
      exact ⟨_, rfl, R.isB HB8.out, B⟩
    | 5, _ =>
      cases ho
      have e26 : IsB wq (aq.tmps.getD 26 undef) BS := hdep 4 26 rfl (by kernel_rfl)
      exact flow_value _ (rconv (.tmp 26) rfl (by simpa [Act.eval] using e26)) rfl
    | 6, _ =>
      cases ho
      have e23 : aq.tmps.getD 23 undef = .string (strOf BS) := hdep 1 23 rfl (by kernel_rfl)
      have e27 : aq.tmps.getD 27 undef = .string (strOf BS) := hdep 5 27 rfl (by kernel_rfl)
      exact flow_value _ (rneqs (.tmp 23) (.tmp 27) rfl (by simpa [Act.eval] using e23) (by simpa [Act.eval] using e27)) rfl
    | 7, _ =>
      cases ho
      have e28 : aq.tmps.getD 28 undef = .bool false := hdep 6 28 rfl (by kernel_rfl)
      exact flow_move (.tmp 28) rfl (by simpa [Act.eval] using e28)
    | 8, _ =>
      cases ho
      exact flow_value _ (run_mid 54 (.tmp 1) rfl w.heap.size 0 (by simpa [Act.eval] using hk 1 (by decide)) C ((HX1.out.keep hc.bel).range 0 C (fun j v hv => by rw [Nat.zero_add]; exact hv)) _ Tryz.underlying54 rfl (by rw [HL.out]; exact HT.out.size)) rfl
    | 9, _ =>
      cases ho
      have e30 : aq.tmps.getD 30 undef = .agg C.toArray := hdep 8 30 rfl (by kernel_rfl)
      refine flow_fun 21 _ _ rfl (fun _ _ => by simp [go_sem]) #[.agg C.toArray] (by rw [show (#[Operand.tmp 30] : Array Operand).map aq.eval = #[aq.tmps.getD 30 undef] from by simp [Act.eval], e30]) ?_
      refine (HREF.out wq (HIT.out.keep hc.bel)).mono ?_
      rintro e w' ⟨v, rfl, h, B⟩
      exact ⟨_, rfl, h, B⟩
    | 10, _ =>
      cases ho
      exact flow_value _ (run_mid 33 (.tmp 3) rfl gv 0 (by simpa [Act.eval] using hk 3 (by decide)) cs ((HG3.out.keep hc.bel).range 0 cs (fun j v hv => by rw [Nat.zero_add]; exact hv)) _ Tryz.underlying33 rfl (by rw [HCL.out]; kernel_rfl)) rfl
    | 11, _ =>
      cases ho
      have e31 : IsV wq (aq.tmps.getD 31 undef) X := hdep 9 31 rfl (by kernel_rfl)
      have e32 : aq.tmps.getD 32 undef = .agg cs.toArray := hdep 10 32 rfl (by kernel_rfl)
      refine flow_fun 15 _ _ rfl (fun _ _ => by simp [go_sem]) #[aq.tmps.getD 31 undef, .agg cs.toArray] (by rw [show (#[Operand.tmp 31, Operand.tmp 32] : Array Operand).map aq.eval = #[aq.tmps.getD 31 undef, aq.tmps.getD 32 undef] from by simp [Act.eval], e32]) ?_
      refine (HSM.out _ _ wq e31 (HX.out.keep hc.bel)).mono ?_
      rintro e w' ⟨rfl, B⟩
      exact ⟨_, rfl, rfl, B⟩
    | 12, _ =>
      cases ho
      have e33 : aq.tmps.getD 33 undef = .bool true := hdep 11 33 rfl (by kernel_rfl)
      refine flow_value _ ?_ rfl
      have e33' : aq.tmps[33]?.getD undef = .bool true := by simpa using e33
      unfold execOp
      simp [e33', go_sem]
    | (k + 13), hk => exact absurd hk (by omega)
  · intro o h13 ho
    omega
  intro vf w10 hc hv
  have e25 : vf 7 = _ := hv 7 29 (by decide) rfl
  have e30 : vf 12 = _ := hv 12 34 (by decide) rfl
  clear hv
  simp only [List.take_succ_cons, List.take_zero, List.drop_succ_cons, List.drop_zero, putAll, Act.put, List.setIfInBounds_toArray, List.set_cons_succ, List.set_cons_zero]
  rw [e25, e30]
  clear e25 e30
  have HX1 := hid (HX1.out.keep hc.bel)
  have HG3 := hid (HG3.out.keep hc.bel)
  have HX5 := hid (HX5.out.keep hc.bel)
  have HX := hid (HX.out.keep hc.bel)
  have hx0 := HX1.out.cell H0.out
  have T10 := hid (below_more T9.out hc.bel (Nat.le_refl _))
  clear hc T9
  go_wp2_with ((with_reducible refine at_list' ?_); (refine wpList_wantV (by rfl) (.agg zs.toArray) (run_mid 54 (.tmp 5) rfl g5 0 rfl zs (HX5.out.range 0 zs (fun j v hv => by rw [Nat.zero_add]; exact hv)) _ Tryz.underlying54 rfl (by exact HT.out.size)) ?_))
  refine (HREF0.out w10).mono ?_
  rintro x w11 ⟨v11, rfl, q1, q2⟩
  have HQ := hid q1
  have T11 := hid (below_more T10.out q2 (Nat.le_refl _))
  clear q1 q2 hx0
  go_wp2_with ((with_reducible refine at_list' ?_); (refine wpList_buildNW (by rfl) 54 rfl zs.toArray HZB.out ?_))
  refine (HREF0.out w11).mono ?_
  rintro x w12 ⟨v12, rfl, q1, q2⟩
  have HQ2 := hid q1
  have HQ1 := hid (HQ.out.keep q2)
  have T12 := hid (below_more T11.out q2 (Nat.le_refl _))
  clear q1 q2
  go_wp2_with fail
  refine (HSMY.out X0 v11 v12 w12 HQ1.out HQ2.out).mono ?_
  rintro x w13 ⟨rfl, B13⟩
  have T13 := hid (below_more T12.out B13 (Nat.le_refl _))
  clear B13
  go_wp2
  go_ret
  exact ⟨rfl, T13.out⟩
end Go.Proofs.YtoajeencniomoaaGreat

/- Attestations taken: answer. -/
namespace Go.Proofs.YtoajeencniomoaaGreat
open Go.RowKit Go.Shelf
set_option linter.unusedVariables false
set_option maxRecDepth 100000

/-- An Attestation's cells; the zero one. -/
def pdC (sb : Value) (V : List Value) (de pr : Nat) : List Value := [sb] ++ (V ++ ([Value.int .u64 (de : Nat), Value.int .u64 (pr : Nat)] ++ []))
abbrev pd0 : List Value := pdC (.slice none 0 0) vt0 0 0
theorem Tryz.ty54 : Ty Tryz.prog 54 pd0 := ⟨by kernel_rfl, _, Tryz.underlying54, rfl⟩
theorem pd0_one : pd0.toArray.all (·.oneCell') = true := by kernel_rfl
/-- What a good or a bad Pending answers. -/
def pdA (t : Bool) (C : List Value) : Value := .tuple #[.agg (if t then C else pd0).toArray, .int .i64 (if t then 0 else 3)]

set_option maxHeartbeats 1000000 in
theorem answerPd_any (C : List Value) (t : Bool) (w : World) (hl : C.length = 103) (h1 : C.toArray.all (·.oneCell') = true) :
    Calls Tryz.prog 69 #[.agg C.toArray, .bool t] w fun x w' => x = .returned (pdA t C) ∧ Below w.heap.size w w' := by
  have HL := hid hl
  have HO := hid h1
  clear hl h1
  cases t with
  | true =>
    go_enter Tryz.func69, Tryz.ntmps69
    go_wp2_with (first
      | (refine wpList_box_c rfl 2 rfl (.tmp 0) rfl C rfl ?_; intro w1 H1 B1 S1)
      | (refine wpList_alloc_c Tryz.ty54 rfl 4 rfl rfl ?_; intro w2 H2 B2 S2; rw [S1] at H2 S2; rw [S1])
      | (refine wpList_load_c Tryz.ty54 rfl (.tmp 2) rfl w.heap.size C rfl (by rw [HL.out]; rfl) (H1.keep B2) ?_)
      | (refine wpList_store_c Tryz.ty54 rfl (.tmp 4) (.tmp 10) rfl (w.heap.size + 1) C rfl rfl (by rw [HL.out]; rfl) HO.out _ H2 rfl ?_; intro w3 H3 O3))
    refine bodyPost_ret (results_c Tryz.ty54 rfl _ w3 (w.heap.size + 1) C (.int .i64 0) rfl rfl H3 (by rw [HL.out]; rfl)) rfl ⟨rfl, ?_⟩
    exact below_only (B1.trans (B2.mono (by omega))) O3 (by omega)
  | false =>
    go_enter Tryz.func69, Tryz.ntmps69
    go_wp2_with (first
      | (refine wpList_box_c rfl 2 rfl (.tmp 0) rfl C rfl ?_; intro w1 H1 B1 S1)
      | (refine wpList_alloc_c Tryz.ty54 rfl 4 rfl rfl ?_; intro w2 H2 B2 S2; rw [S1] at H2 S2; rw [S1])
      | (refine wpList_alloc_c Tryz.ty54 rfl 6 rfl rfl ?_; intro w4 H4 B4 S4; rw [S2] at H4 S4; rw [S2])
      | (refine wpList_load_c Tryz.ty54 rfl (.tmp 6) rfl (w.heap.size + 1 + 1) pd0 rfl rfl H4 ?_)
      | (refine wpList_store_c Tryz.ty54 rfl (.tmp 4) (.tmp 9) rfl (w.heap.size + 1) pd0 rfl rfl rfl pd0_one _ (H2.keep B4) rfl ?_; intro w3 H3 O3))
    refine bodyPost_ret (results_c Tryz.ty54 rfl _ w3 (w.heap.size + 1) pd0 (.int .i64 3) rfl rfl H3 rfl) rfl ⟨rfl, ?_⟩
    exact below_only (B1.trans ((B2.mono (by omega)).trans (B4.mono (by omega)))) O3 (by omega)
end Go.Proofs.YtoajeencniomoaaGreat

/- Numbers and roots taken, over the state. -/
namespace Go.Proofs.YtoajeencniomoaaGreat
open Go.RowKit Go.Shelf
set_option linter.unusedVariables false
set_option linter.unusedSimpArgs false
set_option maxRecDepth 100000

theorem fixS_ok {bs : List Nat} {size n : Nat} {s : Rs} (h : s.1 ≤ size ∧ (s.2 = false → size ≤ bs.length)) : (fixS size n s).1 ≤ size ∧ ((fixS size n s).2 = false → size ≤ bs.length) := by
  obtain ⟨h1, h2⟩ := h
  refine ⟨?_, fun h => h2 ?_⟩
  · show fixT size s.1 n s.2 ≤ size
    unfold fixT fixW
    by_cases hw : (s.2 || decide (size - s.1 < n)) = true
    · rw [if_pos hw]; exact h1
    · rw [if_neg hw]
      simp only [Bool.or_eq_true, decide_eq_true_eq, not_or] at hw
      omega
  · have h' : (s.2 || decide (size - s.1 < n)) = false := h
    simp only [Bool.or_eq_false_iff] at h'
    exact h'.1
theorem rnumS {g : Nat} {S : Nat → Prop} {bs : List Nat} {size : Nat} {ps : List Nat} (s : Rs) (w : World) (h : Rd w g S bs size s.1 ps s.2) (hs : size ≤ 4611686018427387904) (hl : bs.length ≤ 140737488355328) :
    Calls Tryz.prog 68 #[.pointer (some ⟨g, 0, none⟩)] w fun e w' => e = .returned (.int .u64 (numAt bs size s : Nat)) ∧ Rd w' g S bs size (fixS size 8 s).1 ps (fixS size 8 s).2 ∧ w.grownBy w' (some g) := rnum_any w h hs hl
theorem rrootS {g : Nat} {S : Nat → Prop} {bs : List Nat} {size : Nat} {ps : List Nat} (s : Rs) (w : World) (h : Rd w g S bs size s.1 ps s.2) (hs : size ≤ 4611686018427387904) (hl : bs.length ≤ 140737488355328) :
    Calls Tryz.prog 63 #[.pointer (some ⟨g, 0, none⟩)] w fun e w' => e = .returned (.agg (nums .u8 (rootAt bs size s))) ∧ Rd w' g S bs size (fixS size 32 s).1 ps (fixS size 32 s).2 ∧ w.grownBy w' (some g) := rroot_any w h hs hl
end Go.Proofs.YtoajeencniomoaaGreat

/- Votes taken, over the state. -/
namespace Go.Proofs.YtoajeencniomoaaGreat
open Go.RowKit Go.Shelf
set_option linter.unusedVariables false
set_option linter.unusedSimpArgs false
set_option maxRecDepth 100000

theorem vtTake_len (bs : List Nat) (size : Nat) (s : Rs) (h1 : s.1 ≤ size) (h2 : s.2 = false → size ≤ bs.length) : (vtTake bs size s).length = 100 ∧ (vtTake bs size s).toArray.all (·.oneCell') = true := by
  have q0 : s.1 ≤ size ∧ (s.2 = false → size ≤ bs.length) := ⟨h1, h2⟩
  have q1 := fixS_ok (n := 8) q0
  have q2 := fixS_ok (n := 8) q1
  have q3 := fixS_ok (n := 32) q2
  have q4 := fixS_ok (n := 8) q3
  have q5 := fixS_ok (n := 32) q4
  have q6 := fixS_ok (n := 8) q5
  exact ⟨vtC_length (fixB_length q2.1 q2.2) (fixB_length q4.1 q4.2) (fixB_length q6.1 q6.2), vtC_one _ _ _ _ _ _ _⟩
theorem takeVtS_any {g : Nat} {S : Nat → Prop} {bs : List Nat} {size : Nat} {ps : List Nat} (s : Rs) (w : World) (h : Rd w g S bs size s.1 ps s.2) (hs : size ≤ 4611686018427387904) (hl : bs.length ≤ 140737488355328) :
    Calls Tryz.prog 49 #[.pointer (some ⟨g, 0, none⟩)] w fun x w' => x = .returned (.agg (vtTake bs size s).toArray) ∧ (vtTake bs size s).length = 100 ∧ (vtTake bs size s).toArray.all (·.oneCell') = true ∧ Rd w' g S bs size (vtS size s).1 ps (vtS size s).2 ∧ w.grownBy w' (some g) := by
  have HTL := vtTake_len bs size s h.ts h.ok
  refine (takeVt_any w h hs hl).mono ?_
  rintro x w' ⟨rfl, q1, q2, q3⟩
  exact ⟨rfl, q1, HTL.2, q2, q3⟩
end Go.Proofs.YtoajeencniomoaaGreat

/- Attestations that are good, taken. -/
namespace Go.Proofs.YtoajeencniomoaaGreat
open Go.RowKit Go.Shelf
set_option linter.unusedVariables false
set_option linter.unusedSimpArgs false
set_option maxRecDepth 100000

/-- Truths stay where another block turns that holds none. -/
theorem isT_only {w w' : World} {u : Value} {l : List Bool} {g : Nat} (h : IsT w u l) (ho : Only g w w') (hn : ∀ j b, w.cell? ⟨g, j, none⟩ ≠ some (.bool b)) : IsT w' u l := by
  obtain ⟨ao, cap, rfl, h1, h2, h3⟩ := h
  refine ⟨ao, cap, rfl, h1, h2, ?_⟩
  rcases h3 with h3 | ⟨b, off, rfl, h3⟩
  · exact .inl h3
  · by_cases h0 : l.length = 0
    · exact .inl h0
    · have hne : b ≠ g := fun e => by
        subst e
        exact hn _ _ (h3 0 (by omega))
      refine .inr ⟨b, off, rfl, fun i hi => ?_⟩
      have hb := ho.block b hne
      have hi' := h3 i hi
      simp only [World.cell?, hb] at hi' ⊢
      exact hi'
theorem isT_oneCell {w : World} {u : Value} {l : List Bool} (h : IsT w u l) : u.oneCell' = true := by
  obtain ⟨ao, cap, rfl, _⟩ := h
  rfl
theorem vtC_noBool {sl ix : Nat} {b : List Nat} {es : Nat} {rs : List Nat} {et : Nat} {rt : List Nat} {c : Bool} : Value.bool c ∉ vtC sl ix b es rs et rt := by
  simp [vtC, cpC, cellsB]
theorem atC_noBool {w : World} {g j : Nat} {bs sg : List Nat} {c : Bool} (h : HasC w g 46 (atC (.slice none 0 0) (atV bs) sg)) (hc : w.cell? ⟨g, j, none⟩ = some (.bool c)) : False := by
  rw [cell_of_row w g j _ _ (0, 0) h] at hc
  have hm : Value.bool c ∈ atC (.slice none 0 0) (atV bs) sg := List.mem_of_getElem? (by simpa using hc)
  unfold atC atV vtTake at hm
  simp only [List.mem_append, List.mem_cons, List.not_mem_nil, or_false] at hm
  rcases hm with hm | hm | hm
  · cases hm
  · exact vtC_noBool hm
  · simp [cellsB] at hm
theorem at0_noBool {w : World} {g j : Nat} {c : Bool} (h : HasC w g 46 at0) (hc : w.cell? ⟨g, j, none⟩ = some (.bool c)) : False := by
  rw [cell_of_row w g j _ _ (0, 0) h] at hc
  have hm : Value.bool c ∈ at0 := List.mem_of_getElem? (by simpa using hc)
  unfold at0 atC vt0 at hm
  simp only [List.mem_append, List.mem_cons, List.not_mem_nil, or_false] at hm
  rcases hm with hm | hm | hm
  · cases hm
  · exact vtC_noBool hm
  · simp [cellsB] at hm

set_option maxHeartbeats 2000000 in
theorem toAt_good (v : Value) (bs : List Nat) (L : List Bool) (w : World) (hB : IsB w v bs) (hl : bs.length ≤ 100000000000) (hG : atG bs = true) (hT : takeB (bs.drop 164) 32 = some L) :
    Calls Tryz.prog 19 #[v] w fun x w' => (∃ u, x = .returned (atA true (atC u (atV bs) (atR bs))) ∧ IsT w' u L) ∧ Below w.heap.size w w' := by
  have HTB := hid hT
  have HGB := hid hG
  clear hG hT
  have HI := hid hB
  obtain ⟨⟨ao, cap, rfl, _⟩, _⟩ := hB
  go_enter Tryz.func19, Tryz.ntmps19
  go_wp2_with ((with_reducible refine at_list' ?_); first
    | (refine wpList_alloc_c Tryz.ty46 rfl 2 rfl rfl ?_; intro w1 H1 B1 S1))
  have HC := hid (read_any _ bs 164 w1 (HI.out.keep B1) (by decide) (by omega))
  have HH1 := hid H1
  have HB1 := hid B1
  have s1 := S1
  clear H1 B1 S1 HI
  refine HC.out.mono ?_
  rintro e w2 ⟨g, S, hg, rfl, q1, q2, q3⟩
  have HP := hid (rpart_any w2 q1 (by decide) (by omega) (by simp))
  have HH2 := hid (HH1.out.keep q3)
  have HB2 := hid (HB1.out.trans (q3.mono (by omega)))
  have s2 := q3.size
  have hgl := q1.gt
  clear q1 q2 q3 HC HH1 HB1
  go_wp2_with fail
  refine HP.out.mono ?_
  rintro e w3 ⟨⟨u3, rfl⟩, q1, q2⟩
  have HT := hid (takeVt_any w3 q1 (by decide) (by omega))
  have HH3 := hid (HH2.out.grown q2 (by omega))
  have s3 := q2.size
  have HB3 : Hid (Below w.heap.size w w3) := hid ⟨q2.os.trans HB2.out.os, q2.tape.trans HB2.out.tape, q2.output.trans HB2.out.output, by omega, fun j hj => (q2.block j (by omega) (fun h => by have := Option.some.inj h; omega)).trans (HB2.out.block j hj)⟩
  clear q1 q2 HP HH2 HB2
  go_wp2_with fail
  refine HT.out.mono ?_
  rintro e w4 ⟨rfl, hV, q1, q2⟩
  have HR := hid (rroot_any w4 q1 (by decide) (by omega))
  have hr : (atR bs).length = 32 := fixB_length q1.ts q1.ok
  have HH4 := hid (HH3.out.grown q2 (by omega))
  have s4 := q2.size
  have HB4 : Hid (Below w.heap.size w w4) := hid ⟨q2.os.trans HB3.out.os, q2.tape.trans HB3.out.tape, q2.output.trans HB3.out.output, by omega, fun j hj => (q2.block j (by omega) (fun h => by have := Option.some.inj h; omega)).trans (HB3.out.block j hj)⟩
  have HV : Hid ((atV bs).length = 100) := hid hV
  have HRl := hid hr
  clear q1 q2 HT HH3 HB3 hV hr
  go_wp2_with fail
  refine HR.out.mono ?_
  rintro e w5 ⟨rfl, q1, q2⟩
  have HH5 := hid (HH4.out.grown q2 (by omega))
  have s5 := q2.size
  have HB5 : Hid (Below w.heap.size w w5) := hid ⟨q2.os.trans HB4.out.os, q2.tape.trans HB4.out.tape, q2.output.trans HB4.out.output, by omega, fun j hj => (q2.block j (by omega) (fun h => by have := Option.some.inj h; omega)).trans (HB4.out.block j hj)⟩
  have HRd : Hid (Rd w5 g (more S w2 w3) bs 164 (atS bs).1 (atP bs) (atS bs).2) := hid q1
  have HBd := hid (atBuild (atV bs) (atR bs) HV.out HRl.out w5)
  have HL := hid (atC_length (sb := .slice none 0 0) HV.out HRl.out)
  have HO : Hid ((atC (.slice none 0 0) (atV bs) (atR bs)).toArray.all (·.oneCell') = true) := hid (atC_one rfl (vtTake_one _ _ _))
  clear q1 q2 HR HH4 HB4
  go_wp2_with ((with_reducible refine at_list' ?_); first
    | (refine wpList_build_c rfl _ rfl #[(1, .agg (atV bs).toArray), (2, .agg (nums .u8 (atR bs)))] (by simp only [Act.eval, List.map_toArray, List.map_cons, List.map_nil]; rfl) _ HBd.out ?_)
    | (refine wpList_alloc_c Tryz.ty46 rfl 5 rfl rfl ?_; intro w6 H6 B6 S6)
    | (refine wpList_store_c Tryz.ty46 rfl (.tmp 5) (.tmp 18) rfl w5.heap.size (atC (.slice none 0 0) (atV bs) (atR bs)) rfl rfl (by rw [HL.out]; rfl) HO.out _ H6 rfl ?_; intro w7 H7 O7))
  have s7 := O7.size
  have B57 : Below w5.heap.size w5 w7 := below_only B6 O7 (Nat.le_refl _)
  have HR7 := hid (HRd.out.below B57)
  have HB7 := hid (HB5.out.trans (B57.mono (by omega)))
  have HH7 := hid (HH5.out.keep B57)
  have HX7 := hid H7
  clear H6 B6 O7 H7 B57 HRd HB5 HH5 HBd
  have hG := HGB.out
  have HG := hid hG
  obtain ⟨eS, eP, e164⟩ := atGood hG
  have hR : Rd w7 g (more S w2 w3) bs 164 164 [164] false := by have := HR7.out; rw [eS, eP] at this; exact this
  have HPo := hid (parts_ok w7 hR (fun e => by cases e) (fun i hi => by
    have : i = 0 := by simpa using hi
    subst this
    simp only [toI]
    simp
    exact e164) (by decide) (by omega) (by simp))
  clear hR HR7 eS eP hG
  refine HPo.out.mono ?_
  rintro e w8 ⟨u, rfl, q1, B8⟩
  obtain ⟨b0, o0, c0, v0, rfl, hcell, hI0⟩ := isBs_one bs 164 q1
  obtain ⟨D, hD⟩ : ∃ D, bs.drop 164 = D := ⟨_, rfl⟩
  have hDl : D.length ≤ 100000000000 := by rw [← hD, List.length_drop]; omega
  rw [hD] at hI0
  have HD := hid hD
  clear hD
  have HB8 := hid (HB7.out.trans (B8.mono (by omega)))
  have HH8 := hid (HH7.out.keep B8)
  have HX8 := hid (HX7.out.keep B8)
  have s8 := B8.size
  have hI0' := hI0
  obtain ⟨⟨a0, p0, rfl, _⟩, _⟩ := hI0'
  have HTk := hid (takeBits_any _ _ 32 w8 hI0 hDl (by omega))
  clear q1 B8 HPo HB7 HH7 HX7 hI0
  go_wp2_with fail
  refine HTk.out.mono ?_
  rintro e w9 ⟨⟨l, u9, e1, rfl, e3⟩ | ⟨e1, rfl⟩, B9⟩
  rotate_left
  · exfalso
    rw [HD.out, e1] at HTB
    exact absurd HTB.out (by simp)
  have hlL : l = L := by
    have h := HTB.out
    rw [HD.out, e1] at h
    exact Option.some.inj h
  subst hlL
  obtain ⟨ao9, c9, hu9, _⟩ := id e3
  have HB9 := hid (HB8.out.trans (B9.mono (by omega)))
  have HH9 := hid (HH8.out.keep B9)
  have HX9 := HX8.out.keep B9
  have hx0 := HX9.cell (j := 0) (v := .slice none 0 0) rfl
  have hfz : w9.frozen? ⟨w5.heap.size, 0, none⟩ = false := frozen_of_row w9 w5.heap.size 0 _ _ HX9
  have s9 := B9.size
  subst hu9
  clear B9 HTk HB8 HH8 HX8 e1
  have HXs := hid (HX9.setCell 0 (.slice ao9 l.length c9))
  have HXO := hid (Only.setCell w9 w5.heap.size 0 (.slice ao9 l.length c9))
  have HNB : Hid (∀ k b, HasC w9 k 46 (atC (.slice none 0 0) (atV bs) (atR bs)) → ∀ j, w9.cell? ⟨k, j, none⟩ ≠ some (.bool b)) := hid (fun k b hk j hc => atC_noBool hk hc)
  have HTs := hid (isT_only e3 HXO.out (fun j b => HNB.out _ b HX9 j))
  have HU : Hid ((Value.slice ao9 l.length c9).oneCell' = true) := hid (isT_oneCell e3)
  have hset : (atC (.slice none 0 0) (atV bs) (atR bs)).set 0 (.slice ao9 l.length c9) = atC (.slice ao9 l.length c9) (atV bs) (atR bs) := rfl
  rw [hset] at HXs
  have HLu := hid (atC_length (sb := (.slice ao9 l.length c9)) HV.out HRl.out)
  have HOu : Hid ((atC (.slice ao9 l.length c9) (atV bs) (atR bs)).toArray.all (·.oneCell') = true) := hid (atC_one HU.out (vtTake_one _ _ _))
  clear hset HNB
  go_wp2_with ((with_reducible refine at_list' ?_); first
    | (refine wpList_load_c Tryz.ty46 rfl (.tmp 5) rfl w5.heap.size (atC (.slice ao9 l.length c9) (atV bs) (atR bs)) rfl (by rw [HLu.out]; rfl) (by exact HXs.out) ?_))
  have HN := hid (answerAt_any (atC (.slice ao9 l.length c9) (atV bs) (atR bs)) true (w9.setCell ⟨w5.heap.size, 0, none⟩ (.slice ao9 l.length c9)) HLu.out HOu.out)
  rw [atA_true] at HN
  have HHs := hid (HH9.out.only HXO.out (by omega))
  have HBs := hid (below_only HB9.out HXO.out (by omega))
  have ss := HXO.out.size
  clear HX9 hx0 hfz e3
  refine HN.out.mono ?_
  rintro e wa ⟨rfl, Ba⟩
  have HBa := hid (HBs.out.trans (Ba.mono (by omega)))
  have HHa := hid (HHs.out.keep Ba)
  have HTa := hid (IsT.keep HTs.out Ba)
  clear Ba HN
  go_wp2_with ((with_reducible refine at_list' ?_); first
    | (refine wpList_store_c Tryz.ty46 rfl (.tmp 2) (.tmp 43) rfl w.heap.size (atC (.slice ao9 l.length c9) (atV bs) (atR bs)) rfl rfl (by rw [HLu.out]; rfl) HOu.out _ HHa.out rfl ?_; intro wb Hb Ob))
  refine bodyPost_ret (results_c Tryz.ty46 rfl _ wb w.heap.size (atC (.slice ao9 l.length c9) (atV bs) (atR bs)) (.int .i64 0) rfl rfl Hb (by rw [HLu.out]; rfl)) rfl ⟨⟨(.slice ao9 l.length c9), rfl, ?_⟩, below_only HBa.out Ob (Nat.le_refl _)⟩
  exact isT_only HTa.out Ob (fun j b hc => at0_noBool HHa.out hc)
end Go.Proofs.YtoajeencniomoaaGreat

