/- Own texts of the proof, joined: EncG FlowM TakeS RangeM Split4 SplitC EqF LenB LisN NumI. -/
import Derived.Test.YtpaamhmighgjeaaGreatH1
import Derived.Test.YtpaamhmighgjeaaGreatProg
import Derived.RangeFuncNested
/- The document's Encode at parts; the recursion. -/
namespace Go.Proofs.YtpaamhmighgjeaaGreat
open Go.RowKit
set_option linter.unusedVariables false
set_option maxRecDepth 100000

theorem RowP.form {w : World} {base : Nat} {v : Value} {us : List Value} (h : RowP w base v us) (h0 : 0 < us.length) : ∃ g cap, v = .slice (some ⟨g, 0, none⟩) us.length cap ∧ us.length ≤ cap ∧ cap ≤ maxLen ∧ ∀ (i : Nat) u, us[i]? = some u → w.cell? ⟨g, i, none⟩ = some u := by
  obtain ⟨_, h⟩ := h
  rcases h with ⟨rfl, h1⟩ | ⟨g, cap, cur, rfl, hb, hg, hc, hm, hcs, htk⟩
  · omega
  · refine ⟨g, cap, rfl, hc, hm, fun i u hu => ?_⟩
    have hi := (List.getElem?_eq_some_iff.1 hu).1
    rw [cell_of_row w g i cur _ (0, 0) hg]
    have : (cur.toList.take (us.length * 1))[i]? = us[i]? := by rw [htk]
    rw [List.getElem?_take, if_pos (by omega), Array.getElem?_toList] at this
    rw [this, hu]
theorem RowP.lt {w : World} {base : Nat} {v : Value} {us : List Value} (h : RowP w base v us) (k : Nat) (hk : v.ownBlock = some k) : base ≤ k ∧ k < w.heap.size := World.ownsRow.lt h k hk
theorem RowP.below {w w' : World} {base : Nat} {v : Value} {us : List Value} (h : RowP w base v us) (hb : Below w.heap.size w w') : RowP w' base v us := by
  obtain ⟨hl, h⟩ := h
  refine ⟨hl, ?_⟩
  rcases h with h | ⟨g, cap, cur, rfl, hb', hg', r⟩
  · exact .inl h
  · exact .inr ⟨g, cap, cur, rfl, hb', (hb.block g (Array.getElem?_eq_some_iff.1 hg').1).trans hg', r⟩

set_option maxHeartbeats 1000000 in
theorem enc_none (f num : Nat) (hf : f = 0 ∨ f = 4 ∨ f = 5 ∨ f = 8) (r : List Nat) (sb : Value) (aok : Option Addr) (capk p : Nat) (w : World) (hr : r.length = 32) (d0 : w.cell? ⟨p, 0, none⟩ = some (.int .i64 (f : Nat))) :
    Calls Tryz.prog 10 #[.pointer (some ⟨p, 0, none⟩), .agg (valL num r sb (.slice aok 0 capk)).toArray] w fun x w' => ∃ v, x = .returned v ∧ Row w' w.heap.size v [] ∧ Below w.heap.size w w' := by
  have HR := hid hr
  clear hr
  rcases hf with rfl | rfl | rfl | rfl
  all_goals
    go_enter Tryz.func10, Tryz.ntmps10
    go_wp2_with ((with_reducible refine at_list' ?_); first
      | (refine wpList_box_c rfl 3 rfl (.tmp 1) rfl (valL num r sb (.slice aok 0 capk)) rfl ?_; intro w1 H1 B1 S1; have hc0 := H1.cell (valL_34 num r sb _ HR.out); have d1 := cell_keep B1 d0))
    have HB := hid B1
    have s1 := S1
    clear H1 B1 S1 d0
    go_loopw [5, 6] (fun kd i wr => kd = .slice none 0 0 ∧ i = .int .i64 0 ∧ wr = w1) (fun _ i _ => 0)
    case atStart => exact ⟨rfl, rfl, rfl⟩
    case round =>
      obtain ⟨rfl, rfl, hwr⟩ := hrel
      replace hwr := hwr.symm
      subst hwr
      go_wp2_with (go_at_call 40; refine (ser_nil aok capk w1).mono ?_; rintro x w2 ⟨rfl, B2⟩; have HB2 := hid (below_more HB.out B2 (Nat.le_refl _)); clear B2)
      go_ret
      exact ⟨_, rfl, Row.nil _ _, HB2.out⟩

set_option maxHeartbeats 4000000 in
theorem enc_some0 (N : Nat) (IH : ∀ (d : Dt) (v : Vt) (sb sk : Value) (p : Nat) (w : World), v.deep ≤ N → okD d → okV d v → DAt w d p → VAt w v sb sk → Calls Tryz.prog 10 #[.pointer (some ⟨p, 0, none⟩), .agg (valL v.num v.root sb sk).toArray] w fun e w' => ∃ u, e = .returned u ∧ Row w' w.heap.size u (encV d v) ∧ Below w.heap.size w w')
    (m bd od dl capd num : Nat) (ds : List Dt) (r : List Nat) (ks : List Vt) (sb : Value) (bv ov capk p : Nat) (w : World) (hr : r.length = 32) (hm0 : 0 < m) (hm : m ≤ 1048576) (hks : ks.length = m) (hdl : ds.length = dl) (hd0 : 0 < dl) (h8 : 0 = 8 → m ≤ dl) (hN : deepK ks ≤ N) (hok : okDs ds) (hov : okK (kdsV 0 ds m) ks) (hb : lenF (encK (kdsV 0 ds m) ks) ≤ 274877906944)
    (hD : DsAt w ds bd od) (hK : KsAt w ks bv ov) (hc1 : dl ≤ capd) (hc2 : capd ≤ maxLen) (hc3 : m ≤ capk) (hc4 : capk ≤ maxLen)
    (d0 : w.cell? ⟨p, 0, none⟩ = some (.int .i64 (0 : Nat))) (d2 : w.cell? ⟨p, 2, none⟩ = some (.slice (some ⟨bd, od, none⟩) dl capd)) :
    Calls Tryz.prog 10 #[.pointer (some ⟨p, 0, none⟩), .agg (valL num r sb (.slice (some ⟨bv, ov, none⟩) m capk)).toArray] w fun x w' => ∃ v, x = .returned v ∧ Row w' w.heap.size v (cont (encK (kdsV 0 ds m) ks)) ∧ Below w.heap.size w w' := by
  have hkl := kdsV_length 0 ds m (fun e => by rw [hdl]; exact h8 e) (fun _ => by rw [hdl]; exact hd0)
  have hkg : ∀ (k : Nat) d, (kdsV 0 ds m)[k]? = some d → (0 = 8 → ds[k]? = some d) ∧ (0 ≠ 8 → ds[0]? = some d) := fun k d h => kdsV_get h
  have hko := kdsV_ok (f := 0) (n := m) hok
  have hby := encK_byte ks hK (kdsV 0 ds m)
  have HSER := hid (ser_step N IH)
  generalize kdsV 0 ds m = kds at *
  obtain ⟨C, hC⟩ : ∃ C, Same (cont (encK kds ks)) C := ⟨_, ⟨rfl⟩⟩
  rw [hC.out]
  have HKG := hid hkg
  have HKL := hid hkl
  have HR := hid hr
  have HD := hid hD
  have HK := hid hK
  have HX := hid (And.intro hko (And.intro hby (And.intro hov hb)))
  have HKS := hid hks
  have HDL := hid hdl
  clear IH hkg hkl hr hD hK hko hby hov hb hks hdl hok
  go_enter Tryz.func10, Tryz.ntmps10
  go_wp2_with ((with_reducible refine at_list' ?_); first
    | (refine wpList_box_c rfl 3 rfl (.tmp 1) rfl (valL num r sb (.slice (some ⟨bv, ov, none⟩) m capk)) rfl ?_; intro w1 H1 B1 S1; have d1 := cell_keep B1 d0))
  have HC1 := hid H1
  have HB1 := hid B1
  have hs1 := H1.lt
  clear H1 B1 S1 d1
  go_loopw [5, 6] (fun kd i wr => ∃ (k : Nat) (ps : List Value), k ≤ m ∧ ps.length = k ∧ i = .int .i64 (k : Nat) ∧ RowP wr (w.heap.size + 1) kd ps ∧ (∀ (j : Nat) d, j < k → kds[j]? = some d → ∃ q, ps[j]? = some (.pointer (some ⟨q, 0, none⟩)) ∧ DAt w d q) ∧ HasC wr w.heap.size 37 (valL num r sb (.slice (some ⟨bv, ov, none⟩) m capk)) ∧ Below w.heap.size w wr) (fun _ i _ => m - (intOf i).toNat)
  case atStart => exact ⟨0, [], by omega, rfl, rfl, World.ownsRow_nil _ _ _ _, (fun j d hj => by omega), HC1.out, HB1.out⟩
  case round =>
    clear HC1 HB1 hs1
    obtain ⟨k, ps, hk, hpl, rfl, hR, hP, hH, hB⟩ := hrel
    have hc0 := hH.cell (valL_34 num r sb _ HR.out)
    have hsz := hH.lt
    by_cases hkm : k < m
    · obtain ⟨d, hd⟩ : ∃ d, kds[k]? = some d := ⟨_, List.getElem?_eq_getElem (by rw [HKL.out]; exact hkm)⟩
      have hg := HKG.out k d hd
      obtain ⟨q, hpc, hDq⟩ := HD.out.get (hg.2 (by decide))
      have hpc2 := cell_keep hB hpc
      have e0 := cell_keep hB d0
      have e2 := cell_keep hB d2
      rw [Nat.add_zero] at hpc2
      have HRP := hid hR
      have HP := hid hP
      have HH := hid hH
      have HB := hid hB
      have HPL := hid hpl
      have HDQ := hid hDq
      have HD2 := hid hd
      have BA : Below wr.heap.size wr (wr.alloc (.cells #[.pointer (some ⟨q, 0, none⟩)] 45)) := (Below.refl _ wr).alloc (Nat.le_refl _) _
      have HBA := hid BA
      clear hR hP hH hB hpl hDq hd hg hpc BA
      go_wp2_with (at_builtin; refine wpList_append_p rfl (.tmp 60) (.tmp 67) rfl (w.heap.size + 1) u5 ps rfl (HRP.out.below HBA.out) wr.heap.size (.pointer (some ⟨q, 0, none⟩)) rfl (cell_of_one (heap_alloc_new wr _)) rfl (by rw [HPL.out]; omega) (by have := HBA.out.size; omega) ?_; intro v5 w5 R5 G5 M5; have HR5 := hid R5; have HG5 := hid G5; clear R5 G5 M5)
      go_roundw
      case rel =>
        have hl5 : (ps ++ [Value.pointer (some ⟨q, 0, none⟩)]).length = k + 1 := by simp [HPL.out]
        have hlt : ∀ j, u5.ownBlock = some j → w.heap.size + 1 ≤ j := fun j hj => (HRP.out.lt j hj).1
        refine ⟨k + 1, ps ++ [Value.pointer (some ⟨q, 0, none⟩)], by omega, hl5, by go_num, HR5.out, fun j d' hj hd' => ?_, ?_, ?_⟩
        · by_cases hjk : j < k
          · obtain ⟨q', h1, h2⟩ := HP.out j d' hjk hd'
            exact ⟨q', by rw [List.getElem?_append_left (by rw [HPL.out]; exact hjk)]; exact h1, h2⟩
          · obtain rfl : j = k := by omega
            rw [HD2.out] at hd'
            cases hd'
            exact ⟨q, by rw [List.getElem?_append_right (by rw [HPL.out]; exact Nat.le_refl _), HPL.out, Nat.sub_self]; rfl, HDQ.out⟩
        · have h1 := HH.out.keep HBA.out
          exact (HG5.out.block w.heap.size h1.lt (fun e => by have := hlt _ e.symm; omega)).trans h1
        · have h1 := below_more HB.out HBA.out (Nat.le_refl _)
          exact h1.grown HG5.out h1.size (fun j hj => by have := hlt j hj; omega)
      case measure => simp [intOf]; omega
    · have hke : m = k := by omega
      subst hke
      obtain ⟨g, cap, rfl, hgc1, hgc2, hgc⟩ := hR.form (by omega)
      rw [hpl] at hgc1 ⊢
      have hDk : DsAt wr kds g 0 := dsAt_of kds g 0 fun i d hd => by
        have hi : i < m := by have := (List.getElem?_eq_some_iff.1 hd).1; rw [HKL.out] at this; exact this
        obtain ⟨q, h1, h2⟩ := hP i d hi hd
        exact ⟨q, by rw [Nat.zero_add]; exact hgc i _ h1, h2.keep hB⟩
      have HS := hid (HSER.out kds ks m g 0 cap bv ov capk wr HKL.out HKS.out hm0 hm hN HX.out.1 HX.out.2.2.1 HX.out.2.1 HX.out.2.2.2 hDk (HK.out.keep hB) hgc1 hgc2 hc3 hc4)
      rw [hC.out] at HS
      have HB := hid hB
      clear hDk hgc hR hP hH hB hpl
      go_wp2_with (go_at_call 40; refine HS.out.mono ?_; rintro x w2 ⟨u, rfl, R2, B2⟩; have HR2 := hid R2; have HB2 := hid (below_more HB.out B2 (Nat.le_refl _)); clear R2 B2)
      go_ret
      exact ⟨_, rfl, HR2.out.base HB.out.size, HB2.out⟩

set_option maxHeartbeats 4000000 in
theorem enc_some4 (N : Nat) (IH : ∀ (d : Dt) (v : Vt) (sb sk : Value) (p : Nat) (w : World), v.deep ≤ N → okD d → okV d v → DAt w d p → VAt w v sb sk → Calls Tryz.prog 10 #[.pointer (some ⟨p, 0, none⟩), .agg (valL v.num v.root sb sk).toArray] w fun e w' => ∃ u, e = .returned u ∧ Row w' w.heap.size u (encV d v) ∧ Below w.heap.size w w')
    (m bd od dl capd num : Nat) (ds : List Dt) (r : List Nat) (ks : List Vt) (sb : Value) (bv ov capk p : Nat) (w : World) (hr : r.length = 32) (hm0 : 0 < m) (hm : m ≤ 1048576) (hks : ks.length = m) (hdl : ds.length = dl) (hd0 : 0 < dl) (h8 : 4 = 8 → m ≤ dl) (hN : deepK ks ≤ N) (hok : okDs ds) (hov : okK (kdsV 4 ds m) ks) (hb : lenF (encK (kdsV 4 ds m) ks) ≤ 274877906944)
    (hD : DsAt w ds bd od) (hK : KsAt w ks bv ov) (hc1 : dl ≤ capd) (hc2 : capd ≤ maxLen) (hc3 : m ≤ capk) (hc4 : capk ≤ maxLen)
    (d0 : w.cell? ⟨p, 0, none⟩ = some (.int .i64 (4 : Nat))) (d2 : w.cell? ⟨p, 2, none⟩ = some (.slice (some ⟨bd, od, none⟩) dl capd)) :
    Calls Tryz.prog 10 #[.pointer (some ⟨p, 0, none⟩), .agg (valL num r sb (.slice (some ⟨bv, ov, none⟩) m capk)).toArray] w fun x w' => ∃ v, x = .returned v ∧ Row w' w.heap.size v (cont (encK (kdsV 4 ds m) ks)) ∧ Below w.heap.size w w' := by
  have hkl := kdsV_length 4 ds m (fun e => by rw [hdl]; exact h8 e) (fun _ => by rw [hdl]; exact hd0)
  have hkg : ∀ (k : Nat) d, (kdsV 4 ds m)[k]? = some d → (4 = 8 → ds[k]? = some d) ∧ (4 ≠ 8 → ds[0]? = some d) := fun k d h => kdsV_get h
  have hko := kdsV_ok (f := 4) (n := m) hok
  have hby := encK_byte ks hK (kdsV 4 ds m)
  have HSER := hid (ser_step N IH)
  generalize kdsV 4 ds m = kds at *
  obtain ⟨C, hC⟩ : ∃ C, Same (cont (encK kds ks)) C := ⟨_, ⟨rfl⟩⟩
  rw [hC.out]
  have HKG := hid hkg
  have HKL := hid hkl
  have HR := hid hr
  have HD := hid hD
  have HK := hid hK
  have HX := hid (And.intro hko (And.intro hby (And.intro hov hb)))
  have HKS := hid hks
  have HDL := hid hdl
  clear IH hkg hkl hr hD hK hko hby hov hb hks hdl hok
  go_enter Tryz.func10, Tryz.ntmps10
  go_wp2_with ((with_reducible refine at_list' ?_); first
    | (refine wpList_box_c rfl 3 rfl (.tmp 1) rfl (valL num r sb (.slice (some ⟨bv, ov, none⟩) m capk)) rfl ?_; intro w1 H1 B1 S1; have d1 := cell_keep B1 d0))
  have HC1 := hid H1
  have HB1 := hid B1
  have hs1 := H1.lt
  clear H1 B1 S1 d1
  go_loopw [5, 6] (fun kd i wr => ∃ (k : Nat) (ps : List Value), k ≤ m ∧ ps.length = k ∧ i = .int .i64 (k : Nat) ∧ RowP wr (w.heap.size + 1) kd ps ∧ (∀ (j : Nat) d, j < k → kds[j]? = some d → ∃ q, ps[j]? = some (.pointer (some ⟨q, 0, none⟩)) ∧ DAt w d q) ∧ HasC wr w.heap.size 37 (valL num r sb (.slice (some ⟨bv, ov, none⟩) m capk)) ∧ Below w.heap.size w wr) (fun _ i _ => m - (intOf i).toNat)
  case atStart => exact ⟨0, [], by omega, rfl, rfl, World.ownsRow_nil _ _ _ _, (fun j d hj => by omega), HC1.out, HB1.out⟩
  case round =>
    clear HC1 HB1 hs1
    obtain ⟨k, ps, hk, hpl, rfl, hR, hP, hH, hB⟩ := hrel
    have hc0 := hH.cell (valL_34 num r sb _ HR.out)
    have hsz := hH.lt
    by_cases hkm : k < m
    · obtain ⟨d, hd⟩ : ∃ d, kds[k]? = some d := ⟨_, List.getElem?_eq_getElem (by rw [HKL.out]; exact hkm)⟩
      have hg := HKG.out k d hd
      obtain ⟨q, hpc, hDq⟩ := HD.out.get (hg.2 (by decide))
      have hpc2 := cell_keep hB hpc
      have e0 := cell_keep hB d0
      have e2 := cell_keep hB d2
      rw [Nat.add_zero] at hpc2
      have HRP := hid hR
      have HP := hid hP
      have HH := hid hH
      have HB := hid hB
      have HPL := hid hpl
      have HDQ := hid hDq
      have HD2 := hid hd
      have BA : Below wr.heap.size wr (wr.alloc (.cells #[.pointer (some ⟨q, 0, none⟩)] 45)) := (Below.refl _ wr).alloc (Nat.le_refl _) _
      have HBA := hid BA
      clear hR hP hH hB hpl hDq hd hg hpc BA
      go_wp2_with (at_builtin; refine wpList_append_p rfl (.tmp 60) (.tmp 67) rfl (w.heap.size + 1) u5 ps rfl (HRP.out.below HBA.out) wr.heap.size (.pointer (some ⟨q, 0, none⟩)) rfl (cell_of_one (heap_alloc_new wr _)) rfl (by rw [HPL.out]; omega) (by have := HBA.out.size; omega) ?_; intro v5 w5 R5 G5 M5; have HR5 := hid R5; have HG5 := hid G5; clear R5 G5 M5)
      go_roundw
      case rel =>
        have hl5 : (ps ++ [Value.pointer (some ⟨q, 0, none⟩)]).length = k + 1 := by simp [HPL.out]
        have hlt : ∀ j, u5.ownBlock = some j → w.heap.size + 1 ≤ j := fun j hj => (HRP.out.lt j hj).1
        refine ⟨k + 1, ps ++ [Value.pointer (some ⟨q, 0, none⟩)], by omega, hl5, by go_num, HR5.out, fun j d' hj hd' => ?_, ?_, ?_⟩
        · by_cases hjk : j < k
          · obtain ⟨q', h1, h2⟩ := HP.out j d' hjk hd'
            exact ⟨q', by rw [List.getElem?_append_left (by rw [HPL.out]; exact hjk)]; exact h1, h2⟩
          · obtain rfl : j = k := by omega
            rw [HD2.out] at hd'
            cases hd'
            exact ⟨q, by rw [List.getElem?_append_right (by rw [HPL.out]; exact Nat.le_refl _), HPL.out, Nat.sub_self]; rfl, HDQ.out⟩
        · have h1 := HH.out.keep HBA.out
          exact (HG5.out.block w.heap.size h1.lt (fun e => by have := hlt _ e.symm; omega)).trans h1
        · have h1 := below_more HB.out HBA.out (Nat.le_refl _)
          exact h1.grown HG5.out h1.size (fun j hj => by have := hlt j hj; omega)
      case measure => simp [intOf]; omega
    · have hke : m = k := by omega
      subst hke
      obtain ⟨g, cap, rfl, hgc1, hgc2, hgc⟩ := hR.form (by omega)
      rw [hpl] at hgc1 ⊢
      have hDk : DsAt wr kds g 0 := dsAt_of kds g 0 fun i d hd => by
        have hi : i < m := by have := (List.getElem?_eq_some_iff.1 hd).1; rw [HKL.out] at this; exact this
        obtain ⟨q, h1, h2⟩ := hP i d hi hd
        exact ⟨q, by rw [Nat.zero_add]; exact hgc i _ h1, h2.keep hB⟩
      have HS := hid (HSER.out kds ks m g 0 cap bv ov capk wr HKL.out HKS.out hm0 hm hN HX.out.1 HX.out.2.2.1 HX.out.2.1 HX.out.2.2.2 hDk (HK.out.keep hB) hgc1 hgc2 hc3 hc4)
      rw [hC.out] at HS
      have HB := hid hB
      clear hDk hgc hR hP hH hB hpl
      go_wp2_with (go_at_call 40; refine HS.out.mono ?_; rintro x w2 ⟨u, rfl, R2, B2⟩; have HR2 := hid R2; have HB2 := hid (below_more HB.out B2 (Nat.le_refl _)); clear R2 B2)
      go_ret
      exact ⟨_, rfl, HR2.out.base HB.out.size, HB2.out⟩

set_option maxHeartbeats 4000000 in
theorem enc_some5 (N : Nat) (IH : ∀ (d : Dt) (v : Vt) (sb sk : Value) (p : Nat) (w : World), v.deep ≤ N → okD d → okV d v → DAt w d p → VAt w v sb sk → Calls Tryz.prog 10 #[.pointer (some ⟨p, 0, none⟩), .agg (valL v.num v.root sb sk).toArray] w fun e w' => ∃ u, e = .returned u ∧ Row w' w.heap.size u (encV d v) ∧ Below w.heap.size w w')
    (m bd od dl capd num : Nat) (ds : List Dt) (r : List Nat) (ks : List Vt) (sb : Value) (bv ov capk p : Nat) (w : World) (hr : r.length = 32) (hm0 : 0 < m) (hm : m ≤ 1048576) (hks : ks.length = m) (hdl : ds.length = dl) (hd0 : 0 < dl) (h8 : 5 = 8 → m ≤ dl) (hN : deepK ks ≤ N) (hok : okDs ds) (hov : okK (kdsV 5 ds m) ks) (hb : lenF (encK (kdsV 5 ds m) ks) ≤ 274877906944)
    (hD : DsAt w ds bd od) (hK : KsAt w ks bv ov) (hc1 : dl ≤ capd) (hc2 : capd ≤ maxLen) (hc3 : m ≤ capk) (hc4 : capk ≤ maxLen)
    (d0 : w.cell? ⟨p, 0, none⟩ = some (.int .i64 (5 : Nat))) (d2 : w.cell? ⟨p, 2, none⟩ = some (.slice (some ⟨bd, od, none⟩) dl capd)) :
    Calls Tryz.prog 10 #[.pointer (some ⟨p, 0, none⟩), .agg (valL num r sb (.slice (some ⟨bv, ov, none⟩) m capk)).toArray] w fun x w' => ∃ v, x = .returned v ∧ Row w' w.heap.size v (cont (encK (kdsV 5 ds m) ks)) ∧ Below w.heap.size w w' := by
  have hkl := kdsV_length 5 ds m (fun e => by rw [hdl]; exact h8 e) (fun _ => by rw [hdl]; exact hd0)
  have hkg : ∀ (k : Nat) d, (kdsV 5 ds m)[k]? = some d → (5 = 8 → ds[k]? = some d) ∧ (5 ≠ 8 → ds[0]? = some d) := fun k d h => kdsV_get h
  have hko := kdsV_ok (f := 5) (n := m) hok
  have hby := encK_byte ks hK (kdsV 5 ds m)
  have HSER := hid (ser_step N IH)
  generalize kdsV 5 ds m = kds at *
  obtain ⟨C, hC⟩ : ∃ C, Same (cont (encK kds ks)) C := ⟨_, ⟨rfl⟩⟩
  rw [hC.out]
  have HKG := hid hkg
  have HKL := hid hkl
  have HR := hid hr
  have HD := hid hD
  have HK := hid hK
  have HX := hid (And.intro hko (And.intro hby (And.intro hov hb)))
  have HKS := hid hks
  have HDL := hid hdl
  clear IH hkg hkl hr hD hK hko hby hov hb hks hdl hok
  go_enter Tryz.func10, Tryz.ntmps10
  go_wp2_with ((with_reducible refine at_list' ?_); first
    | (refine wpList_box_c rfl 3 rfl (.tmp 1) rfl (valL num r sb (.slice (some ⟨bv, ov, none⟩) m capk)) rfl ?_; intro w1 H1 B1 S1; have d1 := cell_keep B1 d0))
  have HC1 := hid H1
  have HB1 := hid B1
  have hs1 := H1.lt
  clear H1 B1 S1 d1
  go_loopw [5, 6] (fun kd i wr => ∃ (k : Nat) (ps : List Value), k ≤ m ∧ ps.length = k ∧ i = .int .i64 (k : Nat) ∧ RowP wr (w.heap.size + 1) kd ps ∧ (∀ (j : Nat) d, j < k → kds[j]? = some d → ∃ q, ps[j]? = some (.pointer (some ⟨q, 0, none⟩)) ∧ DAt w d q) ∧ HasC wr w.heap.size 37 (valL num r sb (.slice (some ⟨bv, ov, none⟩) m capk)) ∧ Below w.heap.size w wr) (fun _ i _ => m - (intOf i).toNat)
  case atStart => exact ⟨0, [], by omega, rfl, rfl, World.ownsRow_nil _ _ _ _, (fun j d hj => by omega), HC1.out, HB1.out⟩
  case round =>
    clear HC1 HB1 hs1
    obtain ⟨k, ps, hk, hpl, rfl, hR, hP, hH, hB⟩ := hrel
    have hc0 := hH.cell (valL_34 num r sb _ HR.out)
    have hsz := hH.lt
    by_cases hkm : k < m
    · obtain ⟨d, hd⟩ : ∃ d, kds[k]? = some d := ⟨_, List.getElem?_eq_getElem (by rw [HKL.out]; exact hkm)⟩
      have hg := HKG.out k d hd
      obtain ⟨q, hpc, hDq⟩ := HD.out.get (hg.2 (by decide))
      have hpc2 := cell_keep hB hpc
      have e0 := cell_keep hB d0
      have e2 := cell_keep hB d2
      rw [Nat.add_zero] at hpc2
      have HRP := hid hR
      have HP := hid hP
      have HH := hid hH
      have HB := hid hB
      have HPL := hid hpl
      have HDQ := hid hDq
      have HD2 := hid hd
      have BA : Below wr.heap.size wr (wr.alloc (.cells #[.pointer (some ⟨q, 0, none⟩)] 45)) := (Below.refl _ wr).alloc (Nat.le_refl _) _
      have HBA := hid BA
      clear hR hP hH hB hpl hDq hd hg hpc BA
      go_wp2_with (at_builtin; refine wpList_append_p rfl (.tmp 60) (.tmp 67) rfl (w.heap.size + 1) u5 ps rfl (HRP.out.below HBA.out) wr.heap.size (.pointer (some ⟨q, 0, none⟩)) rfl (cell_of_one (heap_alloc_new wr _)) rfl (by rw [HPL.out]; omega) (by have := HBA.out.size; omega) ?_; intro v5 w5 R5 G5 M5; have HR5 := hid R5; have HG5 := hid G5; clear R5 G5 M5)
      go_roundw
      case rel =>
        have hl5 : (ps ++ [Value.pointer (some ⟨q, 0, none⟩)]).length = k + 1 := by simp [HPL.out]
        have hlt : ∀ j, u5.ownBlock = some j → w.heap.size + 1 ≤ j := fun j hj => (HRP.out.lt j hj).1
        refine ⟨k + 1, ps ++ [Value.pointer (some ⟨q, 0, none⟩)], by omega, hl5, by go_num, HR5.out, fun j d' hj hd' => ?_, ?_, ?_⟩
        · by_cases hjk : j < k
          · obtain ⟨q', h1, h2⟩ := HP.out j d' hjk hd'
            exact ⟨q', by rw [List.getElem?_append_left (by rw [HPL.out]; exact hjk)]; exact h1, h2⟩
          · obtain rfl : j = k := by omega
            rw [HD2.out] at hd'
            cases hd'
            exact ⟨q, by rw [List.getElem?_append_right (by rw [HPL.out]; exact Nat.le_refl _), HPL.out, Nat.sub_self]; rfl, HDQ.out⟩
        · have h1 := HH.out.keep HBA.out
          exact (HG5.out.block w.heap.size h1.lt (fun e => by have := hlt _ e.symm; omega)).trans h1
        · have h1 := below_more HB.out HBA.out (Nat.le_refl _)
          exact h1.grown HG5.out h1.size (fun j hj => by have := hlt j hj; omega)
      case measure => simp [intOf]; omega
    · have hke : m = k := by omega
      subst hke
      obtain ⟨g, cap, rfl, hgc1, hgc2, hgc⟩ := hR.form (by omega)
      rw [hpl] at hgc1 ⊢
      have hDk : DsAt wr kds g 0 := dsAt_of kds g 0 fun i d hd => by
        have hi : i < m := by have := (List.getElem?_eq_some_iff.1 hd).1; rw [HKL.out] at this; exact this
        obtain ⟨q, h1, h2⟩ := hP i d hi hd
        exact ⟨q, by rw [Nat.zero_add]; exact hgc i _ h1, h2.keep hB⟩
      have HS := hid (HSER.out kds ks m g 0 cap bv ov capk wr HKL.out HKS.out hm0 hm hN HX.out.1 HX.out.2.2.1 HX.out.2.1 HX.out.2.2.2 hDk (HK.out.keep hB) hgc1 hgc2 hc3 hc4)
      rw [hC.out] at HS
      have HB := hid hB
      clear hDk hgc hR hP hH hB hpl
      go_wp2_with (go_at_call 40; refine HS.out.mono ?_; rintro x w2 ⟨u, rfl, R2, B2⟩; have HR2 := hid R2; have HB2 := hid (below_more HB.out B2 (Nat.le_refl _)); clear R2 B2)
      go_ret
      exact ⟨_, rfl, HR2.out.base HB.out.size, HB2.out⟩

set_option maxHeartbeats 4000000 in
theorem enc_some8 (N : Nat) (IH : ∀ (d : Dt) (v : Vt) (sb sk : Value) (p : Nat) (w : World), v.deep ≤ N → okD d → okV d v → DAt w d p → VAt w v sb sk → Calls Tryz.prog 10 #[.pointer (some ⟨p, 0, none⟩), .agg (valL v.num v.root sb sk).toArray] w fun e w' => ∃ u, e = .returned u ∧ Row w' w.heap.size u (encV d v) ∧ Below w.heap.size w w')
    (m bd od dl capd num : Nat) (ds : List Dt) (r : List Nat) (ks : List Vt) (sb : Value) (bv ov capk p : Nat) (w : World) (hr : r.length = 32) (hm0 : 0 < m) (hm : m ≤ 1048576) (hks : ks.length = m) (hdl : ds.length = dl) (hd0 : 0 < dl) (h8 : 8 = 8 → m ≤ dl) (hN : deepK ks ≤ N) (hok : okDs ds) (hov : okK (kdsV 8 ds m) ks) (hb : lenF (encK (kdsV 8 ds m) ks) ≤ 274877906944)
    (hD : DsAt w ds bd od) (hK : KsAt w ks bv ov) (hc1 : dl ≤ capd) (hc2 : capd ≤ maxLen) (hc3 : m ≤ capk) (hc4 : capk ≤ maxLen)
    (d0 : w.cell? ⟨p, 0, none⟩ = some (.int .i64 (8 : Nat))) (d2 : w.cell? ⟨p, 2, none⟩ = some (.slice (some ⟨bd, od, none⟩) dl capd)) :
    Calls Tryz.prog 10 #[.pointer (some ⟨p, 0, none⟩), .agg (valL num r sb (.slice (some ⟨bv, ov, none⟩) m capk)).toArray] w fun x w' => ∃ v, x = .returned v ∧ Row w' w.heap.size v (cont (encK (kdsV 8 ds m) ks)) ∧ Below w.heap.size w w' := by
  have hkl := kdsV_length 8 ds m (fun e => by rw [hdl]; exact h8 e) (fun _ => by rw [hdl]; exact hd0)
  have hkg : ∀ (k : Nat) d, (kdsV 8 ds m)[k]? = some d → (8 = 8 → ds[k]? = some d) ∧ (8 ≠ 8 → ds[0]? = some d) := fun k d h => kdsV_get h
  have hko := kdsV_ok (f := 8) (n := m) hok
  have hby := encK_byte ks hK (kdsV 8 ds m)
  have HSER := hid (ser_step N IH)
  generalize kdsV 8 ds m = kds at *
  obtain ⟨C, hC⟩ : ∃ C, Same (cont (encK kds ks)) C := ⟨_, ⟨rfl⟩⟩
  rw [hC.out]
  have HKG := hid hkg
  have HKL := hid hkl
  have HR := hid hr
  have HD := hid hD
  have HK := hid hK
  have HX := hid (And.intro hko (And.intro hby (And.intro hov hb)))
  have HKS := hid hks
  have HDL := hid hdl
  clear IH hkg hkl hr hD hK hko hby hov hb hks hdl hok
  go_enter Tryz.func10, Tryz.ntmps10
  go_wp2_with ((with_reducible refine at_list' ?_); first
    | (refine wpList_box_c rfl 3 rfl (.tmp 1) rfl (valL num r sb (.slice (some ⟨bv, ov, none⟩) m capk)) rfl ?_; intro w1 H1 B1 S1; have d1 := cell_keep B1 d0))
  have HC1 := hid H1
  have HB1 := hid B1
  have hs1 := H1.lt
  clear H1 B1 S1 d1
  go_loopw [5, 6] (fun kd i wr => ∃ (k : Nat) (ps : List Value), k ≤ m ∧ ps.length = k ∧ i = .int .i64 (k : Nat) ∧ RowP wr (w.heap.size + 1) kd ps ∧ (∀ (j : Nat) d, j < k → kds[j]? = some d → ∃ q, ps[j]? = some (.pointer (some ⟨q, 0, none⟩)) ∧ DAt w d q) ∧ HasC wr w.heap.size 37 (valL num r sb (.slice (some ⟨bv, ov, none⟩) m capk)) ∧ Below w.heap.size w wr) (fun _ i _ => m - (intOf i).toNat)
  case atStart => exact ⟨0, [], by omega, rfl, rfl, World.ownsRow_nil _ _ _ _, (fun j d hj => by omega), HC1.out, HB1.out⟩
  case round =>
    clear HC1 HB1 hs1
    obtain ⟨k, ps, hk, hpl, rfl, hR, hP, hH, hB⟩ := hrel
    have hc0 := hH.cell (valL_34 num r sb _ HR.out)
    have hsz := hH.lt
    by_cases hkm : k < m
    · obtain ⟨d, hd⟩ : ∃ d, kds[k]? = some d := ⟨_, List.getElem?_eq_getElem (by rw [HKL.out]; exact hkm)⟩
      have hg := HKG.out k d hd
      obtain ⟨q, hpc, hDq⟩ := HD.out.get (hg.1 (by first | rfl | trivial))
      have hpc2 := cell_keep hB hpc
      have e0 := cell_keep hB d0
      have e2 := cell_keep hB d2
      have h8l := h8 (by first | rfl | trivial)
      have HRP := hid hR
      have HP := hid hP
      have HH := hid hH
      have HB := hid hB
      have HPL := hid hpl
      have HDQ := hid hDq
      have HD2 := hid hd
      have BA : Below wr.heap.size wr (wr.alloc (.cells #[.pointer (some ⟨q, 0, none⟩)] 45)) := (Below.refl _ wr).alloc (Nat.le_refl _) _
      have HBA := hid BA
      clear hR hP hH hB hpl hDq hd hg hpc BA
      go_wp2_with (at_builtin; refine wpList_append_p rfl (.tmp 50) (.tmp 58) rfl (w.heap.size + 1) u5 ps rfl (HRP.out.below HBA.out) wr.heap.size (.pointer (some ⟨q, 0, none⟩)) rfl (cell_of_one (heap_alloc_new wr _)) rfl (by rw [HPL.out]; omega) (by have := HBA.out.size; omega) ?_; intro v5 w5 R5 G5 M5; have HR5 := hid R5; have HG5 := hid G5; clear R5 G5 M5)
      go_roundw
      case rel =>
        have hl5 : (ps ++ [Value.pointer (some ⟨q, 0, none⟩)]).length = k + 1 := by simp [HPL.out]
        have hlt : ∀ j, u5.ownBlock = some j → w.heap.size + 1 ≤ j := fun j hj => (HRP.out.lt j hj).1
        refine ⟨k + 1, ps ++ [Value.pointer (some ⟨q, 0, none⟩)], by omega, hl5, by go_num, HR5.out, fun j d' hj hd' => ?_, ?_, ?_⟩
        · by_cases hjk : j < k
          · obtain ⟨q', h1, h2⟩ := HP.out j d' hjk hd'
            exact ⟨q', by rw [List.getElem?_append_left (by rw [HPL.out]; exact hjk)]; exact h1, h2⟩
          · obtain rfl : j = k := by omega
            rw [HD2.out] at hd'
            cases hd'
            exact ⟨q, by rw [List.getElem?_append_right (by rw [HPL.out]; exact Nat.le_refl _), HPL.out, Nat.sub_self]; rfl, HDQ.out⟩
        · have h1 := HH.out.keep HBA.out
          exact (HG5.out.block w.heap.size h1.lt (fun e => by have := hlt _ e.symm; omega)).trans h1
        · have h1 := below_more HB.out HBA.out (Nat.le_refl _)
          exact h1.grown HG5.out h1.size (fun j hj => by have := hlt j hj; omega)
      case measure => simp [intOf]; omega
    · have hke : m = k := by omega
      subst hke
      obtain ⟨g, cap, rfl, hgc1, hgc2, hgc⟩ := hR.form (by omega)
      rw [hpl] at hgc1 ⊢
      have hDk : DsAt wr kds g 0 := dsAt_of kds g 0 fun i d hd => by
        have hi : i < m := by have := (List.getElem?_eq_some_iff.1 hd).1; rw [HKL.out] at this; exact this
        obtain ⟨q, h1, h2⟩ := hP i d hi hd
        exact ⟨q, by rw [Nat.zero_add]; exact hgc i _ h1, h2.keep hB⟩
      have HS := hid (HSER.out kds ks m g 0 cap bv ov capk wr HKL.out HKS.out hm0 hm hN HX.out.1 HX.out.2.2.1 HX.out.2.1 HX.out.2.2.2 hDk (HK.out.keep hB) hgc1 hgc2 hc3 hc4)
      rw [hC.out] at HS
      have HB := hid hB
      clear hDk hgc hR hP hH hB hpl
      go_wp2_with (go_at_call 40; refine HS.out.mono ?_; rintro x w2 ⟨u, rfl, R2, B2⟩; have HR2 := hid R2; have HB2 := hid (below_more HB.out B2 (Nat.le_refl _)); clear R2 B2)
      go_ret
      exact ⟨_, rfl, HR2.out.base HB.out.size, HB2.out⟩

set_option maxHeartbeats 1000000 in
theorem enc_step (N : Nat) (IH : ∀ (d : Dt) (v : Vt) (sb sk : Value) (p : Nat) (w : World), v.deep ≤ N → okD d → okV d v → DAt w d p → VAt w v sb sk → Calls Tryz.prog 10 #[.pointer (some ⟨p, 0, none⟩), .agg (valL v.num v.root sb sk).toArray] w fun e w' => ∃ u, e = .returned u ∧ Row w' w.heap.size u (encV d v) ∧ Below w.heap.size w w') :
    ∀ (d : Dt) (v : Vt) (sb sk : Value) (p : Nat) (w : World), v.deep ≤ N + 1 → okD d → okV d v → DAt w d p → VAt w v sb sk → Calls Tryz.prog 10 #[.pointer (some ⟨p, 0, none⟩), .agg (valL v.num v.root sb sk).toArray] w fun e w' => ∃ u, e = .returned u ∧ Row w' w.heap.size u (encV d v) ∧ Below w.heap.size w w'
  | .mk f n ds, .mk num r bs ks, sb, sk, p, w, hN, hok, hov, hD, hV => by
    rw [okV] at hov
    rw [okD] at hok
    rw [DAt] at hD
    rw [VAt] at hV
    rw [Vt.deep] at hN
    obtain ⟨d0, d1, aod, capd, d2, hcd1, hcd2, hDs⟩ := hD
    obtain ⟨⟨hn, hr, h8⟩, hTb, aok, capk, hske, hck1, hck2, hKs⟩ := hV
    obtain ⟨hb1, hk1, hf8, hk0, hlf, hokk⟩ := hov
    obtain ⟨hf, hn2, hsm, hdl, hf4, hokds⟩ := hok
    show Calls Tryz.prog 10 #[.pointer (some ⟨p, 0, none⟩), .agg (valL num r sb sk).toArray] w _
    rw [encV]
    by_cases e1 : f = 1
    · subst e1; rw [if_pos rfl]; exact encL_num num r sb sk p w hn d0
    rw [if_neg e1]
    by_cases e2 : f = 2
    · subst e2; rw [if_pos rfl]; exact encL_truth num r sb sk p w hn d0
    rw [if_neg e2]
    by_cases e3 : f = 3
    · subst e3; rw [if_pos rfl]; exact encL_root num r sb sk p w hr h8 d0
    rw [if_neg e3]
    by_cases e6 : f = 6
    · subst e6; rw [if_pos rfl]; exact encL_bits6 num r sb sk p w bs hr hTb hb1 d0
    rw [if_neg e6]
    by_cases e7 : f = 7
    · subst e7; rw [if_pos rfl]; exact encL_bits7 num r sb sk p w bs hr hTb hb1 d0
    rw [if_neg e7]
    have hff : f = 0 ∨ f = 4 ∨ f = 5 ∨ f = 8 := by omega
    subst hske
    rcases hKs with h0 | ⟨bv, ov, rfl, hK⟩
    · obtain rfl : ks = [] := List.eq_nil_of_length_eq_zero h0
      have hc : cont (encK (kdsV f ds ([] : List Vt).length) []) = [] := by
        have : encK (kdsV f ds ([] : List Vt).length) [] = [] := by generalize kdsV f ds _ = l; cases l <;> rw [encK]
        rw [this]; rfl
      rw [hc]
      exact enc_none f num hff r sb aok capk p w hr d0
    · by_cases hm0 : ks.length = 0
      · obtain rfl : ks = [] := List.eq_nil_of_length_eq_zero hm0
        have hc : cont (encK (kdsV f ds ([] : List Vt).length) []) = [] := by
          have : encK (kdsV f ds ([] : List Vt).length) [] = [] := by generalize kdsV f ds _ = l; cases l <;> rw [encK]
          rw [this]; rfl
        rw [hc]
        exact enc_none f num hff r sb _ capk p w hr d0
      · have hd0 := hk0 (by omega)
        rcases hDs with h0 | ⟨bd, od, rfl, hD⟩
        · omega
        rcases hff with rfl | rfl | rfl | rfl
        · exact enc_some0 N IH ks.length bd od ds.length capd num ds r ks sb bv ov capk p w hr (by omega) hk1 rfl rfl hd0 hf8 (by omega) hokds hokk hlf hD hK hcd1 hcd2 hck1 hck2 d0 d2
        · exact enc_some4 N IH ks.length bd od ds.length capd num ds r ks sb bv ov capk p w hr (by omega) hk1 rfl rfl hd0 hf8 (by omega) hokds hokk hlf hD hK hcd1 hcd2 hck1 hck2 d0 d2
        · exact enc_some5 N IH ks.length bd od ds.length capd num ds r ks sb bv ov capk p w hr (by omega) hk1 rfl rfl hd0 hf8 (by omega) hokds hokk hlf hD hK hcd1 hcd2 hck1 hck2 d0 d2
        · exact enc_some8 N IH ks.length bd od ds.length capd num ds r ks sb bv ov capk p w hr (by omega) hk1 rfl rfl hd0 hf8 (by omega) hokds hokk hlf hD hK hcd1 hcd2 hck1 hck2 d0 d2
theorem enc_deep (N : Nat) : ∀ (d : Dt) (v : Vt) (sb sk : Value) (p : Nat) (w : World), v.deep ≤ N → okD d → okV d v → DAt w d p → VAt w v sb sk → Calls Tryz.prog 10 #[.pointer (some ⟨p, 0, none⟩), .agg (valL v.num v.root sb sk).toArray] w fun e w' => ∃ u, e = .returned u ∧ Row w' w.heap.size u (encV d v) ∧ Below w.heap.size w w' := by
  induction N with
  | zero => intro d v sb sk p w h; cases v; rw [Vt.deep] at h; omega
  | succ N ih => exact enc_step N ih
/-- The document's Encode of any value, at any kind that it fits. -/
theorem enc_any (d : Dt) (v : Vt) (u : Value) (p : Nat) (w : World) (hd : okD d) (hv : okV d v) (hD : DAt w d p) (hV : IsV w u v) :
    Calls Tryz.prog 10 #[.pointer (some ⟨p, 0, none⟩), u] w fun e w' => ∃ u, e = .returned u ∧ Row w' w.heap.size u (encV d v) ∧ Below w.heap.size w w' := by
  obtain ⟨sb, sk, rfl, h⟩ := hV
  exact enc_deep v.deep d v sb sk p w (Nat.le_refl _) hd hv hD h
end Go.Proofs.YtpaamhmighgjeaaGreat

/- Flows whose operations may bear guards that are known to hold, and hang together in chains of any length. -/
namespace Go.Proofs.YtpaamhmighgjeaaGreat
open Go Go.RowKit
section
variable {P : Program}
/-- Those below k that one of m waits for, itself or by others, and m. -/
def markG (ops : Array Oper) : Nat → List Nat → List Nat
  | 0, m => m
  | k + 1, m => if m.any (fun j => Region.waitsFor .any ops j k) then markG ops k (k :: m) else markG ops k m
def reachM (ops : Array Oper) (t i : Nat) : Bool := (markG ops t [t]).contains i
theorem markG_done {ops : Array Oper} {done : Array Bool} (hcl : ∀ j oj, ops[j]? = some oj → done.getD j false = true → ∀ e ∈ oj.after, Region.binds .any e = true → done.getD e.on false = true) {t : Nat} {o : Oper} (ho : ops[t]? = some o) (hall : ∀ e ∈ o.after, Region.binds .any e = true → done.getD e.on false = true) :
    ∀ k m, (∀ i ∈ m, i = t ∨ done.getD i false = true) → ∀ i ∈ markG ops k m, i = t ∨ done.getD i false = true := by
  intro k
  induction k with
  | zero => intro m hm i hi; exact hm i hi
  | succ k ih =>
    intro m hm i hi
    rw [markG] at hi
    split at hi
    · rename_i hany
      refine ih (k :: m) (fun q hq => ?_) i hi
      rcases List.mem_cons.1 hq with rfl | hq
      · obtain ⟨j, hj, hw⟩ := List.any_eq_true.1 hany
        rcases hm j hj with rfl | hd
        · exact .inr (waits_done ho hall hw)
        · cases hz : ops[j]? with
          | none => unfold Region.waitsFor at hw; rw [hz] at hw; cases hw
          | some oj => exact .inr (waits_done hz (hcl j oj hz hd) hw)
      · exact hm q hq
    · exact ih m hm i hi
theorem reachM_done {ops : Array Oper} {done : Array Bool} (hcl : ∀ j oj, ops[j]? = some oj → done.getD j false = true → ∀ e ∈ oj.after, Region.binds .any e = true → done.getD e.on false = true) {t i : Nat} {o : Oper} (ho : ops[t]? = some o) (hall : ∀ e ∈ o.after, Region.binds .any e = true → done.getD e.on false = true) (h : reachM ops t i = true) (hne : i ≠ t) : done.getD i false = true :=
  (markG_done hcl ho hall t [t] (fun q hq => .inl (List.mem_singleton.1 hq)) i (by unfold reachM at h; simpa using h)).resolve_left hne
/-- What a flow asks of a region's text: its head's guards are known, it waits upwards alone, writes each slot once; its tail waits for all of the head, but for one operation that only reads slots and may come late (late: its place; n: there is none). -/
def flowMB (ops : Array Oper) (n late sz : Nat) : Bool :=
  decide (n < ops.size) && Region.noSelect ops && ((List.range ops.size).all fun t => decide (t < n) || (List.range n).all fun i => decide (i = late) || reachM ops t i) &&
  ((List.range n).all fun i => match ops[i]? with
    | some o => (match o.guard with | none => true | some (g, _) => decide (g < i) && Region.waitsFor .any ops i g && (dstOf ops g).isSome) && (o.after.all fun e => !Region.binds .any e || decide (e.on < i)) && (match o.dst with
      | none => true
      | some d => decide (d < sz) && (List.range n).all fun j => decide (j = i) || decide (dstOf ops j ≠ some d))
    | none => false) && (decide (n ≤ late) || (Region.free .any ops (doneBut ops n late) late && (Region.ready .any ops (doneBut ops n late)).contains late)) &&
  Region.seqB .any ops (ops.size - n) n ((List.range ops.size).map fun i => decide (i < n)).toArray

theorem flowM_any {ops : Array Oper} {n late : Nat} {I : Nat → Value → World → Prop} {w0 : World} {a0 : Act} {Q : Exit → Act → World → Prop} (hB : flowMB ops n late a0.tmps.size = true)
    (hQ : ∀ c d v a w, Q (.panic c) (a.put d v) w → Q (.panic c) a w)
    (hguard : ∀ i o g b, i < n → ops[i]? = some o → o.guard = some (g, b) → ∀ v w, I g v w → v = .bool b)
    (hI : ∀ i v w w', i < n → I i v w → Below w.heap.size w w' → I i v w')
    (hop : ∀ i o, i < n → ops[i]? = some o → ∀ a w, Cls w0 w → (∀ s, (∀ j, j < n → dstOf ops j ≠ some s) → a.tmps.getD s undef = a0.tmps.getD s undef) →
      (∀ j d, dstOf ops j = some d → (o.after.any fun e => Region.binds .any e && e.on == j) = true → I j (a.tmps.getD d undef) w) →
      o.wp P a w (fun a' w' => ∃ v, a' = a.put o.dst v ∧ I i v w' ∧ Below w.heap.size w w') Q)
    (hlate : ∀ o, late < n → ops[late]? = some o → ∀ (a : Act) w, Cls w0 w → (∀ s, (∀ j, j < n → dstOf ops j ≠ some s) → a.tmps.getD s undef = a0.tmps.getD s undef) →
      (∀ j d, dstOf ops j = some d → (o.after.any fun e => Region.binds .any e && e.on == j) = true → I j (a.tmps.getD d undef) w) → ∃ v, (∀ w, (execOp a.eval o).run P w = .ok (.value v) w) ∧ I late v w)
    (htail : ∀ v w, Cls w0 w → (∀ i d, i < n → dstOf ops i = some d → I i (v i) w) → wpAny P .any ops Q (ops.size - n) ((List.range ops.size).map fun i => decide (i < n)).toArray (putAll v (ops.toList.take n) 0 a0) w) :
    ∀ f (done : Array Bool) (a : Act) (w : World), (List.range n).countP (fun i => !done.getD i true) = f → FlowInv ops n I w0 a0 done a w → wpAny P .any ops Q (f + (ops.size - n)) done a w := by
  simp only [flowMB, Bool.and_eq_true, decide_eq_true_eq, List.all_eq_true, List.mem_range, Bool.or_eq_true] at hB
  obtain ⟨⟨⟨⟨⟨hn, hsel⟩, hdir⟩, hall⟩, hlt8⟩, hseq⟩ := hB
  have hat : ∀ i, i < n → ∃ o, ops[i]? = some o := fun i hi => ⟨_, Array.getElem?_eq_getElem (by omega)⟩
  have hgd : ∀ i o, i < n → ops[i]? = some o → (∀ g b, o.guard = some (g, b) → Region.waitsFor .any ops i g = true ∧ ∃ d, dstOf ops g = some d) ∧ (∀ e ∈ o.after, Region.binds .any e = true → e.on < i) ∧ ∀ d, o.dst = some d → d < a0.tmps.size ∧ ∀ j, j < n → j ≠ i → dstOf ops j ≠ some d := by
    intro i o hi ho
    have := hall i hi
    rw [ho] at this
    simp only [Bool.and_eq_true, Array.all_eq_true_iff_forall_mem, Bool.or_eq_true, Bool.not_eq_true', decide_eq_true_eq] at this
    obtain ⟨⟨h1, h2⟩, h3⟩ := this
    refine ⟨fun g b hg => by
      rw [hg] at h1
      simp only [Bool.and_eq_true] at h1
      exact ⟨h1.1.2, Option.isSome_iff_exists.1 h1.2⟩, fun e he hb => (h2 e he).resolve_left (by rw [hb]; decide), fun d hd => ?_⟩
    rw [hd] at h3
    simp only [Bool.and_eq_true, decide_eq_true_eq, List.all_eq_true, List.mem_range, Bool.or_eq_true] at h3
    exact ⟨h3.1, fun j hj hne => (h3.2 j hj).resolve_left hne⟩
  intro f
  induction f with
  | zero =>
    intro done a w hcount inv
    have hdone : ∀ i, i < n → done.getD i true = true := fun i hi => by
      have := List.countP_eq_zero.1 hcount i (List.mem_range.2 hi)
      simpa using this
    have hdn : done = ((List.range ops.size).map fun i => decide (i < n)).toArray := by
      apply Array.ext_getElem?
      intro i
      by_cases hi : i < ops.size
      · have hi' : i < done.size := by rw [inv.head.size]; exact hi
        have h1 : (((List.range ops.size).map fun i => decide (i < n)).toArray)[i]? = some (decide (i < n)) := by simp [hi]
        rw [h1, Array.getElem?_eq_getElem hi']
        by_cases hin : i < n
        · have := hdone i hin
          simp [hi'] at this
          simp [hin, this]
        · have := inv.head.tail i (by omega) hi
          simp [hi'] at this
          simp [hin, this]
      · rw [Array.getElem?_eq_none (by rw [inv.head.size]; omega), Array.getElem?_eq_none (by simp; omega)]
    have hk : ∀ i, i < n → done.getD i false = true := fun i hi => by
      have h1 := hdone i hi
      have hi' : i < done.size := by rw [inv.head.size]; omega
      simp [hi'] at h1 ⊢
      exact h1
    have ha : a = putAll (fun i => match dstOf ops i with | some d => a.tmps.getD d undef | none => undef) (ops.toList.take n) 0 a0 := by
      have hd1 := putAll_defers (fun i => match dstOf ops i with | some d => a.tmps.getD d undef | none => undef) (ops.toList.take n) 0 a0
      have hs1 := putAll_size (fun i => match dstOf ops i with | some d => a.tmps.getD d undef | none => undef) (ops.toList.take n) 0 a0
      have ht1 : ∀ s, a.tmps[s]? = (putAll (fun i => match dstOf ops i with | some d => a.tmps.getD d undef | none => undef) (ops.toList.take n) 0 a0).tmps[s]? := fun s => by
        rw [putAll_get _ s (a.tmps.getD s undef) _ 0 a0 (fun j o hj ho => by
          rw [List.getElem?_take] at hj
          split at hj
          · have : dstOf ops j = some s := by unfold dstOf; rw [Array.getElem?_toList] at hj; rw [hj]; exact ho
            rw [Nat.zero_add, this]
          · cases hj)]
        split
        · rename_i h
          rw [Array.getElem?_eq_getElem (by rw [inv.size]; exact h.2)]
          simp [inv.size, h.2]
        · rename_i h
          by_cases hsz : s < a0.tmps.size
          · refine inv.keep s fun i hi e => h ⟨?_, hsz⟩
            obtain ⟨o, ho⟩ := hat i hi
            refine ⟨o, ?_, by unfold dstOf at e; rw [ho] at e; exact e⟩
            rw [List.mem_take_iff_getElem]
            have := Array.getElem?_eq_some_iff.1 ho
            exact ⟨i, by simp; omega, by simpa using this.2⟩
          · rw [Array.getElem?_eq_none (by rw [inv.size]; omega), Array.getElem?_eq_none (by omega)]
      generalize putAll (fun i => match dstOf ops i with | some d => a.tmps.getD d undef | none => undef) (ops.toList.take n) 0 a0 = b at *
      obtain ⟨ta, da⟩ := a
      obtain ⟨tb, db⟩ := b
      have e1 : ta = tb := Array.ext_getElem? ht1
      have e2 : da = db := inv.defers.trans hd1.symm
      rw [e1, e2]
    rw [Nat.zero_add, ha, hdn]
    refine htail _ w inv.cls fun i d hi hd => ?_
    have := inv.known i hi (hk i hi) d hd
    simpa [hd] using this
  | succ f ih =>
    intro done a w hcount inv
    have hex : ∃ i, i < n ∧ done.getD i true = false := by
      have : 0 < (List.range n).countP (fun i => !done.getD i true) := by omega
      obtain ⟨i, hi, hd⟩ := List.countP_pos_iff.1 this
      exact ⟨i, List.mem_range.1 hi, by simpa using hd⟩
    have hready : ∃ i, i < n ∧ i ∈ Region.ready .any ops done := by
      obtain ⟨i0, hi0, hd0⟩ := hex
      have key : ∀ m, m < n → done.getD m true = false → ∃ i, i < n ∧ i ∈ Region.ready .any ops done := by
        intro m
        induction m using Nat.strongRecOn with
        | _ m ihm =>
          intro hm hd
          obtain ⟨o, ho⟩ := hat m hm
          by_cases hw : ∀ e ∈ o.after, Region.binds .any e = true → done.getD e.on false = true
          · exact ⟨m, hm, mem_ready.2 ⟨hd, o, ho, hw⟩⟩
          · simp only [Classical.not_forall] at hw
            obtain ⟨e, he, hb, hnd⟩ := hw
            have hlt := (hgd m o hm ho).2.1 e he hb
            refine ihm e.on hlt (by omega) ?_
            have hi' : e.on < done.size := by rw [inv.head.size]; omega
            simp [hi'] at hnd ⊢
            exact hnd
      exact key i0 hi0 hd0
    obtain ⟨r, hr, hrr⟩ := hready
    rw [Nat.succ_add]
    have hstep : ∀ i o v w', i < n → i ∈ Region.ready .any ops done → ops[i]? = some o → I i v w' → Below w.heap.size w w' →
        (List.range n).countP (fun j => !(done.setIfInBounds i true).getD j true) = f ∧ FlowInv ops n I w0 a0 (done.setIfInBounds i true) (a.put o.dst v) w' := by
      intro i o v w' hin hi ho hv hB
      obtain ⟨hun, o', ho', hwait⟩ := mem_ready.1 hi
      obtain ⟨g1, g2, g3⟩ := hgd i o hin ho
      refine ⟨?_, inv.head.set hi hin, inv.cls.more hB, by rw [put_defers]; exact inv.defers, by rw [put_size]; exact inv.size, fun s hs' => ?_, fun j hj hdj d hd => ?_⟩
      · have hii : i < done.size := by rw [inv.head.size]; omega
        have hcp := count_step done i hii hun n hin
        omega
      · rw [put_get, if_neg (fun h => hs' i hin (by unfold dstOf; rw [ho]; exact h.1))]
        exact inv.keep s hs'
      · by_cases e : j = i
        · subst e
          have hd' : o.dst = some d := by unfold dstOf at hd; rw [ho] at hd; exact hd
          have : (a.put o.dst v).tmps.getD d undef = v := by
            rw [Array.getD_eq_getD_getElem?, put_get, if_pos ⟨hd', by rw [inv.size]; exact (g3 d hd').1⟩]; rfl
          rw [this]; exact hv
        · have hdj' : done.getD j false = true := by rwa [getD_set_ne false (Ne.symm e)] at hdj
          have : (a.put o.dst v).tmps.getD d undef = a.tmps.getD d undef := by
            rw [Array.getD_eq_getD_getElem?, put_get, if_neg (fun h => (g3 d h.1).2 j hj e hd), ← Array.getD_eq_getD_getElem?]
          rw [this]
          exact hI j _ w w' hj (inv.known j hj hdj' d hd) hB
    have hdeps : ∀ i o, i < n → i ∈ Region.ready .any ops done → ops[i]? = some o → ∀ j d, dstOf ops j = some d → (o.after.any fun e => Region.binds .any e && e.on == j) = true → I j (a.tmps.getD d undef) w := by
      intro i o hin hi ho j d hd hj
      obtain ⟨hun, o', ho', hwait⟩ := mem_ready.1 hi
      obtain rfl : o' = o := Option.some.inj (ho'.symm.trans ho)
      obtain ⟨g1, g2, g3⟩ := hgd i o' hin ho
      obtain ⟨k, hk, hk2⟩ := Array.any_eq_true.1 hj
      simp only [Bool.and_eq_true, beq_iff_eq] at hk2
      have hmem := Array.getElem_mem hk
      have hl := hwait _ hmem hk2.1
      have hlt := g2 _ hmem hk2.1
      rw [hk2.2] at hl hlt
      exact inv.known j (by omega) hl d hd
    have hwant : ∀ i o, i < n → i ∈ Region.ready .any ops done → ops[i]? = some o → Region.wanted o (yielded ops a.tmps) = true := by
      intro i o hin hi ho
      unfold Region.wanted
      cases hg : o.guard with
      | none => rfl
      | some gb =>
        obtain ⟨g, b⟩ := gb
        obtain ⟨q2, d, hd⟩ := (hgd i o hin ho).1 g b hg
        unfold Region.waitsFor at q2
        rw [ho] at q2
        have hv := hguard i o g b hin ho hg _ _ (hdeps i o hin hi ho g d hd q2)
        have hv2 : a.tmps[d]? = some (.bool b) := by
          rw [Array.getD_eq_getD_getElem?] at hv
          cases hq : a.tmps[d]? with
          | none => rw [hq] at hv; cases hv
          | some u => rw [hq] at hv; exact congrArg some hv
        have hy : yielded ops a.tmps g = some b := by
          unfold dstOf at hd
          unfold yielded
          rw [hd]
          simp [hv2]
        simp [hy]
    have hkeep : ∀ s, (∀ j, j < n → dstOf ops j ≠ some s) → a.tmps.getD s undef = a0.tmps.getD s undef := fun s hs' => by rw [Array.getD_eq_getD_getElem?, inv.keep s hs', ← Array.getD_eq_getD_getElem?]
    by_cases hbut : ∀ i, i < n → i ≠ late → done.getD i true = true
    · have hrl : r = late := Classical.byContradiction fun h => by
        have h1 := hbut r hr h
        rw [(mem_ready.1 hrr).1] at h1; cases h1
      subst hrl
      have hdn : done = doneBut ops n r := by
        apply Array.ext_getElem?
        intro i
        by_cases hi : i < ops.size
        · have hi' : i < done.size := by rw [inv.head.size]; exact hi
          have h1 : (doneBut ops n r)[i]? = some (decide (i < n) && decide (i ≠ r)) := by simp [doneBut, hi]
          rw [h1, Array.getElem?_eq_getElem hi']
          by_cases hin : i < n
          · by_cases hir : i = r
            · subst hir
              have := (mem_ready.1 hrr).1
              simp [hi'] at this
              simp [this]
            · have := hbut i hin hir
              simp [hi'] at this
              simp [hin, hir, this]
          · have := inv.head.tail i (by omega) hi
            simp [hi'] at this
            simp [hin, this]
        · rw [Array.getElem?_eq_none (by rw [inv.head.size]; omega), Array.getElem?_eq_none (by simp [doneBut]; omega)]
      obtain ⟨o, ho⟩ := hat r hr
      obtain ⟨v, hrun, hv⟩ := hlate o hr ho a w inv.cls hkeep (hdeps r o hr hrr ho)
      obtain ⟨q1, q2⟩ := hstep r o v w hr hrr ho hv (Below.refl _ w)
      have hw := hwant r o hr hrr ho
      have hfr := hlt8.resolve_left (by omega)
      rw [← hdn] at hfr
      exact wpAny_take ho hsel hfr.1 hfr.2 (fun c a w h => hQ c _ _ a w h) (.inl ⟨hw, hrun⟩) (ih _ _ _ q1 q2)
    · simp only [Classical.not_forall] at hbut
      obtain ⟨u, hu, hul, hud⟩ := hbut
      have hud' : done.getD u false = false := by
        have hi' : u < done.size := by rw [inv.head.size]; omega
        simp [hi'] at hud ⊢
        exact hud
      refine ⟨fun e => (by rw [e] at hrr; cases hrr), fun i hi => ?_⟩
      obtain ⟨hun, o, ho, hwait⟩ := mem_ready.1 hi
      have hin : i < n := Nat.lt_of_not_le fun h => by
        have his : i < ops.size := (Array.getElem?_eq_some_iff.1 ho).1
        have hw := ((hdir i his).resolve_left (by omega) u hu).resolve_left hul
        have := reachM_done inv.head.closed ho hwait hw (by omega)
        rw [hud'] at this
        cases this
      unfold wpOp
      rw [ho]
      have hw := hwant i o hin hi ho
      simp only [hw, if_true]
      refine .inl (Oper.wp_mono ?_ (hop i o hin ho a w inv.cls hkeep (hdeps i o hin hi ho)))
      rintro a' w' ⟨v, rfl, hv, hB⟩
      obtain ⟨q1, q2⟩ := hstep i o v w' hin hi ho hv hB
      exact ih _ _ _ q1 q2

/-- The region, told as a flow. -/
theorem wp_region_flowM {id : Nat} {Q : Exit → Act → World → Prop} {a : Act} {w : World} {l : List Oper} (n late : Nat) (I : Nat → Value → World → Prop) (hm : P.follows .mixedOrders = true) (hB : flowMB l.toArray n late a.tmps.size = true)
    (hQ : ∀ c d v a w, Q (.panic c) (a.put d v) w → Q (.panic c) a w)
    (hguard : ∀ i o g b, i < n → l.toArray[i]? = some o → o.guard = some (g, b) → ∀ v w, I g v w → v = .bool b)
    (hI : ∀ i v w w', i < n → I i v w → Below w.heap.size w w' → I i v w')
    (hop : ∀ i o, i < n → l.toArray[i]? = some o → ∀ a' w', Cls w w' → (∀ s, (∀ j, j < n → dstOf l.toArray j ≠ some s) → a'.tmps.getD s undef = a.tmps.getD s undef) →
      (∀ j d, dstOf l.toArray j = some d → (o.after.any fun e => Region.binds .any e && e.on == j) = true → I j (a'.tmps.getD d undef) w') →
      o.wp P a' w' (fun a'' w'' => ∃ v, a'' = a'.put o.dst v ∧ I i v w'' ∧ Below w'.heap.size w' w'') Q)
    (hlate : ∀ o, late < n → l.toArray[late]? = some o → ∀ (a' : Act) w', Cls w w' → (∀ s, (∀ j, j < n → dstOf l.toArray j ≠ some s) → a'.tmps.getD s undef = a.tmps.getD s undef) →
      (∀ j d, dstOf l.toArray j = some d → (o.after.any fun e => Region.binds .any e && e.on == j) = true → I j (a'.tmps.getD d undef) w') → ∃ v, (∀ w, (execOp a'.eval o).run P w = .ok (.value v) w) ∧ I late v w')
    (htail : ∀ v w', Cls w w' → (∀ i d, i < n → dstOf l.toArray i = some d → I i (v i) w') → wpList P l.toArray Q (l.drop n) (putAll v (l.take n) 0 a) w') : (Code.region id l.toArray true).wp P Q a w := by
  have hB' := hB
  simp only [flowMB, Bool.and_eq_true, decide_eq_true_eq] at hB'
  have hn : n < l.length := by simpa using hB'.1.1.1.1.1
  have h3 : (l.drop n).length = l.toArray.size - n := by simp
  refine wp_region_any hm ?_
  have hc0 : (List.range n).countP (fun i => !(Array.replicate l.toArray.size false).getD i true) = n := by
    have : (List.range n).countP (fun i => !(Array.replicate l.toArray.size false).getD i true) = (List.range n).length := List.countP_eq_length.2 fun i hi => by
      have := List.mem_range.1 hi
      simp [show i < l.length by omega]
    rw [this, List.length_range]
  have K := flowM_any (P := P) (Q := Q) (w0 := w) (a0 := a) hB hQ hguard hI hop hlate (fun v w' hc hv => by
    have := wpAny_of_seq (P := P) (md := .any) (Q' := Q) (l.drop n) n _ _ w' (fun j => by simp [List.getElem?_drop]) (by rw [h3]; exact hB'.2) (htail v w' hc hv)
    rw [h3] at this
    simpa using this) n (Array.replicate l.toArray.size false) a { w with drawn := w.drawn + 1 } hc0
    ⟨⟨by simp, fun j oj _ hx => (by rw [getD_replicate_false] at hx; cases hx), fun t _ ht => getD_in (by simpa using ht) (getD_replicate_false _ _)⟩, ⟨(Below.refl _ w).drew⟩, rfl, rfl, fun _ _ => rfl, fun i _ hx => (by rw [getD_replicate_false] at hx; cases hx)⟩
  rwa [show n + (l.toArray.size - n) = l.toArray.size by simp; omega] at K
end
end Go.Proofs.YtpaamhmighgjeaaGreat

/- Numbers and roots taken, over the state. -/
namespace Go.Proofs.YtpaamhmighgjeaaGreat
open Go.RowKit Go.Shelf
set_option linter.unusedVariables false
set_option linter.unusedSimpArgs false
set_option maxRecDepth 100000

theorem fixS_ok {bs : List Nat} {size n : Nat} {s : Rs} (h : s.1 ≤ size ∧ (s.2 = false → size ≤ bs.length)) : (fixS size n s).1 ≤ size ∧ ((fixS size n s).2 = false → size ≤ bs.length) := by
  obtain ⟨h1, h2⟩ := h
  refine ⟨?_, fun h => h2 ?_⟩
  · show fixT size s.1 n s.2 ≤ size
    unfold fixT fixW
    by_cases hw : (s.2 || decide (size - s.1 < n)) = true
    · rw [if_pos hw]; exact h1
    · rw [if_neg hw]
      simp only [Bool.or_eq_true, decide_eq_true_eq, not_or] at hw
      omega
  · have h' : (s.2 || decide (size - s.1 < n)) = false := h
    simp only [Bool.or_eq_false_iff] at h'
    exact h'.1
theorem rnumS {g : Nat} {S : Nat → Prop} {bs : List Nat} {size : Nat} {ps : List Nat} (s : Rs) (w : World) (h : Rd w g S bs size s.1 ps s.2) (hs : size ≤ 4611686018427387904) (hl : bs.length ≤ 140737488355328) :
    Calls Tryz.prog 81 #[.pointer (some ⟨g, 0, none⟩)] w fun e w' => e = .returned (.int .u64 (numAt bs size s : Nat)) ∧ Rd w' g S bs size (fixS size 8 s).1 ps (fixS size 8 s).2 ∧ w.grownBy w' (some g) := rnum_any w h hs hl
theorem rrootS {g : Nat} {S : Nat → Prop} {bs : List Nat} {size : Nat} {ps : List Nat} (s : Rs) (w : World) (h : Rd w g S bs size s.1 ps s.2) (hs : size ≤ 4611686018427387904) (hl : bs.length ≤ 140737488355328) :
    Calls Tryz.prog 34 #[.pointer (some ⟨g, 0, none⟩)] w fun e w' => e = .returned (.agg (nums .u8 (rootAt bs size s))) ∧ Rd w' g S bs size (fixS size 32 s).1 ps (fixS size 32 s).2 ∧ w.grownBy w' (some g) := rroot_any w h hs hl
end Go.Proofs.YtpaamhmighgjeaaGreat

/- A range over an iterator that yields memory: each round is told a word about what is yielded and the world in which it is. -/
namespace Go.Proofs.YtpaamhmighgjeaaGreat
open Go.RowKit
set_option linter.unusedVariables false

section
variable {F : Fence} {n : Nat} {P : Program}
/-- The word of an iterator that lies in world w: at the yield of whatever loop, with whatever it is that the caller keeps, M is said of each thing yielded (B: where the heap ended when the iterator began); what a round keeps (Kp) is asked by the thing that it was given. -/
def SeqM {α : Type} (F : Fence) (n : Nat) (P : Program) (f : Nat) (lb : Array Value) (encs : α → Array Value) (M : Nat → α → World → Prop) (Kp : α → World → World → Prop) (S Sp : List α → Prop) (N : Nat) (w : World) : Prop :=
  ∀ (l : Nat) (J Jx : List α → World → Prop) (W : World), Below w.heap.size w W → AbidesFrom W.heap.size J → AbidesFrom W.heap.size Jx →
    (∀ pre x V, J pre V → M W.heap.size x V → pre.length < N → YieldAt F (n - 1) P l (encs x) V fun e V' =>
      (e = .returned (.bool true) ∧ J (pre ++ [x]) V' ∧ Kp x V V') ∨ (e = .returned (.bool false) ∧ Jx (pre ++ [x]) V')) →
    J [] W →
    CallsIn F n P f (#[.func (.yield l) #[] #[]] ++ lb) W fun e W' => (∃ v, e = .returned v) ∧ ((∃ xs, S xs ∧ J xs W') ∨ (∃ pre, Sp pre ∧ Jx pre W'))
/-- How the body of a round may be left. -/
def leftM {α : Type} (B : Nat) (K : World → World → Prop) (I : List α → World → Prop) (Ix : Code → List α → World → Prop) (xs : List α) (W : World) : Exit → Act → World → Prop
  | .normal, _, V => KeepsFrom B W V ∧ K W V ∧ I xs V
  | .ret, _, V => KeepsFrom B W V ∧ Ix .ret xs V
  | .exit id, _, V => KeepsFrom B W V ∧ Ix (.exit id) xs V
  | .goto t, _, V => KeepsFrom B W V ∧ Ix (.goto t) xs V
  | _, _, _ => False
/-- The loop's two blocks: where the rounds' deferred calls go, and its record. -/
structure TwoB (h : Nat) (r : Loop) (W : World) : Prop where
  defs : W.heap[h]? = some (.deferred (some []))
  loop : W.heap[h + 1]? = some (.loop r)
theorem TwoB.lt {h : Nat} {r : Loop} {W : World} (b : TwoB h r W) : h + 1 < W.heap.size := (Array.getElem?_eq_some_iff.1 b.loop).1
theorem TwoB.keep {h : Nat} {r : Loop} {W V : World} (b : TwoB h r W) (k : KeepsFrom h W V) : TwoB h r V := ⟨k.same _ _ (Nat.le_refl _) b.defs rfl, k.same _ _ (by omega) b.loop rfl⟩
theorem TwoB.put {h : Nat} {r : Loop} {W : World} (b : TwoB h r W) (r' : Loop) : TwoB h r' (W.putObj (h + 1) (.loop r')) := ⟨(World.putObj_heap_other (by omega)).trans b.defs, World.putObj_heap_same b.lt⟩
theorem TwoB.abides {h : Nat} {r : Loop} {A V : World} {row : Option Nat} (b : TwoB h r A) (hg : A.grownBy V row) (hr : ∀ x, row = some x → ∃ o : Obj, A.heap[x]? = some o ∧ o.isWalk = true) : TwoB h r V :=
  ⟨(grownBy_keeps hg hr b.defs rfl).trans b.defs, (grownBy_keeps hg hr b.loop rfl).trans b.loop⟩
theorem wpIn_rangeM {α : Type} {g : Operand} {ps : Array Tmp} {assign body : Code} {Q : Exit → Act → World → Prop} {a : Act} {w w0 : World}
    (hro : F.round = none) (h1 : 1 ≤ n) {gf : Nat} {lb : Array Value} (hg : a.eval g = .func (.func gf) #[] lb) (hFg : F.fn gf) (eg : ∀ args w, (callFunc gf args).run P w = .ok (.enter gf args) w)
    {encs : α → Array Value} {M : Nat → α → World → Prop} {Kp : α → World → World → Prop} {S Sp : List α → Prop} {N : Nat} (hseq : SeqM F (n - 1) P gf lb encs M Kp S Sp N w0) (hb0 : Below w0.heap.size w0 w)
    (hKt : ∀ {x A B C}, Kp x A B → Kp x B C → Kp x A C) (hKb : ∀ x (W : World) (l : Nat) (o o' : Obj), W.heap[l]? = some o → o.isCells = false → Kp x W (W.putObj l o')) (hps : ∀ x, (encs x).size = ps.size)
    (hM : ∀ B x (W : World) (l : Nat) (o o' : Obj), M B x W → W.heap[l]? = some o → o.isCells = false → M B x (W.putObj l o'))
    (I : List α → World → Prop) (Ix : Code → List α → World → Prop) (hI : OwnFrom w.heap.size I) (hIx : ∀ c, OwnFrom w.heap.size (Ix c)) (h0 : I [] w) (a₁ : α → Act)
    (hassign : ∀ (l : Nat) (x : α) (W : World) (K : Act → World → Prop), K (a₁ x) W → assign.wpIn (F.inRound l) (n - 1 - 1) P (Exit.then K (fun _ _ _ => False)) { tmps := (ps.zip (encs x)).foldl (fun t (p, v) => t.setIfInBounds p v) a.tmps, defers := [] } W)
    (hbody : ∀ (l : Nat) (pre : List α) (x : α) (W : World), w.heap.size ≤ l → I pre W → M (w.heap.size + 2) x W → pre.length < N → body.wpIn (F.inRound l) (n - 1 - 1) P (leftM w.heap.size (Kp x) I Ix (pre ++ [x]) W) (a₁ x) W)
    (hdone : ∀ (xs : List α) (W : World), S xs → I xs W → W.heap[w.heap.size]? = some (.deferred (some [])) → Q .normal { a with defers := { target := .collected w.heap.size, args := #[] } :: a.defers } W)
    (hstop : ∀ (c : Code) (pre : List α) (W : World), Sp pre → Ix c pre W → W.heap[w.heap.size]? = some (.deferred (some [])) → c.wpIn F n P Q { a with defers := { target := .collected w.heap.size, args := #[] } :: a.defers } W) :
    (Code.rangeFunc g ps assign body).wpIn F n P Q a w := by
  refine wpIn_rangeFunc fun fn hfn => ?_
  rw [hro]
  obtain ⟨rc, hrc⟩ : ∃ rc : LoopState → Option Code → Loop, rc = fun st pe => { state := st, pending := pe, fn, tmps := a.tmps, params := ps, assign, body, defers := w.heap.size } := ⟨_, rfl⟩
  have hent := run_enterLoop_outer (P := P) (w := w) fn a.tmps ps assign body
  have hT1 : TwoB w.heap.size (rc .ready none) ((w.alloc (.deferred (some []))).alloc (.loop (rc .ready none))) := by
    constructor
    · exact (Below.heap_alloc _ _ _ (by simp)).trans (World.alloc_heap_new w _)
    · have h := World.alloc_heap_new (w.alloc (.deferred (some []))) (.loop (rc .ready none))
      rwa [World.size_alloc] at h
  have hs1 : ((w.alloc (.deferred (some []))).alloc (.loop (rc .ready none))).heap.size = w.heap.size + 2 := by simp
  have hB1 : Below w0.heap.size w0 ((w.alloc (.deferred (some []))).alloc (.loop (rc .ready none))) := hb0.trans ((((Below.refl _ w).alloc (Nat.le_refl _) _).alloc (by simp) _).mono hb0.size)
  have hI1 : I [] ((w.alloc (.deferred (some []))).alloc (.loop (rc .ready none))) := hI.alloc _ (hI.alloc _ h0)
  rw [show ({ state := .ready, pending := none, fn, tmps := a.tmps, params := ps, assign, body, defers := w.heap.size } : Loop) = rc .ready none by rw [hrc]] at hent
  generalize (w.alloc (.deferred (some []))).alloc (.loop (rc .ready none)) = W1 at *
  refine ⟨_, _, W1, { target := .fn (.func gf) lb, args := #[.func (.yield (w.heap.size + 1)) #[] #[]] }, W1, gf, #[.func (.yield (w.heap.size + 1)) #[] #[]] ++ lb, W1, hent, ?_, ?_, ?_, fun _ => h1, ?_⟩
  · simp only [resolve, hg]
    simp [go_sem]
  · intro f' hf'
    simp [Target.leads] at hf'
    subst hf'
    exact hFg
  · simp [invoke, go_sem, eg]
  have hrow : ∀ {A : World} {row : Option Nat}, (∀ r, row = some r → W1.heap.size ≤ r ∧ ∃ o : Obj, A.heap[r]? = some o ∧ o.isWalk = true) → ∀ r, row = some r → w.heap.size ≤ r ∧ ∃ o : Obj, A.heap[r]? = some o ∧ o.isCells = false :=
    fun h r e => by
      obtain ⟨h1, o, ho, hw⟩ := h r e
      exact ⟨by omega, o, ho, Obj.not_cells_of_walk hw⟩
  refine (hseq (w.heap.size + 1) (fun pre W => I pre W ∧ TwoB w.heap.size (rc .ready none) W) (fun pre W => ∃ c, Ix c pre W ∧ TwoB w.heap.size (rc .done (some c)) W) W1 hB1
    (fun s A B row hs hg' hr => ⟨hI s A B row hs.1 hg' (hrow hr), hs.2.abides hg' (fun r e => (hr r e).2)⟩)
    (fun s A B row hs hg' hr => by
      obtain ⟨c, hc, ht⟩ := hs
      exact ⟨c, hIx c s A B row hc hg' (hrow hr), ht.abides hg' (fun r e => (hr r e).2)⟩) ?_ ⟨hI1, hT1⟩).mono ?_
  · rintro pre x V ⟨hi, ht⟩ hm hlen
    have hy := run_yield (P := P) (args := encs x) ht.loop (by rw [hrc]; exact hps x)
    refine ⟨_, _, _, _, hy, ?_⟩
    rw [hrc]
    refine roundIn_of_wpIn hfn (hassign _ x V _ ⟨_, run_beginRound ht.loop (by rw [hrc]), ?_⟩)
    have tb := ht.put { rc .ready none with state := .busy }
    rw [hs1] at hm
    have hm2 := hM _ _ _ _ _ (.loop { rc .ready none with state := .busy }) hm ht.loop rfl
    have hi2 := hI.putObj (.loop { rc .ready none with state := .busy }) hi (show w.heap.size ≤ w.heap.size + 1 by omega) ht.loop rfl
    have hk2 := hKb x _ _ _ (.loop { rc .ready none with state := .busy }) ht.loop rfl
    generalize V.putObj (w.heap.size + 1) (.loop { rc .ready none with state := .busy }) = V2 at *
    refine wpIn_mono (hbody _ pre x V2 (by omega) hi2 hm2 hlen) ?_
    have fin : ∀ (j : Option Code) (X : World), KeepsFrom w.heap.size V2 X → ∃ Y, (Instr.endRound (w.heap.size + 1) j).run P X = .ok (.bool j.isNone) Y ∧ TwoB w.heap.size (rc (if j.isNone then .ready else .done) j) Y ∧ (∀ K : World → Prop, (∀ o', K (X.putObj (w.heap.size + 1) o')) → K Y) := by
      intro j X hk
      have tx := tb.keep hk
      have hr := run_endRound (P := P) j tx.loop
      rw [hrc] at hr tx ⊢
      exact ⟨_, hr, tx.put _, fun K h => h _⟩
    rintro e a3 X hp
    cases e with
    | normal =>
      obtain ⟨hk, hkp, hi3⟩ := hp
      obtain ⟨Y, hr, ht3, hY⟩ := fin none X hk
      have tx := tb.keep hk
      exact ⟨_, _, hr, .inl ⟨rfl, ⟨hY (I _) (fun o' => hI.putObj o' hi3 (by omega) tx.loop rfl), by rw [hrc] at ht3; exact ht3⟩, hY (Kp x V) (fun o' => hKt (hKt hk2 hkp) (hKb x _ _ _ o' tx.loop rfl))⟩⟩
    | ret =>
      obtain ⟨hk, hi3⟩ := hp
      obtain ⟨Y, hr, ht3, hY⟩ := fin (some .ret) X hk
      exact ⟨_, _, hr, .inr ⟨rfl, .ret, hY (Ix .ret _) (fun o' => (hIx _).putObj o' hi3 (by omega) (tb.keep hk).loop rfl), by rw [hrc] at ht3; exact ht3⟩⟩
    | exit id =>
      obtain ⟨hk, hi3⟩ := hp
      obtain ⟨Y, hr, ht3, hY⟩ := fin (some (.exit id)) X hk
      exact ⟨_, _, hr, .inr ⟨rfl, .exit id, hY (Ix (.exit id) _) (fun o' => (hIx _).putObj o' hi3 (by omega) (tb.keep hk).loop rfl), by rw [hrc] at ht3; exact ht3⟩⟩
    | goto t =>
      obtain ⟨hk, hi3⟩ := hp
      obtain ⟨Y, hr, ht3, hY⟩ := fin (some (.goto t)) X hk
      exact ⟨_, _, hr, .inr ⟨rfl, .goto t, hY (Ix (.goto t) _) (fun o' => (hIx _).putObj o' hi3 (by omega) (tb.keep hk).loop rfl), by rw [hrc] at ht3; exact ht3⟩⟩
    | panic ch => exact hp.elim
    | outgrown => exact hp.elim
  · rintro e W2 ⟨⟨v, rfl⟩, (⟨xs, hS, hi, ht⟩ | ⟨pre, hSp, c, hi, ht⟩)⟩
    · have hr := run_endLoop (P := P) ht.loop (by rw [hrc]; simp)
      exact ⟨_, _, hr, by rw [hrc]; exact hdone xs _ hS (hI.putObj _ hi (by omega) ht.loop rfl) ((World.putObj_heap_other (by omega)).trans ht.defs)⟩
    · have hr := run_endLoop (P := P) ht.loop (by rw [hrc]; simp)
      exact ⟨_, _, hr, by rw [hrc]; exact hstop c pre _ hSp ((hIx c).putObj _ hi (by omega) ht.loop rfl) ((World.putObj_heap_other (by omega)).trans ht.defs)⟩
end
end Go.Proofs.YtpaamhmighgjeaaGreat

/- ssz's Split: the iterator over the parts of a list. -/
namespace Go.Proofs.YtpaamhmighgjeaaGreat
open Go.RowKit Go.Shelf
set_option linter.unusedVariables false
attribute [local go_sem] Oper.semAt_some

/-- The parts of one size. -/
def pcs (bs : List Nat) (size k : Nat) : List (List Nat) := (List.range k).map fun i => (bs.drop (i * size)).take size
theorem pcs_length (bs : List Nat) (size k : Nat) : (pcs bs size k).length = k := by simp [pcs]
theorem pcs_take (bs : List Nat) (size k t : Nat) (h : t ≤ k) : (pcs bs size k).take t = pcs bs size t := by
  unfold pcs
  rw [← List.map_take, List.take_range, Nat.min_eq_left h]
theorem pcs_succ (bs : List Nat) (size t : Nat) : pcs bs size (t + 1) = pcs bs size t ++ [(bs.drop (t * size)).take size] := by simp [pcs, List.range_succ]
/-- A part that is handed to a round: it lies at or beyond B, in a block of bytes. -/
def MP (size B : Nat) (x : Value × List Nat) (W : World) : Prop :=
  ∃ g off cur, x.1 = .slice (some ⟨g, off, none⟩) size size ∧ B ≤ g ∧ W.heap[g]? = some (.cells cur 5 (0, 0)) ∧ off + size ≤ cur.size ∧ x.2.length = size ∧ (∀ z ∈ x.2, z < 256) ∧ ∀ j, j < size → cur[off + j]? = some (.int .u8 (x.2.getD j 0 : Nat))
/-- What a round keeps: the two variables that the iterator has caught; of the part's block what lies behind the part. -/
def KP (size bo bz : Nat) (x : Value × List Nat) (W V : World) : Prop :=
  (∀ b, b = bo ∨ b = bz → ∀ cs t f, W.heap[b]? = some (.cells cs t f) → V.heap[b]? = some (.cells cs t f)) ∧
  ∀ g off, x.1 = .slice (some ⟨g, off, none⟩) size size → ∀ cur, W.heap[g]? = some (.cells cur 5 (0, 0)) → ∃ cur' : Array Value, V.heap[g]? = some (.cells cur' 5 (0, 0)) ∧ cur'.size = cur.size ∧ ∀ j, off + size ≤ j → cur'[j]? = cur[j]?
theorem KP.trans {size bo bz : Nat} {x : Value × List Nat} {A B C : World} (h : KP size bo bz x A B) (k : KP size bo bz x B C) : KP size bo bz x A C :=
  ⟨fun b hb cs t f e => k.1 b hb cs t f (h.1 b hb cs t f e), fun g off e cur hc => by
    obtain ⟨c1, h1, s1, e1⟩ := h.2 g off e cur hc
    obtain ⟨c2, h2, s2, e2⟩ := k.2 g off e c1 h1
    exact ⟨c2, h2, s2.trans s1, fun j hj => (e2 j hj).trans (e1 j hj)⟩⟩
theorem KP.put {size bo bz : Nat} (x : Value × List Nat) (W : World) (l : Nat) (o o' : Obj) (hl : W.heap[l]? = some o) (ho : o.isCells = false) : KP size bo bz x W (W.putObj l o') := by
  have hne : ∀ b (cs : Array Value) t f, W.heap[b]? = some (.cells cs t f) → b ≠ l := fun b cs t f e h => by
    rw [h, hl] at e
    cases e
    cases ho
  exact ⟨fun b _ cs t f e => (World.putObj_heap_other (hne b cs t f e)).trans e, fun g off _ cur hc => ⟨cur, (World.putObj_heap_other (hne g cur _ _ hc)).trans hc, rfl, fun _ _ => rfl⟩⟩
theorem MP.put {size : Nat} (B : Nat) (x : Value × List Nat) (W : World) (l : Nat) (o o' : Obj) (h : MP size B x W) (hl : W.heap[l]? = some o) (ho : o.isCells = false) : MP size B x (W.putObj l o') := by
  obtain ⟨g, off, cur, h1, h2, h3, h4⟩ := h
  exact ⟨g, off, cur, h1, h2, (World.putObj_heap_other (fun e => by rw [e, hl] at h3; cases h3; cases ho)).trans h3, h4⟩
theorem MP.isB {size B : Nat} {x : Value × List Nat} {W : World} (h : MP size B x W) (hs : size ≤ 1099511627776) : IsB W x.1 x.2 := by
  obtain ⟨g, off, cur, h1, _, h3, h4, h5, h6, h7⟩ := h
  refine ⟨⟨some ⟨g, off, none⟩, size, by rw [h1, h5], by omega, by unfold maxLen; omega, (fun e => nomatch e), Or.inr ⟨g, off, rfl, fun i hi => ?_⟩⟩, h6⟩
  rw [cell_of_row W g _ _ _ (0, 0) h3, h7 i (by omega)]
def lenS : Value → Nat | .slice _ n _ => n | _ => 0
theorem below_none {w w' : World} (h : Below w.heap.size w w') : w.grownBy w' none := ⟨h.os, h.tape, h.output, h.size, fun k hk _ => h.block k hk⟩

set_option maxRecDepth 100000 in
set_option maxHeartbeats 2000000 in
theorem splitIt_in (n : Nat) (hn : 1 ≤ n) (l bo bz : Nat) (bs : List Nat) (size k : Nat) (hsz : 0 < size) (hk : bs.length = k * size) (hlen : bs.length ≤ 1099511627776) (v : Value) (J Jx : List (Value × List Nat) → World → Prop) (W : World)
    (hbo : W.heap[bo]? = some (.cells #[v] 39 (0, 0))) (hbz : W.heap[bz]? = some (.cells #[.int .i64 (size : Nat)] 3 (0, 0))) (hI : IsB W v bs) (hAJ : AbidesFrom W.heap.size J)
    (hY : ∀ pre x V, J pre V → MP size W.heap.size x V → pre.length < k → YieldAt Fence.wide (n - 1) Tryz.prog l #[x.1] V fun e V' =>
      (e = .returned (.bool true) ∧ J (pre ++ [x]) V' ∧ KP size bo bz x V V') ∨ (e = .returned (.bool false) ∧ Jx (pre ++ [x]) V')) (h0 : J [] W) :
    CallsIn Fence.wide n Tryz.prog 120 #[.func (.yield l) #[] #[], .pointer (some ⟨bo, 0, none⟩), .pointer (some ⟨bz, 0, none⟩)] W fun e W' => (∃ v, e = .returned v) ∧
      ((∃ xs : List (Value × List Nat), xs.map (·.2) = pcs bs size k ∧ J xs W') ∨ (∃ pre : List (Value × List Nat), (pre.map (·.2) = pcs bs size pre.length ∧ 0 < pre.length ∧ pre.length ≤ k) ∧ Jx pre W')) := by
  have h8 := hI.by8
  refine callsIn_of_wp Tryz.func120 rfl trivial ?_ rfl
  simp only [Tryz.ntmps120, List.size_toArray, List.length_cons, List.length_nil, Nat.reduceAdd, Nat.reduceSub, Array.replicate_succ, Array.replicate_zero, List.push_toArray, List.append_toArray, List.nil_append, List.cons_append]
  have hco := cell_of_row W bo 0 _ _ (0, 0) hbo
  gi_wp2_with fail
  refine ⟨trivial, ?_⟩
  refine (callsIn_wide.2 (clone_any v bs W hI (by omega))).mono ?_
  rintro e W1 ⟨v1, rfl, R1, B1⟩
  have J1 : J [] W1 := hAJ [] W W1 none h0 (below_none B1) (fun r e => nomatch e)
  have hz1 := (B1.block bz (Array.getElem?_eq_some_iff.1 hbz).1).trans hbz
  obtain ⟨ap, cap, hv1, hcp, hap⟩ : ∃ ap cap, v1 = .slice ap bs.length cap ∧ bs.length ≤ cap ∧ (0 < k → ∃ g cur, ap = some ⟨g, 0, none⟩ ∧ W.heap.size ≤ g ∧ W1.heap[g]? = some (.cells cur 5 (0, 0)) ∧ bs.length ≤ cur.size ∧ ∀ j, j < bs.length → cur[j]? = some (.int .u8 (bs.getD j 0 : Nat))) := by
    rcases R1.2 with ⟨rfl, h0⟩ | ⟨g, cap, cur, rfl, hb, hg, hnc, hm, hcs, htk⟩
    · exact ⟨none, 0, by rw [h0], by omega, fun h => by have := Nat.mul_pos h hsz; omega⟩
    · refine ⟨_, cap, rfl, hnc, fun _ => ⟨g, cur, rfl, hb, hg, by omega, fun j hj => ?_⟩⟩
      have h1 := congrArg (·[j]?) htk
      simp only [List.getElem?_take] at h1
      rw [if_pos (by omega)] at h1
      rw [← Array.getElem?_toList, h1, cellsB, List.getElem?_map, List.getElem?_eq_getElem hj, List.getD_eq_getElem?_getD, List.getElem?_eq_getElem hj]
      rfl
  subst hv1
  clear hco hbo hI R1
  gi_wp2_with fail
  have HAP := hid hap
  have hks : 0 < k → size ≤ k * size := fun h => by have := Nat.mul_le_mul_right size h; omega
  rw [hk] at hcp
  clear hap
  gi_loopw [4] (fun r wr => ∃ (t : Nat) (ys : List (Value × List Nat)) (aq : Option Addr), t ≤ k ∧ r = .slice aq (k * size - t * size) (cap - t * size) ∧ ys.map (·.2) = pcs bs size t ∧ J ys wr ∧ wr.heap[bz]? = some (.cells #[.int .i64 (size : Nat)] 3 (0, 0)) ∧ (t < k → ∃ g cur, aq = some ⟨g, t * size, none⟩ ∧ W.heap.size ≤ g ∧ wr.heap[g]? = some (.cells cur 5 (0, 0)) ∧ k * size ≤ cur.size ∧ ∀ j, t * size ≤ j → j < k * size → cur[j]? = some (.int .u8 (bs.getD j 0 : Nat))))
    (fun r _ => lenS r)
  case atStart =>
    refine ⟨0, [], ap, Nat.zero_le _, by simp, rfl, J1, hz1, fun h => ?_⟩
    obtain ⟨g, cur, e1, e2, e3, e4, e5⟩ := HAP.out h
    exact ⟨g, cur, by rw [e1, Nat.zero_mul], e2, e3, by omega, fun j _ hj => e5 j (by omega)⟩
  case round =>
    clear HAP J1 hz1
    obtain ⟨t, ys, aq, ht, rfl, hys, hJ, hz, hg⟩ := hrel
    by_cases hlt : t < k
    · obtain ⟨g, cur, rfl, e2, e3, e4, e5⟩ := hg hlt
      have hts : t * size + size ≤ k * size := by
        have := Nat.mul_le_mul_right size (show t + 1 ≤ k by omega)
        rw [Nat.add_mul, Nat.one_mul] at this
        exact this
      have hyl : ys.length = t := by have := congrArg List.length hys; simpa [pcs_length] using this
      obtain ⟨L, hL⟩ : ∃ L, k * size - t * size = L := ⟨_, rfl⟩
      obtain ⟨C, hC⟩ : ∃ C, cap - t * size = C := ⟨_, rfl⟩
      have hxl : ((bs.drop (t * size)).take size).length = size := by rw [List.length_take, List.length_drop, hk]; omega
      have hM : MP size W.heap.size (.slice (some ⟨g, t * size, none⟩) size size, (bs.drop (t * size)).take size) wr := by
        refine ⟨g, t * size, cur, rfl, e2, e3, by omega, hxl, fun z hz => h8 z (List.mem_of_mem_drop (List.mem_of_mem_take hz)), fun j hj => ?_⟩
        rw [e5 _ (by omega) (by omega)]
        congr 3
        rw [List.getD_eq_getElem?_getD, List.getD_eq_getElem?_getD, List.getElem?_take, if_pos hj, List.getElem?_drop]
      obtain ⟨fn, tmps, assign, body, hy, hR⟩ := hY ys _ wr hJ hM (by omega)
      dsimp only at hy
      have hcz := cell_of_row wr bz 0 _ _ (0, 0) hz
      have hL0 : (0 : Int) < (L : Int) := by omega
      have hsC : size ≤ C := by omega
      have hsL : size ≤ L := by omega
      have HX := hid (And.intro hz (And.intro e3 (And.intro e4 e5)))
      have HL := hid (And.intro hL hC)
      rw [hL, hC]
      clear hz e3 e4 e5 hL hC hM hg
      gi_wp2
      refine hR.mono ?_
      rintro e W3 (⟨rfl, hJ3, hk3⟩ | ⟨rfl, hJx3⟩)
      · have hz3 := hk3.1 bz (.inr rfl) _ _ _ HX.out.1
        obtain ⟨cur', h1, h2, h3⟩ := hk3.2 g (t * size) rfl cur HX.out.2.1
        have hcz := cell_of_row W3 bz 0 _ _ (0, 0) hz3
        have HY := hid (And.intro hz3 (And.intro h1 (And.intro h2 h3)))
        clear hz3 h1 h2 h3 hk3
        gi_wp2
        have e1 : (t + 1) * size = t * size + size := by rw [Nat.add_mul, Nat.one_mul]
        have hL1 := HL.out.1
        have hC1 := HL.out.2
        refine ⟨⟨t + 1, ys ++ [(.slice (some ⟨g, t * size, none⟩) size size, (bs.drop (t * size)).take size)], _, by omega, by rw [e1, ← Nat.sub_sub, ← Nat.sub_sub, hL1, hC1], by rw [List.map_append, hys, pcs_succ]; rfl, hJ3, HY.out.1, fun h => ?_⟩, by simp [lenS]; omega⟩
        have h2 := Nat.mul_le_mul_right size (show t + 2 ≤ k by omega)
        rw [Nat.add_mul] at h2
        refine ⟨g, cur', by rw [if_neg (by omega), e1], e2, HY.out.2.1, by rw [HY.out.2.2.1]; exact HX.out.2.2.1, fun j hj hj2 => ?_⟩
        rw [HY.out.2.2.2 j (by omega)]
        exact HX.out.2.2.2 j (by omega) hj2
      · gi_wp2
        refine bodyPost_ret (results_none rfl _ _ _) rfl ?_
        exact ⟨⟨_, rfl⟩, .inr ⟨_, ⟨by rw [List.map_append, hys, List.length_append, hyl, List.length_singleton, pcs_succ]; rfl, by simp, by simp; omega⟩, hJx3⟩⟩
    · obtain rfl : t = k := by omega
      rw [Nat.sub_self]
      gi_wp2
      go_end0
      exact ⟨⟨_, rfl⟩, .inl ⟨_, hys, hJ⟩⟩
end Go.Proofs.YtpaamhmighgjeaaGreat

/- ssz's Split: its answer. -/
namespace Go.Proofs.YtpaamhmighgjeaaGreat
open Go.RowKit Go.Shelf
set_option linter.unusedVariables false

set_option maxRecDepth 100000 in
set_option maxHeartbeats 2000000 in
theorem split_ok (v : Value) (bs : List Nat) (size k : Nat) (limit : Int) (w : World) (hI : IsB w v bs) (hsz : 0 < size) (hk : bs.length = k * size) (hlen : bs.length ≤ 1099511627776) (hkl : (k : Int) ≤ limit) (hs : size ≤ 9223372036854775807) :
    Calls Tryz.prog 109 #[v, .int .i64 (size : Nat), .int .i64 limit] w fun x w' => ∃ u bo bz, x = .returned (.tuple #[.func (.func 120) #[] #[.pointer (some ⟨bo, 0, none⟩), .pointer (some ⟨bz, 0, none⟩)], .int .i64 0]) ∧ w.heap.size ≤ bo ∧ w.heap.size ≤ bz ∧
      w'.heap[bo]? = some (.cells #[u] 39 (0, 0)) ∧ w'.heap[bz]? = some (.cells #[.int .i64 (size : Nat)] 3 (0, 0)) ∧ IsB w' u bs ∧ Below w.heap.size w w' := by
  have HI := hid hI
  obtain ⟨⟨ao, cap, rfl, _⟩, h8⟩ := hI
  have h1 : ¬ (size : Int) < 1 := by omega
  have h0 : (size : Int) ≠ 0 := by omega
  have hq : ¬ limit < (k : Int) * (size : Int) / (size : Int) := by rw [Int.mul_ediv_cancel _ h0]; omega
  go_enter Tryz.func109, Tryz.ntmps109
  go_wp2_with fail
  have B1 : Below w.heap.size w (w.alloc (.cells #[.int .i64 (size : Nat)] 3)) := (Below.refl _ w).alloc (Nat.le_refl _) _
  have H1 := heap_alloc_new w (.cells #[.int .i64 (size : Nat)] 3)
  have S1 := World.size_alloc w (.cells #[.int .i64 (size : Nat)] 3)
  generalize w.alloc (.cells #[.int .i64 (size : Nat)] 3) = w1 at B1 H1 S1 ⊢
  have HC := hid (clone_any _ bs w1 (HI.out.keep B1) (by omega))
  rw [hk] at HC
  refine HC.out.mono ?_
  rintro e w2 ⟨u, rfl, R2, B2⟩
  have H2 := (B2.block _ (by omega)).trans H1
  have I2 : IsB w2 u bs := R2.isB h8
  obtain ⟨ao2, cap2, rfl⟩ : ∃ ao2 cap2, u = .slice ao2 bs.length cap2 := by obtain ⟨⟨a, c, e, _⟩, _⟩ := I2; exact ⟨a, c, e⟩
  rw [hk] at I2
  have HX := hid (And.intro H2 (And.intro I2 (below_more B1 B2 (Nat.le_refl _))))
  have s2 := B2.size
  clear H1 B1 R2 B2 H2 I2 HC
  go_wp2_with fail
  have BA : Below w2.heap.size w2 (w2.alloc (.cells #[.slice ao2 (k * size) cap2] 39)) := (Below.refl _ w2).alloc (Nat.le_refl _) _
  have HA := heap_alloc_new w2 (.cells #[.slice ao2 (k * size) cap2] 39)
  refine bodyPost_ret (v := .tuple #[.func (.func 120) #[] #[.pointer (some ⟨w2.heap.size, 0, none⟩), .pointer (some ⟨w.heap.size, 0, none⟩)], .int .i64 0]) (by simp [results, Tryz.results109, go_sem]) rfl ?_
  exact ⟨_, w2.heap.size, w.heap.size, rfl, by omega, Nat.le_refl _, HA, (BA.block _ (by omega)).trans HX.out.1, HX.out.2.1.keep BA, below_more HX.out.2.2 BA (by omega)⟩
set_option maxRecDepth 100000 in
set_option maxHeartbeats 2000000 in
theorem split_bad (v : Value) (bs : List Nat) (size limit : Int) (w : World) (hI : IsB w v bs) (hlen : bs.length ≤ 1099511627776) (h64 : -9223372036854775808 ≤ size ∧ size ≤ 9223372036854775807) (hbad : size < 1 ∨ ((bs.length : Int).tmod size ≠ 0) ∨ limit < (bs.length : Int).tdiv size) :
    Calls Tryz.prog 109 #[v, .int .i64 size, .int .i64 limit] w fun x w' => x = .returned (.tuple #[.nilFunc, .int .i64 3]) ∧ Below w.heap.size w w' := by
  obtain ⟨⟨ao, cap, rfl, _⟩, h8⟩ := hI
  by_cases h1 : size < 1
  · go_enter Tryz.func109, Tryz.ntmps109
    go_wp2_with fail
    refine bodyPost_ret (v := .tuple #[.nilFunc, .int .i64 3]) (by simp [results, Tryz.results109, go_sem]) rfl ?_
    exact ⟨rfl, (Below.refl _ w).alloc (Nat.le_refl _) _⟩
  · have h0 : size ≠ 0 := by omega
    obtain ⟨s, rfl⟩ : ∃ s : Nat, size = (s : Int) := ⟨size.toNat, by omega⟩
    by_cases h2 : ((bs.length : Int) % (s : Int)) = 0
    · have h3 : limit < (bs.length : Int) / (s : Int) := by
        rcases hbad with h | h | h
        · exact absurd h h1
        · rw [Int.tmod_eq_emod_of_nonneg (by omega)] at h; exact absurd h2 h
        · rwa [Int.tdiv_eq_ediv_of_nonneg (by omega)] at h
      have hb : 0 ≤ (bs.length : Int) / (s : Int) ∧ (bs.length : Int) / (s : Int) ≤ 1099511627776 := ⟨Int.ediv_nonneg (by omega) (by omega), Int.le_trans (Int.ediv_le_self _ (by omega)) (by omega)⟩
      go_enter Tryz.func109, Tryz.ntmps109
      go_wp2_with fail
      refine bodyPost_ret (v := .tuple #[.nilFunc, .int .i64 3]) (by simp [results, Tryz.results109, go_sem]) rfl ?_
      exact ⟨rfl, (Below.refl _ w).alloc (Nat.le_refl _) _⟩
    · go_enter Tryz.func109, Tryz.ntmps109
      go_wp2_with fail
      refine bodyPost_ret (v := .tuple #[.nilFunc, .int .i64 3]) (by simp [results, Tryz.results109, go_sem]) rfl ?_
      exact ⟨rfl, (Below.refl _ w).alloc (Nat.le_refl _) _⟩
end Go.Proofs.YtpaamhmighgjeaaGreat

/- A function held against nil. -/
namespace Go.Proofs.YtpaamhmighgjeaaGreat
open Go.RowKit Go.Shelf
set_option linter.unusedVariables false
theorem eqF_some {P : Program} (t : TypeId) (d : TypeDesc) (hd : P.underlying t = some d) (hf : ∃ a b c, d = .func a b c) (f : Nat) (l : Array Value) (w : World) : (binOp .eql t (.func (.func f) #[] l) .nilFunc).run P w = .ok (.bool false) w := by
  obtain ⟨a, b, c, rfl⟩ := hf
  have h : (Op.equalIn 10000 t (.func (.func f) #[] l) .nilFunc).run P w = .ok false w := by
    show (Op.equalIn (9999 + 1) t _ _).run P w = _
    unfold Op.equalIn
    simp only [Sem.run_bind, run_underlying hd, Result.andThen_ok, Sem.run_pure]
  show ((Op.equal t _ _ >>= fun r => pure (Value.bool r) : Sem Value)).run P w = _
  simp only [Op.equal, Op.maxDepth, Sem.run_bind, h, Result.andThen_ok, Sem.run_pure]
theorem eqF_none {P : Program} (t : TypeId) (d : TypeDesc) (hd : P.underlying t = some d) (hf : ∃ a b c, d = .func a b c) (w : World) : (binOp .eql t .nilFunc .nilFunc).run P w = .ok (.bool true) w := by
  obtain ⟨a, b, c, rfl⟩ := hf
  have h : (Op.equalIn 10000 t .nilFunc .nilFunc).run P w = .ok true w := by
    show (Op.equalIn (9999 + 1) t _ _).run P w = _
    unfold Op.equalIn
    simp only [Sem.run_bind, run_underlying hd, Result.andThen_ok, Sem.run_pure]
  show ((Op.equal t _ _ >>= fun r => pure (Value.bool r) : Sem Value)).run P w = _
  simp only [Op.equal, Op.maxDepth, Sem.run_bind, h, Result.andThen_ok, Sem.run_pure]
theorem eqSeq_some (f : Nat) (l : Array Value) (w : World) : (binOp .eql 175 (.func (.func f) #[] l) .nilFunc).run Tryz.prog w = .ok (.bool false) w := eqF_some _ _ Tryz.underlying175 ⟨_, _, _, rfl⟩ f l w
theorem eqSeq_none (w : World) : (binOp .eql 175 .nilFunc .nilFunc).run Tryz.prog w = .ok (.bool true) w := eqF_none _ _ Tryz.underlying175 ⟨_, _, _, rfl⟩ w
end Go.Proofs.YtpaamhmighgjeaaGreat

/- Lengths of parts, and numbers as bytes: there and back. -/
namespace Go.Proofs.YtpaamhmighgjeaaGreat
open Go.RowKit
set_option linter.unusedVariables false
/-- What parts are joined to. -/
def joinB (bss : List (List Nat)) : List Nat := cont (bss.map fun b => (b, true))
def lenB (bss : List (List Nat)) : Nat := (bss.map List.length).sum
theorem lenB_F (bss : List (List Nat)) : lenF (bss.map fun b => (b, true)) = lenB bss := by
  unfold lenF lenB
  rw [List.map_map]; rfl
theorem lenB_take (bss : List (List Nat)) (k : Nat) : lenB (bss.take k) ≤ lenB bss := by
  have := lenF_take (bss.map fun b => (b, true)) k
  rw [← List.map_take, lenB_F, lenB_F] at this
  exact this
theorem lenB_mem {bss : List (List Nat)} {i : Nat} {x : List Nat} (h : bss[i]? = some x) : x.length ≤ lenB bss := by
  have h1 := lenB_take bss (i + 1)
  have hi := (List.getElem?_eq_some_iff.1 h).1
  rw [List.take_succ_eq_append_getElem hi] at h1
  rw [List.getElem?_eq_getElem hi] at h
  cases h
  have e : ∀ (a : List (List Nat)) (b : List Nat), lenB (a ++ [b]) = lenB a + b.length := fun a b => by simp [lenB]
  rw [e] at h1
  omega

theorem le_putL (x k : Nat) : ((le x k).map fun n : Nat => (n : Int)) = putL x k := by
  simp [le, putL, byteAt]
theorem tk_le (x k : Nat) (hk : k ≤ 8) : tk (le x k) = x % 256 ^ k := by
  unfold tk takeV
  rw [le_putL, List.take_of_length_le (by rw [putL_length]; omega), takeL_put]
theorem tk_le4 (x : Nat) (h : x < 4294967296) : tk (le x 4) = x := by
  rw [tk_le x 4 (by decide)]
  exact Nat.mod_eq_of_lt h
theorem lenB_cons (b : List Nat) (r : List (List Nat)) : lenB (b :: r) = b.length + lenB r := by simp [lenB]
theorem lenB_flat (bss : List (List Nat)) : bss.flatten.length = lenB bss := by
  induction bss with
  | nil => rfl
  | cons b r ih => rw [List.flatten_cons, List.length_append, ih, lenB_cons]
theorem back_flat (bss : List (List Nat)) : backB (bss.map fun b => (b, true)) = bss.flatten := by
  induction bss with
  | nil => rfl
  | cons b r ih =>
    rw [List.map_cons, List.flatten_cons, ← ih]
    simp [backB]
theorem front_at (rest : List Nat) : ∀ (bss : List (List Nat)) (p j : Nat), j < bss.length → ((frontB p (bss.map fun b => (b, true)) ++ rest).drop (4 * j)).take 4 = le (p + lenB (bss.take j)) 4
  | [], p, j, h => by simp at h
  | b :: r, p, 0, h => by
    rw [List.map_cons, frontB]
    simp only [if_true, List.append_assoc, Nat.mul_zero, List.drop_zero, List.take_zero]
    rw [List.take_append_of_le_length (by rw [le_length]; exact Nat.le_refl _), List.take_of_length_le (by rw [le_length]; exact Nat.le_refl _)]
    rfl
  | b :: r, p, j + 1, h => by
    rw [List.map_cons, frontB]
    simp only [if_true, List.append_assoc]
    have h4 : (le p 4).length = 4 := le_length _ _
    rw [show 4 * (j + 1) = (le p 4).length + 4 * j by rw [h4]; omega, List.drop_append, List.take_succ_cons, lenB_cons]
    have e : List.drop ((le p 4).length + 4 * j) (le p 4) = [] := List.drop_eq_nil_of_le (by omega)
    rw [e, List.nil_append, show (le p 4).length + 4 * j - (le p 4).length = 4 * j by omega, front_at rest r (p + b.length) j (by simpa using h), Nat.add_assoc]
theorem flat_part : ∀ (bss : List (List Nat)) (i : Nat) (x : List Nat), bss[i]? = some x → (bss.flatten.drop (lenB (bss.take i))).take x.length = x
  | [], i, x, h => by simp at h
  | b :: r, 0, x, h => by
    simp at h
    subst h
    simp [lenB]
  | b :: r, i + 1, x, h => by
    rw [List.take_succ_cons, lenB_cons, List.flatten_cons, List.drop_append, List.drop_eq_nil_of_le (by omega), List.nil_append, show b.length + lenB (r.take i) - b.length = lenB (r.take i) by omega]
    exact flat_part r i x (by simpa using h)
theorem lenB_succ (bss : List (List Nat)) (i : Nat) (x : List Nat) (h : bss[i]? = some x) : lenB (bss.take (i + 1)) = lenB (bss.take i) + x.length := by
  have hi := (List.getElem?_eq_some_iff.1 h).1
  rw [List.getElem?_eq_getElem hi] at h
  cases h
  rw [List.take_succ_eq_append_getElem hi]
  have e : ∀ (a : List (List Nat)) (b : List Nat), lenB (a ++ [b]) = lenB a + b.length := fun a b => by simp [lenB]
  exact e _ _
end Go.Proofs.YtpaamhmighgjeaaGreat

/- A list's number taken. -/
namespace Go.Proofs.YtpaamhmighgjeaaGreat
open Go.RowKit Go.Shelf
set_option linter.unusedVariables false
set_option linter.unusedSimpArgs false
set_option maxRecDepth 100000

theorem takeNum_any {g : Nat} {S : Nat → Prop} {bs : List Nat} {size : Nat} {ps : List Nat} (s : Rs) (w : World) (h : Rd w g S bs size s.1 ps s.2) (hs : size ≤ 4611686018427387904) (hl : bs.length ≤ 140737488355328) :
    Calls Tryz.prog 70 #[.pointer (some ⟨g, 0, none⟩)] w fun e w' => e = .returned (.int .u64 (numAt bs size s : Nat)) ∧ Rd w' g S bs size (fixS size 8 s).1 ps (fixS size 8 s).2 ∧ w.grownBy w' (some g) := by
  have HN := hid (rnumS s w h hs hl)
  go_enter Tryz.func70, Tryz.ntmps70
  go_wp2_with fail
  refine HN.out.mono ?_
  rintro e w2 ⟨rfl, q1, q2⟩
  have X := hid (And.intro q1 q2)
  clear q1 q2
  obtain ⟨n, hn⟩ : ∃ n, numAt bs size s = n := ⟨_, rfl⟩
  rw [hn]
  have hn := hid hn
  go_wp2
  refine bodyPost_ret (v := .int .u64 (n : Nat)) (by simp [results, Tryz.results70, go_sem]) rfl ⟨by rw [hn.out], X.out⟩
theorem answerN_any (n : Nat) (w : World) : Calls Tryz.prog 106 #[.int .u64 (n : Nat), .bool true] w fun e w' => e = .returned (.tuple #[.int .u64 (n : Nat), .int .i64 0]) ∧ w' = w := by
  go_enter Tryz.func106, Tryz.ntmps106
  go_wp2
  refine bodyPost_ret (v := .tuple #[.int .u64 (n : Nat), .int .i64 0]) (by simp [results, Tryz.results106, go_sem]) rfl ⟨rfl, rfl⟩
theorem fixN8 : fixS 8 8 (0, false) = (8, false) := rfl
theorem numAt8 (xb : List Nat) (h8 : xb.length = 8) : numAt xb 8 (0, false) = tk xb := by
  show tk (fixB xb 8 0 8 false) = tk xb
  simp [fixB, fixW, List.take_of_length_le (Nat.le_of_eq h8)]
theorem takeN8 {g : Nat} {S : Nat → Prop} (xb : List Nat) (w : World) (h : Rd w g S xb 8 0 [] false) (h8 : xb.length = 8) :
    Calls Tryz.prog 70 #[.pointer (some ⟨g, 0, none⟩)] w fun e w' => e = .returned (.int .u64 (tk xb : Nat)) ∧ Rd w' g S xb 8 8 [] false ∧ w.grownBy w' (some g) := by
  refine (takeNum_any (0, false) w h (by decide) (by omega)).mono ?_
  rintro e w' ⟨q1, q2, q3⟩
  rw [numAt8 xb h8] at q1
  rw [fixN8] at q2
  exact ⟨q1, q2, q3⟩
theorem read8 (v : Value) (xb : List Nat) (w : World) (hI : IsB w v xb) (h8 : xb.length = 8) :
    Calls Tryz.prog 31 #[v, .int .i64 8] w fun e w' => ∃ g S, w.heap.size ≤ g ∧ e = .returned (.pointer (some ⟨g, 0, none⟩)) ∧ Rd w' g S xb 8 0 [] false ∧ Below w.heap.size w w' := by
  refine (read_any v xb 8 w hI (by decide) (by omega)).mono ?_
  rintro e w' ⟨g, S, hg, q0, q1, q2, q3⟩
  rw [show decide (xb.length < 8) = false by simp; omega] at q1
  exact ⟨g, S, hg, q0, q1, q3⟩
theorem parts8 {g : Nat} {S : Nat → Prop} (xb : List Nat) (w : World) (h : Rd w g S xb 8 8 [] false) (h8 : xb.length = 8) :
    Calls Tryz.prog 35 #[.pointer (some ⟨g, 0, none⟩)] w fun e w' => ∃ u, e = .returned (.tuple #[u, .bool true]) ∧ Below w.heap.size w w' := by
  refine (parts_ok w h (fun _ => h8) (by intro i hi; simp at hi) (by decide) (by omega) (by simp)).mono ?_
  rintro e w' ⟨u, q, _, B⟩
  exact ⟨u, q, B⟩
theorem decN_any (v : Value) (xb : List Nat) (w : World) (hI : IsB w v xb) (h8 : xb.length = 8) :
    Calls Tryz.prog 69 #[v, .int .i64 8, .func (.func 70) #[] #[]] w fun e w' => e = .returned (.tuple #[.int .u64 (tk xb : Nat), .int .i64 0]) ∧ Below w.heap.size w w' := by
  have HC := hid (read8 v xb w hI h8)
  obtain ⟨⟨ao, cap, rfl, _⟩, _⟩ := hI
  have H8 := hid h8
  clear h8
  obtain ⟨n, hn0⟩ : ∃ n, tk xb = n := ⟨_, rfl⟩
  rw [hn0]
  have hn := hid hn0
  clear hn0
  go_enter Tryz.func69, Tryz.ntmps69
  go_wp2_with fail
  refine HC.out.mono ?_
  rintro e w2 ⟨g, S, hg, rfl, q1, q3⟩
  have HT := hid (takeN8 xb w2 q1 H8.out)
  have HB2 := hid q3
  have s2 := q3.size
  clear q1 q3 HC
  rw [hn.out] at HT
  go_wp2_with fail
  refine HT.out.mono ?_
  rintro e w3 ⟨rfl, q1, q2⟩
  have HP := hid (parts8 xb w3 q1 H8.out)
  have HB3 : Hid (Below w.heap.size w w3) := hid ⟨q2.os.trans HB2.out.os, q2.tape.trans HB2.out.tape, q2.output.trans HB2.out.output, Nat.le_trans HB2.out.size q2.size, fun j hj => (q2.block j (by omega) (fun h => by have := Option.some.inj h; omega)).trans (HB2.out.block j hj)⟩
  clear q1 q2 HT HB2
  go_wp2_with fail
  refine HP.out.mono ?_
  rintro e w4 ⟨u, rfl, B4⟩
  have HB4 := hid (below_more HB3.out B4 (Nat.le_refl _))
  clear B4 HB3 HP
  go_wp2_with fail
  refine (answerN_any n w4).mono ?_
  rintro e w5 ⟨rfl, rfl⟩
  go_wp2
  refine bodyPost_ret (v := .tuple #[.int .u64 (n : Nat), .int .i64 0]) (by simp [results, Tryz.results69, go_sem]) rfl ⟨rfl, HB4.out⟩
theorem num2_any (v : Value) (xb : List Nat) (w : World) (hI : IsB w v xb) (h8 : xb.length = 8) :
    Calls Tryz.prog 68 #[v] w fun e w' => e = .returned (.tuple #[.int .u64 (tk xb : Nat), .int .i64 0]) ∧ Below w.heap.size w w' := by
  have HD := hid (decN_any v xb w hI h8)
  obtain ⟨⟨ao, cap, rfl, _⟩, _⟩ := hI
  obtain ⟨n, hn0⟩ : ∃ n, tk xb = n := ⟨_, rfl⟩
  rw [hn0] at HD ⊢
  clear hn0 h8
  go_enter Tryz.func68, Tryz.ntmps68
  go_wp2_with fail
  refine HD.out.mono ?_
  rintro e w5 ⟨rfl, B⟩
  have HB := hid B
  clear B
  go_wp2
  refine bodyPost_ret (v := .tuple #[.int .u64 (n : Nat), .int .i64 0]) (by simp [results, Tryz.results68, go_sem]) rfl ⟨rfl, HB.out⟩
/-- A list of numbers of at most so many. -/
def lsN (limit : Int) : List Value := [.int .i64 8, .int .i64 limit, .func (.func 65) #[] #[], .func (.func 68) #[] #[]]
theorem Tryz.ty89 : Ty Tryz.prog 89 [.int .i64 0, .int .i64 0, .nilFunc, .nilFunc] := ⟨by kernel_rfl, _, Tryz.underlying89, rfl⟩
theorem lsN_one (limit : Int) : (lsN limit).toArray.all (·.oneCell') = true := by simp [lsN, Value.oneCell']
end Go.Proofs.YtpaamhmighgjeaaGreat

/- Lists of numbers put: encode[uint64], List[uint64].put, numbers. -/
namespace Go.Proofs.YtpaamhmighgjeaaGreat
open Go.RowKit Go.Shelf
set_option linter.unusedVariables false
set_option linter.unusedSimpArgs false
set_option maxRecDepth 100000

/-- A slice of numbers. -/
structure IsN (w : World) (v : Value) (ns : List Nat) : Prop where
  ex : ∃ ao cap, v = .slice ao ns.length cap ∧ ns.length ≤ cap ∧ cap ≤ maxLen ∧ (ns.length = 0 ∨ ∃ b off, ao = some ⟨b, off, none⟩ ∧ ∀ i, i < ns.length → w.cell? ⟨b, off + i, none⟩ = some (.int .u64 (ns.getD i 0 : Nat)))
  by64 : ∀ n ∈ ns, n < 18446744073709551616
theorem IsN.keep {w w' : World} {v : Value} {ns : List Nat} (h : IsN w v ns) (hb : Below w.heap.size w w') : IsN w' v ns := by
  obtain ⟨⟨ao, cap, e, h1, h2, h3⟩, h4⟩ := h
  refine ⟨⟨ao, cap, e, h1, h2, ?_⟩, h4⟩
  rcases h3 with h3 | ⟨b, off, e2, hc⟩
  · exact .inl h3
  · exact .inr ⟨b, off, e2, fun i hi => (World.cell?_of_block (hb.block b (block_lt_of_cell (hc i hi)))).trans (hc i hi)⟩
/-- The bytes of numbers. -/
def bytesN (ns : List Nat) : List Nat := (ns.map fun n => le n 8).flatten
theorem cont_fixed : ∀ fs : List (List Nat × Bool), (∀ f ∈ fs, f.2 = false) → cont fs = (fs.map (·.1)).flatten := by
  intro fs h
  have hb : backB fs = [] := by
    unfold backB
    rw [List.flatMap_eq_nil_iff]
    intro f hf
    rw [h f hf]
    rfl
  have hf : ∀ (fs : List (List Nat × Bool)) (p : Nat), (∀ f ∈ fs, f.2 = false) → frontB p fs = (fs.map (·.1)).flatten := by
    intro fs
    induction fs with
    | nil => intro p _; rfl
    | cons f fs ih =>
      intro p h
      have h1 := h f (by simp)
      simp only [frontB, h1, List.map_cons, List.flatten_cons]
      simp only [Bool.false_eq_true, if_false]
      rw [ih _ (fun x hx => h x (List.mem_cons_of_mem _ hx))]
  unfold cont
  rw [hb, hf fs _ h, List.append_nil]
theorem cont_numF (ns : List Nat) : cont (numF ns) = bytesN ns := by
  rw [cont_fixed _ (by intro f hf; simp only [numF, List.mem_map] at hf; obtain ⟨n, _, rfl⟩ := hf; rfl)]
  simp [numF, bytesN, List.map_map, Function.comp_def]
theorem bytesN_length (ns : List Nat) : (bytesN ns).length = 8 * ns.length := by
  unfold bytesN
  induction ns with
  | nil => rfl
  | cons n ns ih => simp only [List.map_cons, List.flatten_cons, List.length_append, ih, le_length, List.length_cons]; omega
theorem bytesN_byte (ns : List Nat) : ∀ z ∈ bytesN ns, z < 256 := by
  intro z hz
  unfold bytesN at hz
  simp only [List.mem_flatten, List.mem_map] at hz
  obtain ⟨l, ⟨n, _, rfl⟩, h⟩ := hz
  exact le_byte n 8 z h
theorem lenF_numF (ns : List Nat) : lenF (numF ns) = 8 * ns.length := by
  induction ns with
  | nil => rfl
  | cons n ns ih => simp only [numF, lenF, List.map_cons, List.flatten_cons, List.length_append, List.sum_cons, le_length, List.length_cons] at ih ⊢; omega

set_option maxHeartbeats 1000000 in
theorem putN_any (g : Nat) (S : Nat → Prop) (fs : List (List Nat × Bool)) (n : Nat) (w : World) (hW : Wr w g S fs) (hfs : fs.length + 1 < 2147483647) (hn : n < 18446744073709551616) :
    Calls Tryz.prog 67 #[.pointer (some ⟨g, 0, none⟩), .int .u64 (n : Nat)] w fun x w' => (∃ u, x = .returned u) ∧ Wr w' g (more S w w') (fs ++ numF [n]) ∧ w.grownBy w' (some g) := by
  have hg := hW.gt
  have hS := hW.out
  have hl := hW.lt
  have hW0 : Wr w g (more S w w) fs := hW.grow (fun k a => .inl a) (fun a => by rcases a with a | a; exact hS a; omega) (fun k a => by rcases a with a | a; exact hl k a; omega)
  have HW := hid hW0
  clear hW hW0
  go_enter Tryz.func67, Tryz.ntmps67
  go_wp2_with fail
  have B2 : Below w.heap.size w (w.alloc (.cells #[.int .u64 (n : Nat)] 23)) := (Below.refl _ w).alloc (Nat.le_refl _) _
  have H2 := heap_alloc_new w (.cells #[.int .u64 (n : Nat)] 23)
  have S2 := World.size_alloc w (.cells #[.int .u64 (n : Nat)] 23)
  generalize w.alloc (.cells #[.int .u64 (n : Nat)] 23) = w2 at B2 H2 S2 ⊢
  have W2 := hid (HW.out.start B2 hg hS hl (Nat.le_refl _))
  have HC := hid (num_wr g (more S w w2) fs [n] w.heap.size 0 1 w2 W2.out (by omega) (by simp; omega) (by simpa using hn) (fun i hi => by
    have : i = 0 := by simpa using hi
    subst this
    exact cell_of_row w2 _ 0 _ _ (0, 0) H2) (by simp))
  have HB := hid B2
  clear B2 H2
  refine HC.out.mono ?_
  rintro x w3 ⟨⟨u3, rfl⟩, q1, q2⟩
  have W3 := hid (Wr.next hg hS hl (by omega) q2.size q1)
  have G3 := hid (grown_trans (grown_below (grown_refl w g) HB.out) q2)
  clear q1 q2 HC W2 HB
  go_wp2
  go_end0
  exact ⟨⟨_, rfl⟩, W3.out, G3.out⟩
set_option maxHeartbeats 1000000 in
theorem encN_any (n : Nat) (w : World) (hn : n < 18446744073709551616) :
    Calls Tryz.prog 66 #[.int .u64 (n : Nat), .func (.func 67) #[] #[]] w fun x w' => ∃ v, x = .returned v ∧ Row w' w.heap.size v (le n 8) ∧ Below w.heap.size w w' := by
  have HPT := hid (fun g S fs w hW hl => putN_any g S fs n w hW hl hn)
  go_enter Tryz.func66, Tryz.ntmps66
  go_wp2_with fail
  have W1 := wr_new w
  have B1 : Below w.heap.size w (w.alloc (.cells #[.int .i64 0, .pointer none] 84)) := (Below.refl _ w).alloc (Nat.le_refl _) _
  have S1 := World.size_alloc w (.cells #[.int .i64 0, .pointer none] 84)
  generalize w.alloc (.cells #[.int .i64 0, .pointer none] 84) = w1 at W1 B1 S1 ⊢
  have HC := hid (HPT.out w.heap.size _ [] w1 W1 (by simp))
  have HB1 := hid B1
  clear B1 W1 HPT
  refine HC.out.mono ?_
  rintro x w3 ⟨⟨u3, rfl⟩, q1, q2⟩
  have s3 := q2.size
  have HB := hid (bytes_any w.heap.size _ _ w3 q1 (by simp [numF]) (by rw [List.nil_append, lenF_numF]; simp))
  have HB3 : Hid (Below w.heap.size w w3) := hid ⟨q2.os.trans HB1.out.os, q2.tape.trans HB1.out.tape, q2.output.trans HB1.out.output, by omega, fun j hj => (q2.block j (by omega) (fun h => by have := Option.some.inj h; omega)).trans (HB1.out.block j hj)⟩
  clear q1 q2 HC HB1
  go_wp2_with fail
  refine HB.out.mono ?_
  rintro x w4 ⟨v, rfl, q1, q2⟩
  rw [List.nil_append, cont_numF, show bytesN [n] = le n 8 by simp [bytesN]] at q1
  have X := hid (And.intro q1 q2)
  clear q1 q2 HB
  go_wp2
  go_ret
  exact ⟨v, rfl, X.out.1.base (by omega), HB3.out.trans (X.out.2.mono (by omega))⟩
theorem num1_any (n : Nat) (w : World) (hn : n < 18446744073709551616) :
    Calls Tryz.prog 65 #[.int .u64 (n : Nat)] w fun x w' => ∃ v, x = .returned v ∧ Row w' w.heap.size v (le n 8) ∧ Below w.heap.size w w' := by
  have HD := hid (encN_any n w hn)
  go_enter Tryz.func65, Tryz.ntmps65
  go_wp2_with fail
  refine HD.out.mono ?_
  rintro e w5 ⟨v, rfl, R, B⟩
  have HB := hid (And.intro R B)
  clear R B
  go_wp2
  go_ret
  exact ⟨v, rfl, HB.out.1, HB.out.2⟩
theorem eqPut (f : Nat) (l : Array Value) (w : World) : (binOp .eql 86 (.func (.func f) #[] l) .nilFunc).run Tryz.prog w = .ok (.bool false) w := eqF_some _ _ Tryz.underlying86 ⟨_, _, _, rfl⟩ f l w
theorem eqTake (f : Nat) (l : Array Value) (w : World) : (binOp .eql 87 (.func (.func f) #[] l) .nilFunc).run Tryz.prog w = .ok (.bool false) w := eqF_some _ _ Tryz.underlying87 ⟨_, _, _, rfl⟩ f l w
set_option maxHeartbeats 1000000 in
theorem lsN_any (limit : Int) (w : World) : Calls Tryz.prog 26 #[.int .i64 limit] w fun e w' => e = .returned (.agg (lsN limit).toArray) ∧ Below w.heap.size w w' := by
  go_enter Tryz.func26, Tryz.ntmps26
  go_wp2_with ((with_reducible refine at_list' ?_); first
    | (refine wpList_alloc_c Tryz.ty89 rfl 2 rfl rfl ?_; intro w1 H1 B1 S1)
    | (refine wpList_build_c rfl #[(0, .const (.int .i64 8)), (1, .tmp 3), (2, .func 65), (3, .func 68)] rfl #[(0, .int .i64 8), (1, .int .i64 limit), (2, .func (.func 65) #[] #[]), (3, .func (.func 68) #[] #[])] (by simp [Act.eval]) (.agg (lsN limit).toArray) (by kernel_rfl) ?_)
    | (refine wpList_store_c Tryz.ty89 rfl (.tmp 2) (.tmp 4) rfl w.heap.size (lsN limit) rfl rfl rfl (lsN_one limit) _ H1 rfl ?_; intro w2 H2 O2))
  refine bodyPost_ret (results_c1 Tryz.ty89 rfl _ _ w.heap.size (lsN limit) rfl H2 rfl) rfl ?_
  exact ⟨rfl, below_only B1 O2 (Nat.le_refl _)⟩
set_option maxHeartbeats 1000000 in
theorem lput_any (limit : Int) (n : Nat) (w : World) (hn : n < 18446744073709551616) :
    Calls Tryz.prog 71 #[.agg (lsN limit).toArray, .int .u64 (n : Nat)] w fun x w' => ∃ v, x = .returned v ∧ Row w' w.heap.size v (le n 8) ∧ Below w.heap.size w w' := by
  go_enter Tryz.func71, Tryz.ntmps71
  go_wp2_with ((with_reducible refine at_list' ?_); first
    | (refine wpList_box_c rfl 2 rfl (.tmp 0) rfl (lsN limit) rfl ?_; intro w1 H1 B1 S1; have hc2 := H1.cell (j := 2) (v := .func (.func 65) #[] #[]) rfl; have heq := eqPut 65 #[] w1))
  have HD := hid (num1_any n w1 hn)
  have HB := hid B1
  clear H1 B1 hc2 heq
  refine HD.out.mono ?_
  rintro e w5 ⟨v, rfl, R, B⟩
  have HX := hid (And.intro R B)
  clear R B HD
  go_wp2
  go_ret
  exact ⟨v, rfl, HX.out.1.base (by omega), below_more HB.out HX.out.2 (Nat.le_refl _)⟩
set_option maxHeartbeats 1000000 in
theorem ltake_any (limit : Int) (v : Value) (xb : List Nat) (w : World) (hI : IsB w v xb) (h8 : xb.length = 8) :
    Calls Tryz.prog 86 #[.agg (lsN limit).toArray, v] w fun x w' => x = .returned (.tuple #[.int .u64 (tk xb : Nat), .int .i64 0]) ∧ Below w.heap.size w w' := by
  have HD := hid (fun w' (hb : Below w.heap.size w w') => num2_any v xb w' (hI.keep hb) h8)
  obtain ⟨⟨ao, cap, rfl, _⟩, _⟩ := hI
  obtain ⟨n, hn0⟩ : ∃ n, tk xb = n := ⟨_, rfl⟩
  rw [hn0] at HD ⊢
  clear hn0 h8
  go_enter Tryz.func86, Tryz.ntmps86
  go_wp2_with ((with_reducible refine at_list' ?_); first
    | (refine wpList_box_c rfl 2 rfl (.tmp 0) rfl (lsN limit) rfl ?_; intro w1 H1 B1 S1; have hc3 := H1.cell (j := 3) (v := .func (.func 68) #[] #[]) rfl; have heq := eqTake 68 #[] w1))
  have HX := hid B1
  have HD2 := hid (HD.out w1 B1)
  clear H1 B1 hc3 heq HD
  refine HD2.out.mono ?_
  rintro e w5 ⟨rfl, B⟩
  have HB := hid B
  clear B HD2
  go_wp2
  refine bodyPost_ret (v := .tuple #[.int .u64 (n : Nat), .int .i64 0]) (by simp [results, Tryz.results86, go_sem]) rfl ⟨rfl, below_more HX.out HB.out (Nat.le_refl _)⟩
end Go.Proofs.YtpaamhmighgjeaaGreat

