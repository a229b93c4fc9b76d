/- Own texts of the proof, joined: EncG FlowM Lw5Validator PutVl EncVl TakeS TakeVl. -/
import Derived.Test.YtfocalbfefnbnaaH1
/- The document's Encode at parts; the recursion. -/
namespace Go.Proofs.Ytfocalbfefnbnaa
open Go.RowKit
set_option linter.unusedVariables false
set_option maxRecDepth 100000

theorem RowP.form {w : World} {base : Nat} {v : Value} {us : List Value} (h : RowP w base v us) (h0 : 0 < us.length) : ∃ g cap, v = .slice (some ⟨g, 0, none⟩) us.length cap ∧ us.length ≤ cap ∧ cap ≤ maxLen ∧ ∀ (i : Nat) u, us[i]? = some u → w.cell? ⟨g, i, none⟩ = some u := by
  obtain ⟨_, h⟩ := h
  rcases h with ⟨rfl, h1⟩ | ⟨g, cap, cur, rfl, hb, hg, hc, hm, hcs, htk⟩
  · omega
  · refine ⟨g, cap, rfl, hc, hm, fun i u hu => ?_⟩
    have hi := (List.getElem?_eq_some_iff.1 hu).1
    rw [cell_of_row w g i cur _ (0, 0) hg]
    have : (cur.toList.take (us.length * 1))[i]? = us[i]? := by rw [htk]
    rw [List.getElem?_take, if_pos (by omega), Array.getElem?_toList] at this
    rw [this, hu]
theorem RowP.lt {w : World} {base : Nat} {v : Value} {us : List Value} (h : RowP w base v us) (k : Nat) (hk : v.ownBlock = some k) : base ≤ k ∧ k < w.heap.size := World.ownsRow.lt h k hk
theorem RowP.below {w w' : World} {base : Nat} {v : Value} {us : List Value} (h : RowP w base v us) (hb : Below w.heap.size w w') : RowP w' base v us := by
  obtain ⟨hl, h⟩ := h
  refine ⟨hl, ?_⟩
  rcases h with h | ⟨g, cap, cur, rfl, hb', hg', r⟩
  · exact .inl h
  · exact .inr ⟨g, cap, cur, rfl, hb', (hb.block g (Array.getElem?_eq_some_iff.1 hg').1).trans hg', r⟩

set_option maxHeartbeats 1000000 in
theorem enc_none (f num : Nat) (hf : f = 0 ∨ f = 4 ∨ f = 5 ∨ f = 8) (r : List Nat) (sb : Value) (aok : Option Addr) (capk p : Nat) (w : World) (hr : r.length = 32) (d0 : w.cell? ⟨p, 0, none⟩ = some (.int .i64 (f : Nat))) :
    Calls Try.prog 8 #[.pointer (some ⟨p, 0, none⟩), .agg (valL num r sb (.slice aok 0 capk)).toArray] w fun x w' => ∃ v, x = .returned v ∧ Row w' w.heap.size v [] ∧ Below w.heap.size w w' := by
  have HR := hid hr
  clear hr
  rcases hf with rfl | rfl | rfl | rfl
  all_goals
    go_enter Try.func8, Try.ntmps8
    go_wp2_with ((with_reducible refine at_list' ?_); first
      | (refine wpList_box_c rfl 3 rfl (.tmp 1) rfl (valL num r sb (.slice aok 0 capk)) rfl ?_; intro w1 H1 B1 S1; have hc0 := H1.cell (valL_34 num r sb _ HR.out); have d1 := cell_keep B1 d0))
    have HB := hid B1
    have s1 := S1
    clear H1 B1 S1 d0
    go_loopw [5, 6] (fun kd i wr => kd = .slice none 0 0 ∧ i = .int .i64 0 ∧ wr = w1) (fun _ i _ => 0)
    case atStart => exact ⟨rfl, rfl, rfl⟩
    case round =>
      obtain ⟨rfl, rfl, hwr⟩ := hrel
      replace hwr := hwr.symm
      subst hwr
      go_wp2_with (go_at_call 24; refine (ser_nil aok capk w1).mono ?_; rintro x w2 ⟨rfl, B2⟩; have HB2 := hid (below_more HB.out B2 (Nat.le_refl _)); clear B2)
      go_ret
      exact ⟨_, rfl, Row.nil _ _, HB2.out⟩

set_option maxHeartbeats 4000000 in
theorem enc_some0 (N : Nat) (IH : ∀ (d : Dt) (v : Vt) (sb sk : Value) (p : Nat) (w : World), v.deep ≤ N → okD d → okV d v → DAt w d p → VAt w v sb sk → Calls Try.prog 8 #[.pointer (some ⟨p, 0, none⟩), .agg (valL v.num v.root sb sk).toArray] w fun e w' => ∃ u, e = .returned u ∧ Row w' w.heap.size u (encV d v) ∧ Below w.heap.size w w')
    (m bd od dl capd num : Nat) (ds : List Dt) (r : List Nat) (ks : List Vt) (sb : Value) (bv ov capk p : Nat) (w : World) (hr : r.length = 32) (hm0 : 0 < m) (hm : m ≤ 1048576) (hks : ks.length = m) (hdl : ds.length = dl) (hd0 : 0 < dl) (h8 : 0 = 8 → m ≤ dl) (hN : deepK ks ≤ N) (hok : okDs ds) (hov : okK (kdsV 0 ds m) ks) (hb : lenF (encK (kdsV 0 ds m) ks) ≤ 274877906944)
    (hD : DsAt w ds bd od) (hK : KsAt w ks bv ov) (hc1 : dl ≤ capd) (hc2 : capd ≤ maxLen) (hc3 : m ≤ capk) (hc4 : capk ≤ maxLen)
    (d0 : w.cell? ⟨p, 0, none⟩ = some (.int .i64 (0 : Nat))) (d2 : w.cell? ⟨p, 2, none⟩ = some (.slice (some ⟨bd, od, none⟩) dl capd)) :
    Calls Try.prog 8 #[.pointer (some ⟨p, 0, none⟩), .agg (valL num r sb (.slice (some ⟨bv, ov, none⟩) m capk)).toArray] w fun x w' => ∃ v, x = .returned v ∧ Row w' w.heap.size v (cont (encK (kdsV 0 ds m) ks)) ∧ Below w.heap.size w w' := by
  have hkl := kdsV_length 0 ds m (fun e => by rw [hdl]; exact h8 e) (fun _ => by rw [hdl]; exact hd0)
  have hkg : ∀ (k : Nat) d, (kdsV 0 ds m)[k]? = some d → (0 = 8 → ds[k]? = some d) ∧ (0 ≠ 8 → ds[0]? = some d) := fun k d h => kdsV_get h
  have hko := kdsV_ok (f := 0) (n := m) hok
  have hby := encK_byte ks hK (kdsV 0 ds m)
  have HSER := hid (ser_step N IH)
  generalize kdsV 0 ds m = kds at *
  obtain ⟨C, hC⟩ : ∃ C, Same (cont (encK kds ks)) C := ⟨_, ⟨rfl⟩⟩
  rw [hC.out]
  have HKG := hid hkg
  have HKL := hid hkl
  have HR := hid hr
  have HD := hid hD
  have HK := hid hK
  have HX := hid (And.intro hko (And.intro hby (And.intro hov hb)))
  have HKS := hid hks
  have HDL := hid hdl
  clear IH hkg hkl hr hD hK hko hby hov hb hks hdl hok
  go_enter Try.func8, Try.ntmps8
  go_wp2_with ((with_reducible refine at_list' ?_); first
    | (refine wpList_box_c rfl 3 rfl (.tmp 1) rfl (valL num r sb (.slice (some ⟨bv, ov, none⟩) m capk)) rfl ?_; intro w1 H1 B1 S1; have d1 := cell_keep B1 d0))
  have HC1 := hid H1
  have HB1 := hid B1
  have hs1 := H1.lt
  clear H1 B1 S1 d1
  go_loopw [5, 6] (fun kd i wr => ∃ (k : Nat) (ps : List Value), k ≤ m ∧ ps.length = k ∧ i = .int .i64 (k : Nat) ∧ RowP wr (w.heap.size + 1) kd ps ∧ (∀ (j : Nat) d, j < k → kds[j]? = some d → ∃ q, ps[j]? = some (.pointer (some ⟨q, 0, none⟩)) ∧ DAt w d q) ∧ HasC wr w.heap.size 31 (valL num r sb (.slice (some ⟨bv, ov, none⟩) m capk)) ∧ Below w.heap.size w wr) (fun _ i _ => m - (intOf i).toNat)
  case atStart => exact ⟨0, [], by omega, rfl, rfl, World.ownsRow_nil _ _ _ _, (fun j d hj => by omega), HC1.out, HB1.out⟩
  case round =>
    clear HC1 HB1 hs1
    obtain ⟨k, ps, hk, hpl, rfl, hR, hP, hH, hB⟩ := hrel
    have hc0 := hH.cell (valL_34 num r sb _ HR.out)
    have hsz := hH.lt
    by_cases hkm : k < m
    · obtain ⟨d, hd⟩ : ∃ d, kds[k]? = some d := ⟨_, List.getElem?_eq_getElem (by rw [HKL.out]; exact hkm)⟩
      have hg := HKG.out k d hd
      obtain ⟨q, hpc, hDq⟩ := HD.out.get (hg.2 (by decide))
      have hpc2 := cell_keep hB hpc
      have e0 := cell_keep hB d0
      have e2 := cell_keep hB d2
      rw [Nat.add_zero] at hpc2
      have HRP := hid hR
      have HP := hid hP
      have HH := hid hH
      have HB := hid hB
      have HPL := hid hpl
      have HDQ := hid hDq
      have HD2 := hid hd
      have BA : Below wr.heap.size wr (wr.alloc (.cells #[.pointer (some ⟨q, 0, none⟩)] 39)) := (Below.refl _ wr).alloc (Nat.le_refl _) _
      have HBA := hid BA
      clear hR hP hH hB hpl hDq hd hg hpc BA
      go_wp2_with (at_builtin; refine wpList_append_p rfl (.tmp 60) (.tmp 67) rfl (w.heap.size + 1) u5 ps rfl (HRP.out.below HBA.out) wr.heap.size (.pointer (some ⟨q, 0, none⟩)) rfl (cell_of_one (heap_alloc_new wr _)) rfl (by rw [HPL.out]; omega) (by have := HBA.out.size; omega) ?_; intro v5 w5 R5 G5 M5; have HR5 := hid R5; have HG5 := hid G5; clear R5 G5 M5)
      go_roundw
      case rel =>
        have hl5 : (ps ++ [Value.pointer (some ⟨q, 0, none⟩)]).length = k + 1 := by simp [HPL.out]
        have hlt : ∀ j, u5.ownBlock = some j → w.heap.size + 1 ≤ j := fun j hj => (HRP.out.lt j hj).1
        refine ⟨k + 1, ps ++ [Value.pointer (some ⟨q, 0, none⟩)], by omega, hl5, by go_num, HR5.out, fun j d' hj hd' => ?_, ?_, ?_⟩
        · by_cases hjk : j < k
          · obtain ⟨q', h1, h2⟩ := HP.out j d' hjk hd'
            exact ⟨q', by rw [List.getElem?_append_left (by rw [HPL.out]; exact hjk)]; exact h1, h2⟩
          · obtain rfl : j = k := by omega
            rw [HD2.out] at hd'
            cases hd'
            exact ⟨q, by rw [List.getElem?_append_right (by rw [HPL.out]; exact Nat.le_refl _), HPL.out, Nat.sub_self]; rfl, HDQ.out⟩
        · have h1 := HH.out.keep HBA.out
          exact (HG5.out.block w.heap.size h1.lt (fun e => by have := hlt _ e.symm; omega)).trans h1
        · have h1 := below_more HB.out HBA.out (Nat.le_refl _)
          exact h1.grown HG5.out h1.size (fun j hj => by have := hlt j hj; omega)
      case measure => simp [intOf]; omega
    · have hke : m = k := by omega
      subst hke
      obtain ⟨g, cap, rfl, hgc1, hgc2, hgc⟩ := hR.form (by omega)
      rw [hpl] at hgc1 ⊢
      have hDk : DsAt wr kds g 0 := dsAt_of kds g 0 fun i d hd => by
        have hi : i < m := by have := (List.getElem?_eq_some_iff.1 hd).1; rw [HKL.out] at this; exact this
        obtain ⟨q, h1, h2⟩ := hP i d hi hd
        exact ⟨q, by rw [Nat.zero_add]; exact hgc i _ h1, h2.keep hB⟩
      have HS := hid (HSER.out kds ks m g 0 cap bv ov capk wr HKL.out HKS.out hm0 hm hN HX.out.1 HX.out.2.2.1 HX.out.2.1 HX.out.2.2.2 hDk (HK.out.keep hB) hgc1 hgc2 hc3 hc4)
      rw [hC.out] at HS
      have HB := hid hB
      clear hDk hgc hR hP hH hB hpl
      go_wp2_with (go_at_call 24; refine HS.out.mono ?_; rintro x w2 ⟨u, rfl, R2, B2⟩; have HR2 := hid R2; have HB2 := hid (below_more HB.out B2 (Nat.le_refl _)); clear R2 B2)
      go_ret
      exact ⟨_, rfl, HR2.out.base HB.out.size, HB2.out⟩

set_option maxHeartbeats 4000000 in
theorem enc_some4 (N : Nat) (IH : ∀ (d : Dt) (v : Vt) (sb sk : Value) (p : Nat) (w : World), v.deep ≤ N → okD d → okV d v → DAt w d p → VAt w v sb sk → Calls Try.prog 8 #[.pointer (some ⟨p, 0, none⟩), .agg (valL v.num v.root sb sk).toArray] w fun e w' => ∃ u, e = .returned u ∧ Row w' w.heap.size u (encV d v) ∧ Below w.heap.size w w')
    (m bd od dl capd num : Nat) (ds : List Dt) (r : List Nat) (ks : List Vt) (sb : Value) (bv ov capk p : Nat) (w : World) (hr : r.length = 32) (hm0 : 0 < m) (hm : m ≤ 1048576) (hks : ks.length = m) (hdl : ds.length = dl) (hd0 : 0 < dl) (h8 : 4 = 8 → m ≤ dl) (hN : deepK ks ≤ N) (hok : okDs ds) (hov : okK (kdsV 4 ds m) ks) (hb : lenF (encK (kdsV 4 ds m) ks) ≤ 274877906944)
    (hD : DsAt w ds bd od) (hK : KsAt w ks bv ov) (hc1 : dl ≤ capd) (hc2 : capd ≤ maxLen) (hc3 : m ≤ capk) (hc4 : capk ≤ maxLen)
    (d0 : w.cell? ⟨p, 0, none⟩ = some (.int .i64 (4 : Nat))) (d2 : w.cell? ⟨p, 2, none⟩ = some (.slice (some ⟨bd, od, none⟩) dl capd)) :
    Calls Try.prog 8 #[.pointer (some ⟨p, 0, none⟩), .agg (valL num r sb (.slice (some ⟨bv, ov, none⟩) m capk)).toArray] w fun x w' => ∃ v, x = .returned v ∧ Row w' w.heap.size v (cont (encK (kdsV 4 ds m) ks)) ∧ Below w.heap.size w w' := by
  have hkl := kdsV_length 4 ds m (fun e => by rw [hdl]; exact h8 e) (fun _ => by rw [hdl]; exact hd0)
  have hkg : ∀ (k : Nat) d, (kdsV 4 ds m)[k]? = some d → (4 = 8 → ds[k]? = some d) ∧ (4 ≠ 8 → ds[0]? = some d) := fun k d h => kdsV_get h
  have hko := kdsV_ok (f := 4) (n := m) hok
  have hby := encK_byte ks hK (kdsV 4 ds m)
  have HSER := hid (ser_step N IH)
  generalize kdsV 4 ds m = kds at *
  obtain ⟨C, hC⟩ : ∃ C, Same (cont (encK kds ks)) C := ⟨_, ⟨rfl⟩⟩
  rw [hC.out]
  have HKG := hid hkg
  have HKL := hid hkl
  have HR := hid hr
  have HD := hid hD
  have HK := hid hK
  have HX := hid (And.intro hko (And.intro hby (And.intro hov hb)))
  have HKS := hid hks
  have HDL := hid hdl
  clear IH hkg hkl hr hD hK hko hby hov hb hks hdl hok
  go_enter Try.func8, Try.ntmps8
  go_wp2_with ((with_reducible refine at_list' ?_); first
    | (refine wpList_box_c rfl 3 rfl (.tmp 1) rfl (valL num r sb (.slice (some ⟨bv, ov, none⟩) m capk)) rfl ?_; intro w1 H1 B1 S1; have d1 := cell_keep B1 d0))
  have HC1 := hid H1
  have HB1 := hid B1
  have hs1 := H1.lt
  clear H1 B1 S1 d1
  go_loopw [5, 6] (fun kd i wr => ∃ (k : Nat) (ps : List Value), k ≤ m ∧ ps.length = k ∧ i = .int .i64 (k : Nat) ∧ RowP wr (w.heap.size + 1) kd ps ∧ (∀ (j : Nat) d, j < k → kds[j]? = some d → ∃ q, ps[j]? = some (.pointer (some ⟨q, 0, none⟩)) ∧ DAt w d q) ∧ HasC wr w.heap.size 31 (valL num r sb (.slice (some ⟨bv, ov, none⟩) m capk)) ∧ Below w.heap.size w wr) (fun _ i _ => m - (intOf i).toNat)
  case atStart => exact ⟨0, [], by omega, rfl, rfl, World.ownsRow_nil _ _ _ _, (fun j d hj => by omega), HC1.out, HB1.out⟩
  case round =>
    clear HC1 HB1 hs1
    obtain ⟨k, ps, hk, hpl, rfl, hR, hP, hH, hB⟩ := hrel
    have hc0 := hH.cell (valL_34 num r sb _ HR.out)
    have hsz := hH.lt
    by_cases hkm : k < m
    · obtain ⟨d, hd⟩ : ∃ d, kds[k]? = some d := ⟨_, List.getElem?_eq_getElem (by rw [HKL.out]; exact hkm)⟩
      have hg := HKG.out k d hd
      obtain ⟨q, hpc, hDq⟩ := HD.out.get (hg.2 (by decide))
      have hpc2 := cell_keep hB hpc
      have e0 := cell_keep hB d0
      have e2 := cell_keep hB d2
      rw [Nat.add_zero] at hpc2
      have HRP := hid hR
      have HP := hid hP
      have HH := hid hH
      have HB := hid hB
      have HPL := hid hpl
      have HDQ := hid hDq
      have HD2 := hid hd
      have BA : Below wr.heap.size wr (wr.alloc (.cells #[.pointer (some ⟨q, 0, none⟩)] 39)) := (Below.refl _ wr).alloc (Nat.le_refl _) _
      have HBA := hid BA
      clear hR hP hH hB hpl hDq hd hg hpc BA
      go_wp2_with (at_builtin; refine wpList_append_p rfl (.tmp 60) (.tmp 67) rfl (w.heap.size + 1) u5 ps rfl (HRP.out.below HBA.out) wr.heap.size (.pointer (some ⟨q, 0, none⟩)) rfl (cell_of_one (heap_alloc_new wr _)) rfl (by rw [HPL.out]; omega) (by have := HBA.out.size; omega) ?_; intro v5 w5 R5 G5 M5; have HR5 := hid R5; have HG5 := hid G5; clear R5 G5 M5)
      go_roundw
      case rel =>
        have hl5 : (ps ++ [Value.pointer (some ⟨q, 0, none⟩)]).length = k + 1 := by simp [HPL.out]
        have hlt : ∀ j, u5.ownBlock = some j → w.heap.size + 1 ≤ j := fun j hj => (HRP.out.lt j hj).1
        refine ⟨k + 1, ps ++ [Value.pointer (some ⟨q, 0, none⟩)], by omega, hl5, by go_num, HR5.out, fun j d' hj hd' => ?_, ?_, ?_⟩
        · by_cases hjk : j < k
          · obtain ⟨q', h1, h2⟩ := HP.out j d' hjk hd'
            exact ⟨q', by rw [List.getElem?_append_left (by rw [HPL.out]; exact hjk)]; exact h1, h2⟩
          · obtain rfl : j = k := by omega
            rw [HD2.out] at hd'
            cases hd'
            exact ⟨q, by rw [List.getElem?_append_right (by rw [HPL.out]; exact Nat.le_refl _), HPL.out, Nat.sub_self]; rfl, HDQ.out⟩
        · have h1 := HH.out.keep HBA.out
          exact (HG5.out.block w.heap.size h1.lt (fun e => by have := hlt _ e.symm; omega)).trans h1
        · have h1 := below_more HB.out HBA.out (Nat.le_refl _)
          exact h1.grown HG5.out h1.size (fun j hj => by have := hlt j hj; omega)
      case measure => simp [intOf]; omega
    · have hke : m = k := by omega
      subst hke
      obtain ⟨g, cap, rfl, hgc1, hgc2, hgc⟩ := hR.form (by omega)
      rw [hpl] at hgc1 ⊢
      have hDk : DsAt wr kds g 0 := dsAt_of kds g 0 fun i d hd => by
        have hi : i < m := by have := (List.getElem?_eq_some_iff.1 hd).1; rw [HKL.out] at this; exact this
        obtain ⟨q, h1, h2⟩ := hP i d hi hd
        exact ⟨q, by rw [Nat.zero_add]; exact hgc i _ h1, h2.keep hB⟩
      have HS := hid (HSER.out kds ks m g 0 cap bv ov capk wr HKL.out HKS.out hm0 hm hN HX.out.1 HX.out.2.2.1 HX.out.2.1 HX.out.2.2.2 hDk (HK.out.keep hB) hgc1 hgc2 hc3 hc4)
      rw [hC.out] at HS
      have HB := hid hB
      clear hDk hgc hR hP hH hB hpl
      go_wp2_with (go_at_call 24; refine HS.out.mono ?_; rintro x w2 ⟨u, rfl, R2, B2⟩; have HR2 := hid R2; have HB2 := hid (below_more HB.out B2 (Nat.le_refl _)); clear R2 B2)
      go_ret
      exact ⟨_, rfl, HR2.out.base HB.out.size, HB2.out⟩

set_option maxHeartbeats 4000000 in
theorem enc_some5 (N : Nat) (IH : ∀ (d : Dt) (v : Vt) (sb sk : Value) (p : Nat) (w : World), v.deep ≤ N → okD d → okV d v → DAt w d p → VAt w v sb sk → Calls Try.prog 8 #[.pointer (some ⟨p, 0, none⟩), .agg (valL v.num v.root sb sk).toArray] w fun e w' => ∃ u, e = .returned u ∧ Row w' w.heap.size u (encV d v) ∧ Below w.heap.size w w')
    (m bd od dl capd num : Nat) (ds : List Dt) (r : List Nat) (ks : List Vt) (sb : Value) (bv ov capk p : Nat) (w : World) (hr : r.length = 32) (hm0 : 0 < m) (hm : m ≤ 1048576) (hks : ks.length = m) (hdl : ds.length = dl) (hd0 : 0 < dl) (h8 : 5 = 8 → m ≤ dl) (hN : deepK ks ≤ N) (hok : okDs ds) (hov : okK (kdsV 5 ds m) ks) (hb : lenF (encK (kdsV 5 ds m) ks) ≤ 274877906944)
    (hD : DsAt w ds bd od) (hK : KsAt w ks bv ov) (hc1 : dl ≤ capd) (hc2 : capd ≤ maxLen) (hc3 : m ≤ capk) (hc4 : capk ≤ maxLen)
    (d0 : w.cell? ⟨p, 0, none⟩ = some (.int .i64 (5 : Nat))) (d2 : w.cell? ⟨p, 2, none⟩ = some (.slice (some ⟨bd, od, none⟩) dl capd)) :
    Calls Try.prog 8 #[.pointer (some ⟨p, 0, none⟩), .agg (valL num r sb (.slice (some ⟨bv, ov, none⟩) m capk)).toArray] w fun x w' => ∃ v, x = .returned v ∧ Row w' w.heap.size v (cont (encK (kdsV 5 ds m) ks)) ∧ Below w.heap.size w w' := by
  have hkl := kdsV_length 5 ds m (fun e => by rw [hdl]; exact h8 e) (fun _ => by rw [hdl]; exact hd0)
  have hkg : ∀ (k : Nat) d, (kdsV 5 ds m)[k]? = some d → (5 = 8 → ds[k]? = some d) ∧ (5 ≠ 8 → ds[0]? = some d) := fun k d h => kdsV_get h
  have hko := kdsV_ok (f := 5) (n := m) hok
  have hby := encK_byte ks hK (kdsV 5 ds m)
  have HSER := hid (ser_step N IH)
  generalize kdsV 5 ds m = kds at *
  obtain ⟨C, hC⟩ : ∃ C, Same (cont (encK kds ks)) C := ⟨_, ⟨rfl⟩⟩
  rw [hC.out]
  have HKG := hid hkg
  have HKL := hid hkl
  have HR := hid hr
  have HD := hid hD
  have HK := hid hK
  have HX := hid (And.intro hko (And.intro hby (And.intro hov hb)))
  have HKS := hid hks
  have HDL := hid hdl
  clear IH hkg hkl hr hD hK hko hby hov hb hks hdl hok
  go_enter Try.func8, Try.ntmps8
  go_wp2_with ((with_reducible refine at_list' ?_); first
    | (refine wpList_box_c rfl 3 rfl (.tmp 1) rfl (valL num r sb (.slice (some ⟨bv, ov, none⟩) m capk)) rfl ?_; intro w1 H1 B1 S1; have d1 := cell_keep B1 d0))
  have HC1 := hid H1
  have HB1 := hid B1
  have hs1 := H1.lt
  clear H1 B1 S1 d1
  go_loopw [5, 6] (fun kd i wr => ∃ (k : Nat) (ps : List Value), k ≤ m ∧ ps.length = k ∧ i = .int .i64 (k : Nat) ∧ RowP wr (w.heap.size + 1) kd ps ∧ (∀ (j : Nat) d, j < k → kds[j]? = some d → ∃ q, ps[j]? = some (.pointer (some ⟨q, 0, none⟩)) ∧ DAt w d q) ∧ HasC wr w.heap.size 31 (valL num r sb (.slice (some ⟨bv, ov, none⟩) m capk)) ∧ Below w.heap.size w wr) (fun _ i _ => m - (intOf i).toNat)
  case atStart => exact ⟨0, [], by omega, rfl, rfl, World.ownsRow_nil _ _ _ _, (fun j d hj => by omega), HC1.out, HB1.out⟩
  case round =>
    clear HC1 HB1 hs1
    obtain ⟨k, ps, hk, hpl, rfl, hR, hP, hH, hB⟩ := hrel
    have hc0 := hH.cell (valL_34 num r sb _ HR.out)
    have hsz := hH.lt
    by_cases hkm : k < m
    · obtain ⟨d, hd⟩ : ∃ d, kds[k]? = some d := ⟨_, List.getElem?_eq_getElem (by rw [HKL.out]; exact hkm)⟩
      have hg := HKG.out k d hd
      obtain ⟨q, hpc, hDq⟩ := HD.out.get (hg.2 (by decide))
      have hpc2 := cell_keep hB hpc
      have e0 := cell_keep hB d0
      have e2 := cell_keep hB d2
      rw [Nat.add_zero] at hpc2
      have HRP := hid hR
      have HP := hid hP
      have HH := hid hH
      have HB := hid hB
      have HPL := hid hpl
      have HDQ := hid hDq
      have HD2 := hid hd
      have BA : Below wr.heap.size wr (wr.alloc (.cells #[.pointer (some ⟨q, 0, none⟩)] 39)) := (Below.refl _ wr).alloc (Nat.le_refl _) _
      have HBA := hid BA
      clear hR hP hH hB hpl hDq hd hg hpc BA
      go_wp2_with (at_builtin; refine wpList_append_p rfl (.tmp 60) (.tmp 67) rfl (w.heap.size + 1) u5 ps rfl (HRP.out.below HBA.out) wr.heap.size (.pointer (some ⟨q, 0, none⟩)) rfl (cell_of_one (heap_alloc_new wr _)) rfl (by rw [HPL.out]; omega) (by have := HBA.out.size; omega) ?_; intro v5 w5 R5 G5 M5; have HR5 := hid R5; have HG5 := hid G5; clear R5 G5 M5)
      go_roundw
      case rel =>
        have hl5 : (ps ++ [Value.pointer (some ⟨q, 0, none⟩)]).length = k + 1 := by simp [HPL.out]
        have hlt : ∀ j, u5.ownBlock = some j → w.heap.size + 1 ≤ j := fun j hj => (HRP.out.lt j hj).1
        refine ⟨k + 1, ps ++ [Value.pointer (some ⟨q, 0, none⟩)], by omega, hl5, by go_num, HR5.out, fun j d' hj hd' => ?_, ?_, ?_⟩
        · by_cases hjk : j < k
          · obtain ⟨q', h1, h2⟩ := HP.out j d' hjk hd'
            exact ⟨q', by rw [List.getElem?_append_left (by rw [HPL.out]; exact hjk)]; exact h1, h2⟩
          · obtain rfl : j = k := by omega
            rw [HD2.out] at hd'
            cases hd'
            exact ⟨q, by rw [List.getElem?_append_right (by rw [HPL.out]; exact Nat.le_refl _), HPL.out, Nat.sub_self]; rfl, HDQ.out⟩
        · have h1 := HH.out.keep HBA.out
          exact (HG5.out.block w.heap.size h1.lt (fun e => by have := hlt _ e.symm; omega)).trans h1
        · have h1 := below_more HB.out HBA.out (Nat.le_refl _)
          exact h1.grown HG5.out h1.size (fun j hj => by have := hlt j hj; omega)
      case measure => simp [intOf]; omega
    · have hke : m = k := by omega
      subst hke
      obtain ⟨g, cap, rfl, hgc1, hgc2, hgc⟩ := hR.form (by omega)
      rw [hpl] at hgc1 ⊢
      have hDk : DsAt wr kds g 0 := dsAt_of kds g 0 fun i d hd => by
        have hi : i < m := by have := (List.getElem?_eq_some_iff.1 hd).1; rw [HKL.out] at this; exact this
        obtain ⟨q, h1, h2⟩ := hP i d hi hd
        exact ⟨q, by rw [Nat.zero_add]; exact hgc i _ h1, h2.keep hB⟩
      have HS := hid (HSER.out kds ks m g 0 cap bv ov capk wr HKL.out HKS.out hm0 hm hN HX.out.1 HX.out.2.2.1 HX.out.2.1 HX.out.2.2.2 hDk (HK.out.keep hB) hgc1 hgc2 hc3 hc4)
      rw [hC.out] at HS
      have HB := hid hB
      clear hDk hgc hR hP hH hB hpl
      go_wp2_with (go_at_call 24; refine HS.out.mono ?_; rintro x w2 ⟨u, rfl, R2, B2⟩; have HR2 := hid R2; have HB2 := hid (below_more HB.out B2 (Nat.le_refl _)); clear R2 B2)
      go_ret
      exact ⟨_, rfl, HR2.out.base HB.out.size, HB2.out⟩

set_option maxHeartbeats 4000000 in
theorem enc_some8 (N : Nat) (IH : ∀ (d : Dt) (v : Vt) (sb sk : Value) (p : Nat) (w : World), v.deep ≤ N → okD d → okV d v → DAt w d p → VAt w v sb sk → Calls Try.prog 8 #[.pointer (some ⟨p, 0, none⟩), .agg (valL v.num v.root sb sk).toArray] w fun e w' => ∃ u, e = .returned u ∧ Row w' w.heap.size u (encV d v) ∧ Below w.heap.size w w')
    (m bd od dl capd num : Nat) (ds : List Dt) (r : List Nat) (ks : List Vt) (sb : Value) (bv ov capk p : Nat) (w : World) (hr : r.length = 32) (hm0 : 0 < m) (hm : m ≤ 1048576) (hks : ks.length = m) (hdl : ds.length = dl) (hd0 : 0 < dl) (h8 : 8 = 8 → m ≤ dl) (hN : deepK ks ≤ N) (hok : okDs ds) (hov : okK (kdsV 8 ds m) ks) (hb : lenF (encK (kdsV 8 ds m) ks) ≤ 274877906944)
    (hD : DsAt w ds bd od) (hK : KsAt w ks bv ov) (hc1 : dl ≤ capd) (hc2 : capd ≤ maxLen) (hc3 : m ≤ capk) (hc4 : capk ≤ maxLen)
    (d0 : w.cell? ⟨p, 0, none⟩ = some (.int .i64 (8 : Nat))) (d2 : w.cell? ⟨p, 2, none⟩ = some (.slice (some ⟨bd, od, none⟩) dl capd)) :
    Calls Try.prog 8 #[.pointer (some ⟨p, 0, none⟩), .agg (valL num r sb (.slice (some ⟨bv, ov, none⟩) m capk)).toArray] w fun x w' => ∃ v, x = .returned v ∧ Row w' w.heap.size v (cont (encK (kdsV 8 ds m) ks)) ∧ Below w.heap.size w w' := by
  have hkl := kdsV_length 8 ds m (fun e => by rw [hdl]; exact h8 e) (fun _ => by rw [hdl]; exact hd0)
  have hkg : ∀ (k : Nat) d, (kdsV 8 ds m)[k]? = some d → (8 = 8 → ds[k]? = some d) ∧ (8 ≠ 8 → ds[0]? = some d) := fun k d h => kdsV_get h
  have hko := kdsV_ok (f := 8) (n := m) hok
  have hby := encK_byte ks hK (kdsV 8 ds m)
  have HSER := hid (ser_step N IH)
  generalize kdsV 8 ds m = kds at *
  obtain ⟨C, hC⟩ : ∃ C, Same (cont (encK kds ks)) C := ⟨_, ⟨rfl⟩⟩
  rw [hC.out]
  have HKG := hid hkg
  have HKL := hid hkl
  have HR := hid hr
  have HD := hid hD
  have HK := hid hK
  have HX := hid (And.intro hko (And.intro hby (And.intro hov hb)))
  have HKS := hid hks
  have HDL := hid hdl
  clear IH hkg hkl hr hD hK hko hby hov hb hks hdl hok
  go_enter Try.func8, Try.ntmps8
  go_wp2_with ((with_reducible refine at_list' ?_); first
    | (refine wpList_box_c rfl 3 rfl (.tmp 1) rfl (valL num r sb (.slice (some ⟨bv, ov, none⟩) m capk)) rfl ?_; intro w1 H1 B1 S1; have d1 := cell_keep B1 d0))
  have HC1 := hid H1
  have HB1 := hid B1
  have hs1 := H1.lt
  clear H1 B1 S1 d1
  go_loopw [5, 6] (fun kd i wr => ∃ (k : Nat) (ps : List Value), k ≤ m ∧ ps.length = k ∧ i = .int .i64 (k : Nat) ∧ RowP wr (w.heap.size + 1) kd ps ∧ (∀ (j : Nat) d, j < k → kds[j]? = some d → ∃ q, ps[j]? = some (.pointer (some ⟨q, 0, none⟩)) ∧ DAt w d q) ∧ HasC wr w.heap.size 31 (valL num r sb (.slice (some ⟨bv, ov, none⟩) m capk)) ∧ Below w.heap.size w wr) (fun _ i _ => m - (intOf i).toNat)
  case atStart => exact ⟨0, [], by omega, rfl, rfl, World.ownsRow_nil _ _ _ _, (fun j d hj => by omega), HC1.out, HB1.out⟩
  case round =>
    clear HC1 HB1 hs1
    obtain ⟨k, ps, hk, hpl, rfl, hR, hP, hH, hB⟩ := hrel
    have hc0 := hH.cell (valL_34 num r sb _ HR.out)
    have hsz := hH.lt
    by_cases hkm : k < m
    · obtain ⟨d, hd⟩ : ∃ d, kds[k]? = some d := ⟨_, List.getElem?_eq_getElem (by rw [HKL.out]; exact hkm)⟩
      have hg := HKG.out k d hd
      obtain ⟨q, hpc, hDq⟩ := HD.out.get (hg.1 (by first | rfl | trivial))
      have hpc2 := cell_keep hB hpc
      have e0 := cell_keep hB d0
      have e2 := cell_keep hB d2
      have h8l := h8 (by first | rfl | trivial)
      have HRP := hid hR
      have HP := hid hP
      have HH := hid hH
      have HB := hid hB
      have HPL := hid hpl
      have HDQ := hid hDq
      have HD2 := hid hd
      have BA : Below wr.heap.size wr (wr.alloc (.cells #[.pointer (some ⟨q, 0, none⟩)] 39)) := (Below.refl _ wr).alloc (Nat.le_refl _) _
      have HBA := hid BA
      clear hR hP hH hB hpl hDq hd hg hpc BA
      go_wp2_with (at_builtin; refine wpList_append_p rfl (.tmp 50) (.tmp 58) rfl (w.heap.size + 1) u5 ps rfl (HRP.out.below HBA.out) wr.heap.size (.pointer (some ⟨q, 0, none⟩)) rfl (cell_of_one (heap_alloc_new wr _)) rfl (by rw [HPL.out]; omega) (by have := HBA.out.size; omega) ?_; intro v5 w5 R5 G5 M5; have HR5 := hid R5; have HG5 := hid G5; clear R5 G5 M5)
      go_roundw
      case rel =>
        have hl5 : (ps ++ [Value.pointer (some ⟨q, 0, none⟩)]).length = k + 1 := by simp [HPL.out]
        have hlt : ∀ j, u5.ownBlock = some j → w.heap.size + 1 ≤ j := fun j hj => (HRP.out.lt j hj).1
        refine ⟨k + 1, ps ++ [Value.pointer (some ⟨q, 0, none⟩)], by omega, hl5, by go_num, HR5.out, fun j d' hj hd' => ?_, ?_, ?_⟩
        · by_cases hjk : j < k
          · obtain ⟨q', h1, h2⟩ := HP.out j d' hjk hd'
            exact ⟨q', by rw [List.getElem?_append_left (by rw [HPL.out]; exact hjk)]; exact h1, h2⟩
          · obtain rfl : j = k := by omega
            rw [HD2.out] at hd'
            cases hd'
            exact ⟨q, by rw [List.getElem?_append_right (by rw [HPL.out]; exact Nat.le_refl _), HPL.out, Nat.sub_self]; rfl, HDQ.out⟩
        · have h1 := HH.out.keep HBA.out
          exact (HG5.out.block w.heap.size h1.lt (fun e => by have := hlt _ e.symm; omega)).trans h1
        · have h1 := below_more HB.out HBA.out (Nat.le_refl _)
          exact h1.grown HG5.out h1.size (fun j hj => by have := hlt j hj; omega)
      case measure => simp [intOf]; omega
    · have hke : m = k := by omega
      subst hke
      obtain ⟨g, cap, rfl, hgc1, hgc2, hgc⟩ := hR.form (by omega)
      rw [hpl] at hgc1 ⊢
      have hDk : DsAt wr kds g 0 := dsAt_of kds g 0 fun i d hd => by
        have hi : i < m := by have := (List.getElem?_eq_some_iff.1 hd).1; rw [HKL.out] at this; exact this
        obtain ⟨q, h1, h2⟩ := hP i d hi hd
        exact ⟨q, by rw [Nat.zero_add]; exact hgc i _ h1, h2.keep hB⟩
      have HS := hid (HSER.out kds ks m g 0 cap bv ov capk wr HKL.out HKS.out hm0 hm hN HX.out.1 HX.out.2.2.1 HX.out.2.1 HX.out.2.2.2 hDk (HK.out.keep hB) hgc1 hgc2 hc3 hc4)
      rw [hC.out] at HS
      have HB := hid hB
      clear hDk hgc hR hP hH hB hpl
      go_wp2_with (go_at_call 24; refine HS.out.mono ?_; rintro x w2 ⟨u, rfl, R2, B2⟩; have HR2 := hid R2; have HB2 := hid (below_more HB.out B2 (Nat.le_refl _)); clear R2 B2)
      go_ret
      exact ⟨_, rfl, HR2.out.base HB.out.size, HB2.out⟩

set_option maxHeartbeats 1000000 in
theorem enc_step (N : Nat) (IH : ∀ (d : Dt) (v : Vt) (sb sk : Value) (p : Nat) (w : World), v.deep ≤ N → okD d → okV d v → DAt w d p → VAt w v sb sk → Calls Try.prog 8 #[.pointer (some ⟨p, 0, none⟩), .agg (valL v.num v.root sb sk).toArray] w fun e w' => ∃ u, e = .returned u ∧ Row w' w.heap.size u (encV d v) ∧ Below w.heap.size w w') :
    ∀ (d : Dt) (v : Vt) (sb sk : Value) (p : Nat) (w : World), v.deep ≤ N + 1 → okD d → okV d v → DAt w d p → VAt w v sb sk → Calls Try.prog 8 #[.pointer (some ⟨p, 0, none⟩), .agg (valL v.num v.root sb sk).toArray] w fun e w' => ∃ u, e = .returned u ∧ Row w' w.heap.size u (encV d v) ∧ Below w.heap.size w w'
  | .mk f n ds, .mk num r bs ks, sb, sk, p, w, hN, hok, hov, hD, hV => by
    rw [okV] at hov
    rw [okD] at hok
    rw [DAt] at hD
    rw [VAt] at hV
    rw [Vt.deep] at hN
    obtain ⟨d0, d1, aod, capd, d2, hcd1, hcd2, hDs⟩ := hD
    obtain ⟨⟨hn, hr, h8⟩, hTb, aok, capk, hske, hck1, hck2, hKs⟩ := hV
    obtain ⟨hb1, hk1, hf8, hk0, hlf, hokk⟩ := hov
    obtain ⟨hf, hn2, hsm, hdl, hf4, hokds⟩ := hok
    show Calls Try.prog 8 #[.pointer (some ⟨p, 0, none⟩), .agg (valL num r sb sk).toArray] w _
    rw [encV]
    by_cases e1 : f = 1
    · subst e1; rw [if_pos rfl]; exact encL_num num r sb sk p w hn d0
    rw [if_neg e1]
    by_cases e2 : f = 2
    · subst e2; rw [if_pos rfl]; exact encL_truth num r sb sk p w hn d0
    rw [if_neg e2]
    by_cases e3 : f = 3
    · subst e3; rw [if_pos rfl]; exact encL_root num r sb sk p w hr h8 d0
    rw [if_neg e3]
    by_cases e6 : f = 6
    · subst e6; rw [if_pos rfl]; exact encL_bits6 num r sb sk p w bs hr hTb hb1 d0
    rw [if_neg e6]
    by_cases e7 : f = 7
    · subst e7; rw [if_pos rfl]; exact encL_bits7 num r sb sk p w bs hr hTb hb1 d0
    rw [if_neg e7]
    have hff : f = 0 ∨ f = 4 ∨ f = 5 ∨ f = 8 := by omega
    subst hske
    rcases hKs with h0 | ⟨bv, ov, rfl, hK⟩
    · obtain rfl : ks = [] := List.eq_nil_of_length_eq_zero h0
      have hc : cont (encK (kdsV f ds ([] : List Vt).length) []) = [] := by
        have : encK (kdsV f ds ([] : List Vt).length) [] = [] := by generalize kdsV f ds _ = l; cases l <;> rw [encK]
        rw [this]; rfl
      rw [hc]
      exact enc_none f num hff r sb aok capk p w hr d0
    · by_cases hm0 : ks.length = 0
      · obtain rfl : ks = [] := List.eq_nil_of_length_eq_zero hm0
        have hc : cont (encK (kdsV f ds ([] : List Vt).length) []) = [] := by
          have : encK (kdsV f ds ([] : List Vt).length) [] = [] := by generalize kdsV f ds _ = l; cases l <;> rw [encK]
          rw [this]; rfl
        rw [hc]
        exact enc_none f num hff r sb _ capk p w hr d0
      · have hd0 := hk0 (by omega)
        rcases hDs with h0 | ⟨bd, od, rfl, hD⟩
        · omega
        rcases hff with rfl | rfl | rfl | rfl
        · exact enc_some0 N IH ks.length bd od ds.length capd num ds r ks sb bv ov capk p w hr (by omega) hk1 rfl rfl hd0 hf8 (by omega) hokds hokk hlf hD hK hcd1 hcd2 hck1 hck2 d0 d2
        · exact enc_some4 N IH ks.length bd od ds.length capd num ds r ks sb bv ov capk p w hr (by omega) hk1 rfl rfl hd0 hf8 (by omega) hokds hokk hlf hD hK hcd1 hcd2 hck1 hck2 d0 d2
        · exact enc_some5 N IH ks.length bd od ds.length capd num ds r ks sb bv ov capk p w hr (by omega) hk1 rfl rfl hd0 hf8 (by omega) hokds hokk hlf hD hK hcd1 hcd2 hck1 hck2 d0 d2
        · exact enc_some8 N IH ks.length bd od ds.length capd num ds r ks sb bv ov capk p w hr (by omega) hk1 rfl rfl hd0 hf8 (by omega) hokds hokk hlf hD hK hcd1 hcd2 hck1 hck2 d0 d2
theorem enc_deep (N : Nat) : ∀ (d : Dt) (v : Vt) (sb sk : Value) (p : Nat) (w : World), v.deep ≤ N → okD d → okV d v → DAt w d p → VAt w v sb sk → Calls Try.prog 8 #[.pointer (some ⟨p, 0, none⟩), .agg (valL v.num v.root sb sk).toArray] w fun e w' => ∃ u, e = .returned u ∧ Row w' w.heap.size u (encV d v) ∧ Below w.heap.size w w' := by
  induction N with
  | zero => intro d v sb sk p w h; cases v; rw [Vt.deep] at h; omega
  | succ N ih => exact enc_step N ih
/-- The document's Encode of any value, at any kind that it fits. -/
theorem enc_any (d : Dt) (v : Vt) (u : Value) (p : Nat) (w : World) (hd : okD d) (hv : okV d v) (hD : DAt w d p) (hV : IsV w u v) :
    Calls Try.prog 8 #[.pointer (some ⟨p, 0, none⟩), u] w fun e w' => ∃ u, e = .returned u ∧ Row w' w.heap.size u (encV d v) ∧ Below w.heap.size w w' := by
  obtain ⟨sb, sk, rfl, h⟩ := hV
  exact enc_deep v.deep d v sb sk p w (Nat.le_refl _) hd hv hD h
end Go.Proofs.Ytfocalbfefnbnaa

/- Flows whose operations may bear guards that are known to hold, and hang together in chains of any length. -/
namespace Go.Proofs.Ytfocalbfefnbnaa
open Go Go.RowKit
section
variable {P : Program}
/-- Those below k that one of m waits for, itself or by others, and m. -/
def markG (ops : Array Oper) : Nat → List Nat → List Nat
  | 0, m => m
  | k + 1, m => if m.any (fun j => Region.waitsFor .any ops j k) then markG ops k (k :: m) else markG ops k m
def reachM (ops : Array Oper) (t i : Nat) : Bool := (markG ops t [t]).contains i
theorem markG_done {ops : Array Oper} {done : Array Bool} (hcl : ∀ j oj, ops[j]? = some oj → done.getD j false = true → ∀ e ∈ oj.after, Region.binds .any e = true → done.getD e.on false = true) {t : Nat} {o : Oper} (ho : ops[t]? = some o) (hall : ∀ e ∈ o.after, Region.binds .any e = true → done.getD e.on false = true) :
    ∀ k m, (∀ i ∈ m, i = t ∨ done.getD i false = true) → ∀ i ∈ markG ops k m, i = t ∨ done.getD i false = true := by
  intro k
  induction k with
  | zero => intro m hm i hi; exact hm i hi
  | succ k ih =>
    intro m hm i hi
    rw [markG] at hi
    split at hi
    · rename_i hany
      refine ih (k :: m) (fun q hq => ?_) i hi
      rcases List.mem_cons.1 hq with rfl | hq
      · obtain ⟨j, hj, hw⟩ := List.any_eq_true.1 hany
        rcases hm j hj with rfl | hd
        · exact .inr (waits_done ho hall hw)
        · cases hz : ops[j]? with
          | none => unfold Region.waitsFor at hw; rw [hz] at hw; cases hw
          | some oj => exact .inr (waits_done hz (hcl j oj hz hd) hw)
      · exact hm q hq
    · exact ih m hm i hi
theorem reachM_done {ops : Array Oper} {done : Array Bool} (hcl : ∀ j oj, ops[j]? = some oj → done.getD j false = true → ∀ e ∈ oj.after, Region.binds .any e = true → done.getD e.on false = true) {t i : Nat} {o : Oper} (ho : ops[t]? = some o) (hall : ∀ e ∈ o.after, Region.binds .any e = true → done.getD e.on false = true) (h : reachM ops t i = true) (hne : i ≠ t) : done.getD i false = true :=
  (markG_done hcl ho hall t [t] (fun q hq => .inl (List.mem_singleton.1 hq)) i (by unfold reachM at h; simpa using h)).resolve_left hne
/-- What a flow asks of a region's text: its head's guards are known, it waits upwards alone, writes each slot once; its tail waits for all of the head, but for one operation that only reads slots and may come late (late: its place; n: there is none). -/
def flowMB (ops : Array Oper) (n late sz : Nat) : Bool :=
  decide (n < ops.size) && Region.noSelect ops && ((List.range ops.size).all fun t => decide (t < n) || (List.range n).all fun i => decide (i = late) || reachM ops t i) &&
  ((List.range n).all fun i => match ops[i]? with
    | some o => (match o.guard with | none => true | some (g, _) => decide (g < i) && Region.waitsFor .any ops i g && (dstOf ops g).isSome) && (o.after.all fun e => !Region.binds .any e || decide (e.on < i)) && (match o.dst with
      | none => true
      | some d => decide (d < sz) && (List.range n).all fun j => decide (j = i) || decide (dstOf ops j ≠ some d))
    | none => false) && (decide (n ≤ late) || (Region.free .any ops (doneBut ops n late) late && (Region.ready .any ops (doneBut ops n late)).contains late)) &&
  Region.seqB .any ops (ops.size - n) n ((List.range ops.size).map fun i => decide (i < n)).toArray

theorem flowM_any {ops : Array Oper} {n late : Nat} {I : Nat → Value → World → Prop} {w0 : World} {a0 : Act} {Q : Exit → Act → World → Prop} (hB : flowMB ops n late a0.tmps.size = true)
    (hQ : ∀ c d v a w, Q (.panic c) (a.put d v) w → Q (.panic c) a w)
    (hguard : ∀ i o g b, i < n → ops[i]? = some o → o.guard = some (g, b) → ∀ v w, I g v w → v = .bool b)
    (hI : ∀ i v w w', i < n → I i v w → Below w.heap.size w w' → I i v w')
    (hop : ∀ i o, i < n → ops[i]? = some o → ∀ a w, Cls w0 w → (∀ s, (∀ j, j < n → dstOf ops j ≠ some s) → a.tmps.getD s undef = a0.tmps.getD s undef) →
      (∀ j d, dstOf ops j = some d → (o.after.any fun e => Region.binds .any e && e.on == j) = true → I j (a.tmps.getD d undef) w) →
      o.wp P a w (fun a' w' => ∃ v, a' = a.put o.dst v ∧ I i v w' ∧ Below w.heap.size w w') Q)
    (hlate : ∀ o, late < n → ops[late]? = some o → ∀ (a : Act) w, Cls w0 w → (∀ s, (∀ j, j < n → dstOf ops j ≠ some s) → a.tmps.getD s undef = a0.tmps.getD s undef) →
      (∀ j d, dstOf ops j = some d → (o.after.any fun e => Region.binds .any e && e.on == j) = true → I j (a.tmps.getD d undef) w) → ∃ v, (∀ w, (execOp a.eval o).run P w = .ok (.value v) w) ∧ I late v w)
    (htail : ∀ v w, Cls w0 w → (∀ i d, i < n → dstOf ops i = some d → I i (v i) w) → wpAny P .any ops Q (ops.size - n) ((List.range ops.size).map fun i => decide (i < n)).toArray (putAll v (ops.toList.take n) 0 a0) w) :
    ∀ f (done : Array Bool) (a : Act) (w : World), (List.range n).countP (fun i => !done.getD i true) = f → FlowInv ops n I w0 a0 done a w → wpAny P .any ops Q (f + (ops.size - n)) done a w := by
  simp only [flowMB, Bool.and_eq_true, decide_eq_true_eq, List.all_eq_true, List.mem_range, Bool.or_eq_true] at hB
  obtain ⟨⟨⟨⟨⟨hn, hsel⟩, hdir⟩, hall⟩, hlt8⟩, hseq⟩ := hB
  have hat : ∀ i, i < n → ∃ o, ops[i]? = some o := fun i hi => ⟨_, Array.getElem?_eq_getElem (by omega)⟩
  have hgd : ∀ i o, i < n → ops[i]? = some o → (∀ g b, o.guard = some (g, b) → Region.waitsFor .any ops i g = true ∧ ∃ d, dstOf ops g = some d) ∧ (∀ e ∈ o.after, Region.binds .any e = true → e.on < i) ∧ ∀ d, o.dst = some d → d < a0.tmps.size ∧ ∀ j, j < n → j ≠ i → dstOf ops j ≠ some d := by
    intro i o hi ho
    have := hall i hi
    rw [ho] at this
    simp only [Bool.and_eq_true, Array.all_eq_true_iff_forall_mem, Bool.or_eq_true, Bool.not_eq_true', decide_eq_true_eq] at this
    obtain ⟨⟨h1, h2⟩, h3⟩ := this
    refine ⟨fun g b hg => by
      rw [hg] at h1
      simp only [Bool.and_eq_true] at h1
      exact ⟨h1.1.2, Option.isSome_iff_exists.1 h1.2⟩, fun e he hb => (h2 e he).resolve_left (by rw [hb]; decide), fun d hd => ?_⟩
    rw [hd] at h3
    simp only [Bool.and_eq_true, decide_eq_true_eq, List.all_eq_true, List.mem_range, Bool.or_eq_true] at h3
    exact ⟨h3.1, fun j hj hne => (h3.2 j hj).resolve_left hne⟩
  intro f
  induction f with
  | zero =>
    intro done a w hcount inv
    have hdone : ∀ i, i < n → done.getD i true = true := fun i hi => by
      have := List.countP_eq_zero.1 hcount i (List.mem_range.2 hi)
      simpa using this
    have hdn : done = ((List.range ops.size).map fun i => decide (i < n)).toArray := by
      apply Array.ext_getElem?
      intro i
      by_cases hi : i < ops.size
      · have hi' : i < done.size := by rw [inv.head.size]; exact hi
        have h1 : (((List.range ops.size).map fun i => decide (i < n)).toArray)[i]? = some (decide (i < n)) := by simp [hi]
        rw [h1, Array.getElem?_eq_getElem hi']
        by_cases hin : i < n
        · have := hdone i hin
          simp [hi'] at this
          simp [hin, this]
        · have := inv.head.tail i (by omega) hi
          simp [hi'] at this
          simp [hin, this]
      · rw [Array.getElem?_eq_none (by rw [inv.head.size]; omega), Array.getElem?_eq_none (by simp; omega)]
    have hk : ∀ i, i < n → done.getD i false = true := fun i hi => by
      have h1 := hdone i hi
      have hi' : i < done.size := by rw [inv.head.size]; omega
      simp [hi'] at h1 ⊢
      exact h1
    have ha : a = putAll (fun i => match dstOf ops i with | some d => a.tmps.getD d undef | none => undef) (ops.toList.take n) 0 a0 := by
      have hd1 := putAll_defers (fun i => match dstOf ops i with | some d => a.tmps.getD d undef | none => undef) (ops.toList.take n) 0 a0
      have hs1 := putAll_size (fun i => match dstOf ops i with | some d => a.tmps.getD d undef | none => undef) (ops.toList.take n) 0 a0
      have ht1 : ∀ s, a.tmps[s]? = (putAll (fun i => match dstOf ops i with | some d => a.tmps.getD d undef | none => undef) (ops.toList.take n) 0 a0).tmps[s]? := fun s => by
        rw [putAll_get _ s (a.tmps.getD s undef) _ 0 a0 (fun j o hj ho => by
          rw [List.getElem?_take] at hj
          split at hj
          · have : dstOf ops j = some s := by unfold dstOf; rw [Array.getElem?_toList] at hj; rw [hj]; exact ho
            rw [Nat.zero_add, this]
          · cases hj)]
        split
        · rename_i h
          rw [Array.getElem?_eq_getElem (by rw [inv.size]; exact h.2)]
          simp [inv.size, h.2]
        · rename_i h
          by_cases hsz : s < a0.tmps.size
          · refine inv.keep s fun i hi e => h ⟨?_, hsz⟩
            obtain ⟨o, ho⟩ := hat i hi
            refine ⟨o, ?_, by unfold dstOf at e; rw [ho] at e; exact e⟩
            rw [List.mem_take_iff_getElem]
            have := Array.getElem?_eq_some_iff.1 ho
            exact ⟨i, by simp; omega, by simpa using this.2⟩
          · rw [Array.getElem?_eq_none (by rw [inv.size]; omega), Array.getElem?_eq_none (by omega)]
      generalize putAll (fun i => match dstOf ops i with | some d => a.tmps.getD d undef | none => undef) (ops.toList.take n) 0 a0 = b at *
      obtain ⟨ta, da⟩ := a
      obtain ⟨tb, db⟩ := b
      have e1 : ta = tb := Array.ext_getElem? ht1
      have e2 : da = db := inv.defers.trans hd1.symm
      rw [e1, e2]
    rw [Nat.zero_add, ha, hdn]
    refine htail _ w inv.cls fun i d hi hd => ?_
    have := inv.known i hi (hk i hi) d hd
    simpa [hd] using this
  | succ f ih =>
    intro done a w hcount inv
    have hex : ∃ i, i < n ∧ done.getD i true = false := by
      have : 0 < (List.range n).countP (fun i => !done.getD i true) := by omega
      obtain ⟨i, hi, hd⟩ := List.countP_pos_iff.1 this
      exact ⟨i, List.mem_range.1 hi, by simpa using hd⟩
    have hready : ∃ i, i < n ∧ i ∈ Region.ready .any ops done := by
      obtain ⟨i0, hi0, hd0⟩ := hex
      have key : ∀ m, m < n → done.getD m true = false → ∃ i, i < n ∧ i ∈ Region.ready .any ops done := by
        intro m
        induction m using Nat.strongRecOn with
        | _ m ihm =>
          intro hm hd
          obtain ⟨o, ho⟩ := hat m hm
          by_cases hw : ∀ e ∈ o.after, Region.binds .any e = true → done.getD e.on false = true
          · exact ⟨m, hm, mem_ready.2 ⟨hd, o, ho, hw⟩⟩
          · simp only [Classical.not_forall] at hw
            obtain ⟨e, he, hb, hnd⟩ := hw
            have hlt := (hgd m o hm ho).2.1 e he hb
            refine ihm e.on hlt (by omega) ?_
            have hi' : e.on < done.size := by rw [inv.head.size]; omega
            simp [hi'] at hnd ⊢
            exact hnd
      exact key i0 hi0 hd0
    obtain ⟨r, hr, hrr⟩ := hready
    rw [Nat.succ_add]
    have hstep : ∀ i o v w', i < n → i ∈ Region.ready .any ops done → ops[i]? = some o → I i v w' → Below w.heap.size w w' →
        (List.range n).countP (fun j => !(done.setIfInBounds i true).getD j true) = f ∧ FlowInv ops n I w0 a0 (done.setIfInBounds i true) (a.put o.dst v) w' := by
      intro i o v w' hin hi ho hv hB
      obtain ⟨hun, o', ho', hwait⟩ := mem_ready.1 hi
      obtain ⟨g1, g2, g3⟩ := hgd i o hin ho
      refine ⟨?_, inv.head.set hi hin, inv.cls.more hB, by rw [put_defers]; exact inv.defers, by rw [put_size]; exact inv.size, fun s hs' => ?_, fun j hj hdj d hd => ?_⟩
      · have hii : i < done.size := by rw [inv.head.size]; omega
        have hcp := count_step done i hii hun n hin
        omega
      · rw [put_get, if_neg (fun h => hs' i hin (by unfold dstOf; rw [ho]; exact h.1))]
        exact inv.keep s hs'
      · by_cases e : j = i
        · subst e
          have hd' : o.dst = some d := by unfold dstOf at hd; rw [ho] at hd; exact hd
          have : (a.put o.dst v).tmps.getD d undef = v := by
            rw [Array.getD_eq_getD_getElem?, put_get, if_pos ⟨hd', by rw [inv.size]; exact (g3 d hd').1⟩]; rfl
          rw [this]; exact hv
        · have hdj' : done.getD j false = true := by rwa [getD_set_ne false (Ne.symm e)] at hdj
          have : (a.put o.dst v).tmps.getD d undef = a.tmps.getD d undef := by
            rw [Array.getD_eq_getD_getElem?, put_get, if_neg (fun h => (g3 d h.1).2 j hj e hd), ← Array.getD_eq_getD_getElem?]
          rw [this]
          exact hI j _ w w' hj (inv.known j hj hdj' d hd) hB
    have hdeps : ∀ i o, i < n → i ∈ Region.ready .any ops done → ops[i]? = some o → ∀ j d, dstOf ops j = some d → (o.after.any fun e => Region.binds .any e && e.on == j) = true → I j (a.tmps.getD d undef) w := by
      intro i o hin hi ho j d hd hj
      obtain ⟨hun, o', ho', hwait⟩ := mem_ready.1 hi
      obtain rfl : o' = o := Option.some.inj (ho'.symm.trans ho)
      obtain ⟨g1, g2, g3⟩ := hgd i o' hin ho
      obtain ⟨k, hk, hk2⟩ := Array.any_eq_true.1 hj
      simp only [Bool.and_eq_true, beq_iff_eq] at hk2
      have hmem := Array.getElem_mem hk
      have hl := hwait _ hmem hk2.1
      have hlt := g2 _ hmem hk2.1
      rw [hk2.2] at hl hlt
      exact inv.known j (by omega) hl d hd
    have hwant : ∀ i o, i < n → i ∈ Region.ready .any ops done → ops[i]? = some o → Region.wanted o (yielded ops a.tmps) = true := by
      intro i o hin hi ho
      unfold Region.wanted
      cases hg : o.guard with
      | none => rfl
      | some gb =>
        obtain ⟨g, b⟩ := gb
        obtain ⟨q2, d, hd⟩ := (hgd i o hin ho).1 g b hg
        unfold Region.waitsFor at q2
        rw [ho] at q2
        have hv := hguard i o g b hin ho hg _ _ (hdeps i o hin hi ho g d hd q2)
        have hv2 : a.tmps[d]? = some (.bool b) := by
          rw [Array.getD_eq_getD_getElem?] at hv
          cases hq : a.tmps[d]? with
          | none => rw [hq] at hv; cases hv
          | some u => rw [hq] at hv; exact congrArg some hv
        have hy : yielded ops a.tmps g = some b := by
          unfold dstOf at hd
          unfold yielded
          rw [hd]
          simp [hv2]
        simp [hy]
    have hkeep : ∀ s, (∀ j, j < n → dstOf ops j ≠ some s) → a.tmps.getD s undef = a0.tmps.getD s undef := fun s hs' => by rw [Array.getD_eq_getD_getElem?, inv.keep s hs', ← Array.getD_eq_getD_getElem?]
    by_cases hbut : ∀ i, i < n → i ≠ late → done.getD i true = true
    · have hrl : r = late := Classical.byContradiction fun h => by
        have h1 := hbut r hr h
        rw [(mem_ready.1 hrr).1] at h1; cases h1
      subst hrl
      have hdn : done = doneBut ops n r := by
        apply Array.ext_getElem?
        intro i
        by_cases hi : i < ops.size
        · have hi' : i < done.size := by rw [inv.head.size]; exact hi
          have h1 : (doneBut ops n r)[i]? = some (decide (i < n) && decide (i ≠ r)) := by simp [doneBut, hi]
          rw [h1, Array.getElem?_eq_getElem hi']
          by_cases hin : i < n
          · by_cases hir : i = r
            · subst hir
              have := (mem_ready.1 hrr).1
              simp [hi'] at this
              simp [this]
            · have := hbut i hin hir
              simp [hi'] at this
              simp [hin, hir, this]
          · have := inv.head.tail i (by omega) hi
            simp [hi'] at this
            simp [hin, this]
        · rw [Array.getElem?_eq_none (by rw [inv.head.size]; omega), Array.getElem?_eq_none (by simp [doneBut]; omega)]
      obtain ⟨o, ho⟩ := hat r hr
      obtain ⟨v, hrun, hv⟩ := hlate o hr ho a w inv.cls hkeep (hdeps r o hr hrr ho)
      obtain ⟨q1, q2⟩ := hstep r o v w hr hrr ho hv (Below.refl _ w)
      have hw := hwant r o hr hrr ho
      have hfr := hlt8.resolve_left (by omega)
      rw [← hdn] at hfr
      exact wpAny_take ho hsel hfr.1 hfr.2 (fun c a w h => hQ c _ _ a w h) (.inl ⟨hw, hrun⟩) (ih _ _ _ q1 q2)
    · simp only [Classical.not_forall] at hbut
      obtain ⟨u, hu, hul, hud⟩ := hbut
      have hud' : done.getD u false = false := by
        have hi' : u < done.size := by rw [inv.head.size]; omega
        simp [hi'] at hud ⊢
        exact hud
      refine ⟨fun e => (by rw [e] at hrr; cases hrr), fun i hi => ?_⟩
      obtain ⟨hun, o, ho, hwait⟩ := mem_ready.1 hi
      have hin : i < n := Nat.lt_of_not_le fun h => by
        have his : i < ops.size := (Array.getElem?_eq_some_iff.1 ho).1
        have hw := ((hdir i his).resolve_left (by omega) u hu).resolve_left hul
        have := reachM_done inv.head.closed ho hwait hw (by omega)
        rw [hud'] at this
        cases this
      unfold wpOp
      rw [ho]
      have hw := hwant i o hin hi ho
      simp only [hw, if_true]
      refine .inl (Oper.wp_mono ?_ (hop i o hin ho a w inv.cls hkeep (hdeps i o hin hi ho)))
      rintro a' w' ⟨v, rfl, hv, hB⟩
      obtain ⟨q1, q2⟩ := hstep i o v w' hin hi ho hv hB
      exact ih _ _ _ q1 q2

/-- The region, told as a flow. -/
theorem wp_region_flowM {id : Nat} {Q : Exit → Act → World → Prop} {a : Act} {w : World} {l : List Oper} (n late : Nat) (I : Nat → Value → World → Prop) (hm : P.follows .mixedOrders = true) (hB : flowMB l.toArray n late a.tmps.size = true)
    (hQ : ∀ c d v a w, Q (.panic c) (a.put d v) w → Q (.panic c) a w)
    (hguard : ∀ i o g b, i < n → l.toArray[i]? = some o → o.guard = some (g, b) → ∀ v w, I g v w → v = .bool b)
    (hI : ∀ i v w w', i < n → I i v w → Below w.heap.size w w' → I i v w')
    (hop : ∀ i o, i < n → l.toArray[i]? = some o → ∀ a' w', Cls w w' → (∀ s, (∀ j, j < n → dstOf l.toArray j ≠ some s) → a'.tmps.getD s undef = a.tmps.getD s undef) →
      (∀ j d, dstOf l.toArray j = some d → (o.after.any fun e => Region.binds .any e && e.on == j) = true → I j (a'.tmps.getD d undef) w') →
      o.wp P a' w' (fun a'' w'' => ∃ v, a'' = a'.put o.dst v ∧ I i v w'' ∧ Below w'.heap.size w' w'') Q)
    (hlate : ∀ o, late < n → l.toArray[late]? = some o → ∀ (a' : Act) w', Cls w w' → (∀ s, (∀ j, j < n → dstOf l.toArray j ≠ some s) → a'.tmps.getD s undef = a.tmps.getD s undef) →
      (∀ j d, dstOf l.toArray j = some d → (o.after.any fun e => Region.binds .any e && e.on == j) = true → I j (a'.tmps.getD d undef) w') → ∃ v, (∀ w, (execOp a'.eval o).run P w = .ok (.value v) w) ∧ I late v w')
    (htail : ∀ v w', Cls w w' → (∀ i d, i < n → dstOf l.toArray i = some d → I i (v i) w') → wpList P l.toArray Q (l.drop n) (putAll v (l.take n) 0 a) w') : (Code.region id l.toArray true).wp P Q a w := by
  have hB' := hB
  simp only [flowMB, Bool.and_eq_true, decide_eq_true_eq] at hB'
  have hn : n < l.length := by simpa using hB'.1.1.1.1.1
  have h3 : (l.drop n).length = l.toArray.size - n := by simp
  refine wp_region_any hm ?_
  have hc0 : (List.range n).countP (fun i => !(Array.replicate l.toArray.size false).getD i true) = n := by
    have : (List.range n).countP (fun i => !(Array.replicate l.toArray.size false).getD i true) = (List.range n).length := List.countP_eq_length.2 fun i hi => by
      have := List.mem_range.1 hi
      simp [show i < l.length by omega]
    rw [this, List.length_range]
  have K := flowM_any (P := P) (Q := Q) (w0 := w) (a0 := a) hB hQ hguard hI hop hlate (fun v w' hc hv => by
    have := wpAny_of_seq (P := P) (md := .any) (Q' := Q) (l.drop n) n _ _ w' (fun j => by simp [List.getElem?_drop]) (by rw [h3]; exact hB'.2) (htail v w' hc hv)
    rw [h3] at this
    simpa using this) n (Array.replicate l.toArray.size false) a { w with drawn := w.drawn + 1 } hc0
    ⟨⟨by simp, fun j oj _ hx => (by rw [getD_replicate_false] at hx; cases hx), fun t _ ht => getD_in (by simpa using ht) (getD_replicate_false _ _)⟩, ⟨(Below.refl _ w).drew⟩, rfl, rfl, fun _ _ => rfl, fun i _ hx => (by rw [getD_replicate_false] at hx; cases hx)⟩
  rwa [show n + (l.toArray.size - n) = l.toArray.size by simp; omega] at K
end
end Go.Proofs.Ytfocalbfefnbnaa

/- The walk of CodecValidators, over contracts. -/
namespace Go.Proofs.Ytfocalbfefnbnaa
open Go.RowKit
set_option linter.unusedVariables false
set_option linter.unusedSimpArgs false
set_option maxRecDepth 100000

theorem rneqs {o : Oper} {a : Act} {w : World} {s : ByteArray} (x y : Operand) (ho : o.op = .binOp .neq 9 x y 9) (hx : a.eval x = .string s) (hy : a.eval y = .string s) : (execOp a.eval o).run Try.prog w = .ok (.value (.bool false)) w := by
  unfold execOp
  simp only [ho, hx, hy]
  simp [go_sem, toList_beq]
theorem valL_oneV {w : World} {x : Vt} {sb sk : Value} (h : VAt w x sb sk) : (valL x.num x.root sb sk).toArray.all (·.oneCell') = true ∧ (valL x.num x.root sb sk).length = 35 := by
  cases x
  rename_i n r bs ks
  rw [VAt] at h
  obtain ⟨⟨_, hr, _⟩, hT, ao, cap, rfl, _⟩ := h
  exact ⟨valL_oneC _ _ _ _ hT.sl trivial, valL_length _ _ _ _ hr⟩
set_option maxHeartbeats 8000000 in
theorem codecValidator_walk (C zs : List Value) (X : Vt) (BS : List Nat) (D : Dt) (w : World) (hT : Ty Try.prog 26 zs) (hl : C.length = zs.length) (h1 : C.toArray.all (·.oneCell') = true) (hb8 : ∀ z ∈ BS, z < 256)
    (href : ∀ wq, Calls Try.prog 5 #[.agg C.toArray] wq fun x w' => ∃ v, x = .returned v ∧ IsV w' v X ∧ Below wq.heap.size wq w')
    (henc : ∀ wq, Calls Try.prog 6 #[.agg C.toArray] wq fun x w' => ∃ v, x = .returned v ∧ Row w' wq.heap.size v BS ∧ Below wq.heap.size wq w')
    (hdec : ∀ v wq, IsB wq v BS → Calls Try.prog 7 #[v] wq fun x w' => x = .returned (.tuple #[.agg C.toArray, .int .i64 0]) ∧ Below wq.heap.size wq w')
    (hkd : ∀ wq, Calls Try.prog 9 #[] wq fun x w' => ∃ p, x = .returned (.pointer (some ⟨p, 0, none⟩)) ∧ DAt w' D p ∧ Below wq.heap.size wq w')
    (henv : ∀ p u wq, DAt wq D p → IsV wq u X → Calls Try.prog 8 #[.pointer (some ⟨p, 0, none⟩), u] wq fun x w' => ∃ v, x = .returned v ∧ Row w' wq.heap.size v BS ∧ Below wq.heap.size wq w')
    (hsm : ∀ u v wq, IsV wq u X → IsV wq v X → Calls Try.prog 10 #[u, v] wq fun x w' => x = .returned (.bool true) ∧ Below wq.heap.size wq w') :
    Calls Try.prog 3 #[.agg C.toArray] w fun e w' => e = .returned (.bool true) ∧ Below w.heap.size w w' := by
  have HT := hid hT
  have HL := hid hl
  have H1C := hid h1
  have HB8 := hid hb8
  have HREF := hid href
  have HENC := hid henc
  have HDEC := hid hdec
  have HKD := hid hkd
  have HENV := hid henv
  have HSM := hid hsm
  clear hT hl h1 hb8 href henc hdec hkd henv hsm
  go_enter Try.func3, Try.ntmps3
  go_wp2_with (refine wpList_box_c rfl 1 rfl (.tmp 0) rfl C rfl ?_; intro w1 H1 B1 S1)
  refine (awake_any w1).mono ?_
  rintro x w2 ⟨rfl, B2⟩
  have X2 := H1.keep B2
  have T2 := below_more B1 B2 (Nat.le_refl _)
  clear H1 B1 B2 S1
  go_wp2_with ((with_reducible refine at_list' ?_); (refine wpList_load_c HT.out rfl (.tmp 1) rfl w.heap.size C rfl HL.out X2 ?_))
  refine (HREF.out w2).mono ?_
  rintro x w3 ⟨v3, rfl, q1, q2⟩
  obtain ⟨sb, sk, rfl, hV⟩ := q1
  obtain ⟨hone, hlen⟩ := valL_oneV hV
  obtain ⟨cs, hcs⟩ : ∃ cs, Same (valL X.num X.root sb sk) cs := ⟨_, ⟨rfl⟩⟩
  have hIV : ∀ wq, Below w3.heap.size w3 wq → IsV wq (.agg cs.toArray) X := fun wq hq => ⟨sb, sk, by rw [hcs.out], hV.keep hq⟩
  rw [hcs.out] at hone hlen ⊢
  have HIV := hid hIV
  have HONE := hid hone
  have HCL := hid hlen
  have X3 := X2.keep q2
  have T3 := below_more T2 q2 (Nat.le_refl _)
  have tyV : Ty Try.prog 31 (valL 0 (zeros 32) nilS nilS) := ⟨zeroVal, _, Try.underlying31, rfl⟩
  have HTV := hid tyV
  have hvl : (valL 0 (zeros 32) nilS nilS).length = 35 := valL_length _ _ _ _ (zeros_length 32)
  have HVL := hid (hlen.trans hvl.symm)
  clear X2 T2 q2 hV hone hlen hIV tyV hvl hcs
  go_wp2_with ((with_reducible refine at_list' ?_); first
    | (refine wpList_alloc_c HTV.out rfl 3 rfl rfl ?_; intro w4 H4 B4 S4)
    | (refine wpList_store_c HTV.out rfl (.tmp 3) (.tmp 10) rfl w3.heap.size cs rfl rfl HVL.out HONE.out _ H4 rfl ?_; intro w5 H5 O5; have B35 := hid (below_only B4 O5 (Nat.le_refl _)); have X5 := X3.keep B35.out)
    | (refine wpList_load_c HT.out rfl (.tmp 1) rfl w.heap.size C rfl HL.out X5 ?_))
  have T5 := below_more T3 B35.out (Nat.le_refl _)
  have hgv : w3.heap.size < w5.heap.size := H5.lt
  refine (HENC.out w5).mono ?_
  rintro x w6 ⟨v4, rfl, R6, B6⟩
  have HV6 := hid (R6.isB HB8.out)
  have X6 := X5.keep B6
  have V6 := H5.keep B6
  have T6 := below_more T5 B6 (Nat.le_refl _)
  have B36 := hid (below_more B35.out B6 (Nat.le_refl _))
  clear R6 B6 X5 H5 O5 H4 B4 S4 T5 X3 T3 B35
  go_wp2_with fail
  refine (HDEC.out v4 w6 HV6.out).mono ?_
  rintro x w7 ⟨rfl, B7⟩
  have V4 := HV6.out.keep B7
  have X7 := X6.keep B7
  have V7 := V6.keep B7
  have T7 := below_more T6 B7 (Nat.le_refl _)
  have B37 := hid (below_more B36.out B7 (Nat.le_refl _))
  clear B7 X6 V6 T6 B36 HV6
  go_wp2_with ((with_reducible refine at_list' ?_); first
    | (refine wpList_alloc_c HT.out rfl 5 rfl rfl ?_; intro w8 H8 B8 S8)
    | (refine wpList_store_c HT.out rfl (.tmp 5) (.tmp 16) rfl w7.heap.size C rfl rfl HL.out H1C.out _ H8 rfl ?_; intro w9 H9 O9; have B79 := hid (below_only B8 O9 (Nat.le_refl _))))
  have HV4 := hid (V4.keep B79.out)
  have HX1 := hid (X7.keep B79.out)
  have HG3 := hid (V7.keep B79.out)
  have T9 := hid (below_more T7 B79.out (Nat.le_refl _))
  have HX5 := hid H9
  have HX := hid (HIV.out w9 (below_more B37.out B79.out (Nat.le_refl _)))
  obtain ⟨gv, hgve⟩ : ∃ g, w3.heap.size = g := ⟨_, rfl⟩
  obtain ⟨g5, hg5e⟩ : ∃ g, w7.heap.size = g := ⟨_, rfl⟩
  rw [hgve] at HG3 ⊢
  rw [hg5e] at HX5 ⊢
  clear V4 X7 V7 T7 H8 B8 S8 H9 O9 B79 B37 HIV hgve hg5e hgv
  refine wp_region_flowM 13 13 (fun i v wq => match i with
    | 0 => v = v4
    | 1 => v = .string (strOf BS)
    | 2 => ∃ p, v = .pointer (some ⟨p, 0, none⟩) ∧ DAt wq D p
    | 3 => v = .agg cs.toArray
    | 4 => IsB wq v BS
    | 5 => v = .string (strOf BS)
    | 6 => v = .bool false
    | 7 => v = .bool false
    | 8 => v = .agg C.toArray
    | 9 => IsV wq v X
    | 10 => v = .agg cs.toArray
    | 11 => v = .bool true
    | _ => v = .bool false) (by kernel_rfl) (by kernel_rfl) (fun _ d _ _ _ h => by cases d <;> exact h) ?_ ?_ ?_ ?_ ?_
  · intro i o g b hi ho hg v wq hv
    match i, hi with
    | 0, _ => cases ho; cases hg
    | 1, _ => cases ho; cases hg
    | 2, _ => cases ho; cases hg
    | 3, _ => cases ho; cases hg
    | 4, _ => cases ho; cases hg
    | 5, _ => cases ho; cases hg
    | 6, _ => cases ho; cases hg
    | 7, _ => cases ho; cases hg
    | 8, _ => cases ho; cases hg; exact hv
    | 9, _ => cases ho; cases hg; exact hv
    | 10, _ => cases ho; cases hg; exact hv
    | 11, _ => cases ho; cases hg; exact hv
    | 12, _ => cases ho; cases hg; exact hv
    | (k + 13), hk => exact absurd hk (by omega)
  · intro i v wq wq' hi hv hb
    match i, hi with
    | 0, _ => exact hv
    | 1, _ => exact hv
    | 2, _ => obtain ⟨p, e, h⟩ := hv; exact ⟨p, e, h.keep hb⟩
    | 3, _ => exact hv
    | 4, _ => exact hv.keep hb
    | 5, _ => exact hv
    | 6, _ => exact hv
    | 7, _ => exact hv
    | 8, _ => exact hv
    | 9, _ => exact hv.keep hb
    | 10, _ => exact hv
    | 11, _ => exact hv
    | 12, _ => exact hv
    | (k + 13), hk => exact absurd hk (by omega)
  · intro i o hi ho aq wq hc hk hdep
    match i, hi with
    | 0, _ =>
      cases ho
      exact flow_move (.tmp 4) rfl (hk 4 (by decide))
    | 1, _ =>
      cases ho
      have e18 : aq.tmps.getD 18 undef = v4 := hdep 0 18 rfl (by kernel_rfl)
      exact flow_value _ (rconv (.tmp 18) rfl (by rw [show aq.eval (.tmp 18) = v4 from by simpa [Act.eval] using e18]; exact HV4.out.keep hc.bel)) rfl
    | 2, _ =>
      cases ho
      refine flow_fun 9 _ _ rfl (fun _ _ => by simp [go_sem]) #[] (by simp) ?_
      refine (HKD.out wq).mono ?_
      rintro e w' ⟨p, rfl, h, B⟩
      exact ⟨_, rfl, ⟨p, rfl, h⟩, B⟩
    | 3, _ =>
      cases ho
      exact flow_value _ (run_mid 31 (.tmp 3) rfl gv 0 (by simpa [Act.eval] using hk 3 (by decide)) cs ((HG3.out.keep hc.bel).range 0 cs (fun j v hv => by rw [Nat.zero_add]; exact hv)) _ Try.underlying31 rfl (by rw [HCL.out]; kernel_rfl)) rfl
    | 4, _ =>
      cases ho
      obtain ⟨p, e20, hD⟩ : ∃ p, aq.tmps.getD 20 undef = .pointer (some ⟨p, 0, none⟩) ∧ DAt wq D p := hdep 2 20 rfl (by kernel_rfl)
      have e21 : aq.tmps.getD 21 undef = .agg cs.toArray := hdep 3 21 rfl (by kernel_rfl)
      refine flow_fun 8 _ _ rfl (fun _ _ => by simp [go_sem]) #[.pointer (some ⟨p, 0, none⟩), .agg cs.toArray] (by rw [show (#[Operand.tmp 20, Operand.tmp 21] : Array Operand).map aq.eval = #[aq.tmps.getD 20 undef, aq.tmps.getD 21 undef] from by simp [Act.eval], e20, e21]) ?_
      refine (HENV.out p _ wq hD (HX.out.keep hc.bel)).mono ?_
      rintro e w' ⟨v, rfl, R, B⟩
      exact ⟨_, rfl, R.isB HB8.out, B⟩
    | 5, _ =>
      cases ho
      have e22 : IsB wq (aq.tmps.getD 22 undef) BS := hdep 4 22 rfl (by kernel_rfl)
      exact flow_value _ (rconv (.tmp 22) rfl (by simpa [Act.eval] using e22)) rfl
    | 6, _ =>
      cases ho
      have e19 : aq.tmps.getD 19 undef = .string (strOf BS) := hdep 1 19 rfl (by kernel_rfl)
      have e23 : aq.tmps.getD 23 undef = .string (strOf BS) := hdep 5 23 rfl (by kernel_rfl)
      exact flow_value _ (rneqs (.tmp 19) (.tmp 23) rfl (by simpa [Act.eval] using e19) (by simpa [Act.eval] using e23)) rfl
    | 7, _ =>
      cases ho
      have e24 : aq.tmps.getD 24 undef = .bool false := hdep 6 24 rfl (by kernel_rfl)
      exact flow_move (.tmp 24) rfl (by simpa [Act.eval] using e24)
    | 8, _ =>
      cases ho
      exact flow_value _ (run_mid 26 (.tmp 1) rfl w.heap.size 0 (by simpa [Act.eval] using hk 1 (by decide)) C ((HX1.out.keep hc.bel).range 0 C (fun j v hv => by rw [Nat.zero_add]; exact hv)) _ Try.underlying26 rfl (by rw [HL.out]; exact HT.out.size)) rfl
    | 9, _ =>
      cases ho
      have e26 : aq.tmps.getD 26 undef = .agg C.toArray := hdep 8 26 rfl (by kernel_rfl)
      refine flow_fun 5 _ _ rfl (fun _ _ => by simp [go_sem]) #[.agg C.toArray] (by rw [show (#[Operand.tmp 26] : Array Operand).map aq.eval = #[aq.tmps.getD 26 undef] from by simp [Act.eval], e26]) ?_
      refine (HREF.out wq).mono ?_
      rintro e w' ⟨v, rfl, h, B⟩
      exact ⟨_, rfl, h, B⟩
    | 10, _ =>
      cases ho
      exact flow_value _ (run_mid 31 (.tmp 3) rfl gv 0 (by simpa [Act.eval] using hk 3 (by decide)) cs ((HG3.out.keep hc.bel).range 0 cs (fun j v hv => by rw [Nat.zero_add]; exact hv)) _ Try.underlying31 rfl (by rw [HCL.out]; kernel_rfl)) rfl
    | 11, _ =>
      cases ho
      have e27 : IsV wq (aq.tmps.getD 27 undef) X := hdep 9 27 rfl (by kernel_rfl)
      have e28 : aq.tmps.getD 28 undef = .agg cs.toArray := hdep 10 28 rfl (by kernel_rfl)
      refine flow_fun 10 _ _ rfl (fun _ _ => by simp [go_sem]) #[aq.tmps.getD 27 undef, .agg cs.toArray] (by rw [show (#[Operand.tmp 27, Operand.tmp 28] : Array Operand).map aq.eval = #[aq.tmps.getD 27 undef, aq.tmps.getD 28 undef] from by simp [Act.eval], e28]) ?_
      refine (HSM.out _ _ wq e27 (HX.out.keep hc.bel)).mono ?_
      rintro e w' ⟨rfl, B⟩
      exact ⟨_, rfl, rfl, B⟩
    | 12, _ =>
      cases ho
      have e29 : aq.tmps.getD 29 undef = .bool true := hdep 11 29 rfl (by kernel_rfl)
      refine flow_value _ ?_ rfl
      have e29' : aq.tmps[29]?.getD undef = .bool true := by simpa using e29
      unfold execOp
      simp [e29', go_sem]
    | (k + 13), hk => exact absurd hk (by omega)
  · intro o h13 ho
    omega
  intro vf w10 hc hv
  have e25 : vf 7 = _ := hv 7 25 (by decide) rfl
  have e30 : vf 12 = _ := hv 12 30 (by decide) rfl
  clear hv
  simp only [List.take_succ_cons, List.take_zero, List.drop_succ_cons, List.drop_zero, putAll, Act.put, List.setIfInBounds_toArray, List.set_cons_succ, List.set_cons_zero]
  rw [e25, e30]
  clear e25 e30
  have HX1 := hid (HX1.out.keep hc.bel)
  have HG3 := hid (HG3.out.keep hc.bel)
  have HX5 := hid (HX5.out.keep hc.bel)
  have HX := hid (HX.out.keep hc.bel)
  have T10 := hid (below_more T9.out hc.bel (Nat.le_refl _))
  clear hc T9
  go_wp2
  refine wp_region_flowM 7 7 (fun i v wq => match i with
    | 0 => v = .int .i64 0
    | 1 => v = .bool true
    | 2 => v = .bool true
    | 3 => v = .agg C.toArray
    | 4 => IsV wq v X
    | 5 => v = .agg cs.toArray
    | _ => v = .bool true) (by kernel_rfl) (by kernel_rfl) (fun _ d _ _ _ h => by cases d <;> exact h) ?_ ?_ ?_ ?_ ?_
  · intro i o g b hi ho hg v wq hv
    match i, hi with
    | 0, _ => cases ho; cases hg
    | 1, _ => cases ho; cases hg
    | 2, _ => cases ho; cases hg
    | 3, _ => cases ho; cases hg; exact hv
    | 4, _ => cases ho; cases hg; exact hv
    | 5, _ => cases ho; cases hg; exact hv
    | 6, _ => cases ho; cases hg; exact hv
    | (k + 7), hk => exact absurd hk (by omega)
  · intro i v wq wq' hi hv hb
    match i, hi with
    | 0, _ => exact hv
    | 1, _ => exact hv
    | 2, _ => exact hv
    | 3, _ => exact hv
    | 4, _ => exact hv.keep hb
    | 5, _ => exact hv
    | 6, _ => exact hv
    | (k + 7), hk => exact absurd hk (by omega)
  · intro i o hi ho aq wq hc hk hdep
    match i, hi with
    | 0, _ =>
      cases ho
      exact flow_move (.tmp 6) rfl (hk 6 (by decide))
    | 1, _ =>
      cases ho
      have e32 : aq.tmps.getD 32 undef = .int .i64 0 := hdep 0 32 rfl (by kernel_rfl)
      refine flow_value _ ?_ rfl
      have e32' : aq.tmps[32]?.getD undef = .int .i64 0 := by simpa using e32
      unfold execOp
      simp [e32', go_sem]
    | 2, _ =>
      cases ho
      have e33 : aq.tmps.getD 33 undef = .bool true := hdep 1 33 rfl (by kernel_rfl)
      exact flow_move (.tmp 33) rfl (by simpa [Act.eval] using e33)
    | 3, _ =>
      cases ho
      exact flow_value _ (run_mid 26 (.tmp 5) rfl g5 0 (by simpa [Act.eval] using hk 5 (by decide)) C ((HX5.out.keep hc.bel).range 0 C (fun j v hv => by rw [Nat.zero_add]; exact hv)) _ Try.underlying26 rfl (by rw [HL.out]; exact HT.out.size)) rfl
    | 4, _ =>
      cases ho
      have e35 : aq.tmps.getD 35 undef = .agg C.toArray := hdep 3 35 rfl (by kernel_rfl)
      refine flow_fun 5 _ _ rfl (fun _ _ => by simp [go_sem]) #[.agg C.toArray] (by rw [show (#[Operand.tmp 35] : Array Operand).map aq.eval = #[aq.tmps.getD 35 undef] from by simp [Act.eval], e35]) ?_
      refine (HREF.out wq).mono ?_
      rintro e w' ⟨v, rfl, h, B⟩
      exact ⟨_, rfl, h, B⟩
    | 5, _ =>
      cases ho
      exact flow_value _ (run_mid 31 (.tmp 3) rfl gv 0 (by simpa [Act.eval] using hk 3 (by decide)) cs ((HG3.out.keep hc.bel).range 0 cs (fun j v hv => by rw [Nat.zero_add]; exact hv)) _ Try.underlying31 rfl (by rw [HCL.out]; kernel_rfl)) rfl
    | 6, _ =>
      cases ho
      have e36 : IsV wq (aq.tmps.getD 36 undef) X := hdep 4 36 rfl (by kernel_rfl)
      have e37 : aq.tmps.getD 37 undef = .agg cs.toArray := hdep 5 37 rfl (by kernel_rfl)
      refine flow_fun 10 _ _ rfl (fun _ _ => by simp [go_sem]) #[aq.tmps.getD 36 undef, .agg cs.toArray] (by rw [show (#[Operand.tmp 36, Operand.tmp 37] : Array Operand).map aq.eval = #[aq.tmps.getD 36 undef, aq.tmps.getD 37 undef] from by simp [Act.eval], e37]) ?_
      refine (HSM.out _ _ wq e36 (HX.out.keep hc.bel)).mono ?_
      rintro e w' ⟨rfl, B⟩
      exact ⟨_, rfl, rfl, B⟩
    | (k + 7), hk => exact absurd hk (by omega)
  · intro o h7 ho
    omega
  intro vf w11 hc hv
  have e34 : vf 2 = _ := hv 2 34 (by decide) rfl
  have e38 : vf 6 = _ := hv 6 38 (by decide) rfl
  clear hv
  simp only [List.take_succ_cons, List.take_zero, List.drop_succ_cons, List.drop_zero, putAll, Act.put, List.setIfInBounds_toArray, List.set_cons_succ, List.set_cons_zero]
  rw [e34, e38]
  have T11 := hid (below_more T10.out hc.bel (Nat.le_refl _))
  clear e34 e38 hc
  go_wp2
  go_ret
  exact ⟨rfl, T11.out⟩
end Go.Proofs.Ytfocalbfefnbnaa

/- The put of a Validator, and of a truth. -/
namespace Go.Proofs.Ytfocalbfefnbnaa
open Go.RowKit Go.Shelf
set_option linter.unusedVariables false
set_option linter.unusedSimpArgs false
set_option maxRecDepth 100000

def bN (b : Bool) : Nat := if b then 1 else 0
def vlC (ke cr : List Nat) (ef : Nat) (sl : Bool) (el ac xi wi : Nat) : List Value := cellsB ke ++ (cellsB cr ++ ([.int .u64 (ef : Nat), .bool sl, .int .u64 (el : Nat), .int .u64 (ac : Nat), .int .u64 (xi : Nat), .int .u64 (wi : Nat)]))
def vlF (ke cr : List Nat) (ef : Nat) (sl : Bool) (el ac xi wi : Nat) : List (List Nat × Bool) := rootF [ke, cr] ++ (numF [ef] ++ ([([bN sl], false)] ++ numF [el, ac, xi, wi]))
theorem vlC_length (ke cr : List Nat) (ef : Nat) (sl : Bool) (el ac xi wi : Nat) (hk : ke.length = 32) (hc : cr.length = 32) : (vlC ke cr ef sl el ac xi wi).length = 70 := by simp [vlC, cellsB_length, hk, hc]
theorem vlC_one (ke cr : List Nat) (ef : Nat) (sl : Bool) (el ac xi wi : Nat) : (vlC ke cr ef sl el ac xi wi).toArray.all (·.oneCell') = true := by
  simp only [List.all_toArray, List.all_eq_true]
  intro v hv
  simp only [vlC, List.mem_append, List.mem_cons, List.not_mem_nil, or_false] at hv
  rcases hv with hv | hv | hv | hv | hv | hv | hv | hv
  · exact cellsB_one ke v hv
  · exact cellsB_one cr v hv
  · subst hv; rfl
  · subst hv; rfl
  · subst hv; rfl
  · subst hv; rfl
  · subst hv; rfl
  · subst hv; rfl
theorem vlC_0 (ke cr : List Nat) (ef : Nat) (sl : Bool) (el ac xi wi : Nat) (j : Nat) (v : Value) (h : (cellsB ke)[j]? = some v) : (vlC ke cr ef sl el ac xi wi)[0 + j]? = some v := by
  rw [Nat.zero_add]; unfold vlC; rw [List.getElem?_append_left (List.getElem?_eq_some_iff.1 h).1]; exact h
theorem vlC_32 (ke cr : List Nat) (ef : Nat) (sl : Bool) (el ac xi wi : Nat) (hk : ke.length = 32) (j : Nat) (v : Value) (h : (cellsB cr)[j]? = some v) : (vlC ke cr ef sl el ac xi wi)[32 + j]? = some v := get_mid (by rw [cellsB_length, hk]) h
theorem vlC_64 (ke cr : List Nat) (ef : Nat) (sl : Bool) (el ac xi wi : Nat) (hk : ke.length = 32) (hc : cr.length = 32) (j : Nat) (v : Value) (h : ([.int .u64 (ef : Nat), .bool sl, .int .u64 (el : Nat), .int .u64 (ac : Nat), .int .u64 (xi : Nat), .int .u64 (wi : Nat)] : List Value)[j]? = some v) : (vlC ke cr ef sl el ac xi wi)[64 + j]? = some v := by
  unfold vlC
  rw [List.getElem?_append_right (by rw [cellsB_length, hk]; omega), List.getElem?_append_right (by rw [cellsB_length, cellsB_length, hk, hc]; omega), cellsB_length, cellsB_length, hk, hc, show 64 + j - 32 - 32 = j by omega]
  exact h
theorem Try.ty26 : Ty Try.prog 26 (vlC (zeros 32) (zeros 32) 0 false 0 0 0 0) := ⟨by kernel_rfl, _, Try.underlying26, rfl⟩
theorem one_isB {w : World} {b : Nat} {n : Nat} {t : TypeId} (h : w.heap[b]? = some (.cells #[.int .u8 (n : Nat)] t (0, 0))) (hn : n < 256) : IsB w (.slice (some ⟨b, 0, none⟩) 1 1) [n] := by
  refine ⟨⟨some ⟨b, 0, none⟩, 1, rfl, Nat.le_refl _, by decide, (fun h => nomatch h), Or.inr ⟨b, 0, rfl, fun i hi => ?_⟩⟩, fun z hz => by rw [List.mem_singleton.1 hz]; exact hn⟩
  have : i = 0 := by simp at hi; omega
  subst this
  exact cell_of_row w b 0 _ _ (0, 0) h
set_option maxHeartbeats 1000000 in
theorem putTr_any (g : Nat) (S : Nat → Prop) (fs : List (List Nat × Bool)) (sl : Bool) (w : World) (hW : Wr w g S fs) (hn : fs.length + 1 < 2147483647) :
    Calls Try.prog 54 #[.pointer (some ⟨g, 0, none⟩), .bool sl] w fun x w' => (∃ u, x = .returned u) ∧ Wr w' g (more S w w') (fs ++ [([bN sl], false)]) ∧ w.grownBy w' (some g) := by
  have hg := hW.gt
  have hS := hW.out
  have hlt := hW.lt
  have hW0 : Wr w g (more S w w) fs := hW.grow (fun k a => .inl a) (fun a => by rcases a with a | a; exact hS a; omega) (fun k a => by rcases a with a | a; exact hlt k a; omega)
  have HW := hid hW0
  clear hW hW0
  cases sl
  · go_enter Try.func54, Try.ntmps54
    go_wp2_with fail
    have B1 : Below w.heap.size w (w.alloc (.cells #[.int .u8 0] 169)) := (Below.refl _ w).alloc (Nat.le_refl _) _
    have H1 := heap_alloc_new w (.cells #[.int .u8 0] 169)
    generalize w.alloc (.cells #[.int .u8 0] 169) = w1 at B1 H1 ⊢
    have HI : IsB w1 (.slice (some ⟨w.heap.size, 0, none⟩) 1 1) [0] := one_isB (n := 0) H1 (by decide)
    have HC := hid (fixed_wr g (more S w w1) fs _ [0] w1 (HW.out.start B1 hg hS hlt (Nat.le_refl _)) HI (by omega) (by decide))
    have HB := hid B1
    clear H1 B1 HI
    refine HC.out.mono ?_
    rintro x w2 ⟨⟨u, rfl⟩, q1, q2⟩
    have s1 := HB.out.size
    have s2 := q2.size
    have W2 := hid (Wr.next hg hS hlt s1 s2 q1)
    have G2 := hid (grown_trans (grown_below (grown_refl w g) HB.out) q2)
    clear q1 q2 HC
    go_wp2
    go_end0
    exact ⟨⟨_, rfl⟩, W2.out, G2.out⟩
  · go_enter Try.func54, Try.ntmps54
    go_wp2_with fail
    have B1 : Below w.heap.size w (w.alloc (.cells #[.int .u8 1] 169)) := (Below.refl _ w).alloc (Nat.le_refl _) _
    have H1 := heap_alloc_new w (.cells #[.int .u8 1] 169)
    generalize w.alloc (.cells #[.int .u8 1] 169) = w1 at B1 H1 ⊢
    have HI : IsB w1 (.slice (some ⟨w.heap.size, 0, none⟩) 1 1) [1] := one_isB (n := 1) H1 (by decide)
    have HC := hid (fixed_wr g (more S w w1) fs _ [1] w1 (HW.out.start B1 hg hS hlt (Nat.le_refl _)) HI (by omega) (by decide))
    have HB := hid B1
    clear H1 B1 HI
    refine HC.out.mono ?_
    rintro x w2 ⟨⟨u, rfl⟩, q1, q2⟩
    have s1 := HB.out.size
    have s2 := q2.size
    have W2 := hid (Wr.next hg hS hlt s1 s2 q1)
    have G2 := hid (grown_trans (grown_below (grown_refl w g) HB.out) q2)
    clear q1 q2 HC
    go_wp2
    go_end0
    exact ⟨⟨_, rfl⟩, W2.out, G2.out⟩
set_option maxHeartbeats 2000000 in
theorem putVl_any (g : Nat) (S : Nat → Prop) (fs : List (List Nat × Bool)) (ke cr : List Nat) (ef : Nat) (sl : Bool) (el ac xi wi : Nat) (w : World) (hW : Wr w g S fs) (hn : fs.length + 8 < 2147483647) (hk : ke.length = 32) (hk8 : ∀ z ∈ ke, z < 256) (hc : cr.length = 32) (hc8 : ∀ z ∈ cr, z < 256) (hef : ef < 18446744073709551616) (hel : el < 18446744073709551616) (hac : ac < 18446744073709551616) (hxi : xi < 18446744073709551616) (hwi : wi < 18446744073709551616) :
    Calls Try.prog 19 #[.pointer (some ⟨g, 0, none⟩), .agg (vlC ke cr ef sl el ac xi wi).toArray] w fun x w' => (∃ u, x = .returned u) ∧ Wr w' g (more S w w') (fs ++ vlF ke cr ef sl el ac xi wi) ∧ w.grownBy w' (some g) := by
  have hg := hW.gt
  have hS := hW.out
  have hlt := hW.lt
  have hW0 : Wr w g (more S w w) fs := hW.grow (fun k a => .inl a) (fun a => by rcases a with a | a; exact hS a; omega) (fun k a => by rcases a with a | a; exact hlt k a; omega)
  have HW := hid hW0
  have HA := hid (And.intro hk hk8)
  have HBB := hid (And.intro hc hc8)
  have D0 := hid (vlC_0 ke cr ef sl el ac xi wi)
  have D32 := hid (vlC_32 ke cr ef sl el ac xi wi hk)
  have D64 := hid (vlC_64 ke cr ef sl el ac xi wi hk hc 0 _ rfl)
  have D65 := hid (vlC_64 ke cr ef sl el ac xi wi hk hc 1 _ rfl)
  have D66 := hid (vlC_64 ke cr ef sl el ac xi wi hk hc 2 _ rfl)
  have D67 := hid (vlC_64 ke cr ef sl el ac xi wi hk hc 3 _ rfl)
  have D68 := hid (vlC_64 ke cr ef sl el ac xi wi hk hc 4 _ rfl)
  have D69 := hid (vlC_64 ke cr ef sl el ac xi wi hk hc 5 _ rfl)
  generalize vlC ke cr ef sl el ac xi wi = C at D0 D32 D64 D65 D66 D67 D68 D69 ⊢
  clear hW hW0 hk hk8 hc hc8
  go_enter Try.func19, Try.ntmps19
  go_wp2_with (first
    | (refine wpList_box_c rfl 3 rfl (.tmp 1) rfl C rfl ?_; intro w1 H1 B1 S1)
    | (refine wpList_load_mid rfl 23 (.tmp 5) rfl w.heap.size 0 (by exact rfl) (cellsB ke) _ (H1.range 0 (cellsB ke) D0.out) Try.und23 rfl (by rw [cellsB_length, HA.out.1]; exact Try.size23) ?_)
    | (refine wpList_load_mid rfl 23 (.tmp 7) rfl w.heap.size 32 (by exact rfl) (cellsB cr) _ (H1.range 32 (cellsB cr) D32.out) Try.und23 rfl (by rw [cellsB_length, HBB.out.1]; exact Try.size23) ?_)
    | (refine wpList_roots rfl 104 23 2 _ rfl Try.underlying104 Try.rootInfo [ke, cr] [.tmp 6, .tmp 8] rfl rfl (by simpa using And.intro HA.out.1 HBB.out.1) rfl (by omega) (by omega) ?_; intro w2 H2 B2 S2; rw [S1] at H2 S2))
  have W2 := hid ((HW.out.start B1 hg hS hlt (Nat.le_refl _)).start B2 hg hS hlt (by omega))
  have HX := hid (H1.keep B2)
  have B12 := hid (B1.trans (B2.mono (by omega)))
  have s1 := S1
  have HC := hid (roots_wr g (more S w w2) fs [ke, cr] (w.heap.size + 1) 0 2 w2 W2.out (by omega) (by simp; omega) (by simpa using And.intro HA.out.1 HBB.out.1) (by simpa using And.intro HA.out.2 HBB.out.2) (H2.rsAt (by simpa using And.intro HA.out.1 HBB.out.1)) (by simp))
  clear B1 B2 H2 H1 S1
  refine HC.out.mono ?_
  rintro x w3 ⟨⟨u3, rfl⟩, q1, q2⟩
  have s3 := q2.size
  have sb := B12.out.size
  have W3 := hid (Wr.next hg hS hlt (by omega) s3 q1)
  have G3 := hid (grown_trans (grown_below (grown_refl w g) B12.out) q2)
  have X3 := hid (HX.out.grown q2 (by omega))
  clear q1 q2 HC W2 HX
  have hc0 := X3.out.cell D64.out
  go_wp2_with fail
  have B4 : Below w3.heap.size w3 (w3.alloc (.cells #[.int .u64 (ef : Nat)] 24)) := (Below.refl _ w3).alloc (Nat.le_refl _) _
  have H4 := heap_alloc_new w3 (.cells #[.int .u64 (ef : Nat)] 24)
  generalize w3.alloc (.cells #[.int .u64 (ef : Nat)] 24) = w4 at B4 H4 ⊢
  clear hc0
  have W4 := hid (W3.out.start B4 hg hS hlt (by omega))
  have HC := hid (num_wr g (more S w w4) (fs ++ rootF [ke, cr]) [ef] w3.heap.size 0 1 w4 W4.out (by omega) (by simp [rootF]; omega) (by simpa using hef) (fun i hi => by
    have : i = 0 := by simp at hi; omega
    subst this
    exact cell_of_row w4 _ 0 _ _ (0, 0) H4) (by simp))
  have G4 := hid (grown_below G3.out B4)
  have X4 := hid (X3.out.keep B4)
  have s4 := B4.size
  clear H4 B4 W3 G3 X3
  refine HC.out.mono ?_
  rintro x w5 ⟨⟨u5, rfl⟩, q1, q2⟩
  have s5 := q2.size
  have W5 := hid (Wr.next hg hS hlt (by omega) s5 q1)
  have G5 := hid (grown_trans G4.out q2)
  have X5 := hid (X4.out.grown q2 (by omega))
  clear q1 q2 HC W4 G4 X4
  have hc1 := X5.out.cell D65.out
  go_wp2_with fail
  clear hc1
  have HC := hid (putTr_any g (more S w w5) _ sl w5 W5.out (by simp [rootF, numF]; omega))
  refine HC.out.mono ?_
  rintro x w6 ⟨⟨u6, rfl⟩, q1, q2⟩
  have s6 := q2.size
  have W6 := hid (Wr.next hg hS hlt (by omega) s6 q1)
  have G6 := hid (grown_trans G5.out q2)
  have X6 := hid (X5.out.grown q2 (by omega))
  clear q1 q2 HC W5 G5 X5
  have hc2 := X6.out.cell D66.out
  have hc3 := X6.out.cell D67.out
  have hc4 := X6.out.cell D68.out
  have hc5 := X6.out.cell D69.out
  go_wp2_with fail
  have B7 : Below w6.heap.size w6 (w6.alloc (.cells #[.int .u64 (el : Nat), .int .u64 (ac : Nat), .int .u64 (xi : Nat), .int .u64 (wi : Nat)] 24)) := (Below.refl _ w6).alloc (Nat.le_refl _) _
  have H7 := heap_alloc_new w6 (.cells #[.int .u64 (el : Nat), .int .u64 (ac : Nat), .int .u64 (xi : Nat), .int .u64 (wi : Nat)] 24)
  generalize w6.alloc (.cells #[.int .u64 (el : Nat), .int .u64 (ac : Nat), .int .u64 (xi : Nat), .int .u64 (wi : Nat)] 24) = w7 at B7 H7 ⊢
  clear hc2 hc3 hc4 hc5
  have W7 := hid (W6.out.start B7 hg hS hlt (by omega))
  have HC := hid (num_wr g (more S w w7) _ [el, ac, xi, wi] w6.heap.size 0 4 w7 W7.out (by omega) (by simp [rootF, numF]; omega) (by simpa using And.intro hel (And.intro hac (And.intro hxi hwi))) (fun i hi => by
    have : i = 0 ∨ i = 1 ∨ i = 2 ∨ i = 3 := by simp at hi; omega
    rcases this with rfl | rfl | rfl | rfl
    · exact cell_of_row w7 _ 0 _ _ (0, 0) H7
    · exact cell_of_row w7 _ 1 _ _ (0, 0) H7
    · exact cell_of_row w7 _ 2 _ _ (0, 0) H7
    · exact cell_of_row w7 _ 3 _ _ (0, 0) H7) (by simp))
  have G7 := hid (grown_below G6.out B7)
  clear H7 B7 W6 G6 X6
  refine HC.out.mono ?_
  rintro x w8 ⟨⟨u8, rfl⟩, q1, q2⟩
  have s8 := q2.size
  have sb8 := G7.out.size
  have W8 := hid (Wr.next hg hS hlt (by omega) s8 q1)
  have G8 := hid (grown_trans G7.out q2)
  clear q1 q2 HC W7
  go_wp2
  go_end0
  refine ⟨⟨_, rfl⟩, ?_, G8.out⟩
  have := W8.out
  simp only [List.append_assoc] at this
  exact this
end Go.Proofs.Ytfocalbfefnbnaa

/- The encode of a Validator. -/
namespace Go.Proofs.Ytfocalbfefnbnaa
open Go.RowKit Go.Shelf
set_option linter.unusedVariables false
set_option linter.unusedSimpArgs false
set_option maxRecDepth 100000

set_option maxHeartbeats 1000000 in
theorem encodeVl_any (ke cr : List Nat) (ef : Nat) (sl : Bool) (el ac xi wi : Nat) (w : World) (hk : ke.length = 32) (hk8 : ∀ z ∈ ke, z < 256) (hc : cr.length = 32) (hc8 : ∀ z ∈ cr, z < 256) (hef : ef < 18446744073709551616) (hel : el < 18446744073709551616) (hac : ac < 18446744073709551616) (hxi : xi < 18446744073709551616) (hwi : wi < 18446744073709551616) :
    Calls Try.prog 18 #[.agg (vlC ke cr ef sl el ac xi wi).toArray, .func (.func 19) #[] #[]] w fun x w' => ∃ v, x = .returned v ∧ Row w' w.heap.size v (cont (vlF ke cr ef sl el ac xi wi)) ∧ Below w.heap.size w w' := by
  have HL := hid (vlC_length ke cr ef sl el ac xi wi hk hc)
  have HF : Hid (lenF (vlF ke cr ef sl el ac xi wi) = 105) := hid (by simp [vlF, numF, rootF, lenF, le_length, *])
  have HPT := hid (fun g S fs w hW hn => putVl_any g S fs ke cr ef sl el ac xi wi w hW hn hk hk8 hc hc8 hef hel hac hxi hwi)
  clear hk hk8 hc hc8
  generalize vlC ke cr ef sl el ac xi wi = C at HL HPT ⊢
  go_enter Try.func18, Try.ntmps18
  go_wp2_with (first
    | (refine wpList_box_c rfl 2 rfl (.tmp 0) rfl C rfl ?_; intro w1 H1 B1 S1)
    | (refine wpList_load_c Try.ty26 rfl (.tmp 2) rfl w.heap.size C rfl (by rw [HL.out]; rfl) (H1.keep ((Below.refl _ w1).alloc (Nat.le_refl _) _)) ?_))
  have W1 := wr_new w1
  have B2 : Below w1.heap.size w1 (w1.alloc (.cells #[.int .i64 0, .pointer none] 86)) := (Below.refl _ w1).alloc (Nat.le_refl _) _
  have S2 := World.size_alloc w1 (.cells #[.int .i64 0, .pointer none] 86)
  rw [S1] at W1
  generalize w1.alloc (.cells #[.int .i64 0, .pointer none] 86) = w2 at W1 B2 S2 ⊢
  have B12 := hid (B1.trans (B2.mono (by omega)))
  have HC := hid (HPT.out (w.heap.size + 1) _ [] w2 W1 (by simp))
  have s2 : w2.heap.size = w.heap.size + 2 := by omega
  clear B1 B2 S1 S2 H1 W1
  refine HC.out.mono ?_
  rintro x w3 ⟨⟨u3, rfl⟩, q1, q2⟩
  have s3 := q2.size
  have HB := hid (bytes_any (w.heap.size + 1) _ _ w3 q1 (by simp [vlF, numF, rootF]) (by rw [List.nil_append, HF.out]; decide))
  have B3 : Below w.heap.size w w3 := ⟨q2.os.trans B12.out.os, q2.tape.trans B12.out.tape, q2.output.trans B12.out.output, by omega, fun j hj => (q2.block j (by omega) (fun h => by have := Option.some.inj h; omega)).trans (B12.out.block j hj)⟩
  have HB3 := hid B3
  clear q1 q2 HC B3
  go_wp2_with fail
  refine HB.out.mono ?_
  rintro x w4 ⟨v, rfl, q1, q2⟩
  have X := hid (And.intro q1 q2)
  clear q1 q2
  go_wp2
  go_ret
  exact ⟨v, rfl, X.out.1.base (by omega), HB3.out.trans (X.out.2.mono (by omega))⟩

set_option maxHeartbeats 1000000 in
theorem encVl_any (ke cr : List Nat) (ef : Nat) (sl : Bool) (el ac xi wi : Nat) (w : World) (hk : ke.length = 32) (hk8 : ∀ z ∈ ke, z < 256) (hc : cr.length = 32) (hc8 : ∀ z ∈ cr, z < 256) (hef : ef < 18446744073709551616) (hel : el < 18446744073709551616) (hac : ac < 18446744073709551616) (hxi : xi < 18446744073709551616) (hwi : wi < 18446744073709551616) :
    Calls Try.prog 6 #[.agg (vlC ke cr ef sl el ac xi wi).toArray] w fun x w' => ∃ v, x = .returned v ∧ Row w' w.heap.size v (cont (vlF ke cr ef sl el ac xi wi)) ∧ Below w.heap.size w w' := by
  have HL := hid (vlC_length ke cr ef sl el ac xi wi hk hc)
  have HEN := hid (fun w => encodeVl_any ke cr ef sl el ac xi wi w hk hk8 hc hc8 hef hel hac hxi hwi)
  clear hk hk8 hc hc8
  generalize vlC ke cr ef sl el ac xi wi = C at HL HEN ⊢
  go_enter Try.func6, Try.ntmps6
  go_wp2_with (first
    | (refine wpList_box_c rfl 1 rfl (.tmp 0) rfl C rfl ?_; intro w1 H1 B1 S1)
    | (refine wpList_load_c Try.ty26 rfl (.tmp 1) rfl w.heap.size C rfl (by rw [HL.out]; rfl) H1 ?_))
  have HC := hid (HEN.out w1)
  have HB := hid B1
  have s1 := S1
  clear H1 B1 S1
  refine HC.out.mono ?_
  rintro x w4 ⟨v, rfl, q1, q2⟩
  have X := hid (And.intro q1 q2)
  clear q1 q2
  go_wp2
  go_ret
  exact ⟨v, rfl, X.out.1.base (by omega), HB.out.trans (X.out.2.mono (by omega))⟩
end Go.Proofs.Ytfocalbfefnbnaa

/- Numbers and roots taken, over the state. -/
namespace Go.Proofs.Ytfocalbfefnbnaa
open Go.RowKit Go.Shelf
set_option linter.unusedVariables false
set_option linter.unusedSimpArgs false
set_option maxRecDepth 100000

theorem fixS_ok {bs : List Nat} {size n : Nat} {s : Rs} (h : s.1 ≤ size ∧ (s.2 = false → size ≤ bs.length)) : (fixS size n s).1 ≤ size ∧ ((fixS size n s).2 = false → size ≤ bs.length) := by
  obtain ⟨h1, h2⟩ := h
  refine ⟨?_, fun h => h2 ?_⟩
  · show fixT size s.1 n s.2 ≤ size
    unfold fixT fixW
    by_cases hw : (s.2 || decide (size - s.1 < n)) = true
    · rw [if_pos hw]; exact h1
    · rw [if_neg hw]
      simp only [Bool.or_eq_true, decide_eq_true_eq, not_or] at hw
      omega
  · have h' : (s.2 || decide (size - s.1 < n)) = false := h
    simp only [Bool.or_eq_false_iff] at h'
    exact h'.1
theorem rnumS {g : Nat} {S : Nat → Prop} {bs : List Nat} {size : Nat} {ps : List Nat} (s : Rs) (w : World) (h : Rd w g S bs size s.1 ps s.2) (hs : size ≤ 4611686018427387904) (hl : bs.length ≤ 140737488355328) :
    Calls Try.prog 56 #[.pointer (some ⟨g, 0, none⟩)] w fun e w' => e = .returned (.int .u64 (numAt bs size s : Nat)) ∧ Rd w' g S bs size (fixS size 8 s).1 ps (fixS size 8 s).2 ∧ w.grownBy w' (some g) := rnum_any w h hs hl
theorem rrootS {g : Nat} {S : Nat → Prop} {bs : List Nat} {size : Nat} {ps : List Nat} (s : Rs) (w : World) (h : Rd w g S bs size s.1 ps s.2) (hs : size ≤ 4611686018427387904) (hl : bs.length ≤ 140737488355328) :
    Calls Try.prog 36 #[.pointer (some ⟨g, 0, none⟩)] w fun e w' => e = .returned (.agg (nums .u8 (rootAt bs size s))) ∧ Rd w' g S bs size (fixS size 32 s).1 ps (fixS size 32 s).2 ∧ w.grownBy w' (some g) := rroot_any w h hs hl
end Go.Proofs.Ytfocalbfefnbnaa

/- Validators taken. -/
namespace Go.Proofs.Ytfocalbfefnbnaa
open Go.RowKit Go.Shelf
set_option linter.unusedVariables false
set_option linter.unusedSimpArgs false
set_option maxRecDepth 100000

/-- A truth taken: one byte, 0 or 1. -/
def bitAt (bs : List Nat) (size : Nat) (s : Rs) : Bool := decide (tk (fixB bs size s.1 1 s.2) = 1)
def bolS (bs : List Nat) (size : Nat) (s : Rs) : Rs := (fixT size s.1 1 s.2, fixW size s.1 1 s.2 || decide (1 < tk (fixB bs size s.1 1 s.2)))
theorem bolS_ok {bs : List Nat} {size : Nat} {s : Rs} (h : s.1 ≤ size ∧ (s.2 = false → size ≤ bs.length)) : (bolS bs size s).1 ≤ size ∧ ((bolS bs size s).2 = false → size ≤ bs.length) := by
  have h1 := fixS_ok (n := 1) h
  refine ⟨h1.1, fun h2 => h1.2 ?_⟩
  have h' : (fixW size s.1 1 s.2 || decide (1 < tk (fixB bs size s.1 1 s.2))) = false := h2
  simp only [Bool.or_eq_false_iff] at h'
  exact h'.1
theorem rboolS {g : Nat} {S : Nat → Prop} {bs : List Nat} {size : Nat} {ps : List Nat} (s : Rs) (w : World) (h : Rd w g S bs size s.1 ps s.2) (hs : size ≤ 4611686018427387904) (hl : bs.length ≤ 140737488355328) :
    Calls Try.prog 57 #[.pointer (some ⟨g, 0, none⟩)] w fun e w' => e = .returned (.bool (bitAt bs size s)) ∧ Rd w' g S bs size (bolS bs size s).1 ps (bolS bs size s).2 ∧ w.grownBy w' (some g) := rbool_any w h hs hl
/-- The cells that takeValidator takes, and the state behind. -/
def vlTake (bs : List Nat) (size : Nat) (s : Rs) : List Value := vlC (rootAt bs size s) (rootAt bs size (fixS size 32 s)) (numAt bs size (fixS size 32 (fixS size 32 s))) (bitAt bs size (fixS size 8 (fixS size 32 (fixS size 32 s)))) (numAt bs size (bolS bs size (fixS size 8 (fixS size 32 (fixS size 32 s))))) (numAt bs size (fixS size 8 (bolS bs size (fixS size 8 (fixS size 32 (fixS size 32 s)))))) (numAt bs size (fixS size 8 (fixS size 8 (bolS bs size (fixS size 8 (fixS size 32 (fixS size 32 s))))))) (numAt bs size (fixS size 8 (fixS size 8 (fixS size 8 (bolS bs size (fixS size 8 (fixS size 32 (fixS size 32 s))))))))
def vlS (bs : List Nat) (size : Nat) (s : Rs) : Rs := (fixS size 8 (fixS size 8 (fixS size 8 (fixS size 8 (bolS bs size (fixS size 8 (fixS size 32 (fixS size 32 s))))))))
theorem vlTake_len (bs : List Nat) (size : Nat) (s : Rs) (h1 : s.1 ≤ size) (h2 : s.2 = false → size ≤ bs.length) : (vlTake bs size s).length = 70 ∧ (vlTake bs size s).toArray.all (·.oneCell') = true := by
  have q0 : s.1 ≤ size ∧ (s.2 = false → size ≤ bs.length) := ⟨h1, h2⟩
  have q1 : (fixS size 32 s).1 ≤ size ∧ ((fixS size 32 s).2 = false → size ≤ bs.length) := fixS_ok q0
  have q2 : (fixS size 32 (fixS size 32 s)).1 ≤ size ∧ ((fixS size 32 (fixS size 32 s)).2 = false → size ≤ bs.length) := fixS_ok q1
  have q3 : (fixS size 8 (fixS size 32 (fixS size 32 s))).1 ≤ size ∧ ((fixS size 8 (fixS size 32 (fixS size 32 s))).2 = false → size ≤ bs.length) := fixS_ok q2
  have q4 : (bolS bs size (fixS size 8 (fixS size 32 (fixS size 32 s)))).1 ≤ size ∧ ((bolS bs size (fixS size 8 (fixS size 32 (fixS size 32 s)))).2 = false → size ≤ bs.length) := bolS_ok q3
  have q5 : (fixS size 8 (bolS bs size (fixS size 8 (fixS size 32 (fixS size 32 s))))).1 ≤ size ∧ ((fixS size 8 (bolS bs size (fixS size 8 (fixS size 32 (fixS size 32 s))))).2 = false → size ≤ bs.length) := fixS_ok q4
  have q6 : (fixS size 8 (fixS size 8 (bolS bs size (fixS size 8 (fixS size 32 (fixS size 32 s)))))).1 ≤ size ∧ ((fixS size 8 (fixS size 8 (bolS bs size (fixS size 8 (fixS size 32 (fixS size 32 s)))))).2 = false → size ≤ bs.length) := fixS_ok q5
  have q7 : (fixS size 8 (fixS size 8 (fixS size 8 (bolS bs size (fixS size 8 (fixS size 32 (fixS size 32 s))))))).1 ≤ size ∧ ((fixS size 8 (fixS size 8 (fixS size 8 (bolS bs size (fixS size 8 (fixS size 32 (fixS size 32 s))))))).2 = false → size ≤ bs.length) := fixS_ok q6
  exact ⟨vlC_length _ _ _ _ _ _ _ _ (fixB_length q0.1 q0.2) (fixB_length q1.1 q1.2), vlC_one _ _ _ _ _ _ _ _⟩
theorem vlBuild (v0 : List Nat) (v1 : List Nat) (v2 : Nat) (v3 : Bool) (v4 : Nat) (v5 : Nat) (v6 : Nat) (v7 : Nat) (h0 : v0.length = 32) (h1 : v1.length = 32) (w : World) : (Instr.build 26 #[(0, .agg (nums .u8 v0)), (1, .agg (nums .u8 v1)), (2, .int .u64 (v2 : Nat)), (3, .bool v3), (4, .int .u64 (v4 : Nat)), (5, .int .u64 (v5 : Nat)), (6, .int .u64 (v6 : Nat)), (7, .int .u64 (v7 : Nat))]).run Try.prog w = .ok (.agg (vlC v0 v1 v2 v3 v4 v5 v6 v7).toArray) w := by
  have h := build_all Try.ty26 _ Try.underlying26 #[(0, 32), (32, 32), (64, 1), (65, 1), (66, 1), (67, 1), (68, 1), (69, 1)] (fun w => by kernel_rfl) #[(0, .agg (nums .u8 v0)), (1, .agg (nums .u8 v1)), (2, .int .u64 (v2 : Nat)), (3, .bool v3), (4, .int .u64 (v4 : Nat)), (5, .int .u64 (v5 : Nat)), (6, .int .u64 (v6 : Nat)), (7, .int .u64 (v7 : Nat))]
    (by
      have e0 : (Value.agg (nums .u8 v0)).cells.size = 32 := (nums_size _ _).trans h0
      have e1 : (Value.agg (nums .u8 v1)).cells.size = 32 := (nums_size _ _).trans h1
      refine ⟨?_, ?_, ?_, ?_, ?_, ?_, ?_, ?_, trivial⟩ <;> (try rw [e1]) <;> (try rw [e0]) <;> rfl) (by rw [show outC (#[(0, .agg (nums .u8 v0)), (1, .agg (nums .u8 v1)), (2, .int .u64 (v2 : Nat)), (3, .bool v3), (4, .int .u64 (v4 : Nat)), (5, .int .u64 (v5 : Nat)), (6, .int .u64 (v6 : Nat)), (7, .int .u64 (v7 : Nat))] : Array (Nat × Value)).toList = vlC v0 v1 v2 v3 v4 v5 v6 v7 from rfl, vlC_length _ _ _ _ _ _ _ _ h0 h1]; rfl) w
  rw [show outC (#[(0, .agg (nums .u8 v0)), (1, .agg (nums .u8 v1)), (2, .int .u64 (v2 : Nat)), (3, .bool v3), (4, .int .u64 (v4 : Nat)), (5, .int .u64 (v5 : Nat)), (6, .int .u64 (v6 : Nat)), (7, .int .u64 (v7 : Nat))] : Array (Nat × Value)).toList = vlC v0 v1 v2 v3 v4 v5 v6 v7 from rfl] at h
  exact h

set_option maxHeartbeats 1000000 in
theorem takeVl_any {g : Nat} {S : Nat → Prop} {bs : List Nat} {size : Nat} {ps : List Nat} (s : Rs) (w : World) (h : Rd w g S bs size s.1 ps s.2) (hs : size ≤ 4611686018427387904) (hl : bs.length ≤ 140737488355328) :
    Calls Try.prog 21 #[.pointer (some ⟨g, 0, none⟩)] w fun x w' => x = .returned (.agg (vlTake bs size s).toArray) ∧ (vlTake bs size s).length = 70 ∧ (vlTake bs size s).toArray.all (·.oneCell') = true ∧ Rd w' g S bs size (vlS bs size s).1 ps (vlS bs size s).2 ∧ w.grownBy w' (some g) := by
  have hgl := h.gt
  have HTL := hid (vlTake_len bs size s h.ts h.ok)
  have HR := hid h
  clear h
  go_enter Try.func21, Try.ntmps21
  go_wp2_with ((with_reducible refine at_list' ?_); first
    | (refine wpList_alloc_c Try.ty26 rfl 2 rfl rfl ?_; intro w1 H1 B1 S1))
  have hne : w.heap.size ≠ g := by omega
  have HS : Hid (∀ k, S k → k < w.heap.size) := hid HR.out.lt
  have X1 := hid (HR.out.below B1)
  have HH1 := hid H1
  have G1 := hid (grownBelow (g := g) B1)
  clear H1 B1 S1 HR
  have HQ1 := hid (rrootS s w1 X1.out hs hl)
  refine HQ1.out.mono ?_
  rintro e w2 ⟨rfl, q1, q2⟩
  have HL0 : Hid ((rootAt bs size s).length = 32) := hid (fixB_length X1.out.ts X1.out.ok)
  have HH2 := hid (HH1.out.grown q2 hne)
  have G2 := hid (grown_trans G1.out q2)
  obtain ⟨v0, hv0⟩ : ∃ v, rootAt bs size s = v := ⟨_, rfl⟩
  rw [hv0]
  rw [hv0] at HL0
  obtain ⟨s2, hs2⟩ : ∃ z, fixS size 32 s = z := ⟨_, rfl⟩
  rw [hs2] at q1
  have X2 := hid q1
  have HV0 := hid hv0
  have HZ2 := hid hs2
  clear q1 q2 hv0 hs2 HH1 G1 HQ1 X1
  have HQ2 := hid (rrootS s2 w2 X2.out hs hl)
  go_wp2_with fail
  refine HQ2.out.mono ?_
  rintro e w3 ⟨rfl, q1, q2⟩
  have HL1 : Hid ((rootAt bs size s2).length = 32) := hid (fixB_length X2.out.ts X2.out.ok)
  have HH3 := hid (HH2.out.grown q2 hne)
  have G3 := hid (grown_trans G2.out q2)
  obtain ⟨v1, hv1⟩ : ∃ v, rootAt bs size s2 = v := ⟨_, rfl⟩
  rw [hv1]
  rw [hv1] at HL1
  obtain ⟨s3, hs3⟩ : ∃ z, fixS size 32 s2 = z := ⟨_, rfl⟩
  rw [hs3] at q1
  have X3 := hid q1
  have HV1 := hid hv1
  have HZ3 := hid hs3
  clear q1 q2 hv1 hs3 HH2 G2 HQ2 X2
  have HQ3 := hid (rnumS s3 w3 X3.out hs hl)
  go_wp2_with fail
  refine HQ3.out.mono ?_
  rintro e w4 ⟨rfl, q1, q2⟩
  have HH4 := hid (HH3.out.grown q2 hne)
  have G4 := hid (grown_trans G3.out q2)
  obtain ⟨v2, hv2⟩ : ∃ v, numAt bs size s3 = v := ⟨_, rfl⟩
  rw [hv2]
  obtain ⟨s4, hs4⟩ : ∃ z, fixS size 8 s3 = z := ⟨_, rfl⟩
  rw [hs4] at q1
  have X4 := hid q1
  have HV2 := hid hv2
  have HZ4 := hid hs4
  clear q1 q2 hv2 hs4 HH3 G3 HQ3 X3
  have HQ4 := hid (rboolS s4 w4 X4.out hs hl)
  go_wp2_with fail
  refine HQ4.out.mono ?_
  rintro e w5 ⟨rfl, q1, q2⟩
  have HH5 := hid (HH4.out.grown q2 hne)
  have G5 := hid (grown_trans G4.out q2)
  obtain ⟨v3, hv3⟩ : ∃ v, bitAt bs size s4 = v := ⟨_, rfl⟩
  rw [hv3]
  obtain ⟨s5, hs5⟩ : ∃ z, bolS bs size s4 = z := ⟨_, rfl⟩
  rw [hs5] at q1
  have X5 := hid q1
  have HV3 := hid hv3
  have HZ5 := hid hs5
  clear q1 q2 hv3 hs5 HH4 G4 HQ4 X4
  have HQ5 := hid (rnumS s5 w5 X5.out hs hl)
  go_wp2_with fail
  refine HQ5.out.mono ?_
  rintro e w6 ⟨rfl, q1, q2⟩
  have HH6 := hid (HH5.out.grown q2 hne)
  have G6 := hid (grown_trans G5.out q2)
  obtain ⟨v4, hv4⟩ : ∃ v, numAt bs size s5 = v := ⟨_, rfl⟩
  rw [hv4]
  obtain ⟨s6, hs6⟩ : ∃ z, fixS size 8 s5 = z := ⟨_, rfl⟩
  rw [hs6] at q1
  have X6 := hid q1
  have HV4 := hid hv4
  have HZ6 := hid hs6
  clear q1 q2 hv4 hs6 HH5 G5 HQ5 X5
  have HQ6 := hid (rnumS s6 w6 X6.out hs hl)
  go_wp2_with fail
  refine HQ6.out.mono ?_
  rintro e w7 ⟨rfl, q1, q2⟩
  have HH7 := hid (HH6.out.grown q2 hne)
  have G7 := hid (grown_trans G6.out q2)
  obtain ⟨v5, hv5⟩ : ∃ v, numAt bs size s6 = v := ⟨_, rfl⟩
  rw [hv5]
  obtain ⟨s7, hs7⟩ : ∃ z, fixS size 8 s6 = z := ⟨_, rfl⟩
  rw [hs7] at q1
  have X7 := hid q1
  have HV5 := hid hv5
  have HZ7 := hid hs7
  clear q1 q2 hv5 hs7 HH6 G6 HQ6 X6
  have HQ7 := hid (rnumS s7 w7 X7.out hs hl)
  go_wp2_with fail
  refine HQ7.out.mono ?_
  rintro e w8 ⟨rfl, q1, q2⟩
  have HH8 := hid (HH7.out.grown q2 hne)
  have G8 := hid (grown_trans G7.out q2)
  obtain ⟨v6, hv6⟩ : ∃ v, numAt bs size s7 = v := ⟨_, rfl⟩
  rw [hv6]
  obtain ⟨s8, hs8⟩ : ∃ z, fixS size 8 s7 = z := ⟨_, rfl⟩
  rw [hs8] at q1
  have X8 := hid q1
  have HV6 := hid hv6
  have HZ8 := hid hs8
  clear q1 q2 hv6 hs8 HH7 G7 HQ7 X7
  have HQ8 := hid (rnumS s8 w8 X8.out hs hl)
  go_wp2_with fail
  refine HQ8.out.mono ?_
  rintro e w9 ⟨rfl, q1, q2⟩
  have HH9 := hid (HH8.out.grown q2 hne)
  have G9 := hid (grown_trans G8.out q2)
  obtain ⟨v7, hv7⟩ : ∃ v, numAt bs size s8 = v := ⟨_, rfl⟩
  rw [hv7]
  obtain ⟨s9, hs9⟩ : ∃ z, fixS size 8 s8 = z := ⟨_, rfl⟩
  rw [hs9] at q1
  have X9 := hid q1
  have HV7 := hid hv7
  have HZ9 := hid hs9
  clear q1 q2 hv7 hs9 HH8 G8 HQ8 X8
  have HBd := hid (vlBuild v0 v1 v2 v3 v4 v5 v6 v7 HL0.out HL1.out w9)
  have HV : Hid (vlTake bs size s = vlC v0 v1 v2 v3 v4 v5 v6 v7) := hid (by unfold vlTake; simp only [HV0.out, HZ2.out, HV1.out, HZ3.out, HV2.out, HZ4.out, HV3.out, HZ5.out, HV4.out, HZ6.out, HV5.out, HZ7.out, HV6.out, HZ8.out, HV7.out, HZ9.out])
  have HW : Hid (vlS bs size s = s9) := hid (by unfold vlS; simp only [HZ2.out, HZ3.out, HZ4.out, HZ5.out, HZ6.out, HZ7.out, HZ8.out, HZ9.out])
  rw [HV.out] at HTL
  go_wp2_with ((with_reducible refine at_list' ?_); first
    | (refine wpList_build_c rfl _ rfl #[(0, .agg (nums .u8 v0)), (1, .agg (nums .u8 v1)), (2, .int .u64 (v2 : Nat)), (3, .bool v3), (4, .int .u64 (v4 : Nat)), (5, .int .u64 (v5 : Nat)), (6, .int .u64 (v6 : Nat)), (7, .int .u64 (v7 : Nat))] (by simp [Act.eval]) _ HBd.out ?_)
    | (refine wpList_store_c Try.ty26 rfl (.tmp 2) (.tmp 19) rfl w.heap.size (vlC v0 v1 v2 v3 v4 v5 v6 v7) rfl rfl (by rw [HTL.out.1]; rfl) HTL.out.2 _ HH9.out rfl ?_; intro w9 H9 O9))
  refine bodyPost_ret (results_c1 Try.ty26 rfl _ w9 w.heap.size _ rfl H9 (by rw [HTL.out.1]; rfl)) rfl ?_
  have sz9 := O9.size
  have s8 := G9.out.size
  rw [HV.out, HW.out]
  refine ⟨rfl, HTL.out.1, HTL.out.2, X9.out.keep (by omega) (fun k hk => O9.block k (by have := HS.out k hk; omega)) (O9.block g (by omega)), O9.os.trans G9.out.os, O9.tape.trans G9.out.tape, O9.output.trans G9.out.output, by omega, fun k hk hn => (O9.block k (by omega)).trans (G9.out.block k hk hn)⟩
end Go.Proofs.Ytfocalbfefnbnaa

