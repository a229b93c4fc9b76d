/- Own texts of the proof, joined: LwBodies BdAll OpenV. -/
import Derived.Test.YtbmcmabimfoknaaGreatDoorH11
/- RootBodies answers true, over what Big, root.Body and the document's Body answer. -/
namespace Go.Proofs.YtbmcmabimfoknaaGreatDoor
open Go.RowKit Go.Shelf
set_option linter.unusedVariables false
set_option linter.unusedSimpArgs false
set_option maxRecDepth 100000

theorem tyBody : Ty Tryz.prog 33 (zsOf 33) := ⟨by kernel_rfl, _, Tryz.underlying33, rfl⟩
theorem zsBody : (zsOf 33).length = 102 := by kernel_rfl
set_option maxHeartbeats 4000000 in
theorem bd_walk (C : List Value) (R : List Nat) (U : Vt) (big : Bool) (hCl : C.length = 102) (hR1 : Rt R) (w : World) (hT : Tabs w)
    (hBig : ∀ w', Below w.heap.size w w' → Calls Tryz.prog 6 #[.agg C.toArray] w' fun e w'' => e = .returned (.bool big) ∧ Below w'.heap.size w' w'')
    (hB : big = false → RootOf 7 w C R)
    (hV : big = false → ∀ w', Below w.heap.size w w' → Calls Tryz.prog 10 #[.agg C.toArray] w' fun x w'' => ∃ v, x = .returned v ∧ IsVI (fun _ => True) w'' v U ∧ Below w'.heap.size w' w'')
    (hE : big = false → Rooted bdD U R) :
    Calls Tryz.prog 3 #[.agg C.toArray] w fun e w' => e = .returned (.bool true) ∧ Below w.heap.size w w' := by
  have HBG := hid hBig
  have HR := hid hB
  have HV := hid hV
  have HE := hid hE
  clear hBig hB hV hE
  go_enter Tryz.func3, Tryz.ntmps3
  go_wp2_with ((with_reducible refine at_list' ?_); first
    | (refine wpList_box_c rfl 1 rfl (.tmp 0) rfl C rfl ?_; intro w1 H1 B1 S1))
  refine (awake_any w1 (hT.keep B1)).mono ?_
  rintro e w2 ⟨rfl, B2⟩
  have H2 := H1.keep B2
  have L2 := below_more B1 B2 (Nat.le_refl _)
  clear H1 B1 S1 B2 hT
  go_wp2_with ((with_reducible refine at_list' ?_); first
    | (refine wpList_load_c tyBody rfl (.tmp 1) rfl w.heap.size C rfl (by rw [hCl, zsBody]) H2 ?_))
  refine (HBG.out w2 L2).mono ?_
  rintro e w3 ⟨rfl, B3⟩
  have H3 := H2.keep B3
  have L3 := below_more L2 B3 (Nat.le_refl _)
  clear H2 L2 B3 HBG
  cases big
  case true =>
    go_wp2_with fail
    go_ret
    exact ⟨rfl, L3⟩
  case false =>
  have HX := hid H3
  have HB := hid L3
  have HRR := hid (HR.out rfl)
  have HVV := hid (HV.out rfl)
  have HEE := hid (HE.out rfl)
  clear H3 L3 HR HV HE
  go_wp2_with fail
  try simp only [Act.put, List.setIfInBounds_toArray, List.set_cons_succ, List.set_cons_zero]
  refine wp_region_flow 7 7 (fun i v wq => match i with
    | 0 => v = .agg C.toArray
    | 1 => v = .agg (nums .u8 R)
    | 2 => ∃ p, v = .pointer (some ⟨p, 0, none⟩) ∧ DAt wq bdD p
    | 3 => v = .agg C.toArray
    | 4 => IsV wq v U
    | 5 => v = .agg (nums .u8 R)
    | _ => v = .bool true) (by kernel_rfl) (by kernel_rfl) (fun _ d _ _ _ h => by cases d <;> exact h) ?_ ?_ ?_ ?_
  · intro i v wq wq' hi hv hb
    match i, hi with
    | 0, _ => exact hv
    | 1, _ => exact hv
    | 2, _ => obtain ⟨p, h1, h2⟩ := hv; exact ⟨p, h1, DAt.keep hb _ h2⟩
    | 3, _ => exact hv
    | 4, _ => exact hv.keep hb
    | 5, _ => exact hv
    | 6, _ => exact hv
    | (k + 7), hk => exact absurd hk (by omega)
  · intro i o hi ho aq wq hc hk hdep
    match i, hi with
    | 0, _ =>
      cases ho
      have e1 : aq.tmps.getD 1 undef = .pointer (some ⟨w.heap.size, 0, none⟩) := hk 1 (by decide)
      exact flow_value _ (run_mid 33 (.tmp 1) rfl w.heap.size 0 e1 C ((HX.out.keep (hcB hc)).range 0 C (fun j v hv => by rw [Nat.zero_add]; exact hv)) _ Tryz.underlying33 rfl (by rw [hCl]; kernel_rfl)) rfl
    | 1, _ =>
      cases ho
      have e0 : aq.tmps.getD 7 undef = .agg C.toArray := hdep 0 7 rfl (by kernel_rfl)
      refine flow_fun 7 _ _ rfl (fun _ _ => by simp [go_sem]) #[.agg C.toArray] (by rw [show (#[Operand.tmp 7] : Array Operand).map aq.eval = #[aq.tmps.getD 7 undef] from by simp [Act.eval], e0]) ?_
      refine (HRR.out.call wq (HB.out.trans ((hcB hc).mono HB.out.size))).mono ?_
      rintro x w' ⟨rfl, q⟩
      exact ⟨_, rfl, rfl, q⟩
    | 2, _ =>
      cases ho
      refine flow_fun 9 _ _ rfl (fun _ _ => by simp [go_sem]) #[] (by simp) ?_
      refine (bdD_any wq).mono ?_
      rintro x w' ⟨p, rfl, h1, q⟩
      exact ⟨_, rfl, ⟨p, rfl, h1⟩, q⟩
    | 3, _ =>
      cases ho
      have e1 : aq.tmps.getD 1 undef = .pointer (some ⟨w.heap.size, 0, none⟩) := hk 1 (by decide)
      exact flow_value _ (run_mid 33 (.tmp 1) rfl w.heap.size 0 e1 C ((HX.out.keep (hcB hc)).range 0 C (fun j v hv => by rw [Nat.zero_add]; exact hv)) _ Tryz.underlying33 rfl (by rw [hCl]; kernel_rfl)) rfl
    | 4, _ =>
      cases ho
      have e0 : aq.tmps.getD 10 undef = .agg C.toArray := hdep 3 10 rfl (by kernel_rfl)
      refine flow_fun 10 _ _ rfl (fun _ _ => by simp [go_sem]) #[.agg C.toArray] (by rw [show (#[Operand.tmp 10] : Array Operand).map aq.eval = #[aq.tmps.getD 10 undef] from by simp [Act.eval], e0]) ?_
      refine (HVV.out wq (HB.out.trans ((hcB hc).mono HB.out.size))).mono ?_
      rintro x w' ⟨v, rfl, h1, q⟩
      exact ⟨v, rfl, h1.isV, q⟩
    | 5, _ =>
      cases ho
      obtain ⟨p, e0, h0⟩ := hdep 2 9 rfl (by kernel_rfl)
      have h1 : IsV wq (aq.tmps.getD 11 undef) U := hdep 4 11 rfl (by kernel_rfl)
      refine flow_fun 8 _ _ rfl (fun _ _ => by simp [go_sem]) #[.pointer (some ⟨p, 0, none⟩), aq.tmps.getD 11 undef] (by rw [show (#[Operand.tmp 9, Operand.tmp 11] : Array Operand).map aq.eval = #[aq.tmps.getD 9 undef, aq.tmps.getD 11 undef] from by simp [Act.eval], e0]) ?_
      refine (HEE.out p _ wq h0 h1).mono ?_
      rintro x w' ⟨rfl, q⟩
      exact ⟨_, rfl, rfl, q⟩
    | 6, _ =>
      cases ho
      have e0 : aq.tmps.getD 8 undef = .agg (nums .u8 R) := hdep 1 8 rfl (by kernel_rfl)
      have e1 : aq.tmps.getD 12 undef = .agg (nums .u8 R) := hdep 5 12 rfl (by kernel_rfl)
      exact flow_value _ (run_same_root (.tmp 8) (.tmp 12) rfl R hR1 e0 e1) rfl
    | (k + 7), hk => exact absurd hk (by omega)
  · intro o h7 ho
    omega
  intro vf w8 hc hv
  have e7 : vf 6 = .bool true := hv 6 13 (by decide) rfl
  have B9 := HB.out.trans ((hcB hc).mono HB.out.size)
  clear hv hc
  simp only [List.take_succ_cons, List.take_zero, List.drop_succ_cons, List.drop_zero, putAll, Act.put, List.setIfInBounds_toArray, List.set_cons_succ, List.set_cons_zero]
  rw [e7]
  have HB9 := hid B9
  clear B9 e7 HB HX HRR HVV HEE
  go_wp2_with fail
  go_ret
  exact ⟨rfl, HB9.out⟩
end Go.Proofs.YtbmcmabimfoknaaGreatDoor

/- RootBodies answers true for a Body whose lists' elements are read. -/
namespace Go.Proofs.YtbmcmabimfoknaaGreatDoor
open Go.RowKit Go.Shelf
set_option linter.unusedVariables false
set_option linter.unusedSimpArgs false
set_option maxRecDepth 100000

/-- An element: the document makes X of it, the program's root of it is R, and so is the document's of X. -/
structure Item (Fr Fd : FuncId) (d : Dt) (B0 : Nat) (w : World) (cs : List Value) (X : Vt) (R : List Nat) : Prop where
  doc : DocOf Fd B0 w cs X
  root : RootOf Fr w cs R
  rooted : Rooted d X R
/-- How a slice of structs lies. -/
structure Lies (sz : Nat) (w : World) (ao : Option Addr) (css : List (List Value)) (c : Nat) : Prop where
  cap : css.length ≤ c
  max : c ≤ maxLen
  few : css.length ≤ 1048576
  size : ∀ i, i < css.length → (css.getD i []).length = sz
  one : ∀ i, i < css.length → (css.getD i []).toArray.all (·.oneCell') = true
  mem : css.length = 0 ∨ ∃ b off, ao = some ⟨b, off, none⟩ ∧ ∀ i, i < css.length → w.rangeAt b (off + i * sz) (css.getD i [])
theorem two_lists {α β : Type} (d : α) (e : β) (p : Nat → α → β → Prop) : ∀ n, (∀ i, i < n → ∃ x r, p i x r) → ∃ (xs : List α) (rs : List β), xs.length = n ∧ rs.length = n ∧ ∀ i, i < n → p i (xs.getD i d) (rs.getD i e)
  | 0, _ => ⟨[], [], rfl, rfl, fun _ h => absurd h (Nat.not_lt_zero _)⟩
  | n + 1, h => by
    obtain ⟨xs, rs, h1, h2, h3⟩ := two_lists d e p n (fun i hi => h i (by omega))
    obtain ⟨x, r, hx⟩ := h n (by omega)
    refine ⟨xs ++ [x], rs ++ [r], by simp [h1], by simp [h2], fun i hi => ?_⟩
    by_cases e1 : i < n
    · rw [List.getD_eq_getElem?_getD, List.getD_eq_getElem?_getD, List.getElem?_append_left (by omega), List.getElem?_append_left (by omega), ← List.getD_eq_getElem?_getD, ← List.getD_eq_getElem?_getD]
      exact h3 i e1
    · obtain rfl : i = n := by omega
      rw [List.getD_eq_getElem?_getD, List.getD_eq_getElem?_getD, List.getElem?_append_right (by omega), List.getElem?_append_right (by omega)]
      simpa [h1, h2] using hx
theorem HdL.keep {w w' : World} {ao : Option Addr} {n sz k : Nat} {l : Nat → Nat} (h : HdL w ao n sz k l) (hb : Below w.heap.size w w') : HdL w' ao n sz k l := by
  rcases h with e | ⟨b, off, e, hm⟩
  · exact .inl e
  · exact .inr ⟨b, off, e, fun i hi => by obtain ⟨o, c, h1⟩ := hm i hi; exact ⟨o, c, cell_keep hb h1⟩⟩
/-- Of a list whose elements are read: what the three walks want of it. -/
theorem items_of {Fr Fd : FuncId} {d : Dt} {sz : Nat} {w : World} {ao : Option Addr} {css : List (List Value)} {c : Nat} (hl : Lies sz w ao css c) (h : ∀ i, i < css.length → ∃ X R, Item Fr Fd d w.heap.size w (css.getD i []) X R) :
    ∃ Xs Rs, Xs.length = css.length ∧ IsL Fr sz w (.slice ao css.length c) Rs ∧ DocL Fd sz w.heap.size w ao css Xs ∧ RtsOf d Xs Rs := by
  obtain ⟨Xs, Rs, h1, h2, h3⟩ := two_lists vt0 ([] : List Nat) (fun i X R => Item Fr Fd d w.heap.size w (css.getD i []) X R) css.length h
  have hE : Elems Fr sz w ao css Rs := ⟨h2, hl.size, hl.one, hl.mem, fun i hi => (h3 i hi).root⟩
  exact ⟨Xs, Rs, h1, ⟨ao, c, css, rfl, hl.cap, hl.max, hl.few, hE⟩, ⟨h1, hl.size, hl.mem, fun i hi => (h3 i hi).doc⟩, h2.trans h1.symm, hE.rts, fun i hi => (h3 i (by omega)).rooted⟩
theorem sumTo_part (l : Nat → Nat) : ∀ n i, i < n → l i ≤ sumTo l n
  | 0, i, h => absurd h (Nat.not_lt_zero _)
  | n + 1, i, h => by
    rw [sumTo]
    by_cases e : i < n
    · have := sumTo_part l n i e; omega
    · obtain rfl : i = n := by omega
      omega
theorem bodies_any (ra ed : List Nat) (ec : Nat) (gr : List Nat) (a1 : Option Addr) (c1 : Nat) (css1 : List (List Value)) (a2 : Option Addr) (c2 : Nat) (css2 : List (List Value)) (a3 : Option Addr) (c3 : Nat) (css3 : List (List Value)) (a4 : Option Addr) (c4 : Nat) (css4 : List (List Value)) (a5 : Option Addr) (c5 : Nat) (css5 : List (List Value)) (la lb lc : Nat → Nat) (hra : Rt ra) (hed : Rt ed) (hec : ec < 18446744073709551616) (hgr : Rt gr) (w : World) (hT : Tabs w)
    (l1 : Lies 260 w a1 css1 c1) (l2 : Lies 266 w a2 css2 c2) (l3 : Lies 133 w a3 css3 c3) (l4 : Lies 289 w a4 css4 c4) (l5 : Lies 34 w a5 css5 c5)
    (ha : ∀ i, i < css2.length → la i ≤ 1048576) (hb : ∀ i, i < css2.length → lb i ≤ 1048576) (hc : ∀ i, i < css3.length → lc i ≤ 1048576)
    (hA : HdL w a2 css2.length 266 0 la) (hB : HdL w a2 css2.length 266 133 lb) (hC : HdL w a3 css3.length 133 0 lc)
    (i1 : ∀ i, i < css1.length → ∃ X R, Item 22 48 psD w.heap.size w (css1.getD i []) X R)
    (i2 : ∀ i, i < css2.length → la i ≤ 500 → lb i ≤ 500 → ∃ X R, Item 24 49 asD w.heap.size w (css2.getD i []) X R)
    (i3 : ∀ i, i < css3.length → lc i ≤ 500 → ∃ X R, Item 26 50 atD w.heap.size w (css3.getD i []) X R)
    (i4 : ∀ i, i < css4.length → ∃ X R, Item 28 51 dpD w.heap.size w (css4.getD i []) X R)
    (i5 : ∀ i, i < css5.length → ∃ X R, Item 30 52 sxD w.heap.size w (css5.getD i []) X R)
    : Calls Tryz.prog 3 #[.agg (bdC ra ed ec gr (.slice a1 css1.length c1) (.slice a2 css2.length c2) (.slice a3 css3.length c3) (.slice a4 css4.length c4) (.slice a5 css5.length c5)).toArray] w fun e w' => e = .returned (.bool true) ∧ Below w.heap.size w w' := by
  have hBig := fun (w' : World) (hw : Below w.heap.size w w') => bigS_any ra ed ec gr a1 a2 a3 a4 a5 css1.length css2.length css3.length css4.length css5.length c1 c2 c3 c4 c5 hra hed hgr w' la lb lc l1.few l2.few l3.few l4.few l5.few ha hb hc (hA.keep hw) (hB.keep hw) (hC.keep hw)
  have hCl := bdC_length ra ed ec gr (.slice a1 css1.length c1) (.slice a2 css2.length c2) (.slice a3 css3.length c3) (.slice a4 css4.length c4) (.slice a5 css5.length c5) hra.len hed.len hgr.len
  by_cases hbig : 500 < css1.length + css2.length + css3.length + css4.length + css5.length + (sumTo la css2.length + sumTo lb css2.length) + sumTo lc css3.length
  · exact bd_walk _ (zeros 32) vt0 true hCl (listOf_rt 1 [] |> fun _ => ⟨by simp [zeros], fun b hb => by simp [zeros] at hb; omega⟩) w hT (fun w' hw => by have := hBig w' hw; rw [decide_eq_true hbig] at this; exact this) (fun h => by cases h) (fun h => by cases h) (fun h => by cases h)
  · obtain ⟨X1, R1, x1, s1, d1, r1⟩ := items_of l1 i1
    obtain ⟨X2, R2, x2, s2, d2, r2⟩ := items_of l2 (fun i hi => i2 i hi (by have := sumTo_part la _ i hi; omega) (by have := sumTo_part lb _ i hi; omega))
    obtain ⟨X3, R3, x3, s3, d3, r3⟩ := items_of l3 (fun i hi => i3 i hi (by have := sumTo_part lc _ i hi; omega))
    obtain ⟨X4, R4, x4, s4, d4, r4⟩ := items_of l4 i4
    obtain ⟨X5, R5, x5, s5, d5, r5⟩ := items_of l5 i5
    refine bd_walk _ (bdR ra ed ec gr R1 R2 R3 R4 R5) (bdU ra ed ec gr X1 X2 X3 X4 X5) false hCl (bdR_rt ra ed ec gr R1 R2 R3 R4 R5 hra hed hgr) w hT (fun w' hw => by have := hBig w' hw; rw [decide_eq_false hbig] at this; exact this) (fun _ => ⟨bdR_rt ra ed ec gr R1 R2 R3 R4 R5 hra hed hgr, fun w' hw => bdR_any ra ed ec gr _ _ _ _ _ R1 R2 R3 R4 R5 hra hed hec hgr w' (hT.keep hw) (s1.keep hw) (s2.keep hw) (s3.keep hw) (s4.keep hw) (s5.keep hw)⟩)
      (fun _ w' hw => bodyV_any (fun _ => True) w.heap.size ra ed ec gr a1 c1 css1 X1 a2 c2 css2 X2 a3 c3 css3 X3 a4 c4 css4 X4 a5 c5 css5 X5 hra hed hec hgr w' hw.size (fun _ _ => trivial) (fun _ _ => trivial) (by omega) (d1.keep hw) (by omega) (d2.keep hw) (by omega) (d3.keep hw) (by omega) (d4.keep hw) (by omega) (d5.keep hw))
      (fun _ => bd_rooted ra ed ec gr X1 X2 X3 X4 X5 R1 R2 R3 R4 R5 hra hed hgr (by omega) (by omega) (by omega) (by omega) (by omega) r1 r2 r3 r4 r5)
end Go.Proofs.YtbmcmabimfoknaaGreatDoor

/- A Body that came in, of bulk at most 1048576: RootBodies answers true. -/
namespace Go.Proofs.YtbmcmabimfoknaaGreatDoor
open Go.RowKit Go.Deep Go.WideShapes
set_option linter.unusedVariables false
set_option linter.unusedSimpArgs false
set_option maxRecDepth 100000
section
variable {H : Type} {enc : TypeId × Value → H} {W : World} {b0 : Nat} {held : Bool}
theorem tIn_all {v : Value} {l : List Bool} (h : IsT W v l) : TIn (fun b => b < W.heap.size) W v l := by
  intro w' ha
  obtain ⟨ao, cap, rfl, h1, h2, h3⟩ := h
  refine ⟨ao, cap, rfl, h1, h2, ?_⟩
  rcases h3 with e | ⟨b, off, e, hm⟩
  · exact .inl e
  · refine .inr ⟨b, off, e, fun i hi => ?_⟩
    have hlt : b < W.heap.size := block_lt_of_cell (hm i hi)
    exact (World.cell?_of_block (a := ⟨b, off + i, none⟩) (ha b hlt hlt)).trans (hm i hi)
def lenAt (k : Nat) (cs : List Value) : Nat := match cs[k]? with
  | some (.slice _ n _) => n
  | _ => 0
theorem lenAt_of {k : Nat} {cs : List Value} {a : Option Addr} {n c : Nat} (h : cs[k]? = some (.slice a n c)) : lenAt k cs = n := by rw [lenAt, h]
theorem open_list {t e : TypeId} {sz : Nat} {Q : List Value → Prop} (hu : Tryz.prog.underlying t = some (.slice e)) (hc : Tryz.prog.cellsOf e = sz) (hsz : 0 < sz)
    (good : ∀ fuel cs x, DataW.trod enc Tryz.prog W b0 (fun _ => true) held fuel e cs = some x → Rows.uptoBulk x.1 ≤ 1048576 → cs.length = sz ∧ cs.toArray.all (·.oneCell') = true ∧ Q cs)
    {fuel : Nat} {cs : List Value} {x : DataW H × List MemPlace} (h : DataW.trod enc Tryz.prog W b0 (fun _ => true) held fuel t cs = some x) (hr : Rows.uptoBulk x.1 ≤ 1048576) :
    ∃ ao cap css, cs = [.slice ao css.length cap] ∧ Lies sz W ao css cap ∧ ∀ i, i < css.length → Q (css.getD i []) := by
  rcases open_slice hu h with ⟨hcs, _⟩ | ⟨a, len, cap, m, n, D, Pl, rfl, _, hl, hm, hmm, hd, hx⟩
  · exact ⟨none, 0, [], hcs, ⟨Nat.le_refl _, by decide, by decide, fun i hi => absurd hi (Nat.not_lt_zero _), fun i hi => absurd hi (Nat.not_lt_zero _), .inl rfl⟩, fun i hi => absurd hi (Nat.not_lt_zero _)⟩
  · have hlb : len ≤ 1048576 := len_of_trod hu rfl h hr
    have hlm : len ≤ m := by rw [hmm]; split <;> omega
    rw [hc] at hx
    have hd' : x.1 = .slice ((List.range len).map D) ((List.range (m - len)).map fun j => D (len + j)) := by rw [hd]
    rw [hd'] at hr
    have each : ∀ i, i < len → ∃ (cs : List Value), cs.length = sz ∧ cs.toArray.all (·.oneCell') = true ∧ Q cs ∧ ∀ (j : Nat) v, cs[j]? = some v → W.cell? ((a.add (i * sz)).add j) = some v := by
      intro i hi
      obtain ⟨cs', hc', ht⟩ := hx i (by omega)
      obtain ⟨g1, g2, g3⟩ := good n cs' (D i, Pl i) ht (bulk_elem (List.mem_map.2 ⟨i, List.mem_range.2 hi, rfl⟩) hr)
      refine ⟨cs', g1, g2, g3, fun j v hv => ?_⟩
      have hj : j < sz := by rw [← g1]; exact (List.getElem?_eq_some_iff.1 hv).1
      rw [(World.cells?_some hc').2.2 j hj]
      exact hv
    have hf : ∃ f : Nat → List Value, ∀ i, i < len → (f i).length = sz ∧ (f i).toArray.all (·.oneCell') = true ∧ Q (f i) ∧ ∀ (j : Nat) v, (f i)[j]? = some v → W.cell? ((a.add (i * sz)).add j) = some v :=
      ⟨fun i => if h : i < len then Classical.choose (each i h) else [], fun i hi => by simp only [hi, dif_pos]; exact Classical.choose_spec (each i hi)⟩
    obtain ⟨f, hf⟩ := hf
    have hlen : ((List.range len).map f).length = len := by simp
    have gd : ∀ i, i < len → ((List.range len).map f).getD i [] = f i := fun i hi => by simp [hi]
    refine ⟨some a, cap, (List.range len).map f, by rw [hlen], ⟨by rw [hlen]; exact hl, hm, by rw [hlen]; exact hlb, fun i hi => ?_, fun i hi => ?_, ?_⟩, fun i hi => ?_⟩
    · rw [hlen] at hi; rw [gd i hi]; exact (hf i hi).1
    · rw [hlen] at hi; rw [gd i hi]; exact (hf i hi).2.1
    · by_cases h0 : len = 0
      · exact .inl (by rw [hlen]; exact h0)
      · obtain ⟨b, off, spot⟩ := a
        obtain rfl : spot = none := by
          have h1 := (hf 0 (by omega)).1
          have h2 := (hf 0 (by omega)).2.2.2 0 ((f 0)[0]'(by omega)) (List.getElem?_eq_getElem (by omega))
          simpa [Addr.add] using World.cell?_spot h2
        refine .inr ⟨b, off, rfl, fun i hi => ?_⟩
        rw [hlen] at hi
        rw [gd i hi]
        intro j v hv
        have h2 := (hf i hi).2.2.2 j v hv
        rw [Addr.add_lit, Addr.add_lit] at h2
        exact h2
    · rw [hlen] at hi; rw [gd i hi]; exact (hf i hi).2.2.1
theorem hdL_of {sz k : Nat} {ao : Option Addr} {css : List (List Value)} {c : Nat} (h : Lies sz W ao css c) (hq : ∀ i, i < css.length → ∃ o m c, (css.getD i [])[k]? = some (Value.slice o m c)) : HdL W ao css.length sz k (fun i => lenAt k (css.getD i [])) := by
  rcases h.mem with e | ⟨b, off, e, hm⟩
  · exact .inl e
  · refine .inr ⟨b, off, e, fun i hi => ?_⟩
    obtain ⟨o, m, c, hh⟩ := hq i hi
    exact ⟨o, c, by show W.cell? _ = some (Value.slice o (lenAt k (css.getD i [])) c); rw [lenAt_of hh]; exact hm i hi k _ hh⟩
def Qps (W : World) (cs : List Value) : Prop := (∃ X R, Item 22 48 psD W.heap.size W cs X R)
set_option maxHeartbeats 1000000 in
theorem good_ps (hT : Tabs W) (fuel : Nat) (cs : List Value) (x : DataW H × List MemPlace) (h : DataW.trod enc Tryz.prog W b0 (fun _ => true) held fuel 74 cs = some x) (hr : Rows.uptoBulk x.1 ≤ 1048576) : cs.length = 260 ∧ cs.toArray.all (·.oneCell') = true ∧ Qps W cs := by
  obtain ⟨zazhzs, zazhzp, zazhzpa, zazhzst, zazhzbo, zazsg, zzzhzs, zzzhzp, zzzhzpa, zzzhzst, zzzhzbo, zzzsg, rfl, hzazhzs, hzazhzp, hzazhzpa, hzazhzst, hzazhzbo, hzazsg, hzzzhzs, hzzzhzp, hzzzhzpa, hzzzhzst, hzzzhzbo, hzzzsg⟩ := ps_of_trod h
  exact ⟨psC_length zazhzs zazhzp zazhzpa zazhzst zazhzbo zazsg zzzhzs zzzhzp zzzhzpa zzzhzst zzzhzbo zzzsg hzazhzpa.len hzazhzst.len hzazhzbo.len hzazsg.len hzzzhzpa.len hzzzhzst.len hzzzhzbo.len hzzzsg.len, by simp [psC, psP, shC, shP, hdC, hdP, cellsB, Value.oneCell'], ⟨_, _, psDoc W.heap.size zazhzs zazhzp zazhzpa zazhzst zazhzbo zazsg zzzhzs zzzhzp zzzhzpa zzzhzst zzzhzbo zzzsg hzazhzs hzazhzp hzazhzpa hzazhzst hzazhzbo hzazsg hzzzhzs hzzzhzp hzzzhzpa hzzzhzst hzzzhzbo hzzzsg W, ⟨psR_rt zazhzs zazhzp zazhzpa zazhzst zazhzbo zazsg zzzhzs zzzhzp zzzhzpa zzzhzst zzzhzbo zzzsg hzazhzpa hzazhzst hzazhzbo hzazsg hzzzhzpa hzzzhzst hzzzhzbo hzzzsg, fun w' hb => psR_any zazhzs zazhzp zazhzpa zazhzst zazhzbo zazsg zzzhzs zzzhzp zzzhzpa zzzhzst zzzhzbo zzzsg hzazhzs hzazhzp hzazhzpa hzazhzst hzazhzbo hzazsg hzzzhzs hzzzhzp hzzzhzpa hzzzhzst hzzzhzbo hzzzsg w' (hT.keep hb)⟩, ps_rooted zazhzs zazhzp zazhzpa zazhzst zazhzbo zazsg zzzhzs zzzhzp zzzhzpa zzzhzst zzzhzbo zzzsg⟩⟩
def Qas (W : World) (cs : List Value) : Prop := (∃ n1 n2, (∃ o c, cs[0]? = some (Value.slice o n1 c)) ∧ (∃ o c, cs[133]? = some (Value.slice o n2 c)) ∧ n1 ≤ 1048576 ∧ n2 ≤ 1048576 ∧ (n1 ≤ 500 → n2 ≤ 500 → ∃ X R, Item 24 49 asD W.heap.size W cs X R))
set_option maxHeartbeats 1000000 in
theorem good_as (hT : Tabs W) (fuel : Nat) (cs : List Value) (x : DataW H × List MemPlace) (h : DataW.trod enc Tryz.prog W b0 (fun _ => true) held fuel 65 cs = some x) (hr : Rows.uptoBulk x.1 ≤ 1048576) : cs.length = 266 ∧ cs.toArray.all (·.oneCell') = true ∧ Qas W cs := by
  obtain ⟨zazno, zaznc, zaznl, zazdzs, zazdzi, zazdzb, zazdzcze, zazdzczr, zazdztze, zazdztzr, zazsg, zzzno, zzznc, zzznl, zzzdzs, zzzdzi, zzzdzb, zzzdzcze, zzzdzczr, zzzdztze, zzzdztzr, zzzsg, rfl, hzazdzs, hzazdzi, hzazdzb, hzazdzcze, hzazdzczr, hzazdztze, hzazdztzr, hzazsg, hzzzdzs, hzzzdzi, hzzzdzb, hzzzdzcze, hzzzdzczr, hzzzdztze, hzzzdztzr, hzzzsg, hzazn, hzzzn, hzaznn, hzzznn⟩ := as_of_trod h hr
  exact ⟨asC_length zazno zaznc zaznl zazdzs zazdzi zazdzb zazdzcze zazdzczr zazdztze zazdztzr zazsg zzzno zzznc zzznl zzzdzs zzzdzi zzzdzb zzzdzcze zzzdzczr zzzdztze zzzdztzr zzzsg hzazdzb.len hzazdzczr.len hzazdztzr.len hzazsg.len hzzzdzb.len hzzzdzczr.len hzzzdztzr.len hzzzsg.len, by simp [asC, asP, ixC, ixP, vtC, vtP, cpC, cpP, cellsB, Value.oneCell'], zaznl.length, zzznl.length, ⟨_, _, rfl⟩, ⟨_, _, seg (ps := asP zazno zaznc zaznl zazdzs zazdzi zazdzb zazdzcze zazdzczr zazdztze zazdztzr zazsg zzzno zzznc zzznl zzzdzs zzzdzi zzzdzb zzzdzcze zzzdzczr zzzdztze zzzdztzr zzzsg) (i := 1) (off := 133) rfl (by simp [asP, ixC_length zazno zaznc zaznl zazdzs zazdzi zazdzb zazdzcze zazdzczr zazdztze zazdztzr zazsg hzazdzb.len hzazdzczr.len hzazdztzr.len hzazsg.len]) 0 _ rfl⟩, hzaznn, hzzznn, fun u1 u2 => ⟨_, _, asDoc W.heap.size zazno zaznc zaznl zazdzs zazdzi zazdzb zazdzcze zazdzczr zazdztze zazdztzr zazsg zzzno zzznc zzznl zzzdzs zzzdzi zzzdzb zzzdzcze zzzdzczr zzzdztze zzzdztzr zzzsg hzazdzs hzazdzi hzazdzb hzazdzcze hzazdzczr hzazdztze hzazdztzr hzazsg hzzzdzs hzzzdzi hzzzdzb hzzzdzcze hzzzdzczr hzzzdztze hzzzdztzr hzzzsg W hzazn u1 hzzzn u2, ⟨asR_rt zazno zaznc zaznl zazdzs zazdzi zazdzb zazdzcze zazdzczr zazdztze zazdztzr zazsg zzzno zzznc zzznl zzzdzs zzzdzi zzzdzb zzzdzcze zzzdzczr zzzdztze zzzdztzr zzzsg hzazdzb hzazdzczr hzazdztzr hzazsg hzzzdzb hzzzdzczr hzzzdztzr hzzzsg, fun w' hb => asR_any zazno zaznc zaznl zazdzs zazdzi zazdzb zazdzcze zazdzczr zazdztze zazdztzr zazsg zzzno zzznc zzznl zzzdzs zzzdzi zzzdzb zzzdzcze zzzdzczr zzzdztze zzzdztzr zzzsg hzazdzs hzazdzi hzazdzb hzazdzcze hzazdzczr hzazdztze hzazdztzr hzazsg hzzzdzs hzzzdzi hzzzdzb hzzzdzcze hzzzdzczr hzzzdztze hzzzdztzr hzzzsg w' (hT.keep hb) (hzazn.keep hb) u1 (hzzzn.keep hb) u2⟩, as_rooted zazno zaznc zaznl zazdzs zazdzi zazdzb zazdzcze zazdzczr zazdztze zazdztzr zazsg zzzno zzznc zzznl zzzdzs zzzdzi zzzdzb zzzdzcze zzzdzczr zzzdztze zzzdztzr zzzsg u1 u2⟩⟩
def Qat (W : World) (cs : List Value) : Prop := (∃ n1, (∃ o c, cs[0]? = some (Value.slice o n1 c)) ∧ n1 ≤ 1048576 ∧ (n1 ≤ 500 → ∃ X R, Item 26 50 atD W.heap.size W cs X R))
set_option maxHeartbeats 1000000 in
theorem good_at (hT : Tabs W) (fuel : Nat) (cs : List Value) (x : DataW H × List MemPlace) (h : DataW.trod enc Tryz.prog W b0 (fun _ => true) held fuel 67 cs = some x) (hr : Rows.uptoBulk x.1 ≤ 1048576) : cs.length = 133 ∧ cs.toArray.all (·.oneCell') = true ∧ Qat W cs := by
  obtain ⟨zbo, zbc, zbl, zdzs, zdzi, zdzb, zdzcze, zdzczr, zdztze, zdztzr, zsg, rfl, hzdzs, hzdzi, hzdzb, hzdzcze, hzdzczr, hzdztze, hzdztzr, hzsg, hzb, hzbn⟩ := at_of_trod h hr
  exact ⟨atC_length zbo zbc zbl zdzs zdzi zdzb zdzcze zdzczr zdztze zdztzr zsg hzdzb.len hzdzczr.len hzdztzr.len hzsg.len, by simp [atC, atP, vtC, vtP, cpC, cpP, cellsB, Value.oneCell'], zbl.length, ⟨_, _, rfl⟩, hzbn, fun u1 => ⟨_, _, atDoc W.heap.size zbo zbc zbl zdzs zdzi zdzb zdzcze zdzczr zdztze zdztzr zsg hzdzs hzdzi hzdzb hzdzcze hzdzczr hzdztze hzdztzr hzsg W (tIn_all hzb) u1, ⟨atR_rt zbo zbc zbl zdzs zdzi zdzb zdzcze zdzczr zdztze zdztzr zsg hzdzb hzdzczr hzdztzr hzsg, fun w' hb => atR_any zbo zbc zbl zdzs zdzi zdzb zdzcze zdzczr zdztze zdztzr zsg hzdzs hzdzi hzdzb hzdzcze hzdzczr hzdztze hzdztzr hzsg w' (hT.keep hb) (hzb.keep hb) u1⟩, at_rooted zbo zbc zbl zdzs zdzi zdzb zdzcze zdzczr zdztze zdztzr zsg u1⟩⟩
def Qsx (W : World) (cs : List Value) : Prop := (∃ X R, Item 30 52 sxD W.heap.size W cs X R)
set_option maxHeartbeats 1000000 in
theorem good_sx (hT : Tabs W) (fuel : Nat) (cs : List Value) (x : DataW H × List MemPlace) (h : DataW.trod enc Tryz.prog W b0 (fun _ => true) held fuel 91 cs = some x) (hr : Rows.uptoBulk x.1 ≤ 1048576) : cs.length = 34 ∧ cs.toArray.all (·.oneCell') = true ∧ Qsx W cs := by
  obtain ⟨zxze, zxzi, zsg, rfl, hzxze, hzxzi, hzsg⟩ := sx_of_trod h
  exact ⟨sxC_length zxze zxzi zsg hzsg.len, by simp [sxC, sxP, exC, exP, cellsB, Value.oneCell'], ⟨_, _, sxDoc W.heap.size zxze zxzi zsg hzxze hzxzi hzsg W, ⟨sxR_rt zxze zxzi zsg hzsg, fun w' hb => sxR_any zxze zxzi zsg hzxze hzxzi hzsg w' (hT.keep hb)⟩, sx_rooted zxze zxzi zsg⟩⟩
def Qdp (W : World) (cs : List Value) : Prop := (∃ X R, Item 28 51 dpD W.heap.size W cs X R)
set_option maxHeartbeats 1000000 in
theorem good_dp (hT : Tabs W) (fuel : Nat) (cs : List Value) (x : DataW H × List MemPlace) (h : DataW.trod enc Tryz.prog W b0 (fun _ => true) held fuel 85 cs = some x) (hr : Rows.uptoBulk x.1 ≤ 1048576) : cs.length = 289 ∧ cs.toArray.all (·.oneCell') = true ∧ Qdp W cs := by
  obtain ⟨zp, zdzk, zdzcr, zdzam, zdzsg, rfl, hzp, hzpl, hzdzk, hzdzcr, hzdzam, hzdzsg⟩ := dp_of_trod h
  exact ⟨dpC_length zp zdzk zdzcr zdzam zdzsg hzp hzpl hzdzk.len hzdzcr.len hzdzsg.len, by simp [dpC, dpP, ddC, ddP, cellsB, cellsOf, Value.oneCell'], ⟨_, _, dpDoc W.heap.size zp zdzk zdzcr zdzam zdzsg hzp hzpl hzdzk hzdzcr hzdzam hzdzsg W, ⟨dpR_rt zp zdzk zdzcr zdzam zdzsg hzp hzdzk hzdzcr hzdzsg, fun w' hb => dpR_any zp zdzk zdzcr zdzam zdzsg hzp hzpl hzdzk hzdzcr hzdzam hzdzsg w' (hT.keep hb)⟩, dp_rooted zp zdzk zdzcr zdzam zdzsg hzp hzpl hzdzk hzdzcr hzdzsg⟩⟩
theorem cells_bd : Tryz.prog.cellsOf 33 = 102 := by kernel_rfl
theorem cellsL_ps : Tryz.prog.cellsOf 27 = 1 := by kernel_rfl
theorem cellsL_as : Tryz.prog.cellsOf 28 = 1 := by kernel_rfl
theorem cellsL_at : Tryz.prog.cellsOf 29 = 1 := by kernel_rfl
theorem cellsL_dp : Tryz.prog.cellsOf 30 = 1 := by kernel_rfl
theorem cellsL_sx : Tryz.prog.cellsOf 31 = 1 := by kernel_rfl
set_option maxHeartbeats 2000000 in
/-- A body that came in: its lists, as the walk wants them. -/
structure BdIn (W : World) (cs : List Value) (ra ed : List Nat) (ec : Nat) (gr : List Nat) (a1 a2 a3 a4 a5 : Option Addr) (c1 c2 c3 c4 c5 : Nat) (css1 css2 css3 css4 css5 : List (List Value)) : Prop where
  cells : cs = bdC ra ed ec gr (.slice a1 css1.length c1) (.slice a2 css2.length c2) (.slice a3 css3.length c3) (.slice a4 css4.length c4) (.slice a5 css5.length c5)
  hra : Rt ra
  hed : Rt ed
  hec : ec < 18446744073709551616
  hgr : Rt gr
  l1 : Lies 260 W a1 css1 c1
  l2 : Lies 266 W a2 css2 c2
  l3 : Lies 133 W a3 css3 c3
  l4 : Lies 289 W a4 css4 c4
  l5 : Lies 34 W a5 css5 c5
  q1 : ∀ i, i < css1.length → Qps W (css1.getD i [])
  q2 : ∀ i, i < css2.length → Qas W (css2.getD i [])
  q3 : ∀ i, i < css3.length → Qat W (css3.getD i [])
  q4 : ∀ i, i < css4.length → Qdp W (css4.getD i [])
  q5 : ∀ i, i < css5.length → Qsx W (css5.getD i [])
set_option maxHeartbeats 2000000 in
theorem bd_of_trod (hT : Tabs W) {fuel : Nat} {cs : List Value} {x : DataW H × List MemPlace} (h : DataW.trod enc Tryz.prog W b0 (fun _ => true) held fuel 33 cs = some x) (hr : Rows.uptoBulk x.1 ≤ 1048576) :
    ∃ ra ed ec gr a1 a2 a3 a4 a5 c1 c2 c3 c4 c5 css1 css2 css3 css4 css5, BdIn W cs ra ed ec gr a1 a2 a3 a4 a5 c1 c2 c3 c4 c5 css1 css2 css3 css4 css5 := by
  obtain ⟨xs, n, _, rfl, hl, hlen, hf⟩ := DataW.trod_struct Tryz.underlying33 h
  rw [cells_bd] at hl
  have hx : xs.length = 8 := hlen
  have f0 : ∃ y, xs[0]? = some y ∧ DataW.trod enc Tryz.prog W b0 (fun _ => true) held n 23 ((cs.drop 0).take 32) = some y := by
    have := hf 0 _ rfl
    change DataW.trod enc Tryz.prog W b0 (fun _ => true) held n 23 (List.take (Tryz.prog.cellsOf 23) (List.drop 0 cs)) = xs[0]? at this
    rw [cellsRt, List.getElem?_eq_getElem (by omega)] at this
    exact ⟨_, List.getElem?_eq_getElem (by omega), this⟩
  obtain ⟨y0, g0, f0⟩ := f0
  obtain ⟨ra, e0, hra⟩ := root_of_trod f0
  have f1 : ∃ y, xs[1]? = some y ∧ DataW.trod enc Tryz.prog W b0 (fun _ => true) held n 26 ((cs.drop 32).take 33) = some y := by
    have := hf 1 _ rfl
    change DataW.trod enc Tryz.prog W b0 (fun _ => true) held n 26 (List.take (Tryz.prog.cellsOf 26) (List.drop 32 cs)) = xs[1]? at this
    rw [cells_et, List.getElem?_eq_getElem (by omega)] at this
    exact ⟨_, List.getElem?_eq_getElem (by omega), this⟩
  obtain ⟨y1, g1, f1⟩ := f1
  obtain ⟨ed, ec, e1, hed, hec⟩ := et_of_trod f1
  have f2 : ∃ y, xs[2]? = some y ∧ DataW.trod enc Tryz.prog W b0 (fun _ => true) held n 23 ((cs.drop 65).take 32) = some y := by
    have := hf 2 _ rfl
    change DataW.trod enc Tryz.prog W b0 (fun _ => true) held n 23 (List.take (Tryz.prog.cellsOf 23) (List.drop 65 cs)) = xs[2]? at this
    rw [cellsRt, List.getElem?_eq_getElem (by omega)] at this
    exact ⟨_, List.getElem?_eq_getElem (by omega), this⟩
  obtain ⟨y2, g2, f2⟩ := f2
  obtain ⟨gr, e2, hgr⟩ := root_of_trod f2
  have f3 : ∃ y, xs[3]? = some y ∧ DataW.trod enc Tryz.prog W b0 (fun _ => true) held n 27 ((cs.drop 97).take 1) = some y := by
    have := hf 3 _ rfl
    change DataW.trod enc Tryz.prog W b0 (fun _ => true) held n 27 (List.take (Tryz.prog.cellsOf 27) (List.drop 97 cs)) = xs[3]? at this
    rw [cellsL_ps, List.getElem?_eq_getElem (by omega)] at this
    exact ⟨_, List.getElem?_eq_getElem (by omega), this⟩
  obtain ⟨y3, g3, f3⟩ := f3
  obtain ⟨a1, c1, css1, e3, L1, Q1⟩ := open_list Tryz.underlying27 cells_ps (by decide) (good_ps hT) f3 (bulk_part g3 hr)
  have f4 : ∃ y, xs[4]? = some y ∧ DataW.trod enc Tryz.prog W b0 (fun _ => true) held n 28 ((cs.drop 98).take 1) = some y := by
    have := hf 4 _ rfl
    change DataW.trod enc Tryz.prog W b0 (fun _ => true) held n 28 (List.take (Tryz.prog.cellsOf 28) (List.drop 98 cs)) = xs[4]? at this
    rw [cellsL_as, List.getElem?_eq_getElem (by omega)] at this
    exact ⟨_, List.getElem?_eq_getElem (by omega), this⟩
  obtain ⟨y4, g4, f4⟩ := f4
  obtain ⟨a2, c2, css2, e4, L2, Q2⟩ := open_list Tryz.underlying28 cells_as (by decide) (good_as hT) f4 (bulk_part g4 hr)
  have f5 : ∃ y, xs[5]? = some y ∧ DataW.trod enc Tryz.prog W b0 (fun _ => true) held n 29 ((cs.drop 99).take 1) = some y := by
    have := hf 5 _ rfl
    change DataW.trod enc Tryz.prog W b0 (fun _ => true) held n 29 (List.take (Tryz.prog.cellsOf 29) (List.drop 99 cs)) = xs[5]? at this
    rw [cellsL_at, List.getElem?_eq_getElem (by omega)] at this
    exact ⟨_, List.getElem?_eq_getElem (by omega), this⟩
  obtain ⟨y5, g5, f5⟩ := f5
  obtain ⟨a3, c3, css3, e5, L3, Q3⟩ := open_list Tryz.underlying29 cells_at (by decide) (good_at hT) f5 (bulk_part g5 hr)
  have f6 : ∃ y, xs[6]? = some y ∧ DataW.trod enc Tryz.prog W b0 (fun _ => true) held n 30 ((cs.drop 100).take 1) = some y := by
    have := hf 6 _ rfl
    change DataW.trod enc Tryz.prog W b0 (fun _ => true) held n 30 (List.take (Tryz.prog.cellsOf 30) (List.drop 100 cs)) = xs[6]? at this
    rw [cellsL_dp, List.getElem?_eq_getElem (by omega)] at this
    exact ⟨_, List.getElem?_eq_getElem (by omega), this⟩
  obtain ⟨y6, g6, f6⟩ := f6
  obtain ⟨a4, c4, css4, e6, L4, Q4⟩ := open_list Tryz.underlying30 cells_dp (by decide) (good_dp hT) f6 (bulk_part g6 hr)
  have f7 : ∃ y, xs[7]? = some y ∧ DataW.trod enc Tryz.prog W b0 (fun _ => true) held n 31 ((cs.drop 101).take 1) = some y := by
    have := hf 7 _ rfl
    change DataW.trod enc Tryz.prog W b0 (fun _ => true) held n 31 (List.take (Tryz.prog.cellsOf 31) (List.drop 101 cs)) = xs[7]? at this
    rw [cellsL_sx, List.getElem?_eq_getElem (by omega)] at this
    exact ⟨_, List.getElem?_eq_getElem (by omega), this⟩
  obtain ⟨y7, g7, f7⟩ := f7
  obtain ⟨a5, c5, css5, e7, L5, Q5⟩ := open_list Tryz.underlying31 cells_sx (by decide) (good_sx hT) f7 (bulk_part g7 hr)
  have hc := cut_flat cs [32, 33, 32, 1, 1, 1, 1, 1] 0 (by rw [hl]; rfl)
  rw [List.drop_zero] at e0
  simp only [cutAt, List.drop_zero, Nat.zero_add, Nat.reduceAdd, e0, e1, e2, e3, e4, e5, e6, e7] at hc
  have hc' : cs = bdC ra ed ec gr (.slice a1 css1.length c1) (.slice a2 css2.length c2) (.slice a3 css3.length c3) (.slice a4 css4.length c4) (.slice a5 css5.length c5) := hc
  exact ⟨ra, ed, ec, gr, a1, a2, a3, a4, a5, c1, c2, c3, c4, c5, css1, css2, css3, css4, css5, hc', hra, hed, hec, hgr, L1, L2, L3, L4, L5, Q1, Q2, Q3, Q4, Q5⟩
theorem bd_open (hT : Tabs W) {cs : List Value} {ra ed : List Nat} {ec : Nat} {gr : List Nat} {a1 a2 a3 a4 a5 : Option Addr} {c1 c2 c3 c4 c5 : Nat} {css1 css2 css3 css4 css5 : List (List Value)} (B : BdIn W cs ra ed ec gr a1 a2 a3 a4 a5 c1 c2 c3 c4 c5 css1 css2 css3 css4 css5) :
    Calls Tryz.prog 3 #[.agg cs.toArray] W fun e w' => e = .returned (.bool true) ∧ Below W.heap.size W w' := by
  rw [B.cells]
  have k2 : ∀ i, i < css2.length → ∃ n1 n2, lenAt 0 (css2.getD i []) = n1 ∧ lenAt 133 (css2.getD i []) = n2 ∧ n1 ≤ 1048576 ∧ n2 ≤ 1048576 := fun i hi => by
    obtain ⟨n1, n2, ⟨o1, d1, e1⟩, ⟨o2, d2, e2⟩, b1, b2, _⟩ := B.q2 i hi
    exact ⟨n1, n2, lenAt_of e1, lenAt_of e2, b1, b2⟩
  refine bodies_any ra ed ec gr a1 c1 css1 a2 c2 css2 a3 c3 css3 a4 c4 css4 a5 c5 css5 (fun i => lenAt 0 (css2.getD i [])) (fun i => lenAt 133 (css2.getD i [])) (fun i => lenAt 0 (css3.getD i [])) B.hra B.hed B.hec B.hgr W hT B.l1 B.l2 B.l3 B.l4 B.l5
    (fun i hi => by obtain ⟨n1, n2, e1, e2, b1, b2⟩ := k2 i hi; show lenAt 0 _ ≤ _; omega) (fun i hi => by obtain ⟨n1, n2, e1, e2, b1, b2⟩ := k2 i hi; show lenAt 133 _ ≤ _; omega)
    (fun i hi => by obtain ⟨n1, ⟨o1, d1, e1⟩, b1, _⟩ := B.q3 i hi; show lenAt 0 _ ≤ _; rw [lenAt_of e1]; exact b1)
    (hdL_of B.l2 (fun i hi => by obtain ⟨n1, n2, ⟨o1, d1, e1⟩, _⟩ := B.q2 i hi; exact ⟨o1, n1, d1, e1⟩)) (hdL_of B.l2 (fun i hi => by obtain ⟨n1, n2, _, ⟨o1, d1, e1⟩, _⟩ := B.q2 i hi; exact ⟨o1, n2, d1, e1⟩)) (hdL_of B.l3 (fun i hi => by obtain ⟨n1, ⟨o1, d1, e1⟩, _⟩ := B.q3 i hi; exact ⟨o1, n1, d1, e1⟩))
    B.q1 (fun i hi f1 f2 => ?_) (fun i hi f1 => ?_) B.q4 B.q5
  · obtain ⟨n1, n2, ⟨o1, d1, e1⟩, ⟨o2, d2, e2⟩, b1, b2, hit⟩ := B.q2 i hi
    exact hit (by have := lenAt_of e1; omega) (by have := lenAt_of e2; omega)
  · obtain ⟨n1, ⟨o1, d1, e1⟩, b1, hit⟩ := B.q3 i hi
    exact hit (by have := lenAt_of e1; omega)
end
end Go.Proofs.YtbmcmabimfoknaaGreatDoor

