/- Own texts of the proof, joined: BodyV. -/
import Derived.Test.YtbmcmabimfoknaaGreatDoorH9
/- The document's value of a Body. -/
namespace Go.Proofs.YtbmcmabimfoknaaGreatDoor
open Go.RowKit Go.Shelf
set_option linter.unusedVariables false
set_option linter.unusedSimpArgs false
set_option maxRecDepth 100000

/-- Worlds between which only the row u may have grown: it owns what it owned. -/
structure AppO (u : Value) (base n : Nat) (xs : List Value) (w w' : World) : Prop where
  grown : w.grownBy w' u.ownBlock
  old : w.ownsRow base 43 35 u n xs → w'.ownsRow base 43 35 u n xs
theorem AppO.refl {u : Value} {base n : Nat} {xs : List Value} (w : World) : AppO u base n xs w w := ⟨⟨rfl, rfl, rfl, Nat.le_refl _, fun _ _ _ => rfl⟩, id⟩
theorem AppO.trans {u : Value} {base n : Nat} {xs : List Value} {a b c : World} (h : AppO u base n xs a b) (k : AppO u base n xs b c) : AppO u base n xs a c := ⟨grownO_trans h.grown k.grown, fun x => k.old (h.old x)⟩
theorem AppO.of_below {u : Value} {base n : Nat} {xs : List Value} {w w' : World} (h : Below w.heap.size w w') : AppO u base n xs w w' := ⟨⟨h.os, h.tape, h.output, h.size, fun k hk _ => h.block k hk⟩, fun x => own_keep x h⟩
theorem AppO.drew {u : Value} {base n : Nat} {xs : List Value} (w : World) : AppO u base n xs w { w with drawn := w.drawn + 1 } := AppO.of_below ⟨rfl, rfl, rfl, Nat.le_refl _, fun _ _ => rfl⟩
theorem vIn_parts {Q : Nat → Prop} {w : World} {x : Vt} {sb sk : Value} (h : VIn Q w x sb sk) : x.root.length = 32 ∧ isSl sb ∧ isSl sk := by
  have h1 := h.at
  cases x with
  | mk n r bb kk =>
    rw [VAt] at h1
    obtain ⟨⟨_, hr, _⟩, hT, ao, cap, rfl, _⟩ := h1
    exact ⟨hr, hT.sl, trivial⟩
theorem val_srcX {w : World} {b : Nat} {x : Vt} {sb sk : Value} (h : HasC w b 43 (valL x.num x.root sb sk)) (hr : x.root.length = 32) (h1 : isSl sb) (h2 : isSl sk) : Src Tryz.prog 35 41 (.slice (some ⟨b, 0, none⟩) 1 1) 1 (valL x.num x.root sb sk) w := by
  refine Src.ofSlice w Tryz.underlying41 ⟨b, 0, none⟩ 1 1 _ (by rw [valL_length _ _ _ _ hr]) (fun j u hj => by rw [Addr.add_lit, Nat.zero_add]; exact h.cell hj) (fun u hu => ?_)
  have := valL_oneC x.num x.root sb sk h1 h2
  exact (Array.all_eq_true_iff_forall_mem.1 this) u (by simpa using hu)
theorem rangeAt_grown {w w' : World} {b o : Nat} {cs : List Value} {row : Option Nat} (h : w.rangeAt b o cs) (hG : w.grownBy w' row) (hr : row ≠ some b) : w'.rangeAt b o cs := fun j v hv => by
  have h1 := h j v hv
  exact (World.cell?_of_block (a := ⟨b, o + j, none⟩) (hG.block b (block_lt_of_cell h1) (fun e => hr e.symm))).trans h1
def bdU (ra ed : List Nat) (ec : Nat) (gr : List Nat) (X1 X2 X3 X4 X5 : List Vt) : Vt := .mk 0 (zeros 32) [] [.mk 0 ra [] [], etU ed ec, .mk 0 gr [] [], .mk 0 (zeros 32) [] X1, .mk 0 (zeros 32) [] X2, .mk 0 (zeros 32) [] X3, .mk 0 (zeros 32) [] X4, .mk 0 (zeros 32) [] X5]
theorem own_isSl {w : World} {base n s : Nat} {e : TypeId} {v : Value} {xs : List Value} (h : w.ownsRow base e s v n xs) : isSl v := by
  rcases h.2 with ⟨rfl, _⟩ | ⟨g, cap, cur, rfl, _⟩ <;> trivial
set_option maxHeartbeats 8000000 in
theorem bodyV_any (P : Nat → Prop) (B0 : Nat) (ra ed : List Nat) (ec : Nat) (gr : List Nat) (a1 : Option Addr) (c1 : Nat) (css1 : List (List Value)) (Xs1 : List Vt) (a2 : Option Addr) (c2 : Nat) (css2 : List (List Value)) (Xs2 : List Vt) (a3 : Option Addr) (c3 : Nat) (css3 : List (List Value)) (Xs3 : List Vt) (a4 : Option Addr) (c4 : Nat) (css4 : List (List Value)) (Xs4 : List Vt) (a5 : Option Addr) (c5 : Nat) (css5 : List (List Value)) (Xs5 : List Vt) (hra : Rt ra) (hed : Rt ed) (hec : ec < 18446744073709551616) (hgr : Rt gr) (w : World) (hB0 : B0 ≤ w.heap.size) (hP0 : ∀ b, b < B0 → P b) (hP : ∀ b, w.heap.size ≤ b → P b) (hn1 : css1.length ≤ 500) (h1 : DocL 48 260 B0 w a1 css1 Xs1) (hn2 : css2.length ≤ 500) (h2 : DocL 49 266 B0 w a2 css2 Xs2) (hn3 : css3.length ≤ 500) (h3 : DocL 50 133 B0 w a3 css3 Xs3) (hn4 : css4.length ≤ 500) (h4 : DocL 51 289 B0 w a4 css4 Xs4) (hn5 : css5.length ≤ 500) (h5 : DocL 52 34 B0 w a5 css5 Xs5) :
    Calls Tryz.prog 10 #[.agg (bdC ra ed ec gr (.slice a1 css1.length c1) (.slice a2 css2.length c2) (.slice a3 css3.length c3) (.slice a4 css4.length c4) (.slice a5 css5.length c5)).toArray] w fun x w' => ∃ v, x = .returned v ∧ IsVI P w' v (bdU ra ed ec gr Xs1 Xs2 Xs3 Xs4 Xs5) ∧ Below w.heap.size w w' := by
  obtain ⟨P1, hP1⟩ : ∃ P1 : Nat → Prop, Same (fun b => P b ∧ (b < w.heap.size ∨ w.heap.size + 7 ≤ b)) P1 := ⟨_, ⟨rfl⟩⟩
  have HPV : Hid (∀ b, P1 b → b < w.heap.size ∨ w.heap.size + 7 ≤ b) := hid (fun b hb => by rw [← hP1.out] at hb; exact hb.2)
  have HPN : Hid (∀ b, w.heap.size + 7 ≤ b → P1 b) := hid (fun b hb => by rw [← hP1.out]; exact ⟨hP b (by omega), .inr hb⟩)
  have HPO : Hid (∀ b, b < B0 → P1 b) := hid (fun b hb => by rw [← hP1.out]; exact ⟨hP0 b hb, .inl (by omega)⟩)
  have HP0 := hid hP0
  have HPW := hid hP
  have HD1 := hid h1
  have HD2 := hid h2
  have HD3 := hid h3
  have HD4 := hid h4
  have HD5 := hid h5
  obtain ⟨n1, HN1⟩ : ∃ n, Same css1.length n := ⟨_, ⟨rfl⟩⟩
  obtain ⟨n2, HN2⟩ : ∃ n, Same css2.length n := ⟨_, ⟨rfl⟩⟩
  obtain ⟨n3, HN3⟩ : ∃ n, Same css3.length n := ⟨_, ⟨rfl⟩⟩
  obtain ⟨n4, HN4⟩ : ∃ n, Same css4.length n := ⟨_, ⟨rfl⟩⟩
  obtain ⟨n5, HN5⟩ : ∃ n, Same css5.length n := ⟨_, ⟨rfl⟩⟩
  obtain ⟨CS, HCS⟩ : ∃ CS, Same (bdC ra ed ec gr (.slice a1 css1.length c1) (.slice a2 css2.length c2) (.slice a3 css3.length c3) (.slice a4 css4.length c4) (.slice a5 css5.length c5)) CS := ⟨_, ⟨rfl⟩⟩
  have HC1 : Hid (CS[97]? = some (.slice a1 n1 c1)) := hid (by rw [← HCS.out, ← HN1.out]; exact bd_at1 ra ed ec gr _ _ _ _ _ hra.1 hed.1 hgr.1)
  have HC2 : Hid (CS[98]? = some (.slice a2 n2 c2)) := hid (by rw [← HCS.out, ← HN2.out]; exact bd_at2 ra ed ec gr _ _ _ _ _ hra.1 hed.1 hgr.1)
  have HC3 : Hid (CS[99]? = some (.slice a3 n3 c3)) := hid (by rw [← HCS.out, ← HN3.out]; exact bd_at3 ra ed ec gr _ _ _ _ _ hra.1 hed.1 hgr.1)
  have HC4 : Hid (CS[100]? = some (.slice a4 n4 c4)) := hid (by rw [← HCS.out, ← HN4.out]; exact bd_at4 ra ed ec gr _ _ _ _ _ hra.1 hed.1 hgr.1)
  have HC5 : Hid (CS[101]? = some (.slice a5 n5 c5)) := hid (by rw [← HCS.out, ← HN5.out]; exact bd_at5 ra ed ec gr _ _ _ _ _ hra.1 hed.1 hgr.1)
  rw [HCS.out]
  rw [HN1.out] at hn1
  rw [HN2.out] at hn2
  rw [HN3.out] at hn3
  rw [HN4.out] at hn4
  rw [HN5.out] at hn5
  clear hP0 hP h1 h2 h3 h4 h5
  go_enter Tryz.func10, Tryz.ntmps10
  go_wp2_with ((with_reducible refine at_list' ?_); first
    | (refine wpList_box_c rfl 1 rfl (.tmp 0) rfl CS rfl ?_; intro w0 H0 B0x S0)
    | (refine wpList_alloc_c Tryz.ty43 rfl 2 rfl rfl ?_; intro w1 H1 B1 S1; rw [S0] at H1 S1; simp only [S0]; try go_simp)
    | (refine wpList_alloc_c Tryz.ty43 rfl 3 rfl rfl ?_; intro w2 H2 B2 S2; rw [S1] at H2 S2; simp only [S1]; try go_simp)
    | (refine wpList_alloc_c Tryz.ty43 rfl 4 rfl rfl ?_; intro w3 H3 B3 S3; rw [S2] at H3 S3; simp only [S2]; try go_simp)
    | (refine wpList_alloc_c Tryz.ty43 rfl 5 rfl rfl ?_; intro w4 H4 B4 S4; rw [S3] at H4 S4; simp only [S3]; try go_simp)
    | (refine wpList_alloc_c Tryz.ty43 rfl 6 rfl rfl ?_; intro w5 H5 B5 S5; rw [S4] at H5 S5; simp only [S4]; try go_simp)
    | (refine wpList_alloc_c Tryz.ty43 rfl 7 rfl rfl ?_; intro w6 H6 B6 S6; rw [S5] at H6 S6; simp only [S5]; try go_simp)
    | (refine wpList_build_c rfl _ rfl #[] (by simp) _ (build_none _) ?_; try go_simp)
    | (refine wpList_store_c Tryz.ty43 rfl (.tmp 3) (.tmp 13) rfl (w.heap.size + 1 + 1) (valL 0 (zeros 32) nilS nilS) rfl rfl rfl (valL_oneC _ _ _ _ trivial trivial) _ ((((H2.keep B3).keep B4).keep B5).keep B6) rfl ?_; intro w7 H7 O7)
    | (refine wpList_store_c Tryz.ty43 rfl (.tmp 4) (.tmp 14) rfl (w.heap.size + 1 + 1 + 1) (valL 0 (zeros 32) nilS nilS) rfl rfl rfl (valL_oneC _ _ _ _ trivial trivial) _ ((((H3.keep B4).keep B5).keep B6).only O7 (by omega)) rfl ?_; intro w8 H8 O8)
    | (refine wpList_store_c Tryz.ty43 rfl (.tmp 5) (.tmp 15) rfl (w.heap.size + 1 + 1 + 1 + 1) (valL 0 (zeros 32) nilS nilS) rfl rfl rfl (valL_oneC _ _ _ _ trivial trivial) _ ((((H4.keep B5).keep B6).only O7 (by omega)).only O8 (by omega)) rfl ?_; intro w9 H9 O9)
    | (refine wpList_store_c Tryz.ty43 rfl (.tmp 6) (.tmp 16) rfl (w.heap.size + 1 + 1 + 1 + 1 + 1) (valL 0 (zeros 32) nilS nilS) rfl rfl rfl (valL_oneC _ _ _ _ trivial trivial) _ ((((H5.keep B6).only O7 (by omega)).only O8 (by omega)).only O9 (by omega)) rfl ?_; intro w10 H10 O10)
    | (refine wpList_store_c Tryz.ty43 rfl (.tmp 7) (.tmp 17) rfl (w.heap.size + 1 + 1 + 1 + 1 + 1 + 1) (valL 0 (zeros 32) nilS nilS) rfl rfl rfl (valL_oneC _ _ _ _ trivial trivial) _ ((((H6.only O7 (by omega)).only O8 (by omega)).only O9 (by omega)).only O10 (by omega)) rfl ?_; intro w11 H11 O11))
  have HV1 : Hid (BV P1 w.heap.size CS [nilS, nilS, nilS, nilS, nilS] [] w11.heap.size w11 ∧ Below w.heap.size w w11 ∧ w.heap.size + 7 ≤ w11.heap.size) := by
    have L0 := below_more (below_more (below_more (below_more (below_more (below_more B0x B1 (Nat.le_refl _)) B2 (Nat.le_refl _)) B3 (Nat.le_refl _)) B4 (Nat.le_refl _)) B5 (Nat.le_refl _)) B6 (Nat.le_refl _)
    have L1 := below_only (below_only (below_only (below_only (below_only L0 O7 (by omega)) O8 (by omega)) O9 (by omega)) O10 (by omega)) O11 (by omega)
    have hsz : w11.heap.size = w.heap.size + 7 := by rw [O11.size, O10.size, O9.size, O8.size, O7.size, S6]
    refine hid ⟨⟨(((((((((((H0.keep B1).keep B2).keep B3).keep B4).keep B5).keep B6).only O7 (by omega)).only O8 (by omega)).only O9 (by omega)).only O10 (by omega)).only O11 (by omega)), ((((((((((H1.keep B2).keep B3).keep B4).keep B5).keep B6).only O7 (by omega)).only O8 (by omega)).only O9 (by omega)).only O10 (by omega)).only O11 (by omega)), fun j hj => ?_, fun j hj => absurd hj (Nat.not_lt_zero _)⟩, L1, by omega⟩
    match j, hj with
    | 0, _ => exact ((((H7.only O8 (by omega)).only O9 (by omega)).only O10 (by omega)).only O11 (by omega))
    | 1, _ => exact (((H8.only O9 (by omega)).only O10 (by omega)).only O11 (by omega))
    | 2, _ => exact ((H9.only O10 (by omega)).only O11 (by omega))
    | 3, _ => exact (H10.only O11 (by omega))
    | 4, _ => exact H11
  clear H0 B0x S0 H1 B1 S1 H2 B2 S2 H3 B3 S3 H4 B4 S4 H5 B5 S5 H6 B6 S6 H7 O7 H8 O8 H9 O9 H10 O10 H11 O11
  go_wp2_with fail
  go_loopw [8] (fun i wr1 => ∃ (t1 : Nat) (u1 : Value) (xs1 : List (Vt × Value × Value)), t1 ≤ n1 ∧ i = .int .i64 t1 ∧ BV P1 w.heap.size CS [u1, nilS, nilS, nilS, nilS] [] w11.heap.size wr1 ∧ wr1.ownsRow w11.heap.size 43 35 u1 t1 (rowV xs1).flatten ∧ xs1.length = t1 ∧ xs1.map (·.1) = Xs1.take t1 ∧ EIn (Qrow P1 u1) wr1 xs1 ∧ Below w.heap.size w wr1 ∧ w11.heap.size ≤ wr1.heap.size) (fun i _ => n1 - (intOf i).toNat)
  case atStart => exact ⟨0, nilS, [], Nat.zero_le _, rfl, HV1.out.1, World.ownsRow_nil _ _ _ _, rfl, rfl, (fun x hx => by cases hx), HV1.out.2.1, Nat.le_refl _⟩
  case round =>
    rename World => wr1
    obtain ⟨t1, u1, xs1, ht, rfl, hV, hown, hxl, hxm, hE, hW, hwz⟩ := hrel
    have c0 := hV.box.cell HC1.out
    by_cases hlt : t1 < n1
    · have hlt2 : t1 < css1.length := by rw [HN1.out]; exact hlt
      obtain ⟨nb, noff, hna, hmm⟩ := HD1.out.mem.resolve_left (by omega)
      subst hna
      have hm := hmm t1 hlt2
      have hcz := HD1.out.size t1 hlt2
      have hdoc := HD1.out.doc t1 hlt2
      obtain ⟨CT, HCT⟩ : ∃ c, Same (css1.getD t1 []) c := ⟨_, ⟨rfl⟩⟩
      obtain ⟨X, HXT⟩ : ∃ X, Same (Xs1.getD t1 vt0) X := ⟨_, ⟨rfl⟩⟩
      rw [HCT.out] at hm hcz hdoc
      rw [HXT.out] at hdoc
      have hnb : nb < w.heap.size := by
        have h0 := List.getElem?_eq_getElem (show 0 < CT.length by omega)
        exact block_lt_of_cell (hm 0 _ h0)
      have hwl := hW.size
      have hol := fun g hg => own_lt hown g hg
      have hB7 := HV1.out.2.2
      have hrow : ∀ g, u1.ownBlock = some g → w11.heap.size ≤ g ∧ g < wr1.heap.size := fun g hg => hol g hg
      have HF := hid (And.intro hV (And.intro hown (And.intro (rangeAt_keepD hm hW) (And.intro hrow (And.intro hdoc hW)))))
      have HO := hid (And.intro hxl (And.intro hxm (And.intro hE (And.intro hnb (And.intro hcz (And.intro hwl (And.intro hB7 hwz)))))))
      have hn500 : t1 ≤ 500 := by omega
      clear hm hmm hown hE hW hxl hxm hol hdoc hrow hcz hV hnb hwl hB7 hwz
      go_wp2_with fail
      try simp only [Act.put, List.setIfInBounds_toArray, List.set_cons_succ, List.set_cons_zero]
      refine wp_region_flowO (AppO u1 w11.heap.size t1 (rowV xs1).flatten) (fun i wa wb => (i = 9 ∧ AppO u1 w11.heap.size t1 (rowV xs1).flatten wa wb) ∨ Below wa.heap.size wa wb) 10 10 (fun i v wq => match i with
        | 0 => v = .pointer (some ⟨w.heap.size + 2 + 0, 34, none⟩)
        | 1 => v = u1
        | 2 => v = .pointer (some ⟨w.heap.size, 97, none⟩)
        | 3 => v = .slice (some ⟨nb, noff, none⟩) n1 c1
        | 4 => v = .int .i64 (t1 : Nat)
        | 5 => v = .pointer (some ⟨nb, noff + t1 * 260, none⟩)
        | 6 => v = .agg CT.toArray
        | 7 => ∃ sb sk n, v = .agg (valL X.num X.root sb sk).toArray ∧ (wr1.heap.size ≤ n ∧ n ≤ wq.heap.size) ∧ VIn (fun c => (c < B0 ∨ wr1.heap.size ≤ c) ∧ c < n) wq X sb sk
        | 8 => ∃ b sb sk n, wr1.heap.size ≤ b ∧ v = .slice (some ⟨b, 0, none⟩) 1 1 ∧ HasC wq b 43 (valL X.num X.root sb sk) ∧ (wr1.heap.size ≤ n ∧ n ≤ wq.heap.size) ∧ VIn (fun c => (c < B0 ∨ wr1.heap.size ≤ c) ∧ c < n) wq X sb sk
        | _ => ∃ sb sk n, wq.ownsRow w11.heap.size 43 35 v (t1 + 1) ((rowV xs1).flatten ++ valL X.num X.root sb sk) ∧ (wr1.heap.size ≤ n ∧ n ≤ wq.heap.size) ∧ VIn (fun c => (c < B0 ∨ wr1.heap.size ≤ c) ∧ c < n) wq X sb sk ∧ ∀ g, v.ownBlock = some g → u1.ownBlock = some g ∨ n ≤ g) (by kernel_rfl) (by kernel_rfl) AppO.refl (fun _ _ _ h k => h.trans k) AppO.drew (fun i wa wb h => by rcases h with h | h; exact h.2; exact AppO.of_below h) (fun i wa => .inr (Below.refl _ _)) (fun _ d _ _ _ h => by cases d <;> exact h) ?_ ?_ ?_ ?_ ?_
      · intro i o g b hi ho hg v wq hv
        match i, hi with
        | 0, _ => cases ho; cases hg
        | 1, _ => cases ho; cases hg
        | 2, _ => cases ho; cases hg
        | 3, _ => cases ho; cases hg
        | 4, _ => cases ho; cases hg
        | 5, _ => cases ho; cases hg
        | 6, _ => cases ho; cases hg
        | 7, _ => cases ho; cases hg
        | 8, _ => cases ho; cases hg
        | 9, _ => cases ho; cases hg
        | (k + 10), hk => exact absurd hk (by omega)
      · intro i j v wq wq' hi hj hne hv hs
        match j, hj with
        | 0, _ => exact hv
        | 1, _ => exact hv
        | 2, _ => exact hv
        | 3, _ => exact hv
        | 4, _ => exact hv
        | 5, _ => exact hv
        | 6, _ => exact hv
        | 7, _ =>
          obtain ⟨sb, sk, n, e, hn, hvi⟩ := hv
          rcases hs with hs | hs
          · exact ⟨sb, sk, n, e, ⟨hn.1, Nat.le_trans hn.2 hs.2.grown.size⟩, hvi.grown hs.2.grown (fun b hb e => by have := HF.out.2.2.2.1 b e; have := HO.out.2.2.2.2.2.2.1; rcases hb.1 with h | h <;> omega)⟩
          · exact ⟨sb, sk, n, e, ⟨hn.1, Nat.le_trans hn.2 hs.size⟩, hvi.keep hs⟩
        | 8, _ =>
          obtain ⟨b, sb, sk, n, h1, e, h3, hn, hvi⟩ := hv
          rcases hs with hs | hs
          · exact ⟨b, sb, sk, n, h1, e, h3.grownO hs.2.grown (fun e => by have := HF.out.2.2.2.1 _ e; omega), ⟨hn.1, Nat.le_trans hn.2 hs.2.grown.size⟩, hvi.grown hs.2.grown (fun b hb e => by have := HF.out.2.2.2.1 b e; have := HO.out.2.2.2.2.2.2.1; rcases hb.1 with h | h <;> omega)⟩
          · exact ⟨b, sb, sk, n, h1, e, h3.keep hs, ⟨hn.1, Nat.le_trans hn.2 hs.size⟩, hvi.keep hs⟩
        | 9, _ =>
          obtain ⟨sb, sk, n, h3, hn, hvi, hg⟩ := hv
          rcases hs with hs | hs
          · exact absurd hs.1.symm hne
          · exact ⟨sb, sk, n, own_keep h3 hs, ⟨hn.1, Nat.le_trans hn.2 hs.size⟩, hvi.keep hs, hg⟩
        | (k + 10), hk => exact absurd hk (by omega)
      · intro i o hi ho aq wq hc hk hdep
        have hbx : BV P1 w.heap.size CS [u1, nilS, nilS, nilS, nilS] [] w11.heap.size wq := HF.out.1.grown hc.grown (fun g hg => by have := HF.out.2.2.2.1 g hg; have := HO.out.2.2.2.2.2.2.1; omega)
        match i, hi with
        | 0, _ =>
          cases ho
          refine flowR_of (R := fun wa wb => (0 = 9 ∧ AppO u1 w11.heap.size t1 (rowV xs1).flatten wa wb) ∨ Below wa.heap.size wa wb) (fun w' h => .inr h) ?_
          have e1 : aq.tmps.getD 3 undef = .pointer (some ⟨w.heap.size + 2 + 0, 0, none⟩) := hk 3 (by decide)
          exact flow_value _ (run_fieldAt 43 (.tmp 3) 3 rfl _ _ e1 (by kernel_rfl)) rfl
        | 1, _ =>
          cases ho
          refine flowR_of (R := fun wa wb => (1 = 9 ∧ AppO u1 w11.heap.size t1 (rowV xs1).flatten wa wb) ∨ Below wa.heap.size wa wb) (fun w' h => .inr h) ?_
          have e0 : aq.tmps.getD 25 undef = .pointer (some ⟨w.heap.size + 2 + 0, 34, none⟩) := hdep 0 25 rfl (by kernel_rfl)
          exact flow_value _ (run_cell 41 (.tmp 25) rfl _ e0 _ ((hbx.vars 0 (by decide)).cell (valL_34 0 (zeros 32) nilS u1 zeros32)) _ Tryz.underlying41 rfl) rfl
        | 2, _ =>
          cases ho
          refine flowR_of (R := fun wa wb => (2 = 9 ∧ AppO u1 w11.heap.size t1 (rowV xs1).flatten wa wb) ∨ Below wa.heap.size wa wb) (fun w' h => .inr h) ?_
          have e1 : aq.tmps.getD 1 undef = .pointer (some ⟨w.heap.size, 0, none⟩) := hk 1 (by decide)
          exact flow_value _ (run_fieldAt 33 (.tmp 1) 3 rfl _ _ e1 (by kernel_rfl)) rfl
        | 3, _ =>
          cases ho
          refine flowR_of (R := fun wa wb => (3 = 9 ∧ AppO u1 w11.heap.size t1 (rowV xs1).flatten wa wb) ∨ Below wa.heap.size wa wb) (fun w' h => .inr h) ?_
          have e0 : aq.tmps.getD 27 undef = .pointer (some ⟨w.heap.size, 97, none⟩) := hdep 2 27 rfl (by kernel_rfl)
          exact flow_value _ (run_cell 27 (.tmp 27) rfl _ e0 _ (hbx.box.cell HC1.out) _ Tryz.underlying27 rfl) rfl
        | 4, _ =>
          cases ho
          refine flowR_of (R := fun wa wb => (4 = 9 ∧ AppO u1 w11.heap.size t1 (rowV xs1).flatten wa wb) ∨ Below wa.heap.size wa wb) (fun w' h => .inr h) ?_
          exact flow_move (.tmp 8) rfl (hk 8 (by decide))
        | 5, _ =>
          cases ho
          refine flowR_of (R := fun wa wb => (5 = 9 ∧ AppO u1 w11.heap.size t1 (rowV xs1).flatten wa wb) ∨ Below wa.heap.size wa wb) (fun w' h => .inr h) ?_
          have e0 : aq.tmps.getD 28 undef = .slice (some ⟨nb, noff, none⟩) n1 c1 := hdep 3 28 rfl (by kernel_rfl)
          have e1 : aq.tmps.getD 29 undef = .int .i64 (t1 : Nat) := hdep 4 29 rfl (by kernel_rfl)
          exact flow_value _ (run_atG 27 74 260 (.tmp 28) (.tmp 29) rfl Tryz.underlying27 (by kernel_rfl) nb noff n1 c1 t1 e0 e1 hlt) rfl
        | 6, _ =>
          cases ho
          refine flowR_of (R := fun wa wb => (6 = 9 ∧ AppO u1 w11.heap.size t1 (rowV xs1).flatten wa wb) ∨ Below wa.heap.size wa wb) (fun w' h => .inr h) ?_
          have e0 : aq.tmps.getD 30 undef = .pointer (some ⟨nb, noff + t1 * 260, none⟩) := hdep 5 30 rfl (by kernel_rfl)
          exact flow_value _ (run_mid 74 (.tmp 30) rfl nb (noff + t1 * 260) e0 CT (rangeAt_grown HF.out.2.2.1 hc.grown (fun e => by have := HF.out.2.2.2.1 _ e; have := HO.out.2.2.2.1; have := HO.out.2.2.2.2.2.2.1; omega)) _ Tryz.underlying74 rfl (by rw [HO.out.2.2.2.2.1]; kernel_rfl)) rfl
        | 7, _ =>
          cases ho
          refine flowR_of (R := fun wa wb => (7 = 9 ∧ AppO u1 w11.heap.size t1 (rowV xs1).flatten wa wb) ∨ Below wa.heap.size wa wb) (fun w' h => .inr h) ?_
          have e0 : aq.tmps.getD 31 undef = .agg CT.toArray := hdep 6 31 rfl (by kernel_rfl)
          refine flow_fun 48 _ _ rfl (fun _ _ => by simp [go_sem]) #[.agg CT.toArray] (by rw [show (#[Operand.tmp 31] : Array Operand).map aq.eval = #[aq.tmps.getD 31 undef] from by simp [Act.eval], e0]) ?_
          refine (HF.out.2.2.2.2.1.call (fun c => c < B0 ∨ wr1.heap.size ≤ c) wq (HF.out.2.2.2.2.2.grown hc.grown HO.out.2.2.2.2.2.1 (fun k hk => by have := HF.out.2.2.2.1 k hk; have := HO.out.2.2.2.2.2.2.1; omega)) (fun b hb => .inl hb) (fun b hb => .inr (Nat.le_trans hc.grown.size hb))).mono ?_
          rintro x w' ⟨v, rfl, ⟨sb, sk, rfl, hvi⟩, q⟩
          exact ⟨_, rfl, ⟨sb, sk, w'.heap.size, rfl, ⟨Nat.le_trans hc.grown.size q.size, Nat.le_refl _⟩, hvi.cap⟩, q⟩
        | 8, _ =>
          cases ho
          refine flowR_of (R := fun wa wb => (8 = 9 ∧ AppO u1 w11.heap.size t1 (rowV xs1).flatten wa wb) ∨ Below wa.heap.size wa wb) (fun w' h => .inr h) ?_
          obtain ⟨sb, sk, n, e0, hn, hvi⟩ := hdep 7 32 rfl (by kernel_rfl)
          refine flow_rowsB 41 43 1 35 _ rfl Tryz.underlying41 valInfo [valL X.num X.root sb sk] [.tmp 32] rfl (by rw [show [Operand.tmp 32].map aq.eval = [aq.tmps.getD 32 undef] from rfl, e0]; rfl) (by simp [valL_length, (vIn_parts hvi).1]) rfl (by decide) (by decide) (by decide) (fun w' h hb => ⟨wq.heap.size, sb, sk, n, hc.grown.size, rfl, (by simpa using h), ⟨hn.1, Nat.le_trans hn.2 hb.size⟩, hvi.keep hb⟩)
        | 9, _ =>
          cases ho
          obtain ⟨b, sb, sk, n, h1, e1, h3, hn, hvi⟩ := hdep 8 33 rfl (by kernel_rfl)
          have e0 : aq.tmps.getD 26 undef = u1 := hdep 1 26 rfl (by kernel_rfl)
          obtain ⟨i0, hi, hz0, hz1, hz2⟩ := info_parts valInfo3
          obtain ⟨v2, w2, hrun, hown2, hg2, hmv, hk1, hk2⟩ := run_append_kept (P := Tryz.prog) wq w11.heap.size 41 41 41 43 i0 _ 35 _ Tryz.underlying41 hi hz0 hz1 hz2 rfl (by decide) u1 t1 _ (hc.old HF.out.2.1) (.slice (some ⟨b, 0, none⟩) 1 1) 1 (valL X.num X.root sb sk) (val_srcX h3 (vIn_parts hvi).1 (vIn_parts hvi).2.1 (vIn_parts hvi).2.2) (by unfold maxLen; omega) (by omega) (Nat.le_trans HO.out.2.2.2.2.2.2.2 hc.grown.size)
          exact wp_runW (run_call_append (.tmp 26) (.tmp 33) 41 41 rfl u1 (.slice (some ⟨b, 0, none⟩) 1 1) v2 e0 e1 hrun) ⟨v2, rfl, ⟨sb, sk, n, hown2, ⟨hn.1, Nat.le_trans hn.2 hg2.size⟩, hvi.grown hg2 (fun b hb e => by have := HF.out.2.2.2.1 b e; have := HO.out.2.2.2.2.2.2.1; rcases hb.1 with h | h <;> omega), fun g hg => by rcases hmv g hg with h | h; exact .inl h; exact .inr (Nat.le_trans hn.2 h)⟩, .inl ⟨rfl, hg2, fun _ => hk1⟩⟩
        | (k + 10), hk => exact absurd hk (by omega)
      · intro o h10 ho
        omega
      intro vf w8 hc hv hv2
      have h9 : ∃ sb sk n, w8.ownsRow w11.heap.size 43 35 (vf 9) (t1 + 1) ((rowV xs1).flatten ++ valL X.num X.root sb sk) ∧ (wr1.heap.size ≤ n ∧ n ≤ w8.heap.size) ∧ VIn (fun c => (c < B0 ∨ wr1.heap.size ≤ c) ∧ c < n) w8 X sb sk ∧ ∀ g, (vf 9).ownBlock = some g → u1.ownBlock = some g ∨ n ≤ g := hv 9 34 (by decide) rfl
      obtain ⟨sb, sk, n, h8, hn8, hvi8, hg8⟩ := h9
      obtain ⟨g1, cap1, e8⟩ := ownsRow_succ h8
      have hbx : BV P1 w.heap.size CS [u1, nilS, nilS, nilS, nilS] [] w11.heap.size w8 := HF.out.1.grown hc.grown (fun g hg => by have := HF.out.2.2.2.1 g hg; have := HO.out.2.2.2.2.2.2.1; omega)
      have hE8 : EIn (Qrow P1 (vf 9)) w8 (xs1 ++ [(X, sb, sk)]) := by
        refine EIn.snoc ?_ ?_
        · intro x hx w'' ha
          refine HO.out.2.2.1 x hx w'' fun b hb hl => (ha b ⟨hb.1, fun e => ?_⟩ (Nat.lt_of_lt_of_le hl hc.grown.size)).trans (hc.grown.block b hl (fun e => hb.2 e.symm))
          rcases hg8 b e with h | h
          · exact hb.2 h
          · have := hn8.1; omega
        · refine hvi8.mono (fun b hb => ⟨?_, fun e => ?_⟩)
          · rcases hb.1 with h | h
            · exact HPO.out b h
            · exact HPN.out b (by have := HO.out.2.2.2.2.2.2.1; have := HO.out.2.2.2.2.2.2.2; omega)
          · rcases hg8 b e with h | h
            · have := HF.out.2.2.2.1 b h; have := HO.out.2.2.2.2.2.2.1; rcases hb.1 with h2 | h2 <;> omega
            · have := hb.2; omega
      rw [e8] at h8 hE8
      have hrr : (rowV xs1).flatten ++ valL X.num X.root sb sk = (rowV (xs1 ++ [(X, sb, sk)])).flatten := (rowV_snoc xs1 (X, sb, sk)).symm
      rw [hrr] at h8
      have L8 := HF.out.2.2.2.2.2.grown hc.grown HO.out.2.2.2.2.2.1 (fun k hk => by have := HF.out.2.2.2.1 k hk; have := HO.out.2.2.2.2.2.2.1; omega)
      have hz8 := Nat.le_trans HO.out.2.2.2.2.2.2.2 hc.grown.size
      clear hv hv2 hc hg8 hvi8 hrr hn8
      simp only [List.take_succ_cons, List.take_zero, List.drop_succ_cons, List.drop_zero, putAll, Act.put, List.setIfInBounds_toArray, List.set_cons_succ, List.set_cons_zero]
      rw [e8]
      have c34 := (hbx.vars 0 (by decide)).cell (valL_34 0 (zeros 32) nilS u1 zeros32)
      have f34 := frozen_of_row w8 (w.heap.size + 2 + 0) 34 _ _ (hbx.vars 0 (by decide))
      have Y8 := hid (And.intro h8 (And.intro hbx (And.intro hE8 (And.intro L8 hz8))))
      clear e8 h8 hbx hE8 L8 hz8
      go_wp2_with fail
      have hO := Only.setCell w8 (w.heap.size + 2 + 0) 34 (.slice (some ⟨g1, 0, none⟩) (t1 + 1) cap1)
      have hbs := Y8.out.2.1.store 0 (.slice (some ⟨g1, 0, none⟩) (t1 + 1) cap1) (by decide) rfl (Nat.le_refl _) HPV.out
      have hg1 := (own_lt Y8.out.1 g1 rfl).1
      have hz7 := HO.out.2.2.2.2.2.2.1
      refine ⟨⟨t1 + 1, _, xs1 ++ [(X, sb, sk)], by omega, by go_num, hbs, own_only Y8.out.1 hO (fun _ => by simp [Value.ownBlock]; omega) (by simp [Value.ownBlock]; omega), by rw [List.length_append, HO.out.1]; rfl, ?_, Y8.out.2.2.1.put hO (fun b hb e => by have := HPV.out b hb.1; omega), below_only Y8.out.2.2.2.1 hO (by omega), by rw [hO.size]; exact Y8.out.2.2.2.2⟩, by simp [intOf]; omega⟩
      rw [List.map_append, HO.out.2.1, List.take_add_one, List.getElem?_eq_getElem (by rw [HD1.out.len, HN1.out]; exact hlt)]
      have hXe := HXT.out
      rw [List.getD_eq_getElem?_getD, List.getElem?_eq_getElem (by rw [HD1.out.len, HN1.out]; exact hlt)] at hXe
      rw [← hXe]
      rfl
    · obtain rfl : t1 = n1 := by omega
      have hxm2 : xs1.map (·.1) = Xs1 := by rw [hxm, List.take_of_length_le (by rw [HD1.out.len, HN1.out]; exact Nat.le_refl _)]
      have hd : BV P1 w.heap.size CS [u1, nilS, nilS, nilS, nilS] [Xs1] wr1.heap.size wr1 := by
        have h := hV.done hwz rfl (by rw [hxl]; exact hown) hE (fun b hb => HPN.out b (by have := HV1.out.2.2; omega))
        rw [hxm2] at h
        exact h
      have HS1 := hid (own_isSl hown)
      have HV2 := hid (And.intro hd (And.intro hW (show w.heap.size + 7 ≤ wr1.heap.size by have := HV1.out.2.2; omega)))
      clear hxm2 hd hxm hxl hown hE hV hW hwz ht hlt
      go_wp2_with fail
      go_loopw [9] (fun i wr2 => ∃ (t2 : Nat) (u2 : Value) (xs2 : List (Vt × Value × Value)), t2 ≤ n2 ∧ i = .int .i64 t2 ∧ BV P1 w.heap.size CS [u1, u2, nilS, nilS, nilS] [Xs1] wr1.heap.size wr2 ∧ wr2.ownsRow wr1.heap.size 43 35 u2 t2 (rowV xs2).flatten ∧ xs2.length = t2 ∧ xs2.map (·.1) = Xs2.take t2 ∧ EIn (Qrow P1 u2) wr2 xs2 ∧ Below w.heap.size w wr2 ∧ wr1.heap.size ≤ wr2.heap.size) (fun i _ => n2 - (intOf i).toNat)
      case atStart => exact ⟨0, nilS, [], Nat.zero_le _, rfl, HV2.out.1, World.ownsRow_nil _ _ _ _, rfl, rfl, (fun x hx => by cases hx), HV2.out.2.1, Nat.le_refl _⟩
      case round =>
        rename World => wr2
        obtain ⟨t2, u2, xs2, ht, rfl, hV, hown, hxl, hxm, hE, hW, hwz⟩ := hrel
        have c0 := hV.box.cell HC2.out
        by_cases hlt : t2 < n2
        · have hlt2 : t2 < css2.length := by rw [HN2.out]; exact hlt
          obtain ⟨nb, noff, hna, hmm⟩ := HD2.out.mem.resolve_left (by omega)
          subst hna
          have hm := hmm t2 hlt2
          have hcz := HD2.out.size t2 hlt2
          have hdoc := HD2.out.doc t2 hlt2
          obtain ⟨CT, HCT⟩ : ∃ c, Same (css2.getD t2 []) c := ⟨_, ⟨rfl⟩⟩
          obtain ⟨X, HXT⟩ : ∃ X, Same (Xs2.getD t2 vt0) X := ⟨_, ⟨rfl⟩⟩
          rw [HCT.out] at hm hcz hdoc
          rw [HXT.out] at hdoc
          have hnb : nb < w.heap.size := by
            have h0 := List.getElem?_eq_getElem (show 0 < CT.length by omega)
            exact block_lt_of_cell (hm 0 _ h0)
          have hwl := hW.size
          have hol := fun g hg => own_lt hown g hg
          have hB7 := HV2.out.2.2
          have hrow : ∀ g, u2.ownBlock = some g → wr1.heap.size ≤ g ∧ g < wr2.heap.size := fun g hg => hol g hg
          have HF := hid (And.intro hV (And.intro hown (And.intro (rangeAt_keepD hm hW) (And.intro hrow (And.intro hdoc hW)))))
          have HO := hid (And.intro hxl (And.intro hxm (And.intro hE (And.intro hnb (And.intro hcz (And.intro hwl (And.intro hB7 hwz)))))))
          have hn500 : t2 ≤ 500 := by omega
          clear hm hmm hown hE hW hxl hxm hol hdoc hrow hcz hV hnb hwl hB7 hwz
          go_wp2_with fail
          try simp only [Act.put, List.setIfInBounds_toArray, List.set_cons_succ, List.set_cons_zero]
          refine wp_region_flowO (AppO u2 wr1.heap.size t2 (rowV xs2).flatten) (fun i wa wb => (i = 9 ∧ AppO u2 wr1.heap.size t2 (rowV xs2).flatten wa wb) ∨ Below wa.heap.size wa wb) 10 10 (fun i v wq => match i with
            | 0 => v = .pointer (some ⟨w.heap.size + 2 + 1, 34, none⟩)
            | 1 => v = u2
            | 2 => v = .pointer (some ⟨w.heap.size, 98, none⟩)
            | 3 => v = .slice (some ⟨nb, noff, none⟩) n2 c2
            | 4 => v = .int .i64 (t2 : Nat)
            | 5 => v = .pointer (some ⟨nb, noff + t2 * 266, none⟩)
            | 6 => v = .agg CT.toArray
            | 7 => ∃ sb sk n, v = .agg (valL X.num X.root sb sk).toArray ∧ (wr2.heap.size ≤ n ∧ n ≤ wq.heap.size) ∧ VIn (fun c => (c < B0 ∨ wr2.heap.size ≤ c) ∧ c < n) wq X sb sk
            | 8 => ∃ b sb sk n, wr2.heap.size ≤ b ∧ v = .slice (some ⟨b, 0, none⟩) 1 1 ∧ HasC wq b 43 (valL X.num X.root sb sk) ∧ (wr2.heap.size ≤ n ∧ n ≤ wq.heap.size) ∧ VIn (fun c => (c < B0 ∨ wr2.heap.size ≤ c) ∧ c < n) wq X sb sk
            | _ => ∃ sb sk n, wq.ownsRow wr1.heap.size 43 35 v (t2 + 1) ((rowV xs2).flatten ++ valL X.num X.root sb sk) ∧ (wr2.heap.size ≤ n ∧ n ≤ wq.heap.size) ∧ VIn (fun c => (c < B0 ∨ wr2.heap.size ≤ c) ∧ c < n) wq X sb sk ∧ ∀ g, v.ownBlock = some g → u2.ownBlock = some g ∨ n ≤ g) (by kernel_rfl) (by kernel_rfl) AppO.refl (fun _ _ _ h k => h.trans k) AppO.drew (fun i wa wb h => by rcases h with h | h; exact h.2; exact AppO.of_below h) (fun i wa => .inr (Below.refl _ _)) (fun _ d _ _ _ h => by cases d <;> exact h) ?_ ?_ ?_ ?_ ?_
          · intro i o g b hi ho hg v wq hv
            match i, hi with
            | 0, _ => cases ho; cases hg
            | 1, _ => cases ho; cases hg
            | 2, _ => cases ho; cases hg
            | 3, _ => cases ho; cases hg
            | 4, _ => cases ho; cases hg
            | 5, _ => cases ho; cases hg
            | 6, _ => cases ho; cases hg
            | 7, _ => cases ho; cases hg
            | 8, _ => cases ho; cases hg
            | 9, _ => cases ho; cases hg
            | (k + 10), hk => exact absurd hk (by omega)
          · intro i j v wq wq' hi hj hne hv hs
            match j, hj with
            | 0, _ => exact hv
            | 1, _ => exact hv
            | 2, _ => exact hv
            | 3, _ => exact hv
            | 4, _ => exact hv
            | 5, _ => exact hv
            | 6, _ => exact hv
            | 7, _ =>
              obtain ⟨sb, sk, n, e, hn, hvi⟩ := hv
              rcases hs with hs | hs
              · exact ⟨sb, sk, n, e, ⟨hn.1, Nat.le_trans hn.2 hs.2.grown.size⟩, hvi.grown hs.2.grown (fun b hb e => by have := HF.out.2.2.2.1 b e; have := HO.out.2.2.2.2.2.2.1; rcases hb.1 with h | h <;> omega)⟩
              · exact ⟨sb, sk, n, e, ⟨hn.1, Nat.le_trans hn.2 hs.size⟩, hvi.keep hs⟩
            | 8, _ =>
              obtain ⟨b, sb, sk, n, h1, e, h3, hn, hvi⟩ := hv
              rcases hs with hs | hs
              · exact ⟨b, sb, sk, n, h1, e, h3.grownO hs.2.grown (fun e => by have := HF.out.2.2.2.1 _ e; omega), ⟨hn.1, Nat.le_trans hn.2 hs.2.grown.size⟩, hvi.grown hs.2.grown (fun b hb e => by have := HF.out.2.2.2.1 b e; have := HO.out.2.2.2.2.2.2.1; rcases hb.1 with h | h <;> omega)⟩
              · exact ⟨b, sb, sk, n, h1, e, h3.keep hs, ⟨hn.1, Nat.le_trans hn.2 hs.size⟩, hvi.keep hs⟩
            | 9, _ =>
              obtain ⟨sb, sk, n, h3, hn, hvi, hg⟩ := hv
              rcases hs with hs | hs
              · exact absurd hs.1.symm hne
              · exact ⟨sb, sk, n, own_keep h3 hs, ⟨hn.1, Nat.le_trans hn.2 hs.size⟩, hvi.keep hs, hg⟩
            | (k + 10), hk => exact absurd hk (by omega)
          · intro i o hi ho aq wq hc hk hdep
            have hbx : BV P1 w.heap.size CS [u1, u2, nilS, nilS, nilS] [Xs1] wr1.heap.size wq := HF.out.1.grown hc.grown (fun g hg => by have := HF.out.2.2.2.1 g hg; have := HO.out.2.2.2.2.2.2.1; omega)
            match i, hi with
            | 0, _ =>
              cases ho
              refine flowR_of (R := fun wa wb => (0 = 9 ∧ AppO u2 wr1.heap.size t2 (rowV xs2).flatten wa wb) ∨ Below wa.heap.size wa wb) (fun w' h => .inr h) ?_
              have e1 : aq.tmps.getD 4 undef = .pointer (some ⟨w.heap.size + 2 + 1, 0, none⟩) := hk 4 (by decide)
              exact flow_value _ (run_fieldAt 43 (.tmp 4) 3 rfl _ _ e1 (by kernel_rfl)) rfl
            | 1, _ =>
              cases ho
              refine flowR_of (R := fun wa wb => (1 = 9 ∧ AppO u2 wr1.heap.size t2 (rowV xs2).flatten wa wb) ∨ Below wa.heap.size wa wb) (fun w' h => .inr h) ?_
              have e0 : aq.tmps.getD 43 undef = .pointer (some ⟨w.heap.size + 2 + 1, 34, none⟩) := hdep 0 43 rfl (by kernel_rfl)
              exact flow_value _ (run_cell 41 (.tmp 43) rfl _ e0 _ ((hbx.vars 1 (by decide)).cell (valL_34 0 (zeros 32) nilS u2 zeros32)) _ Tryz.underlying41 rfl) rfl
            | 2, _ =>
              cases ho
              refine flowR_of (R := fun wa wb => (2 = 9 ∧ AppO u2 wr1.heap.size t2 (rowV xs2).flatten wa wb) ∨ Below wa.heap.size wa wb) (fun w' h => .inr h) ?_
              have e1 : aq.tmps.getD 1 undef = .pointer (some ⟨w.heap.size, 0, none⟩) := hk 1 (by decide)
              exact flow_value _ (run_fieldAt 33 (.tmp 1) 4 rfl _ _ e1 (by kernel_rfl)) rfl
            | 3, _ =>
              cases ho
              refine flowR_of (R := fun wa wb => (3 = 9 ∧ AppO u2 wr1.heap.size t2 (rowV xs2).flatten wa wb) ∨ Below wa.heap.size wa wb) (fun w' h => .inr h) ?_
              have e0 : aq.tmps.getD 45 undef = .pointer (some ⟨w.heap.size, 98, none⟩) := hdep 2 45 rfl (by kernel_rfl)
              exact flow_value _ (run_cell 28 (.tmp 45) rfl _ e0 _ (hbx.box.cell HC2.out) _ Tryz.underlying28 rfl) rfl
            | 4, _ =>
              cases ho
              refine flowR_of (R := fun wa wb => (4 = 9 ∧ AppO u2 wr1.heap.size t2 (rowV xs2).flatten wa wb) ∨ Below wa.heap.size wa wb) (fun w' h => .inr h) ?_
              exact flow_move (.tmp 9) rfl (hk 9 (by decide))
            | 5, _ =>
              cases ho
              refine flowR_of (R := fun wa wb => (5 = 9 ∧ AppO u2 wr1.heap.size t2 (rowV xs2).flatten wa wb) ∨ Below wa.heap.size wa wb) (fun w' h => .inr h) ?_
              have e0 : aq.tmps.getD 46 undef = .slice (some ⟨nb, noff, none⟩) n2 c2 := hdep 3 46 rfl (by kernel_rfl)
              have e1 : aq.tmps.getD 47 undef = .int .i64 (t2 : Nat) := hdep 4 47 rfl (by kernel_rfl)
              exact flow_value _ (run_atG 28 65 266 (.tmp 46) (.tmp 47) rfl Tryz.underlying28 (by kernel_rfl) nb noff n2 c2 t2 e0 e1 hlt) rfl
            | 6, _ =>
              cases ho
              refine flowR_of (R := fun wa wb => (6 = 9 ∧ AppO u2 wr1.heap.size t2 (rowV xs2).flatten wa wb) ∨ Below wa.heap.size wa wb) (fun w' h => .inr h) ?_
              have e0 : aq.tmps.getD 48 undef = .pointer (some ⟨nb, noff + t2 * 266, none⟩) := hdep 5 48 rfl (by kernel_rfl)
              exact flow_value _ (run_mid 65 (.tmp 48) rfl nb (noff + t2 * 266) e0 CT (rangeAt_grown HF.out.2.2.1 hc.grown (fun e => by have := HF.out.2.2.2.1 _ e; have := HO.out.2.2.2.1; have := HO.out.2.2.2.2.2.2.1; omega)) _ Tryz.underlying65 rfl (by rw [HO.out.2.2.2.2.1]; kernel_rfl)) rfl
            | 7, _ =>
              cases ho
              refine flowR_of (R := fun wa wb => (7 = 9 ∧ AppO u2 wr1.heap.size t2 (rowV xs2).flatten wa wb) ∨ Below wa.heap.size wa wb) (fun w' h => .inr h) ?_
              have e0 : aq.tmps.getD 49 undef = .agg CT.toArray := hdep 6 49 rfl (by kernel_rfl)
              refine flow_fun 49 _ _ rfl (fun _ _ => by simp [go_sem]) #[.agg CT.toArray] (by rw [show (#[Operand.tmp 49] : Array Operand).map aq.eval = #[aq.tmps.getD 49 undef] from by simp [Act.eval], e0]) ?_
              refine (HF.out.2.2.2.2.1.call (fun c => c < B0 ∨ wr2.heap.size ≤ c) wq (HF.out.2.2.2.2.2.grown hc.grown HO.out.2.2.2.2.2.1 (fun k hk => by have := HF.out.2.2.2.1 k hk; have := HO.out.2.2.2.2.2.2.1; omega)) (fun b hb => .inl hb) (fun b hb => .inr (Nat.le_trans hc.grown.size hb))).mono ?_
              rintro x w' ⟨v, rfl, ⟨sb, sk, rfl, hvi⟩, q⟩
              exact ⟨_, rfl, ⟨sb, sk, w'.heap.size, rfl, ⟨Nat.le_trans hc.grown.size q.size, Nat.le_refl _⟩, hvi.cap⟩, q⟩
            | 8, _ =>
              cases ho
              refine flowR_of (R := fun wa wb => (8 = 9 ∧ AppO u2 wr1.heap.size t2 (rowV xs2).flatten wa wb) ∨ Below wa.heap.size wa wb) (fun w' h => .inr h) ?_
              obtain ⟨sb, sk, n, e0, hn, hvi⟩ := hdep 7 50 rfl (by kernel_rfl)
              refine flow_rowsB 41 43 1 35 _ rfl Tryz.underlying41 valInfo [valL X.num X.root sb sk] [.tmp 50] rfl (by rw [show [Operand.tmp 50].map aq.eval = [aq.tmps.getD 50 undef] from rfl, e0]; rfl) (by simp [valL_length, (vIn_parts hvi).1]) rfl (by decide) (by decide) (by decide) (fun w' h hb => ⟨wq.heap.size, sb, sk, n, hc.grown.size, rfl, (by simpa using h), ⟨hn.1, Nat.le_trans hn.2 hb.size⟩, hvi.keep hb⟩)
            | 9, _ =>
              cases ho
              obtain ⟨b, sb, sk, n, h1, e1, h3, hn, hvi⟩ := hdep 8 51 rfl (by kernel_rfl)
              have e0 : aq.tmps.getD 44 undef = u2 := hdep 1 44 rfl (by kernel_rfl)
              obtain ⟨i0, hi, hz0, hz1, hz2⟩ := info_parts valInfo3
              obtain ⟨v2, w2, hrun, hown2, hg2, hmv, hk1, hk2⟩ := run_append_kept (P := Tryz.prog) wq wr1.heap.size 41 41 41 43 i0 _ 35 _ Tryz.underlying41 hi hz0 hz1 hz2 rfl (by decide) u2 t2 _ (hc.old HF.out.2.1) (.slice (some ⟨b, 0, none⟩) 1 1) 1 (valL X.num X.root sb sk) (val_srcX h3 (vIn_parts hvi).1 (vIn_parts hvi).2.1 (vIn_parts hvi).2.2) (by unfold maxLen; omega) (by omega) (Nat.le_trans HO.out.2.2.2.2.2.2.2 hc.grown.size)
              exact wp_runW (run_call_append (.tmp 44) (.tmp 51) 41 41 rfl u2 (.slice (some ⟨b, 0, none⟩) 1 1) v2 e0 e1 hrun) ⟨v2, rfl, ⟨sb, sk, n, hown2, ⟨hn.1, Nat.le_trans hn.2 hg2.size⟩, hvi.grown hg2 (fun b hb e => by have := HF.out.2.2.2.1 b e; have := HO.out.2.2.2.2.2.2.1; rcases hb.1 with h | h <;> omega), fun g hg => by rcases hmv g hg with h | h; exact .inl h; exact .inr (Nat.le_trans hn.2 h)⟩, .inl ⟨rfl, hg2, fun _ => hk1⟩⟩
            | (k + 10), hk => exact absurd hk (by omega)
          · intro o h10 ho
            omega
          intro vf w8 hc hv hv2
          have h9 : ∃ sb sk n, w8.ownsRow wr1.heap.size 43 35 (vf 9) (t2 + 1) ((rowV xs2).flatten ++ valL X.num X.root sb sk) ∧ (wr2.heap.size ≤ n ∧ n ≤ w8.heap.size) ∧ VIn (fun c => (c < B0 ∨ wr2.heap.size ≤ c) ∧ c < n) w8 X sb sk ∧ ∀ g, (vf 9).ownBlock = some g → u2.ownBlock = some g ∨ n ≤ g := hv 9 52 (by decide) rfl
          obtain ⟨sb, sk, n, h8, hn8, hvi8, hg8⟩ := h9
          obtain ⟨g1, cap1, e8⟩ := ownsRow_succ h8
          have hbx : BV P1 w.heap.size CS [u1, u2, nilS, nilS, nilS] [Xs1] wr1.heap.size w8 := HF.out.1.grown hc.grown (fun g hg => by have := HF.out.2.2.2.1 g hg; have := HO.out.2.2.2.2.2.2.1; omega)
          have hE8 : EIn (Qrow P1 (vf 9)) w8 (xs2 ++ [(X, sb, sk)]) := by
            refine EIn.snoc ?_ ?_
            · intro x hx w'' ha
              refine HO.out.2.2.1 x hx w'' fun b hb hl => (ha b ⟨hb.1, fun e => ?_⟩ (Nat.lt_of_lt_of_le hl hc.grown.size)).trans (hc.grown.block b hl (fun e => hb.2 e.symm))
              rcases hg8 b e with h | h
              · exact hb.2 h
              · have := hn8.1; omega
            · refine hvi8.mono (fun b hb => ⟨?_, fun e => ?_⟩)
              · rcases hb.1 with h | h
                · exact HPO.out b h
                · exact HPN.out b (by have := HO.out.2.2.2.2.2.2.1; have := HO.out.2.2.2.2.2.2.2; omega)
              · rcases hg8 b e with h | h
                · have := HF.out.2.2.2.1 b h; have := HO.out.2.2.2.2.2.2.1; rcases hb.1 with h2 | h2 <;> omega
                · have := hb.2; omega
          rw [e8] at h8 hE8
          have hrr : (rowV xs2).flatten ++ valL X.num X.root sb sk = (rowV (xs2 ++ [(X, sb, sk)])).flatten := (rowV_snoc xs2 (X, sb, sk)).symm
          rw [hrr] at h8
          have L8 := HF.out.2.2.2.2.2.grown hc.grown HO.out.2.2.2.2.2.1 (fun k hk => by have := HF.out.2.2.2.1 k hk; have := HO.out.2.2.2.2.2.2.1; omega)
          have hz8 := Nat.le_trans HO.out.2.2.2.2.2.2.2 hc.grown.size
          clear hv hv2 hc hg8 hvi8 hrr hn8
          simp only [List.take_succ_cons, List.take_zero, List.drop_succ_cons, List.drop_zero, putAll, Act.put, List.setIfInBounds_toArray, List.set_cons_succ, List.set_cons_zero]
          rw [e8]
          have c34 := (hbx.vars 1 (by decide)).cell (valL_34 0 (zeros 32) nilS u2 zeros32)
          have f34 := frozen_of_row w8 (w.heap.size + 2 + 1) 34 _ _ (hbx.vars 1 (by decide))
          have Y8 := hid (And.intro h8 (And.intro hbx (And.intro hE8 (And.intro L8 hz8))))
          clear e8 h8 hbx hE8 L8 hz8
          go_wp2_with fail
          have hO := Only.setCell w8 (w.heap.size + 2 + 1) 34 (.slice (some ⟨g1, 0, none⟩) (t2 + 1) cap1)
          have hbs := Y8.out.2.1.store 1 (.slice (some ⟨g1, 0, none⟩) (t2 + 1) cap1) (by decide) rfl (Nat.le_refl _) HPV.out
          have hg1 := (own_lt Y8.out.1 g1 rfl).1
          have hz7 := HO.out.2.2.2.2.2.2.1
          refine ⟨⟨t2 + 1, _, xs2 ++ [(X, sb, sk)], by omega, by go_num, hbs, own_only Y8.out.1 hO (fun _ => by simp [Value.ownBlock]; omega) (by simp [Value.ownBlock]; omega), by rw [List.length_append, HO.out.1]; rfl, ?_, Y8.out.2.2.1.put hO (fun b hb e => by have := HPV.out b hb.1; omega), below_only Y8.out.2.2.2.1 hO (by omega), by rw [hO.size]; exact Y8.out.2.2.2.2⟩, by simp [intOf]; omega⟩
          rw [List.map_append, HO.out.2.1, List.take_add_one, List.getElem?_eq_getElem (by rw [HD2.out.len, HN2.out]; exact hlt)]
          have hXe := HXT.out
          rw [List.getD_eq_getElem?_getD, List.getElem?_eq_getElem (by rw [HD2.out.len, HN2.out]; exact hlt)] at hXe
          rw [← hXe]
          rfl
        · obtain rfl : t2 = n2 := by omega
          have hxm2 : xs2.map (·.1) = Xs2 := by rw [hxm, List.take_of_length_le (by rw [HD2.out.len, HN2.out]; exact Nat.le_refl _)]
          have hd : BV P1 w.heap.size CS [u1, u2, nilS, nilS, nilS] [Xs1, Xs2] wr2.heap.size wr2 := by
            have h := hV.done hwz rfl (by rw [hxl]; exact hown) hE (fun b hb => HPN.out b (by have := HV2.out.2.2; omega))
            rw [hxm2] at h
            exact h
          have HS2 := hid (own_isSl hown)
          have HV3 := hid (And.intro hd (And.intro hW (show w.heap.size + 7 ≤ wr2.heap.size by have := HV2.out.2.2; omega)))
          clear hxm2 hd hxm hxl hown hE hV hW hwz ht hlt
          go_wp2_with fail
          go_loopw [10] (fun i wr3 => ∃ (t3 : Nat) (u3 : Value) (xs3 : List (Vt × Value × Value)), t3 ≤ n3 ∧ i = .int .i64 t3 ∧ BV P1 w.heap.size CS [u1, u2, u3, nilS, nilS] [Xs1, Xs2] wr2.heap.size wr3 ∧ wr3.ownsRow wr2.heap.size 43 35 u3 t3 (rowV xs3).flatten ∧ xs3.length = t3 ∧ xs3.map (·.1) = Xs3.take t3 ∧ EIn (Qrow P1 u3) wr3 xs3 ∧ Below w.heap.size w wr3 ∧ wr2.heap.size ≤ wr3.heap.size) (fun i _ => n3 - (intOf i).toNat)
          case atStart => exact ⟨0, nilS, [], Nat.zero_le _, rfl, HV3.out.1, World.ownsRow_nil _ _ _ _, rfl, rfl, (fun x hx => by cases hx), HV3.out.2.1, Nat.le_refl _⟩
          case round =>
            rename World => wr3
            obtain ⟨t3, u3, xs3, ht, rfl, hV, hown, hxl, hxm, hE, hW, hwz⟩ := hrel
            have c0 := hV.box.cell HC3.out
            by_cases hlt : t3 < n3
            · have hlt2 : t3 < css3.length := by rw [HN3.out]; exact hlt
              obtain ⟨nb, noff, hna, hmm⟩ := HD3.out.mem.resolve_left (by omega)
              subst hna
              have hm := hmm t3 hlt2
              have hcz := HD3.out.size t3 hlt2
              have hdoc := HD3.out.doc t3 hlt2
              obtain ⟨CT, HCT⟩ : ∃ c, Same (css3.getD t3 []) c := ⟨_, ⟨rfl⟩⟩
              obtain ⟨X, HXT⟩ : ∃ X, Same (Xs3.getD t3 vt0) X := ⟨_, ⟨rfl⟩⟩
              rw [HCT.out] at hm hcz hdoc
              rw [HXT.out] at hdoc
              have hnb : nb < w.heap.size := by
                have h0 := List.getElem?_eq_getElem (show 0 < CT.length by omega)
                exact block_lt_of_cell (hm 0 _ h0)
              have hwl := hW.size
              have hol := fun g hg => own_lt hown g hg
              have hB7 := HV3.out.2.2
              have hrow : ∀ g, u3.ownBlock = some g → wr2.heap.size ≤ g ∧ g < wr3.heap.size := fun g hg => hol g hg
              have HF := hid (And.intro hV (And.intro hown (And.intro (rangeAt_keepD hm hW) (And.intro hrow (And.intro hdoc hW)))))
              have HO := hid (And.intro hxl (And.intro hxm (And.intro hE (And.intro hnb (And.intro hcz (And.intro hwl (And.intro hB7 hwz)))))))
              have hn500 : t3 ≤ 500 := by omega
              clear hm hmm hown hE hW hxl hxm hol hdoc hrow hcz hV hnb hwl hB7 hwz
              go_wp2_with fail
              try simp only [Act.put, List.setIfInBounds_toArray, List.set_cons_succ, List.set_cons_zero]
              refine wp_region_flowO (AppO u3 wr2.heap.size t3 (rowV xs3).flatten) (fun i wa wb => (i = 9 ∧ AppO u3 wr2.heap.size t3 (rowV xs3).flatten wa wb) ∨ Below wa.heap.size wa wb) 10 10 (fun i v wq => match i with
                | 0 => v = .pointer (some ⟨w.heap.size + 2 + 2, 34, none⟩)
                | 1 => v = u3
                | 2 => v = .pointer (some ⟨w.heap.size, 99, none⟩)
                | 3 => v = .slice (some ⟨nb, noff, none⟩) n3 c3
                | 4 => v = .int .i64 (t3 : Nat)
                | 5 => v = .pointer (some ⟨nb, noff + t3 * 133, none⟩)
                | 6 => v = .agg CT.toArray
                | 7 => ∃ sb sk n, v = .agg (valL X.num X.root sb sk).toArray ∧ (wr3.heap.size ≤ n ∧ n ≤ wq.heap.size) ∧ VIn (fun c => (c < B0 ∨ wr3.heap.size ≤ c) ∧ c < n) wq X sb sk
                | 8 => ∃ b sb sk n, wr3.heap.size ≤ b ∧ v = .slice (some ⟨b, 0, none⟩) 1 1 ∧ HasC wq b 43 (valL X.num X.root sb sk) ∧ (wr3.heap.size ≤ n ∧ n ≤ wq.heap.size) ∧ VIn (fun c => (c < B0 ∨ wr3.heap.size ≤ c) ∧ c < n) wq X sb sk
                | _ => ∃ sb sk n, wq.ownsRow wr2.heap.size 43 35 v (t3 + 1) ((rowV xs3).flatten ++ valL X.num X.root sb sk) ∧ (wr3.heap.size ≤ n ∧ n ≤ wq.heap.size) ∧ VIn (fun c => (c < B0 ∨ wr3.heap.size ≤ c) ∧ c < n) wq X sb sk ∧ ∀ g, v.ownBlock = some g → u3.ownBlock = some g ∨ n ≤ g) (by kernel_rfl) (by kernel_rfl) AppO.refl (fun _ _ _ h k => h.trans k) AppO.drew (fun i wa wb h => by rcases h with h | h; exact h.2; exact AppO.of_below h) (fun i wa => .inr (Below.refl _ _)) (fun _ d _ _ _ h => by cases d <;> exact h) ?_ ?_ ?_ ?_ ?_
              · intro i o g b hi ho hg v wq hv
                match i, hi with
                | 0, _ => cases ho; cases hg
                | 1, _ => cases ho; cases hg
                | 2, _ => cases ho; cases hg
                | 3, _ => cases ho; cases hg
                | 4, _ => cases ho; cases hg
                | 5, _ => cases ho; cases hg
                | 6, _ => cases ho; cases hg
                | 7, _ => cases ho; cases hg
                | 8, _ => cases ho; cases hg
                | 9, _ => cases ho; cases hg
                | (k + 10), hk => exact absurd hk (by omega)
              · intro i j v wq wq' hi hj hne hv hs
                match j, hj with
                | 0, _ => exact hv
                | 1, _ => exact hv
                | 2, _ => exact hv
                | 3, _ => exact hv
                | 4, _ => exact hv
                | 5, _ => exact hv
                | 6, _ => exact hv
                | 7, _ =>
                  obtain ⟨sb, sk, n, e, hn, hvi⟩ := hv
                  rcases hs with hs | hs
                  · exact ⟨sb, sk, n, e, ⟨hn.1, Nat.le_trans hn.2 hs.2.grown.size⟩, hvi.grown hs.2.grown (fun b hb e => by have := HF.out.2.2.2.1 b e; have := HO.out.2.2.2.2.2.2.1; rcases hb.1 with h | h <;> omega)⟩
                  · exact ⟨sb, sk, n, e, ⟨hn.1, Nat.le_trans hn.2 hs.size⟩, hvi.keep hs⟩
                | 8, _ =>
                  obtain ⟨b, sb, sk, n, h1, e, h3, hn, hvi⟩ := hv
                  rcases hs with hs | hs
                  · exact ⟨b, sb, sk, n, h1, e, h3.grownO hs.2.grown (fun e => by have := HF.out.2.2.2.1 _ e; omega), ⟨hn.1, Nat.le_trans hn.2 hs.2.grown.size⟩, hvi.grown hs.2.grown (fun b hb e => by have := HF.out.2.2.2.1 b e; have := HO.out.2.2.2.2.2.2.1; rcases hb.1 with h | h <;> omega)⟩
                  · exact ⟨b, sb, sk, n, h1, e, h3.keep hs, ⟨hn.1, Nat.le_trans hn.2 hs.size⟩, hvi.keep hs⟩
                | 9, _ =>
                  obtain ⟨sb, sk, n, h3, hn, hvi, hg⟩ := hv
                  rcases hs with hs | hs
                  · exact absurd hs.1.symm hne
                  · exact ⟨sb, sk, n, own_keep h3 hs, ⟨hn.1, Nat.le_trans hn.2 hs.size⟩, hvi.keep hs, hg⟩
                | (k + 10), hk => exact absurd hk (by omega)
              · intro i o hi ho aq wq hc hk hdep
                have hbx : BV P1 w.heap.size CS [u1, u2, u3, nilS, nilS] [Xs1, Xs2] wr2.heap.size wq := HF.out.1.grown hc.grown (fun g hg => by have := HF.out.2.2.2.1 g hg; have := HO.out.2.2.2.2.2.2.1; omega)
                match i, hi with
                | 0, _ =>
                  cases ho
                  refine flowR_of (R := fun wa wb => (0 = 9 ∧ AppO u3 wr2.heap.size t3 (rowV xs3).flatten wa wb) ∨ Below wa.heap.size wa wb) (fun w' h => .inr h) ?_
                  have e1 : aq.tmps.getD 5 undef = .pointer (some ⟨w.heap.size + 2 + 2, 0, none⟩) := hk 5 (by decide)
                  exact flow_value _ (run_fieldAt 43 (.tmp 5) 3 rfl _ _ e1 (by kernel_rfl)) rfl
                | 1, _ =>
                  cases ho
                  refine flowR_of (R := fun wa wb => (1 = 9 ∧ AppO u3 wr2.heap.size t3 (rowV xs3).flatten wa wb) ∨ Below wa.heap.size wa wb) (fun w' h => .inr h) ?_
                  have e0 : aq.tmps.getD 61 undef = .pointer (some ⟨w.heap.size + 2 + 2, 34, none⟩) := hdep 0 61 rfl (by kernel_rfl)
                  exact flow_value _ (run_cell 41 (.tmp 61) rfl _ e0 _ ((hbx.vars 2 (by decide)).cell (valL_34 0 (zeros 32) nilS u3 zeros32)) _ Tryz.underlying41 rfl) rfl
                | 2, _ =>
                  cases ho
                  refine flowR_of (R := fun wa wb => (2 = 9 ∧ AppO u3 wr2.heap.size t3 (rowV xs3).flatten wa wb) ∨ Below wa.heap.size wa wb) (fun w' h => .inr h) ?_
                  have e1 : aq.tmps.getD 1 undef = .pointer (some ⟨w.heap.size, 0, none⟩) := hk 1 (by decide)
                  exact flow_value _ (run_fieldAt 33 (.tmp 1) 5 rfl _ _ e1 (by kernel_rfl)) rfl
                | 3, _ =>
                  cases ho
                  refine flowR_of (R := fun wa wb => (3 = 9 ∧ AppO u3 wr2.heap.size t3 (rowV xs3).flatten wa wb) ∨ Below wa.heap.size wa wb) (fun w' h => .inr h) ?_
                  have e0 : aq.tmps.getD 63 undef = .pointer (some ⟨w.heap.size, 99, none⟩) := hdep 2 63 rfl (by kernel_rfl)
                  exact flow_value _ (run_cell 29 (.tmp 63) rfl _ e0 _ (hbx.box.cell HC3.out) _ Tryz.underlying29 rfl) rfl
                | 4, _ =>
                  cases ho
                  refine flowR_of (R := fun wa wb => (4 = 9 ∧ AppO u3 wr2.heap.size t3 (rowV xs3).flatten wa wb) ∨ Below wa.heap.size wa wb) (fun w' h => .inr h) ?_
                  exact flow_move (.tmp 10) rfl (hk 10 (by decide))
                | 5, _ =>
                  cases ho
                  refine flowR_of (R := fun wa wb => (5 = 9 ∧ AppO u3 wr2.heap.size t3 (rowV xs3).flatten wa wb) ∨ Below wa.heap.size wa wb) (fun w' h => .inr h) ?_
                  have e0 : aq.tmps.getD 64 undef = .slice (some ⟨nb, noff, none⟩) n3 c3 := hdep 3 64 rfl (by kernel_rfl)
                  have e1 : aq.tmps.getD 65 undef = .int .i64 (t3 : Nat) := hdep 4 65 rfl (by kernel_rfl)
                  exact flow_value _ (run_atG 29 67 133 (.tmp 64) (.tmp 65) rfl Tryz.underlying29 (by kernel_rfl) nb noff n3 c3 t3 e0 e1 hlt) rfl
                | 6, _ =>
                  cases ho
                  refine flowR_of (R := fun wa wb => (6 = 9 ∧ AppO u3 wr2.heap.size t3 (rowV xs3).flatten wa wb) ∨ Below wa.heap.size wa wb) (fun w' h => .inr h) ?_
                  have e0 : aq.tmps.getD 66 undef = .pointer (some ⟨nb, noff + t3 * 133, none⟩) := hdep 5 66 rfl (by kernel_rfl)
                  exact flow_value _ (run_mid 67 (.tmp 66) rfl nb (noff + t3 * 133) e0 CT (rangeAt_grown HF.out.2.2.1 hc.grown (fun e => by have := HF.out.2.2.2.1 _ e; have := HO.out.2.2.2.1; have := HO.out.2.2.2.2.2.2.1; omega)) _ Tryz.underlying67 rfl (by rw [HO.out.2.2.2.2.1]; kernel_rfl)) rfl
                | 7, _ =>
                  cases ho
                  refine flowR_of (R := fun wa wb => (7 = 9 ∧ AppO u3 wr2.heap.size t3 (rowV xs3).flatten wa wb) ∨ Below wa.heap.size wa wb) (fun w' h => .inr h) ?_
                  have e0 : aq.tmps.getD 67 undef = .agg CT.toArray := hdep 6 67 rfl (by kernel_rfl)
                  refine flow_fun 50 _ _ rfl (fun _ _ => by simp [go_sem]) #[.agg CT.toArray] (by rw [show (#[Operand.tmp 67] : Array Operand).map aq.eval = #[aq.tmps.getD 67 undef] from by simp [Act.eval], e0]) ?_
                  refine (HF.out.2.2.2.2.1.call (fun c => c < B0 ∨ wr3.heap.size ≤ c) wq (HF.out.2.2.2.2.2.grown hc.grown HO.out.2.2.2.2.2.1 (fun k hk => by have := HF.out.2.2.2.1 k hk; have := HO.out.2.2.2.2.2.2.1; omega)) (fun b hb => .inl hb) (fun b hb => .inr (Nat.le_trans hc.grown.size hb))).mono ?_
                  rintro x w' ⟨v, rfl, ⟨sb, sk, rfl, hvi⟩, q⟩
                  exact ⟨_, rfl, ⟨sb, sk, w'.heap.size, rfl, ⟨Nat.le_trans hc.grown.size q.size, Nat.le_refl _⟩, hvi.cap⟩, q⟩
                | 8, _ =>
                  cases ho
                  refine flowR_of (R := fun wa wb => (8 = 9 ∧ AppO u3 wr2.heap.size t3 (rowV xs3).flatten wa wb) ∨ Below wa.heap.size wa wb) (fun w' h => .inr h) ?_
                  obtain ⟨sb, sk, n, e0, hn, hvi⟩ := hdep 7 68 rfl (by kernel_rfl)
                  refine flow_rowsB 41 43 1 35 _ rfl Tryz.underlying41 valInfo [valL X.num X.root sb sk] [.tmp 68] rfl (by rw [show [Operand.tmp 68].map aq.eval = [aq.tmps.getD 68 undef] from rfl, e0]; rfl) (by simp [valL_length, (vIn_parts hvi).1]) rfl (by decide) (by decide) (by decide) (fun w' h hb => ⟨wq.heap.size, sb, sk, n, hc.grown.size, rfl, (by simpa using h), ⟨hn.1, Nat.le_trans hn.2 hb.size⟩, hvi.keep hb⟩)
                | 9, _ =>
                  cases ho
                  obtain ⟨b, sb, sk, n, h1, e1, h3, hn, hvi⟩ := hdep 8 69 rfl (by kernel_rfl)
                  have e0 : aq.tmps.getD 62 undef = u3 := hdep 1 62 rfl (by kernel_rfl)
                  obtain ⟨i0, hi, hz0, hz1, hz2⟩ := info_parts valInfo3
                  obtain ⟨v2, w2, hrun, hown2, hg2, hmv, hk1, hk2⟩ := run_append_kept (P := Tryz.prog) wq wr2.heap.size 41 41 41 43 i0 _ 35 _ Tryz.underlying41 hi hz0 hz1 hz2 rfl (by decide) u3 t3 _ (hc.old HF.out.2.1) (.slice (some ⟨b, 0, none⟩) 1 1) 1 (valL X.num X.root sb sk) (val_srcX h3 (vIn_parts hvi).1 (vIn_parts hvi).2.1 (vIn_parts hvi).2.2) (by unfold maxLen; omega) (by omega) (Nat.le_trans HO.out.2.2.2.2.2.2.2 hc.grown.size)
                  exact wp_runW (run_call_append (.tmp 62) (.tmp 69) 41 41 rfl u3 (.slice (some ⟨b, 0, none⟩) 1 1) v2 e0 e1 hrun) ⟨v2, rfl, ⟨sb, sk, n, hown2, ⟨hn.1, Nat.le_trans hn.2 hg2.size⟩, hvi.grown hg2 (fun b hb e => by have := HF.out.2.2.2.1 b e; have := HO.out.2.2.2.2.2.2.1; rcases hb.1 with h | h <;> omega), fun g hg => by rcases hmv g hg with h | h; exact .inl h; exact .inr (Nat.le_trans hn.2 h)⟩, .inl ⟨rfl, hg2, fun _ => hk1⟩⟩
                | (k + 10), hk => exact absurd hk (by omega)
              · intro o h10 ho
                omega
              intro vf w8 hc hv hv2
              have h9 : ∃ sb sk n, w8.ownsRow wr2.heap.size 43 35 (vf 9) (t3 + 1) ((rowV xs3).flatten ++ valL X.num X.root sb sk) ∧ (wr3.heap.size ≤ n ∧ n ≤ w8.heap.size) ∧ VIn (fun c => (c < B0 ∨ wr3.heap.size ≤ c) ∧ c < n) w8 X sb sk ∧ ∀ g, (vf 9).ownBlock = some g → u3.ownBlock = some g ∨ n ≤ g := hv 9 70 (by decide) rfl
              obtain ⟨sb, sk, n, h8, hn8, hvi8, hg8⟩ := h9
              obtain ⟨g1, cap1, e8⟩ := ownsRow_succ h8
              have hbx : BV P1 w.heap.size CS [u1, u2, u3, nilS, nilS] [Xs1, Xs2] wr2.heap.size w8 := HF.out.1.grown hc.grown (fun g hg => by have := HF.out.2.2.2.1 g hg; have := HO.out.2.2.2.2.2.2.1; omega)
              have hE8 : EIn (Qrow P1 (vf 9)) w8 (xs3 ++ [(X, sb, sk)]) := by
                refine EIn.snoc ?_ ?_
                · intro x hx w'' ha
                  refine HO.out.2.2.1 x hx w'' fun b hb hl => (ha b ⟨hb.1, fun e => ?_⟩ (Nat.lt_of_lt_of_le hl hc.grown.size)).trans (hc.grown.block b hl (fun e => hb.2 e.symm))
                  rcases hg8 b e with h | h
                  · exact hb.2 h
                  · have := hn8.1; omega
                · refine hvi8.mono (fun b hb => ⟨?_, fun e => ?_⟩)
                  · rcases hb.1 with h | h
                    · exact HPO.out b h
                    · exact HPN.out b (by have := HO.out.2.2.2.2.2.2.1; have := HO.out.2.2.2.2.2.2.2; omega)
                  · rcases hg8 b e with h | h
                    · have := HF.out.2.2.2.1 b h; have := HO.out.2.2.2.2.2.2.1; rcases hb.1 with h2 | h2 <;> omega
                    · have := hb.2; omega
              rw [e8] at h8 hE8
              have hrr : (rowV xs3).flatten ++ valL X.num X.root sb sk = (rowV (xs3 ++ [(X, sb, sk)])).flatten := (rowV_snoc xs3 (X, sb, sk)).symm
              rw [hrr] at h8
              have L8 := HF.out.2.2.2.2.2.grown hc.grown HO.out.2.2.2.2.2.1 (fun k hk => by have := HF.out.2.2.2.1 k hk; have := HO.out.2.2.2.2.2.2.1; omega)
              have hz8 := Nat.le_trans HO.out.2.2.2.2.2.2.2 hc.grown.size
              clear hv hv2 hc hg8 hvi8 hrr hn8
              simp only [List.take_succ_cons, List.take_zero, List.drop_succ_cons, List.drop_zero, putAll, Act.put, List.setIfInBounds_toArray, List.set_cons_succ, List.set_cons_zero]
              rw [e8]
              have c34 := (hbx.vars 2 (by decide)).cell (valL_34 0 (zeros 32) nilS u3 zeros32)
              have f34 := frozen_of_row w8 (w.heap.size + 2 + 2) 34 _ _ (hbx.vars 2 (by decide))
              have Y8 := hid (And.intro h8 (And.intro hbx (And.intro hE8 (And.intro L8 hz8))))
              clear e8 h8 hbx hE8 L8 hz8
              go_wp2_with fail
              have hO := Only.setCell w8 (w.heap.size + 2 + 2) 34 (.slice (some ⟨g1, 0, none⟩) (t3 + 1) cap1)
              have hbs := Y8.out.2.1.store 2 (.slice (some ⟨g1, 0, none⟩) (t3 + 1) cap1) (by decide) rfl (Nat.le_refl _) HPV.out
              have hg1 := (own_lt Y8.out.1 g1 rfl).1
              have hz7 := HO.out.2.2.2.2.2.2.1
              refine ⟨⟨t3 + 1, _, xs3 ++ [(X, sb, sk)], by omega, by go_num, hbs, own_only Y8.out.1 hO (fun _ => by simp [Value.ownBlock]; omega) (by simp [Value.ownBlock]; omega), by rw [List.length_append, HO.out.1]; rfl, ?_, Y8.out.2.2.1.put hO (fun b hb e => by have := HPV.out b hb.1; omega), below_only Y8.out.2.2.2.1 hO (by omega), by rw [hO.size]; exact Y8.out.2.2.2.2⟩, by simp [intOf]; omega⟩
              rw [List.map_append, HO.out.2.1, List.take_add_one, List.getElem?_eq_getElem (by rw [HD3.out.len, HN3.out]; exact hlt)]
              have hXe := HXT.out
              rw [List.getD_eq_getElem?_getD, List.getElem?_eq_getElem (by rw [HD3.out.len, HN3.out]; exact hlt)] at hXe
              rw [← hXe]
              rfl
            · obtain rfl : t3 = n3 := by omega
              have hxm2 : xs3.map (·.1) = Xs3 := by rw [hxm, List.take_of_length_le (by rw [HD3.out.len, HN3.out]; exact Nat.le_refl _)]
              have hd : BV P1 w.heap.size CS [u1, u2, u3, nilS, nilS] [Xs1, Xs2, Xs3] wr3.heap.size wr3 := by
                have h := hV.done hwz rfl (by rw [hxl]; exact hown) hE (fun b hb => HPN.out b (by have := HV3.out.2.2; omega))
                rw [hxm2] at h
                exact h
              have HS3 := hid (own_isSl hown)
              have HV4 := hid (And.intro hd (And.intro hW (show w.heap.size + 7 ≤ wr3.heap.size by have := HV3.out.2.2; omega)))
              clear hxm2 hd hxm hxl hown hE hV hW hwz ht hlt
              go_wp2_with fail
              go_loopw [11] (fun i wr4 => ∃ (t4 : Nat) (u4 : Value) (xs4 : List (Vt × Value × Value)), t4 ≤ n4 ∧ i = .int .i64 t4 ∧ BV P1 w.heap.size CS [u1, u2, u3, u4, nilS] [Xs1, Xs2, Xs3] wr3.heap.size wr4 ∧ wr4.ownsRow wr3.heap.size 43 35 u4 t4 (rowV xs4).flatten ∧ xs4.length = t4 ∧ xs4.map (·.1) = Xs4.take t4 ∧ EIn (Qrow P1 u4) wr4 xs4 ∧ Below w.heap.size w wr4 ∧ wr3.heap.size ≤ wr4.heap.size) (fun i _ => n4 - (intOf i).toNat)
              case atStart => exact ⟨0, nilS, [], Nat.zero_le _, rfl, HV4.out.1, World.ownsRow_nil _ _ _ _, rfl, rfl, (fun x hx => by cases hx), HV4.out.2.1, Nat.le_refl _⟩
              case round =>
                rename World => wr4
                obtain ⟨t4, u4, xs4, ht, rfl, hV, hown, hxl, hxm, hE, hW, hwz⟩ := hrel
                have c0 := hV.box.cell HC4.out
                by_cases hlt : t4 < n4
                · have hlt2 : t4 < css4.length := by rw [HN4.out]; exact hlt
                  obtain ⟨nb, noff, hna, hmm⟩ := HD4.out.mem.resolve_left (by omega)
                  subst hna
                  have hm := hmm t4 hlt2
                  have hcz := HD4.out.size t4 hlt2
                  have hdoc := HD4.out.doc t4 hlt2
                  obtain ⟨CT, HCT⟩ : ∃ c, Same (css4.getD t4 []) c := ⟨_, ⟨rfl⟩⟩
                  obtain ⟨X, HXT⟩ : ∃ X, Same (Xs4.getD t4 vt0) X := ⟨_, ⟨rfl⟩⟩
                  rw [HCT.out] at hm hcz hdoc
                  rw [HXT.out] at hdoc
                  have hnb : nb < w.heap.size := by
                    have h0 := List.getElem?_eq_getElem (show 0 < CT.length by omega)
                    exact block_lt_of_cell (hm 0 _ h0)
                  have hwl := hW.size
                  have hol := fun g hg => own_lt hown g hg
                  have hB7 := HV4.out.2.2
                  have hrow : ∀ g, u4.ownBlock = some g → wr3.heap.size ≤ g ∧ g < wr4.heap.size := fun g hg => hol g hg
                  have HF := hid (And.intro hV (And.intro hown (And.intro (rangeAt_keepD hm hW) (And.intro hrow (And.intro hdoc hW)))))
                  have HO := hid (And.intro hxl (And.intro hxm (And.intro hE (And.intro hnb (And.intro hcz (And.intro hwl (And.intro hB7 hwz)))))))
                  have hn500 : t4 ≤ 500 := by omega
                  clear hm hmm hown hE hW hxl hxm hol hdoc hrow hcz hV hnb hwl hB7 hwz
                  go_wp2_with fail
                  try simp only [Act.put, List.setIfInBounds_toArray, List.set_cons_succ, List.set_cons_zero]
                  refine wp_region_flowO (AppO u4 wr3.heap.size t4 (rowV xs4).flatten) (fun i wa wb => (i = 9 ∧ AppO u4 wr3.heap.size t4 (rowV xs4).flatten wa wb) ∨ Below wa.heap.size wa wb) 10 10 (fun i v wq => match i with
                    | 0 => v = .pointer (some ⟨w.heap.size + 2 + 3, 34, none⟩)
                    | 1 => v = u4
                    | 2 => v = .pointer (some ⟨w.heap.size, 100, none⟩)
                    | 3 => v = .slice (some ⟨nb, noff, none⟩) n4 c4
                    | 4 => v = .int .i64 (t4 : Nat)
                    | 5 => v = .pointer (some ⟨nb, noff + t4 * 289, none⟩)
                    | 6 => v = .agg CT.toArray
                    | 7 => ∃ sb sk n, v = .agg (valL X.num X.root sb sk).toArray ∧ (wr4.heap.size ≤ n ∧ n ≤ wq.heap.size) ∧ VIn (fun c => (c < B0 ∨ wr4.heap.size ≤ c) ∧ c < n) wq X sb sk
                    | 8 => ∃ b sb sk n, wr4.heap.size ≤ b ∧ v = .slice (some ⟨b, 0, none⟩) 1 1 ∧ HasC wq b 43 (valL X.num X.root sb sk) ∧ (wr4.heap.size ≤ n ∧ n ≤ wq.heap.size) ∧ VIn (fun c => (c < B0 ∨ wr4.heap.size ≤ c) ∧ c < n) wq X sb sk
                    | _ => ∃ sb sk n, wq.ownsRow wr3.heap.size 43 35 v (t4 + 1) ((rowV xs4).flatten ++ valL X.num X.root sb sk) ∧ (wr4.heap.size ≤ n ∧ n ≤ wq.heap.size) ∧ VIn (fun c => (c < B0 ∨ wr4.heap.size ≤ c) ∧ c < n) wq X sb sk ∧ ∀ g, v.ownBlock = some g → u4.ownBlock = some g ∨ n ≤ g) (by kernel_rfl) (by kernel_rfl) AppO.refl (fun _ _ _ h k => h.trans k) AppO.drew (fun i wa wb h => by rcases h with h | h; exact h.2; exact AppO.of_below h) (fun i wa => .inr (Below.refl _ _)) (fun _ d _ _ _ h => by cases d <;> exact h) ?_ ?_ ?_ ?_ ?_
                  · intro i o g b hi ho hg v wq hv
                    match i, hi with
                    | 0, _ => cases ho; cases hg
                    | 1, _ => cases ho; cases hg
                    | 2, _ => cases ho; cases hg
                    | 3, _ => cases ho; cases hg
                    | 4, _ => cases ho; cases hg
                    | 5, _ => cases ho; cases hg
                    | 6, _ => cases ho; cases hg
                    | 7, _ => cases ho; cases hg
                    | 8, _ => cases ho; cases hg
                    | 9, _ => cases ho; cases hg
                    | (k + 10), hk => exact absurd hk (by omega)
                  · intro i j v wq wq' hi hj hne hv hs
                    match j, hj with
                    | 0, _ => exact hv
                    | 1, _ => exact hv
                    | 2, _ => exact hv
                    | 3, _ => exact hv
                    | 4, _ => exact hv
                    | 5, _ => exact hv
                    | 6, _ => exact hv
                    | 7, _ =>
                      obtain ⟨sb, sk, n, e, hn, hvi⟩ := hv
                      rcases hs with hs | hs
                      · exact ⟨sb, sk, n, e, ⟨hn.1, Nat.le_trans hn.2 hs.2.grown.size⟩, hvi.grown hs.2.grown (fun b hb e => by have := HF.out.2.2.2.1 b e; have := HO.out.2.2.2.2.2.2.1; rcases hb.1 with h | h <;> omega)⟩
                      · exact ⟨sb, sk, n, e, ⟨hn.1, Nat.le_trans hn.2 hs.size⟩, hvi.keep hs⟩
                    | 8, _ =>
                      obtain ⟨b, sb, sk, n, h1, e, h3, hn, hvi⟩ := hv
                      rcases hs with hs | hs
                      · exact ⟨b, sb, sk, n, h1, e, h3.grownO hs.2.grown (fun e => by have := HF.out.2.2.2.1 _ e; omega), ⟨hn.1, Nat.le_trans hn.2 hs.2.grown.size⟩, hvi.grown hs.2.grown (fun b hb e => by have := HF.out.2.2.2.1 b e; have := HO.out.2.2.2.2.2.2.1; rcases hb.1 with h | h <;> omega)⟩
                      · exact ⟨b, sb, sk, n, h1, e, h3.keep hs, ⟨hn.1, Nat.le_trans hn.2 hs.size⟩, hvi.keep hs⟩
                    | 9, _ =>
                      obtain ⟨sb, sk, n, h3, hn, hvi, hg⟩ := hv
                      rcases hs with hs | hs
                      · exact absurd hs.1.symm hne
                      · exact ⟨sb, sk, n, own_keep h3 hs, ⟨hn.1, Nat.le_trans hn.2 hs.size⟩, hvi.keep hs, hg⟩
                    | (k + 10), hk => exact absurd hk (by omega)
                  · intro i o hi ho aq wq hc hk hdep
                    have hbx : BV P1 w.heap.size CS [u1, u2, u3, u4, nilS] [Xs1, Xs2, Xs3] wr3.heap.size wq := HF.out.1.grown hc.grown (fun g hg => by have := HF.out.2.2.2.1 g hg; have := HO.out.2.2.2.2.2.2.1; omega)
                    match i, hi with
                    | 0, _ =>
                      cases ho
                      refine flowR_of (R := fun wa wb => (0 = 9 ∧ AppO u4 wr3.heap.size t4 (rowV xs4).flatten wa wb) ∨ Below wa.heap.size wa wb) (fun w' h => .inr h) ?_
                      have e1 : aq.tmps.getD 6 undef = .pointer (some ⟨w.heap.size + 2 + 3, 0, none⟩) := hk 6 (by decide)
                      exact flow_value _ (run_fieldAt 43 (.tmp 6) 3 rfl _ _ e1 (by kernel_rfl)) rfl
                    | 1, _ =>
                      cases ho
                      refine flowR_of (R := fun wa wb => (1 = 9 ∧ AppO u4 wr3.heap.size t4 (rowV xs4).flatten wa wb) ∨ Below wa.heap.size wa wb) (fun w' h => .inr h) ?_
                      have e0 : aq.tmps.getD 79 undef = .pointer (some ⟨w.heap.size + 2 + 3, 34, none⟩) := hdep 0 79 rfl (by kernel_rfl)
                      exact flow_value _ (run_cell 41 (.tmp 79) rfl _ e0 _ ((hbx.vars 3 (by decide)).cell (valL_34 0 (zeros 32) nilS u4 zeros32)) _ Tryz.underlying41 rfl) rfl
                    | 2, _ =>
                      cases ho
                      refine flowR_of (R := fun wa wb => (2 = 9 ∧ AppO u4 wr3.heap.size t4 (rowV xs4).flatten wa wb) ∨ Below wa.heap.size wa wb) (fun w' h => .inr h) ?_
                      have e1 : aq.tmps.getD 1 undef = .pointer (some ⟨w.heap.size, 0, none⟩) := hk 1 (by decide)
                      exact flow_value _ (run_fieldAt 33 (.tmp 1) 6 rfl _ _ e1 (by kernel_rfl)) rfl
                    | 3, _ =>
                      cases ho
                      refine flowR_of (R := fun wa wb => (3 = 9 ∧ AppO u4 wr3.heap.size t4 (rowV xs4).flatten wa wb) ∨ Below wa.heap.size wa wb) (fun w' h => .inr h) ?_
                      have e0 : aq.tmps.getD 81 undef = .pointer (some ⟨w.heap.size, 100, none⟩) := hdep 2 81 rfl (by kernel_rfl)
                      exact flow_value _ (run_cell 30 (.tmp 81) rfl _ e0 _ (hbx.box.cell HC4.out) _ Tryz.underlying30 rfl) rfl
                    | 4, _ =>
                      cases ho
                      refine flowR_of (R := fun wa wb => (4 = 9 ∧ AppO u4 wr3.heap.size t4 (rowV xs4).flatten wa wb) ∨ Below wa.heap.size wa wb) (fun w' h => .inr h) ?_
                      exact flow_move (.tmp 11) rfl (hk 11 (by decide))
                    | 5, _ =>
                      cases ho
                      refine flowR_of (R := fun wa wb => (5 = 9 ∧ AppO u4 wr3.heap.size t4 (rowV xs4).flatten wa wb) ∨ Below wa.heap.size wa wb) (fun w' h => .inr h) ?_
                      have e0 : aq.tmps.getD 82 undef = .slice (some ⟨nb, noff, none⟩) n4 c4 := hdep 3 82 rfl (by kernel_rfl)
                      have e1 : aq.tmps.getD 83 undef = .int .i64 (t4 : Nat) := hdep 4 83 rfl (by kernel_rfl)
                      exact flow_value _ (run_atG 30 85 289 (.tmp 82) (.tmp 83) rfl Tryz.underlying30 (by kernel_rfl) nb noff n4 c4 t4 e0 e1 hlt) rfl
                    | 6, _ =>
                      cases ho
                      refine flowR_of (R := fun wa wb => (6 = 9 ∧ AppO u4 wr3.heap.size t4 (rowV xs4).flatten wa wb) ∨ Below wa.heap.size wa wb) (fun w' h => .inr h) ?_
                      have e0 : aq.tmps.getD 84 undef = .pointer (some ⟨nb, noff + t4 * 289, none⟩) := hdep 5 84 rfl (by kernel_rfl)
                      exact flow_value _ (run_mid 85 (.tmp 84) rfl nb (noff + t4 * 289) e0 CT (rangeAt_grown HF.out.2.2.1 hc.grown (fun e => by have := HF.out.2.2.2.1 _ e; have := HO.out.2.2.2.1; have := HO.out.2.2.2.2.2.2.1; omega)) _ Tryz.underlying85 rfl (by rw [HO.out.2.2.2.2.1]; kernel_rfl)) rfl
                    | 7, _ =>
                      cases ho
                      refine flowR_of (R := fun wa wb => (7 = 9 ∧ AppO u4 wr3.heap.size t4 (rowV xs4).flatten wa wb) ∨ Below wa.heap.size wa wb) (fun w' h => .inr h) ?_
                      have e0 : aq.tmps.getD 85 undef = .agg CT.toArray := hdep 6 85 rfl (by kernel_rfl)
                      refine flow_fun 51 _ _ rfl (fun _ _ => by simp [go_sem]) #[.agg CT.toArray] (by rw [show (#[Operand.tmp 85] : Array Operand).map aq.eval = #[aq.tmps.getD 85 undef] from by simp [Act.eval], e0]) ?_
                      refine (HF.out.2.2.2.2.1.call (fun c => c < B0 ∨ wr4.heap.size ≤ c) wq (HF.out.2.2.2.2.2.grown hc.grown HO.out.2.2.2.2.2.1 (fun k hk => by have := HF.out.2.2.2.1 k hk; have := HO.out.2.2.2.2.2.2.1; omega)) (fun b hb => .inl hb) (fun b hb => .inr (Nat.le_trans hc.grown.size hb))).mono ?_
                      rintro x w' ⟨v, rfl, ⟨sb, sk, rfl, hvi⟩, q⟩
                      exact ⟨_, rfl, ⟨sb, sk, w'.heap.size, rfl, ⟨Nat.le_trans hc.grown.size q.size, Nat.le_refl _⟩, hvi.cap⟩, q⟩
                    | 8, _ =>
                      cases ho
                      refine flowR_of (R := fun wa wb => (8 = 9 ∧ AppO u4 wr3.heap.size t4 (rowV xs4).flatten wa wb) ∨ Below wa.heap.size wa wb) (fun w' h => .inr h) ?_
                      obtain ⟨sb, sk, n, e0, hn, hvi⟩ := hdep 7 86 rfl (by kernel_rfl)
                      refine flow_rowsB 41 43 1 35 _ rfl Tryz.underlying41 valInfo [valL X.num X.root sb sk] [.tmp 86] rfl (by rw [show [Operand.tmp 86].map aq.eval = [aq.tmps.getD 86 undef] from rfl, e0]; rfl) (by simp [valL_length, (vIn_parts hvi).1]) rfl (by decide) (by decide) (by decide) (fun w' h hb => ⟨wq.heap.size, sb, sk, n, hc.grown.size, rfl, (by simpa using h), ⟨hn.1, Nat.le_trans hn.2 hb.size⟩, hvi.keep hb⟩)
                    | 9, _ =>
                      cases ho
                      obtain ⟨b, sb, sk, n, h1, e1, h3, hn, hvi⟩ := hdep 8 87 rfl (by kernel_rfl)
                      have e0 : aq.tmps.getD 80 undef = u4 := hdep 1 80 rfl (by kernel_rfl)
                      obtain ⟨i0, hi, hz0, hz1, hz2⟩ := info_parts valInfo3
                      obtain ⟨v2, w2, hrun, hown2, hg2, hmv, hk1, hk2⟩ := run_append_kept (P := Tryz.prog) wq wr3.heap.size 41 41 41 43 i0 _ 35 _ Tryz.underlying41 hi hz0 hz1 hz2 rfl (by decide) u4 t4 _ (hc.old HF.out.2.1) (.slice (some ⟨b, 0, none⟩) 1 1) 1 (valL X.num X.root sb sk) (val_srcX h3 (vIn_parts hvi).1 (vIn_parts hvi).2.1 (vIn_parts hvi).2.2) (by unfold maxLen; omega) (by omega) (Nat.le_trans HO.out.2.2.2.2.2.2.2 hc.grown.size)
                      exact wp_runW (run_call_append (.tmp 80) (.tmp 87) 41 41 rfl u4 (.slice (some ⟨b, 0, none⟩) 1 1) v2 e0 e1 hrun) ⟨v2, rfl, ⟨sb, sk, n, hown2, ⟨hn.1, Nat.le_trans hn.2 hg2.size⟩, hvi.grown hg2 (fun b hb e => by have := HF.out.2.2.2.1 b e; have := HO.out.2.2.2.2.2.2.1; rcases hb.1 with h | h <;> omega), fun g hg => by rcases hmv g hg with h | h; exact .inl h; exact .inr (Nat.le_trans hn.2 h)⟩, .inl ⟨rfl, hg2, fun _ => hk1⟩⟩
                    | (k + 10), hk => exact absurd hk (by omega)
                  · intro o h10 ho
                    omega
                  intro vf w8 hc hv hv2
                  have h9 : ∃ sb sk n, w8.ownsRow wr3.heap.size 43 35 (vf 9) (t4 + 1) ((rowV xs4).flatten ++ valL X.num X.root sb sk) ∧ (wr4.heap.size ≤ n ∧ n ≤ w8.heap.size) ∧ VIn (fun c => (c < B0 ∨ wr4.heap.size ≤ c) ∧ c < n) w8 X sb sk ∧ ∀ g, (vf 9).ownBlock = some g → u4.ownBlock = some g ∨ n ≤ g := hv 9 88 (by decide) rfl
                  obtain ⟨sb, sk, n, h8, hn8, hvi8, hg8⟩ := h9
                  obtain ⟨g1, cap1, e8⟩ := ownsRow_succ h8
                  have hbx : BV P1 w.heap.size CS [u1, u2, u3, u4, nilS] [Xs1, Xs2, Xs3] wr3.heap.size w8 := HF.out.1.grown hc.grown (fun g hg => by have := HF.out.2.2.2.1 g hg; have := HO.out.2.2.2.2.2.2.1; omega)
                  have hE8 : EIn (Qrow P1 (vf 9)) w8 (xs4 ++ [(X, sb, sk)]) := by
                    refine EIn.snoc ?_ ?_
                    · intro x hx w'' ha
                      refine HO.out.2.2.1 x hx w'' fun b hb hl => (ha b ⟨hb.1, fun e => ?_⟩ (Nat.lt_of_lt_of_le hl hc.grown.size)).trans (hc.grown.block b hl (fun e => hb.2 e.symm))
                      rcases hg8 b e with h | h
                      · exact hb.2 h
                      · have := hn8.1; omega
                    · refine hvi8.mono (fun b hb => ⟨?_, fun e => ?_⟩)
                      · rcases hb.1 with h | h
                        · exact HPO.out b h
                        · exact HPN.out b (by have := HO.out.2.2.2.2.2.2.1; have := HO.out.2.2.2.2.2.2.2; omega)
                      · rcases hg8 b e with h | h
                        · have := HF.out.2.2.2.1 b h; have := HO.out.2.2.2.2.2.2.1; rcases hb.1 with h2 | h2 <;> omega
                        · have := hb.2; omega
                  rw [e8] at h8 hE8
                  have hrr : (rowV xs4).flatten ++ valL X.num X.root sb sk = (rowV (xs4 ++ [(X, sb, sk)])).flatten := (rowV_snoc xs4 (X, sb, sk)).symm
                  rw [hrr] at h8
                  have L8 := HF.out.2.2.2.2.2.grown hc.grown HO.out.2.2.2.2.2.1 (fun k hk => by have := HF.out.2.2.2.1 k hk; have := HO.out.2.2.2.2.2.2.1; omega)
                  have hz8 := Nat.le_trans HO.out.2.2.2.2.2.2.2 hc.grown.size
                  clear hv hv2 hc hg8 hvi8 hrr hn8
                  simp only [List.take_succ_cons, List.take_zero, List.drop_succ_cons, List.drop_zero, putAll, Act.put, List.setIfInBounds_toArray, List.set_cons_succ, List.set_cons_zero]
                  rw [e8]
                  have c34 := (hbx.vars 3 (by decide)).cell (valL_34 0 (zeros 32) nilS u4 zeros32)
                  have f34 := frozen_of_row w8 (w.heap.size + 2 + 3) 34 _ _ (hbx.vars 3 (by decide))
                  have Y8 := hid (And.intro h8 (And.intro hbx (And.intro hE8 (And.intro L8 hz8))))
                  clear e8 h8 hbx hE8 L8 hz8
                  go_wp2_with fail
                  have hO := Only.setCell w8 (w.heap.size + 2 + 3) 34 (.slice (some ⟨g1, 0, none⟩) (t4 + 1) cap1)
                  have hbs := Y8.out.2.1.store 3 (.slice (some ⟨g1, 0, none⟩) (t4 + 1) cap1) (by decide) rfl (Nat.le_refl _) HPV.out
                  have hg1 := (own_lt Y8.out.1 g1 rfl).1
                  have hz7 := HO.out.2.2.2.2.2.2.1
                  refine ⟨⟨t4 + 1, _, xs4 ++ [(X, sb, sk)], by omega, by go_num, hbs, own_only Y8.out.1 hO (fun _ => by simp [Value.ownBlock]; omega) (by simp [Value.ownBlock]; omega), by rw [List.length_append, HO.out.1]; rfl, ?_, Y8.out.2.2.1.put hO (fun b hb e => by have := HPV.out b hb.1; omega), below_only Y8.out.2.2.2.1 hO (by omega), by rw [hO.size]; exact Y8.out.2.2.2.2⟩, by simp [intOf]; omega⟩
                  rw [List.map_append, HO.out.2.1, List.take_add_one, List.getElem?_eq_getElem (by rw [HD4.out.len, HN4.out]; exact hlt)]
                  have hXe := HXT.out
                  rw [List.getD_eq_getElem?_getD, List.getElem?_eq_getElem (by rw [HD4.out.len, HN4.out]; exact hlt)] at hXe
                  rw [← hXe]
                  rfl
                · obtain rfl : t4 = n4 := by omega
                  have hxm2 : xs4.map (·.1) = Xs4 := by rw [hxm, List.take_of_length_le (by rw [HD4.out.len, HN4.out]; exact Nat.le_refl _)]
                  have hd : BV P1 w.heap.size CS [u1, u2, u3, u4, nilS] [Xs1, Xs2, Xs3, Xs4] wr4.heap.size wr4 := by
                    have h := hV.done hwz rfl (by rw [hxl]; exact hown) hE (fun b hb => HPN.out b (by have := HV4.out.2.2; omega))
                    rw [hxm2] at h
                    exact h
                  have HS4 := hid (own_isSl hown)
                  have HV5 := hid (And.intro hd (And.intro hW (show w.heap.size + 7 ≤ wr4.heap.size by have := HV4.out.2.2; omega)))
                  clear hxm2 hd hxm hxl hown hE hV hW hwz ht hlt
                  go_wp2_with fail
                  go_loopw [12] (fun i wr5 => ∃ (t5 : Nat) (u5 : Value) (xs5 : List (Vt × Value × Value)), t5 ≤ n5 ∧ i = .int .i64 t5 ∧ BV P1 w.heap.size CS [u1, u2, u3, u4, u5] [Xs1, Xs2, Xs3, Xs4] wr4.heap.size wr5 ∧ wr5.ownsRow wr4.heap.size 43 35 u5 t5 (rowV xs5).flatten ∧ xs5.length = t5 ∧ xs5.map (·.1) = Xs5.take t5 ∧ EIn (Qrow P1 u5) wr5 xs5 ∧ Below w.heap.size w wr5 ∧ wr4.heap.size ≤ wr5.heap.size) (fun i _ => n5 - (intOf i).toNat)
                  case atStart => exact ⟨0, nilS, [], Nat.zero_le _, rfl, HV5.out.1, World.ownsRow_nil _ _ _ _, rfl, rfl, (fun x hx => by cases hx), HV5.out.2.1, Nat.le_refl _⟩
                  case round =>
                    rename World => wr5
                    obtain ⟨t5, u5, xs5, ht, rfl, hV, hown, hxl, hxm, hE, hW, hwz⟩ := hrel
                    have c0 := hV.box.cell HC5.out
                    by_cases hlt : t5 < n5
                    · have hlt2 : t5 < css5.length := by rw [HN5.out]; exact hlt
                      obtain ⟨nb, noff, hna, hmm⟩ := HD5.out.mem.resolve_left (by omega)
                      subst hna
                      have hm := hmm t5 hlt2
                      have hcz := HD5.out.size t5 hlt2
                      have hdoc := HD5.out.doc t5 hlt2
                      obtain ⟨CT, HCT⟩ : ∃ c, Same (css5.getD t5 []) c := ⟨_, ⟨rfl⟩⟩
                      obtain ⟨X, HXT⟩ : ∃ X, Same (Xs5.getD t5 vt0) X := ⟨_, ⟨rfl⟩⟩
                      rw [HCT.out] at hm hcz hdoc
                      rw [HXT.out] at hdoc
                      have hnb : nb < w.heap.size := by
                        have h0 := List.getElem?_eq_getElem (show 0 < CT.length by omega)
                        exact block_lt_of_cell (hm 0 _ h0)
                      have hwl := hW.size
                      have hol := fun g hg => own_lt hown g hg
                      have hB7 := HV5.out.2.2
                      have hrow : ∀ g, u5.ownBlock = some g → wr4.heap.size ≤ g ∧ g < wr5.heap.size := fun g hg => hol g hg
                      have HF := hid (And.intro hV (And.intro hown (And.intro (rangeAt_keepD hm hW) (And.intro hrow (And.intro hdoc hW)))))
                      have HO := hid (And.intro hxl (And.intro hxm (And.intro hE (And.intro hnb (And.intro hcz (And.intro hwl (And.intro hB7 hwz)))))))
                      have hn500 : t5 ≤ 500 := by omega
                      clear hm hmm hown hE hW hxl hxm hol hdoc hrow hcz hV hnb hwl hB7 hwz
                      go_wp2_with fail
                      try simp only [Act.put, List.setIfInBounds_toArray, List.set_cons_succ, List.set_cons_zero]
                      refine wp_region_flowO (AppO u5 wr4.heap.size t5 (rowV xs5).flatten) (fun i wa wb => (i = 9 ∧ AppO u5 wr4.heap.size t5 (rowV xs5).flatten wa wb) ∨ Below wa.heap.size wa wb) 10 10 (fun i v wq => match i with
                        | 0 => v = .pointer (some ⟨w.heap.size + 2 + 4, 34, none⟩)
                        | 1 => v = u5
                        | 2 => v = .pointer (some ⟨w.heap.size, 101, none⟩)
                        | 3 => v = .slice (some ⟨nb, noff, none⟩) n5 c5
                        | 4 => v = .int .i64 (t5 : Nat)
                        | 5 => v = .pointer (some ⟨nb, noff + t5 * 34, none⟩)
                        | 6 => v = .agg CT.toArray
                        | 7 => ∃ sb sk n, v = .agg (valL X.num X.root sb sk).toArray ∧ (wr5.heap.size ≤ n ∧ n ≤ wq.heap.size) ∧ VIn (fun c => (c < B0 ∨ wr5.heap.size ≤ c) ∧ c < n) wq X sb sk
                        | 8 => ∃ b sb sk n, wr5.heap.size ≤ b ∧ v = .slice (some ⟨b, 0, none⟩) 1 1 ∧ HasC wq b 43 (valL X.num X.root sb sk) ∧ (wr5.heap.size ≤ n ∧ n ≤ wq.heap.size) ∧ VIn (fun c => (c < B0 ∨ wr5.heap.size ≤ c) ∧ c < n) wq X sb sk
                        | _ => ∃ sb sk n, wq.ownsRow wr4.heap.size 43 35 v (t5 + 1) ((rowV xs5).flatten ++ valL X.num X.root sb sk) ∧ (wr5.heap.size ≤ n ∧ n ≤ wq.heap.size) ∧ VIn (fun c => (c < B0 ∨ wr5.heap.size ≤ c) ∧ c < n) wq X sb sk ∧ ∀ g, v.ownBlock = some g → u5.ownBlock = some g ∨ n ≤ g) (by kernel_rfl) (by kernel_rfl) AppO.refl (fun _ _ _ h k => h.trans k) AppO.drew (fun i wa wb h => by rcases h with h | h; exact h.2; exact AppO.of_below h) (fun i wa => .inr (Below.refl _ _)) (fun _ d _ _ _ h => by cases d <;> exact h) ?_ ?_ ?_ ?_ ?_
                      · intro i o g b hi ho hg v wq hv
                        match i, hi with
                        | 0, _ => cases ho; cases hg
                        | 1, _ => cases ho; cases hg
                        | 2, _ => cases ho; cases hg
                        | 3, _ => cases ho; cases hg
                        | 4, _ => cases ho; cases hg
                        | 5, _ => cases ho; cases hg
                        | 6, _ => cases ho; cases hg
                        | 7, _ => cases ho; cases hg
                        | 8, _ => cases ho; cases hg
                        | 9, _ => cases ho; cases hg
                        | (k + 10), hk => exact absurd hk (by omega)
                      · intro i j v wq wq' hi hj hne hv hs
                        match j, hj with
                        | 0, _ => exact hv
                        | 1, _ => exact hv
                        | 2, _ => exact hv
                        | 3, _ => exact hv
                        | 4, _ => exact hv
                        | 5, _ => exact hv
                        | 6, _ => exact hv
                        | 7, _ =>
                          obtain ⟨sb, sk, n, e, hn, hvi⟩ := hv
                          rcases hs with hs | hs
                          · exact ⟨sb, sk, n, e, ⟨hn.1, Nat.le_trans hn.2 hs.2.grown.size⟩, hvi.grown hs.2.grown (fun b hb e => by have := HF.out.2.2.2.1 b e; have := HO.out.2.2.2.2.2.2.1; rcases hb.1 with h | h <;> omega)⟩
                          · exact ⟨sb, sk, n, e, ⟨hn.1, Nat.le_trans hn.2 hs.size⟩, hvi.keep hs⟩
                        | 8, _ =>
                          obtain ⟨b, sb, sk, n, h1, e, h3, hn, hvi⟩ := hv
                          rcases hs with hs | hs
                          · exact ⟨b, sb, sk, n, h1, e, h3.grownO hs.2.grown (fun e => by have := HF.out.2.2.2.1 _ e; omega), ⟨hn.1, Nat.le_trans hn.2 hs.2.grown.size⟩, hvi.grown hs.2.grown (fun b hb e => by have := HF.out.2.2.2.1 b e; have := HO.out.2.2.2.2.2.2.1; rcases hb.1 with h | h <;> omega)⟩
                          · exact ⟨b, sb, sk, n, h1, e, h3.keep hs, ⟨hn.1, Nat.le_trans hn.2 hs.size⟩, hvi.keep hs⟩
                        | 9, _ =>
                          obtain ⟨sb, sk, n, h3, hn, hvi, hg⟩ := hv
                          rcases hs with hs | hs
                          · exact absurd hs.1.symm hne
                          · exact ⟨sb, sk, n, own_keep h3 hs, ⟨hn.1, Nat.le_trans hn.2 hs.size⟩, hvi.keep hs, hg⟩
                        | (k + 10), hk => exact absurd hk (by omega)
                      · intro i o hi ho aq wq hc hk hdep
                        have hbx : BV P1 w.heap.size CS [u1, u2, u3, u4, u5] [Xs1, Xs2, Xs3, Xs4] wr4.heap.size wq := HF.out.1.grown hc.grown (fun g hg => by have := HF.out.2.2.2.1 g hg; have := HO.out.2.2.2.2.2.2.1; omega)
                        match i, hi with
                        | 0, _ =>
                          cases ho
                          refine flowR_of (R := fun wa wb => (0 = 9 ∧ AppO u5 wr4.heap.size t5 (rowV xs5).flatten wa wb) ∨ Below wa.heap.size wa wb) (fun w' h => .inr h) ?_
                          have e1 : aq.tmps.getD 7 undef = .pointer (some ⟨w.heap.size + 2 + 4, 0, none⟩) := hk 7 (by decide)
                          exact flow_value _ (run_fieldAt 43 (.tmp 7) 3 rfl _ _ e1 (by kernel_rfl)) rfl
                        | 1, _ =>
                          cases ho
                          refine flowR_of (R := fun wa wb => (1 = 9 ∧ AppO u5 wr4.heap.size t5 (rowV xs5).flatten wa wb) ∨ Below wa.heap.size wa wb) (fun w' h => .inr h) ?_
                          have e0 : aq.tmps.getD 97 undef = .pointer (some ⟨w.heap.size + 2 + 4, 34, none⟩) := hdep 0 97 rfl (by kernel_rfl)
                          exact flow_value _ (run_cell 41 (.tmp 97) rfl _ e0 _ ((hbx.vars 4 (by decide)).cell (valL_34 0 (zeros 32) nilS u5 zeros32)) _ Tryz.underlying41 rfl) rfl
                        | 2, _ =>
                          cases ho
                          refine flowR_of (R := fun wa wb => (2 = 9 ∧ AppO u5 wr4.heap.size t5 (rowV xs5).flatten wa wb) ∨ Below wa.heap.size wa wb) (fun w' h => .inr h) ?_
                          have e1 : aq.tmps.getD 1 undef = .pointer (some ⟨w.heap.size, 0, none⟩) := hk 1 (by decide)
                          exact flow_value _ (run_fieldAt 33 (.tmp 1) 7 rfl _ _ e1 (by kernel_rfl)) rfl
                        | 3, _ =>
                          cases ho
                          refine flowR_of (R := fun wa wb => (3 = 9 ∧ AppO u5 wr4.heap.size t5 (rowV xs5).flatten wa wb) ∨ Below wa.heap.size wa wb) (fun w' h => .inr h) ?_
                          have e0 : aq.tmps.getD 99 undef = .pointer (some ⟨w.heap.size, 101, none⟩) := hdep 2 99 rfl (by kernel_rfl)
                          exact flow_value _ (run_cell 31 (.tmp 99) rfl _ e0 _ (hbx.box.cell HC5.out) _ Tryz.underlying31 rfl) rfl
                        | 4, _ =>
                          cases ho
                          refine flowR_of (R := fun wa wb => (4 = 9 ∧ AppO u5 wr4.heap.size t5 (rowV xs5).flatten wa wb) ∨ Below wa.heap.size wa wb) (fun w' h => .inr h) ?_
                          exact flow_move (.tmp 12) rfl (hk 12 (by decide))
                        | 5, _ =>
                          cases ho
                          refine flowR_of (R := fun wa wb => (5 = 9 ∧ AppO u5 wr4.heap.size t5 (rowV xs5).flatten wa wb) ∨ Below wa.heap.size wa wb) (fun w' h => .inr h) ?_
                          have e0 : aq.tmps.getD 100 undef = .slice (some ⟨nb, noff, none⟩) n5 c5 := hdep 3 100 rfl (by kernel_rfl)
                          have e1 : aq.tmps.getD 101 undef = .int .i64 (t5 : Nat) := hdep 4 101 rfl (by kernel_rfl)
                          exact flow_value _ (run_atG 31 91 34 (.tmp 100) (.tmp 101) rfl Tryz.underlying31 (by kernel_rfl) nb noff n5 c5 t5 e0 e1 hlt) rfl
                        | 6, _ =>
                          cases ho
                          refine flowR_of (R := fun wa wb => (6 = 9 ∧ AppO u5 wr4.heap.size t5 (rowV xs5).flatten wa wb) ∨ Below wa.heap.size wa wb) (fun w' h => .inr h) ?_
                          have e0 : aq.tmps.getD 102 undef = .pointer (some ⟨nb, noff + t5 * 34, none⟩) := hdep 5 102 rfl (by kernel_rfl)
                          exact flow_value _ (run_mid 91 (.tmp 102) rfl nb (noff + t5 * 34) e0 CT (rangeAt_grown HF.out.2.2.1 hc.grown (fun e => by have := HF.out.2.2.2.1 _ e; have := HO.out.2.2.2.1; have := HO.out.2.2.2.2.2.2.1; omega)) _ Tryz.underlying91 rfl (by rw [HO.out.2.2.2.2.1]; kernel_rfl)) rfl
                        | 7, _ =>
                          cases ho
                          refine flowR_of (R := fun wa wb => (7 = 9 ∧ AppO u5 wr4.heap.size t5 (rowV xs5).flatten wa wb) ∨ Below wa.heap.size wa wb) (fun w' h => .inr h) ?_
                          have e0 : aq.tmps.getD 103 undef = .agg CT.toArray := hdep 6 103 rfl (by kernel_rfl)
                          refine flow_fun 52 _ _ rfl (fun _ _ => by simp [go_sem]) #[.agg CT.toArray] (by rw [show (#[Operand.tmp 103] : Array Operand).map aq.eval = #[aq.tmps.getD 103 undef] from by simp [Act.eval], e0]) ?_
                          refine (HF.out.2.2.2.2.1.call (fun c => c < B0 ∨ wr5.heap.size ≤ c) wq (HF.out.2.2.2.2.2.grown hc.grown HO.out.2.2.2.2.2.1 (fun k hk => by have := HF.out.2.2.2.1 k hk; have := HO.out.2.2.2.2.2.2.1; omega)) (fun b hb => .inl hb) (fun b hb => .inr (Nat.le_trans hc.grown.size hb))).mono ?_
                          rintro x w' ⟨v, rfl, ⟨sb, sk, rfl, hvi⟩, q⟩
                          exact ⟨_, rfl, ⟨sb, sk, w'.heap.size, rfl, ⟨Nat.le_trans hc.grown.size q.size, Nat.le_refl _⟩, hvi.cap⟩, q⟩
                        | 8, _ =>
                          cases ho
                          refine flowR_of (R := fun wa wb => (8 = 9 ∧ AppO u5 wr4.heap.size t5 (rowV xs5).flatten wa wb) ∨ Below wa.heap.size wa wb) (fun w' h => .inr h) ?_
                          obtain ⟨sb, sk, n, e0, hn, hvi⟩ := hdep 7 104 rfl (by kernel_rfl)
                          refine flow_rowsB 41 43 1 35 _ rfl Tryz.underlying41 valInfo [valL X.num X.root sb sk] [.tmp 104] rfl (by rw [show [Operand.tmp 104].map aq.eval = [aq.tmps.getD 104 undef] from rfl, e0]; rfl) (by simp [valL_length, (vIn_parts hvi).1]) rfl (by decide) (by decide) (by decide) (fun w' h hb => ⟨wq.heap.size, sb, sk, n, hc.grown.size, rfl, (by simpa using h), ⟨hn.1, Nat.le_trans hn.2 hb.size⟩, hvi.keep hb⟩)
                        | 9, _ =>
                          cases ho
                          obtain ⟨b, sb, sk, n, h1, e1, h3, hn, hvi⟩ := hdep 8 105 rfl (by kernel_rfl)
                          have e0 : aq.tmps.getD 98 undef = u5 := hdep 1 98 rfl (by kernel_rfl)
                          obtain ⟨i0, hi, hz0, hz1, hz2⟩ := info_parts valInfo3
                          obtain ⟨v2, w2, hrun, hown2, hg2, hmv, hk1, hk2⟩ := run_append_kept (P := Tryz.prog) wq wr4.heap.size 41 41 41 43 i0 _ 35 _ Tryz.underlying41 hi hz0 hz1 hz2 rfl (by decide) u5 t5 _ (hc.old HF.out.2.1) (.slice (some ⟨b, 0, none⟩) 1 1) 1 (valL X.num X.root sb sk) (val_srcX h3 (vIn_parts hvi).1 (vIn_parts hvi).2.1 (vIn_parts hvi).2.2) (by unfold maxLen; omega) (by omega) (Nat.le_trans HO.out.2.2.2.2.2.2.2 hc.grown.size)
                          exact wp_runW (run_call_append (.tmp 98) (.tmp 105) 41 41 rfl u5 (.slice (some ⟨b, 0, none⟩) 1 1) v2 e0 e1 hrun) ⟨v2, rfl, ⟨sb, sk, n, hown2, ⟨hn.1, Nat.le_trans hn.2 hg2.size⟩, hvi.grown hg2 (fun b hb e => by have := HF.out.2.2.2.1 b e; have := HO.out.2.2.2.2.2.2.1; rcases hb.1 with h | h <;> omega), fun g hg => by rcases hmv g hg with h | h; exact .inl h; exact .inr (Nat.le_trans hn.2 h)⟩, .inl ⟨rfl, hg2, fun _ => hk1⟩⟩
                        | (k + 10), hk => exact absurd hk (by omega)
                      · intro o h10 ho
                        omega
                      intro vf w8 hc hv hv2
                      have h9 : ∃ sb sk n, w8.ownsRow wr4.heap.size 43 35 (vf 9) (t5 + 1) ((rowV xs5).flatten ++ valL X.num X.root sb sk) ∧ (wr5.heap.size ≤ n ∧ n ≤ w8.heap.size) ∧ VIn (fun c => (c < B0 ∨ wr5.heap.size ≤ c) ∧ c < n) w8 X sb sk ∧ ∀ g, (vf 9).ownBlock = some g → u5.ownBlock = some g ∨ n ≤ g := hv 9 106 (by decide) rfl
                      obtain ⟨sb, sk, n, h8, hn8, hvi8, hg8⟩ := h9
                      obtain ⟨g1, cap1, e8⟩ := ownsRow_succ h8
                      have hbx : BV P1 w.heap.size CS [u1, u2, u3, u4, u5] [Xs1, Xs2, Xs3, Xs4] wr4.heap.size w8 := HF.out.1.grown hc.grown (fun g hg => by have := HF.out.2.2.2.1 g hg; have := HO.out.2.2.2.2.2.2.1; omega)
                      have hE8 : EIn (Qrow P1 (vf 9)) w8 (xs5 ++ [(X, sb, sk)]) := by
                        refine EIn.snoc ?_ ?_
                        · intro x hx w'' ha
                          refine HO.out.2.2.1 x hx w'' fun b hb hl => (ha b ⟨hb.1, fun e => ?_⟩ (Nat.lt_of_lt_of_le hl hc.grown.size)).trans (hc.grown.block b hl (fun e => hb.2 e.symm))
                          rcases hg8 b e with h | h
                          · exact hb.2 h
                          · have := hn8.1; omega
                        · refine hvi8.mono (fun b hb => ⟨?_, fun e => ?_⟩)
                          · rcases hb.1 with h | h
                            · exact HPO.out b h
                            · exact HPN.out b (by have := HO.out.2.2.2.2.2.2.1; have := HO.out.2.2.2.2.2.2.2; omega)
                          · rcases hg8 b e with h | h
                            · have := HF.out.2.2.2.1 b h; have := HO.out.2.2.2.2.2.2.1; rcases hb.1 with h2 | h2 <;> omega
                            · have := hb.2; omega
                      rw [e8] at h8 hE8
                      have hrr : (rowV xs5).flatten ++ valL X.num X.root sb sk = (rowV (xs5 ++ [(X, sb, sk)])).flatten := (rowV_snoc xs5 (X, sb, sk)).symm
                      rw [hrr] at h8
                      have L8 := HF.out.2.2.2.2.2.grown hc.grown HO.out.2.2.2.2.2.1 (fun k hk => by have := HF.out.2.2.2.1 k hk; have := HO.out.2.2.2.2.2.2.1; omega)
                      have hz8 := Nat.le_trans HO.out.2.2.2.2.2.2.2 hc.grown.size
                      clear hv hv2 hc hg8 hvi8 hrr hn8
                      simp only [List.take_succ_cons, List.take_zero, List.drop_succ_cons, List.drop_zero, putAll, Act.put, List.setIfInBounds_toArray, List.set_cons_succ, List.set_cons_zero]
                      rw [e8]
                      have c34 := (hbx.vars 4 (by decide)).cell (valL_34 0 (zeros 32) nilS u5 zeros32)
                      have f34 := frozen_of_row w8 (w.heap.size + 2 + 4) 34 _ _ (hbx.vars 4 (by decide))
                      have Y8 := hid (And.intro h8 (And.intro hbx (And.intro hE8 (And.intro L8 hz8))))
                      clear e8 h8 hbx hE8 L8 hz8
                      go_wp2_with fail
                      have hO := Only.setCell w8 (w.heap.size + 2 + 4) 34 (.slice (some ⟨g1, 0, none⟩) (t5 + 1) cap1)
                      have hbs := Y8.out.2.1.store 4 (.slice (some ⟨g1, 0, none⟩) (t5 + 1) cap1) (by decide) rfl (Nat.le_refl _) HPV.out
                      have hg1 := (own_lt Y8.out.1 g1 rfl).1
                      have hz7 := HO.out.2.2.2.2.2.2.1
                      refine ⟨⟨t5 + 1, _, xs5 ++ [(X, sb, sk)], by omega, by go_num, hbs, own_only Y8.out.1 hO (fun _ => by simp [Value.ownBlock]; omega) (by simp [Value.ownBlock]; omega), by rw [List.length_append, HO.out.1]; rfl, ?_, Y8.out.2.2.1.put hO (fun b hb e => by have := HPV.out b hb.1; omega), below_only Y8.out.2.2.2.1 hO (by omega), by rw [hO.size]; exact Y8.out.2.2.2.2⟩, by simp [intOf]; omega⟩
                      rw [List.map_append, HO.out.2.1, List.take_add_one, List.getElem?_eq_getElem (by rw [HD5.out.len, HN5.out]; exact hlt)]
                      have hXe := HXT.out
                      rw [List.getD_eq_getElem?_getD, List.getElem?_eq_getElem (by rw [HD5.out.len, HN5.out]; exact hlt)] at hXe
                      rw [← hXe]
                      rfl
                    · obtain rfl : t5 = n5 := by omega
                      have hxm2 : xs5.map (·.1) = Xs5 := by rw [hxm, List.take_of_length_le (by rw [HD5.out.len, HN5.out]; exact Nat.le_refl _)]
                      have hd : BV P1 w.heap.size CS [u1, u2, u3, u4, u5] [Xs1, Xs2, Xs3, Xs4, Xs5] wr5.heap.size wr5 := by
                        have h := hV.done hwz rfl (by rw [hxl]; exact hown) hE (fun b hb => HPN.out b (by have := HV5.out.2.2; omega))
                        rw [hxm2] at h
                        exact h
                      have HS5 := hid (own_isSl hown)
                      have HV6 := hid (And.intro hd (And.intro hW (show w.heap.size + 7 ≤ wr5.heap.size by have := HV5.out.2.2; omega)))
                      clear hxm2 hd hxm hxl hown hE hV hW hwz ht hlt
                      have HVV := hid (show ∀ j, j < 5 → VIn P1 wr5 (.mk 0 (zeros 32) [] ([Xs1, Xs2, Xs3, Xs4, Xs5].getD j [])) nilS ([u1, u2, u3, u4, u5].getD j nilS) from fun j hj => (HV6.out.1.vals j hj).mono (fun b hb => hb.1))
                      have HP1 := hid (fun (wq : World) (h : wr5.heap.size ≤ wq.heap.size) b (hb : wq.heap.size ≤ b) => HPN.out b (by have := HV6.out.2.2; omega))
                      have HBX := hid HV6.out.1.box
                      have HVR := hid HV6.out.1.vars
                      go_wp2_with fail
                      try simp only [Act.put, List.setIfInBounds_toArray, List.set_cons_succ, List.set_cons_zero]
                      refine wp_region_flow 16 16 (fun i v wq => match i with
                        | 0 => v = .pointer (some ⟨w.heap.size, 0, none⟩)
                        | 1 => v = .agg (nums .u8 ra)
                        | 2 => v = .agg (valL 0 ra nilS nilS).toArray
                        | 3 => v = .pointer (some ⟨w.heap.size, 32, none⟩)
                        | 4 => v = .agg (etC ed ec).toArray
                        | 5 => IsVI P1 wq v (etU ed ec)
                        | 6 => v = .pointer (some ⟨w.heap.size, 65, none⟩)
                        | 7 => v = .agg (nums .u8 gr)
                        | 8 => v = .agg (valL 0 gr nilS nilS).toArray
                        | 9 => v = .agg (valL 0 (zeros 32) nilS u1).toArray
                        | 10 => v = .agg (valL 0 (zeros 32) nilS u2).toArray
                        | 11 => v = .agg (valL 0 (zeros 32) nilS u3).toArray
                        | 12 => v = .agg (valL 0 (zeros 32) nilS u4).toArray
                        | 13 => v = .agg (valL 0 (zeros 32) nilS u5).toArray
                        | 14 => ∃ b, v = .slice (some ⟨b, 0, none⟩) 8 8 ∧ KIn P1 wq [.mk 0 ra [] [], etU ed ec, .mk 0 gr [] [], .mk 0 (zeros 32) [] Xs1, .mk 0 (zeros 32) [] Xs2, .mk 0 (zeros 32) [] Xs3, .mk 0 (zeros 32) [] Xs4, .mk 0 (zeros 32) [] Xs5] b 0
                        | _ => ∃ b, v = .agg (valL 0 (zeros 32) nilS (.slice (some ⟨b, 0, none⟩) 8 8)).toArray ∧ KIn P1 wq [.mk 0 ra [] [], etU ed ec, .mk 0 gr [] [], .mk 0 (zeros 32) [] Xs1, .mk 0 (zeros 32) [] Xs2, .mk 0 (zeros 32) [] Xs3, .mk 0 (zeros 32) [] Xs4, .mk 0 (zeros 32) [] Xs5] b 0) (by kernel_rfl) (by kernel_rfl) (fun _ d _ _ _ h => by cases d <;> exact h) ?_ ?_ ?_ ?_
                      · intro i v wq wq' hi hv hb
                        match i, hi with
                        | 0, _ => exact hv
                        | 1, _ => exact hv
                        | 2, _ => exact hv
                        | 3, _ => exact hv
                        | 4, _ => exact hv
                        | 5, _ => exact hv.keep hb
                        | 6, _ => exact hv
                        | 7, _ => exact hv
                        | 8, _ => exact hv
                        | 9, _ => exact hv
                        | 10, _ => exact hv
                        | 11, _ => exact hv
                        | 12, _ => exact hv
                        | 13, _ => exact hv
                        | 14, _ => obtain ⟨b, h1, h2⟩ := hv; exact ⟨b, h1, h2.keep hb⟩
                        | 15, _ => obtain ⟨b, h1, h2⟩ := hv; exact ⟨b, h1, h2.keep hb⟩
                        | (k + 16), hk => exact absurd hk (by omega)
                      · intro i o hi ho aq wq hc hk hdep
                        match i, hi with
                        | 0, _ =>
                          cases ho
                          have e1 : aq.tmps.getD 1 undef = .pointer (some ⟨w.heap.size, 0, none⟩) := hk 1 (by decide)
                          exact flow_value _ (run_fieldAt 33 (.tmp 1) 0 rfl _ _ e1 (by kernel_rfl)) rfl
                        | 1, _ =>
                          cases ho
                          have e0 : aq.tmps.getD 108 undef = .pointer (some ⟨w.heap.size, 0, none⟩) := hdep 0 108 rfl (by kernel_rfl)
                          exact flow_value _ (run_mid 23 (.tmp 108) rfl w.heap.size 0 e0 (cellsB ra) ((HBX.out.keep (hcB hc)).range 0 (cellsB ra) (fun j v hv => by rw [← HCS.out]; exact bd_ra ra ed ec gr _ _ _ _ _ hra.1 hed.1 hgr.1 j v hv)) _ Tryz.und23 rfl (by rw [cellsB_length, hra.len]; exact Tryz.size23)) rfl
                        | 2, _ =>
                          cases ho
                          have e0 : aq.tmps.getD 109 undef = .agg (nums .u8 ra) := hdep 1 109 rfl (by kernel_rfl)
                          refine flow_fun 54 _ _ rfl (fun _ _ => by simp [go_sem]) #[.agg (nums .u8 ra)] (by rw [show (#[Operand.tmp 109] : Array Operand).map aq.eval = #[aq.tmps.getD 109 undef] from by simp [Act.eval], e0]) ?_
                          refine (r_any ra hra.len wq).mono ?_
                          rintro e w' ⟨rfl, q⟩
                          exact ⟨_, rfl, rfl, q⟩
                        | 3, _ =>
                          cases ho
                          have e1 : aq.tmps.getD 1 undef = .pointer (some ⟨w.heap.size, 0, none⟩) := hk 1 (by decide)
                          exact flow_value _ (run_fieldAt 33 (.tmp 1) 1 rfl _ _ e1 (by kernel_rfl)) rfl
                        | 4, _ =>
                          cases ho
                          have e0 : aq.tmps.getD 111 undef = .pointer (some ⟨w.heap.size, 32, none⟩) := hdep 3 111 rfl (by kernel_rfl)
                          exact flow_value _ (run_mid 26 (.tmp 111) rfl w.heap.size 32 e0 (etC ed ec) ((HBX.out.keep (hcB hc)).range 32 (etC ed ec) (fun j v hv => by rw [← HCS.out]; exact bd_et ra ed ec gr _ _ _ _ _ hra.1 hed.1 hgr.1 j v hv)) _ Tryz.underlying26 rfl (by rw [etC_length ed ec hed.len]; kernel_rfl)) rfl
                        | 5, _ =>
                          cases ho
                          have e0 : aq.tmps.getD 112 undef = .agg (etC ed ec).toArray := hdep 4 112 rfl (by kernel_rfl)
                          refine flow_fun 55 _ _ rfl (fun _ _ => by simp [go_sem]) #[.agg (etC ed ec).toArray] (by rw [show (#[Operand.tmp 112] : Array Operand).map aq.eval = #[aq.tmps.getD 112 undef] from by simp [Act.eval], e0]) ?_
                          refine (etW_any P1 ed ec hed hec wq (HP1.out wq (hcB hc).size)).mono ?_
                          rintro x w' ⟨v, rfl, h1, q⟩
                          exact ⟨v, rfl, h1, q⟩
                        | 6, _ =>
                          cases ho
                          have e1 : aq.tmps.getD 1 undef = .pointer (some ⟨w.heap.size, 0, none⟩) := hk 1 (by decide)
                          exact flow_value _ (run_fieldAt 33 (.tmp 1) 2 rfl _ _ e1 (by kernel_rfl)) rfl
                        | 7, _ =>
                          cases ho
                          have e0 : aq.tmps.getD 114 undef = .pointer (some ⟨w.heap.size, 65, none⟩) := hdep 6 114 rfl (by kernel_rfl)
                          exact flow_value _ (run_mid 23 (.tmp 114) rfl w.heap.size 65 e0 (cellsB gr) ((HBX.out.keep (hcB hc)).range 65 (cellsB gr) (fun j v hv => by rw [← HCS.out]; exact bd_gr ra ed ec gr _ _ _ _ _ hra.1 hed.1 hgr.1 j v hv)) _ Tryz.und23 rfl (by rw [cellsB_length, hgr.len]; exact Tryz.size23)) rfl
                        | 8, _ =>
                          cases ho
                          have e0 : aq.tmps.getD 115 undef = .agg (nums .u8 gr) := hdep 7 115 rfl (by kernel_rfl)
                          refine flow_fun 54 _ _ rfl (fun _ _ => by simp [go_sem]) #[.agg (nums .u8 gr)] (by rw [show (#[Operand.tmp 115] : Array Operand).map aq.eval = #[aq.tmps.getD 115 undef] from by simp [Act.eval], e0]) ?_
                          refine (r_any gr hgr.len wq).mono ?_
                          rintro e w' ⟨rfl, q⟩
                          exact ⟨_, rfl, rfl, q⟩
                        | 9, _ =>
                          cases ho
                          have e1 : aq.tmps.getD 3 undef = .pointer (some ⟨w.heap.size + 2 + 0, 0, none⟩) := hk 3 (by decide)
                          exact flow_value _ (run_mid 43 (.tmp 3) rfl (w.heap.size + 2 + 0) 0 e1 (valL 0 (zeros 32) nilS u1) (((HVR.out 0 (by decide)).keep (hcB hc)).range 0 (valL 0 (zeros 32) nilS u1) (fun j v hv => by rw [Nat.zero_add]; exact hv)) _ Tryz.underlying43 rfl (by rw [valL_length _ _ _ _ zeros32]; kernel_rfl)) rfl
                        | 10, _ =>
                          cases ho
                          have e1 : aq.tmps.getD 4 undef = .pointer (some ⟨w.heap.size + 2 + 1, 0, none⟩) := hk 4 (by decide)
                          exact flow_value _ (run_mid 43 (.tmp 4) rfl (w.heap.size + 2 + 1) 0 e1 (valL 0 (zeros 32) nilS u2) (((HVR.out 1 (by decide)).keep (hcB hc)).range 0 (valL 0 (zeros 32) nilS u2) (fun j v hv => by rw [Nat.zero_add]; exact hv)) _ Tryz.underlying43 rfl (by rw [valL_length _ _ _ _ zeros32]; kernel_rfl)) rfl
                        | 11, _ =>
                          cases ho
                          have e1 : aq.tmps.getD 5 undef = .pointer (some ⟨w.heap.size + 2 + 2, 0, none⟩) := hk 5 (by decide)
                          exact flow_value _ (run_mid 43 (.tmp 5) rfl (w.heap.size + 2 + 2) 0 e1 (valL 0 (zeros 32) nilS u3) (((HVR.out 2 (by decide)).keep (hcB hc)).range 0 (valL 0 (zeros 32) nilS u3) (fun j v hv => by rw [Nat.zero_add]; exact hv)) _ Tryz.underlying43 rfl (by rw [valL_length _ _ _ _ zeros32]; kernel_rfl)) rfl
                        | 12, _ =>
                          cases ho
                          have e1 : aq.tmps.getD 6 undef = .pointer (some ⟨w.heap.size + 2 + 3, 0, none⟩) := hk 6 (by decide)
                          exact flow_value _ (run_mid 43 (.tmp 6) rfl (w.heap.size + 2 + 3) 0 e1 (valL 0 (zeros 32) nilS u4) (((HVR.out 3 (by decide)).keep (hcB hc)).range 0 (valL 0 (zeros 32) nilS u4) (fun j v hv => by rw [Nat.zero_add]; exact hv)) _ Tryz.underlying43 rfl (by rw [valL_length _ _ _ _ zeros32]; kernel_rfl)) rfl
                        | 13, _ =>
                          cases ho
                          have e1 : aq.tmps.getD 7 undef = .pointer (some ⟨w.heap.size + 2 + 4, 0, none⟩) := hk 7 (by decide)
                          exact flow_value _ (run_mid 43 (.tmp 7) rfl (w.heap.size + 2 + 4) 0 e1 (valL 0 (zeros 32) nilS u5) (((HVR.out 4 (by decide)).keep (hcB hc)).range 0 (valL 0 (zeros 32) nilS u5) (fun j v hv => by rw [Nat.zero_add]; exact hv)) _ Tryz.underlying43 rfl (by rw [valL_length _ _ _ _ zeros32]; kernel_rfl)) rfl
                        | 14, _ =>
                          cases ho
                          have e0 : aq.tmps.getD 110 undef = .agg (valL 0 ra nilS nilS).toArray := hdep 2 110 rfl (by kernel_rfl)
                          obtain ⟨sb1, sk1, e1, h1_⟩ := hdep 5 113 rfl (by kernel_rfl)
                          have e2 : aq.tmps.getD 116 undef = .agg (valL 0 gr nilS nilS).toArray := hdep 8 116 rfl (by kernel_rfl)
                          have e3 : aq.tmps.getD 117 undef = .agg (valL 0 (zeros 32) nilS u1).toArray := hdep 9 117 rfl (by kernel_rfl)
                          have e4 : aq.tmps.getD 118 undef = .agg (valL 0 (zeros 32) nilS u2).toArray := hdep 10 118 rfl (by kernel_rfl)
                          have e5 : aq.tmps.getD 119 undef = .agg (valL 0 (zeros 32) nilS u3).toArray := hdep 11 119 rfl (by kernel_rfl)
                          have e6 : aq.tmps.getD 120 undef = .agg (valL 0 (zeros 32) nilS u4).toArray := hdep 12 120 rfl (by kernel_rfl)
                          have e7 : aq.tmps.getD 121 undef = .agg (valL 0 (zeros 32) nilS u5).toArray := hdep 13 121 rfl (by kernel_rfl)
                          have hvv : ∀ j, j < 5 → VIn P1 wq (.mk 0 (zeros 32) [] ([Xs1, Xs2, Xs3, Xs4, Xs5].getD j [])) nilS ([u1, u2, u3, u4, u5].getD j nilS) := fun j hj => (HVV.out j hj).keep (hcB hc)
                          refine flow_rowsB 41 43 8 35 _ rfl Tryz.underlying41 valInfo [valL 0 ra nilS nilS, valL 0 (zeros 32) sb1 sk1, valL 0 gr nilS nilS, valL 0 (zeros 32) nilS u1, valL 0 (zeros 32) nilS u2, valL 0 (zeros 32) nilS u3, valL 0 (zeros 32) nilS u4, valL 0 (zeros 32) nilS u5] [.tmp 110, .tmp 113, .tmp 116, .tmp 117, .tmp 118, .tmp 119, .tmp 120, .tmp 121] rfl (by rw [show [Operand.tmp 110, Operand.tmp 113, Operand.tmp 116, Operand.tmp 117, Operand.tmp 118, Operand.tmp 119, Operand.tmp 120, Operand.tmp 121].map aq.eval = [aq.tmps.getD 110 undef, aq.tmps.getD 113 undef, aq.tmps.getD 116 undef, aq.tmps.getD 117 undef, aq.tmps.getD 118 undef, aq.tmps.getD 119 undef, aq.tmps.getD 120 undef, aq.tmps.getD 121 undef] from rfl, e0, e1, e2, e3, e4, e5, e6, e7]; rfl) (by simp [valL_length, zeros32, hra.len, hgr.len]) rfl (by decide) (by decide) (by decide) (fun w' h hb => ⟨_, rfl, kIn_of h hb (HP1.out wq (hcB hc).size _ (Nat.le_refl _)) [(.mk 0 ra [] [], nilS, nilS), (etU ed ec, sb1, sk1), (.mk 0 gr [] [], nilS, nilS), (.mk 0 (zeros 32) [] Xs1, nilS, u1), (.mk 0 (zeros 32) [] Xs2, nilS, u2), (.mk 0 (zeros 32) [] Xs3, nilS, u3), (.mk 0 (zeros 32) [] Xs4, nilS, u4), (.mk 0 (zeros 32) [] Xs5, nilS, u5)] (fun j v hj => by rw [Nat.zero_add]; exact hj) (fun x hx => ?_)⟩)
                          simp only [List.mem_cons, List.not_mem_nil, or_false] at hx
                          rcases hx with rfl | rfl | rfl | rfl | rfl | rfl | rfl | rfl
                          · exact fun w' _ => vAt_leaf w' (by decide) hra.1 hra.2
                          · exact h1_
                          · exact fun w' _ => vAt_leaf w' (by decide) hgr.1 hgr.2
                          · exact hvv 0 (by decide)
                          · exact hvv 1 (by decide)
                          · exact hvv 2 (by decide)
                          · exact hvv 3 (by decide)
                          · exact hvv 4 (by decide)
                        | 15, _ =>
                          cases ho
                          obtain ⟨b, e6, h6⟩ := hdep 14 122 rfl (by kernel_rfl)
                          refine flow_fun 53 _ _ rfl (fun _ _ => by simp [go_sem]) #[.slice (some ⟨b, 0, none⟩) 8 8] (by rw [show (#[Operand.tmp 122] : Array Operand).map aq.eval = #[aq.tmps.getD 122 undef] from by simp [Act.eval], e6]) ?_
                          refine (all_any (some ⟨b, 0, none⟩) 8 8 wq).mono ?_
                          rintro x w' ⟨rfl, q⟩
                          exact ⟨_, rfl, ⟨b, rfl, h6.keep q⟩, q⟩
                        | (k + 16), hk => exact absurd hk (by omega)
                      · intro o h16 ho
                        omega
                      intro vf w8 hc hv
                      have e7 : ∃ b, vf 15 = _ ∧ KIn P1 w8 _ b 0 := hv 15 123 (by decide) rfl
                      obtain ⟨b, e7, h7⟩ := e7
                      have B8 := HV6.out.2.1.trans ((hcB hc).mono HV6.out.2.1.size)
                      have H8v := HV6.out.1.res.keep (hcB hc)
                      clear hv hc
                      simp only [List.take_succ_cons, List.take_zero, List.drop_succ_cons, List.drop_zero, putAll, Act.put, List.setIfInBounds_toArray, List.set_cons_succ, List.set_cons_zero]
                      rw [e7]
                      have HB8 := hid B8
                      have HK := hid h7
                      clear B8 h7 e7
                      go_wp2_with ((with_reducible refine at_list' ?_); first
                        | (refine wpList_store_c Tryz.ty43 rfl (.tmp 2) (.tmp 123) rfl (w.heap.size + 1) (valL 0 (zeros 32) nilS (.slice (some ⟨b, 0, none⟩) 8 8)) rfl rfl rfl (valL_oneC _ _ _ _ trivial trivial) _ H8v rfl ?_; intro w9 H9 O9))
                      refine bodyPost_ret (results_c1 Tryz.ty43 rfl _ w9 (w.heap.size + 1) _ rfl H9 rfl) rfl ⟨_, rfl, ⟨nilS, _, rfl, ?_⟩, below_only HB8.out O9 (by omega)⟩
                      have hk := HK.out
                      have hv := vIn_all (P := P1) (ks := [.mk 0 ra [] [], etU ed ec, .mk 0 gr [] [], .mk 0 (zeros 32) [] Xs1, .mk 0 (zeros 32) [] Xs2, .mk 0 (zeros 32) [] Xs3, .mk 0 (zeros 32) [] Xs4, .mk 0 (zeros 32) [] Xs5]) rfl (show 8 ≤ maxLen by decide) hk
                      exact (hv.put O9 (fun b hb e => by have := HPV.out b hb; omega)).mono (fun b hb => by rw [← hP1.out] at hb; exact hb.1)
end Go.Proofs.YtbmcmabimfoknaaGreatDoor
