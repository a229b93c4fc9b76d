/- Own texts of the proof, joined: DecVl Val6 Va6Validator Bits5 KdVl LenB TkLe Vl5 OpenVl. -/
import Derived.Test.YtfocalbfefnbnaaH2
import Derived.ProofKit
import Derived.OpenShut
import Derived.ShutString
import Derived.ChangeOld
import Derived.Deep.Slices
import Derived.SevenTiedAt
import Derived.Stop.Joined
/- Validators taken: answer, decode, ToValidator. -/
namespace Go.Proofs.Ytfocalbfefnbnaa
open Go.RowKit Go.Shelf
set_option linter.unusedVariables false
set_option maxRecDepth 100000

def vlZ : List Value := vlC (zeros 32) (zeros 32) 0 false 0 0 0 0
theorem vlZ_length : vlZ.length = 70 := rfl
theorem vlZ_one : vlZ.toArray.all (·.oneCell') = true := by kernel_rfl
/-- What a good or a bad Validator answers. -/
def vlA (t : Bool) (C : List Value) : Value := .tuple #[.agg (if t then C else vlZ).toArray, .int .i64 (if t then 0 else 3)]
theorem vlA_form (t : Bool) (C : List Value) (hl : C.length = 70) (h1 : C.toArray.all (·.oneCell') = true) : ∃ (C' : List Value) (n : Int), vlA t C = .tuple #[.agg C'.toArray, .int .i64 n] ∧ C'.length = 70 ∧ C'.toArray.all (·.oneCell') = true := by
  cases t
  · exact ⟨vlZ, 3, rfl, vlZ_length, vlZ_one⟩
  · exact ⟨C, 0, rfl, hl, h1⟩
/-- Whether these are a Validator's bytes. -/
def okVl (bs : List Nat) : Bool := decide (bs.length = 105) && decide (tk ((bs.drop 72).take 1) ≤ 1)
/-- What ToValidator answers. -/
def vlD (bs : List Nat) : Value := if okVl bs = true then vlA true (vlTake bs 105 (0, false)) else vlA false []

set_option maxHeartbeats 1000000 in
theorem answerVl_any (C : List Value) (t : Bool) (w : World) (hl : C.length = 70) (h1 : C.toArray.all (·.oneCell') = true) :
    Calls Try.prog 55 #[.agg C.toArray, .bool t] w fun x w' => x = .returned (vlA t C) ∧ Below w.heap.size w w' := by
  have HL := hid hl
  have H1C := hid h1
  clear hl h1
  cases t with
  | true =>
    go_enter Try.func55, Try.ntmps55
    go_wp2_with (first
      | (refine wpList_box_c rfl 2 rfl (.tmp 0) rfl C rfl ?_; intro w1 H1 B1 S1)
      | (refine wpList_alloc_c Try.ty26 rfl 4 rfl rfl ?_; intro w2 H2 B2 S2; rw [S1] at H2 S2; rw [S1])
      | (refine wpList_load_c Try.ty26 rfl (.tmp 2) rfl w.heap.size C rfl (by rw [HL.out]; rfl) (H1.keep B2) ?_)
      | (refine wpList_store_c Try.ty26 rfl (.tmp 4) (.tmp 10) rfl (w.heap.size + 1) C rfl rfl (by rw [HL.out]; rfl) H1C.out _ H2 rfl ?_; intro w3 H3 O3))
    refine bodyPost_ret (results_c Try.ty26 rfl _ w3 (w.heap.size + 1) C (.int .i64 0) rfl rfl H3 (by rw [HL.out]; rfl)) rfl ⟨rfl, ?_⟩
    exact below_only (B1.trans (B2.mono (by omega))) O3 (by omega)
  | false =>
    go_enter Try.func55, Try.ntmps55
    go_wp2_with (first
      | (refine wpList_box_c rfl 2 rfl (.tmp 0) rfl C rfl ?_; intro w1 H1 B1 S1)
      | (refine wpList_alloc_c Try.ty26 rfl 4 rfl rfl ?_; intro w2 H2 B2 S2; rw [S1] at H2 S2; rw [S1])
      | (refine wpList_alloc_c Try.ty26 rfl 6 rfl rfl ?_; intro w4 H4 B4 S4; rw [S2] at H4 S4; rw [S2])
      | (refine wpList_load_c Try.ty26 rfl (.tmp 6) rfl (w.heap.size + 1 + 1) vlZ rfl rfl H4 ?_)
      | (refine wpList_store_c Try.ty26 rfl (.tmp 4) (.tmp 9) rfl (w.heap.size + 1) vlZ rfl rfl rfl vlZ_one _ (H2.keep B4) rfl ?_; intro w3 H3 O3))
    refine bodyPost_ret (results_c Try.ty26 rfl _ w3 (w.heap.size + 1) vlZ (.int .i64 3) rfl rfl H3 rfl) rfl ⟨rfl, ?_⟩
    exact below_only (B1.trans ((B2.mono (by omega)).trans (B4.mono (by omega)))) O3 (by omega)

theorem partsVl {g : Nat} {S : Nat → Prop} {bs : List Nat} (w : World) (h : Rd w g S bs 105 (vlS bs 105 (0, decide (bs.length < 105))).1 [] (vlS bs 105 (0, decide (bs.length < 105))).2) (hl : bs.length ≤ 140737488355328) :
    Calls Try.prog 37 #[.pointer (some ⟨g, 0, none⟩)] w fun e w' => ∃ u, e = .returned (.tuple #[u, .bool (okVl bs)]) ∧ Below w.heap.size w w' := by
  by_cases hlt : bs.length < 105
  · have h1 : decide (bs.length < 105) = true := by simp [hlt]
    have h2 : okVl bs = false := by unfold okVl; rw [show decide (bs.length = 105) = false by simp; omega]; rfl
    rw [h1] at h
    rw [h2]
    refine (parts_bad w h (.inl rfl) (by decide) hl (by simp)).mono ?_
    rintro e w' ⟨rfl, n, rfl⟩
    exact ⟨_, rfl, below_drew0 (Below.refl _ _) n⟩
  · have h1 : decide (bs.length < 105) = false := by simp; omega
    rw [h1] at h
    have e : vlS bs 105 (0, false) = fixS 105 8 (fixS 105 8 (fixS 105 8 (fixS 105 8 (73, decide (1 < tk ((bs.drop 72).take 1)))))) := rfl
    rw [e] at h
    by_cases hb : 1 < tk ((bs.drop 72).take 1)
    · rw [show decide (1 < tk ((bs.drop 72).take 1)) = true by simp [hb]] at h
      have h2 : okVl bs = false := by unfold okVl; rw [show decide (tk ((bs.drop 72).take 1) ≤ 1) = false by simp; omega, Bool.and_false]
      rw [h2]
      have h3 : Rd w g S bs 105 73 [] true := h
      refine (parts_bad w h3 (.inl rfl) (by decide) hl (by simp)).mono ?_
      rintro e w' ⟨rfl, n, rfl⟩
      exact ⟨_, rfl, below_drew0 (Below.refl _ _) n⟩
    · rw [show decide (1 < tk ((bs.drop 72).take 1)) = false by simp; omega] at h
      have h3 : Rd w g S bs 105 105 [] false := h
      have h4 : okVl bs = decide (bs.length = 105) := by unfold okVl; rw [show decide (tk ((bs.drop 72).take 1) ≤ 1) = true by simp; omega, Bool.and_true]
      rw [h4]
      by_cases heq : bs.length = 105
      · rw [show decide (bs.length = 105) = true by simp [heq]]
        refine (parts_ok w h3 (fun _ => heq) (fun i hi => by simp at hi) (by decide) hl (by simp)).mono ?_
        rintro e w' ⟨u, rfl, _, hb⟩
        exact ⟨u, rfl, hb⟩
      · rw [show decide (bs.length = 105) = false by simp [heq]]
        refine (parts_bad w h3 (.inr (.inr ⟨rfl, heq⟩)) (by decide) hl (by simp)).mono ?_
        rintro e w' ⟨rfl, n, rfl⟩
        exact ⟨_, rfl, below_drew0 (Below.refl _ _) n⟩

theorem vl_ans (bs : List Nat) (C : List Value) (h : vlTake bs 105 (0, decide (bs.length < 105)) = C) : vlA (okVl bs) C = vlD bs := by
  unfold vlD
  by_cases ho : okVl bs = true
  · have hl : bs.length = 105 := by
      have := ho
      unfold okVl at this
      simp only [Bool.and_eq_true, decide_eq_true_eq] at this
      exact this.1
    rw [if_pos ho, ← h, show decide (bs.length < 105) = false by simp; omega, ho]
  · rw [if_neg ho, show okVl bs = false by simpa using ho]
    rfl

set_option maxHeartbeats 1000000 in
theorem decodeVl_any (v : Value) (bs : List Nat) (w : World) (hB : IsB w v bs) (hl : bs.length ≤ 140737488355328) :
    Calls Try.prog 20 #[v, .int .i64 105, .func (.func 21) #[] #[]] w fun x w' => x = .returned (vlD bs) ∧ Below w.heap.size w w' := by
  have HI := hid hB
  obtain ⟨⟨ao, cap, rfl, _⟩, _⟩ := hB
  go_enter Try.func20, Try.ntmps20
  go_wp2_with ((with_reducible refine at_list' ?_); first
    | (refine wpList_alloc_c Try.ty26 rfl 6 rfl rfl ?_; intro w1 H1 B1 S1))
  have HC := hid (read_any _ bs 105 w1 (HI.out.keep B1) (by decide) hl)
  have HH1 := hid H1
  have HB1 := hid B1
  have s1 := S1
  clear H1 B1 S1 HI
  refine HC.out.mono ?_
  rintro e w2 ⟨g, S, hg, rfl, q1, q2, q3⟩
  have HT := hid (takeVl_any (0, decide (bs.length < 105)) w2 q1 (by decide) hl)
  have HH2 := hid (HH1.out.keep q3)
  have HB2 := hid (HB1.out.trans (q3.mono (by omega)))
  have s2 := q3.size
  have hgl := q1.gt
  clear q1 q2 q3 HC HH1 HB1
  go_wp2_with fail
  refine HT.out.mono ?_
  rintro e w3 ⟨rfl, h32, h33, q1, q2⟩
  have HH3 := hid (HH2.out.grown q2 (by omega))
  have s3 := q2.size
  have HB3 : Hid (Below w.heap.size w w3) := hid ⟨q2.os.trans HB2.out.os, q2.tape.trans HB2.out.tape, q2.output.trans HB2.out.output, by omega, fun j hj => (q2.block j (by omega) (fun h => by have := Option.some.inj h; omega)).trans (HB2.out.block j hj)⟩
  have HR := hid q1
  have H32 := hid h32
  have H33 := hid h33
  clear q1 q2 h32 h33 HT HH2 HB2
  obtain ⟨E, hE⟩ : ∃ E, vlTake bs 105 (0, decide (bs.length < 105)) = E := ⟨_, rfl⟩
  rw [hE] at H32 H33
  rw [hE]
  have HE := hid hE
  clear hE
  go_wp2_with ((with_reducible refine at_list' ?_); first
    | (refine wpList_alloc_c Try.ty26 rfl 9 rfl rfl ?_; intro w4 H4 B4 S4)
    | (refine wpList_store_c Try.ty26 rfl (.tmp 9) (.tmp 17) rfl w3.heap.size (E) rfl rfl (by rw [H32.out]; rfl) H33.out _ H4 rfl ?_; intro w5 H5 O5))
  have s5 := O5.size
  have B35 : Below w3.heap.size w3 w5 := below_only B4 O5 (Nat.le_refl _)
  have HP := hid (partsVl w5 (HR.out.below B35) hl)
  have HB5 := hid (HB3.out.trans (B35.mono (by omega)))
  have HH5 := hid (HH3.out.keep B35)
  have HX5 := hid H5
  have HA := hid (vl_ans bs E HE.out)
  clear H4 B4 O5 H5 B35 HR HB3 HH3 HE
  refine HP.out.mono ?_
  rintro e w6 ⟨u, rfl, B6⟩
  have HB6 := hid (HB5.out.trans (B6.mono (by omega)))
  have HH6 := hid (HH5.out.keep B6)
  have HX6 := hid (HX5.out.keep B6)
  have s6 := B6.size
  clear B6 HP HB5 HH5 HX5
  obtain ⟨t, ht⟩ : ∃ t, okVl bs = t := ⟨_, rfl⟩
  rw [ht]
  rw [ht] at HA
  obtain ⟨C, n, hC, hCl, hC1⟩ := vlA_form t E H32.out H33.out
  have HC := hid hC
  have HCl := hid hCl
  have HC1 := hid hC1
  clear ht hC hCl hC1
  go_wp2_with ((with_reducible refine at_list' ?_); first
    | (refine wpList_load_c Try.ty26 rfl (.tmp 9) rfl w3.heap.size (E) rfl (by rw [H32.out]; rfl) HX6.out ?_))
  have HN := hid (answerVl_any E t w6 H32.out H33.out)
  rw [HC.out] at HN
  refine HN.out.mono ?_
  rintro e w7 ⟨rfl, B7⟩
  have HB7 := hid (HB6.out.trans (B7.mono (by omega)))
  have HH7 := hid (HH6.out.keep B7)
  have s7 := B7.size
  clear B7 HB6 HH6 HN HX6
  go_wp2_with ((with_reducible refine at_list' ?_); first
    | (refine wpList_store_c Try.ty26 rfl (.tmp 6) (.tmp 26) rfl w.heap.size C rfl rfl (by rw [HCl.out]; rfl) HC1.out _ HH7.out rfl ?_; intro w8 H8 O8))
  refine bodyPost_ret (results_c Try.ty26 rfl _ w8 w.heap.size C (.int .i64 n) rfl rfl H8 (by rw [HCl.out]; rfl)) rfl ⟨?_, below_only HB7.out O8 (Nat.le_refl _)⟩
  rw [← HC.out, HA.out]

set_option maxHeartbeats 1000000 in
theorem toVl_any (v : Value) (bs : List Nat) (w : World) (hB : IsB w v bs) (hl : bs.length ≤ 140737488355328) :
    Calls Try.prog 7 #[v] w fun x w' => x = .returned (vlD bs) ∧ Below w.heap.size w w' := by
  have HI := hid hB
  obtain ⟨⟨ao, cap, rfl, _⟩, _⟩ := hB
  obtain ⟨C, n, hC, hCl, hC1⟩ : ∃ (C : List Value) (n : Int), vlD bs = .tuple #[.agg C.toArray, .int .i64 n] ∧ C.length = 70 ∧ C.toArray.all (·.oneCell') = true := by
    rw [← vl_ans bs _ rfl]
    obtain ⟨h1, h2⟩ := vlTake_len bs 105 (0, decide (bs.length < 105)) (Nat.zero_le _) (fun h => by simpa using h)
    exact vlA_form _ _ h1 h2
  have HC := hid hC
  have HCl := hid hCl
  have HC1 := hid hC1
  rw [hC]
  clear hC hCl hC1
  go_enter Try.func7, Try.ntmps7
  go_wp2_with ((with_reducible refine at_list' ?_); first
    | (refine wpList_alloc_c Try.ty26 rfl 2 rfl rfl ?_; intro w1 H1 B1 S1))
  have HN := hid (decodeVl_any _ bs w1 (HI.out.keep B1) hl)
  rw [HC.out] at HN
  have HH := hid H1
  have HB := hid B1
  have s1 := S1
  clear H1 B1 S1 HI
  refine HN.out.mono ?_
  rintro e w7 ⟨rfl, B7⟩
  have HB7 := hid (HB.out.trans (B7.mono (by omega)))
  have HH7 := hid (HH.out.keep B7)
  have s7 := B7.size
  clear B7 HN HH HB
  go_wp2_with ((with_reducible refine at_list' ?_); first
    | (refine wpList_store_c Try.ty26 rfl (.tmp 2) (.tmp 6) rfl w.heap.size C rfl rfl (by rw [HCl.out]; rfl) HC1.out _ HH7.out rfl ?_; intro w8 H8 O8))
  refine bodyPost_ret (results_c Try.ty26 rfl _ w8 w.heap.size C (.int .i64 n) rfl rfl H8 (by rw [HCl.out]; rfl)) rfl ⟨rfl, below_only HB7.out O8 (Nat.le_refl _)⟩
end Go.Proofs.Ytfocalbfefnbnaa

/- Values of structs, as parts. -/
namespace Go.Proofs.Ytfocalbfefnbnaa
open Go.RowKit Go.Shelf
set_option linter.unusedVariables false
set_option linter.unusedSimpArgs false
set_option maxRecDepth 100000

structure Rt6 (r : List Nat) : Prop where
  len : r.length = 32
  byte : ∀ z ∈ r, z < 256
/-- A part of a struct lies where the parts before it end. -/
theorem seg {ps : List (List Value)} {i : Nat} {c : List Value} {off : Nat} (hc : ps[i]? = some c) (ho : (ps.take i).flatten.length = off) (j : Nat) (v : Value) (h : c[j]? = some v) : ps.flatten[off + j]? = some v := by
  have hi : i < ps.length := (List.getElem?_eq_some_iff.1 hc).1
  have hci : ps[i] = c := by rw [List.getElem?_eq_getElem hi] at hc; exact Option.some.inj hc
  have hps : ps = ps.take i ++ (c :: ps.drop (i + 1)) := by rw [← hci, ← List.drop_eq_getElem_cons hi, List.take_append_drop]
  have hj : j < c.length := (List.getElem?_eq_some_iff.1 h).1
  rw [hps, List.flatten_append, List.flatten_cons, ← ho, List.getElem?_append_right (by omega), Nat.add_sub_cancel_left, List.getElem?_append_left hj]
  exact h
/-- The cells of a row of values. -/
def rowV : List (Vt × Value × Value) → List (List Value)
  | [] => []
  | x :: r => valL x.1.num x.1.root x.2.1 x.2.2 :: rowV r
theorem ksAt_of {w : World} {b : Nat} {t : TypeId} {cs : List Value} (hg : HasC w b t cs) : ∀ (xs : List (Vt × Value × Value)) (off : Nat), (∀ (j : Nat) (v : Value), (rowV xs).flatten[j]? = some v → cs[off + j]? = some v) → (∀ x ∈ xs, VAt w x.1 x.2.1 x.2.2) → KsAt w (xs.map (·.1)) b off := by
  intro xs
  induction xs with
  | nil => intro off _ _; rw [List.map_nil, KsAt]; exact trivial
  | cons x xs ih =>
    intro off h hv
    have hx := hv x (List.mem_cons_self ..)
    have hrl : x.1.root.length = 32 := by
      have h2 := hx
      obtain ⟨y, sb, sk⟩ := x
      cases y
      rw [VAt] at h2
      exact h2.1.2.1
    have hl := valL_length x.1.num x.1.root x.2.1 x.2.2 hrl
    rw [List.map_cons, KsAt]
    refine ⟨⟨x.2.1, x.2.2, hg.range off _ (fun j v hj => h j v ?_), hx⟩, ih (off + 35) (fun j v hj => ?_) (fun y hy => hv y (List.mem_cons_of_mem _ hy))⟩
    · have hjl : j < (valL x.1.num x.1.root x.2.1 x.2.2).length := (List.getElem?_eq_some_iff.1 hj).1
      rw [rowV, List.flatten_cons, List.getElem?_append_left hjl]; exact hj
    · have := h (35 + j) v (by rw [rowV, List.flatten_cons, List.getElem?_append_right (by omega), hl, Nat.add_sub_cancel_left]; exact hj)
      rw [Nat.add_assoc]; exact this
mutual
/-- No lone part. -/
def wide : Vt → Prop
  | .mk _ _ _ ks => ks.length ≠ 1 ∧ wideK ks
def wideK : List Vt → Prop
  | [] => True
  | x :: r => wide x ∧ wideK r
end
theorem zero_nobool : ∀ (j : Nat) (b : Bool), (valL 0 (zeros 32) nilS nilS)[j]? ≠ some (.bool b) := by
  intro j b h
  have hm := List.mem_of_getElem? h
  simp [valL, cellsB] at hm
mutual
/-- A store into a block of one value leaves such a value as it is. -/
theorem VAt.aside {w w' : World} {g : Nat} {t : TypeId} (hg : HasC w g t (valL 0 (zeros 32) nilS nilS)) (hl : (valL 0 (zeros 32) nilS nilS).length = 35) (ho : Only g w w') : ∀ (x : Vt) {sb sk : Value}, wide x → VAt w x sb sk → VAt w' x sb sk
  | .mk n r bs ks, sb, sk, hw, h => by
    rw [wide] at hw
    obtain ⟨h1, hk⟩ := hw
    rw [VAt] at h ⊢
    obtain ⟨h0, ⟨ao, cap, e, e1, e2, e3⟩, ao', cap', h2, h3, h4, h5⟩ := h
    have e4 : bs.length = 0 ∨ ∃ b off, ao = some ⟨b, off, none⟩ ∧ ∀ i, i < bs.length → w'.cell? ⟨b, off + i, none⟩ = some (.bool (bs.getD i false)) := by
      rcases e3 with e3 | ⟨b, off, e4, e5⟩
      · exact .inl e3
      · by_cases hz : bs.length = 0
        · exact .inl hz
        · refine .inr ⟨b, off, e4, fun i hi => (World.cell?_of_block (a := ⟨b, off + i, none⟩) (ho.block b (fun eb => ?_))).trans (e5 i hi)⟩
          subst eb
          have h5 := e5 0 (by omega)
          rw [cell_of_row w b _ _ _ (0, 0) hg] at h5
          exact zero_nobool _ _ (by simpa using h5)
    refine ⟨h0, ⟨ao, cap, e, e1, e2, e4⟩, ao', cap', h2, h3, h4, ?_⟩
    rcases h5 with h5 | ⟨b, off, h6, h7⟩
    · exact .inl h5
    · by_cases hz : ks.length = 0
      · exact .inl hz
      · refine .inr ⟨b, off, h6, KsAt.aside hg hl ho ks hk ?_ h7⟩
        intro eb
        subst eb
        have hx : ks[1]? = some ks[1] := List.getElem?_eq_getElem (by omega)
        obtain ⟨sb', sk', hr, hv⟩ := KsAt.get h7 hx
        have := hr 0 _ (valL_0 _ _ _ _)
        rw [cell_of_row w b _ _ _ (0, 0) hg] at this
        have := (Array.getElem?_eq_some_iff.1 this).1
        simp at this
        omega
theorem KsAt.aside {w w' : World} {g : Nat} {t : TypeId} (hg : HasC w g t (valL 0 (zeros 32) nilS nilS)) (hl : (valL 0 (zeros 32) nilS nilS).length = 35) (ho : Only g w w') : ∀ (l : List Vt) {b off : Nat}, wideK l → b ≠ g → KsAt w l b off → KsAt w' l b off
  | [], b, off, _, _, _ => by rw [KsAt]; exact trivial
  | x :: rest, b, off, hw, hb, h => by
    rw [wideK] at hw
    rw [KsAt] at h ⊢
    obtain ⟨⟨sb, sk, h1, h2⟩, h3⟩ := h
    exact ⟨⟨sb, sk, fun j v hj => (World.cell?_of_block (a := ⟨b, off + j, none⟩) (ho.block b hb)).trans (h1 j v hj), VAt.aside hg hl ho x hw.1 h2⟩, KsAt.aside hg hl ho rest hw.2 hb h3⟩
end
/-- A value of parts. -/
theorem isV_all {w : World} {b k : Nat} {ks : List Vt} (hk : ks.length = k) (hm : k ≤ maxLen) (h : KsAt w ks b 0) : VAt w (.mk 0 (zeros 32) [] ks) nilS (.slice (some ⟨b, 0, none⟩) k k) := by
  subst hk
  rw [VAt]
  exact ⟨⟨by decide, zeros32, zeros_byte 32⟩, isT_nil w, some ⟨b, 0, none⟩, ks.length, rfl, Nat.le_refl _, hm, .inr ⟨b, 0, rfl, h⟩⟩
theorem IsV.bits {w : World} {ao : Option Addr} {c : Nat} {l : List Bool} (h : IsT w (.slice ao l.length c) l) : IsV w (.agg (valL 0 (zeros 32) (.slice ao l.length c) nilS).toArray) (.mk 0 (zeros 32) l []) := by
  refine ⟨_, nilS, rfl, ?_⟩
  rw [VAt]
  exact ⟨⟨by decide, zeros32, zeros_byte 32⟩, h, none, 0, rfl, Nat.le_refl _, by decide, .inl rfl⟩
theorem IsV.leaf (w : World) {n : Nat} {r : List Nat} (hn : n < 18446744073709551616) (hr : r.length = 32) (h8 : ∀ z ∈ r, z < 256) : IsV w (.agg (valL n r nilS nilS).toArray) (.mk n r [] []) := ⟨nilS, nilS, rfl, vAt_leaf w hn hr h8⟩
/-- A slice of structs, made, in a flow. -/
theorem flow_rowsB {P : Program} {o : Oper} {a : Act} {w : World} {Q : Exit → Act → World → Prop} {I : Value → World → Prop} (t e : TypeId) (n sz : Nat) (ps : Array (Nat × Operand)) (ho : o.op = .buildSlice t n ps) (hu : P.underlying t = some (.slice e)) (hi : (P.info? e).map (fun i => (i.zero.isSome, i.size)) = some (true, sz))
    (vs : List (List Value)) (xs : List Operand) (hps : ps.toList = (xs.zipIdx 0).map fun p => (p.2, p.1)) (hx0 : xs.map a.eval = vs.map fun c => Value.agg c.toArray) (hc : ∀ c ∈ vs, c.length = sz) (hn : vs.length = n) (hn0 : 0 < n) (hs0 : 0 < sz) (hn1 : n * sz ≤ 16777216)
    (h : ∀ w', HasC w' w.heap.size e vs.flatten → Below w.heap.size w w' → I (.slice (some ⟨w.heap.size, 0, none⟩) n n) w') : o.wp P a w (fun a' w' => ∃ v, a' = a.put o.dst v ∧ I v w' ∧ Below w.heap.size w w') Q := by
  have hx : (ps.map fun (i, x) => (i, a.eval x)).toList = (vs.zipIdx 0).map fun p => (p.2, Value.agg p.1.toArray) := by
    have e1 : ((xs.map a.eval).zipIdx 0).map (fun p => (p.2, p.1)) = ((vs.map fun c => Value.agg c.toArray).zipIdx 0).map (fun p => (p.2, p.1)) := by rw [hx0]
    rw [List.zipIdx_map, List.zipIdx_map, List.map_map, List.map_map] at e1
    rw [Array.toList_map, hps, List.map_map]
    exact e1
  cases hq : P.info? e with
  | none => rw [hq] at hi; cases hi
  | some ie =>
    rw [hq] at hi
    simp only [Option.map_some, Option.some.injEq, Prod.mk.injEq] at hi
    obtain ⟨z, hz⟩ := Option.isSome_iff_exists.1 hi.1
    refine wp_buildSlice t e n ps ho vs.flatten.toArray ie z hu hq hz (by rw [hi.2]; omega) (by rw [hi.2]; have := Nat.mul_pos hn0 hs0; omega) ?_ ⟨_, rfl, h _ (heap_alloc_new w _) ((Below.refl _ w).alloc (Nat.le_refl _) _), (Below.refl _ w).alloc (Nat.le_refl _) _⟩
    rw [hx, hi.2]
    have hfl := flatten_rows sz vs hc
    have hf := fill_out (fun i => some (i * sz, sz)) ((vs.zipIdx 0).map fun p => (p.2, Value.agg p.1.toArray)) 0 ((Array.range (n * sz)).map (z.cells[· % z.cells.size]!)).toList (by have := partsAt_rows sz vs 0 hc; rw [Nat.zero_mul] at this; exact this) (by rw [outC_rows, hfl, hn]; simp)
    rw [outC_rows, List.take_zero, List.nil_append, Nat.zero_add, List.drop_of_length_le (by rw [hfl, hn]; simp), List.append_nil] at hf
    exact hf
/-- A part of a part. -/
theorem seg2 {ps qs : List (List Value)} {i k : Nat} {c : List Value} {off o2 tot : Nat} (hc : ps[i]? = some qs.flatten) (ho : (ps.take i).flatten.length = off) (hc2 : qs[k]? = some c) (ho2 : (qs.take k).flatten.length = o2) (ht : off + o2 = tot) (j : Nat) (v : Value) (h : c[j]? = some v) : ps.flatten[tot + j]? = some v := by
  have := seg hc ho (o2 + j) v (seg hc2 ho2 j v h)
  rw [← Nat.add_assoc, ht] at this
  exact this
end Go.Proofs.Ytfocalbfefnbnaa

/- The document's value of a struct (Validator). -/
namespace Go.Proofs.Ytfocalbfefnbnaa
open Go.RowKit Go.Shelf
set_option linter.unusedVariables false
set_option linter.unusedSimpArgs false
set_option maxRecDepth 100000

def vaP6 (zk : List Nat) (zcr : List Nat) (zef : Nat) (zsl : Bool) (zel : Nat) (zac : Nat) (zxi : Nat) (zwi : Nat) : List (List Value) := [cellsB zk, cellsB zcr, [.int .u64 (zef : Nat)], [.bool zsl], [.int .u64 (zel : Nat)], [.int .u64 (zac : Nat)], [.int .u64 (zxi : Nat)], [.int .u64 (zwi : Nat)]]
def vaC6 (zk : List Nat) (zcr : List Nat) (zef : Nat) (zsl : Bool) (zel : Nat) (zac : Nat) (zxi : Nat) (zwi : Nat) : List Value := (vaP6 zk zcr zef zsl zel zac zxi zwi).flatten
theorem vaC6_length (zk : List Nat) (zcr : List Nat) (zef : Nat) (zsl : Bool) (zel : Nat) (zac : Nat) (zxi : Nat) (zwi : Nat) (hzk : zk.length = 32) (hzcr : zcr.length = 32) : (vaC6 zk zcr zef zsl zel zac zxi zwi).length = 70 := by simp [vaC6, vaP6, cellsB_length, hzk, hzcr]
def bitN01 (b : Bool) : Nat := if b then 1 else 0
theorem bitN01_lt (b : Bool) : bitN01 b < 18446744073709551616 := by cases b <;> decide
def vaV6 (zk : List Nat) (zcr : List Nat) (zef : Nat) (zsl : Bool) (zel : Nat) (zac : Nat) (zxi : Nat) (zwi : Nat) : Vt := .mk 0 (zeros 32) [] [.mk 0 zk [] [], .mk 0 zcr [] [], .mk zef (zeros 32) [] [], .mk (bitN01 zsl) (zeros 32) [] [], .mk zel (zeros 32) [] [], .mk zac (zeros 32) [] [], .mk zxi (zeros 32) [] [], .mk zwi (zeros 32) [] []]
theorem vaV6_wide (zk : List Nat) (zcr : List Nat) (zef : Nat) (zsl : Bool) (zel : Nat) (zac : Nat) (zxi : Nat) (zwi : Nat) : wide (vaV6 zk zcr zef zsl zel zac zxi zwi) := by simp [vaV6, wide, wideK]
set_option maxHeartbeats 2000000 in
theorem vaV6_any (zk : List Nat) (zcr : List Nat) (zef : Nat) (zsl : Bool) (zel : Nat) (zac : Nat) (zxi : Nat) (zwi : Nat) (hzk : Rt6 zk) (hzcr : Rt6 zcr) (hzef : zef < 18446744073709551616) (hzel : zel < 18446744073709551616) (hzac : zac < 18446744073709551616) (hzxi : zxi < 18446744073709551616) (hzwi : zwi < 18446744073709551616) (w : World) : Calls Try.prog 5 #[.agg (vaC6 zk zcr zef zsl zel zac zxi zwi).toArray] w fun x w' => ∃ v, x = .returned v ∧ IsV w' v (vaV6 zk zcr zef zsl zel zac zxi zwi) ∧ Below w.heap.size w w' := by
  cases zsl
  · go_enter Try.func5, Try.ntmps5
    go_wp2_with ((with_reducible refine at_list' ?_); first
      | (refine wpList_box_c rfl 1 rfl (.tmp 0) rfl (vaC6 zk zcr zef false zel zac zxi zwi) rfl ?_; intro w1 H1 B1 S1)
      | (refine wpList_alloc_c Try.ty31 rfl 2 rfl rfl ?_; intro w2 H2 B2 S2; rw [S1] at H2 S2; rw [S1]; have hsl := (H1.keep B2).cell (j := 65) (v := .bool false) (seg (ps := vaP6 zk zcr zef false zel zac zxi zwi) (i := 3) (off := 65) rfl (by simp [vaP6, cellsB_length, hzk.len, hzcr.len]) 0 _ rfl)))
    have HX := hid (H1.keep B2)
    have HY := hid H2
    have HB := hid (B1.trans (B2.mono (by omega)))
    have s2 : w2.heap.size = w.heap.size + 2 := by omega
    clear H1 B1 S1 H2 B2 S2
    try simp only [Act.put, List.setIfInBounds_toArray, List.set_cons_succ, List.set_cons_zero]
    refine wp_region_flow 25 25 (fun i v wq => match i with
      | 0 => v = .pointer (some ⟨w.heap.size, 0, none⟩)
      | 1 => v = .agg (nums .u8 zk)
      | 2 => IsV wq v (.mk 0 zk [] [])
      | 3 => v = .pointer (some ⟨w.heap.size, 32, none⟩)
      | 4 => v = .agg (nums .u8 zcr)
      | 5 => IsV wq v (.mk 0 zcr [] [])
      | 6 => v = .pointer (some ⟨w.heap.size, 64, none⟩)
      | 7 => v = .int .u64 (zef : Nat)
      | 8 => IsV wq v (.mk zef (zeros 32) [] [])
      | 9 => v = .int .u64 (bitN01 false : Nat)
      | 10 => IsV wq v (.mk (bitN01 false) (zeros 32) [] [])
      | 11 => v = .pointer (some ⟨w.heap.size, 66, none⟩)
      | 12 => v = .int .u64 (zel : Nat)
      | 13 => IsV wq v (.mk zel (zeros 32) [] [])
      | 14 => v = .pointer (some ⟨w.heap.size, 67, none⟩)
      | 15 => v = .int .u64 (zac : Nat)
      | 16 => IsV wq v (.mk zac (zeros 32) [] [])
      | 17 => v = .pointer (some ⟨w.heap.size, 68, none⟩)
      | 18 => v = .int .u64 (zxi : Nat)
      | 19 => IsV wq v (.mk zxi (zeros 32) [] [])
      | 20 => v = .pointer (some ⟨w.heap.size, 69, none⟩)
      | 21 => v = .int .u64 (zwi : Nat)
      | 22 => IsV wq v (.mk zwi (zeros 32) [] [])
      | 23 => ∃ b, v = .slice (some ⟨b, 0, none⟩) 8 8 ∧ KsAt wq [.mk 0 zk [] [], .mk 0 zcr [] [], .mk zef (zeros 32) [] [], .mk (bitN01 false) (zeros 32) [] [], .mk zel (zeros 32) [] [], .mk zac (zeros 32) [] [], .mk zxi (zeros 32) [] [], .mk zwi (zeros 32) [] []] b 0
      | _ => ∃ b, v = .agg (valL 0 (zeros 32) nilS (.slice (some ⟨b, 0, none⟩) 8 8)).toArray ∧ KsAt wq [.mk 0 zk [] [], .mk 0 zcr [] [], .mk zef (zeros 32) [] [], .mk (bitN01 false) (zeros 32) [] [], .mk zel (zeros 32) [] [], .mk zac (zeros 32) [] [], .mk zxi (zeros 32) [] [], .mk zwi (zeros 32) [] []] b 0) (by kernel_rfl) (by kernel_rfl) (fun _ d _ _ _ h => by cases d <;> exact h) ?_ ?_ ?_ ?_
    · intro i v wq wq' hi hv hb
      match i, hi with
      | 0, _ => exact hv
      | 1, _ => exact hv
      | 2, _ => exact hv.keep hb
      | 3, _ => exact hv
      | 4, _ => exact hv
      | 5, _ => exact hv.keep hb
      | 6, _ => exact hv
      | 7, _ => exact hv
      | 8, _ => exact hv.keep hb
      | 9, _ => exact hv
      | 10, _ => exact hv.keep hb
      | 11, _ => exact hv
      | 12, _ => exact hv
      | 13, _ => exact hv.keep hb
      | 14, _ => exact hv
      | 15, _ => exact hv
      | 16, _ => exact hv.keep hb
      | 17, _ => exact hv
      | 18, _ => exact hv
      | 19, _ => exact hv.keep hb
      | 20, _ => exact hv
      | 21, _ => exact hv
      | 22, _ => exact hv.keep hb
      | 23, _ => obtain ⟨b, h1, h2⟩ := hv; exact ⟨b, h1, KsAt.keep hb _ h2⟩
      | 24, _ => obtain ⟨b, h1, h2⟩ := hv; exact ⟨b, h1, KsAt.keep hb _ h2⟩
      | (k + 25), hk => exact absurd hk (by omega)
    · intro i o hi ho aq wq hc hk hdep
      match i, hi with
      | 0, _ =>
        cases ho
        have e1 : aq.tmps.getD 1 undef = .pointer (some ⟨w.heap.size, 0, none⟩) := hk 1 (by decide)
        exact flow_value _ (run_fieldAt 26 (.tmp 1) 0 rfl _ _ e1 (by kernel_rfl)) rfl
      | 1, _ =>
        cases ho
        have e0 : aq.tmps.getD 6 undef = .pointer (some ⟨w.heap.size, 0, none⟩) := hdep 0 6 rfl (by kernel_rfl)
        exact flow_value _ (run_mid 23 (.tmp 6) rfl w.heap.size 0 e0 (cellsB zk) ((HX.out.keep (hcB hc)).range 0 (cellsB zk) (seg (ps := vaP6 zk zcr zef false zel zac zxi zwi) (i := 0) (off := 0) rfl (by simp [vaP6, cellsB_length, hzk.len, hzcr.len]))) _ Try.und23 rfl (by rw [cellsB_length, hzk.len]; exact Try.size23)) rfl
      | 2, _ =>
        cases ho
        have e0 : aq.tmps.getD 7 undef = .agg (nums .u8 zk) := hdep 1 7 rfl (by kernel_rfl)
        refine flow_fun 16 _ _ rfl (fun _ _ => by simp [go_sem]) #[.agg (nums .u8 zk)] (by rw [show (#[Operand.tmp 7] : Array Operand).map aq.eval = #[aq.tmps.getD 7 undef] from by simp [Act.eval], e0]) ?_
        refine (r_any zk hzk.len wq).mono ?_
        rintro x w' ⟨rfl, q⟩
        exact ⟨_, rfl, IsV.leaf w' (by decide) hzk.len hzk.byte, q⟩
      | 3, _ =>
        cases ho
        have e1 : aq.tmps.getD 1 undef = .pointer (some ⟨w.heap.size, 0, none⟩) := hk 1 (by decide)
        exact flow_value _ (run_fieldAt 26 (.tmp 1) 1 rfl _ _ e1 (by kernel_rfl)) rfl
      | 4, _ =>
        cases ho
        have e0 : aq.tmps.getD 9 undef = .pointer (some ⟨w.heap.size, 32, none⟩) := hdep 3 9 rfl (by kernel_rfl)
        exact flow_value _ (run_mid 23 (.tmp 9) rfl w.heap.size 32 e0 (cellsB zcr) ((HX.out.keep (hcB hc)).range 32 (cellsB zcr) (seg (ps := vaP6 zk zcr zef false zel zac zxi zwi) (i := 1) (off := 32) rfl (by simp [vaP6, cellsB_length, hzk.len, hzcr.len]))) _ Try.und23 rfl (by rw [cellsB_length, hzcr.len]; exact Try.size23)) rfl
      | 5, _ =>
        cases ho
        have e0 : aq.tmps.getD 10 undef = .agg (nums .u8 zcr) := hdep 4 10 rfl (by kernel_rfl)
        refine flow_fun 16 _ _ rfl (fun _ _ => by simp [go_sem]) #[.agg (nums .u8 zcr)] (by rw [show (#[Operand.tmp 10] : Array Operand).map aq.eval = #[aq.tmps.getD 10 undef] from by simp [Act.eval], e0]) ?_
        refine (r_any zcr hzcr.len wq).mono ?_
        rintro x w' ⟨rfl, q⟩
        exact ⟨_, rfl, IsV.leaf w' (by decide) hzcr.len hzcr.byte, q⟩
      | 6, _ =>
        cases ho
        have e1 : aq.tmps.getD 1 undef = .pointer (some ⟨w.heap.size, 0, none⟩) := hk 1 (by decide)
        exact flow_value _ (run_fieldAt 26 (.tmp 1) 2 rfl _ _ e1 (by kernel_rfl)) rfl
      | 7, _ =>
        cases ho
        have e0 : aq.tmps.getD 12 undef = .pointer (some ⟨w.heap.size, 64, none⟩) := hdep 6 12 rfl (by kernel_rfl)
        exact flow_value _ (run_cell 24 (.tmp 12) rfl _ e0 _ ((HX.out.keep (hcB hc)).cell (seg (ps := vaP6 zk zcr zef false zel zac zxi zwi) (i := 2) (off := 64) rfl (by simp [vaP6, cellsB_length, hzk.len, hzcr.len]) 0 _ rfl)) _ Try.underlying24 rfl) rfl
      | 8, _ =>
        cases ho
        have e0 : aq.tmps.getD 13 undef = .int .u64 (zef : Nat) := hdep 7 13 rfl (by kernel_rfl)
        refine flow_fun 17 _ _ rfl (fun _ _ => by simp [go_sem]) #[.int .u64 (zef : Nat)] (by rw [show (#[Operand.tmp 13] : Array Operand).map aq.eval = #[aq.tmps.getD 13 undef] from by simp [Act.eval], e0]) ?_
        refine (n_any zef wq).mono ?_
        rintro x w' ⟨rfl, q⟩
        exact ⟨_, rfl, IsV.leaf w' hzef zeros32 (zeros_byte 32), q⟩
      | 9, _ =>
        cases ho
        exact flow_move (.tmp 3) rfl (hk 3 (by decide))
      | 10, _ =>
        cases ho
        have e0 : aq.tmps.getD 15 undef = .int .u64 (bitN01 false : Nat) := hdep 9 15 rfl (by kernel_rfl)
        refine flow_fun 17 _ _ rfl (fun _ _ => by simp [go_sem]) #[.int .u64 (bitN01 false : Nat)] (by rw [show (#[Operand.tmp 15] : Array Operand).map aq.eval = #[aq.tmps.getD 15 undef] from by simp [Act.eval], e0]) ?_
        refine (n_any (bitN01 false) wq).mono ?_
        rintro x w' ⟨rfl, q⟩
        exact ⟨_, rfl, IsV.leaf w' (bitN01_lt false) zeros32 (zeros_byte 32), q⟩
      | 11, _ =>
        cases ho
        have e1 : aq.tmps.getD 1 undef = .pointer (some ⟨w.heap.size, 0, none⟩) := hk 1 (by decide)
        exact flow_value _ (run_fieldAt 26 (.tmp 1) 4 rfl _ _ e1 (by kernel_rfl)) rfl
      | 12, _ =>
        cases ho
        have e0 : aq.tmps.getD 17 undef = .pointer (some ⟨w.heap.size, 66, none⟩) := hdep 11 17 rfl (by kernel_rfl)
        exact flow_value _ (run_cell 24 (.tmp 17) rfl _ e0 _ ((HX.out.keep (hcB hc)).cell (seg (ps := vaP6 zk zcr zef false zel zac zxi zwi) (i := 4) (off := 66) rfl (by simp [vaP6, cellsB_length, hzk.len, hzcr.len]) 0 _ rfl)) _ Try.underlying24 rfl) rfl
      | 13, _ =>
        cases ho
        have e0 : aq.tmps.getD 18 undef = .int .u64 (zel : Nat) := hdep 12 18 rfl (by kernel_rfl)
        refine flow_fun 17 _ _ rfl (fun _ _ => by simp [go_sem]) #[.int .u64 (zel : Nat)] (by rw [show (#[Operand.tmp 18] : Array Operand).map aq.eval = #[aq.tmps.getD 18 undef] from by simp [Act.eval], e0]) ?_
        refine (n_any zel wq).mono ?_
        rintro x w' ⟨rfl, q⟩
        exact ⟨_, rfl, IsV.leaf w' hzel zeros32 (zeros_byte 32), q⟩
      | 14, _ =>
        cases ho
        have e1 : aq.tmps.getD 1 undef = .pointer (some ⟨w.heap.size, 0, none⟩) := hk 1 (by decide)
        exact flow_value _ (run_fieldAt 26 (.tmp 1) 5 rfl _ _ e1 (by kernel_rfl)) rfl
      | 15, _ =>
        cases ho
        have e0 : aq.tmps.getD 20 undef = .pointer (some ⟨w.heap.size, 67, none⟩) := hdep 14 20 rfl (by kernel_rfl)
        exact flow_value _ (run_cell 24 (.tmp 20) rfl _ e0 _ ((HX.out.keep (hcB hc)).cell (seg (ps := vaP6 zk zcr zef false zel zac zxi zwi) (i := 5) (off := 67) rfl (by simp [vaP6, cellsB_length, hzk.len, hzcr.len]) 0 _ rfl)) _ Try.underlying24 rfl) rfl
      | 16, _ =>
        cases ho
        have e0 : aq.tmps.getD 21 undef = .int .u64 (zac : Nat) := hdep 15 21 rfl (by kernel_rfl)
        refine flow_fun 17 _ _ rfl (fun _ _ => by simp [go_sem]) #[.int .u64 (zac : Nat)] (by rw [show (#[Operand.tmp 21] : Array Operand).map aq.eval = #[aq.tmps.getD 21 undef] from by simp [Act.eval], e0]) ?_
        refine (n_any zac wq).mono ?_
        rintro x w' ⟨rfl, q⟩
        exact ⟨_, rfl, IsV.leaf w' hzac zeros32 (zeros_byte 32), q⟩
      | 17, _ =>
        cases ho
        have e1 : aq.tmps.getD 1 undef = .pointer (some ⟨w.heap.size, 0, none⟩) := hk 1 (by decide)
        exact flow_value _ (run_fieldAt 26 (.tmp 1) 6 rfl _ _ e1 (by kernel_rfl)) rfl
      | 18, _ =>
        cases ho
        have e0 : aq.tmps.getD 23 undef = .pointer (some ⟨w.heap.size, 68, none⟩) := hdep 17 23 rfl (by kernel_rfl)
        exact flow_value _ (run_cell 24 (.tmp 23) rfl _ e0 _ ((HX.out.keep (hcB hc)).cell (seg (ps := vaP6 zk zcr zef false zel zac zxi zwi) (i := 6) (off := 68) rfl (by simp [vaP6, cellsB_length, hzk.len, hzcr.len]) 0 _ rfl)) _ Try.underlying24 rfl) rfl
      | 19, _ =>
        cases ho
        have e0 : aq.tmps.getD 24 undef = .int .u64 (zxi : Nat) := hdep 18 24 rfl (by kernel_rfl)
        refine flow_fun 17 _ _ rfl (fun _ _ => by simp [go_sem]) #[.int .u64 (zxi : Nat)] (by rw [show (#[Operand.tmp 24] : Array Operand).map aq.eval = #[aq.tmps.getD 24 undef] from by simp [Act.eval], e0]) ?_
        refine (n_any zxi wq).mono ?_
        rintro x w' ⟨rfl, q⟩
        exact ⟨_, rfl, IsV.leaf w' hzxi zeros32 (zeros_byte 32), q⟩
      | 20, _ =>
        cases ho
        have e1 : aq.tmps.getD 1 undef = .pointer (some ⟨w.heap.size, 0, none⟩) := hk 1 (by decide)
        exact flow_value _ (run_fieldAt 26 (.tmp 1) 7 rfl _ _ e1 (by kernel_rfl)) rfl
      | 21, _ =>
        cases ho
        have e0 : aq.tmps.getD 26 undef = .pointer (some ⟨w.heap.size, 69, none⟩) := hdep 20 26 rfl (by kernel_rfl)
        exact flow_value _ (run_cell 24 (.tmp 26) rfl _ e0 _ ((HX.out.keep (hcB hc)).cell (seg (ps := vaP6 zk zcr zef false zel zac zxi zwi) (i := 7) (off := 69) rfl (by simp [vaP6, cellsB_length, hzk.len, hzcr.len]) 0 _ rfl)) _ Try.underlying24 rfl) rfl
      | 22, _ =>
        cases ho
        have e0 : aq.tmps.getD 27 undef = .int .u64 (zwi : Nat) := hdep 21 27 rfl (by kernel_rfl)
        refine flow_fun 17 _ _ rfl (fun _ _ => by simp [go_sem]) #[.int .u64 (zwi : Nat)] (by rw [show (#[Operand.tmp 27] : Array Operand).map aq.eval = #[aq.tmps.getD 27 undef] from by simp [Act.eval], e0]) ?_
        refine (n_any zwi wq).mono ?_
        rintro x w' ⟨rfl, q⟩
        exact ⟨_, rfl, IsV.leaf w' hzwi zeros32 (zeros_byte 32), q⟩
      | 23, _ =>
        cases ho
        obtain ⟨sb0, sk0, e0, h0_⟩ := hdep 2 8 rfl (by kernel_rfl)
        obtain ⟨sb1, sk1, e1, h1_⟩ := hdep 5 11 rfl (by kernel_rfl)
        obtain ⟨sb2, sk2, e2, h2_⟩ := hdep 8 14 rfl (by kernel_rfl)
        obtain ⟨sb3, sk3, e3, h3_⟩ := hdep 10 16 rfl (by kernel_rfl)
        obtain ⟨sb4, sk4, e4, h4_⟩ := hdep 13 19 rfl (by kernel_rfl)
        obtain ⟨sb5, sk5, e5, h5_⟩ := hdep 16 22 rfl (by kernel_rfl)
        obtain ⟨sb6, sk6, e6, h6_⟩ := hdep 19 25 rfl (by kernel_rfl)
        obtain ⟨sb7, sk7, e7, h7_⟩ := hdep 22 28 rfl (by kernel_rfl)
        refine flow_rowsB 29 31 8 35 _ rfl Try.underlying29 valInfo [valL 0 zk sb0 sk0, valL 0 zcr sb1 sk1, valL zef (zeros 32) sb2 sk2, valL (bitN01 false) (zeros 32) sb3 sk3, valL zel (zeros 32) sb4 sk4, valL zac (zeros 32) sb5 sk5, valL zxi (zeros 32) sb6 sk6, valL zwi (zeros 32) sb7 sk7] [.tmp 8, .tmp 11, .tmp 14, .tmp 16, .tmp 19, .tmp 22, .tmp 25, .tmp 28] rfl (by rw [show [Operand.tmp 8, Operand.tmp 11, Operand.tmp 14, Operand.tmp 16, Operand.tmp 19, Operand.tmp 22, Operand.tmp 25, Operand.tmp 28].map aq.eval = [aq.tmps.getD 8 undef, aq.tmps.getD 11 undef, aq.tmps.getD 14 undef, aq.tmps.getD 16 undef, aq.tmps.getD 19 undef, aq.tmps.getD 22 undef, aq.tmps.getD 25 undef, aq.tmps.getD 28 undef] from rfl, e0, e1, e2, e3, e4, e5, e6, e7]; rfl) (by simp [valL_length, zeros32, hzk.len, hzcr.len]) rfl (by decide) (by decide) (by decide) (fun w' h hb => ⟨_, rfl, ksAt_of h [(.mk 0 zk [] [], sb0, sk0), (.mk 0 zcr [] [], sb1, sk1), (.mk zef (zeros 32) [] [], sb2, sk2), (.mk (bitN01 false) (zeros 32) [] [], sb3, sk3), (.mk zel (zeros 32) [] [], sb4, sk4), (.mk zac (zeros 32) [] [], sb5, sk5), (.mk zxi (zeros 32) [] [], sb6, sk6), (.mk zwi (zeros 32) [] [], sb7, sk7)] 0 (fun j v hj => by rw [Nat.zero_add]; exact hj) (fun x hx => ?_)⟩)
        simp only [List.mem_cons, List.not_mem_nil, or_false] at hx
        rcases hx with rfl | rfl | rfl | rfl | rfl | rfl | rfl | rfl
        · exact VAt.keep hb _ h0_
        · exact VAt.keep hb _ h1_
        · exact VAt.keep hb _ h2_
        · exact VAt.keep hb _ h3_
        · exact VAt.keep hb _ h4_
        · exact VAt.keep hb _ h5_
        · exact VAt.keep hb _ h6_
        · exact VAt.keep hb _ h7_
      | 24, _ =>
        cases ho
        obtain ⟨b, e6, h6⟩ := hdep 23 29 rfl (by kernel_rfl)
        refine flow_fun 15 _ _ rfl (fun _ _ => by simp [go_sem]) #[.slice (some ⟨b, 0, none⟩) 8 8] (by rw [show (#[Operand.tmp 29] : Array Operand).map aq.eval = #[aq.tmps.getD 29 undef] from by simp [Act.eval], e6]) ?_
        refine (all_any (some ⟨b, 0, none⟩) 8 8 wq).mono ?_
        rintro x w' ⟨rfl, q⟩
        exact ⟨_, rfl, ⟨b, rfl, KsAt.keep q _ h6⟩, q⟩
      | (k + 25), hk => exact absurd hk (by omega)
    · intro o h25 ho
      omega
    intro vf w8 hc hv
    have e7 : ∃ b, vf 24 = _ ∧ KsAt w8 _ b 0 := hv 24 30 (by decide) rfl
    obtain ⟨b, e7, h7⟩ := e7
    have B8 := HB.out.trans ((hcB hc).mono (by omega))
    have H8v := HY.out.keep (hcB hc)
    have s8 := (hcB hc).size
    clear hv hc
    simp only [List.take_succ_cons, List.take_zero, List.drop_succ_cons, List.drop_zero, putAll, Act.put, List.setIfInBounds_toArray, List.set_cons_succ, List.set_cons_zero]
    rw [e7]
    have HB8 := hid B8
    have HK := hid h7
    clear B8 h7 e7 HB
    go_wp2_with ((with_reducible refine at_list' ?_); first
      | (refine wpList_store_c Try.ty31 rfl (.tmp 2) (.tmp 30) rfl (w.heap.size + 1) (valL 0 (zeros 32) nilS (.slice (some ⟨b, 0, none⟩) 8 8)) rfl rfl rfl (valL_oneC _ _ _ _ trivial trivial) _ H8v rfl ?_; intro w9 H9 O9))
    refine bodyPost_ret (results_c1 Try.ty31 rfl _ w9 (w.heap.size + 1) _ rfl H9 rfl) rfl ⟨_, rfl, ⟨nilS, _, rfl, ?_⟩, below_only HB8.out O9 (by omega)⟩
    exact VAt.aside H8v rfl O9 (vaV6 zk zcr zef false zel zac zxi zwi) (vaV6_wide zk zcr zef false zel zac zxi zwi) (isV_all (ks := [.mk 0 zk [] [], .mk 0 zcr [] [], .mk zef (zeros 32) [] [], .mk (bitN01 false) (zeros 32) [] [], .mk zel (zeros 32) [] [], .mk zac (zeros 32) [] [], .mk zxi (zeros 32) [] [], .mk zwi (zeros 32) [] []]) rfl (by decide) HK.out)
  · go_enter Try.func5, Try.ntmps5
    go_wp2_with ((with_reducible refine at_list' ?_); first
      | (refine wpList_box_c rfl 1 rfl (.tmp 0) rfl (vaC6 zk zcr zef true zel zac zxi zwi) rfl ?_; intro w1 H1 B1 S1)
      | (refine wpList_alloc_c Try.ty31 rfl 2 rfl rfl ?_; intro w2 H2 B2 S2; rw [S1] at H2 S2; rw [S1]; have hsl := (H1.keep B2).cell (j := 65) (v := .bool true) (seg (ps := vaP6 zk zcr zef true zel zac zxi zwi) (i := 3) (off := 65) rfl (by simp [vaP6, cellsB_length, hzk.len, hzcr.len]) 0 _ rfl)))
    have HX := hid (H1.keep B2)
    have HY := hid H2
    have HB := hid (B1.trans (B2.mono (by omega)))
    have s2 : w2.heap.size = w.heap.size + 2 := by omega
    clear H1 B1 S1 H2 B2 S2
    try simp only [Act.put, List.setIfInBounds_toArray, List.set_cons_succ, List.set_cons_zero]
    refine wp_region_flow 25 25 (fun i v wq => match i with
      | 0 => v = .pointer (some ⟨w.heap.size, 0, none⟩)
      | 1 => v = .agg (nums .u8 zk)
      | 2 => IsV wq v (.mk 0 zk [] [])
      | 3 => v = .pointer (some ⟨w.heap.size, 32, none⟩)
      | 4 => v = .agg (nums .u8 zcr)
      | 5 => IsV wq v (.mk 0 zcr [] [])
      | 6 => v = .pointer (some ⟨w.heap.size, 64, none⟩)
      | 7 => v = .int .u64 (zef : Nat)
      | 8 => IsV wq v (.mk zef (zeros 32) [] [])
      | 9 => v = .int .u64 (bitN01 true : Nat)
      | 10 => IsV wq v (.mk (bitN01 true) (zeros 32) [] [])
      | 11 => v = .pointer (some ⟨w.heap.size, 66, none⟩)
      | 12 => v = .int .u64 (zel : Nat)
      | 13 => IsV wq v (.mk zel (zeros 32) [] [])
      | 14 => v = .pointer (some ⟨w.heap.size, 67, none⟩)
      | 15 => v = .int .u64 (zac : Nat)
      | 16 => IsV wq v (.mk zac (zeros 32) [] [])
      | 17 => v = .pointer (some ⟨w.heap.size, 68, none⟩)
      | 18 => v = .int .u64 (zxi : Nat)
      | 19 => IsV wq v (.mk zxi (zeros 32) [] [])
      | 20 => v = .pointer (some ⟨w.heap.size, 69, none⟩)
      | 21 => v = .int .u64 (zwi : Nat)
      | 22 => IsV wq v (.mk zwi (zeros 32) [] [])
      | 23 => ∃ b, v = .slice (some ⟨b, 0, none⟩) 8 8 ∧ KsAt wq [.mk 0 zk [] [], .mk 0 zcr [] [], .mk zef (zeros 32) [] [], .mk (bitN01 true) (zeros 32) [] [], .mk zel (zeros 32) [] [], .mk zac (zeros 32) [] [], .mk zxi (zeros 32) [] [], .mk zwi (zeros 32) [] []] b 0
      | _ => ∃ b, v = .agg (valL 0 (zeros 32) nilS (.slice (some ⟨b, 0, none⟩) 8 8)).toArray ∧ KsAt wq [.mk 0 zk [] [], .mk 0 zcr [] [], .mk zef (zeros 32) [] [], .mk (bitN01 true) (zeros 32) [] [], .mk zel (zeros 32) [] [], .mk zac (zeros 32) [] [], .mk zxi (zeros 32) [] [], .mk zwi (zeros 32) [] []] b 0) (by kernel_rfl) (by kernel_rfl) (fun _ d _ _ _ h => by cases d <;> exact h) ?_ ?_ ?_ ?_
    · intro i v wq wq' hi hv hb
      match i, hi with
      | 0, _ => exact hv
      | 1, _ => exact hv
      | 2, _ => exact hv.keep hb
      | 3, _ => exact hv
      | 4, _ => exact hv
      | 5, _ => exact hv.keep hb
      | 6, _ => exact hv
      | 7, _ => exact hv
      | 8, _ => exact hv.keep hb
      | 9, _ => exact hv
      | 10, _ => exact hv.keep hb
      | 11, _ => exact hv
      | 12, _ => exact hv
      | 13, _ => exact hv.keep hb
      | 14, _ => exact hv
      | 15, _ => exact hv
      | 16, _ => exact hv.keep hb
      | 17, _ => exact hv
      | 18, _ => exact hv
      | 19, _ => exact hv.keep hb
      | 20, _ => exact hv
      | 21, _ => exact hv
      | 22, _ => exact hv.keep hb
      | 23, _ => obtain ⟨b, h1, h2⟩ := hv; exact ⟨b, h1, KsAt.keep hb _ h2⟩
      | 24, _ => obtain ⟨b, h1, h2⟩ := hv; exact ⟨b, h1, KsAt.keep hb _ h2⟩
      | (k + 25), hk => exact absurd hk (by omega)
    · intro i o hi ho aq wq hc hk hdep
      match i, hi with
      | 0, _ =>
        cases ho
        have e1 : aq.tmps.getD 1 undef = .pointer (some ⟨w.heap.size, 0, none⟩) := hk 1 (by decide)
        exact flow_value _ (run_fieldAt 26 (.tmp 1) 0 rfl _ _ e1 (by kernel_rfl)) rfl
      | 1, _ =>
        cases ho
        have e0 : aq.tmps.getD 6 undef = .pointer (some ⟨w.heap.size, 0, none⟩) := hdep 0 6 rfl (by kernel_rfl)
        exact flow_value _ (run_mid 23 (.tmp 6) rfl w.heap.size 0 e0 (cellsB zk) ((HX.out.keep (hcB hc)).range 0 (cellsB zk) (seg (ps := vaP6 zk zcr zef true zel zac zxi zwi) (i := 0) (off := 0) rfl (by simp [vaP6, cellsB_length, hzk.len, hzcr.len]))) _ Try.und23 rfl (by rw [cellsB_length, hzk.len]; exact Try.size23)) rfl
      | 2, _ =>
        cases ho
        have e0 : aq.tmps.getD 7 undef = .agg (nums .u8 zk) := hdep 1 7 rfl (by kernel_rfl)
        refine flow_fun 16 _ _ rfl (fun _ _ => by simp [go_sem]) #[.agg (nums .u8 zk)] (by rw [show (#[Operand.tmp 7] : Array Operand).map aq.eval = #[aq.tmps.getD 7 undef] from by simp [Act.eval], e0]) ?_
        refine (r_any zk hzk.len wq).mono ?_
        rintro x w' ⟨rfl, q⟩
        exact ⟨_, rfl, IsV.leaf w' (by decide) hzk.len hzk.byte, q⟩
      | 3, _ =>
        cases ho
        have e1 : aq.tmps.getD 1 undef = .pointer (some ⟨w.heap.size, 0, none⟩) := hk 1 (by decide)
        exact flow_value _ (run_fieldAt 26 (.tmp 1) 1 rfl _ _ e1 (by kernel_rfl)) rfl
      | 4, _ =>
        cases ho
        have e0 : aq.tmps.getD 9 undef = .pointer (some ⟨w.heap.size, 32, none⟩) := hdep 3 9 rfl (by kernel_rfl)
        exact flow_value _ (run_mid 23 (.tmp 9) rfl w.heap.size 32 e0 (cellsB zcr) ((HX.out.keep (hcB hc)).range 32 (cellsB zcr) (seg (ps := vaP6 zk zcr zef true zel zac zxi zwi) (i := 1) (off := 32) rfl (by simp [vaP6, cellsB_length, hzk.len, hzcr.len]))) _ Try.und23 rfl (by rw [cellsB_length, hzcr.len]; exact Try.size23)) rfl
      | 5, _ =>
        cases ho
        have e0 : aq.tmps.getD 10 undef = .agg (nums .u8 zcr) := hdep 4 10 rfl (by kernel_rfl)
        refine flow_fun 16 _ _ rfl (fun _ _ => by simp [go_sem]) #[.agg (nums .u8 zcr)] (by rw [show (#[Operand.tmp 10] : Array Operand).map aq.eval = #[aq.tmps.getD 10 undef] from by simp [Act.eval], e0]) ?_
        refine (r_any zcr hzcr.len wq).mono ?_
        rintro x w' ⟨rfl, q⟩
        exact ⟨_, rfl, IsV.leaf w' (by decide) hzcr.len hzcr.byte, q⟩
      | 6, _ =>
        cases ho
        have e1 : aq.tmps.getD 1 undef = .pointer (some ⟨w.heap.size, 0, none⟩) := hk 1 (by decide)
        exact flow_value _ (run_fieldAt 26 (.tmp 1) 2 rfl _ _ e1 (by kernel_rfl)) rfl
      | 7, _ =>
        cases ho
        have e0 : aq.tmps.getD 12 undef = .pointer (some ⟨w.heap.size, 64, none⟩) := hdep 6 12 rfl (by kernel_rfl)
        exact flow_value _ (run_cell 24 (.tmp 12) rfl _ e0 _ ((HX.out.keep (hcB hc)).cell (seg (ps := vaP6 zk zcr zef true zel zac zxi zwi) (i := 2) (off := 64) rfl (by simp [vaP6, cellsB_length, hzk.len, hzcr.len]) 0 _ rfl)) _ Try.underlying24 rfl) rfl
      | 8, _ =>
        cases ho
        have e0 : aq.tmps.getD 13 undef = .int .u64 (zef : Nat) := hdep 7 13 rfl (by kernel_rfl)
        refine flow_fun 17 _ _ rfl (fun _ _ => by simp [go_sem]) #[.int .u64 (zef : Nat)] (by rw [show (#[Operand.tmp 13] : Array Operand).map aq.eval = #[aq.tmps.getD 13 undef] from by simp [Act.eval], e0]) ?_
        refine (n_any zef wq).mono ?_
        rintro x w' ⟨rfl, q⟩
        exact ⟨_, rfl, IsV.leaf w' hzef zeros32 (zeros_byte 32), q⟩
      | 9, _ =>
        cases ho
        exact flow_move (.tmp 3) rfl (hk 3 (by decide))
      | 10, _ =>
        cases ho
        have e0 : aq.tmps.getD 15 undef = .int .u64 (bitN01 true : Nat) := hdep 9 15 rfl (by kernel_rfl)
        refine flow_fun 17 _ _ rfl (fun _ _ => by simp [go_sem]) #[.int .u64 (bitN01 true : Nat)] (by rw [show (#[Operand.tmp 15] : Array Operand).map aq.eval = #[aq.tmps.getD 15 undef] from by simp [Act.eval], e0]) ?_
        refine (n_any (bitN01 true) wq).mono ?_
        rintro x w' ⟨rfl, q⟩
        exact ⟨_, rfl, IsV.leaf w' (bitN01_lt true) zeros32 (zeros_byte 32), q⟩
      | 11, _ =>
        cases ho
        have e1 : aq.tmps.getD 1 undef = .pointer (some ⟨w.heap.size, 0, none⟩) := hk 1 (by decide)
        exact flow_value _ (run_fieldAt 26 (.tmp 1) 4 rfl _ _ e1 (by kernel_rfl)) rfl
      | 12, _ =>
        cases ho
        have e0 : aq.tmps.getD 17 undef = .pointer (some ⟨w.heap.size, 66, none⟩) := hdep 11 17 rfl (by kernel_rfl)
        exact flow_value _ (run_cell 24 (.tmp 17) rfl _ e0 _ ((HX.out.keep (hcB hc)).cell (seg (ps := vaP6 zk zcr zef true zel zac zxi zwi) (i := 4) (off := 66) rfl (by simp [vaP6, cellsB_length, hzk.len, hzcr.len]) 0 _ rfl)) _ Try.underlying24 rfl) rfl
      | 13, _ =>
        cases ho
        have e0 : aq.tmps.getD 18 undef = .int .u64 (zel : Nat) := hdep 12 18 rfl (by kernel_rfl)
        refine flow_fun 17 _ _ rfl (fun _ _ => by simp [go_sem]) #[.int .u64 (zel : Nat)] (by rw [show (#[Operand.tmp 18] : Array Operand).map aq.eval = #[aq.tmps.getD 18 undef] from by simp [Act.eval], e0]) ?_
        refine (n_any zel wq).mono ?_
        rintro x w' ⟨rfl, q⟩
        exact ⟨_, rfl, IsV.leaf w' hzel zeros32 (zeros_byte 32), q⟩
      | 14, _ =>
        cases ho
        have e1 : aq.tmps.getD 1 undef = .pointer (some ⟨w.heap.size, 0, none⟩) := hk 1 (by decide)
        exact flow_value _ (run_fieldAt 26 (.tmp 1) 5 rfl _ _ e1 (by kernel_rfl)) rfl
      | 15, _ =>
        cases ho
        have e0 : aq.tmps.getD 20 undef = .pointer (some ⟨w.heap.size, 67, none⟩) := hdep 14 20 rfl (by kernel_rfl)
        exact flow_value _ (run_cell 24 (.tmp 20) rfl _ e0 _ ((HX.out.keep (hcB hc)).cell (seg (ps := vaP6 zk zcr zef true zel zac zxi zwi) (i := 5) (off := 67) rfl (by simp [vaP6, cellsB_length, hzk.len, hzcr.len]) 0 _ rfl)) _ Try.underlying24 rfl) rfl
      | 16, _ =>
        cases ho
        have e0 : aq.tmps.getD 21 undef = .int .u64 (zac : Nat) := hdep 15 21 rfl (by kernel_rfl)
        refine flow_fun 17 _ _ rfl (fun _ _ => by simp [go_sem]) #[.int .u64 (zac : Nat)] (by rw [show (#[Operand.tmp 21] : Array Operand).map aq.eval = #[aq.tmps.getD 21 undef] from by simp [Act.eval], e0]) ?_
        refine (n_any zac wq).mono ?_
        rintro x w' ⟨rfl, q⟩
        exact ⟨_, rfl, IsV.leaf w' hzac zeros32 (zeros_byte 32), q⟩
      | 17, _ =>
        cases ho
        have e1 : aq.tmps.getD 1 undef = .pointer (some ⟨w.heap.size, 0, none⟩) := hk 1 (by decide)
        exact flow_value _ (run_fieldAt 26 (.tmp 1) 6 rfl _ _ e1 (by kernel_rfl)) rfl
      | 18, _ =>
        cases ho
        have e0 : aq.tmps.getD 23 undef = .pointer (some ⟨w.heap.size, 68, none⟩) := hdep 17 23 rfl (by kernel_rfl)
        exact flow_value _ (run_cell 24 (.tmp 23) rfl _ e0 _ ((HX.out.keep (hcB hc)).cell (seg (ps := vaP6 zk zcr zef true zel zac zxi zwi) (i := 6) (off := 68) rfl (by simp [vaP6, cellsB_length, hzk.len, hzcr.len]) 0 _ rfl)) _ Try.underlying24 rfl) rfl
      | 19, _ =>
        cases ho
        have e0 : aq.tmps.getD 24 undef = .int .u64 (zxi : Nat) := hdep 18 24 rfl (by kernel_rfl)
        refine flow_fun 17 _ _ rfl (fun _ _ => by simp [go_sem]) #[.int .u64 (zxi : Nat)] (by rw [show (#[Operand.tmp 24] : Array Operand).map aq.eval = #[aq.tmps.getD 24 undef] from by simp [Act.eval], e0]) ?_
        refine (n_any zxi wq).mono ?_
        rintro x w' ⟨rfl, q⟩
        exact ⟨_, rfl, IsV.leaf w' hzxi zeros32 (zeros_byte 32), q⟩
      | 20, _ =>
        cases ho
        have e1 : aq.tmps.getD 1 undef = .pointer (some ⟨w.heap.size, 0, none⟩) := hk 1 (by decide)
        exact flow_value _ (run_fieldAt 26 (.tmp 1) 7 rfl _ _ e1 (by kernel_rfl)) rfl
      | 21, _ =>
        cases ho
        have e0 : aq.tmps.getD 26 undef = .pointer (some ⟨w.heap.size, 69, none⟩) := hdep 20 26 rfl (by kernel_rfl)
        exact flow_value _ (run_cell 24 (.tmp 26) rfl _ e0 _ ((HX.out.keep (hcB hc)).cell (seg (ps := vaP6 zk zcr zef true zel zac zxi zwi) (i := 7) (off := 69) rfl (by simp [vaP6, cellsB_length, hzk.len, hzcr.len]) 0 _ rfl)) _ Try.underlying24 rfl) rfl
      | 22, _ =>
        cases ho
        have e0 : aq.tmps.getD 27 undef = .int .u64 (zwi : Nat) := hdep 21 27 rfl (by kernel_rfl)
        refine flow_fun 17 _ _ rfl (fun _ _ => by simp [go_sem]) #[.int .u64 (zwi : Nat)] (by rw [show (#[Operand.tmp 27] : Array Operand).map aq.eval = #[aq.tmps.getD 27 undef] from by simp [Act.eval], e0]) ?_
        refine (n_any zwi wq).mono ?_
        rintro x w' ⟨rfl, q⟩
        exact ⟨_, rfl, IsV.leaf w' hzwi zeros32 (zeros_byte 32), q⟩
      | 23, _ =>
        cases ho
        obtain ⟨sb0, sk0, e0, h0_⟩ := hdep 2 8 rfl (by kernel_rfl)
        obtain ⟨sb1, sk1, e1, h1_⟩ := hdep 5 11 rfl (by kernel_rfl)
        obtain ⟨sb2, sk2, e2, h2_⟩ := hdep 8 14 rfl (by kernel_rfl)
        obtain ⟨sb3, sk3, e3, h3_⟩ := hdep 10 16 rfl (by kernel_rfl)
        obtain ⟨sb4, sk4, e4, h4_⟩ := hdep 13 19 rfl (by kernel_rfl)
        obtain ⟨sb5, sk5, e5, h5_⟩ := hdep 16 22 rfl (by kernel_rfl)
        obtain ⟨sb6, sk6, e6, h6_⟩ := hdep 19 25 rfl (by kernel_rfl)
        obtain ⟨sb7, sk7, e7, h7_⟩ := hdep 22 28 rfl (by kernel_rfl)
        refine flow_rowsB 29 31 8 35 _ rfl Try.underlying29 valInfo [valL 0 zk sb0 sk0, valL 0 zcr sb1 sk1, valL zef (zeros 32) sb2 sk2, valL (bitN01 true) (zeros 32) sb3 sk3, valL zel (zeros 32) sb4 sk4, valL zac (zeros 32) sb5 sk5, valL zxi (zeros 32) sb6 sk6, valL zwi (zeros 32) sb7 sk7] [.tmp 8, .tmp 11, .tmp 14, .tmp 16, .tmp 19, .tmp 22, .tmp 25, .tmp 28] rfl (by rw [show [Operand.tmp 8, Operand.tmp 11, Operand.tmp 14, Operand.tmp 16, Operand.tmp 19, Operand.tmp 22, Operand.tmp 25, Operand.tmp 28].map aq.eval = [aq.tmps.getD 8 undef, aq.tmps.getD 11 undef, aq.tmps.getD 14 undef, aq.tmps.getD 16 undef, aq.tmps.getD 19 undef, aq.tmps.getD 22 undef, aq.tmps.getD 25 undef, aq.tmps.getD 28 undef] from rfl, e0, e1, e2, e3, e4, e5, e6, e7]; rfl) (by simp [valL_length, zeros32, hzk.len, hzcr.len]) rfl (by decide) (by decide) (by decide) (fun w' h hb => ⟨_, rfl, ksAt_of h [(.mk 0 zk [] [], sb0, sk0), (.mk 0 zcr [] [], sb1, sk1), (.mk zef (zeros 32) [] [], sb2, sk2), (.mk (bitN01 true) (zeros 32) [] [], sb3, sk3), (.mk zel (zeros 32) [] [], sb4, sk4), (.mk zac (zeros 32) [] [], sb5, sk5), (.mk zxi (zeros 32) [] [], sb6, sk6), (.mk zwi (zeros 32) [] [], sb7, sk7)] 0 (fun j v hj => by rw [Nat.zero_add]; exact hj) (fun x hx => ?_)⟩)
        simp only [List.mem_cons, List.not_mem_nil, or_false] at hx
        rcases hx with rfl | rfl | rfl | rfl | rfl | rfl | rfl | rfl
        · exact VAt.keep hb _ h0_
        · exact VAt.keep hb _ h1_
        · exact VAt.keep hb _ h2_
        · exact VAt.keep hb _ h3_
        · exact VAt.keep hb _ h4_
        · exact VAt.keep hb _ h5_
        · exact VAt.keep hb _ h6_
        · exact VAt.keep hb _ h7_
      | 24, _ =>
        cases ho
        obtain ⟨b, e6, h6⟩ := hdep 23 29 rfl (by kernel_rfl)
        refine flow_fun 15 _ _ rfl (fun _ _ => by simp [go_sem]) #[.slice (some ⟨b, 0, none⟩) 8 8] (by rw [show (#[Operand.tmp 29] : Array Operand).map aq.eval = #[aq.tmps.getD 29 undef] from by simp [Act.eval], e6]) ?_
        refine (all_any (some ⟨b, 0, none⟩) 8 8 wq).mono ?_
        rintro x w' ⟨rfl, q⟩
        exact ⟨_, rfl, ⟨b, rfl, KsAt.keep q _ h6⟩, q⟩
      | (k + 25), hk => exact absurd hk (by omega)
    · intro o h25 ho
      omega
    intro vf w8 hc hv
    have e7 : ∃ b, vf 24 = _ ∧ KsAt w8 _ b 0 := hv 24 30 (by decide) rfl
    obtain ⟨b, e7, h7⟩ := e7
    have B8 := HB.out.trans ((hcB hc).mono (by omega))
    have H8v := HY.out.keep (hcB hc)
    have s8 := (hcB hc).size
    clear hv hc
    simp only [List.take_succ_cons, List.take_zero, List.drop_succ_cons, List.drop_zero, putAll, Act.put, List.setIfInBounds_toArray, List.set_cons_succ, List.set_cons_zero]
    rw [e7]
    have HB8 := hid B8
    have HK := hid h7
    clear B8 h7 e7 HB
    go_wp2_with ((with_reducible refine at_list' ?_); first
      | (refine wpList_store_c Try.ty31 rfl (.tmp 2) (.tmp 30) rfl (w.heap.size + 1) (valL 0 (zeros 32) nilS (.slice (some ⟨b, 0, none⟩) 8 8)) rfl rfl rfl (valL_oneC _ _ _ _ trivial trivial) _ H8v rfl ?_; intro w9 H9 O9))
    refine bodyPost_ret (results_c1 Try.ty31 rfl _ w9 (w.heap.size + 1) _ rfl H9 rfl) rfl ⟨_, rfl, ⟨nilS, _, rfl, ?_⟩, below_only HB8.out O9 (by omega)⟩
    exact VAt.aside H8v rfl O9 (vaV6 zk zcr zef true zel zac zxi zwi) (vaV6_wide zk zcr zef true zel zac zxi zwi) (isV_all (ks := [.mk 0 zk [] [], .mk 0 zcr [] [], .mk zef (zeros 32) [] [], .mk (bitN01 true) (zeros 32) [] [], .mk zel (zeros 32) [] [], .mk zac (zeros 32) [] [], .mk zxi (zeros 32) [] [], .mk zwi (zeros 32) [] []]) rfl (by decide) HK.out)
end Go.Proofs.Ytfocalbfefnbnaa

/- The document's kind of bits, few of them. -/
namespace Go.Proofs.Ytfocalbfefnbnaa
open Go.RowKit
set_option linter.unusedVariables false
set_option maxRecDepth 100000

def dBits : Dt := .mk 7 32 []
def dTruth : Dt := .mk 2 0 []
theorem dAt_leaf2 {w : World} {p f n : Nat} (h : w.heap[p]? = some (.cells #[.int .i64 (f : Nat), .int .i64 (n : Nat), .slice none 0 0] 77 (0, 0))) : DAt w (.mk f n []) p := by
  rw [DAt]
  exact ⟨cell_of_row w p 0 _ _ (0, 0) h, cell_of_row w p 1 _ _ (0, 0) h, none, 0, cell_of_row w p 2 _ _ (0, 0) h, by simp, by simp, .inl rfl⟩
end Go.Proofs.Ytfocalbfefnbnaa

/- The document's kind of a Validator. -/
namespace Go.Proofs.Ytfocalbfefnbnaa
open Go.RowKit
set_option linter.unusedVariables false
set_option maxRecDepth 100000

set_option maxHeartbeats 2000000 in
theorem dvl_any (w : World) : Calls Try.prog 9 #[] w fun x w' => ∃ p, x = .returned (.pointer (some ⟨p, 0, none⟩)) ∧ DAt w' (dBox [dRoot, dRoot, dNum, dTruth, dNum, dNum, dNum, dNum]) p ∧ Below w.heap.size w w' := by
  have HB0 := hid (Below.refl w.heap.size w)
  go_enter Try.func9, Try.ntmps9
  go_wp2_with fail
  refine (root_any' w).mono ?_
  rintro e w1 ⟨rfl, q1, q2⟩
  have HD0_0 := hid q1
  have HB1 := hid (HB0.out.trans (q2.mono HB0.out.size))
  clear q1 q2 HB0
  go_wp2_with fail
  refine (root_any' w1).mono ?_
  rintro e w2 ⟨rfl, q1, q2⟩
  have HD0_1 := hid (DAt.keep q2 _ HD0_0.out)
  have HD1_1 := hid q1
  have HB2 := hid (HB1.out.trans (q2.mono HB1.out.size))
  clear q1 q2 HB1 HD0_0
  go_wp2_with fail
  refine (num_any' w2).mono ?_
  rintro e w3 ⟨rfl, q1, q2⟩
  have HD0_2 := hid (DAt.keep q2 _ HD0_1.out)
  have HD1_2 := hid (DAt.keep q2 _ HD1_1.out)
  have HD2_2 := hid q1
  have HB3 := hid (HB2.out.trans (q2.mono HB2.out.size))
  clear q1 q2 HB2 HD0_1 HD1_1
  go_wp2_with fail
  have q1 : DAt (w3.alloc (.cells #[.int .i64 2, .int .i64 0, .slice none 0 0] 77)) dTruth w3.heap.size := dAt_leaf2 (f := 2) (n := 0) (heap_alloc_new w3 _)
  have q2 : Below w3.heap.size w3 (w3.alloc (.cells #[.int .i64 2, .int .i64 0, .slice none 0 0] 77)) := (Below.refl _ w3).alloc (Nat.le_refl _) _
  generalize w3.alloc (.cells #[.int .i64 2, .int .i64 0, .slice none 0 0] 77) = w4 at q1 q2 ⊢
  have HD0_3 := hid (DAt.keep q2 _ HD0_2.out)
  have HD1_3 := hid (DAt.keep q2 _ HD1_2.out)
  have HD2_3 := hid (DAt.keep q2 _ HD2_2.out)
  have HD3_3 := hid q1
  have HB4 := hid (HB3.out.trans (q2.mono HB3.out.size))
  clear q1 q2 HB3 HD0_2 HD1_2 HD2_2
  go_wp2_with fail
  refine (num_any' w4).mono ?_
  rintro e w5 ⟨rfl, q1, q2⟩
  have HD0_4 := hid (DAt.keep q2 _ HD0_3.out)
  have HD1_4 := hid (DAt.keep q2 _ HD1_3.out)
  have HD2_4 := hid (DAt.keep q2 _ HD2_3.out)
  have HD3_4 := hid (DAt.keep q2 _ HD3_3.out)
  have HD4_4 := hid q1
  have HB5 := hid (HB4.out.trans (q2.mono HB4.out.size))
  clear q1 q2 HB4 HD0_3 HD1_3 HD2_3 HD3_3
  go_wp2_with fail
  refine (num_any' w5).mono ?_
  rintro e w6 ⟨rfl, q1, q2⟩
  have HD0_5 := hid (DAt.keep q2 _ HD0_4.out)
  have HD1_5 := hid (DAt.keep q2 _ HD1_4.out)
  have HD2_5 := hid (DAt.keep q2 _ HD2_4.out)
  have HD3_5 := hid (DAt.keep q2 _ HD3_4.out)
  have HD4_5 := hid (DAt.keep q2 _ HD4_4.out)
  have HD5_5 := hid q1
  have HB6 := hid (HB5.out.trans (q2.mono HB5.out.size))
  clear q1 q2 HB5 HD0_4 HD1_4 HD2_4 HD3_4 HD4_4
  go_wp2_with fail
  refine (num_any' w6).mono ?_
  rintro e w7 ⟨rfl, q1, q2⟩
  have HD0_6 := hid (DAt.keep q2 _ HD0_5.out)
  have HD1_6 := hid (DAt.keep q2 _ HD1_5.out)
  have HD2_6 := hid (DAt.keep q2 _ HD2_5.out)
  have HD3_6 := hid (DAt.keep q2 _ HD3_5.out)
  have HD4_6 := hid (DAt.keep q2 _ HD4_5.out)
  have HD5_6 := hid (DAt.keep q2 _ HD5_5.out)
  have HD6_6 := hid q1
  have HB7 := hid (HB6.out.trans (q2.mono HB6.out.size))
  clear q1 q2 HB6 HD0_5 HD1_5 HD2_5 HD3_5 HD4_5 HD5_5
  go_wp2_with fail
  refine (num_any' w7).mono ?_
  rintro e w8 ⟨rfl, q1, q2⟩
  have HD0_7 := hid (DAt.keep q2 _ HD0_6.out)
  have HD1_7 := hid (DAt.keep q2 _ HD1_6.out)
  have HD2_7 := hid (DAt.keep q2 _ HD2_6.out)
  have HD3_7 := hid (DAt.keep q2 _ HD3_6.out)
  have HD4_7 := hid (DAt.keep q2 _ HD4_6.out)
  have HD5_7 := hid (DAt.keep q2 _ HD5_6.out)
  have HD6_7 := hid (DAt.keep q2 _ HD6_6.out)
  have HD7_7 := hid q1
  have HB8 := hid (HB7.out.trans (q2.mono HB7.out.size))
  clear q1 q2 HB7 HD0_6 HD1_6 HD2_6 HD3_6 HD4_6 HD5_6 HD6_6
  go_wp2_with fail
  have hB : Below w8.heap.size w8 (w8.alloc (.cells #[.pointer (some ⟨w.heap.size, 0, none⟩), .pointer (some ⟨w1.heap.size, 0, none⟩), .pointer (some ⟨w2.heap.size, 0, none⟩), .pointer (some ⟨w3.heap.size, 0, none⟩), .pointer (some ⟨w4.heap.size, 0, none⟩), .pointer (some ⟨w5.heap.size, 0, none⟩), .pointer (some ⟨w6.heap.size, 0, none⟩), .pointer (some ⟨w7.heap.size, 0, none⟩)] 39)) := (Below.refl _ w8).alloc (Nat.le_refl _) _
  have h := heap_alloc_new w8 (.cells #[.pointer (some ⟨w.heap.size, 0, none⟩), .pointer (some ⟨w1.heap.size, 0, none⟩), .pointer (some ⟨w2.heap.size, 0, none⟩), .pointer (some ⟨w3.heap.size, 0, none⟩), .pointer (some ⟨w4.heap.size, 0, none⟩), .pointer (some ⟨w5.heap.size, 0, none⟩), .pointer (some ⟨w6.heap.size, 0, none⟩), .pointer (some ⟨w7.heap.size, 0, none⟩)] 39)
  generalize w8.alloc (.cells #[.pointer (some ⟨w.heap.size, 0, none⟩), .pointer (some ⟨w1.heap.size, 0, none⟩), .pointer (some ⟨w2.heap.size, 0, none⟩), .pointer (some ⟨w3.heap.size, 0, none⟩), .pointer (some ⟨w4.heap.size, 0, none⟩), .pointer (some ⟨w5.heap.size, 0, none⟩), .pointer (some ⟨w6.heap.size, 0, none⟩), .pointer (some ⟨w7.heap.size, 0, none⟩)] 39) = w9 at hB h ⊢
  have hD : DsAt w9 [dRoot, dRoot, dNum, dTruth, dNum, dNum, dNum, dNum] w8.heap.size 0 := by
    simp only [DsAt]
    exact ⟨⟨_, cell_of_row _ _ 0 _ _ (0, 0) h, DAt.keep hB _ HD0_7.out⟩, ⟨_, cell_of_row _ _ 1 _ _ (0, 0) h, DAt.keep hB _ HD1_7.out⟩, ⟨_, cell_of_row _ _ 2 _ _ (0, 0) h, DAt.keep hB _ HD2_7.out⟩, ⟨_, cell_of_row _ _ 3 _ _ (0, 0) h, DAt.keep hB _ HD3_7.out⟩, ⟨_, cell_of_row _ _ 4 _ _ (0, 0) h, DAt.keep hB _ HD4_7.out⟩, ⟨_, cell_of_row _ _ 5 _ _ (0, 0) h, DAt.keep hB _ HD5_7.out⟩, ⟨_, cell_of_row _ _ 6 _ _ (0, 0) h, DAt.keep hB _ HD6_7.out⟩, ⟨_, cell_of_row _ _ 7 _ _ (0, 0) h, DAt.keep hB _ HD7_7.out⟩, trivial⟩
  have HC := hid (box_any w8.heap.size 8 [dRoot, dRoot, dNum, dTruth, dNum, dNum, dNum, dNum] w9 rfl (by decide) hD)
  have HBm := hid (HB8.out.trans (hB.mono HB8.out.size))
  clear hB h hD
  refine HC.out.mono ?_
  rintro e wz ⟨rfl, q1, q2⟩
  have X := hid (And.intro q1 q2)
  clear q1 q2 HC
  go_wp2
  go_ret
  exact ⟨_, rfl, X.out.1, HBm.out.trans (X.out.2.mono HBm.out.size)⟩
end Go.Proofs.Ytfocalbfefnbnaa

/- Lengths of parts, and numbers as bytes: there and back. -/
namespace Go.Proofs.Ytfocalbfefnbnaa
open Go.RowKit
set_option linter.unusedVariables false
/-- What parts are joined to. -/
def joinB (bss : List (List Nat)) : List Nat := cont (bss.map fun b => (b, true))
def lenB (bss : List (List Nat)) : Nat := (bss.map List.length).sum
theorem lenB_F (bss : List (List Nat)) : lenF (bss.map fun b => (b, true)) = lenB bss := by
  unfold lenF lenB
  rw [List.map_map]; rfl
theorem lenB_take (bss : List (List Nat)) (k : Nat) : lenB (bss.take k) ≤ lenB bss := by
  have := lenF_take (bss.map fun b => (b, true)) k
  rw [← List.map_take, lenB_F, lenB_F] at this
  exact this
theorem lenB_mem {bss : List (List Nat)} {i : Nat} {x : List Nat} (h : bss[i]? = some x) : x.length ≤ lenB bss := by
  have h1 := lenB_take bss (i + 1)
  have hi := (List.getElem?_eq_some_iff.1 h).1
  rw [List.take_succ_eq_append_getElem hi] at h1
  rw [List.getElem?_eq_getElem hi] at h
  cases h
  have e : ∀ (a : List (List Nat)) (b : List Nat), lenB (a ++ [b]) = lenB a + b.length := fun a b => by simp [lenB]
  rw [e] at h1
  omega

theorem le_putL (x k : Nat) : ((le x k).map fun n : Nat => (n : Int)) = putL x k := by
  simp [le, putL, byteAt]
theorem tk_le (x k : Nat) (hk : k ≤ 8) : tk (le x k) = x % 256 ^ k := by
  unfold tk takeV
  rw [le_putL, List.take_of_length_le (by rw [putL_length]; omega), takeL_put]
theorem tk_le4 (x : Nat) (h : x < 4294967296) : tk (le x 4) = x := by
  rw [tk_le x 4 (by decide)]
  exact Nat.mod_eq_of_lt h
theorem lenB_cons (b : List Nat) (r : List (List Nat)) : lenB (b :: r) = b.length + lenB r := by simp [lenB]
theorem lenB_flat (bss : List (List Nat)) : bss.flatten.length = lenB bss := by
  induction bss with
  | nil => rfl
  | cons b r ih => rw [List.flatten_cons, List.length_append, ih, lenB_cons]
theorem back_flat (bss : List (List Nat)) : backB (bss.map fun b => (b, true)) = bss.flatten := by
  induction bss with
  | nil => rfl
  | cons b r ih =>
    rw [List.map_cons, List.flatten_cons, ← ih]
    simp [backB]
theorem front_at (rest : List Nat) : ∀ (bss : List (List Nat)) (p j : Nat), j < bss.length → ((frontB p (bss.map fun b => (b, true)) ++ rest).drop (4 * j)).take 4 = le (p + lenB (bss.take j)) 4
  | [], p, j, h => by simp at h
  | b :: r, p, 0, h => by
    rw [List.map_cons, frontB]
    simp only [if_true, List.append_assoc, Nat.mul_zero, List.drop_zero, List.take_zero]
    rw [List.take_append_of_le_length (by rw [le_length]; exact Nat.le_refl _), List.take_of_length_le (by rw [le_length]; exact Nat.le_refl _)]
    rfl
  | b :: r, p, j + 1, h => by
    rw [List.map_cons, frontB]
    simp only [if_true, List.append_assoc]
    have h4 : (le p 4).length = 4 := le_length _ _
    rw [show 4 * (j + 1) = (le p 4).length + 4 * j by rw [h4]; omega, List.drop_append, List.take_succ_cons, lenB_cons]
    have e : List.drop ((le p 4).length + 4 * j) (le p 4) = [] := List.drop_eq_nil_of_le (by omega)
    rw [e, List.nil_append, show (le p 4).length + 4 * j - (le p 4).length = 4 * j by omega, front_at rest r (p + b.length) j (by simpa using h), Nat.add_assoc]
theorem flat_part : ∀ (bss : List (List Nat)) (i : Nat) (x : List Nat), bss[i]? = some x → (bss.flatten.drop (lenB (bss.take i))).take x.length = x
  | [], i, x, h => by simp at h
  | b :: r, 0, x, h => by
    simp at h
    subst h
    simp [lenB]
  | b :: r, i + 1, x, h => by
    rw [List.take_succ_cons, lenB_cons, List.flatten_cons, List.drop_append, List.drop_eq_nil_of_le (by omega), List.nil_append, show b.length + lenB (r.take i) - b.length = lenB (r.take i) by omega]
    exact flat_part r i x (by simpa using h)
theorem lenB_succ (bss : List (List Nat)) (i : Nat) (x : List Nat) (h : bss[i]? = some x) : lenB (bss.take (i + 1)) = lenB (bss.take i) + x.length := by
  have hi := (List.getElem?_eq_some_iff.1 h).1
  rw [List.getElem?_eq_getElem hi] at h
  cases h
  rw [List.take_succ_eq_append_getElem hi]
  have e : ∀ (a : List (List Nat)) (b : List Nat), lenB (a ++ [b]) = lenB a + b.length := fun a b => by simp [lenB]
  exact e _ _
end Go.Proofs.Ytfocalbfefnbnaa

/- Numbers as eight bytes, there and back. -/
namespace Go.Proofs.Ytfocalbfefnbnaa
open Go.RowKit
set_option maxRecDepth 100000

theorem tk_le8 (n : Nat) (h : n < 18446744073709551616) : tk (le n 8) = n := by
  unfold tk
  rw [le_putL]
  exact takeV_put8 n h
end Go.Proofs.Ytfocalbfefnbnaa

/- CodecValidators: its contracts, made one. -/
namespace Go.Proofs.Ytfocalbfefnbnaa
open Go.RowKit
set_option linter.unusedVariables false
set_option linter.unusedSimpArgs false
set_option maxRecDepth 100000

theorem bN_byte (b : Bool) : ∀ z ∈ [bN b], z < 256 := by cases b <;> simp [bN]
theorem vlB (ke : List Nat) (cr : List Nat) (ef : Nat) (sl : Bool) (el : Nat) (ac : Nat) (xi : Nat) (wi : Nat) : cont (vlF ke cr ef sl el ac xi wi) = ke ++ (cr ++ (le ef 8 ++ ([bN sl] ++ (le el 8 ++ (le ac 8 ++ (le xi 8 ++ (le wi 8))))))) := by simp [vlF, numF, rootF, cont, frontB, backB]
theorem vlK_ok : okD (dBox [dRoot, dRoot, dNum, dTruth, dNum, dNum, dNum, dNum]) := by simp [okD, okDs, dBox, dNum, dRoot, dTruth, small, sizeD, sizeS, sizeH]
theorem vlV_enc (ke : List Nat) (cr : List Nat) (ef : Nat) (sl : Bool) (el : Nat) (ac : Nat) (xi : Nat) (wi : Nat) : encV (dBox [dRoot, dRoot, dNum, dTruth, dNum, dNum, dNum, dNum]) (vaV6 ke cr ef sl el ac xi wi) = cont (vlF ke cr ef sl el ac xi wi) := by
  rw [vlB]
  cases sl <;> simp [dBox, dNum, dRoot, vaV6, dTruth, bitN01, bN, encV, encK, kdsV, sizeD, sizeS, sizeH, cont, frontB, backB]
theorem vlV_ok (ke : List Nat) (cr : List Nat) (ef : Nat) (sl : Bool) (el : Nat) (ac : Nat) (xi : Nat) (wi : Nat) (hke : ke.length = 32) (hcr : cr.length = 32) : okV (dBox [dRoot, dRoot, dNum, dTruth, dNum, dNum, dNum, dNum]) (vaV6 ke cr ef sl el ac xi wi) := by
  cases sl <;> simp [dBox, dNum, dRoot, vaV6, dTruth, bitN01, bN, okV, okK, encV, encK, kdsV, sizeD, sizeS, sizeH, lenF, le_length, cont, frontB, backB, hke, hcr]
theorem vlC_six (ke : List Nat) (cr : List Nat) (ef : Nat) (sl : Bool) (el : Nat) (ac : Nat) (xi : Nat) (wi : Nat) : vaC6 ke cr ef sl el ac xi wi = vlC ke cr ef sl el ac xi wi := by simp [vaC6, vaP6, vlC]
theorem vlD_good (ke : List Nat) (cr : List Nat) (ef : Nat) (sl : Bool) (el : Nat) (ac : Nat) (xi : Nat) (wi : Nat) (hke : ke.length = 32) (hcr : cr.length = 32) (hef : ef < 18446744073709551616) (hel : el < 18446744073709551616) (hac : ac < 18446744073709551616) (hxi : xi < 18446744073709551616) (hwi : wi < 18446744073709551616) : vlD (ke ++ (cr ++ (le ef 8 ++ ([bN sl] ++ (le el 8 ++ (le ac 8 ++ (le xi 8 ++ (le wi 8)))))))) = .tuple #[.agg (vlC ke cr ef sl el ac xi wi).toArray, .int .i64 0] := by
  obtain ⟨y2, hy2, hyn2⟩ : ∃ y, le ef 8 = y ∧ y.length = 8 := ⟨_, rfl, le_length _ _⟩
  have e2 : tk y2 = ef := by rw [← hy2]; exact tk_le8 ef hef
  obtain ⟨y4, hy4, hyn4⟩ : ∃ y, le el 8 = y ∧ y.length = 8 := ⟨_, rfl, le_length _ _⟩
  have e4 : tk y4 = el := by rw [← hy4]; exact tk_le8 el hel
  obtain ⟨y5, hy5, hyn5⟩ : ∃ y, le ac 8 = y ∧ y.length = 8 := ⟨_, rfl, le_length _ _⟩
  have e5 : tk y5 = ac := by rw [← hy5]; exact tk_le8 ac hac
  obtain ⟨y6, hy6, hyn6⟩ : ∃ y, le xi 8 = y ∧ y.length = 8 := ⟨_, rfl, le_length _ _⟩
  have e6 : tk y6 = xi := by rw [← hy6]; exact tk_le8 xi hxi
  obtain ⟨y7, hy7, hyn7⟩ : ∃ y, le wi 8 = y ∧ y.length = 8 := ⟨_, rfl, le_length _ _⟩
  have e7 : tk y7 = wi := by rw [← hy7]; exact tk_le8 wi hwi
  obtain ⟨y3, hy3, hyn3⟩ : ∃ y, [bN sl] = y ∧ y.length = 1 := ⟨_, rfl, rfl⟩
  have e3 : decide (tk y3 = 1) = sl := by rw [← hy3]; cases sl <;> rfl
  have eb3 : decide (tk y3 ≤ 1) = true := by rw [← hy3]; cases sl <;> rfl
  rw [hy2, hy3, hy4, hy5, hy6, hy7]
  obtain ⟨BS, hBS⟩ : ∃ B, ke ++ (cr ++ (y2 ++ (y3 ++ (y4 ++ (y5 ++ (y6 ++ (y7))))))) = B := ⟨_, rfl⟩
  have hl : BS.length = 105 := by rw [← hBS]; simp [hke, hcr, hyn2, hyn3, hyn4, hyn5, hyn6, hyn7]
  have d0 : BS.drop 0 = ke ++ (cr ++ (y2 ++ (y3 ++ (y4 ++ (y5 ++ (y6 ++ (y7))))))) := by rw [List.drop_zero]; exact hBS.symm
  have d1 : BS.drop 32 = cr ++ (y2 ++ (y3 ++ (y4 ++ (y5 ++ (y6 ++ (y7)))))) := by rw [show (32 : Nat) = 0 + 32 from rfl, ← List.drop_drop, d0]; exact List.drop_left' hke
  have d2 : BS.drop 64 = y2 ++ (y3 ++ (y4 ++ (y5 ++ (y6 ++ (y7))))) := by rw [show (64 : Nat) = 32 + 32 from rfl, ← List.drop_drop, d1]; exact List.drop_left' hcr
  have d3 : BS.drop 72 = y3 ++ (y4 ++ (y5 ++ (y6 ++ (y7)))) := by rw [show (72 : Nat) = 64 + 8 from rfl, ← List.drop_drop, d2]; exact List.drop_left' hyn2
  have d4 : BS.drop 73 = y4 ++ (y5 ++ (y6 ++ (y7))) := by rw [show (73 : Nat) = 72 + 1 from rfl, ← List.drop_drop, d3]; exact List.drop_left' hyn3
  have d5 : BS.drop 81 = y5 ++ (y6 ++ (y7)) := by rw [show (81 : Nat) = 73 + 8 from rfl, ← List.drop_drop, d4]; exact List.drop_left' hyn4
  have d6 : BS.drop 89 = y6 ++ (y7) := by rw [show (89 : Nat) = 81 + 8 from rfl, ← List.drop_drop, d5]; exact List.drop_left' hyn5
  have d7 : BS.drop 97 = y7 := by rw [show (97 : Nat) = 89 + 8 from rfl, ← List.drop_drop, d6]; exact List.drop_left' hyn6
  rw [hBS]
  have t0 : (BS.drop 0).take 32 = ke := by rw [d0]; exact List.take_left' hke
  have t1 : (BS.drop 32).take 32 = cr := by rw [d1]; exact List.take_left' hcr
  have t2 : (BS.drop 64).take 8 = y2 := by rw [d2]; exact List.take_left' hyn2
  have t3 : (BS.drop 72).take 1 = y3 := by rw [d3]; exact List.take_left' hyn3
  have t4 : (BS.drop 73).take 8 = y4 := by rw [d4]; exact List.take_left' hyn4
  have t5 : (BS.drop 81).take 8 = y5 := by rw [d5]; exact List.take_left' hyn5
  have t6 : (BS.drop 89).take 8 = y6 := by rw [d6]; exact List.take_left' hyn6
  have t7 : (BS.drop 97).take 8 = y7 := by rw [d7]; exact List.take_of_length_le (by omega)
  have t : vlTake BS 105 (0, false) = vlC ((BS.drop 0).take 32) ((BS.drop 32).take 32) (tk ((BS.drop 64).take 8)) (decide (tk ((BS.drop 72).take 1) = 1)) (tk ((BS.drop 73).take 8)) (tk ((BS.drop 81).take 8)) (tk ((BS.drop 89).take 8)) (tk ((BS.drop 97).take 8)) := by
    unfold vlTake
    have e : bolS BS 105 (fixS 105 8 (fixS 105 32 (fixS 105 32 (0, false)))) = (73, false) := by
      show (73, (false || decide (1 < tk ((BS.drop 72).take 1)))) = _
      have h1 : tk y3 ≤ 1 := by simpa using eb3
      rw [t3, show decide (1 < tk y3) = false by simp; omega]
      rfl
    rw [e]
    rfl
  have ho : okVl BS = true := by unfold okVl; rw [t3, eb3, hl]; rfl
  unfold vlD
  rw [if_pos ho]
  rw [t, t0, t1, t2, t3, t4, t5, t6, t7, e2, e3, e4, e5, e6, e7]
  rfl
theorem vl_walk (ke : List Nat) (cr : List Nat) (ef : Nat) (sl : Bool) (el : Nat) (ac : Nat) (xi : Nat) (wi : Nat) (hke : ke.length = 32) (hke8 : ∀ z ∈ ke, z < 256) (hcr : cr.length = 32) (hcr8 : ∀ z ∈ cr, z < 256) (hef : ef < 18446744073709551616) (hel : el < 18446744073709551616) (hac : ac < 18446744073709551616) (hxi : xi < 18446744073709551616) (hwi : wi < 18446744073709551616) (w : World) :
    Calls Try.prog 3 #[.agg (vlC ke cr ef sl el ac xi wi).toArray] w fun e w' => e = .returned (.bool true) ∧ Below w.heap.size w w' := by
  have hB := vlB ke cr ef sl el ac xi wi
  refine codecValidator_walk (vlC ke cr ef sl el ac xi wi) (vlC (zeros 32) (zeros 32) 0 false 0 0 0 0) (vaV6 ke cr ef sl el ac xi wi) (cont (vlF ke cr ef sl el ac xi wi)) (dBox [dRoot, dRoot, dNum, dTruth, dNum, dNum, dNum, dNum]) w Try.ty26 (by rw [(show (vlC ke cr ef sl el ac xi wi).length = _ from vlC_length ke cr ef sl el ac xi wi hke hcr)]; rfl) (vlC_one _ _ _ _ _ _ _ _) ?_ (fun wq => ?_) (fun wq => encVl_any ke cr ef sl el ac xi wi wq hke hke8 hcr hcr8 hef hel hac hxi hwi) (fun v wq hI => ?_) (fun wq => dvl_any wq) (fun p u wq hD hV => ?_) (fun u v wq hu hv => ?_)
  · rw [hB]
    intro z hz
    simp only [List.mem_append] at hz
    rcases hz with hz | hz | hz | hz | hz | hz | hz | hz
    · exact hke8 z hz
    · exact hcr8 z hz
    · exact le_byte _ _ z hz
    · exact bN_byte sl z hz
    · exact le_byte _ _ z hz
    · exact le_byte _ _ z hz
    · exact le_byte _ _ z hz
    · exact le_byte _ _ z hz
  · rw [← vlC_six ke cr ef sl el ac xi wi]
    exact vaV6_any ke cr ef sl el ac xi wi ⟨hke, hke8⟩ ⟨hcr, hcr8⟩ hef hel hac hxi hwi wq
  · have h := toVl_any v _ wq hI (by rw [hB]; simp [le_length, hke, hcr])
    rw [hB, vlD_good ke cr ef sl el ac xi wi hke hcr hef hel hac hxi hwi] at h
    exact h
  · have h := enc_any _ _ u p wq vlK_ok (vlV_ok ke cr ef sl el ac xi wi hke hcr) hD hV
    rw [vlV_enc] at h
    exact h
  · have h := same_any _ _ u v wq hu hv
    rw [sameV_refl] at h
    exact h
end Go.Proofs.Ytfocalbfefnbnaa

/- Structs that came in by value. -/
namespace Go.Proofs.Ytfocalbfefnbnaa
open Go.RowKit Go.Deep Go.WideShapes
set_option linter.unusedVariables false
set_option linter.unusedSimpArgs false
set_option maxRecDepth 100000

abbrev Rt (r : List Nat) : Prop := r.length = 32 ∧ ∀ z ∈ r, z < 256
theorem cellsRt : Try.prog.cellsOf 23 = 32 := by kernel_rfl
theorem cellsU8 : Try.prog.cellsOf 5 = 1 := by kernel_rfl
theorem cellsU64 : Try.prog.cellsOf 24 = 1 := by kernel_rfl
/-- Parts of a list, one behind the other. -/
def cutAt {α : Type} (cs : List α) : Nat → List Nat → List (List α)
  | _, [] => []
  | o, k :: ks => (cs.drop o).take k :: cutAt cs (o + k) ks
theorem cut_flat {α : Type} (cs : List α) : ∀ (ks : List Nat) (o : Nat), o + ks.sum = cs.length → cs.drop o = (cutAt cs o ks).flatten := by
  intro ks
  induction ks with
  | nil => intro o h; simp at h; rw [h, List.drop_length]; rfl
  | cons k ks ih =>
    intro o h
    rw [cutAt, List.flatten_cons, ← ih (o + k) (by simp at h; omega), ← List.drop_drop, List.take_append_drop]
section
variable {H : Type} {enc : TypeId × Value → H} {W : World} {b0 : Nat} {sp : Nat → Bool} {held : Bool}
theorem root_of_trod {fuel : Nat} {cs : List Value} {x : DataW H × List MemPlace} (h : DataW.trod enc Try.prog W b0 sp held fuel 23 cs = some x) : ∃ r : List Nat, cs = cellsB r ∧ r.length = 32 ∧ ∀ z ∈ r, z < 256 := by
  obtain ⟨xs, m, _, _, hl, hxs, hel⟩ := DataW.trod_array Try.und23 h
  rw [cellsRt] at hl
  have key : ∀ i (hi : i < cs.length), ∃ n : Nat, cs[i] = .int .u8 (n : Int) ∧ n < 256 := by
    intro i hi
    have h1 := hel i (by omega)
    rw [cellsU8, Nat.mul_one, List.getElem?_eq_getElem (by omega)] at h1
    obtain ⟨n, e1, _, hw⟩ := DataW.trod_int Try.underlying5 h1
    have hb := bounds_u8 hw
    have e2 : (cs.drop i).take 1 = [cs[i]] := by
      rw [List.drop_eq_getElem_cons hi, List.take_succ_cons, List.take_zero]
    have e3 : [cs[i]] = [Value.int .u8 n] := e2.symm.trans e1
    refine ⟨n.toNat, ?_, by omega⟩
    have e4 : cs[i] = Value.int .u8 n := by simpa using e3
    rw [e4]
    congr 1
    omega
  refine ⟨cs.map fun v => (intOf v).toNat, ?_, by simp [hl], ?_⟩
  · unfold cellsB
    apply List.ext_getElem
    · simp
    · intro i h1 h2
      obtain ⟨n, e, hn⟩ := key i h1
      simp [e, intOf]
  · intro z hz
    obtain ⟨v, hv, rfl⟩ := List.mem_map.1 hz
    obtain ⟨i, hi, rfl⟩ := List.mem_iff_getElem.1 hv
    obtain ⟨n, e, hn⟩ := key i hi
    simp [e, intOf, hn]
theorem num_of_trod {fuel : Nat} {cs : List Value} {x : DataW H × List MemPlace} (h : DataW.trod enc Try.prog W b0 sp held fuel 24 cs = some x) : ∃ n : Nat, cs = [.int .u64 (n : Nat)] ∧ n < 18446744073709551616 := by
  obtain ⟨i, e, _, hw⟩ := DataW.trod_int Try.underlying24 h
  have hb := bounds_u64 hw
  refine ⟨i.toNat, ?_, by omega⟩
  rw [e, Int.toNat_of_nonneg hb.1]
theorem cellsBo : Try.prog.cellsOf 4 = 1 := by kernel_rfl
theorem bool_of_trod {fuel : Nat} {cs : List Value} {x : DataW H × List MemPlace} (h : DataW.trod enc Try.prog W b0 sp held fuel 4 cs = some x) : ∃ b : Bool, cs = [.bool b] := by
  obtain ⟨b, e, _⟩ := DataW.trod_bool Try.underlying4 h
  exact ⟨b, e⟩
theorem cells_va : Try.prog.cellsOf 26 = 70 := by kernel_rfl
theorem va_of_trod {fuel : Nat} {cs : List Value} {x : DataW H × List MemPlace} (h : DataW.trod enc Try.prog W b0 sp held fuel 26 cs = some x) : ∃ (zk : List Nat) (zcr : List Nat) (zef : Nat) (zsl : Bool) (zel : Nat) (zac : Nat) (zxi : Nat) (zwi : Nat), cs = vlC zk zcr zef zsl zel zac zxi zwi ∧ Rt zk ∧ Rt zcr ∧ zef < 18446744073709551616 ∧ zel < 18446744073709551616 ∧ zac < 18446744073709551616 ∧ zxi < 18446744073709551616 ∧ zwi < 18446744073709551616 := by
  obtain ⟨xs, n, _, _, hl, hlen, hf⟩ := DataW.trod_struct Try.underlying26 h
  rw [cells_va] at hl
  have hx : xs.length = 8 := hlen
  have f0 : ∃ y, DataW.trod enc Try.prog W b0 sp held n 23 ((cs.drop 0).take 32) = some y := by
    have := hf 0 _ rfl
    change DataW.trod enc Try.prog W b0 sp held n 23 (List.take (Try.prog.cellsOf 23) (List.drop 0 cs)) = xs[0]? at this
    rw [cellsRt, List.getElem?_eq_getElem (by omega)] at this
    exact ⟨_, this⟩
  obtain ⟨y0, f0⟩ := f0
  obtain ⟨zk, e0, hzk⟩ := root_of_trod f0
  have f1 : ∃ y, DataW.trod enc Try.prog W b0 sp held n 23 ((cs.drop 32).take 32) = some y := by
    have := hf 1 _ rfl
    change DataW.trod enc Try.prog W b0 sp held n 23 (List.take (Try.prog.cellsOf 23) (List.drop 32 cs)) = xs[1]? at this
    rw [cellsRt, List.getElem?_eq_getElem (by omega)] at this
    exact ⟨_, this⟩
  obtain ⟨y1, f1⟩ := f1
  obtain ⟨zcr, e1, hzcr⟩ := root_of_trod f1
  have f2 : ∃ y, DataW.trod enc Try.prog W b0 sp held n 24 ((cs.drop 64).take 1) = some y := by
    have := hf 2 _ rfl
    change DataW.trod enc Try.prog W b0 sp held n 24 (List.take (Try.prog.cellsOf 24) (List.drop 64 cs)) = xs[2]? at this
    rw [cellsU64, List.getElem?_eq_getElem (by omega)] at this
    exact ⟨_, this⟩
  obtain ⟨y2, f2⟩ := f2
  obtain ⟨zef, e2, hzef⟩ := num_of_trod f2
  have f3 : ∃ y, DataW.trod enc Try.prog W b0 sp held n 4 ((cs.drop 65).take 1) = some y := by
    have := hf 3 _ rfl
    change DataW.trod enc Try.prog W b0 sp held n 4 (List.take (Try.prog.cellsOf 4) (List.drop 65 cs)) = xs[3]? at this
    rw [cellsBo, List.getElem?_eq_getElem (by omega)] at this
    exact ⟨_, this⟩
  obtain ⟨y3, f3⟩ := f3
  obtain ⟨zsl, e3⟩ := bool_of_trod f3
  have f4 : ∃ y, DataW.trod enc Try.prog W b0 sp held n 24 ((cs.drop 66).take 1) = some y := by
    have := hf 4 _ rfl
    change DataW.trod enc Try.prog W b0 sp held n 24 (List.take (Try.prog.cellsOf 24) (List.drop 66 cs)) = xs[4]? at this
    rw [cellsU64, List.getElem?_eq_getElem (by omega)] at this
    exact ⟨_, this⟩
  obtain ⟨y4, f4⟩ := f4
  obtain ⟨zel, e4, hzel⟩ := num_of_trod f4
  have f5 : ∃ y, DataW.trod enc Try.prog W b0 sp held n 24 ((cs.drop 67).take 1) = some y := by
    have := hf 5 _ rfl
    change DataW.trod enc Try.prog W b0 sp held n 24 (List.take (Try.prog.cellsOf 24) (List.drop 67 cs)) = xs[5]? at this
    rw [cellsU64, List.getElem?_eq_getElem (by omega)] at this
    exact ⟨_, this⟩
  obtain ⟨y5, f5⟩ := f5
  obtain ⟨zac, e5, hzac⟩ := num_of_trod f5
  have f6 : ∃ y, DataW.trod enc Try.prog W b0 sp held n 24 ((cs.drop 68).take 1) = some y := by
    have := hf 6 _ rfl
    change DataW.trod enc Try.prog W b0 sp held n 24 (List.take (Try.prog.cellsOf 24) (List.drop 68 cs)) = xs[6]? at this
    rw [cellsU64, List.getElem?_eq_getElem (by omega)] at this
    exact ⟨_, this⟩
  obtain ⟨y6, f6⟩ := f6
  obtain ⟨zxi, e6, hzxi⟩ := num_of_trod f6
  have f7 : ∃ y, DataW.trod enc Try.prog W b0 sp held n 24 ((cs.drop 69).take 1) = some y := by
    have := hf 7 _ rfl
    change DataW.trod enc Try.prog W b0 sp held n 24 (List.take (Try.prog.cellsOf 24) (List.drop 69 cs)) = xs[7]? at this
    rw [cellsU64, List.getElem?_eq_getElem (by omega)] at this
    exact ⟨_, this⟩
  obtain ⟨y7, f7⟩ := f7
  obtain ⟨zwi, e7, hzwi⟩ := num_of_trod f7
  have hc := cut_flat cs [32, 32, 1, 1, 1, 1, 1, 1] 0 (by rw [hl]; rfl)
  rw [List.drop_zero] at e0
  simp only [cutAt, List.drop_zero, Nat.zero_add, Nat.reduceAdd, e0, e1, e2, e3, e4, e5, e6, e7] at hc
  refine ⟨zk, zcr, zef, zsl, zel, zac, zxi, zwi, by rw [hc]; simp [vlC], hzk, hzcr, hzef, hzel, hzac, hzxi, hzwi⟩
theorem open_va {base : Nat} {v : Value} {d : DataW H} {p : List MemPlace} (hv : Value.okWide Try.prog W .any base 26 v) (h : DataW.Trod enc Try.prog W b0 sp held 26 v d p) : ∃ (zk : List Nat) (zcr : List Nat) (zef : Nat) (zsl : Bool) (zel : Nat) (zac : Nat) (zxi : Nat) (zwi : Nat), v = .agg (vlC zk zcr zef zsl zel zac zxi zwi).toArray ∧ Rt zk ∧ Rt zcr ∧ zef < 18446744073709551616 ∧ zel < 18446744073709551616 ∧ zac < 18446744073709551616 ∧ zxi < 18446744073709551616 ∧ zwi < 18446744073709551616 := by
  obtain ⟨cs, rfl, _⟩ := okWide_struct Try.underlying26 hv
  obtain ⟨fuel, hf⟩ := h
  obtain ⟨zk, zcr, zef, zsl, zel, zac, zxi, zwi, e, hzk, hzcr, hzef, hzel, hzac, hzxi, hzwi⟩ := va_of_trod hf
  exact ⟨zk, zcr, zef, zsl, zel, zac, zxi, zwi, by rw [← Array.toList_inj.1 (show cs.toList = (vlC zk zcr zef zsl zel zac zxi zwi).toArray.toList from e)], hzk, hzcr, hzef, hzel, hzac, hzxi, hzwi⟩
end
end Go.Proofs.Ytfocalbfefnbnaa

