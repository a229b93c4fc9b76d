/- Own texts of the proof, joined: DecPs Val6 Va6Header Va6SignedHeader Va6ProposerSlashing KdHd KdSh KdPs LenB TkLe Ps5 Open5p. -/
import Derived.Test.YtoajeencniomoaaGreatH2
import Derived.ProofKit
import Derived.OpenShut
import Derived.ShutString
import Derived.ChangeOld
import Derived.Deep.Slices
import Derived.SevenTiedAt
import Derived.Stop.Joined
/- ProposerSlashings taken: answer, decode, ToProposerSlashing. -/
namespace Go.Proofs.YtoajeencniomoaaGreat
open Go.RowKit Go.Shelf
set_option linter.unusedVariables false
set_option maxRecDepth 100000

def psZ : List Value := psC 0 0 (zeros 32) (zeros 32) (zeros 32) (zeros 32) 0 0 (zeros 32) (zeros 32) (zeros 32) (zeros 32)
theorem psZ_length : psZ.length = 260 := rfl
theorem psZ_one : psZ.toArray.all (·.oneCell') = true := by kernel_rfl
/-- What a good or a bad ProposerSlashing answers. -/
def psA (t : Bool) (C : List Value) : Value := .tuple #[.agg (if t then C else psZ).toArray, .int .i64 (if t then 0 else 3)]
theorem psA_form (t : Bool) (C : List Value) (hl : C.length = 260) (h1 : C.toArray.all (·.oneCell') = true) : ∃ (C' : List Value) (n : Int), psA t C = .tuple #[.agg C'.toArray, .int .i64 n] ∧ C'.length = 260 ∧ C'.toArray.all (·.oneCell') = true := by
  cases t
  · exact ⟨psZ, 3, rfl, psZ_length, psZ_one⟩
  · exact ⟨C, 0, rfl, hl, h1⟩
/-- What ToProposerSlashing answers. -/
def psD (bs : List Nat) : Value := if bs.length = 288 then psA true (psTake bs 288 (0, false)) else psA false []

set_option maxHeartbeats 1000000 in
theorem answerPs_any (C : List Value) (t : Bool) (w : World) (hl : C.length = 260) (h1 : C.toArray.all (·.oneCell') = true) :
    Calls Tryz.prog 122 #[.agg C.toArray, .bool t] w fun x w' => x = .returned (psA t C) ∧ Below w.heap.size w w' := by
  have HL := hid hl
  have H1C := hid h1
  clear hl h1
  cases t with
  | true =>
    go_enter Tryz.func122, Tryz.ntmps122
    go_wp2_with (first
      | (refine wpList_box_c rfl 2 rfl (.tmp 0) rfl C rfl ?_; intro w1 H1 B1 S1)
      | (refine wpList_alloc_c Tryz.ty65 rfl 4 rfl rfl ?_; intro w2 H2 B2 S2; rw [S1] at H2 S2; rw [S1])
      | (refine wpList_load_c Tryz.ty65 rfl (.tmp 2) rfl w.heap.size C rfl (by rw [HL.out]; rfl) (H1.keep B2) ?_)
      | (refine wpList_store_c Tryz.ty65 rfl (.tmp 4) (.tmp 10) rfl (w.heap.size + 1) C rfl rfl (by rw [HL.out]; rfl) H1C.out _ H2 rfl ?_; intro w3 H3 O3))
    refine bodyPost_ret (results_c Tryz.ty65 rfl _ w3 (w.heap.size + 1) C (.int .i64 0) rfl rfl H3 (by rw [HL.out]; rfl)) rfl ⟨rfl, ?_⟩
    exact below_only (B1.trans (B2.mono (by omega))) O3 (by omega)
  | false =>
    go_enter Tryz.func122, Tryz.ntmps122
    go_wp2_with (first
      | (refine wpList_box_c rfl 2 rfl (.tmp 0) rfl C rfl ?_; intro w1 H1 B1 S1)
      | (refine wpList_alloc_c Tryz.ty65 rfl 4 rfl rfl ?_; intro w2 H2 B2 S2; rw [S1] at H2 S2; rw [S1])
      | (refine wpList_alloc_c Tryz.ty65 rfl 6 rfl rfl ?_; intro w4 H4 B4 S4; rw [S2] at H4 S4; rw [S2])
      | (refine wpList_load_c Tryz.ty65 rfl (.tmp 6) rfl (w.heap.size + 1 + 1) psZ rfl rfl H4 ?_)
      | (refine wpList_store_c Tryz.ty65 rfl (.tmp 4) (.tmp 9) rfl (w.heap.size + 1) psZ rfl rfl rfl psZ_one _ (H2.keep B4) rfl ?_; intro w3 H3 O3))
    refine bodyPost_ret (results_c Tryz.ty65 rfl _ w3 (w.heap.size + 1) psZ (.int .i64 3) rfl rfl H3 rfl) rfl ⟨rfl, ?_⟩
    exact below_only (B1.trans ((B2.mono (by omega)).trans (B4.mono (by omega)))) O3 (by omega)

theorem partsPs {g : Nat} {S : Nat → Prop} {bs : List Nat} (w : World) (h : Rd w g S bs 288 (psS 288 (0, decide (bs.length < 288))).1 [] (psS 288 (0, decide (bs.length < 288))).2) (hl : bs.length ≤ 140737488355328) :
    Calls Tryz.prog 64 #[.pointer (some ⟨g, 0, none⟩)] w fun e w' => ∃ u, e = .returned (.tuple #[u, .bool (decide (bs.length = 288))]) ∧ Below w.heap.size w w' := by
  by_cases hlt : bs.length < 288
  · have h1 : decide (bs.length < 288) = true := by simp [hlt]
    have h2 : decide (bs.length = 288) = false := by simp; omega
    rw [h1] at h
    rw [h2]
    refine (parts_bad w h (.inl rfl) (by decide) hl (by simp)).mono ?_
    rintro e w' ⟨rfl, n, rfl⟩
    exact ⟨_, rfl, below_drew0 (Below.refl _ _) n⟩
  · have h1 : decide (bs.length < 288) = false := by simp; omega
    rw [h1] at h
    by_cases heq : bs.length = 288
    · rw [show decide (bs.length = 288) = true by simp [heq]]
      refine (parts_ok w h (fun _ => heq) (fun i hi => by simp at hi) (by decide) hl (by simp)).mono ?_
      rintro e w' ⟨u, rfl, _, hb⟩
      exact ⟨u, rfl, hb⟩
    · rw [show decide (bs.length = 288) = false by simp [heq]]
      refine (parts_bad w h (.inr (.inr ⟨rfl, heq⟩)) (by decide) hl (by simp)).mono ?_
      rintro e w' ⟨rfl, n, rfl⟩
      exact ⟨_, rfl, below_drew0 (Below.refl _ _) n⟩

theorem ps_ans (bs : List Nat) (C : List Value) (h : psTake bs 288 (0, decide (bs.length < 288)) = C) : psA (decide (bs.length = 288)) C = psD bs := by
  unfold psD
  by_cases hl : bs.length = 288
  · rw [if_pos hl, ← h, show decide (bs.length < 288) = false by simp; omega, show decide (bs.length = 288) = true by simp [hl]]
  · rw [if_neg hl, show decide (bs.length = 288) = false by simp [hl]]
    rfl

set_option maxHeartbeats 1000000 in
theorem decodePs_any (v : Value) (bs : List Nat) (w : World) (hB : IsB w v bs) (hl : bs.length ≤ 140737488355328) :
    Calls Tryz.prog 73 #[v, .int .i64 288, .func (.func 74) #[] #[]] w fun x w' => x = .returned (psD bs) ∧ Below w.heap.size w w' := by
  have HI := hid hB
  obtain ⟨⟨ao, cap, rfl, _⟩, _⟩ := hB
  go_enter Tryz.func73, Tryz.ntmps73
  go_wp2_with ((with_reducible refine at_list' ?_); first
    | (refine wpList_alloc_c Tryz.ty65 rfl 6 rfl rfl ?_; intro w1 H1 B1 S1))
  have HC := hid (read_any _ bs 288 w1 (HI.out.keep B1) (by decide) hl)
  have HH1 := hid H1
  have HB1 := hid B1
  have s1 := S1
  clear H1 B1 S1 HI
  refine HC.out.mono ?_
  rintro e w2 ⟨g, S, hg, rfl, q1, q2, q3⟩
  have HT := hid (takePs_any (0, decide (bs.length < 288)) w2 q1 (by decide) hl)
  have HH2 := hid (HH1.out.keep q3)
  have HB2 := hid (HB1.out.trans (q3.mono (by omega)))
  have s2 := q3.size
  have hgl := q1.gt
  clear q1 q2 q3 HC HH1 HB1
  go_wp2_with fail
  refine HT.out.mono ?_
  rintro e w3 ⟨rfl, h32, h33, q1, q2⟩
  have HH3 := hid (HH2.out.grown q2 (by omega))
  have s3 := q2.size
  have HB3 : Hid (Below w.heap.size w w3) := hid ⟨q2.os.trans HB2.out.os, q2.tape.trans HB2.out.tape, q2.output.trans HB2.out.output, by omega, fun j hj => (q2.block j (by omega) (fun h => by have := Option.some.inj h; omega)).trans (HB2.out.block j hj)⟩
  have HR := hid q1
  have H32 := hid h32
  have H33 := hid h33
  clear q1 q2 h32 h33 HT HH2 HB2
  obtain ⟨E, hE⟩ : ∃ E, psTake bs 288 (0, decide (bs.length < 288)) = E := ⟨_, rfl⟩
  rw [hE] at H32 H33
  rw [hE]
  have HE := hid hE
  clear hE
  go_wp2_with ((with_reducible refine at_list' ?_); first
    | (refine wpList_alloc_c Tryz.ty65 rfl 9 rfl rfl ?_; intro w4 H4 B4 S4)
    | (refine wpList_store_c Tryz.ty65 rfl (.tmp 9) (.tmp 17) rfl w3.heap.size (E) rfl rfl (by rw [H32.out]; rfl) H33.out _ H4 rfl ?_; intro w5 H5 O5))
  have s5 := O5.size
  have B35 : Below w3.heap.size w3 w5 := below_only B4 O5 (Nat.le_refl _)
  have HP := hid (partsPs w5 (HR.out.below B35) hl)
  have HB5 := hid (HB3.out.trans (B35.mono (by omega)))
  have HH5 := hid (HH3.out.keep B35)
  have HX5 := hid H5
  have HA := hid (ps_ans bs E HE.out)
  clear H4 B4 O5 H5 B35 HR HB3 HH3 HE
  refine HP.out.mono ?_
  rintro e w6 ⟨u, rfl, B6⟩
  have HB6 := hid (HB5.out.trans (B6.mono (by omega)))
  have HH6 := hid (HH5.out.keep B6)
  have HX6 := hid (HX5.out.keep B6)
  have s6 := B6.size
  clear B6 HP HB5 HH5 HX5
  obtain ⟨t, ht⟩ : ∃ t, decide (bs.length = 288) = t := ⟨_, rfl⟩
  rw [ht]
  rw [ht] at HA
  obtain ⟨C, n, hC, hCl, hC1⟩ := psA_form t E H32.out H33.out
  have HC := hid hC
  have HCl := hid hCl
  have HC1 := hid hC1
  clear ht hC hCl hC1
  go_wp2_with ((with_reducible refine at_list' ?_); first
    | (refine wpList_load_c Tryz.ty65 rfl (.tmp 9) rfl w3.heap.size (E) rfl (by rw [H32.out]; rfl) HX6.out ?_))
  have HN := hid (answerPs_any E t w6 H32.out H33.out)
  rw [HC.out] at HN
  refine HN.out.mono ?_
  rintro e w7 ⟨rfl, B7⟩
  have HB7 := hid (HB6.out.trans (B7.mono (by omega)))
  have HH7 := hid (HH6.out.keep B7)
  have s7 := B7.size
  clear B7 HB6 HH6 HN HX6
  go_wp2_with ((with_reducible refine at_list' ?_); first
    | (refine wpList_store_c Tryz.ty65 rfl (.tmp 6) (.tmp 26) rfl w.heap.size C rfl rfl (by rw [HCl.out]; rfl) HC1.out _ HH7.out rfl ?_; intro w8 H8 O8))
  refine bodyPost_ret (results_c Tryz.ty65 rfl _ w8 w.heap.size C (.int .i64 n) rfl rfl H8 (by rw [HCl.out]; rfl)) rfl ⟨?_, below_only HB7.out O8 (Nat.le_refl _)⟩
  rw [← HC.out, HA.out]

set_option maxHeartbeats 1000000 in
theorem toPs_any (v : Value) (bs : List Nat) (w : World) (hB : IsB w v bs) (hl : bs.length ≤ 140737488355328) :
    Calls Tryz.prog 27 #[v] w fun x w' => x = .returned (psD bs) ∧ Below w.heap.size w w' := by
  have HI := hid hB
  obtain ⟨⟨ao, cap, rfl, _⟩, _⟩ := hB
  obtain ⟨C, n, hC, hCl, hC1⟩ : ∃ (C : List Value) (n : Int), psD bs = .tuple #[.agg C.toArray, .int .i64 n] ∧ C.length = 260 ∧ C.toArray.all (·.oneCell') = true := by
    rw [← ps_ans bs _ rfl]
    obtain ⟨h1, h2⟩ := psTake_len bs 288 (0, decide (bs.length < 288)) (Nat.zero_le _) (fun h => by simpa using h)
    exact psA_form _ _ h1 h2
  have HC := hid hC
  have HCl := hid hCl
  have HC1 := hid hC1
  rw [hC]
  clear hC hCl hC1
  go_enter Tryz.func27, Tryz.ntmps27
  go_wp2_with ((with_reducible refine at_list' ?_); first
    | (refine wpList_alloc_c Tryz.ty65 rfl 2 rfl rfl ?_; intro w1 H1 B1 S1))
  have HN := hid (decodePs_any _ bs w1 (HI.out.keep B1) hl)
  rw [HC.out] at HN
  have HH := hid H1
  have HB := hid B1
  have s1 := S1
  clear H1 B1 S1 HI
  refine HN.out.mono ?_
  rintro e w7 ⟨rfl, B7⟩
  have HB7 := hid (HB.out.trans (B7.mono (by omega)))
  have HH7 := hid (HH.out.keep B7)
  have s7 := B7.size
  clear B7 HN HH HB
  go_wp2_with ((with_reducible refine at_list' ?_); first
    | (refine wpList_store_c Tryz.ty65 rfl (.tmp 2) (.tmp 6) rfl w.heap.size C rfl rfl (by rw [HCl.out]; rfl) HC1.out _ HH7.out rfl ?_; intro w8 H8 O8))
  refine bodyPost_ret (results_c Tryz.ty65 rfl _ w8 w.heap.size C (.int .i64 n) rfl rfl H8 (by rw [HCl.out]; rfl)) rfl ⟨rfl, below_only HB7.out O8 (Nat.le_refl _)⟩
end Go.Proofs.YtoajeencniomoaaGreat

/- Values of structs, as parts. -/
namespace Go.Proofs.YtoajeencniomoaaGreat
open Go.RowKit Go.Shelf
set_option linter.unusedVariables false
set_option linter.unusedSimpArgs false
set_option maxRecDepth 100000

structure Rt6 (r : List Nat) : Prop where
  len : r.length = 32
  byte : ∀ z ∈ r, z < 256
/-- A part of a struct lies where the parts before it end. -/
theorem seg {ps : List (List Value)} {i : Nat} {c : List Value} {off : Nat} (hc : ps[i]? = some c) (ho : (ps.take i).flatten.length = off) (j : Nat) (v : Value) (h : c[j]? = some v) : ps.flatten[off + j]? = some v := by
  have hi : i < ps.length := (List.getElem?_eq_some_iff.1 hc).1
  have hci : ps[i] = c := by rw [List.getElem?_eq_getElem hi] at hc; exact Option.some.inj hc
  have hps : ps = ps.take i ++ (c :: ps.drop (i + 1)) := by rw [← hci, ← List.drop_eq_getElem_cons hi, List.take_append_drop]
  have hj : j < c.length := (List.getElem?_eq_some_iff.1 h).1
  rw [hps, List.flatten_append, List.flatten_cons, ← ho, List.getElem?_append_right (by omega), Nat.add_sub_cancel_left, List.getElem?_append_left hj]
  exact h
/-- The cells of a row of values. -/
def rowV : List (Vt × Value × Value) → List (List Value)
  | [] => []
  | x :: r => valL x.1.num x.1.root x.2.1 x.2.2 :: rowV r
theorem ksAt_of {w : World} {b : Nat} {t : TypeId} {cs : List Value} (hg : HasC w b t cs) : ∀ (xs : List (Vt × Value × Value)) (off : Nat), (∀ (j : Nat) (v : Value), (rowV xs).flatten[j]? = some v → cs[off + j]? = some v) → (∀ x ∈ xs, VAt w x.1 x.2.1 x.2.2) → KsAt w (xs.map (·.1)) b off := by
  intro xs
  induction xs with
  | nil => intro off _ _; rw [List.map_nil, KsAt]; exact trivial
  | cons x xs ih =>
    intro off h hv
    have hx := hv x (List.mem_cons_self ..)
    have hrl : x.1.root.length = 32 := by
      have h2 := hx
      obtain ⟨y, sb, sk⟩ := x
      cases y
      rw [VAt] at h2
      exact h2.1.2.1
    have hl := valL_length x.1.num x.1.root x.2.1 x.2.2 hrl
    rw [List.map_cons, KsAt]
    refine ⟨⟨x.2.1, x.2.2, hg.range off _ (fun j v hj => h j v ?_), hx⟩, ih (off + 35) (fun j v hj => ?_) (fun y hy => hv y (List.mem_cons_of_mem _ hy))⟩
    · have hjl : j < (valL x.1.num x.1.root x.2.1 x.2.2).length := (List.getElem?_eq_some_iff.1 hj).1
      rw [rowV, List.flatten_cons, List.getElem?_append_left hjl]; exact hj
    · have := h (35 + j) v (by rw [rowV, List.flatten_cons, List.getElem?_append_right (by omega), hl, Nat.add_sub_cancel_left]; exact hj)
      rw [Nat.add_assoc]; exact this
mutual
/-- No bits, no lone part. -/
def wide : Vt → Prop
  | .mk _ _ bs ks => bs = [] ∧ ks.length ≠ 1 ∧ wideK ks
def wideK : List Vt → Prop
  | [] => True
  | x :: r => wide x ∧ wideK r
end
mutual
/-- A store into a block of one value leaves such a value as it is. -/
theorem VAt.aside {w w' : World} {g : Nat} {t : TypeId} {cs : List Value} (hg : HasC w g t cs) (hl : cs.length = 35) (ho : Only g w w') : ∀ (x : Vt) {sb sk : Value}, wide x → VAt w x sb sk → VAt w' x sb sk
  | .mk n r bs ks, sb, sk, hw, h => by
    rw [wide] at hw
    obtain ⟨rfl, h1, hk⟩ := hw
    rw [VAt] at h ⊢
    obtain ⟨h0, ⟨ao, cap, e, e1, e2, e3⟩, ao', cap', h2, h3, h4, h5⟩ := h
    refine ⟨h0, ⟨ao, cap, e, e1, e2, .inl rfl⟩, ao', cap', h2, h3, h4, ?_⟩
    rcases h5 with h5 | ⟨b, off, h6, h7⟩
    · exact .inl h5
    · by_cases hz : ks.length = 0
      · exact .inl hz
      · refine .inr ⟨b, off, h6, KsAt.aside hg hl ho ks hk ?_ h7⟩
        intro eb
        subst eb
        have hx : ks[1]? = some ks[1] := List.getElem?_eq_getElem (by omega)
        obtain ⟨sb', sk', hr, hv⟩ := KsAt.get h7 hx
        have := hr 0 _ (valL_0 _ _ _ _)
        rw [cell_of_row w b _ _ _ (0, 0) hg] at this
        have := (Array.getElem?_eq_some_iff.1 this).1
        simp at this
        omega
theorem KsAt.aside {w w' : World} {g : Nat} {t : TypeId} {cs : List Value} (hg : HasC w g t cs) (hl : cs.length = 35) (ho : Only g w w') : ∀ (l : List Vt) {b off : Nat}, wideK l → b ≠ g → KsAt w l b off → KsAt w' l b off
  | [], b, off, _, _, _ => by rw [KsAt]; exact trivial
  | x :: rest, b, off, hw, hb, h => by
    rw [wideK] at hw
    rw [KsAt] at h ⊢
    obtain ⟨⟨sb, sk, h1, h2⟩, h3⟩ := h
    exact ⟨⟨sb, sk, fun j v hj => (World.cell?_of_block (a := ⟨b, off + j, none⟩) (ho.block b hb)).trans (h1 j v hj), VAt.aside hg hl ho x hw.1 h2⟩, KsAt.aside hg hl ho rest hw.2 hb h3⟩
end
/-- A value of parts. -/
theorem isV_all {w : World} {b k : Nat} {ks : List Vt} (hk : ks.length = k) (hm : k ≤ maxLen) (h : KsAt w ks b 0) : VAt w (.mk 0 (zeros 32) [] ks) nilS (.slice (some ⟨b, 0, none⟩) k k) := by
  subst hk
  rw [VAt]
  exact ⟨⟨by decide, zeros32, zeros_byte 32⟩, isT_nil w, some ⟨b, 0, none⟩, ks.length, rfl, Nat.le_refl _, hm, .inr ⟨b, 0, rfl, h⟩⟩
theorem IsV.leaf (w : World) {n : Nat} {r : List Nat} (hn : n < 18446744073709551616) (hr : r.length = 32) (h8 : ∀ z ∈ r, z < 256) : IsV w (.agg (valL n r nilS nilS).toArray) (.mk n r [] []) := ⟨nilS, nilS, rfl, vAt_leaf w hn hr h8⟩
/-- A slice of structs, made, in a flow. -/
theorem flow_rowsB {P : Program} {o : Oper} {a : Act} {w : World} {Q : Exit → Act → World → Prop} {I : Value → World → Prop} (t e : TypeId) (n sz : Nat) (ps : Array (Nat × Operand)) (ho : o.op = .buildSlice t n ps) (hu : P.underlying t = some (.slice e)) (hi : (P.info? e).map (fun i => (i.zero.isSome, i.size)) = some (true, sz))
    (vs : List (List Value)) (xs : List Operand) (hps : ps.toList = (xs.zipIdx 0).map fun p => (p.2, p.1)) (hx0 : xs.map a.eval = vs.map fun c => Value.agg c.toArray) (hc : ∀ c ∈ vs, c.length = sz) (hn : vs.length = n) (hn0 : 0 < n) (hs0 : 0 < sz) (hn1 : n * sz ≤ 16777216)
    (h : ∀ w', HasC w' w.heap.size e vs.flatten → Below w.heap.size w w' → I (.slice (some ⟨w.heap.size, 0, none⟩) n n) w') : o.wp P a w (fun a' w' => ∃ v, a' = a.put o.dst v ∧ I v w' ∧ Below w.heap.size w w') Q := by
  have hx : (ps.map fun (i, x) => (i, a.eval x)).toList = (vs.zipIdx 0).map fun p => (p.2, Value.agg p.1.toArray) := by
    have e1 : ((xs.map a.eval).zipIdx 0).map (fun p => (p.2, p.1)) = ((vs.map fun c => Value.agg c.toArray).zipIdx 0).map (fun p => (p.2, p.1)) := by rw [hx0]
    rw [List.zipIdx_map, List.zipIdx_map, List.map_map, List.map_map] at e1
    rw [Array.toList_map, hps, List.map_map]
    exact e1
  cases hq : P.info? e with
  | none => rw [hq] at hi; cases hi
  | some ie =>
    rw [hq] at hi
    simp only [Option.map_some, Option.some.injEq, Prod.mk.injEq] at hi
    obtain ⟨z, hz⟩ := Option.isSome_iff_exists.1 hi.1
    refine wp_buildSlice t e n ps ho vs.flatten.toArray ie z hu hq hz (by rw [hi.2]; omega) (by rw [hi.2]; have := Nat.mul_pos hn0 hs0; omega) ?_ ⟨_, rfl, h _ (heap_alloc_new w _) ((Below.refl _ w).alloc (Nat.le_refl _) _), (Below.refl _ w).alloc (Nat.le_refl _) _⟩
    rw [hx, hi.2]
    have hfl := flatten_rows sz vs hc
    have hf := fill_out (fun i => some (i * sz, sz)) ((vs.zipIdx 0).map fun p => (p.2, Value.agg p.1.toArray)) 0 ((Array.range (n * sz)).map (z.cells[· % z.cells.size]!)).toList (by have := partsAt_rows sz vs 0 hc; rw [Nat.zero_mul] at this; exact this) (by rw [outC_rows, hfl, hn]; simp)
    rw [outC_rows, List.take_zero, List.nil_append, Nat.zero_add, List.drop_of_length_le (by rw [hfl, hn]; simp), List.append_nil] at hf
    exact hf
/-- A part of a part. -/
theorem seg2 {ps qs : List (List Value)} {i k : Nat} {c : List Value} {off o2 tot : Nat} (hc : ps[i]? = some qs.flatten) (ho : (ps.take i).flatten.length = off) (hc2 : qs[k]? = some c) (ho2 : (qs.take k).flatten.length = o2) (ht : off + o2 = tot) (j : Nat) (v : Value) (h : c[j]? = some v) : ps.flatten[tot + j]? = some v := by
  have := seg hc ho (o2 + j) v (seg hc2 ho2 j v h)
  rw [← Nat.add_assoc, ht] at this
  exact this
end Go.Proofs.YtoajeencniomoaaGreat

/- The document's value of a struct (Header). -/
namespace Go.Proofs.YtoajeencniomoaaGreat
open Go.RowKit Go.Shelf
set_option linter.unusedVariables false
set_option linter.unusedSimpArgs false
set_option maxRecDepth 100000

def hdP6 (zs : Nat) (zp : Nat) (zpa : List Nat) (zst : List Nat) (zbo : List Nat) : List (List Value) := [[.int .u64 (zs : Nat)], [.int .u64 (zp : Nat)], cellsB zpa, cellsB zst, cellsB zbo]
def hdC6 (zs : Nat) (zp : Nat) (zpa : List Nat) (zst : List Nat) (zbo : List Nat) : List Value := (hdP6 zs zp zpa zst zbo).flatten
theorem hdC6_length (zs : Nat) (zp : Nat) (zpa : List Nat) (zst : List Nat) (zbo : List Nat) (hzpa : zpa.length = 32) (hzst : zst.length = 32) (hzbo : zbo.length = 32) : (hdC6 zs zp zpa zst zbo).length = 98 := by simp [hdC6, hdP6, cellsB_length, hzpa, hzst, hzbo]
def hdV6 (zs : Nat) (zp : Nat) (zpa : List Nat) (zst : List Nat) (zbo : List Nat) : Vt := .mk 0 (zeros 32) [] [.mk zs (zeros 32) [] [], .mk zp (zeros 32) [] [], .mk 0 zpa [] [], .mk 0 zst [] [], .mk 0 zbo [] []]
theorem hdV6_wide (zs : Nat) (zp : Nat) (zpa : List Nat) (zst : List Nat) (zbo : List Nat) : wide (hdV6 zs zp zpa zst zbo) := by simp [hdV6, wide, wideK]
set_option maxHeartbeats 2000000 in
theorem hdV6_any (zs : Nat) (zp : Nat) (zpa : List Nat) (zst : List Nat) (zbo : List Nat) (hzs : zs < 18446744073709551616) (hzp : zp < 18446744073709551616) (hzpa : Rt6 zpa) (hzst : Rt6 zst) (hzbo : Rt6 zbo) (w : World) : Calls Tryz.prog 70 #[.agg (hdC6 zs zp zpa zst zbo).toArray] w fun x w' => ∃ v, x = .returned v ∧ IsV w' v (hdV6 zs zp zpa zst zbo) ∧ Below w.heap.size w w' := by
  go_enter Tryz.func70, Tryz.ntmps70
  go_wp2_with ((with_reducible refine at_list' ?_); first
    | (refine wpList_box_c rfl 1 rfl (.tmp 0) rfl (hdC6 zs zp zpa zst zbo) rfl ?_; intro w1 H1 B1 S1)
    | (refine wpList_alloc_c Tryz.ty33 rfl 2 rfl rfl ?_; intro w2 H2 B2 S2; rw [S1] at H2 S2; rw [S1]))
  have HX := hid (H1.keep B2)
  have HY := hid H2
  have HB := hid (B1.trans (B2.mono (by omega)))
  have s2 : w2.heap.size = w.heap.size + 2 := by omega
  clear H1 B1 S1 H2 B2 S2
  try simp only [Act.put, List.setIfInBounds_toArray, List.set_cons_succ, List.set_cons_zero]
  refine wp_region_flow 17 17 (fun i v wq => match i with
    | 0 => v = .pointer (some ⟨w.heap.size, 0, none⟩)
    | 1 => v = .int .u64 (zs : Nat)
    | 2 => IsV wq v (.mk zs (zeros 32) [] [])
    | 3 => v = .pointer (some ⟨w.heap.size, 1, none⟩)
    | 4 => v = .int .u64 (zp : Nat)
    | 5 => IsV wq v (.mk zp (zeros 32) [] [])
    | 6 => v = .pointer (some ⟨w.heap.size, 2, none⟩)
    | 7 => v = .agg (nums .u8 zpa)
    | 8 => IsV wq v (.mk 0 zpa [] [])
    | 9 => v = .pointer (some ⟨w.heap.size, 34, none⟩)
    | 10 => v = .agg (nums .u8 zst)
    | 11 => IsV wq v (.mk 0 zst [] [])
    | 12 => v = .pointer (some ⟨w.heap.size, 66, none⟩)
    | 13 => v = .agg (nums .u8 zbo)
    | 14 => IsV wq v (.mk 0 zbo [] [])
    | 15 => ∃ b, v = .slice (some ⟨b, 0, none⟩) 5 5 ∧ KsAt wq [.mk zs (zeros 32) [] [], .mk zp (zeros 32) [] [], .mk 0 zpa [] [], .mk 0 zst [] [], .mk 0 zbo [] []] b 0
    | _ => ∃ b, v = .agg (valL 0 (zeros 32) nilS (.slice (some ⟨b, 0, none⟩) 5 5)).toArray ∧ KsAt wq [.mk zs (zeros 32) [] [], .mk zp (zeros 32) [] [], .mk 0 zpa [] [], .mk 0 zst [] [], .mk 0 zbo [] []] b 0) (by kernel_rfl) (by kernel_rfl) (fun _ d _ _ _ h => by cases d <;> exact h) ?_ ?_ ?_ ?_
  · intro i v wq wq' hi hv hb
    match i, hi with
    | 0, _ => exact hv
    | 1, _ => exact hv
    | 2, _ => exact hv.keep hb
    | 3, _ => exact hv
    | 4, _ => exact hv
    | 5, _ => exact hv.keep hb
    | 6, _ => exact hv
    | 7, _ => exact hv
    | 8, _ => exact hv.keep hb
    | 9, _ => exact hv
    | 10, _ => exact hv
    | 11, _ => exact hv.keep hb
    | 12, _ => exact hv
    | 13, _ => exact hv
    | 14, _ => exact hv.keep hb
    | 15, _ => obtain ⟨b, h1, h2⟩ := hv; exact ⟨b, h1, KsAt.keep hb _ h2⟩
    | 16, _ => obtain ⟨b, h1, h2⟩ := hv; exact ⟨b, h1, KsAt.keep hb _ h2⟩
    | (k + 17), hk => exact absurd hk (by omega)
  · intro i o hi ho aq wq hc hk hdep
    match i, hi with
    | 0, _ =>
      cases ho
      have e1 : aq.tmps.getD 1 undef = .pointer (some ⟨w.heap.size, 0, none⟩) := hk 1 (by decide)
      exact flow_value _ (run_fieldAt 61 (.tmp 1) 0 rfl _ _ e1 (by kernel_rfl)) rfl
    | 1, _ =>
      cases ho
      have e0 : aq.tmps.getD 3 undef = .pointer (some ⟨w.heap.size, 0, none⟩) := hdep 0 3 rfl (by kernel_rfl)
      exact flow_value _ (run_cell 22 (.tmp 3) rfl _ e0 _ ((HX.out.keep (hcB hc)).cell (seg (ps := hdP6 zs zp zpa zst zbo) (i := 0) (off := 0) rfl (by simp [hdP6, cellsB_length, hzpa.len, hzst.len, hzbo.len]) 0 _ rfl)) _ Tryz.underlying22 rfl) rfl
    | 2, _ =>
      cases ho
      have e0 : aq.tmps.getD 4 undef = .int .u64 (zs : Nat) := hdep 1 4 rfl (by kernel_rfl)
      refine flow_fun 43 _ _ rfl (fun _ _ => by simp [go_sem]) #[.int .u64 (zs : Nat)] (by rw [show (#[Operand.tmp 4] : Array Operand).map aq.eval = #[aq.tmps.getD 4 undef] from by simp [Act.eval], e0]) ?_
      refine (n_any zs wq).mono ?_
      rintro x w' ⟨rfl, q⟩
      exact ⟨_, rfl, IsV.leaf w' hzs zeros32 (zeros_byte 32), q⟩
    | 3, _ =>
      cases ho
      have e1 : aq.tmps.getD 1 undef = .pointer (some ⟨w.heap.size, 0, none⟩) := hk 1 (by decide)
      exact flow_value _ (run_fieldAt 61 (.tmp 1) 1 rfl _ _ e1 (by kernel_rfl)) rfl
    | 4, _ =>
      cases ho
      have e0 : aq.tmps.getD 6 undef = .pointer (some ⟨w.heap.size, 1, none⟩) := hdep 3 6 rfl (by kernel_rfl)
      exact flow_value _ (run_cell 22 (.tmp 6) rfl _ e0 _ ((HX.out.keep (hcB hc)).cell (seg (ps := hdP6 zs zp zpa zst zbo) (i := 1) (off := 1) rfl (by simp [hdP6, cellsB_length, hzpa.len, hzst.len, hzbo.len]) 0 _ rfl)) _ Tryz.underlying22 rfl) rfl
    | 5, _ =>
      cases ho
      have e0 : aq.tmps.getD 7 undef = .int .u64 (zp : Nat) := hdep 4 7 rfl (by kernel_rfl)
      refine flow_fun 43 _ _ rfl (fun _ _ => by simp [go_sem]) #[.int .u64 (zp : Nat)] (by rw [show (#[Operand.tmp 7] : Array Operand).map aq.eval = #[aq.tmps.getD 7 undef] from by simp [Act.eval], e0]) ?_
      refine (n_any zp wq).mono ?_
      rintro x w' ⟨rfl, q⟩
      exact ⟨_, rfl, IsV.leaf w' hzp zeros32 (zeros_byte 32), q⟩
    | 6, _ =>
      cases ho
      have e1 : aq.tmps.getD 1 undef = .pointer (some ⟨w.heap.size, 0, none⟩) := hk 1 (by decide)
      exact flow_value _ (run_fieldAt 61 (.tmp 1) 2 rfl _ _ e1 (by kernel_rfl)) rfl
    | 7, _ =>
      cases ho
      have e0 : aq.tmps.getD 9 undef = .pointer (some ⟨w.heap.size, 2, none⟩) := hdep 6 9 rfl (by kernel_rfl)
      exact flow_value _ (run_mid 24 (.tmp 9) rfl w.heap.size 2 e0 (cellsB zpa) ((HX.out.keep (hcB hc)).range 2 (cellsB zpa) (seg (ps := hdP6 zs zp zpa zst zbo) (i := 2) (off := 2) rfl (by simp [hdP6, cellsB_length, hzpa.len, hzst.len, hzbo.len]))) _ Tryz.und24 rfl (by rw [cellsB_length, hzpa.len]; exact Tryz.size24)) rfl
    | 8, _ =>
      cases ho
      have e0 : aq.tmps.getD 10 undef = .agg (nums .u8 zpa) := hdep 7 10 rfl (by kernel_rfl)
      refine flow_fun 44 _ _ rfl (fun _ _ => by simp [go_sem]) #[.agg (nums .u8 zpa)] (by rw [show (#[Operand.tmp 10] : Array Operand).map aq.eval = #[aq.tmps.getD 10 undef] from by simp [Act.eval], e0]) ?_
      refine (r_any zpa hzpa.len wq).mono ?_
      rintro x w' ⟨rfl, q⟩
      exact ⟨_, rfl, IsV.leaf w' (by decide) hzpa.len hzpa.byte, q⟩
    | 9, _ =>
      cases ho
      have e1 : aq.tmps.getD 1 undef = .pointer (some ⟨w.heap.size, 0, none⟩) := hk 1 (by decide)
      exact flow_value _ (run_fieldAt 61 (.tmp 1) 3 rfl _ _ e1 (by kernel_rfl)) rfl
    | 10, _ =>
      cases ho
      have e0 : aq.tmps.getD 12 undef = .pointer (some ⟨w.heap.size, 34, none⟩) := hdep 9 12 rfl (by kernel_rfl)
      exact flow_value _ (run_mid 24 (.tmp 12) rfl w.heap.size 34 e0 (cellsB zst) ((HX.out.keep (hcB hc)).range 34 (cellsB zst) (seg (ps := hdP6 zs zp zpa zst zbo) (i := 3) (off := 34) rfl (by simp [hdP6, cellsB_length, hzpa.len, hzst.len, hzbo.len]))) _ Tryz.und24 rfl (by rw [cellsB_length, hzst.len]; exact Tryz.size24)) rfl
    | 11, _ =>
      cases ho
      have e0 : aq.tmps.getD 13 undef = .agg (nums .u8 zst) := hdep 10 13 rfl (by kernel_rfl)
      refine flow_fun 44 _ _ rfl (fun _ _ => by simp [go_sem]) #[.agg (nums .u8 zst)] (by rw [show (#[Operand.tmp 13] : Array Operand).map aq.eval = #[aq.tmps.getD 13 undef] from by simp [Act.eval], e0]) ?_
      refine (r_any zst hzst.len wq).mono ?_
      rintro x w' ⟨rfl, q⟩
      exact ⟨_, rfl, IsV.leaf w' (by decide) hzst.len hzst.byte, q⟩
    | 12, _ =>
      cases ho
      have e1 : aq.tmps.getD 1 undef = .pointer (some ⟨w.heap.size, 0, none⟩) := hk 1 (by decide)
      exact flow_value _ (run_fieldAt 61 (.tmp 1) 4 rfl _ _ e1 (by kernel_rfl)) rfl
    | 13, _ =>
      cases ho
      have e0 : aq.tmps.getD 15 undef = .pointer (some ⟨w.heap.size, 66, none⟩) := hdep 12 15 rfl (by kernel_rfl)
      exact flow_value _ (run_mid 24 (.tmp 15) rfl w.heap.size 66 e0 (cellsB zbo) ((HX.out.keep (hcB hc)).range 66 (cellsB zbo) (seg (ps := hdP6 zs zp zpa zst zbo) (i := 4) (off := 66) rfl (by simp [hdP6, cellsB_length, hzpa.len, hzst.len, hzbo.len]))) _ Tryz.und24 rfl (by rw [cellsB_length, hzbo.len]; exact Tryz.size24)) rfl
    | 14, _ =>
      cases ho
      have e0 : aq.tmps.getD 16 undef = .agg (nums .u8 zbo) := hdep 13 16 rfl (by kernel_rfl)
      refine flow_fun 44 _ _ rfl (fun _ _ => by simp [go_sem]) #[.agg (nums .u8 zbo)] (by rw [show (#[Operand.tmp 16] : Array Operand).map aq.eval = #[aq.tmps.getD 16 undef] from by simp [Act.eval], e0]) ?_
      refine (r_any zbo hzbo.len wq).mono ?_
      rintro x w' ⟨rfl, q⟩
      exact ⟨_, rfl, IsV.leaf w' (by decide) hzbo.len hzbo.byte, q⟩
    | 15, _ =>
      cases ho
      obtain ⟨sb0, sk0, e0, h0_⟩ := hdep 2 5 rfl (by kernel_rfl)
      obtain ⟨sb1, sk1, e1, h1_⟩ := hdep 5 8 rfl (by kernel_rfl)
      obtain ⟨sb2, sk2, e2, h2_⟩ := hdep 8 11 rfl (by kernel_rfl)
      obtain ⟨sb3, sk3, e3, h3_⟩ := hdep 11 14 rfl (by kernel_rfl)
      obtain ⟨sb4, sk4, e4, h4_⟩ := hdep 14 17 rfl (by kernel_rfl)
      refine flow_rowsB 31 33 5 35 _ rfl Tryz.underlying31 valInfo [valL zs (zeros 32) sb0 sk0, valL zp (zeros 32) sb1 sk1, valL 0 zpa sb2 sk2, valL 0 zst sb3 sk3, valL 0 zbo sb4 sk4] [.tmp 5, .tmp 8, .tmp 11, .tmp 14, .tmp 17] rfl (by rw [show [Operand.tmp 5, Operand.tmp 8, Operand.tmp 11, Operand.tmp 14, Operand.tmp 17].map aq.eval = [aq.tmps.getD 5 undef, aq.tmps.getD 8 undef, aq.tmps.getD 11 undef, aq.tmps.getD 14 undef, aq.tmps.getD 17 undef] from rfl, e0, e1, e2, e3, e4]; rfl) (by simp [valL_length, zeros32, hzpa.len, hzst.len, hzbo.len]) rfl (by decide) (by decide) (by decide) (fun w' h hb => ⟨_, rfl, ksAt_of h [(.mk zs (zeros 32) [] [], sb0, sk0), (.mk zp (zeros 32) [] [], sb1, sk1), (.mk 0 zpa [] [], sb2, sk2), (.mk 0 zst [] [], sb3, sk3), (.mk 0 zbo [] [], sb4, sk4)] 0 (fun j v hj => by rw [Nat.zero_add]; exact hj) (fun x hx => ?_)⟩)
      simp only [List.mem_cons, List.not_mem_nil, or_false] at hx
      rcases hx with rfl | rfl | rfl | rfl | rfl
      · exact VAt.keep hb _ h0_
      · exact VAt.keep hb _ h1_
      · exact VAt.keep hb _ h2_
      · exact VAt.keep hb _ h3_
      · exact VAt.keep hb _ h4_
    | 16, _ =>
      cases ho
      obtain ⟨b, e6, h6⟩ := hdep 15 18 rfl (by kernel_rfl)
      refine flow_fun 42 _ _ rfl (fun _ _ => by simp [go_sem]) #[.slice (some ⟨b, 0, none⟩) 5 5] (by rw [show (#[Operand.tmp 18] : Array Operand).map aq.eval = #[aq.tmps.getD 18 undef] from by simp [Act.eval], e6]) ?_
      refine (all_any (some ⟨b, 0, none⟩) 5 5 wq).mono ?_
      rintro x w' ⟨rfl, q⟩
      exact ⟨_, rfl, ⟨b, rfl, KsAt.keep q _ h6⟩, q⟩
    | (k + 17), hk => exact absurd hk (by omega)
  · intro o h17 ho
    omega
  intro vf w8 hc hv
  have e7 : ∃ b, vf 16 = _ ∧ KsAt w8 _ b 0 := hv 16 19 (by decide) rfl
  obtain ⟨b, e7, h7⟩ := e7
  have B8 := HB.out.trans ((hcB hc).mono (by omega))
  have H8v := HY.out.keep (hcB hc)
  have s8 := (hcB hc).size
  clear hv hc
  simp only [List.take_succ_cons, List.take_zero, List.drop_succ_cons, List.drop_zero, putAll, Act.put, List.setIfInBounds_toArray, List.set_cons_succ, List.set_cons_zero]
  rw [e7]
  have HB8 := hid B8
  have HK := hid h7
  clear B8 h7 e7 HB
  go_wp2_with ((with_reducible refine at_list' ?_); first
    | (refine wpList_store_c Tryz.ty33 rfl (.tmp 2) (.tmp 19) rfl (w.heap.size + 1) (valL 0 (zeros 32) nilS (.slice (some ⟨b, 0, none⟩) 5 5)) rfl rfl rfl (valL_oneC _ _ _ _ trivial trivial) _ H8v rfl ?_; intro w9 H9 O9))
  refine bodyPost_ret (results_c1 Tryz.ty33 rfl _ w9 (w.heap.size + 1) _ rfl H9 rfl) rfl ⟨_, rfl, ⟨nilS, _, rfl, ?_⟩, below_only HB8.out O9 (by omega)⟩
  exact VAt.aside H8v rfl O9 (hdV6 zs zp zpa zst zbo) (hdV6_wide zs zp zpa zst zbo) (isV_all (ks := [.mk zs (zeros 32) [] [], .mk zp (zeros 32) [] [], .mk 0 zpa [] [], .mk 0 zst [] [], .mk 0 zbo [] []]) rfl (by decide) HK.out)
end Go.Proofs.YtoajeencniomoaaGreat

/- The document's value of a struct (SignedHeader). -/
namespace Go.Proofs.YtoajeencniomoaaGreat
open Go.RowKit Go.Shelf
set_option linter.unusedVariables false
set_option linter.unusedSimpArgs false
set_option maxRecDepth 100000

def shP6 (zhzs : Nat) (zhzp : Nat) (zhzpa : List Nat) (zhzst : List Nat) (zhzbo : List Nat) (zsg : List Nat) : List (List Value) := [hdC6 zhzs zhzp zhzpa zhzst zhzbo, cellsB zsg]
def shC6 (zhzs : Nat) (zhzp : Nat) (zhzpa : List Nat) (zhzst : List Nat) (zhzbo : List Nat) (zsg : List Nat) : List Value := (shP6 zhzs zhzp zhzpa zhzst zhzbo zsg).flatten
theorem shC6_length (zhzs : Nat) (zhzp : Nat) (zhzpa : List Nat) (zhzst : List Nat) (zhzbo : List Nat) (zsg : List Nat) (hzhzpa : zhzpa.length = 32) (hzhzst : zhzst.length = 32) (hzhzbo : zhzbo.length = 32) (hzsg : zsg.length = 32) : (shC6 zhzs zhzp zhzpa zhzst zhzbo zsg).length = 130 := by simp [shC6, shP6, cellsB_length, hzhzpa, hzhzst, hzhzbo, hzsg, hdC6_length zhzs zhzp zhzpa zhzst zhzbo hzhzpa hzhzst hzhzbo]
def shV6 (zhzs : Nat) (zhzp : Nat) (zhzpa : List Nat) (zhzst : List Nat) (zhzbo : List Nat) (zsg : List Nat) : Vt := .mk 0 (zeros 32) [] [hdV6 zhzs zhzp zhzpa zhzst zhzbo, .mk 0 zsg [] []]
theorem shV6_wide (zhzs : Nat) (zhzp : Nat) (zhzpa : List Nat) (zhzst : List Nat) (zhzbo : List Nat) (zsg : List Nat) : wide (shV6 zhzs zhzp zhzpa zhzst zhzbo zsg) := by simp [shV6, wide, wideK, hdV6_wide]
end Go.Proofs.YtoajeencniomoaaGreat

/- The document's value of a struct (ProposerSlashing). -/
namespace Go.Proofs.YtoajeencniomoaaGreat
open Go.RowKit Go.Shelf
set_option linter.unusedVariables false
set_option linter.unusedSimpArgs false
set_option maxRecDepth 100000

def psP6 (zazhzs : Nat) (zazhzp : Nat) (zazhzpa : List Nat) (zazhzst : List Nat) (zazhzbo : List Nat) (zazsg : List Nat) (zzzhzs : Nat) (zzzhzp : Nat) (zzzhzpa : List Nat) (zzzhzst : List Nat) (zzzhzbo : List Nat) (zzzsg : List Nat) : List (List Value) := [shC6 zazhzs zazhzp zazhzpa zazhzst zazhzbo zazsg, shC6 zzzhzs zzzhzp zzzhzpa zzzhzst zzzhzbo zzzsg]
def psC6 (zazhzs : Nat) (zazhzp : Nat) (zazhzpa : List Nat) (zazhzst : List Nat) (zazhzbo : List Nat) (zazsg : List Nat) (zzzhzs : Nat) (zzzhzp : Nat) (zzzhzpa : List Nat) (zzzhzst : List Nat) (zzzhzbo : List Nat) (zzzsg : List Nat) : List Value := (psP6 zazhzs zazhzp zazhzpa zazhzst zazhzbo zazsg zzzhzs zzzhzp zzzhzpa zzzhzst zzzhzbo zzzsg).flatten
theorem psC6_length (zazhzs : Nat) (zazhzp : Nat) (zazhzpa : List Nat) (zazhzst : List Nat) (zazhzbo : List Nat) (zazsg : List Nat) (zzzhzs : Nat) (zzzhzp : Nat) (zzzhzpa : List Nat) (zzzhzst : List Nat) (zzzhzbo : List Nat) (zzzsg : List Nat) (hzazhzpa : zazhzpa.length = 32) (hzazhzst : zazhzst.length = 32) (hzazhzbo : zazhzbo.length = 32) (hzazsg : zazsg.length = 32) (hzzzhzpa : zzzhzpa.length = 32) (hzzzhzst : zzzhzst.length = 32) (hzzzhzbo : zzzhzbo.length = 32) (hzzzsg : zzzsg.length = 32) : (psC6 zazhzs zazhzp zazhzpa zazhzst zazhzbo zazsg zzzhzs zzzhzp zzzhzpa zzzhzst zzzhzbo zzzsg).length = 260 := by simp [psC6, psP6, cellsB_length, hzazhzpa, hzazhzst, hzazhzbo, hzazsg, hzzzhzpa, hzzzhzst, hzzzhzbo, hzzzsg, shC6_length zazhzs zazhzp zazhzpa zazhzst zazhzbo zazsg hzazhzpa hzazhzst hzazhzbo hzazsg, shC6_length zzzhzs zzzhzp zzzhzpa zzzhzst zzzhzbo zzzsg hzzzhzpa hzzzhzst hzzzhzbo hzzzsg]
def psV6 (zazhzs : Nat) (zazhzp : Nat) (zazhzpa : List Nat) (zazhzst : List Nat) (zazhzbo : List Nat) (zazsg : List Nat) (zzzhzs : Nat) (zzzhzp : Nat) (zzzhzpa : List Nat) (zzzhzst : List Nat) (zzzhzbo : List Nat) (zzzsg : List Nat) : Vt := .mk 0 (zeros 32) [] [shV6 zazhzs zazhzp zazhzpa zazhzst zazhzbo zazsg, shV6 zzzhzs zzzhzp zzzhzpa zzzhzst zzzhzbo zzzsg]
theorem psV6_wide (zazhzs : Nat) (zazhzp : Nat) (zazhzpa : List Nat) (zazhzst : List Nat) (zazhzbo : List Nat) (zazsg : List Nat) (zzzhzs : Nat) (zzzhzp : Nat) (zzzhzpa : List Nat) (zzzhzst : List Nat) (zzzhzbo : List Nat) (zzzsg : List Nat) : wide (psV6 zazhzs zazhzp zazhzpa zazhzst zazhzbo zazsg zzzhzs zzzhzp zzzhzpa zzzhzst zzzhzbo zzzsg) := by simp [psV6, wide, wideK, shV6_wide, shV6_wide]
set_option maxHeartbeats 2000000 in
theorem psV6_any (zazhzs : Nat) (zazhzp : Nat) (zazhzpa : List Nat) (zazhzst : List Nat) (zazhzbo : List Nat) (zazsg : List Nat) (zzzhzs : Nat) (zzzhzp : Nat) (zzzhzpa : List Nat) (zzzhzst : List Nat) (zzzhzbo : List Nat) (zzzsg : List Nat) (hzazhzs : zazhzs < 18446744073709551616) (hzazhzp : zazhzp < 18446744073709551616) (hzazhzpa : Rt6 zazhzpa) (hzazhzst : Rt6 zazhzst) (hzazhzbo : Rt6 zazhzbo) (hzazsg : Rt6 zazsg) (hzzzhzs : zzzhzs < 18446744073709551616) (hzzzhzp : zzzhzp < 18446744073709551616) (hzzzhzpa : Rt6 zzzhzpa) (hzzzhzst : Rt6 zzzhzst) (hzzzhzbo : Rt6 zzzhzbo) (hzzzsg : Rt6 zzzsg) (w : World) : Calls Tryz.prog 25 #[.agg (psC6 zazhzs zazhzp zazhzpa zazhzst zazhzbo zazsg zzzhzs zzzhzp zzzhzpa zzzhzst zzzhzbo zzzsg).toArray] w fun x w' => ∃ v, x = .returned v ∧ IsV w' v (psV6 zazhzs zazhzp zazhzpa zazhzst zazhzbo zazsg zzzhzs zzzhzp zzzhzpa zzzhzst zzzhzbo zzzsg) ∧ Below w.heap.size w w' := by
  go_enter Tryz.func25, Tryz.ntmps25
  go_wp2_with ((with_reducible refine at_list' ?_); first
    | (refine wpList_box_c rfl 1 rfl (.tmp 0) rfl (psC6 zazhzs zazhzp zazhzpa zazhzst zazhzbo zazsg zzzhzs zzzhzp zzzhzpa zzzhzst zzzhzbo zzzsg) rfl ?_; intro w1 H1 B1 S1)
    | (refine wpList_alloc_c Tryz.ty33 rfl 2 rfl rfl ?_; intro w2 H2 B2 S2; rw [S1] at H2 S2; rw [S1]))
  have HX := hid (H1.keep B2)
  have HY := hid H2
  have HB := hid (B1.trans (B2.mono (by omega)))
  have s2 : w2.heap.size = w.heap.size + 2 := by omega
  clear H1 B1 S1 H2 B2 S2
  try simp only [Act.put, List.setIfInBounds_toArray, List.set_cons_succ, List.set_cons_zero]
  refine wp_region_flow 22 22 (fun i v wq => match i with
    | 0 => v = .pointer (some ⟨w.heap.size, 0, none⟩)
    | 1 => v = .pointer (some ⟨w.heap.size, 0, none⟩)
    | 2 => v = .agg (hdC6 zazhzs zazhzp zazhzpa zazhzst zazhzbo).toArray
    | 3 => IsV wq v (hdV6 zazhzs zazhzp zazhzpa zazhzst zazhzbo)
    | 4 => v = .pointer (some ⟨w.heap.size, 0, none⟩)
    | 5 => v = .pointer (some ⟨w.heap.size, 98, none⟩)
    | 6 => v = .agg (nums .u8 zazsg)
    | 7 => IsV wq v (.mk 0 zazsg [] [])
    | 8 => ∃ b, v = .slice (some ⟨b, 0, none⟩) 2 2 ∧ KsAt wq [hdV6 zazhzs zazhzp zazhzpa zazhzst zazhzbo, .mk 0 zazsg [] []] b 0
    | 9 => IsV wq v (shV6 zazhzs zazhzp zazhzpa zazhzst zazhzbo zazsg)
    | 10 => v = .pointer (some ⟨w.heap.size, 130, none⟩)
    | 11 => v = .pointer (some ⟨w.heap.size, 130, none⟩)
    | 12 => v = .agg (hdC6 zzzhzs zzzhzp zzzhzpa zzzhzst zzzhzbo).toArray
    | 13 => IsV wq v (hdV6 zzzhzs zzzhzp zzzhzpa zzzhzst zzzhzbo)
    | 14 => v = .pointer (some ⟨w.heap.size, 130, none⟩)
    | 15 => v = .pointer (some ⟨w.heap.size, 228, none⟩)
    | 16 => v = .agg (nums .u8 zzzsg)
    | 17 => IsV wq v (.mk 0 zzzsg [] [])
    | 18 => ∃ b, v = .slice (some ⟨b, 0, none⟩) 2 2 ∧ KsAt wq [hdV6 zzzhzs zzzhzp zzzhzpa zzzhzst zzzhzbo, .mk 0 zzzsg [] []] b 0
    | 19 => IsV wq v (shV6 zzzhzs zzzhzp zzzhzpa zzzhzst zzzhzbo zzzsg)
    | 20 => ∃ b, v = .slice (some ⟨b, 0, none⟩) 2 2 ∧ KsAt wq [shV6 zazhzs zazhzp zazhzpa zazhzst zazhzbo zazsg, shV6 zzzhzs zzzhzp zzzhzpa zzzhzst zzzhzbo zzzsg] b 0
    | _ => ∃ b, v = .agg (valL 0 (zeros 32) nilS (.slice (some ⟨b, 0, none⟩) 2 2)).toArray ∧ KsAt wq [shV6 zazhzs zazhzp zazhzpa zazhzst zazhzbo zazsg, shV6 zzzhzs zzzhzp zzzhzpa zzzhzst zzzhzbo zzzsg] b 0) (by kernel_rfl) (by kernel_rfl) (fun _ d _ _ _ h => by cases d <;> exact h) ?_ ?_ ?_ ?_
  · intro i v wq wq' hi hv hb
    match i, hi with
    | 0, _ => exact hv
    | 1, _ => exact hv
    | 2, _ => exact hv
    | 3, _ => exact hv.keep hb
    | 4, _ => exact hv
    | 5, _ => exact hv
    | 6, _ => exact hv
    | 7, _ => exact hv.keep hb
    | 8, _ => obtain ⟨b, h1, h2⟩ := hv; exact ⟨b, h1, KsAt.keep hb _ h2⟩
    | 9, _ => exact hv.keep hb
    | 10, _ => exact hv
    | 11, _ => exact hv
    | 12, _ => exact hv
    | 13, _ => exact hv.keep hb
    | 14, _ => exact hv
    | 15, _ => exact hv
    | 16, _ => exact hv
    | 17, _ => exact hv.keep hb
    | 18, _ => obtain ⟨b, h1, h2⟩ := hv; exact ⟨b, h1, KsAt.keep hb _ h2⟩
    | 19, _ => exact hv.keep hb
    | 20, _ => obtain ⟨b, h1, h2⟩ := hv; exact ⟨b, h1, KsAt.keep hb _ h2⟩
    | 21, _ => obtain ⟨b, h1, h2⟩ := hv; exact ⟨b, h1, KsAt.keep hb _ h2⟩
    | (k + 22), hk => exact absurd hk (by omega)
  · intro i o hi ho aq wq hc hk hdep
    match i, hi with
    | 0, _ =>
      cases ho
      have e1 : aq.tmps.getD 1 undef = .pointer (some ⟨w.heap.size, 0, none⟩) := hk 1 (by decide)
      exact flow_value _ (run_fieldAt 65 (.tmp 1) 0 rfl _ _ e1 (by kernel_rfl)) rfl
    | 1, _ =>
      cases ho
      have e1 : aq.tmps.getD 3 undef = .pointer (some ⟨w.heap.size, 0, none⟩) := hdep 0 3 rfl (by kernel_rfl)
      exact flow_value _ (run_fieldAt 63 (.tmp 3) 0 rfl _ _ e1 (by kernel_rfl)) rfl
    | 2, _ =>
      cases ho
      have e0 : aq.tmps.getD 4 undef = .pointer (some ⟨w.heap.size, 0, none⟩) := hdep 1 4 rfl (by kernel_rfl)
      exact flow_value _ (run_mid 61 (.tmp 4) rfl w.heap.size 0 e0 (hdC6 zazhzs zazhzp zazhzpa zazhzst zazhzbo) ((HX.out.keep (hcB hc)).range 0 (hdC6 zazhzs zazhzp zazhzpa zazhzst zazhzbo) (seg2 (ps := psP6 zazhzs zazhzp zazhzpa zazhzst zazhzbo zazsg zzzhzs zzzhzp zzzhzpa zzzhzst zzzhzbo zzzsg) (qs := shP6 zazhzs zazhzp zazhzpa zazhzst zazhzbo zazsg) (i := 0) (k := 0) (off := 0) (o2 := 0) (tot := 0) rfl (by simp [psP6, cellsB_length, hzazhzpa.len, hzazhzst.len, hzazhzbo.len, hzazsg.len, hzzzhzpa.len, hzzzhzst.len, hzzzhzbo.len, hzzzsg.len, shC6_length zazhzs zazhzp zazhzpa zazhzst zazhzbo zazsg hzazhzpa.len hzazhzst.len hzazhzbo.len hzazsg.len, shC6_length zzzhzs zzzhzp zzzhzpa zzzhzst zzzhzbo zzzsg hzzzhzpa.len hzzzhzst.len hzzzhzbo.len hzzzsg.len]) rfl (by simp [shP6, cellsB_length, hzazhzpa.len, hzazhzst.len, hzazhzbo.len, hzazsg.len, hdC6_length zazhzs zazhzp zazhzpa zazhzst zazhzbo hzazhzpa.len hzazhzst.len hzazhzbo.len]) rfl)) _ Tryz.underlying61 rfl (by rw [hdC6_length zazhzs zazhzp zazhzpa zazhzst zazhzbo hzazhzpa.len hzazhzst.len hzazhzbo.len]; kernel_rfl)) rfl
    | 3, _ =>
      cases ho
      have e0 : aq.tmps.getD 5 undef = .agg (hdC6 zazhzs zazhzp zazhzpa zazhzst zazhzbo).toArray := hdep 2 5 rfl (by kernel_rfl)
      refine flow_fun 70 _ _ rfl (fun _ _ => by simp [go_sem]) #[.agg (hdC6 zazhzs zazhzp zazhzpa zazhzst zazhzbo).toArray] (by rw [show (#[Operand.tmp 5] : Array Operand).map aq.eval = #[aq.tmps.getD 5 undef] from by simp [Act.eval], e0]) ?_
      refine (hdV6_any zazhzs zazhzp zazhzpa zazhzst zazhzbo hzazhzs hzazhzp hzazhzpa hzazhzst hzazhzbo wq).mono ?_
      rintro x w' ⟨v, rfl, hv, q⟩
      exact ⟨v, rfl, hv, q⟩
    | 4, _ =>
      cases ho
      have e1 : aq.tmps.getD 1 undef = .pointer (some ⟨w.heap.size, 0, none⟩) := hk 1 (by decide)
      exact flow_value _ (run_fieldAt 65 (.tmp 1) 0 rfl _ _ e1 (by kernel_rfl)) rfl
    | 5, _ =>
      cases ho
      have e1 : aq.tmps.getD 7 undef = .pointer (some ⟨w.heap.size, 0, none⟩) := hdep 4 7 rfl (by kernel_rfl)
      exact flow_value _ (run_fieldAt 63 (.tmp 7) 1 rfl _ _ e1 (by kernel_rfl)) rfl
    | 6, _ =>
      cases ho
      have e0 : aq.tmps.getD 8 undef = .pointer (some ⟨w.heap.size, 98, none⟩) := hdep 5 8 rfl (by kernel_rfl)
      exact flow_value _ (run_mid 24 (.tmp 8) rfl w.heap.size 98 e0 (cellsB zazsg) ((HX.out.keep (hcB hc)).range 98 (cellsB zazsg) (seg2 (ps := psP6 zazhzs zazhzp zazhzpa zazhzst zazhzbo zazsg zzzhzs zzzhzp zzzhzpa zzzhzst zzzhzbo zzzsg) (qs := shP6 zazhzs zazhzp zazhzpa zazhzst zazhzbo zazsg) (i := 0) (k := 1) (off := 0) (o2 := 98) (tot := 98) rfl (by simp [psP6, cellsB_length, hzazhzpa.len, hzazhzst.len, hzazhzbo.len, hzazsg.len, hzzzhzpa.len, hzzzhzst.len, hzzzhzbo.len, hzzzsg.len, shC6_length zazhzs zazhzp zazhzpa zazhzst zazhzbo zazsg hzazhzpa.len hzazhzst.len hzazhzbo.len hzazsg.len, shC6_length zzzhzs zzzhzp zzzhzpa zzzhzst zzzhzbo zzzsg hzzzhzpa.len hzzzhzst.len hzzzhzbo.len hzzzsg.len]) rfl (by simp [shP6, cellsB_length, hzazhzpa.len, hzazhzst.len, hzazhzbo.len, hzazsg.len, hdC6_length zazhzs zazhzp zazhzpa zazhzst zazhzbo hzazhzpa.len hzazhzst.len hzazhzbo.len]) rfl)) _ Tryz.und24 rfl (by rw [cellsB_length, hzazsg.len]; exact Tryz.size24)) rfl
    | 7, _ =>
      cases ho
      have e0 : aq.tmps.getD 9 undef = .agg (nums .u8 zazsg) := hdep 6 9 rfl (by kernel_rfl)
      refine flow_fun 44 _ _ rfl (fun _ _ => by simp [go_sem]) #[.agg (nums .u8 zazsg)] (by rw [show (#[Operand.tmp 9] : Array Operand).map aq.eval = #[aq.tmps.getD 9 undef] from by simp [Act.eval], e0]) ?_
      refine (r_any zazsg hzazsg.len wq).mono ?_
      rintro x w' ⟨rfl, q⟩
      exact ⟨_, rfl, IsV.leaf w' (by decide) hzazsg.len hzazsg.byte, q⟩
    | 8, _ =>
      cases ho
      obtain ⟨sb0, sk0, e0, h0_⟩ := hdep 3 6 rfl (by kernel_rfl)
      obtain ⟨sb1, sk1, e1, h1_⟩ := hdep 7 10 rfl (by kernel_rfl)
      refine flow_rowsB 31 33 2 35 _ rfl Tryz.underlying31 valInfo [valL 0 (zeros 32) sb0 sk0, valL 0 zazsg sb1 sk1] [.tmp 6, .tmp 10] rfl (by rw [show [Operand.tmp 6, Operand.tmp 10].map aq.eval = [aq.tmps.getD 6 undef, aq.tmps.getD 10 undef] from rfl, e0, e1]; rfl) (by simp [valL_length, zeros32, hzazsg.len]) rfl (by decide) (by decide) (by decide) (fun w' h hb => ⟨_, rfl, ksAt_of h [(hdV6 zazhzs zazhzp zazhzpa zazhzst zazhzbo, sb0, sk0), (.mk 0 zazsg [] [], sb1, sk1)] 0 (fun j v hj => by rw [Nat.zero_add]; exact hj) (fun x hx => ?_)⟩)
      simp only [List.mem_cons, List.not_mem_nil, or_false] at hx
      rcases hx with rfl | rfl
      · exact VAt.keep hb _ h0_
      · exact VAt.keep hb _ h1_
    | 9, _ =>
      cases ho
      obtain ⟨b, e6, h6⟩ := hdep 8 11 rfl (by kernel_rfl)
      refine flow_fun 42 _ _ rfl (fun _ _ => by simp [go_sem]) #[.slice (some ⟨b, 0, none⟩) 2 2] (by rw [show (#[Operand.tmp 11] : Array Operand).map aq.eval = #[aq.tmps.getD 11 undef] from by simp [Act.eval], e6]) ?_
      refine (all_any (some ⟨b, 0, none⟩) 2 2 wq).mono ?_
      rintro x w' ⟨rfl, q⟩
      exact ⟨_, rfl, ⟨nilS, _, rfl, isV_all (ks := [hdV6 zazhzs zazhzp zazhzpa zazhzst zazhzbo, .mk 0 zazsg [] []]) rfl (by decide) (KsAt.keep q _ h6)⟩, q⟩
    | 10, _ =>
      cases ho
      have e1 : aq.tmps.getD 1 undef = .pointer (some ⟨w.heap.size, 0, none⟩) := hk 1 (by decide)
      exact flow_value _ (run_fieldAt 65 (.tmp 1) 1 rfl _ _ e1 (by kernel_rfl)) rfl
    | 11, _ =>
      cases ho
      have e1 : aq.tmps.getD 13 undef = .pointer (some ⟨w.heap.size, 130, none⟩) := hdep 10 13 rfl (by kernel_rfl)
      exact flow_value _ (run_fieldAt 63 (.tmp 13) 0 rfl _ _ e1 (by kernel_rfl)) rfl
    | 12, _ =>
      cases ho
      have e0 : aq.tmps.getD 14 undef = .pointer (some ⟨w.heap.size, 130, none⟩) := hdep 11 14 rfl (by kernel_rfl)
      exact flow_value _ (run_mid 61 (.tmp 14) rfl w.heap.size 130 e0 (hdC6 zzzhzs zzzhzp zzzhzpa zzzhzst zzzhzbo) ((HX.out.keep (hcB hc)).range 130 (hdC6 zzzhzs zzzhzp zzzhzpa zzzhzst zzzhzbo) (seg2 (ps := psP6 zazhzs zazhzp zazhzpa zazhzst zazhzbo zazsg zzzhzs zzzhzp zzzhzpa zzzhzst zzzhzbo zzzsg) (qs := shP6 zzzhzs zzzhzp zzzhzpa zzzhzst zzzhzbo zzzsg) (i := 1) (k := 0) (off := 130) (o2 := 0) (tot := 130) rfl (by simp [psP6, cellsB_length, hzazhzpa.len, hzazhzst.len, hzazhzbo.len, hzazsg.len, hzzzhzpa.len, hzzzhzst.len, hzzzhzbo.len, hzzzsg.len, shC6_length zazhzs zazhzp zazhzpa zazhzst zazhzbo zazsg hzazhzpa.len hzazhzst.len hzazhzbo.len hzazsg.len, shC6_length zzzhzs zzzhzp zzzhzpa zzzhzst zzzhzbo zzzsg hzzzhzpa.len hzzzhzst.len hzzzhzbo.len hzzzsg.len]) rfl (by simp [shP6, cellsB_length, hzzzhzpa.len, hzzzhzst.len, hzzzhzbo.len, hzzzsg.len, hdC6_length zzzhzs zzzhzp zzzhzpa zzzhzst zzzhzbo hzzzhzpa.len hzzzhzst.len hzzzhzbo.len]) rfl)) _ Tryz.underlying61 rfl (by rw [hdC6_length zzzhzs zzzhzp zzzhzpa zzzhzst zzzhzbo hzzzhzpa.len hzzzhzst.len hzzzhzbo.len]; kernel_rfl)) rfl
    | 13, _ =>
      cases ho
      have e0 : aq.tmps.getD 15 undef = .agg (hdC6 zzzhzs zzzhzp zzzhzpa zzzhzst zzzhzbo).toArray := hdep 12 15 rfl (by kernel_rfl)
      refine flow_fun 70 _ _ rfl (fun _ _ => by simp [go_sem]) #[.agg (hdC6 zzzhzs zzzhzp zzzhzpa zzzhzst zzzhzbo).toArray] (by rw [show (#[Operand.tmp 15] : Array Operand).map aq.eval = #[aq.tmps.getD 15 undef] from by simp [Act.eval], e0]) ?_
      refine (hdV6_any zzzhzs zzzhzp zzzhzpa zzzhzst zzzhzbo hzzzhzs hzzzhzp hzzzhzpa hzzzhzst hzzzhzbo wq).mono ?_
      rintro x w' ⟨v, rfl, hv, q⟩
      exact ⟨v, rfl, hv, q⟩
    | 14, _ =>
      cases ho
      have e1 : aq.tmps.getD 1 undef = .pointer (some ⟨w.heap.size, 0, none⟩) := hk 1 (by decide)
      exact flow_value _ (run_fieldAt 65 (.tmp 1) 1 rfl _ _ e1 (by kernel_rfl)) rfl
    | 15, _ =>
      cases ho
      have e1 : aq.tmps.getD 17 undef = .pointer (some ⟨w.heap.size, 130, none⟩) := hdep 14 17 rfl (by kernel_rfl)
      exact flow_value _ (run_fieldAt 63 (.tmp 17) 1 rfl _ _ e1 (by kernel_rfl)) rfl
    | 16, _ =>
      cases ho
      have e0 : aq.tmps.getD 18 undef = .pointer (some ⟨w.heap.size, 228, none⟩) := hdep 15 18 rfl (by kernel_rfl)
      exact flow_value _ (run_mid 24 (.tmp 18) rfl w.heap.size 228 e0 (cellsB zzzsg) ((HX.out.keep (hcB hc)).range 228 (cellsB zzzsg) (seg2 (ps := psP6 zazhzs zazhzp zazhzpa zazhzst zazhzbo zazsg zzzhzs zzzhzp zzzhzpa zzzhzst zzzhzbo zzzsg) (qs := shP6 zzzhzs zzzhzp zzzhzpa zzzhzst zzzhzbo zzzsg) (i := 1) (k := 1) (off := 130) (o2 := 98) (tot := 228) rfl (by simp [psP6, cellsB_length, hzazhzpa.len, hzazhzst.len, hzazhzbo.len, hzazsg.len, hzzzhzpa.len, hzzzhzst.len, hzzzhzbo.len, hzzzsg.len, shC6_length zazhzs zazhzp zazhzpa zazhzst zazhzbo zazsg hzazhzpa.len hzazhzst.len hzazhzbo.len hzazsg.len, shC6_length zzzhzs zzzhzp zzzhzpa zzzhzst zzzhzbo zzzsg hzzzhzpa.len hzzzhzst.len hzzzhzbo.len hzzzsg.len]) rfl (by simp [shP6, cellsB_length, hzzzhzpa.len, hzzzhzst.len, hzzzhzbo.len, hzzzsg.len, hdC6_length zzzhzs zzzhzp zzzhzpa zzzhzst zzzhzbo hzzzhzpa.len hzzzhzst.len hzzzhzbo.len]) rfl)) _ Tryz.und24 rfl (by rw [cellsB_length, hzzzsg.len]; exact Tryz.size24)) rfl
    | 17, _ =>
      cases ho
      have e0 : aq.tmps.getD 19 undef = .agg (nums .u8 zzzsg) := hdep 16 19 rfl (by kernel_rfl)
      refine flow_fun 44 _ _ rfl (fun _ _ => by simp [go_sem]) #[.agg (nums .u8 zzzsg)] (by rw [show (#[Operand.tmp 19] : Array Operand).map aq.eval = #[aq.tmps.getD 19 undef] from by simp [Act.eval], e0]) ?_
      refine (r_any zzzsg hzzzsg.len wq).mono ?_
      rintro x w' ⟨rfl, q⟩
      exact ⟨_, rfl, IsV.leaf w' (by decide) hzzzsg.len hzzzsg.byte, q⟩
    | 18, _ =>
      cases ho
      obtain ⟨sb0, sk0, e0, h0_⟩ := hdep 13 16 rfl (by kernel_rfl)
      obtain ⟨sb1, sk1, e1, h1_⟩ := hdep 17 20 rfl (by kernel_rfl)
      refine flow_rowsB 31 33 2 35 _ rfl Tryz.underlying31 valInfo [valL 0 (zeros 32) sb0 sk0, valL 0 zzzsg sb1 sk1] [.tmp 16, .tmp 20] rfl (by rw [show [Operand.tmp 16, Operand.tmp 20].map aq.eval = [aq.tmps.getD 16 undef, aq.tmps.getD 20 undef] from rfl, e0, e1]; rfl) (by simp [valL_length, zeros32, hzzzsg.len]) rfl (by decide) (by decide) (by decide) (fun w' h hb => ⟨_, rfl, ksAt_of h [(hdV6 zzzhzs zzzhzp zzzhzpa zzzhzst zzzhzbo, sb0, sk0), (.mk 0 zzzsg [] [], sb1, sk1)] 0 (fun j v hj => by rw [Nat.zero_add]; exact hj) (fun x hx => ?_)⟩)
      simp only [List.mem_cons, List.not_mem_nil, or_false] at hx
      rcases hx with rfl | rfl
      · exact VAt.keep hb _ h0_
      · exact VAt.keep hb _ h1_
    | 19, _ =>
      cases ho
      obtain ⟨b, e6, h6⟩ := hdep 18 21 rfl (by kernel_rfl)
      refine flow_fun 42 _ _ rfl (fun _ _ => by simp [go_sem]) #[.slice (some ⟨b, 0, none⟩) 2 2] (by rw [show (#[Operand.tmp 21] : Array Operand).map aq.eval = #[aq.tmps.getD 21 undef] from by simp [Act.eval], e6]) ?_
      refine (all_any (some ⟨b, 0, none⟩) 2 2 wq).mono ?_
      rintro x w' ⟨rfl, q⟩
      exact ⟨_, rfl, ⟨nilS, _, rfl, isV_all (ks := [hdV6 zzzhzs zzzhzp zzzhzpa zzzhzst zzzhzbo, .mk 0 zzzsg [] []]) rfl (by decide) (KsAt.keep q _ h6)⟩, q⟩
    | 20, _ =>
      cases ho
      obtain ⟨sb0, sk0, e0, h0_⟩ := hdep 9 12 rfl (by kernel_rfl)
      obtain ⟨sb1, sk1, e1, h1_⟩ := hdep 19 22 rfl (by kernel_rfl)
      refine flow_rowsB 31 33 2 35 _ rfl Tryz.underlying31 valInfo [valL 0 (zeros 32) sb0 sk0, valL 0 (zeros 32) sb1 sk1] [.tmp 12, .tmp 22] rfl (by rw [show [Operand.tmp 12, Operand.tmp 22].map aq.eval = [aq.tmps.getD 12 undef, aq.tmps.getD 22 undef] from rfl, e0, e1]; rfl) (by simp [valL_length, zeros32]) rfl (by decide) (by decide) (by decide) (fun w' h hb => ⟨_, rfl, ksAt_of h [(shV6 zazhzs zazhzp zazhzpa zazhzst zazhzbo zazsg, sb0, sk0), (shV6 zzzhzs zzzhzp zzzhzpa zzzhzst zzzhzbo zzzsg, sb1, sk1)] 0 (fun j v hj => by rw [Nat.zero_add]; exact hj) (fun x hx => ?_)⟩)
      simp only [List.mem_cons, List.not_mem_nil, or_false] at hx
      rcases hx with rfl | rfl
      · exact VAt.keep hb _ h0_
      · exact VAt.keep hb _ h1_
    | 21, _ =>
      cases ho
      obtain ⟨b, e6, h6⟩ := hdep 20 23 rfl (by kernel_rfl)
      refine flow_fun 42 _ _ rfl (fun _ _ => by simp [go_sem]) #[.slice (some ⟨b, 0, none⟩) 2 2] (by rw [show (#[Operand.tmp 23] : Array Operand).map aq.eval = #[aq.tmps.getD 23 undef] from by simp [Act.eval], e6]) ?_
      refine (all_any (some ⟨b, 0, none⟩) 2 2 wq).mono ?_
      rintro x w' ⟨rfl, q⟩
      exact ⟨_, rfl, ⟨b, rfl, KsAt.keep q _ h6⟩, q⟩
    | (k + 22), hk => exact absurd hk (by omega)
  · intro o h22 ho
    omega
  intro vf w8 hc hv
  have e7 : ∃ b, vf 21 = _ ∧ KsAt w8 _ b 0 := hv 21 24 (by decide) rfl
  obtain ⟨b, e7, h7⟩ := e7
  have B8 := HB.out.trans ((hcB hc).mono (by omega))
  have H8v := HY.out.keep (hcB hc)
  have s8 := (hcB hc).size
  clear hv hc
  simp only [List.take_succ_cons, List.take_zero, List.drop_succ_cons, List.drop_zero, putAll, Act.put, List.setIfInBounds_toArray, List.set_cons_succ, List.set_cons_zero]
  rw [e7]
  have HB8 := hid B8
  have HK := hid h7
  clear B8 h7 e7 HB
  go_wp2_with ((with_reducible refine at_list' ?_); first
    | (refine wpList_store_c Tryz.ty33 rfl (.tmp 2) (.tmp 24) rfl (w.heap.size + 1) (valL 0 (zeros 32) nilS (.slice (some ⟨b, 0, none⟩) 2 2)) rfl rfl rfl (valL_oneC _ _ _ _ trivial trivial) _ H8v rfl ?_; intro w9 H9 O9))
  refine bodyPost_ret (results_c1 Tryz.ty33 rfl _ w9 (w.heap.size + 1) _ rfl H9 rfl) rfl ⟨_, rfl, ⟨nilS, _, rfl, ?_⟩, below_only HB8.out O9 (by omega)⟩
  exact VAt.aside H8v rfl O9 (psV6 zazhzs zazhzp zazhzpa zazhzst zazhzbo zazsg zzzhzs zzzhzp zzzhzpa zzzhzst zzzhzbo zzzsg) (psV6_wide zazhzs zazhzp zazhzpa zazhzst zazhzbo zazsg zzzhzs zzzhzp zzzhzpa zzzhzst zzzhzbo zzzsg) (isV_all (ks := [shV6 zazhzs zazhzp zazhzpa zazhzst zazhzbo zazsg, shV6 zzzhzs zzzhzp zzzhzpa zzzhzst zzzhzbo zzzsg]) rfl (by decide) HK.out)
end Go.Proofs.YtoajeencniomoaaGreat

/- The document's kind of a Header. -/
namespace Go.Proofs.YtoajeencniomoaaGreat
open Go.RowKit
set_option linter.unusedVariables false
set_option maxRecDepth 100000

set_option maxHeartbeats 2000000 in
theorem dhd_any (w : World) : Calls Tryz.prog 124 #[] w fun x w' => ∃ p, x = .returned (.pointer (some ⟨p, 0, none⟩)) ∧ DAt w' (dBox [dNum, dNum, dRoot, dRoot, dRoot]) p ∧ Below w.heap.size w w' := by
  have HB0 := hid (Below.refl w.heap.size w)
  go_enter Tryz.func124, Tryz.ntmps124
  go_wp2_with fail
  refine (num_any' w).mono ?_
  rintro e w1 ⟨rfl, q1, q2⟩
  have HD0_0 := hid q1
  have HB1 := hid (HB0.out.trans (q2.mono HB0.out.size))
  clear q1 q2 HB0
  go_wp2_with fail
  refine (num_any' w1).mono ?_
  rintro e w2 ⟨rfl, q1, q2⟩
  have HD0_1 := hid (DAt.keep q2 _ HD0_0.out)
  have HD1_1 := hid q1
  have HB2 := hid (HB1.out.trans (q2.mono HB1.out.size))
  clear q1 q2 HB1 HD0_0
  go_wp2_with fail
  refine (root_any' w2).mono ?_
  rintro e w3 ⟨rfl, q1, q2⟩
  have HD0_2 := hid (DAt.keep q2 _ HD0_1.out)
  have HD1_2 := hid (DAt.keep q2 _ HD1_1.out)
  have HD2_2 := hid q1
  have HB3 := hid (HB2.out.trans (q2.mono HB2.out.size))
  clear q1 q2 HB2 HD0_1 HD1_1
  go_wp2_with fail
  refine (root_any' w3).mono ?_
  rintro e w4 ⟨rfl, q1, q2⟩
  have HD0_3 := hid (DAt.keep q2 _ HD0_2.out)
  have HD1_3 := hid (DAt.keep q2 _ HD1_2.out)
  have HD2_3 := hid (DAt.keep q2 _ HD2_2.out)
  have HD3_3 := hid q1
  have HB4 := hid (HB3.out.trans (q2.mono HB3.out.size))
  clear q1 q2 HB3 HD0_2 HD1_2 HD2_2
  go_wp2_with fail
  refine (root_any' w4).mono ?_
  rintro e w5 ⟨rfl, q1, q2⟩
  have HD0_4 := hid (DAt.keep q2 _ HD0_3.out)
  have HD1_4 := hid (DAt.keep q2 _ HD1_3.out)
  have HD2_4 := hid (DAt.keep q2 _ HD2_3.out)
  have HD3_4 := hid (DAt.keep q2 _ HD3_3.out)
  have HD4_4 := hid q1
  have HB5 := hid (HB4.out.trans (q2.mono HB4.out.size))
  clear q1 q2 HB4 HD0_3 HD1_3 HD2_3 HD3_3
  go_wp2_with fail
  have hB : Below w5.heap.size w5 (w5.alloc (.cells #[.pointer (some ⟨w.heap.size, 0, none⟩), .pointer (some ⟨w1.heap.size, 0, none⟩), .pointer (some ⟨w2.heap.size, 0, none⟩), .pointer (some ⟨w3.heap.size, 0, none⟩), .pointer (some ⟨w4.heap.size, 0, none⟩)] 41)) := (Below.refl _ w5).alloc (Nat.le_refl _) _
  have h := heap_alloc_new w5 (.cells #[.pointer (some ⟨w.heap.size, 0, none⟩), .pointer (some ⟨w1.heap.size, 0, none⟩), .pointer (some ⟨w2.heap.size, 0, none⟩), .pointer (some ⟨w3.heap.size, 0, none⟩), .pointer (some ⟨w4.heap.size, 0, none⟩)] 41)
  generalize w5.alloc (.cells #[.pointer (some ⟨w.heap.size, 0, none⟩), .pointer (some ⟨w1.heap.size, 0, none⟩), .pointer (some ⟨w2.heap.size, 0, none⟩), .pointer (some ⟨w3.heap.size, 0, none⟩), .pointer (some ⟨w4.heap.size, 0, none⟩)] 41) = w6 at hB h ⊢
  have hD : DsAt w6 [dNum, dNum, dRoot, dRoot, dRoot] w5.heap.size 0 := by
    simp only [DsAt]
    exact ⟨⟨_, cell_of_row _ _ 0 _ _ (0, 0) h, DAt.keep hB _ HD0_4.out⟩, ⟨_, cell_of_row _ _ 1 _ _ (0, 0) h, DAt.keep hB _ HD1_4.out⟩, ⟨_, cell_of_row _ _ 2 _ _ (0, 0) h, DAt.keep hB _ HD2_4.out⟩, ⟨_, cell_of_row _ _ 3 _ _ (0, 0) h, DAt.keep hB _ HD3_4.out⟩, ⟨_, cell_of_row _ _ 4 _ _ (0, 0) h, DAt.keep hB _ HD4_4.out⟩, trivial⟩
  have HC := hid (box_any w5.heap.size 5 [dNum, dNum, dRoot, dRoot, dRoot] w6 rfl (by decide) hD)
  have HBm := hid (HB5.out.trans (hB.mono HB5.out.size))
  clear hB h hD
  refine HC.out.mono ?_
  rintro e wz ⟨rfl, q1, q2⟩
  have X := hid (And.intro q1 q2)
  clear q1 q2 HC
  go_wp2
  go_ret
  exact ⟨_, rfl, X.out.1, HBm.out.trans (X.out.2.mono HBm.out.size)⟩
end Go.Proofs.YtoajeencniomoaaGreat

/- The document's kind of a SignedHeader. -/
namespace Go.Proofs.YtoajeencniomoaaGreat
open Go.RowKit
set_option linter.unusedVariables false
set_option maxRecDepth 100000

set_option maxHeartbeats 2000000 in
theorem dsh_any (w : World) : Calls Tryz.prog 75 #[] w fun x w' => ∃ p, x = .returned (.pointer (some ⟨p, 0, none⟩)) ∧ DAt w' (dBox [dBox [dNum, dNum, dRoot, dRoot, dRoot], dRoot]) p ∧ Below w.heap.size w w' := by
  have HB0 := hid (Below.refl w.heap.size w)
  go_enter Tryz.func75, Tryz.ntmps75
  go_wp2_with fail
  refine (dhd_any w).mono ?_
  rintro e w1 ⟨p0, rfl, q1, q2⟩
  have HD0_0 := hid q1
  have HB1 := hid (HB0.out.trans (q2.mono HB0.out.size))
  clear q1 q2 HB0
  go_wp2_with fail
  refine (root_any' w1).mono ?_
  rintro e w2 ⟨rfl, q1, q2⟩
  have HD0_1 := hid (DAt.keep q2 _ HD0_0.out)
  have HD1_1 := hid q1
  have HB2 := hid (HB1.out.trans (q2.mono HB1.out.size))
  clear q1 q2 HB1 HD0_0
  go_wp2_with fail
  have hB : Below w2.heap.size w2 (w2.alloc (.cells #[.pointer (some ⟨p0, 0, none⟩), .pointer (some ⟨w1.heap.size, 0, none⟩)] 41)) := (Below.refl _ w2).alloc (Nat.le_refl _) _
  have h := heap_alloc_new w2 (.cells #[.pointer (some ⟨p0, 0, none⟩), .pointer (some ⟨w1.heap.size, 0, none⟩)] 41)
  generalize w2.alloc (.cells #[.pointer (some ⟨p0, 0, none⟩), .pointer (some ⟨w1.heap.size, 0, none⟩)] 41) = w3 at hB h ⊢
  have hD : DsAt w3 [dBox [dNum, dNum, dRoot, dRoot, dRoot], dRoot] w2.heap.size 0 := by
    simp only [DsAt]
    exact ⟨⟨_, cell_of_row _ _ 0 _ _ (0, 0) h, DAt.keep hB _ HD0_1.out⟩, ⟨_, cell_of_row _ _ 1 _ _ (0, 0) h, DAt.keep hB _ HD1_1.out⟩, trivial⟩
  have HC := hid (box_any w2.heap.size 2 [dBox [dNum, dNum, dRoot, dRoot, dRoot], dRoot] w3 rfl (by decide) hD)
  have HBm := hid (HB2.out.trans (hB.mono HB2.out.size))
  clear hB h hD
  refine HC.out.mono ?_
  rintro e wz ⟨rfl, q1, q2⟩
  have X := hid (And.intro q1 q2)
  clear q1 q2 HC
  go_wp2
  go_ret
  exact ⟨_, rfl, X.out.1, HBm.out.trans (X.out.2.mono HBm.out.size)⟩
end Go.Proofs.YtoajeencniomoaaGreat

/- The document's kind of a ProposerSlashing. -/
namespace Go.Proofs.YtoajeencniomoaaGreat
open Go.RowKit
set_option linter.unusedVariables false
set_option maxRecDepth 100000

set_option maxHeartbeats 2000000 in
theorem dps_any (w : World) : Calls Tryz.prog 28 #[] w fun x w' => ∃ p, x = .returned (.pointer (some ⟨p, 0, none⟩)) ∧ DAt w' (dBox [dBox [dBox [dNum, dNum, dRoot, dRoot, dRoot], dRoot], dBox [dBox [dNum, dNum, dRoot, dRoot, dRoot], dRoot]]) p ∧ Below w.heap.size w w' := by
  have HB0 := hid (Below.refl w.heap.size w)
  go_enter Tryz.func28, Tryz.ntmps28
  go_wp2_with fail
  refine (dsh_any w).mono ?_
  rintro e w1 ⟨p0, rfl, q1, q2⟩
  have HD0_0 := hid q1
  have HB1 := hid (HB0.out.trans (q2.mono HB0.out.size))
  clear q1 q2 HB0
  go_wp2_with fail
  refine (dsh_any w1).mono ?_
  rintro e w2 ⟨p1, rfl, q1, q2⟩
  have HD0_1 := hid (DAt.keep q2 _ HD0_0.out)
  have HD1_1 := hid q1
  have HB2 := hid (HB1.out.trans (q2.mono HB1.out.size))
  clear q1 q2 HB1 HD0_0
  go_wp2_with fail
  have hB : Below w2.heap.size w2 (w2.alloc (.cells #[.pointer (some ⟨p0, 0, none⟩), .pointer (some ⟨p1, 0, none⟩)] 41)) := (Below.refl _ w2).alloc (Nat.le_refl _) _
  have h := heap_alloc_new w2 (.cells #[.pointer (some ⟨p0, 0, none⟩), .pointer (some ⟨p1, 0, none⟩)] 41)
  generalize w2.alloc (.cells #[.pointer (some ⟨p0, 0, none⟩), .pointer (some ⟨p1, 0, none⟩)] 41) = w3 at hB h ⊢
  have hD : DsAt w3 [dBox [dBox [dNum, dNum, dRoot, dRoot, dRoot], dRoot], dBox [dBox [dNum, dNum, dRoot, dRoot, dRoot], dRoot]] w2.heap.size 0 := by
    simp only [DsAt]
    exact ⟨⟨_, cell_of_row _ _ 0 _ _ (0, 0) h, DAt.keep hB _ HD0_1.out⟩, ⟨_, cell_of_row _ _ 1 _ _ (0, 0) h, DAt.keep hB _ HD1_1.out⟩, trivial⟩
  have HC := hid (box_any w2.heap.size 2 [dBox [dBox [dNum, dNum, dRoot, dRoot, dRoot], dRoot], dBox [dBox [dNum, dNum, dRoot, dRoot, dRoot], dRoot]] w3 rfl (by decide) hD)
  have HBm := hid (HB2.out.trans (hB.mono HB2.out.size))
  clear hB h hD
  refine HC.out.mono ?_
  rintro e wz ⟨rfl, q1, q2⟩
  have X := hid (And.intro q1 q2)
  clear q1 q2 HC
  go_wp2
  go_ret
  exact ⟨_, rfl, X.out.1, HBm.out.trans (X.out.2.mono HBm.out.size)⟩
end Go.Proofs.YtoajeencniomoaaGreat

/- Lengths of parts, and numbers as bytes: there and back. -/
namespace Go.Proofs.YtoajeencniomoaaGreat
open Go.RowKit
set_option linter.unusedVariables false
/-- What parts are joined to. -/
def joinB (bss : List (List Nat)) : List Nat := cont (bss.map fun b => (b, true))
def lenB (bss : List (List Nat)) : Nat := (bss.map List.length).sum
theorem lenB_F (bss : List (List Nat)) : lenF (bss.map fun b => (b, true)) = lenB bss := by
  unfold lenF lenB
  rw [List.map_map]; rfl
theorem lenB_take (bss : List (List Nat)) (k : Nat) : lenB (bss.take k) ≤ lenB bss := by
  have := lenF_take (bss.map fun b => (b, true)) k
  rw [← List.map_take, lenB_F, lenB_F] at this
  exact this
theorem lenB_mem {bss : List (List Nat)} {i : Nat} {x : List Nat} (h : bss[i]? = some x) : x.length ≤ lenB bss := by
  have h1 := lenB_take bss (i + 1)
  have hi := (List.getElem?_eq_some_iff.1 h).1
  rw [List.take_succ_eq_append_getElem hi] at h1
  rw [List.getElem?_eq_getElem hi] at h
  cases h
  have e : ∀ (a : List (List Nat)) (b : List Nat), lenB (a ++ [b]) = lenB a + b.length := fun a b => by simp [lenB]
  rw [e] at h1
  omega

theorem le_putL (x k : Nat) : ((le x k).map fun n : Nat => (n : Int)) = putL x k := by
  simp [le, putL, byteAt]
theorem tk_le (x k : Nat) (hk : k ≤ 8) : tk (le x k) = x % 256 ^ k := by
  unfold tk takeV
  rw [le_putL, List.take_of_length_le (by rw [putL_length]; omega), takeL_put]
theorem tk_le4 (x : Nat) (h : x < 4294967296) : tk (le x 4) = x := by
  rw [tk_le x 4 (by decide)]
  exact Nat.mod_eq_of_lt h
theorem lenB_cons (b : List Nat) (r : List (List Nat)) : lenB (b :: r) = b.length + lenB r := by simp [lenB]
theorem lenB_flat (bss : List (List Nat)) : bss.flatten.length = lenB bss := by
  induction bss with
  | nil => rfl
  | cons b r ih => rw [List.flatten_cons, List.length_append, ih, lenB_cons]
theorem back_flat (bss : List (List Nat)) : backB (bss.map fun b => (b, true)) = bss.flatten := by
  induction bss with
  | nil => rfl
  | cons b r ih =>
    rw [List.map_cons, List.flatten_cons, ← ih]
    simp [backB]
theorem front_at (rest : List Nat) : ∀ (bss : List (List Nat)) (p j : Nat), j < bss.length → ((frontB p (bss.map fun b => (b, true)) ++ rest).drop (4 * j)).take 4 = le (p + lenB (bss.take j)) 4
  | [], p, j, h => by simp at h
  | b :: r, p, 0, h => by
    rw [List.map_cons, frontB]
    simp only [if_true, List.append_assoc, Nat.mul_zero, List.drop_zero, List.take_zero]
    rw [List.take_append_of_le_length (by rw [le_length]; exact Nat.le_refl _), List.take_of_length_le (by rw [le_length]; exact Nat.le_refl _)]
    rfl
  | b :: r, p, j + 1, h => by
    rw [List.map_cons, frontB]
    simp only [if_true, List.append_assoc]
    have h4 : (le p 4).length = 4 := le_length _ _
    rw [show 4 * (j + 1) = (le p 4).length + 4 * j by rw [h4]; omega, List.drop_append, List.take_succ_cons, lenB_cons]
    have e : List.drop ((le p 4).length + 4 * j) (le p 4) = [] := List.drop_eq_nil_of_le (by omega)
    rw [e, List.nil_append, show (le p 4).length + 4 * j - (le p 4).length = 4 * j by omega, front_at rest r (p + b.length) j (by simpa using h), Nat.add_assoc]
theorem flat_part : ∀ (bss : List (List Nat)) (i : Nat) (x : List Nat), bss[i]? = some x → (bss.flatten.drop (lenB (bss.take i))).take x.length = x
  | [], i, x, h => by simp at h
  | b :: r, 0, x, h => by
    simp at h
    subst h
    simp [lenB]
  | b :: r, i + 1, x, h => by
    rw [List.take_succ_cons, lenB_cons, List.flatten_cons, List.drop_append, List.drop_eq_nil_of_le (by omega), List.nil_append, show b.length + lenB (r.take i) - b.length = lenB (r.take i) by omega]
    exact flat_part r i x (by simpa using h)
theorem lenB_succ (bss : List (List Nat)) (i : Nat) (x : List Nat) (h : bss[i]? = some x) : lenB (bss.take (i + 1)) = lenB (bss.take i) + x.length := by
  have hi := (List.getElem?_eq_some_iff.1 h).1
  rw [List.getElem?_eq_getElem hi] at h
  cases h
  rw [List.take_succ_eq_append_getElem hi]
  have e : ∀ (a : List (List Nat)) (b : List Nat), lenB (a ++ [b]) = lenB a + b.length := fun a b => by simp [lenB]
  exact e _ _
end Go.Proofs.YtoajeencniomoaaGreat

/- Numbers as eight bytes, there and back. -/
namespace Go.Proofs.YtoajeencniomoaaGreat
open Go.RowKit
set_option maxRecDepth 100000

theorem tk_le8 (n : Nat) (h : n < 18446744073709551616) : tk (le n 8) = n := by
  unfold tk
  rw [le_putL]
  exact takeV_put8 n h
end Go.Proofs.YtoajeencniomoaaGreat

/- CodecProposerSlashings: its contracts, made one. -/
namespace Go.Proofs.YtoajeencniomoaaGreat
open Go.RowKit
set_option linter.unusedVariables false
set_option linter.unusedSimpArgs false
set_option maxRecDepth 100000

theorem psB (sl : Nat) (pr : Nat) (pa : List Nat) (pb : List Nat) (pc : List Nat) (pg : List Nat) (ql : Nat) (qr : Nat) (qa : List Nat) (qb : List Nat) (qc : List Nat) (qg : List Nat) : cont (psF sl pr pa pb pc pg ql qr qa qb qc qg) = le sl 8 ++ (le pr 8 ++ (pa ++ (pb ++ (pc ++ (pg ++ (le ql 8 ++ (le qr 8 ++ (qa ++ (qb ++ (qc ++ (qg))))))))))) := by simp [psF, shF, hdF, numF, rootF, cont, frontB, backB]
theorem psK_ok : okD (dBox [dBox [dBox [dNum, dNum, dRoot, dRoot, dRoot], dRoot], dBox [dBox [dNum, dNum, dRoot, dRoot, dRoot], dRoot]]) := by simp [okD, okDs, dBox, dNum, dRoot, small, sizeD, sizeS, sizeH]
theorem psV_enc (sl : Nat) (pr : Nat) (pa : List Nat) (pb : List Nat) (pc : List Nat) (pg : List Nat) (ql : Nat) (qr : Nat) (qa : List Nat) (qb : List Nat) (qc : List Nat) (qg : List Nat) : encV (dBox [dBox [dBox [dNum, dNum, dRoot, dRoot, dRoot], dRoot], dBox [dBox [dNum, dNum, dRoot, dRoot, dRoot], dRoot]]) (psV6 sl pr pa pb pc pg ql qr qa qb qc qg) = cont (psF sl pr pa pb pc pg ql qr qa qb qc qg) := by
  rw [psB]
  simp [dBox, dNum, dRoot, psV6, shV6, hdV6, encV, encK, kdsV, sizeD, sizeS, sizeH, cont, frontB, backB]
theorem psV_ok (sl : Nat) (pr : Nat) (pa : List Nat) (pb : List Nat) (pc : List Nat) (pg : List Nat) (ql : Nat) (qr : Nat) (qa : List Nat) (qb : List Nat) (qc : List Nat) (qg : List Nat) (hpa : pa.length = 32) (hpb : pb.length = 32) (hpc : pc.length = 32) (hpg : pg.length = 32) (hqa : qa.length = 32) (hqb : qb.length = 32) (hqc : qc.length = 32) (hqg : qg.length = 32) : okV (dBox [dBox [dBox [dNum, dNum, dRoot, dRoot, dRoot], dRoot], dBox [dBox [dNum, dNum, dRoot, dRoot, dRoot], dRoot]]) (psV6 sl pr pa pb pc pg ql qr qa qb qc qg) := by
  simp [dBox, dNum, dRoot, psV6, shV6, hdV6, okV, okK, encV, encK, kdsV, sizeD, sizeS, sizeH, lenF, le_length, cont, frontB, backB, hpa, hpb, hpc, hpg, hqa, hqb, hqc, hqg]
theorem psC_six (sl : Nat) (pr : Nat) (pa : List Nat) (pb : List Nat) (pc : List Nat) (pg : List Nat) (ql : Nat) (qr : Nat) (qa : List Nat) (qb : List Nat) (qc : List Nat) (qg : List Nat) : psC6 sl pr pa pb pc pg ql qr qa qb qc qg = psC sl pr pa pb pc pg ql qr qa qb qc qg := by simp [psC6, psP6, shC6, shP6, hdC6, hdP6, psC, shC, hdC]
theorem psD_good (sl : Nat) (pr : Nat) (pa : List Nat) (pb : List Nat) (pc : List Nat) (pg : List Nat) (ql : Nat) (qr : Nat) (qa : List Nat) (qb : List Nat) (qc : List Nat) (qg : List Nat) (hsl : sl < 18446744073709551616) (hpr : pr < 18446744073709551616) (hpa : pa.length = 32) (hpb : pb.length = 32) (hpc : pc.length = 32) (hpg : pg.length = 32) (hql : ql < 18446744073709551616) (hqr : qr < 18446744073709551616) (hqa : qa.length = 32) (hqb : qb.length = 32) (hqc : qc.length = 32) (hqg : qg.length = 32) : psD (le sl 8 ++ (le pr 8 ++ (pa ++ (pb ++ (pc ++ (pg ++ (le ql 8 ++ (le qr 8 ++ (qa ++ (qb ++ (qc ++ (qg)))))))))))) = .tuple #[.agg (psC sl pr pa pb pc pg ql qr qa qb qc qg).toArray, .int .i64 0] := by
  obtain ⟨y0, hy0, hyn0⟩ : ∃ y, le sl 8 = y ∧ y.length = 8 := ⟨_, rfl, le_length _ _⟩
  have e0 : tk y0 = sl := by rw [← hy0]; exact tk_le8 sl hsl
  obtain ⟨y1, hy1, hyn1⟩ : ∃ y, le pr 8 = y ∧ y.length = 8 := ⟨_, rfl, le_length _ _⟩
  have e1 : tk y1 = pr := by rw [← hy1]; exact tk_le8 pr hpr
  obtain ⟨y6, hy6, hyn6⟩ : ∃ y, le ql 8 = y ∧ y.length = 8 := ⟨_, rfl, le_length _ _⟩
  have e6 : tk y6 = ql := by rw [← hy6]; exact tk_le8 ql hql
  obtain ⟨y7, hy7, hyn7⟩ : ∃ y, le qr 8 = y ∧ y.length = 8 := ⟨_, rfl, le_length _ _⟩
  have e7 : tk y7 = qr := by rw [← hy7]; exact tk_le8 qr hqr
  rw [hy0, hy1, hy6, hy7]
  obtain ⟨BS, hBS⟩ : ∃ B, y0 ++ (y1 ++ (pa ++ (pb ++ (pc ++ (pg ++ (y6 ++ (y7 ++ (qa ++ (qb ++ (qc ++ (qg))))))))))) = B := ⟨_, rfl⟩
  have hl : BS.length = 288 := by rw [← hBS]; simp [hyn0, hyn1, hpa, hpb, hpc, hpg, hyn6, hyn7, hqa, hqb, hqc, hqg]
  have d0 : BS.drop 0 = y0 ++ (y1 ++ (pa ++ (pb ++ (pc ++ (pg ++ (y6 ++ (y7 ++ (qa ++ (qb ++ (qc ++ (qg))))))))))) := by rw [List.drop_zero]; exact hBS.symm
  have d1 : BS.drop 8 = y1 ++ (pa ++ (pb ++ (pc ++ (pg ++ (y6 ++ (y7 ++ (qa ++ (qb ++ (qc ++ (qg)))))))))) := by rw [show (8 : Nat) = 0 + 8 from rfl, ← List.drop_drop, d0]; exact List.drop_left' hyn0
  have d2 : BS.drop 16 = pa ++ (pb ++ (pc ++ (pg ++ (y6 ++ (y7 ++ (qa ++ (qb ++ (qc ++ (qg))))))))) := by rw [show (16 : Nat) = 8 + 8 from rfl, ← List.drop_drop, d1]; exact List.drop_left' hyn1
  have d3 : BS.drop 48 = pb ++ (pc ++ (pg ++ (y6 ++ (y7 ++ (qa ++ (qb ++ (qc ++ (qg)))))))) := by rw [show (48 : Nat) = 16 + 32 from rfl, ← List.drop_drop, d2]; exact List.drop_left' hpa
  have d4 : BS.drop 80 = pc ++ (pg ++ (y6 ++ (y7 ++ (qa ++ (qb ++ (qc ++ (qg))))))) := by rw [show (80 : Nat) = 48 + 32 from rfl, ← List.drop_drop, d3]; exact List.drop_left' hpb
  have d5 : BS.drop 112 = pg ++ (y6 ++ (y7 ++ (qa ++ (qb ++ (qc ++ (qg)))))) := by rw [show (112 : Nat) = 80 + 32 from rfl, ← List.drop_drop, d4]; exact List.drop_left' hpc
  have d6 : BS.drop 144 = y6 ++ (y7 ++ (qa ++ (qb ++ (qc ++ (qg))))) := by rw [show (144 : Nat) = 112 + 32 from rfl, ← List.drop_drop, d5]; exact List.drop_left' hpg
  have d7 : BS.drop 152 = y7 ++ (qa ++ (qb ++ (qc ++ (qg)))) := by rw [show (152 : Nat) = 144 + 8 from rfl, ← List.drop_drop, d6]; exact List.drop_left' hyn6
  have d8 : BS.drop 160 = qa ++ (qb ++ (qc ++ (qg))) := by rw [show (160 : Nat) = 152 + 8 from rfl, ← List.drop_drop, d7]; exact List.drop_left' hyn7
  have d9 : BS.drop 192 = qb ++ (qc ++ (qg)) := by rw [show (192 : Nat) = 160 + 32 from rfl, ← List.drop_drop, d8]; exact List.drop_left' hqa
  have d10 : BS.drop 224 = qc ++ (qg) := by rw [show (224 : Nat) = 192 + 32 from rfl, ← List.drop_drop, d9]; exact List.drop_left' hqb
  have d11 : BS.drop 256 = qg := by rw [show (256 : Nat) = 224 + 32 from rfl, ← List.drop_drop, d10]; exact List.drop_left' hqc
  rw [hBS]
  unfold psD
  rw [if_pos hl]
  have t : psTake BS 288 (0, false) = psC (tk ((BS.drop 0).take 8)) (tk ((BS.drop 8).take 8)) ((BS.drop 16).take 32) ((BS.drop 48).take 32) ((BS.drop 80).take 32) ((BS.drop 112).take 32) (tk ((BS.drop 144).take 8)) (tk ((BS.drop 152).take 8)) ((BS.drop 160).take 32) ((BS.drop 192).take 32) ((BS.drop 224).take 32) ((BS.drop 256).take 32) := rfl
  have t0 : (BS.drop 0).take 8 = y0 := by rw [d0]; exact List.take_left' hyn0
  have t1 : (BS.drop 8).take 8 = y1 := by rw [d1]; exact List.take_left' hyn1
  have t2 : (BS.drop 16).take 32 = pa := by rw [d2]; exact List.take_left' hpa
  have t3 : (BS.drop 48).take 32 = pb := by rw [d3]; exact List.take_left' hpb
  have t4 : (BS.drop 80).take 32 = pc := by rw [d4]; exact List.take_left' hpc
  have t5 : (BS.drop 112).take 32 = pg := by rw [d5]; exact List.take_left' hpg
  have t6 : (BS.drop 144).take 8 = y6 := by rw [d6]; exact List.take_left' hyn6
  have t7 : (BS.drop 152).take 8 = y7 := by rw [d7]; exact List.take_left' hyn7
  have t8 : (BS.drop 160).take 32 = qa := by rw [d8]; exact List.take_left' hqa
  have t9 : (BS.drop 192).take 32 = qb := by rw [d9]; exact List.take_left' hqb
  have t10 : (BS.drop 224).take 32 = qc := by rw [d10]; exact List.take_left' hqc
  have t11 : (BS.drop 256).take 32 = qg := by rw [d11]; exact List.take_of_length_le (by omega)
  rw [t, t0, t1, t2, t3, t4, t5, t6, t7, t8, t9, t10, t11, e0, e1, e6, e7]
  rfl
theorem ps_walk (sl : Nat) (pr : Nat) (pa : List Nat) (pb : List Nat) (pc : List Nat) (pg : List Nat) (ql : Nat) (qr : Nat) (qa : List Nat) (qb : List Nat) (qc : List Nat) (qg : List Nat) (hsl : sl < 18446744073709551616) (hpr : pr < 18446744073709551616) (hpa : pa.length = 32) (hpa8 : ∀ z ∈ pa, z < 256) (hpb : pb.length = 32) (hpb8 : ∀ z ∈ pb, z < 256) (hpc : pc.length = 32) (hpc8 : ∀ z ∈ pc, z < 256) (hpg : pg.length = 32) (hpg8 : ∀ z ∈ pg, z < 256) (hql : ql < 18446744073709551616) (hqr : qr < 18446744073709551616) (hqa : qa.length = 32) (hqa8 : ∀ z ∈ qa, z < 256) (hqb : qb.length = 32) (hqb8 : ∀ z ∈ qb, z < 256) (hqc : qc.length = 32) (hqc8 : ∀ z ∈ qc, z < 256) (hqg : qg.length = 32) (hqg8 : ∀ z ∈ qg, z < 256) (w : World) :
    Calls Tryz.prog 6 #[.agg (psC sl pr pa pb pc pg ql qr qa qb qc qg).toArray] w fun e w' => e = .returned (.bool true) ∧ Below w.heap.size w w' := by
  have hB := psB sl pr pa pb pc pg ql qr qa qb qc qg
  refine codecProposerSlashing_walk (psC sl pr pa pb pc pg ql qr qa qb qc qg) (psC 0 0 (zeros 32) (zeros 32) (zeros 32) (zeros 32) 0 0 (zeros 32) (zeros 32) (zeros 32) (zeros 32)) (psV6 sl pr pa pb pc pg ql qr qa qb qc qg) (cont (psF sl pr pa pb pc pg ql qr qa qb qc qg)) (dBox [dBox [dBox [dNum, dNum, dRoot, dRoot, dRoot], dRoot], dBox [dBox [dNum, dNum, dRoot, dRoot, dRoot], dRoot]]) w Tryz.ty65 (by rw [(show (psC sl pr pa pb pc pg ql qr qa qb qc qg).length = _ from psC_length sl pr pa pb pc pg ql qr qa qb qc qg hpa hpb hpc hpg hqa hqb hqc hqg)]; rfl) (psC_one _ _ _ _ _ _ _ _ _ _ _ _) ?_ (fun wq => ?_) (fun wq => encPs_any sl pr pa pb pc pg ql qr qa qb qc qg wq hsl hpr hpa hpa8 hpb hpb8 hpc hpc8 hpg hpg8 hql hqr hqa hqa8 hqb hqb8 hqc hqc8 hqg hqg8) (fun v wq hI => ?_) (fun wq => dps_any wq) (fun p u wq hD hV => ?_) (fun u v wq hu hv => ?_)
  · rw [hB]
    intro z hz
    simp only [List.mem_append] at hz
    rcases hz with hz | hz | hz | hz | hz | hz | hz | hz | hz | hz | hz | hz
    · exact le_byte _ _ z hz
    · exact le_byte _ _ z hz
    · exact hpa8 z hz
    · exact hpb8 z hz
    · exact hpc8 z hz
    · exact hpg8 z hz
    · exact le_byte _ _ z hz
    · exact le_byte _ _ z hz
    · exact hqa8 z hz
    · exact hqb8 z hz
    · exact hqc8 z hz
    · exact hqg8 z hz
  · rw [← psC_six sl pr pa pb pc pg ql qr qa qb qc qg]
    exact psV6_any sl pr pa pb pc pg ql qr qa qb qc qg hsl hpr ⟨hpa, hpa8⟩ ⟨hpb, hpb8⟩ ⟨hpc, hpc8⟩ ⟨hpg, hpg8⟩ hql hqr ⟨hqa, hqa8⟩ ⟨hqb, hqb8⟩ ⟨hqc, hqc8⟩ ⟨hqg, hqg8⟩ wq
  · have h := toPs_any v _ wq hI (by rw [hB]; simp [le_length, hpa, hpb, hpc, hpg, hqa, hqb, hqc, hqg])
    rw [hB, psD_good sl pr pa pb pc pg ql qr qa qb qc qg hsl hpr hpa hpb hpc hpg hql hqr hqa hqb hqc hqg] at h
    exact h
  · have h := enc_any _ _ u p wq psK_ok (psV_ok sl pr pa pb pc pg ql qr qa qb qc qg hpa hpb hpc hpg hqa hqb hqc hqg) hD hV
    rw [psV_enc] at h
    exact h
  · have h := same_any _ _ u v wq hu hv
    rw [sameV_refl] at h
    exact h
end Go.Proofs.YtoajeencniomoaaGreat

/- Structs that came in by value. -/
namespace Go.Proofs.YtoajeencniomoaaGreat
open Go.RowKit Go.Deep Go.WideShapes
set_option linter.unusedVariables false
set_option linter.unusedSimpArgs false
set_option maxRecDepth 100000

abbrev Rt (r : List Nat) : Prop := r.length = 32 ∧ ∀ z ∈ r, z < 256
theorem cellsRt : Tryz.prog.cellsOf 24 = 32 := by kernel_rfl
theorem cellsU8 : Tryz.prog.cellsOf 5 = 1 := by kernel_rfl
theorem cellsU64 : Tryz.prog.cellsOf 22 = 1 := by kernel_rfl
/-- Parts of a list, one behind the other. -/
def cutAt {α : Type} (cs : List α) : Nat → List Nat → List (List α)
  | _, [] => []
  | o, k :: ks => (cs.drop o).take k :: cutAt cs (o + k) ks
theorem cut_flat {α : Type} (cs : List α) : ∀ (ks : List Nat) (o : Nat), o + ks.sum = cs.length → cs.drop o = (cutAt cs o ks).flatten := by
  intro ks
  induction ks with
  | nil => intro o h; simp at h; rw [h, List.drop_length]; rfl
  | cons k ks ih =>
    intro o h
    rw [cutAt, List.flatten_cons, ← ih (o + k) (by simp at h; omega), ← List.drop_drop, List.take_append_drop]
section
variable {H : Type} {enc : TypeId × Value → H} {W : World} {b0 : Nat} {sp : Nat → Bool} {held : Bool}
theorem root_of_trod {fuel : Nat} {cs : List Value} {x : DataW H × List MemPlace} (h : DataW.trod enc Tryz.prog W b0 sp held fuel 24 cs = some x) : ∃ r : List Nat, cs = cellsB r ∧ r.length = 32 ∧ ∀ z ∈ r, z < 256 := by
  obtain ⟨xs, m, _, _, hl, hxs, hel⟩ := DataW.trod_array Tryz.und24 h
  rw [cellsRt] at hl
  have key : ∀ i (hi : i < cs.length), ∃ n : Nat, cs[i] = .int .u8 (n : Int) ∧ n < 256 := by
    intro i hi
    have h1 := hel i (by omega)
    rw [cellsU8, Nat.mul_one, List.getElem?_eq_getElem (by omega)] at h1
    obtain ⟨n, e1, _, hw⟩ := DataW.trod_int Tryz.underlying5 h1
    have hb := bounds_u8 hw
    have e2 : (cs.drop i).take 1 = [cs[i]] := by
      rw [List.drop_eq_getElem_cons hi, List.take_succ_cons, List.take_zero]
    have e3 : [cs[i]] = [Value.int .u8 n] := e2.symm.trans e1
    refine ⟨n.toNat, ?_, by omega⟩
    have e4 : cs[i] = Value.int .u8 n := by simpa using e3
    rw [e4]
    congr 1
    omega
  refine ⟨cs.map fun v => (intOf v).toNat, ?_, by simp [hl], ?_⟩
  · unfold cellsB
    apply List.ext_getElem
    · simp
    · intro i h1 h2
      obtain ⟨n, e, hn⟩ := key i h1
      simp [e, intOf]
  · intro z hz
    obtain ⟨v, hv, rfl⟩ := List.mem_map.1 hz
    obtain ⟨i, hi, rfl⟩ := List.mem_iff_getElem.1 hv
    obtain ⟨n, e, hn⟩ := key i hi
    simp [e, intOf, hn]
theorem num_of_trod {fuel : Nat} {cs : List Value} {x : DataW H × List MemPlace} (h : DataW.trod enc Tryz.prog W b0 sp held fuel 22 cs = some x) : ∃ n : Nat, cs = [.int .u64 (n : Nat)] ∧ n < 18446744073709551616 := by
  obtain ⟨i, e, _, hw⟩ := DataW.trod_int Tryz.underlying22 h
  have hb := bounds_u64 hw
  refine ⟨i.toNat, ?_, by omega⟩
  rw [e, Int.toNat_of_nonneg hb.1]
theorem cells_hd : Tryz.prog.cellsOf 61 = 98 := by kernel_rfl
theorem hd_of_trod {fuel : Nat} {cs : List Value} {x : DataW H × List MemPlace} (h : DataW.trod enc Tryz.prog W b0 sp held fuel 61 cs = some x) : ∃ (zs : Nat) (zp : Nat) (zpa : List Nat) (zst : List Nat) (zbo : List Nat), cs = hdC zs zp zpa zst zbo ∧ zs < 18446744073709551616 ∧ zp < 18446744073709551616 ∧ Rt zpa ∧ Rt zst ∧ Rt zbo := by
  obtain ⟨xs, n, _, _, hl, hlen, hf⟩ := DataW.trod_struct Tryz.underlying61 h
  rw [cells_hd] at hl
  have hx : xs.length = 5 := hlen
  have f0 : ∃ y, DataW.trod enc Tryz.prog W b0 sp held n 22 ((cs.drop 0).take 1) = some y := by
    have := hf 0 _ rfl
    change DataW.trod enc Tryz.prog W b0 sp held n 22 (List.take (Tryz.prog.cellsOf 22) (List.drop 0 cs)) = xs[0]? at this
    rw [cellsU64, List.getElem?_eq_getElem (by omega)] at this
    exact ⟨_, this⟩
  obtain ⟨y0, f0⟩ := f0
  obtain ⟨zs, e0, hzs⟩ := num_of_trod f0
  have f1 : ∃ y, DataW.trod enc Tryz.prog W b0 sp held n 22 ((cs.drop 1).take 1) = some y := by
    have := hf 1 _ rfl
    change DataW.trod enc Tryz.prog W b0 sp held n 22 (List.take (Tryz.prog.cellsOf 22) (List.drop 1 cs)) = xs[1]? at this
    rw [cellsU64, List.getElem?_eq_getElem (by omega)] at this
    exact ⟨_, this⟩
  obtain ⟨y1, f1⟩ := f1
  obtain ⟨zp, e1, hzp⟩ := num_of_trod f1
  have f2 : ∃ y, DataW.trod enc Tryz.prog W b0 sp held n 24 ((cs.drop 2).take 32) = some y := by
    have := hf 2 _ rfl
    change DataW.trod enc Tryz.prog W b0 sp held n 24 (List.take (Tryz.prog.cellsOf 24) (List.drop 2 cs)) = xs[2]? at this
    rw [cellsRt, List.getElem?_eq_getElem (by omega)] at this
    exact ⟨_, this⟩
  obtain ⟨y2, f2⟩ := f2
  obtain ⟨zpa, e2, hzpa⟩ := root_of_trod f2
  have f3 : ∃ y, DataW.trod enc Tryz.prog W b0 sp held n 24 ((cs.drop 34).take 32) = some y := by
    have := hf 3 _ rfl
    change DataW.trod enc Tryz.prog W b0 sp held n 24 (List.take (Tryz.prog.cellsOf 24) (List.drop 34 cs)) = xs[3]? at this
    rw [cellsRt, List.getElem?_eq_getElem (by omega)] at this
    exact ⟨_, this⟩
  obtain ⟨y3, f3⟩ := f3
  obtain ⟨zst, e3, hzst⟩ := root_of_trod f3
  have f4 : ∃ y, DataW.trod enc Tryz.prog W b0 sp held n 24 ((cs.drop 66).take 32) = some y := by
    have := hf 4 _ rfl
    change DataW.trod enc Tryz.prog W b0 sp held n 24 (List.take (Tryz.prog.cellsOf 24) (List.drop 66 cs)) = xs[4]? at this
    rw [cellsRt, List.getElem?_eq_getElem (by omega)] at this
    exact ⟨_, this⟩
  obtain ⟨y4, f4⟩ := f4
  obtain ⟨zbo, e4, hzbo⟩ := root_of_trod f4
  have hc := cut_flat cs [1, 1, 32, 32, 32] 0 (by rw [hl]; rfl)
  rw [List.drop_zero] at e0
  simp only [cutAt, List.drop_zero, Nat.zero_add, Nat.reduceAdd, e0, e1, e2, e3, e4] at hc
  refine ⟨zs, zp, zpa, zst, zbo, by rw [hc]; simp [hdC], hzs, hzp, hzpa, hzst, hzbo⟩
theorem open_hd {base : Nat} {v : Value} {d : DataW H} {p : List MemPlace} (hv : Value.okWide Tryz.prog W .any base 61 v) (h : DataW.Trod enc Tryz.prog W b0 sp held 61 v d p) : ∃ (zs : Nat) (zp : Nat) (zpa : List Nat) (zst : List Nat) (zbo : List Nat), v = .agg (hdC zs zp zpa zst zbo).toArray ∧ zs < 18446744073709551616 ∧ zp < 18446744073709551616 ∧ Rt zpa ∧ Rt zst ∧ Rt zbo := by
  obtain ⟨cs, rfl, _⟩ := okWide_struct Tryz.underlying61 hv
  obtain ⟨fuel, hf⟩ := h
  obtain ⟨zs, zp, zpa, zst, zbo, e, hzs, hzp, hzpa, hzst, hzbo⟩ := hd_of_trod hf
  exact ⟨zs, zp, zpa, zst, zbo, by rw [← Array.toList_inj.1 (show cs.toList = (hdC zs zp zpa zst zbo).toArray.toList from e)], hzs, hzp, hzpa, hzst, hzbo⟩
theorem cells_sh : Tryz.prog.cellsOf 63 = 130 := by kernel_rfl
theorem sh_of_trod {fuel : Nat} {cs : List Value} {x : DataW H × List MemPlace} (h : DataW.trod enc Tryz.prog W b0 sp held fuel 63 cs = some x) : ∃ (zhzs : Nat) (zhzp : Nat) (zhzpa : List Nat) (zhzst : List Nat) (zhzbo : List Nat) (zsg : List Nat), cs = shC zhzs zhzp zhzpa zhzst zhzbo zsg ∧ zhzs < 18446744073709551616 ∧ zhzp < 18446744073709551616 ∧ Rt zhzpa ∧ Rt zhzst ∧ Rt zhzbo ∧ Rt zsg := by
  obtain ⟨xs, n, _, _, hl, hlen, hf⟩ := DataW.trod_struct Tryz.underlying63 h
  rw [cells_sh] at hl
  have hx : xs.length = 2 := hlen
  have f0 : ∃ y, DataW.trod enc Tryz.prog W b0 sp held n 61 ((cs.drop 0).take 98) = some y := by
    have := hf 0 _ rfl
    change DataW.trod enc Tryz.prog W b0 sp held n 61 (List.take (Tryz.prog.cellsOf 61) (List.drop 0 cs)) = xs[0]? at this
    rw [cells_hd, List.getElem?_eq_getElem (by omega)] at this
    exact ⟨_, this⟩
  obtain ⟨y0, f0⟩ := f0
  obtain ⟨zhzs, zhzp, zhzpa, zhzst, zhzbo, e0, hzhzs, hzhzp, hzhzpa, hzhzst, hzhzbo⟩ := hd_of_trod f0
  have f1 : ∃ y, DataW.trod enc Tryz.prog W b0 sp held n 24 ((cs.drop 98).take 32) = some y := by
    have := hf 1 _ rfl
    change DataW.trod enc Tryz.prog W b0 sp held n 24 (List.take (Tryz.prog.cellsOf 24) (List.drop 98 cs)) = xs[1]? at this
    rw [cellsRt, List.getElem?_eq_getElem (by omega)] at this
    exact ⟨_, this⟩
  obtain ⟨y1, f1⟩ := f1
  obtain ⟨zsg, e1, hzsg⟩ := root_of_trod f1
  have hc := cut_flat cs [98, 32] 0 (by rw [hl]; rfl)
  rw [List.drop_zero] at e0
  simp only [cutAt, List.drop_zero, Nat.zero_add, Nat.reduceAdd, e0, e1] at hc
  refine ⟨zhzs, zhzp, zhzpa, zhzst, zhzbo, zsg, by rw [hc]; simp [shC], hzhzs, hzhzp, hzhzpa, hzhzst, hzhzbo, hzsg⟩
theorem open_sh {base : Nat} {v : Value} {d : DataW H} {p : List MemPlace} (hv : Value.okWide Tryz.prog W .any base 63 v) (h : DataW.Trod enc Tryz.prog W b0 sp held 63 v d p) : ∃ (zhzs : Nat) (zhzp : Nat) (zhzpa : List Nat) (zhzst : List Nat) (zhzbo : List Nat) (zsg : List Nat), v = .agg (shC zhzs zhzp zhzpa zhzst zhzbo zsg).toArray ∧ zhzs < 18446744073709551616 ∧ zhzp < 18446744073709551616 ∧ Rt zhzpa ∧ Rt zhzst ∧ Rt zhzbo ∧ Rt zsg := by
  obtain ⟨cs, rfl, _⟩ := okWide_struct Tryz.underlying63 hv
  obtain ⟨fuel, hf⟩ := h
  obtain ⟨zhzs, zhzp, zhzpa, zhzst, zhzbo, zsg, e, hzhzs, hzhzp, hzhzpa, hzhzst, hzhzbo, hzsg⟩ := sh_of_trod hf
  exact ⟨zhzs, zhzp, zhzpa, zhzst, zhzbo, zsg, by rw [← Array.toList_inj.1 (show cs.toList = (shC zhzs zhzp zhzpa zhzst zhzbo zsg).toArray.toList from e)], hzhzs, hzhzp, hzhzpa, hzhzst, hzhzbo, hzsg⟩
theorem cells_ps : Tryz.prog.cellsOf 65 = 260 := by kernel_rfl
theorem ps_of_trod {fuel : Nat} {cs : List Value} {x : DataW H × List MemPlace} (h : DataW.trod enc Tryz.prog W b0 sp held fuel 65 cs = some x) : ∃ (zazhzs : Nat) (zazhzp : Nat) (zazhzpa : List Nat) (zazhzst : List Nat) (zazhzbo : List Nat) (zazsg : List Nat) (zzzhzs : Nat) (zzzhzp : Nat) (zzzhzpa : List Nat) (zzzhzst : List Nat) (zzzhzbo : List Nat) (zzzsg : List Nat), cs = psC zazhzs zazhzp zazhzpa zazhzst zazhzbo zazsg zzzhzs zzzhzp zzzhzpa zzzhzst zzzhzbo zzzsg ∧ zazhzs < 18446744073709551616 ∧ zazhzp < 18446744073709551616 ∧ Rt zazhzpa ∧ Rt zazhzst ∧ Rt zazhzbo ∧ Rt zazsg ∧ zzzhzs < 18446744073709551616 ∧ zzzhzp < 18446744073709551616 ∧ Rt zzzhzpa ∧ Rt zzzhzst ∧ Rt zzzhzbo ∧ Rt zzzsg := by
  obtain ⟨xs, n, _, _, hl, hlen, hf⟩ := DataW.trod_struct Tryz.underlying65 h
  rw [cells_ps] at hl
  have hx : xs.length = 2 := hlen
  have f0 : ∃ y, DataW.trod enc Tryz.prog W b0 sp held n 63 ((cs.drop 0).take 130) = some y := by
    have := hf 0 _ rfl
    change DataW.trod enc Tryz.prog W b0 sp held n 63 (List.take (Tryz.prog.cellsOf 63) (List.drop 0 cs)) = xs[0]? at this
    rw [cells_sh, List.getElem?_eq_getElem (by omega)] at this
    exact ⟨_, this⟩
  obtain ⟨y0, f0⟩ := f0
  obtain ⟨zazhzs, zazhzp, zazhzpa, zazhzst, zazhzbo, zazsg, e0, hzazhzs, hzazhzp, hzazhzpa, hzazhzst, hzazhzbo, hzazsg⟩ := sh_of_trod f0
  have f1 : ∃ y, DataW.trod enc Tryz.prog W b0 sp held n 63 ((cs.drop 130).take 130) = some y := by
    have := hf 1 _ rfl
    change DataW.trod enc Tryz.prog W b0 sp held n 63 (List.take (Tryz.prog.cellsOf 63) (List.drop 130 cs)) = xs[1]? at this
    rw [cells_sh, List.getElem?_eq_getElem (by omega)] at this
    exact ⟨_, this⟩
  obtain ⟨y1, f1⟩ := f1
  obtain ⟨zzzhzs, zzzhzp, zzzhzpa, zzzhzst, zzzhzbo, zzzsg, e1, hzzzhzs, hzzzhzp, hzzzhzpa, hzzzhzst, hzzzhzbo, hzzzsg⟩ := sh_of_trod f1
  have hc := cut_flat cs [130, 130] 0 (by rw [hl]; rfl)
  rw [List.drop_zero] at e0
  simp only [cutAt, List.drop_zero, Nat.zero_add, Nat.reduceAdd, e0, e1] at hc
  refine ⟨zazhzs, zazhzp, zazhzpa, zazhzst, zazhzbo, zazsg, zzzhzs, zzzhzp, zzzhzpa, zzzhzst, zzzhzbo, zzzsg, by rw [hc]; simp [psC], hzazhzs, hzazhzp, hzazhzpa, hzazhzst, hzazhzbo, hzazsg, hzzzhzs, hzzzhzp, hzzzhzpa, hzzzhzst, hzzzhzbo, hzzzsg⟩
theorem open_ps {base : Nat} {v : Value} {d : DataW H} {p : List MemPlace} (hv : Value.okWide Tryz.prog W .any base 65 v) (h : DataW.Trod enc Tryz.prog W b0 sp held 65 v d p) : ∃ (zazhzs : Nat) (zazhzp : Nat) (zazhzpa : List Nat) (zazhzst : List Nat) (zazhzbo : List Nat) (zazsg : List Nat) (zzzhzs : Nat) (zzzhzp : Nat) (zzzhzpa : List Nat) (zzzhzst : List Nat) (zzzhzbo : List Nat) (zzzsg : List Nat), v = .agg (psC zazhzs zazhzp zazhzpa zazhzst zazhzbo zazsg zzzhzs zzzhzp zzzhzpa zzzhzst zzzhzbo zzzsg).toArray ∧ zazhzs < 18446744073709551616 ∧ zazhzp < 18446744073709551616 ∧ Rt zazhzpa ∧ Rt zazhzst ∧ Rt zazhzbo ∧ Rt zazsg ∧ zzzhzs < 18446744073709551616 ∧ zzzhzp < 18446744073709551616 ∧ Rt zzzhzpa ∧ Rt zzzhzst ∧ Rt zzzhzbo ∧ Rt zzzsg := by
  obtain ⟨cs, rfl, _⟩ := okWide_struct Tryz.underlying65 hv
  obtain ⟨fuel, hf⟩ := h
  obtain ⟨zazhzs, zazhzp, zazhzpa, zazhzst, zazhzbo, zazsg, zzzhzs, zzzhzp, zzzhzpa, zzzhzst, zzzhzbo, zzzsg, e, hzazhzs, hzazhzp, hzazhzpa, hzazhzst, hzazhzbo, hzazsg, hzzzhzs, hzzzhzp, hzzzhzpa, hzzzhzst, hzzzhzbo, hzzzsg⟩ := ps_of_trod hf
  exact ⟨zazhzs, zazhzp, zazhzpa, zazhzst, zazhzbo, zazsg, zzzhzs, zzzhzp, zzzhzpa, zzzhzst, zzzhzbo, zzzsg, by rw [← Array.toList_inj.1 (show cs.toList = (psC zazhzs zazhzp zazhzpa zazhzst zazhzbo zazsg zzzhzs zzzhzp zzzhzpa zzzhzst zzzhzbo zzzsg).toArray.toList from e)], hzazhzs, hzazhzp, hzazhzpa, hzazhzst, hzazhzbo, hzazsg, hzzzhzs, hzzzhzp, hzzzhzpa, hzzzhzst, hzzzhzbo, hzzzsg⟩
end
end Go.Proofs.YtoajeencniomoaaGreat

