/- ssz's Writer: the container's bytes. -/
import Derived.Test.YtckmdofmplkdfaaWriterN
import Derived.Test.YtckmdofmplkdfaaAppAny
namespace Go.Proofs.Ytckmdofmplkdfaa
open Go.RowKit Go.Shelf
set_option linter.unusedVariables false

/-- What stands of a field in front. -/
def sz1 (f : List Nat × Bool) : Nat := if f.2 then 4 else f.1.length
def szF (fs : List (List Nat × Bool)) : Nat := (fs.map sz1).sum
/-- The fields of any size, one behind the other. -/
def backB (fs : List (List Nat × Bool)) : List Nat := fs.flatMap fun f => if f.2 then f.1 else []
/-- What stands in front, the next place being p. -/
def frontB : Nat → List (List Nat × Bool) → List Nat
  | _, [] => []
  | p, f :: fs => (if f.2 then le p 4 else f.1) ++ frontB (if f.2 then p + f.1.length else p) fs
/-- A container's bytes. -/
def cont (fs : List (List Nat × Bool)) : List Nat := frontB (szF fs) fs ++ backB fs
theorem szF_snoc (fs : List (List Nat × Bool)) (x : List Nat × Bool) : szF (fs ++ [x]) = szF fs + sz1 x := by simp [szF]
theorem backB_snoc (fs : List (List Nat × Bool)) (x : List Nat × Bool) : backB (fs ++ [x]) = backB fs ++ if x.2 then x.1 else [] := by simp [backB]
theorem frontB_snoc (x : List Nat × Bool) : ∀ (fs : List (List Nat × Bool)) (p : Nat), frontB p (fs ++ [x]) = frontB p fs ++ if x.2 then le (p + (backB fs).length) 4 else x.1
  | [], p => by simp [frontB, backB]
  | f :: fs, p => by
    rw [List.cons_append, frontB, frontB, frontB_snoc x fs]
    rcases f with ⟨b, t⟩
    cases t <;> simp [backB, Nat.add_assoc]
theorem frontB_length : ∀ (fs : List (List Nat × Bool)) (p : Nat), (frontB p fs).length = szF fs
  | [], p => rfl
  | f :: fs, p => by
    have e : szF (f :: fs) = sz1 f + szF fs := by simp [szF]
    rw [frontB, List.length_append, frontB_length fs, e, sz1]
    cases f.2 <;> simp [le_length]
/-- How many bytes all fields have. -/
def lenF (fs : List (List Nat × Bool)) : Nat := (fs.map fun f => f.1.length).sum
theorem lenF_snoc (fs : List (List Nat × Bool)) (x : List Nat × Bool) : lenF (fs ++ [x]) = lenF fs + x.1.length := by simp [lenF]
theorem szF_le (fs : List (List Nat × Bool)) : szF fs ≤ 4 * fs.length + lenF fs := by
  induction fs with
  | nil => simp [szF]
  | cons f fs ih =>
    simp only [szF, lenF, List.map_cons, List.sum_cons, List.length_cons, sz1] at *
    cases f.2 <;> simp <;> omega
theorem backB_le (fs : List (List Nat × Bool)) : (backB fs).length ≤ lenF fs := by
  induction fs with
  | nil => simp [backB]
  | cons f fs ih =>
    have e : backB (f :: fs) = (if f.2 then f.1 else []) ++ backB fs := by simp [backB]
    have e2 : lenF (f :: fs) = f.1.length + lenF fs := by simp [lenF]
    rw [e, e2, List.length_append]
    have : (if f.2 then f.1 else []).length ≤ f.1.length := by cases f.2 <;> simp
    omega
theorem lenF_take (fs : List (List Nat × Bool)) (k : Nat) : lenF (fs.take k) ≤ lenF fs := by
  have h : lenF fs = lenF (fs.take k) + lenF (fs.drop k) := by
    simp only [lenF]
    rw [← List.sum_append, ← List.map_append, List.take_append_drop]
  omega
theorem szF_take (fs : List (List Nat × Bool)) (k : Nat) : szF (fs.take k) ≤ szF fs := by
  have h : szF fs = szF (fs.take k) + szF (fs.drop k) := by
    simp only [szF]
    rw [← List.sum_append, ← List.map_append, List.take_append_drop]
  omega
theorem take_snocF (fs : List (List Nat × Bool)) (k : Nat) (h : k < fs.length) (x : List Nat × Bool) (hx : fs[k]? = some x) : fs.take (k + 1) = fs.take k ++ [x] := by
  rw [List.take_succ_eq_append_getElem h]
  rw [List.getElem?_eq_getElem h] at hx
  cases hx; rfl

theorem Holds.at {S : Nat → Prop} {w : World} : ∀ {rs : List Fl} {xs : List (List Nat × Bool)}, Holds S w rs xs → ∀ k, k < xs.length → ∃ f x, rs[k]? = some f ∧ xs[k]? = some x ∧ f.any = x.2 ∧ IsB w (.slice f.ao f.n f.cap) x.1 ∧ inBlk S f.ao
  | [], [], _, k, hk => by simp at hk
  | f :: rs, x :: xs, h, 0, _ => ⟨f, x, rfl, rfl, h.1, h.2.1, h.2.2.1⟩
  | f :: rs, x :: xs, h, k + 1, hk => by
    obtain ⟨f', x', h1, h2, h3⟩ := Holds.at h.2.2.2 k (by simpa using hk)
    exact ⟨f', x', by simpa using h1, by simpa using h2, h3⟩
  | [], _ :: _, h, _, _ => h.elim
  | _ :: _, [], h, _, _ => h.elim
theorem flds_cell {w : World} {g : Nat} {rs : List Fl} (h : w.heap[g]? = some (.cells (flds rs) 67 (0, 0))) (k : Nat) (f : Fl) (hf : rs[k]? = some f) :
    w.cell? ⟨g, k * 2, none⟩ = some (.slice f.ao f.n f.cap) ∧ w.cell? ⟨g, k * 2 + 1, none⟩ = some (.bool f.any) := by
  have h0 := flat_get Fl.cells 2 (fun _ => rfl) rs k 0 (by decide)
  have h1 := flat_get Fl.cells 2 (fun _ => rfl) rs k 1 (by decide)
  rw [hf] at h0 h1
  constructor
  · rw [cell_of_row w g _ _ _ _ h]
    show (flds rs)[k * 2]? = _
    simpa [flds] using h0
  · rw [cell_of_row w g _ _ _ _ h]
    simpa [flds] using h1

set_option maxRecDepth 100000 in
set_option maxHeartbeats 1000000 in
theorem frontSize_any (g : Nat) (rs : List Fl) (fs : List (List Nat × Bool)) (S : Nat → Prop) (w : World) (hg : w.heap[g]? = some (.cells (flds rs) 67 (0, 0))) (hH : Holds S w rs fs) (hl : fs.length ≤ 2147483647) (hb : lenF fs ≤ 140737488355328) :
    Calls Try.prog 30 #[.slice (some ⟨g, 0, none⟩) fs.length fs.length] w fun e w' => e = .returned (.int .i64 ((szF fs : Nat) : Int)) ∧ Below w.heap.size w w' := by
  have hgl : g < w.heap.size := (Array.getElem?_eq_some_iff.1 hg).1
  have hsz := szF_le fs
  go_enter Try.func30, Try.ntmps30
  go_wp2
  go_loopw [3, 5, 8] (fun s _ i wr => ∃ k : Nat, k ≤ fs.length ∧ i = .int .i64 k ∧ s = .int .i64 ((szF (fs.take k) : Nat) : Int) ∧ Below w.heap.size w wr) (fun _ _ i _ => fs.length - (intOf i).toNat)
  case atStart => exact ⟨0, Nat.zero_le _, rfl, by simp [szF], Below.refl _ _⟩
  case round =>
    obtain ⟨k, hk, rfl, rfl, hB⟩ := hrel
    by_cases hlt : k < fs.length
    · obtain ⟨f, x, hf, hx, ha, hIs, _⟩ := hH.at k hlt
      obtain ⟨c0, c1⟩ := flds_cell ((hB.block g hgl).trans hg) k f hf
      have hts := take_snocF fs k hlt x hx
      have hss := szF_snoc (fs.take k) x
      have hst := szF_take fs (k + 1)
      rw [hts, hss] at hst
      have HT : Same (szF (fs.take (k + 1))) (szF (fs.take k) + sz1 x) := ⟨by rw [hts, hss]⟩
      obtain ⟨⟨ao, cap, he, _⟩, _⟩ := hIs
      obtain ⟨f1, f2, f3, f4⟩ := f
      simp only [Value.slice.injEq] at he c0 c1
      obtain ⟨rfl, rfl, rfl⟩ := he
      simp only at ha
      subst ha
      have hs1 := hB.size
      have hBa := hid hB
      clear hts hss hf hx hB
      obtain ⟨xb, xa⟩ := x
      simp only [sz1] at HT hst c1
      generalize szF (fs.take k) = s at *
      cases xa
      · simp only [Bool.false_eq_true, if_false] at HT hst
        go_wp2
        go_roundw
        case rel => exact ⟨k + 1, by omega, by go_num, by rw [HT.out]; go_num, hBa.out.alloc (by omega) _⟩
        case measure => simp [intOf]; omega
      · simp only [if_true] at HT hst
        go_wp2
        go_roundw
        case rel => exact ⟨k + 1, by omega, by go_num, by rw [HT.out]; go_num, hBa.out.alloc (by omega) _⟩
        case measure => simp [intOf]; omega
    · obtain rfl : k = fs.length := by omega
      rw [List.take_length]
      go_wp2
      go_ret
      exact ⟨rfl, hB⟩

/-- Two slices lie in different blocks. -/
def Apart (u v : Value) : Prop := ∀ k, u.ownBlock = some k → v.ownBlock ≠ some k
theorem Apart.left {w : World} {u u' v : Value} (h : Apart u v) (hm : Moved w u u') (hv : ∀ k, v.ownBlock = some k → k < w.heap.size) : Apart u' v := fun k hk e => by
  rcases hm k hk with h1 | h1
  · exact h k h1 e
  · have := hv k e; omega
theorem Apart.symm {u v : Value} (h : Apart u v) : Apart v u := fun k hk e => h k e hk
theorem Row.form {w : World} {base : Nat} {v : Value} {xs : List Nat} (h : Row w base v xs) : ∃ ao cap, v = .slice ao xs.length cap ∧ xs.length ≤ cap := by
  obtain ⟨_, h⟩ := h
  rcases h with ⟨rfl, h0⟩ | ⟨g, cap, cur, rfl, _, _, hc, _⟩
  · exact ⟨none, 0, by rw [h0], by omega⟩
  · exact ⟨_, cap, rfl, hc⟩
theorem Row.base {w : World} {b b' : Nat} {v : Value} {xs : List Nat} (h : Row w b v xs) (hb : b' ≤ b) : Row w b' v xs := by
  obtain ⟨hl, h⟩ := h
  refine ⟨hl, ?_⟩
  rcases h with h | ⟨g, cap, cur, rfl, hg, r⟩
  · exact .inl h
  · exact .inr ⟨g, cap, cur, rfl, by omega, r⟩
theorem below_row {B : Nat} {w w1 w2 : World} {v : Value} {xs : List Nat} (h : Below B w w1) (hB : B ≤ w.heap.size) (hr : Row w1 B v xs) (g : w1.grownBy w2 v.ownBlock) : Below B w w2 :=
  h.grown g (Nat.le_trans hB h.size) (fun j hj => (hr.lt j hj).1)
theorem backB_byte {fs : List (List Nat × Bool)} (h : ∀ f ∈ fs, ∀ z ∈ f.1, z < 256) : ∀ z ∈ backB fs, z < 256 := fun z hz => by
  obtain ⟨f, hf, hz⟩ := List.mem_flatMap.1 hz
  cases e : f.2 <;> simp [e] at hz
  exact h f hf z hz
theorem Holds.byte {S : Nat → Prop} {w : World} : ∀ {rs : List Fl} {xs : List (List Nat × Bool)}, Holds S w rs xs → ∀ f ∈ xs, ∀ z ∈ f.1, z < 256
  | [], [], _, _, hf => by simp at hf
  | f :: rs, x :: xs, h, y, hy => by
    rcases List.mem_cons.1 hy with rfl | hy
    · exact h.2.1.by8
    · exact Holds.byte h.2.2.2 y hy
  | [], _ :: _, h, _, _ => h.elim
  | _ :: _, [], h, _, _ => h.elim

theorem put8_int (i : Int) (n size : Nat) (h : i = (n : Int)) (hn : n < 18446744073709551616) (h0 : 0 < size) (hs : size ≤ 2147483647) (w : World) :
    Calls Try.prog 25 #[.int .u64 i, .int .i64 size] w fun e w' => ∃ cap, e = .returned (.slice (some ⟨w.heap.size, 0, none⟩) size cap) ∧ Row w' w.heap.size (.slice (some ⟨w.heap.size, 0, none⟩) size cap) (le n size) ∧ Below w.heap.size w w' := by
  subst h; exact put8_isB n size hn h0 hs w

set_option maxRecDepth 100000 in
set_option maxHeartbeats 2000000 in
theorem bytes_any (g : Nat) (S : Nat → Prop) (fs : List (List Nat × Bool)) (w : World) (hW : Wr w g S fs) (hl : fs.length ≤ 2147483647) (hb : lenF fs ≤ 1099511627776) :
    Calls Try.prog 12 #[.pointer (some ⟨g, 0, none⟩)] w fun e w' => ∃ v, e = .returned v ∧ Row w' w.heap.size v (cont fs) ∧ Below w.heap.size w w' := by
  obtain ⟨⟨rs, q, hg, hC, hH⟩, ho, hSl⟩ := hW
  have hrl : rs.length = fs.length := by rw [hH.length, List.length_reverse]
  have g0 : w.cell? ⟨g, 0, none⟩ = some (.int .i64 ((fs.length : Nat) : Int)) := cell_of_row w _ 0 _ _ (0, 0) hg
  have g1 : w.cell? ⟨g, 1, none⟩ = some (.pointer q) := cell_of_row w _ 1 _ _ (0, 0) hg
  have hA := allF_any rs q w (by omega) hC
  rw [hrl] at hA
  have HA := hid hA
  have hH2 := hH.reverse
  rw [List.reverse_reverse] at hH2
  have HRL := hid hrl
  clear hA hrl hg
  go_enter Try.func12, Try.ntmps12
  go_wp2_with fail
  refine HA.out.mono ?_
  rintro e w1 ⟨gf, hgf, rfl, hG1, B1⟩
  have hH1 := hH2.keepS (w' := w1) fun k a hk => B1.block k hk
  have HF := hid (frontSize_any gf rs.reverse fs S w1 hG1 hH1 hl (by omega))
  clear HA g0 g1
  go_wp2_with fail
  refine HF.out.mono ?_
  rintro e w2 ⟨rfl, B2⟩
  have hgl1 : gf < w1.heap.size := (Array.getElem?_eq_some_iff.1 hG1).1
  have hG2 := (B2.block gf hgl1).trans hG1
  have hH3 := hH1.keepS (w' := w2) fun k a hk => B2.block k hk
  have s2 := B2.size
  have s1 := B1.size
  have BB := hid (below_more B1 B2 (Nat.le_refl _))
  have hsz := szF_le fs
  have h8 := hH3.byte
  obtain ⟨sz, hsze⟩ : ∃ sz, szF fs = sz := ⟨_, rfl⟩
  rw [hsze] at hsz
  have HSZ : Same _ _ := ⟨hsze⟩
  rw [hsze]
  clear HF hG1 hH1 hH2 hH hC B1 B2 hsze
  go_wp2_with fail
  go_loopw [5, 6, 8, 9, 21] (fun fr bk _ _ i wr => ∃ k : Nat, k ≤ fs.length ∧ i = .int .i64 k ∧ Row wr w2.heap.size fr (frontB sz (fs.take k)) ∧ Row wr w2.heap.size bk (backB (fs.take k)) ∧ Apart fr bk ∧ Below w2.heap.size w2 wr) (fun _ _ _ _ i _ => fs.length - (intOf i).toNat)
  case atStart => exact ⟨0, Nat.zero_le _, rfl, Row.nil _ _, Row.nil _ _, (fun k hk => by cases hk), Below.refl _ _⟩
  case round =>
    obtain ⟨k, hk, rfl, hFr, hBk, hAp, hB⟩ := hrel
    obtain ⟨ao1, cap1, rfl, hc1⟩ := hFr.form
    obtain ⟨ao2, cap2, rfl, hc2⟩ := hBk.form
    have sB := hB.size
    have fl1 : (frontB sz (fs.take k)).length ≤ 4 * fs.length + lenF fs := by rw [frontB_length]; have := szF_take fs k; have := szF_le fs; omega
    have fl2 : (backB (fs.take k)).length ≤ lenF fs := Nat.le_trans (backB_le _) (lenF_take fs k)
    by_cases hlt : k < fs.length
    · obtain ⟨f, x, hf, hx, ha, hIs, hin⟩ := (hH3.keepS (w' := wr) fun k a hk => hB.block k hk).at k hlt
      obtain ⟨c0, c1⟩ := flds_cell ((hB.block gf (by omega)).trans hG2) k f hf
      have hts := take_snocF fs k hlt x hx
      have hf1 := frontB_snoc x (fs.take k) sz
      have hb1 := backB_snoc (fs.take k) x
      rw [← hts] at hf1 hb1
      have hIs' := hIs
      obtain ⟨⟨ao, cap, he, _⟩, _⟩ := hIs
      obtain ⟨f1, f2, f3, f4⟩ := f
      simp only [Value.slice.injEq] at he c0 c1 hIs'
      obtain ⟨rfl, rfl, rfl⟩ := he
      simp only at ha
      subst ha
      obtain ⟨xb, xa⟩ := x
      have hxl : xb.length ≤ lenF fs := by
        have h1 := lenF_take fs (k + 1)
        rw [hts, lenF_snoc] at h1
        simp only at h1
        omega
      have HIs := hid hIs'
      have HIN := hid hin
      clear hin
      have HF1 : Same _ _ := ⟨hf1⟩
      have HB1 : Same _ _ := ⟨hb1⟩
      have HFr := hid hFr
      have HBk := hid hBk
      have HBe := hid hB
      have BA : Below wr.heap.size wr (wr.alloc (.cells #[.slice f1 xb.length f3, .bool xa] 67)) := (Below.refl _ wr).alloc (Nat.le_refl _) _
      have sA : (wr.alloc (.cells #[.slice f1 xb.length f3, .bool xa] 67)).heap.size = wr.heap.size + 1 := by simp
      simp only at HF1 HB1 c1 HIs BA
      clear hf hx hts hf1 hb1 hFr hBk hB hIs'
      cases xa
      · simp only [Bool.false_eq_true, if_false, List.append_nil] at HF1 HB1
        go_wp2_with (refine wpList_append_b rfl (.tmp 40) (.tmp 42) 24 rfl w2.heap.size _ (frontB sz (fs.take k)) rfl (by exact HFr.out.below BA) _ xb rfl (by exact (HIs.out.keep BA).src) (by omega) (by rw [sA]; omega) ?_; intro v' w' r1 r2 r3)
        have hBk' := (HBk.out.below BA).kept r2 (fun j hj e => hAp j e hj)
        have hB' := below_row (below_more HBe.out BA (Nat.le_refl _)) (Nat.le_refl _) (HFr.out.below BA) r2
        have hAp' := hAp.left r3 (fun j hj => ((HBk.out.below BA).lt j hj).2)
        have HX := hid (show _ ∧ _ ∧ _ ∧ _ from ⟨r1, hBk', hAp', hB'⟩)
        clear r1 r2 r3 hBk' hB' hAp'
        go_wp2
        go_roundw
        case rel => exact ⟨k + 1, by omega, by go_num, by rw [HF1.out]; exact HX.out.1, by rw [HB1.out]; exact HX.out.2.1, HX.out.2.2.1, HX.out.2.2.2⟩
        case measure => simp [intOf]; omega
      · simp only [if_true] at HF1 HB1
        go_wp2_with fail
        refine (put8_int _ (sz + (backB (fs.take k)).length) 4 (by omega) (by omega) (by decide) (by decide) _).mono ?_
        rintro e w3 ⟨cp, rfl, R3, B3⟩
        rw [sA] at R3 B3 ⊢
        have BA3 : Below wr.heap.size wr w3 := BA.trans (B3.mono (by omega))
        have s3 := B3.size
        rw [sA] at s3
        have bx : w3.heap[wr.heap.size]? = some (.cells #[.slice f1 xb.length f3, .bool true] 67 (0, 0)) := (B3.block _ (by omega)).trans (heap_alloc_new wr _)
        have HS3 := hid (R3.isB (le_byte _ _)).src
        have HBX := hid bx
        have HR3 := hid R3
        rw [le_length] at HS3
        have HFr3 := hid (HFr.out.below BA3)
        have HBk3 := hid (HBk.out.below BA3)
        have HB3 := hid B3
        have HBA3 := hid BA3
        have HFL := hid (fun j hj => (HFr.out.lt j hj).2)
        clear bx B3 BA3 R3 BA sA
        go_wp2_with (first
          | (refine wpList_append_b rfl (.tmp 32) (.tmp 34) 24 rfl w2.heap.size _ (frontB sz (fs.take k)) rfl HFr3.out _ (le (sz + (backB (fs.take k)).length) 4) rfl (by rw [le_length]; exact HS3.out) (by rw [le_length]; omega) (by omega) ?_; intro v4 w4 r1 r2 r3;
             have s4 := r2.size;
             have bx4 : w4.cell? ⟨wr.heap.size, 0, none⟩ = some (.slice f1 xb.length f3) := cell_of_row w4 _ 0 _ _ (0, 0) ((r2.block wr.heap.size (by omega) (fun e => by have := HFL.out _ e.symm; omega)).trans HBX.out);
             have HIs4 := hid (((HIs.out.keep HBA3.out).keepS (S := S) HIN.out (fun j a hj => r2.block j hj (fun e => by have h1 := (HFr3.out.lt j e.symm).1; have h2 := hSl j a; omega))));
             have HBk4 := hid (HBk3.out.kept r2 (fun j hj e => hAp j e hj));
             have HB4 := hid (below_row (below_more HBe.out HBA3.out (Nat.le_refl _)) (Nat.le_refl _) HFr3.out r2);
             have HAp4 := hid (hAp.left r3 (fun j hj => (HBk3.out.lt j hj).2));
             have HR4 := hid r1; clear r1 r2 r3)
          | (refine wpList_append_b rfl (.tmp 36) (.tmp 38) 24 rfl w2.heap.size _ (backB (fs.take k)) rfl HBk4.out _ xb rfl HIs4.out.src (by omega) (by omega) ?_; intro v5 w5 r1 r2 r3;
             have HX := hid (show _ ∧ _ ∧ _ ∧ _ from ⟨HR4.out.kept r2 (fun j hj e => HAp4.out j hj e), r1, (HAp4.out.symm.left r3 (fun j hj => (HR4.out.lt j hj).2)).symm, below_row HB4.out (Nat.le_refl _) HBk4.out r2⟩); clear r1 r2 r3))
        go_roundw
        case rel => exact ⟨k + 1, by omega, by go_num, by rw [HF1.out]; exact HX.out.1, by rw [HB1.out]; exact HX.out.2.1, HX.out.2.2.1, HX.out.2.2.2⟩
        case measure => simp [intOf]; omega
    · obtain rfl : k = fs.length := by omega
      rw [List.take_length] at hFr hBk fl1 fl2
      have hS2 := (hBk.isB (backB_byte h8)).src
      have HFr := hid hFr
      have HBk := hid hBk
      have HSr := hid hS2
      have HBe := hid hB
      clear hFr hBk hS2 hB hlt
      rw [List.take_length]
      go_wp2_with (refine wpList_append_b rfl (.tmp 45) (.tmp 46) 24 rfl w2.heap.size _ (frontB sz fs) rfl HFr.out _ (backB fs) rfl HSr.out (by omega) (by omega) ?_; intro v' w' r1 r2 r3)
      go_ret
      refine ⟨v', rfl, ?_, ?_⟩
      · unfold cont
        rw [HSZ.out]
        exact r1.base (by omega)
      · exact BB.out.trans ((below_row HBe.out (Nat.le_refl _) HFr.out r2).mono (by omega))
end Go.Proofs.Ytckmdofmplkdfaa
