/- Own texts of the proof, joined: KdHd LenB Hd5 OpenHd. -/
import Derived.Test.YtlpemcjjaijgcaaGreatH2
import Derived.ProofKit
import Derived.OpenShut
import Derived.ShutString
import Derived.ChangeOld
import Derived.Deep.Slices
import Derived.SevenTiedAt
import Derived.Stop.Joined
/- The document's kind of a Header. -/
namespace Go.Proofs.YtlpemcjjaijgcaaGreat
open Go.RowKit
set_option linter.unusedVariables false
set_option maxRecDepth 100000

set_option maxHeartbeats 2000000 in
theorem dhd_any (w : World) : Calls Tryz.prog 13 #[] w fun x w' => ∃ p, x = .returned (.pointer (some ⟨p, 0, none⟩)) ∧ DAt w' (dBox [dNum, dNum, dRoot, dRoot, dRoot]) p ∧ Below w.heap.size w w' := by
  have HB0 := hid (Below.refl w.heap.size w)
  go_enter Tryz.func13, Tryz.ntmps13
  go_wp2_with fail
  refine (num_any' w).mono ?_
  rintro e w1 ⟨rfl, q1, q2⟩
  have HD0_0 := hid q1
  have HB1 := hid (HB0.out.trans (q2.mono HB0.out.size))
  clear q1 q2 HB0
  go_wp2_with fail
  refine (num_any' w1).mono ?_
  rintro e w2 ⟨rfl, q1, q2⟩
  have HD0_1 := hid (DAt.keep q2 _ HD0_0.out)
  have HD1_1 := hid q1
  have HB2 := hid (HB1.out.trans (q2.mono HB1.out.size))
  clear q1 q2 HB1 HD0_0
  go_wp2_with fail
  refine (root_any' w2).mono ?_
  rintro e w3 ⟨rfl, q1, q2⟩
  have HD0_2 := hid (DAt.keep q2 _ HD0_1.out)
  have HD1_2 := hid (DAt.keep q2 _ HD1_1.out)
  have HD2_2 := hid q1
  have HB3 := hid (HB2.out.trans (q2.mono HB2.out.size))
  clear q1 q2 HB2 HD0_1 HD1_1
  go_wp2_with fail
  refine (root_any' w3).mono ?_
  rintro e w4 ⟨rfl, q1, q2⟩
  have HD0_3 := hid (DAt.keep q2 _ HD0_2.out)
  have HD1_3 := hid (DAt.keep q2 _ HD1_2.out)
  have HD2_3 := hid (DAt.keep q2 _ HD2_2.out)
  have HD3_3 := hid q1
  have HB4 := hid (HB3.out.trans (q2.mono HB3.out.size))
  clear q1 q2 HB3 HD0_2 HD1_2 HD2_2
  go_wp2_with fail
  refine (root_any' w4).mono ?_
  rintro e w5 ⟨rfl, q1, q2⟩
  have HD0_4 := hid (DAt.keep q2 _ HD0_3.out)
  have HD1_4 := hid (DAt.keep q2 _ HD1_3.out)
  have HD2_4 := hid (DAt.keep q2 _ HD2_3.out)
  have HD3_4 := hid (DAt.keep q2 _ HD3_3.out)
  have HD4_4 := hid q1
  have HB5 := hid (HB4.out.trans (q2.mono HB4.out.size))
  clear q1 q2 HB4 HD0_3 HD1_3 HD2_3 HD3_3
  go_wp2_with fail
  have hB : Below w5.heap.size w5 (w5.alloc (.cells #[.pointer (some ⟨w.heap.size, 0, none⟩), .pointer (some ⟨w1.heap.size, 0, none⟩), .pointer (some ⟨w2.heap.size, 0, none⟩), .pointer (some ⟨w3.heap.size, 0, none⟩), .pointer (some ⟨w4.heap.size, 0, none⟩)] 39)) := (Below.refl _ w5).alloc (Nat.le_refl _) _
  have h := heap_alloc_new w5 (.cells #[.pointer (some ⟨w.heap.size, 0, none⟩), .pointer (some ⟨w1.heap.size, 0, none⟩), .pointer (some ⟨w2.heap.size, 0, none⟩), .pointer (some ⟨w3.heap.size, 0, none⟩), .pointer (some ⟨w4.heap.size, 0, none⟩)] 39)
  generalize w5.alloc (.cells #[.pointer (some ⟨w.heap.size, 0, none⟩), .pointer (some ⟨w1.heap.size, 0, none⟩), .pointer (some ⟨w2.heap.size, 0, none⟩), .pointer (some ⟨w3.heap.size, 0, none⟩), .pointer (some ⟨w4.heap.size, 0, none⟩)] 39) = w6 at hB h ⊢
  have hD : DsAt w6 [dNum, dNum, dRoot, dRoot, dRoot] w5.heap.size 0 := by
    simp only [DsAt]
    exact ⟨⟨_, cell_of_row _ _ 0 _ _ (0, 0) h, DAt.keep hB _ HD0_4.out⟩, ⟨_, cell_of_row _ _ 1 _ _ (0, 0) h, DAt.keep hB _ HD1_4.out⟩, ⟨_, cell_of_row _ _ 2 _ _ (0, 0) h, DAt.keep hB _ HD2_4.out⟩, ⟨_, cell_of_row _ _ 3 _ _ (0, 0) h, DAt.keep hB _ HD3_4.out⟩, ⟨_, cell_of_row _ _ 4 _ _ (0, 0) h, DAt.keep hB _ HD4_4.out⟩, trivial⟩
  have HC := hid (box_any w5.heap.size 5 [dNum, dNum, dRoot, dRoot, dRoot] w6 rfl (by decide) hD)
  have HBm := hid (HB5.out.trans (hB.mono HB5.out.size))
  clear hB h hD
  refine HC.out.mono ?_
  rintro e wz ⟨rfl, q1, q2⟩
  have X := hid (And.intro q1 q2)
  clear q1 q2 HC
  go_wp2
  go_ret
  exact ⟨_, rfl, X.out.1, HBm.out.trans (X.out.2.mono HBm.out.size)⟩
end Go.Proofs.YtlpemcjjaijgcaaGreat

/- Lengths of parts, and numbers as bytes: there and back. -/
namespace Go.Proofs.YtlpemcjjaijgcaaGreat
open Go.RowKit
set_option linter.unusedVariables false
/-- What parts are joined to. -/
def joinB (bss : List (List Nat)) : List Nat := cont (bss.map fun b => (b, true))
def lenB (bss : List (List Nat)) : Nat := (bss.map List.length).sum
theorem lenB_F (bss : List (List Nat)) : lenF (bss.map fun b => (b, true)) = lenB bss := by
  unfold lenF lenB
  rw [List.map_map]; rfl
theorem lenB_take (bss : List (List Nat)) (k : Nat) : lenB (bss.take k) ≤ lenB bss := by
  have := lenF_take (bss.map fun b => (b, true)) k
  rw [← List.map_take, lenB_F, lenB_F] at this
  exact this
theorem lenB_mem {bss : List (List Nat)} {i : Nat} {x : List Nat} (h : bss[i]? = some x) : x.length ≤ lenB bss := by
  have h1 := lenB_take bss (i + 1)
  have hi := (List.getElem?_eq_some_iff.1 h).1
  rw [List.take_succ_eq_append_getElem hi] at h1
  rw [List.getElem?_eq_getElem hi] at h
  cases h
  have e : ∀ (a : List (List Nat)) (b : List Nat), lenB (a ++ [b]) = lenB a + b.length := fun a b => by simp [lenB]
  rw [e] at h1
  omega

theorem le_putL (x k : Nat) : ((le x k).map fun n : Nat => (n : Int)) = putL x k := by
  simp [le, putL, byteAt]
theorem tk_le (x k : Nat) (hk : k ≤ 8) : tk (le x k) = x % 256 ^ k := by
  unfold tk takeV
  rw [le_putL, List.take_of_length_le (by rw [putL_length]; omega), takeL_put]
theorem tk_le4 (x : Nat) (h : x < 4294967296) : tk (le x 4) = x := by
  rw [tk_le x 4 (by decide)]
  exact Nat.mod_eq_of_lt h
theorem lenB_cons (b : List Nat) (r : List (List Nat)) : lenB (b :: r) = b.length + lenB r := by simp [lenB]
theorem lenB_flat (bss : List (List Nat)) : bss.flatten.length = lenB bss := by
  induction bss with
  | nil => rfl
  | cons b r ih => rw [List.flatten_cons, List.length_append, ih, lenB_cons]
theorem back_flat (bss : List (List Nat)) : backB (bss.map fun b => (b, true)) = bss.flatten := by
  induction bss with
  | nil => rfl
  | cons b r ih =>
    rw [List.map_cons, List.flatten_cons, ← ih]
    simp [backB]
theorem front_at (rest : List Nat) : ∀ (bss : List (List Nat)) (p j : Nat), j < bss.length → ((frontB p (bss.map fun b => (b, true)) ++ rest).drop (4 * j)).take 4 = le (p + lenB (bss.take j)) 4
  | [], p, j, h => by simp at h
  | b :: r, p, 0, h => by
    rw [List.map_cons, frontB]
    simp only [if_true, List.append_assoc, Nat.mul_zero, List.drop_zero, List.take_zero]
    rw [List.take_append_of_le_length (by rw [le_length]; exact Nat.le_refl _), List.take_of_length_le (by rw [le_length]; exact Nat.le_refl _)]
    rfl
  | b :: r, p, j + 1, h => by
    rw [List.map_cons, frontB]
    simp only [if_true, List.append_assoc]
    have h4 : (le p 4).length = 4 := le_length _ _
    rw [show 4 * (j + 1) = (le p 4).length + 4 * j by rw [h4]; omega, List.drop_append, List.take_succ_cons, lenB_cons]
    have e : List.drop ((le p 4).length + 4 * j) (le p 4) = [] := List.drop_eq_nil_of_le (by omega)
    rw [e, List.nil_append, show (le p 4).length + 4 * j - (le p 4).length = 4 * j by omega, front_at rest r (p + b.length) j (by simpa using h), Nat.add_assoc]
theorem flat_part : ∀ (bss : List (List Nat)) (i : Nat) (x : List Nat), bss[i]? = some x → (bss.flatten.drop (lenB (bss.take i))).take x.length = x
  | [], i, x, h => by simp at h
  | b :: r, 0, x, h => by
    simp at h
    subst h
    simp [lenB]
  | b :: r, i + 1, x, h => by
    rw [List.take_succ_cons, lenB_cons, List.flatten_cons, List.drop_append, List.drop_eq_nil_of_le (by omega), List.nil_append, show b.length + lenB (r.take i) - b.length = lenB (r.take i) by omega]
    exact flat_part r i x (by simpa using h)
theorem lenB_succ (bss : List (List Nat)) (i : Nat) (x : List Nat) (h : bss[i]? = some x) : lenB (bss.take (i + 1)) = lenB (bss.take i) + x.length := by
  have hi := (List.getElem?_eq_some_iff.1 h).1
  rw [List.getElem?_eq_getElem hi] at h
  cases h
  rw [List.take_succ_eq_append_getElem hi]
  have e : ∀ (a : List (List Nat)) (b : List Nat), lenB (a ++ [b]) = lenB a + b.length := fun a b => by simp [lenB]
  exact e _ _
end Go.Proofs.YtlpemcjjaijgcaaGreat

/- CodecHeaders: its contracts, made one. -/
namespace Go.Proofs.YtlpemcjjaijgcaaGreat
open Go.RowKit
set_option linter.unusedVariables false
set_option linter.unusedSimpArgs false
set_option maxRecDepth 100000

theorem tk_le8 (n : Nat) (h : n < 18446744073709551616) : tk (le n 8) = n := by
  unfold tk
  rw [le_putL]
  exact takeV_put8 n h
theorem hdB (sl pr : Nat) (a b c : List Nat) : cont (hdF sl pr a b c) = le sl 8 ++ (le pr 8 ++ (a ++ (b ++ c))) := by simp [hdF, numF, rootF, cont, frontB, backB]
theorem hdK_ok : okD (dBox [dNum, dNum, dRoot, dRoot, dRoot]) := by simp [okD, okDs, dBox, dNum, dRoot, small, sizeD, sizeS, sizeH]
theorem hdV_enc (sl pr : Nat) (a b c : List Nat) : encV (dBox [dNum, dNum, dRoot, dRoot, dRoot]) (hdV sl pr a b c) = cont (hdF sl pr a b c) := by
  simp [dBox, dNum, dRoot, hdV, encV, encK, kdsV, sizeD, hdF, numF, rootF]
theorem hdV_ok (sl pr : Nat) (a b c : List Nat) (ha : a.length = 32) (hb : b.length = 32) (hc : c.length = 32) : okV (dBox [dNum, dNum, dRoot, dRoot, dRoot]) (hdV sl pr a b c) := by
  simp [dBox, dNum, dRoot, hdV, okV, okK, encV, encK, kdsV, sizeD, lenF, le_length, ha, hb, hc]
theorem hdD_good (sl pr : Nat) (a b c : List Nat) (h1 : sl < 18446744073709551616) (h2 : pr < 18446744073709551616) (ha : a.length = 32) (hb : b.length = 32) (hc : c.length = 32) : hdD (le sl 8 ++ (le pr 8 ++ (a ++ (b ++ c)))) = .tuple #[.agg (hdC sl pr a b c).toArray, .int .i64 0] := by
  obtain ⟨x, hx, hxn⟩ : ∃ x, le sl 8 = x ∧ x.length = 8 := ⟨_, rfl, le_length _ _⟩
  obtain ⟨y, hy, hyn⟩ : ∃ y, le pr 8 = y ∧ y.length = 8 := ⟨_, rfl, le_length _ _⟩
  have e1 : tk x = sl := by rw [← hx]; exact tk_le8 sl h1
  have e2 : tk y = pr := by rw [← hy]; exact tk_le8 pr h2
  rw [hx, hy]
  have hl : (x ++ (y ++ (a ++ (b ++ c)))).length = 112 := by simp [hxn, hyn, ha, hb, hc]
  have d1 : (x ++ (y ++ (a ++ (b ++ c)))).drop 8 = y ++ (a ++ (b ++ c)) := List.drop_left' hxn
  have d2 : (x ++ (y ++ (a ++ (b ++ c)))).drop 16 = a ++ (b ++ c) := by rw [show (16 : Nat) = 8 + 8 from rfl, ← List.drop_drop, d1]; exact List.drop_left' hyn
  have d3 : (x ++ (y ++ (a ++ (b ++ c)))).drop 48 = b ++ c := by rw [show (48 : Nat) = 16 + 32 from rfl, ← List.drop_drop, d2]; exact List.drop_left' ha
  have d4 : (x ++ (y ++ (a ++ (b ++ c)))).drop 80 = c := by rw [show (80 : Nat) = 48 + 32 from rfl, ← List.drop_drop, d3]; exact List.drop_left' hb
  unfold hdD
  rw [if_pos hl]
  have t : hdTake (x ++ (y ++ (a ++ (b ++ c)))) 112 (0, false) = hdC (tk (((x ++ (y ++ (a ++ (b ++ c)))).drop 0).take 8)) (tk (((x ++ (y ++ (a ++ (b ++ c)))).drop 8).take 8)) (((x ++ (y ++ (a ++ (b ++ c)))).drop 16).take 32) (((x ++ (y ++ (a ++ (b ++ c)))).drop 48).take 32) (((x ++ (y ++ (a ++ (b ++ c)))).drop 80).take 32) := rfl
  rw [t, d1, d2, d3, d4, List.drop_zero, List.take_left' hxn, List.take_left' hyn, List.take_left' ha, List.take_left' hb, List.take_of_length_le (by omega), e1, e2]
  rfl
theorem hd_walk (sl pr : Nat) (a b c : List Nat) (h1 : sl < 18446744073709551616) (h2 : pr < 18446744073709551616) (ha : a.length = 32) (ha8 : ∀ z ∈ a, z < 256) (hb : b.length = 32) (hb8 : ∀ z ∈ b, z < 256) (hc : c.length = 32) (hc8 : ∀ z ∈ c, z < 256) (w : World) :
    Calls Tryz.prog 3 #[.agg (hdC sl pr a b c).toArray] w fun e w' => e = .returned (.bool true) ∧ Below w.heap.size w w' := by
  have hB := hdB sl pr a b c
  refine codecHeader_walk (hdC sl pr a b c) (hdC 0 0 (zeros 32) (zeros 32) (zeros 32)) (hdV sl pr a b c) (cont (hdF sl pr a b c)) (dBox [dNum, dNum, dRoot, dRoot, dRoot]) w Tryz.ty26 (by rw [hdC_length sl pr a b c ha hb hc]; rfl) (hdC_one _ _ _ _ _) ?_ (fun wq => refHd_any sl pr a b c wq h1 h2 ha ha8 hb hb8 hc hc8) (fun wq => header_any sl pr a b c wq h1 h2 ha ha8 hb hb8 hc hc8) (fun v wq hI => ?_) (fun wq => dhd_any wq) (fun p u wq hD hV => ?_) (fun u v wq hu hv => ?_)
  · rw [hB]
    intro z hz
    simp only [List.mem_append] at hz
    rcases hz with hz | hz | hz | hz | hz
    · exact le_byte _ _ z hz
    · exact le_byte _ _ z hz
    · exact ha8 z hz
    · exact hb8 z hz
    · exact hc8 z hz
  · have h := toHd_any v _ wq hI (by rw [hB]; simp [le_length, ha, hb, hc])
    rw [hB, hdD_good sl pr a b c h1 h2 ha hb hc] at h
    exact h
  · have h := enc_any _ _ u p wq hdK_ok (hdV_ok sl pr a b c ha hb hc) hD hV
    rw [hdV_enc] at h
    exact h
  · have h := same_any _ _ u v wq hu hv
    rw [sameV_refl] at h
    exact h
end Go.Proofs.YtlpemcjjaijgcaaGreat

/- Structs that came in by value. -/
namespace Go.Proofs.YtlpemcjjaijgcaaGreat
open Go.RowKit Go.Deep Go.WideShapes
set_option linter.unusedVariables false
set_option linter.unusedSimpArgs false
set_option maxRecDepth 100000

abbrev Rt (r : List Nat) : Prop := r.length = 32 ∧ ∀ z ∈ r, z < 256
theorem cellsRt : Tryz.prog.cellsOf 24 = 32 := by kernel_rfl
theorem cellsU8 : Tryz.prog.cellsOf 5 = 1 := by kernel_rfl
theorem cellsU64 : Tryz.prog.cellsOf 22 = 1 := by kernel_rfl
/-- Parts of a list, one behind the other. -/
def cutAt {α : Type} (cs : List α) : Nat → List Nat → List (List α)
  | _, [] => []
  | o, k :: ks => (cs.drop o).take k :: cutAt cs (o + k) ks
theorem cut_flat {α : Type} (cs : List α) : ∀ (ks : List Nat) (o : Nat), o + ks.sum = cs.length → cs.drop o = (cutAt cs o ks).flatten := by
  intro ks
  induction ks with
  | nil => intro o h; simp at h; rw [h, List.drop_length]; rfl
  | cons k ks ih =>
    intro o h
    rw [cutAt, List.flatten_cons, ← ih (o + k) (by simp at h; omega), ← List.drop_drop, List.take_append_drop]
section
variable {H : Type} {enc : TypeId × Value → H} {W : World} {b0 : Nat} {sp : Nat → Bool} {held : Bool}
theorem root_of_trod {fuel : Nat} {cs : List Value} {x : DataW H × List MemPlace} (h : DataW.trod enc Tryz.prog W b0 sp held fuel 24 cs = some x) : ∃ r : List Nat, cs = cellsB r ∧ r.length = 32 ∧ ∀ z ∈ r, z < 256 := by
  obtain ⟨xs, m, _, _, hl, hxs, hel⟩ := DataW.trod_array Tryz.und24 h
  rw [cellsRt] at hl
  have key : ∀ i (hi : i < cs.length), ∃ n : Nat, cs[i] = .int .u8 (n : Int) ∧ n < 256 := by
    intro i hi
    have h1 := hel i (by omega)
    rw [cellsU8, Nat.mul_one, List.getElem?_eq_getElem (by omega)] at h1
    obtain ⟨n, e1, _, hw⟩ := DataW.trod_int Tryz.underlying5 h1
    have hb := bounds_u8 hw
    have e2 : (cs.drop i).take 1 = [cs[i]] := by
      rw [List.drop_eq_getElem_cons hi, List.take_succ_cons, List.take_zero]
    have e3 : [cs[i]] = [Value.int .u8 n] := e2.symm.trans e1
    refine ⟨n.toNat, ?_, by omega⟩
    have e4 : cs[i] = Value.int .u8 n := by simpa using e3
    rw [e4]
    congr 1
    omega
  refine ⟨cs.map fun v => (intOf v).toNat, ?_, by simp [hl], ?_⟩
  · unfold cellsB
    apply List.ext_getElem
    · simp
    · intro i h1 h2
      obtain ⟨n, e, hn⟩ := key i h1
      simp [e, intOf]
  · intro z hz
    obtain ⟨v, hv, rfl⟩ := List.mem_map.1 hz
    obtain ⟨i, hi, rfl⟩ := List.mem_iff_getElem.1 hv
    obtain ⟨n, e, hn⟩ := key i hi
    simp [e, intOf, hn]
theorem num_of_trod {fuel : Nat} {cs : List Value} {x : DataW H × List MemPlace} (h : DataW.trod enc Tryz.prog W b0 sp held fuel 22 cs = some x) : ∃ n : Nat, cs = [.int .u64 (n : Nat)] ∧ n < 18446744073709551616 := by
  obtain ⟨i, e, _, hw⟩ := DataW.trod_int Tryz.underlying22 h
  have hb := bounds_u64 hw
  refine ⟨i.toNat, ?_, by omega⟩
  rw [e, Int.toNat_of_nonneg hb.1]
theorem cells_hd : Tryz.prog.cellsOf 26 = 98 := by kernel_rfl
theorem hd_of_trod {fuel : Nat} {cs : List Value} {x : DataW H × List MemPlace} (h : DataW.trod enc Tryz.prog W b0 sp held fuel 26 cs = some x) : ∃ (zs : Nat) (zp : Nat) (zpa : List Nat) (zst : List Nat) (zbo : List Nat), cs = hdC zs zp zpa zst zbo ∧ zs < 18446744073709551616 ∧ zp < 18446744073709551616 ∧ Rt zpa ∧ Rt zst ∧ Rt zbo := by
  obtain ⟨xs, n, _, _, hl, hlen, hf⟩ := DataW.trod_struct Tryz.underlying26 h
  rw [cells_hd] at hl
  have hx : xs.length = 5 := hlen
  have f0 : ∃ y, DataW.trod enc Tryz.prog W b0 sp held n 22 ((cs.drop 0).take 1) = some y := by
    have := hf 0 _ rfl
    change DataW.trod enc Tryz.prog W b0 sp held n 22 (List.take (Tryz.prog.cellsOf 22) (List.drop 0 cs)) = xs[0]? at this
    rw [cellsU64, List.getElem?_eq_getElem (by omega)] at this
    exact ⟨_, this⟩
  obtain ⟨y0, f0⟩ := f0
  obtain ⟨zs, e0, hzs⟩ := num_of_trod f0
  have f1 : ∃ y, DataW.trod enc Tryz.prog W b0 sp held n 22 ((cs.drop 1).take 1) = some y := by
    have := hf 1 _ rfl
    change DataW.trod enc Tryz.prog W b0 sp held n 22 (List.take (Tryz.prog.cellsOf 22) (List.drop 1 cs)) = xs[1]? at this
    rw [cellsU64, List.getElem?_eq_getElem (by omega)] at this
    exact ⟨_, this⟩
  obtain ⟨y1, f1⟩ := f1
  obtain ⟨zp, e1, hzp⟩ := num_of_trod f1
  have f2 : ∃ y, DataW.trod enc Tryz.prog W b0 sp held n 24 ((cs.drop 2).take 32) = some y := by
    have := hf 2 _ rfl
    change DataW.trod enc Tryz.prog W b0 sp held n 24 (List.take (Tryz.prog.cellsOf 24) (List.drop 2 cs)) = xs[2]? at this
    rw [cellsRt, List.getElem?_eq_getElem (by omega)] at this
    exact ⟨_, this⟩
  obtain ⟨y2, f2⟩ := f2
  obtain ⟨zpa, e2, hzpa⟩ := root_of_trod f2
  have f3 : ∃ y, DataW.trod enc Tryz.prog W b0 sp held n 24 ((cs.drop 34).take 32) = some y := by
    have := hf 3 _ rfl
    change DataW.trod enc Tryz.prog W b0 sp held n 24 (List.take (Tryz.prog.cellsOf 24) (List.drop 34 cs)) = xs[3]? at this
    rw [cellsRt, List.getElem?_eq_getElem (by omega)] at this
    exact ⟨_, this⟩
  obtain ⟨y3, f3⟩ := f3
  obtain ⟨zst, e3, hzst⟩ := root_of_trod f3
  have f4 : ∃ y, DataW.trod enc Tryz.prog W b0 sp held n 24 ((cs.drop 66).take 32) = some y := by
    have := hf 4 _ rfl
    change DataW.trod enc Tryz.prog W b0 sp held n 24 (List.take (Tryz.prog.cellsOf 24) (List.drop 66 cs)) = xs[4]? at this
    rw [cellsRt, List.getElem?_eq_getElem (by omega)] at this
    exact ⟨_, this⟩
  obtain ⟨y4, f4⟩ := f4
  obtain ⟨zbo, e4, hzbo⟩ := root_of_trod f4
  have hc := cut_flat cs [1, 1, 32, 32, 32] 0 (by rw [hl]; rfl)
  rw [List.drop_zero] at e0
  simp only [cutAt, List.drop_zero, Nat.zero_add, Nat.reduceAdd, e0, e1, e2, e3, e4] at hc
  refine ⟨zs, zp, zpa, zst, zbo, hc, hzs, hzp, hzpa, hzst, hzbo⟩
theorem open_hd {base : Nat} {v : Value} {d : DataW H} {p : List MemPlace} (hv : Value.okWide Tryz.prog W .any base 26 v) (h : DataW.Trod enc Tryz.prog W b0 sp held 26 v d p) : ∃ (zs : Nat) (zp : Nat) (zpa : List Nat) (zst : List Nat) (zbo : List Nat), v = .agg (hdC zs zp zpa zst zbo).toArray ∧ zs < 18446744073709551616 ∧ zp < 18446744073709551616 ∧ Rt zpa ∧ Rt zst ∧ Rt zbo := by
  obtain ⟨cs, rfl, _⟩ := okWide_struct Tryz.underlying26 hv
  obtain ⟨fuel, hf⟩ := h
  obtain ⟨zs, zp, zpa, zst, zbo, e, hzs, hzp, hzpa, hzst, hzbo⟩ := hd_of_trod hf
  exact ⟨zs, zp, zpa, zst, zbo, by rw [← Array.toList_inj.1 (show cs.toList = (hdC zs zp zpa zst zbo).toArray.toList from e)], hzs, hzp, hzpa, hzst, hzbo⟩
end
end Go.Proofs.YtlpemcjjaijgcaaGreat

