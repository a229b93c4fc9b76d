/- Own texts of the proof, joined: Open10 OpenB10. -/
import Derived.Test.YtpkelkipmldfeaaDoorH5
import Derived.ProofKit
import Derived.OpenShut
import Derived.ShutString
import Derived.ChangeOld
import Derived.Deep.Slices
import Derived.SevenTiedAt
import Derived.Stop.Joined
import Derived.Deep.Grids
import Derived.ChangeSlices
/- Structs that came in by value. -/
namespace Go.Proofs.YtpkelkipmldfeaaDoor
open Go.RowKit Go.Deep Go.WideShapes
set_option linter.unusedVariables false
set_option linter.unusedSimpArgs false
set_option maxRecDepth 100000

theorem cellsRt : Tryd.prog.cellsOf 24 = 32 := by kernel_rfl
theorem cellsU8 : Tryd.prog.cellsOf 5 = 1 := by kernel_rfl
theorem cellsU64 : Tryd.prog.cellsOf 22 = 1 := by kernel_rfl
theorem cellsBo : Tryd.prog.cellsOf 4 = 1 := by kernel_rfl
/-- Parts of a list, one behind the other. -/
def cutAt {α : Type} (cs : List α) : Nat → List Nat → List (List α)
  | _, [] => []
  | o, k :: ks => (cs.drop o).take k :: cutAt cs (o + k) ks
theorem cut_flat {α : Type} (cs : List α) : ∀ (ks : List Nat) (o : Nat), o + ks.sum = cs.length → cs.drop o = (cutAt cs o ks).flatten := by
  intro ks
  induction ks with
  | nil => intro o h; simp at h; rw [h, List.drop_length]; rfl
  | cons k ks ih =>
    intro o h
    rw [cutAt, List.flatten_cons, ← ih (o + k) (by simp at h; omega), ← List.drop_drop, List.take_append_drop]
section
variable {H : Type} {enc : TypeId × Value → H} {W : World} {b0 : Nat} {sp : Nat → Bool} {held : Bool}
theorem weightsAll_mem {P : Program} {e : TypeId} {n : Nat} : ∀ {l : List (DataW H)} {d : DataW H}, d ∈ l → n ∈ d.weights P e → n ∈ DataW.weightsAll P e l
  | d0 :: l, d, hd, hn => by
    rw [DataW.weightsAll, List.mem_append]
    rcases List.mem_cons.1 hd with rfl | hd
    · exact .inl hn
    · exact .inr (weightsAll_mem hd hn)
theorem weightsEach_mem {P : Program} {n : Nat} : ∀ {ts : List TypeId} {ds : List (DataW H)} {k : Nat} {t : TypeId} {d : DataW H}, ts[k]? = some t → ds[k]? = some d → n ∈ d.weights P t → n ∈ DataW.weightsEach P ts ds
  | t0 :: ts, d0 :: ds, 0, t, d, ht, hd, hn => by
    simp at ht hd
    subst ht
    subst hd
    rw [DataW.weightsEach, List.mem_append]
    exact .inl hn
  | t0 :: ts, d0 :: ds, k + 1, t, d, ht, hd, hn => by
    rw [DataW.weightsEach, List.mem_append]
    exact .inr (weightsEach_mem (k := k) (by simpa using ht) (by simpa using hd) hn)
  | [], _, _, _, _, ht, _, _ => by simp at ht
  | _ :: _, [], _, _, _, _, hd, _ => by simp at hd
theorem weights_part {t : TypeId} {fs : Array Field} (hu : Tryd.prog.underlying t = some (.struct fs)) {xs : List (DataW H × List MemPlace)} (k : Nat) {f : Field} {y : DataW H × List MemPlace} (hf : fs.toList[k]? = some f) (hy : xs[k]? = some y) {n : Nat} (hn : n ∈ y.1.weights Tryd.prog f.type) : n ∈ (DataW.agg (xs.map (·.1))).weights Tryd.prog t := by
  rw [DataW.weights, hu]
  exact weightsEach_mem (k := k) (t := f.type) (d := y.1) (by simp [hf]) (by simp [hy]) hn
theorem len_of_trod {t e : TypeId} (hu : Tryd.prog.underlying t = some (.slice e)) {by_ : Nat} (hby : Tryd.prog.bytesOf e = by_) {fuel : Nat} {ao : Option Addr} {len cap : Nat} {x : DataW H × List MemPlace} (h : DataW.trod enc Tryd.prog W b0 sp held fuel t [.slice ao len cap] = some x) (hr : ∀ n ∈ x.1.weights Tryd.prog t, n ≤ reachBytes) : len * by_ ≤ reachBytes := by
  rcases open_slice hu h with ⟨hcs, _⟩ | ⟨a, len', cap', m, n, D, Pl, hcs, _, hl, hm, hmm, hd, hx⟩
  · simp at hcs
    rw [hcs.2.1, Nat.zero_mul]
    exact Nat.zero_le _
  · simp at hcs
    obtain ⟨rfl, rfl, rfl⟩ := hcs
    have hd' : x.1 = .slice ((List.range len).map D) ((List.range (m - len)).map fun j => D (len + j)) := by rw [hd]
    have := hr ((((List.range len).map D).length + ((List.range (m - len)).map fun j => D (len + j)).length) * by_) (by rw [hd', DataW.weights, hu, ← hby]; exact List.mem_cons_self)
    rw [List.length_map, List.length_range] at this
    exact Nat.le_trans (Nat.mul_le_mul_right _ (Nat.le_add_right _ _)) this
theorem root_of_trod {fuel : Nat} {cs : List Value} {x : DataW H × List MemPlace} (h : DataW.trod enc Tryd.prog W b0 sp held fuel 24 cs = some x) : ∃ r : List Nat, cs = (nums .u8 r).toList ∧ Rt r := by
  obtain ⟨xs, m, _, _, hl, hxs, hel⟩ := DataW.trod_array Tryd.und24 h
  rw [cellsRt] at hl
  have key : ∀ i (hi : i < cs.length), ∃ n : Nat, cs[i] = .int .u8 (n : Int) ∧ n < 256 := by
    intro i hi
    have h1 := hel i (by omega)
    rw [cellsU8, Nat.mul_one, List.getElem?_eq_getElem (by omega)] at h1
    obtain ⟨n, e1, _, hw⟩ := DataW.trod_int Tryd.underlying5 h1
    have hb := bounds_u8 hw
    have e2 : (cs.drop i).take 1 = [cs[i]] := by
      rw [List.drop_eq_getElem_cons hi, List.take_succ_cons, List.take_zero]
    have e3 : [cs[i]] = [Value.int .u8 n] := e2.symm.trans e1
    refine ⟨n.toNat, ?_, by omega⟩
    have e4 : cs[i] = Value.int .u8 n := by simpa using e3
    rw [e4]
    congr 1
    omega
  refine ⟨cs.map fun v => (intOf v).toNat, ?_, by simp [hl], ?_⟩
  · unfold nums
    apply List.ext_getElem
    · simp
    · intro i h1 h2
      obtain ⟨n, e, hn⟩ := key i h1
      simp [e, intOf]
  · intro z hz
    obtain ⟨v, hv, rfl⟩ := List.mem_map.1 hz
    obtain ⟨i, hi, rfl⟩ := List.mem_iff_getElem.1 hv
    obtain ⟨n, e, hn⟩ := key i hi
    simp [e, intOf, hn]
theorem num_of_trod {fuel : Nat} {cs : List Value} {x : DataW H × List MemPlace} (h : DataW.trod enc Tryd.prog W b0 sp held fuel 22 cs = some x) : ∃ n : Nat, cs = [.int .u64 (n : Nat)] ∧ n < 18446744073709551616 := by
  obtain ⟨i, e, _, hw⟩ := DataW.trod_int Tryd.underlying22 h
  have hb := bounds_u64 hw
  refine ⟨i.toNat, ?_, by omega⟩
  rw [e, Int.toNat_of_nonneg hb.1]
theorem bool_of_trod {fuel : Nat} {cs : List Value} {x : DataW H × List MemPlace} (h : DataW.trod enc Tryd.prog W b0 sp held fuel 4 cs = some x) : ∃ b : Bool, cs = [.bool b] := by
  obtain ⟨b, e, _⟩ := DataW.trod_bool Tryd.underlying4 h
  exact ⟨b, e⟩
theorem bits_of_trod {fuel : Nat} {cs : List Value} {x : DataW H × List MemPlace} (h : DataW.trod enc Tryd.prog W b0 (fun _ => true) held fuel 58 cs = some x) : ∃ (ao : Option Addr) (c : Nat) (l : List Bool), cs = [.slice ao l.length c] ∧ IsT W (.slice ao l.length c) l := by
  rcases open_bools Tryd.underlying58 Tryd.underlying4 cellsBo h with ⟨hcs, _⟩ | ⟨a, len, cap, B, hcs, _, hl, hm, _, hcell⟩
  · exact ⟨none, 0, [], hcs, none, 0, rfl, Nat.le_refl _, by decide, .inl rfl⟩
  · refine ⟨some a, cap, (List.range len).map B, by simpa using hcs, some a, cap, rfl, by simpa using hl, hm, ?_⟩
    by_cases h0 : len = 0
    · exact .inl (by simpa using h0)
    · obtain ⟨b, off, spot⟩ := a
      obtain rfl : spot = none := by
        have := hcell 0 (by omega)
        simpa [Addr.add] using World.cell?_spot this
      refine .inr ⟨b, off, rfl, fun i hi => ?_⟩
      have hi' : i < len := by simpa using hi
      have := hcell i (by omega)
      rw [Addr.add_lit] at this
      rw [this]
      simp [hi']
theorem cellsNs : Tryd.prog.cellsOf 51 = 1 := by kernel_rfl
theorem nums_of_trod {fuel : Nat} {cs : List Value} {x : DataW H × List MemPlace} (h : DataW.trod enc Tryd.prog W b0 (fun _ => true) held fuel 51 cs = some x) : ∃ (ao : Option Addr) (c : Nat) (l : List Nat), cs = [.slice ao l.length c] ∧ IsN W (.slice ao l.length c) l := by
  rcases Go.ChangeShapes.open_ints Tryd.underlying51 Tryd.underlying22 cellsU64 h with ⟨hcs, _⟩ | ⟨a, len, cap, zs, hcs, _, hl, hm, hzl, _, hcell, hwf⟩
  · exact ⟨none, 0, [], hcs, ⟨none, 0, rfl, Nat.le_refl _, by decide, .inl rfl⟩, fun _ h => absurd h List.not_mem_nil⟩
  · simp only [if_true] at hzl
    have hln : ((zs.take len).map Int.toNat).length = len := by rw [List.length_map, List.length_take, hzl, Nat.min_eq_left hl]
    refine ⟨some a, cap, (zs.take len).map Int.toNat, by rw [hln]; exact hcs, ⟨some a, cap, rfl, by rw [hln]; exact hl, hm, ?_⟩, ?_⟩
    · by_cases h0 : len = 0
      · exact .inl (by rw [hln]; exact h0)
      · obtain ⟨b, off, spot⟩ := a
        obtain rfl : spot = none := by
          have := hcell 0 (by omega)
          simpa [Addr.add] using World.cell?_spot this
        refine .inr ⟨b, off, rfl, fun i hi => ?_⟩
        rw [hln] at hi
        have hiz : i < zs.length := by omega
        have h1 := hcell i hiz
        rw [Addr.add_lit] at h1
        have hb := bounds_u64 (hwf (zs.getD i 0) (by rw [List.getD_eq_getElem?_getD, List.getElem?_eq_getElem hiz]; exact List.getElem_mem hiz))
        rw [h1]
        have e1 : ((zs.take len).map Int.toNat).getD i 0 = (zs.getD i 0).toNat := by
          rw [List.getD_eq_getElem?_getD, List.getElem?_map, List.getElem?_take, if_pos hi, List.getD_eq_getElem?_getD, List.getElem?_eq_getElem hiz]
          rfl
        rw [e1, Int.toNat_of_nonneg hb.1]
    · intro n hn
      obtain ⟨z, hz, rfl⟩ := List.mem_map.1 hn
      have hb := bounds_u64 (hwf z (List.mem_of_mem_take hz))
      omega
theorem cellsBs : Tryd.prog.cellsOf 58 = 1 := by kernel_rfl
theorem cells_cp : Tryd.prog.cellsOf 47 = 33 := by kernel_rfl
theorem cp_of_trod {fuel : Nat} {cs : List Value} {x : DataW H × List MemPlace} (h : DataW.trod enc Tryd.prog W b0 sp held fuel 47 cs = some x) : ∃ (ze : Nat) (zr : List Nat), cs = cpC ze zr ∧ ze < 18446744073709551616 ∧ Rt zr := by
  obtain ⟨xs, n, _, _, hl, hlen, hf⟩ := DataW.trod_struct Tryd.underlying47 h
  rw [cells_cp] at hl
  have hx : xs.length = 2 := hlen
  have f0 : ∃ y, DataW.trod enc Tryd.prog W b0 sp held n 22 ((cs.drop 0).take 1) = some y := by
    have := hf 0 _ rfl
    change DataW.trod enc Tryd.prog W b0 sp held n 22 (List.take (Tryd.prog.cellsOf 22) (List.drop 0 cs)) = xs[0]? at this
    rw [cellsU64, List.getElem?_eq_getElem (by omega)] at this
    exact ⟨_, this⟩
  obtain ⟨y0, f0⟩ := f0
  obtain ⟨ze, e0, hze⟩ := num_of_trod f0
  have f1 : ∃ y, DataW.trod enc Tryd.prog W b0 sp held n 24 ((cs.drop 1).take 32) = some y := by
    have := hf 1 _ rfl
    change DataW.trod enc Tryd.prog W b0 sp held n 24 (List.take (Tryd.prog.cellsOf 24) (List.drop 1 cs)) = xs[1]? at this
    rw [cellsRt, List.getElem?_eq_getElem (by omega)] at this
    exact ⟨_, this⟩
  obtain ⟨y1, f1⟩ := f1
  obtain ⟨zr, e1, hzr⟩ := root_of_trod f1
  have hc := cut_flat cs [1, 32] 0 (by rw [hl]; rfl)
  rw [List.drop_zero] at e0
  simp only [cutAt, List.drop_zero, Nat.zero_add, Nat.reduceAdd, e0, e1] at hc
  refine ⟨ze, zr, hc, hze, hzr⟩
theorem cells_vt : Tryd.prog.cellsOf 53 = 100 := by kernel_rfl
theorem vt_of_trod {fuel : Nat} {cs : List Value} {x : DataW H × List MemPlace} (h : DataW.trod enc Tryd.prog W b0 sp held fuel 53 cs = some x) : ∃ (zs : Nat) (zi : Nat) (zb : List Nat) (zcze : Nat) (zczr : List Nat) (ztze : Nat) (ztzr : List Nat), cs = vtC zs zi zb zcze zczr ztze ztzr ∧ zs < 18446744073709551616 ∧ zi < 18446744073709551616 ∧ Rt zb ∧ zcze < 18446744073709551616 ∧ Rt zczr ∧ ztze < 18446744073709551616 ∧ Rt ztzr := by
  obtain ⟨xs, n, _, _, hl, hlen, hf⟩ := DataW.trod_struct Tryd.underlying53 h
  rw [cells_vt] at hl
  have hx : xs.length = 5 := hlen
  have f0 : ∃ y, DataW.trod enc Tryd.prog W b0 sp held n 22 ((cs.drop 0).take 1) = some y := by
    have := hf 0 _ rfl
    change DataW.trod enc Tryd.prog W b0 sp held n 22 (List.take (Tryd.prog.cellsOf 22) (List.drop 0 cs)) = xs[0]? at this
    rw [cellsU64, List.getElem?_eq_getElem (by omega)] at this
    exact ⟨_, this⟩
  obtain ⟨y0, f0⟩ := f0
  obtain ⟨zs, e0, hzs⟩ := num_of_trod f0
  have f1 : ∃ y, DataW.trod enc Tryd.prog W b0 sp held n 22 ((cs.drop 1).take 1) = some y := by
    have := hf 1 _ rfl
    change DataW.trod enc Tryd.prog W b0 sp held n 22 (List.take (Tryd.prog.cellsOf 22) (List.drop 1 cs)) = xs[1]? at this
    rw [cellsU64, List.getElem?_eq_getElem (by omega)] at this
    exact ⟨_, this⟩
  obtain ⟨y1, f1⟩ := f1
  obtain ⟨zi, e1, hzi⟩ := num_of_trod f1
  have f2 : ∃ y, DataW.trod enc Tryd.prog W b0 sp held n 24 ((cs.drop 2).take 32) = some y := by
    have := hf 2 _ rfl
    change DataW.trod enc Tryd.prog W b0 sp held n 24 (List.take (Tryd.prog.cellsOf 24) (List.drop 2 cs)) = xs[2]? at this
    rw [cellsRt, List.getElem?_eq_getElem (by omega)] at this
    exact ⟨_, this⟩
  obtain ⟨y2, f2⟩ := f2
  obtain ⟨zb, e2, hzb⟩ := root_of_trod f2
  have f3 : ∃ y, DataW.trod enc Tryd.prog W b0 sp held n 47 ((cs.drop 34).take 33) = some y := by
    have := hf 3 _ rfl
    change DataW.trod enc Tryd.prog W b0 sp held n 47 (List.take (Tryd.prog.cellsOf 47) (List.drop 34 cs)) = xs[3]? at this
    rw [cells_cp, List.getElem?_eq_getElem (by omega)] at this
    exact ⟨_, this⟩
  obtain ⟨y3, f3⟩ := f3
  obtain ⟨zcze, zczr, e3, hzcze, hzczr⟩ := cp_of_trod f3
  have f4 : ∃ y, DataW.trod enc Tryd.prog W b0 sp held n 47 ((cs.drop 67).take 33) = some y := by
    have := hf 4 _ rfl
    change DataW.trod enc Tryd.prog W b0 sp held n 47 (List.take (Tryd.prog.cellsOf 47) (List.drop 67 cs)) = xs[4]? at this
    rw [cells_cp, List.getElem?_eq_getElem (by omega)] at this
    exact ⟨_, this⟩
  obtain ⟨y4, f4⟩ := f4
  obtain ⟨ztze, ztzr, e4, hztze, hztzr⟩ := cp_of_trod f4
  have hc := cut_flat cs [1, 1, 32, 33, 33] 0 (by rw [hl]; rfl)
  rw [List.drop_zero] at e0
  simp only [cutAt, List.drop_zero, Nat.zero_add, Nat.reduceAdd, e0, e1, e2, e3, e4] at hc
  refine ⟨zs, zi, zb, zcze, zczr, ztze, ztzr, hc, hzs, hzi, hzb, hzcze, hzczr, hztze, hztzr⟩
theorem cells_ix : Tryd.prog.cellsOf 55 = 133 := by kernel_rfl
theorem ix_of_trod {fuel : Nat} {cs : List Value} {x : DataW H × List MemPlace} (h : DataW.trod enc Tryd.prog W b0 (fun _ => true) held fuel 55 cs = some x) (hr : ∀ n ∈ x.1.weights Tryd.prog 55, n ≤ reachBytes) : ∃ (zno : Option Addr) (znc : Nat) (znl : List Nat) (zdzs : Nat) (zdzi : Nat) (zdzb : List Nat) (zdzcze : Nat) (zdzczr : List Nat) (zdztze : Nat) (zdztzr : List Nat) (zsg : List Nat), cs = ixC zno znc znl zdzs zdzi zdzb zdzcze zdzczr zdztze zdztzr zsg ∧ zdzs < 18446744073709551616 ∧ zdzi < 18446744073709551616 ∧ Rt zdzb ∧ zdzcze < 18446744073709551616 ∧ Rt zdzczr ∧ zdztze < 18446744073709551616 ∧ Rt zdztzr ∧ Rt zsg ∧ IsN W (.slice zno znl.length znc) znl ∧ znl.length ≤ 17592186043904 := by
  obtain ⟨xs, n, _, rfl, hl, hlen, hf⟩ := DataW.trod_struct Tryd.underlying55 h
  rw [cells_ix] at hl
  have hx : xs.length = 3 := hlen
  have f0 : ∃ y, xs[0]? = some y ∧ DataW.trod enc Tryd.prog W b0 (fun _ => true) held n 51 ((cs.drop 0).take 1) = some y := by
    have := hf 0 _ rfl
    change DataW.trod enc Tryd.prog W b0 (fun _ => true) held n 51 (List.take (Tryd.prog.cellsOf 51) (List.drop 0 cs)) = xs[0]? at this
    rw [cellsNs, List.getElem?_eq_getElem (by omega)] at this
    exact ⟨_, List.getElem?_eq_getElem (by omega), this⟩
  obtain ⟨y0, g0, f0⟩ := f0
  obtain ⟨zno, znc, znl, e0, hzn⟩ := nums_of_trod f0
  have q0 := len_of_trod Tryd.underlying51 (show Tryd.prog.bytesOf 22 = 8 by kernel_rfl) (by rw [← e0]; exact f0) (fun n hn => hr n (weights_part Tryd.underlying55 0 rfl g0 hn))
  have hznn : znl.length ≤ 17592186043904 := by unfold reachBytes at q0; omega
  have f1 : ∃ y, xs[1]? = some y ∧ DataW.trod enc Tryd.prog W b0 (fun _ => true) held n 53 ((cs.drop 1).take 100) = some y := by
    have := hf 1 _ rfl
    change DataW.trod enc Tryd.prog W b0 (fun _ => true) held n 53 (List.take (Tryd.prog.cellsOf 53) (List.drop 1 cs)) = xs[1]? at this
    rw [cells_vt, List.getElem?_eq_getElem (by omega)] at this
    exact ⟨_, List.getElem?_eq_getElem (by omega), this⟩
  obtain ⟨y1, g1, f1⟩ := f1
  obtain ⟨zdzs, zdzi, zdzb, zdzcze, zdzczr, zdztze, zdztzr, e1, hzdzs, hzdzi, hzdzb, hzdzcze, hzdzczr, hzdztze, hzdztzr⟩ := vt_of_trod f1
  have f2 : ∃ y, xs[2]? = some y ∧ DataW.trod enc Tryd.prog W b0 (fun _ => true) held n 24 ((cs.drop 101).take 32) = some y := by
    have := hf 2 _ rfl
    change DataW.trod enc Tryd.prog W b0 (fun _ => true) held n 24 (List.take (Tryd.prog.cellsOf 24) (List.drop 101 cs)) = xs[2]? at this
    rw [cellsRt, List.getElem?_eq_getElem (by omega)] at this
    exact ⟨_, List.getElem?_eq_getElem (by omega), this⟩
  obtain ⟨y2, g2, f2⟩ := f2
  obtain ⟨zsg, e2, hzsg⟩ := root_of_trod f2
  have hc := cut_flat cs [1, 100, 32] 0 (by rw [hl]; rfl)
  rw [List.drop_zero] at e0
  simp only [cutAt, List.drop_zero, Nat.zero_add, Nat.reduceAdd, e0, e1, e2] at hc
  refine ⟨zno, znc, znl, zdzs, zdzi, zdzb, zdzcze, zdzczr, zdztze, zdztzr, zsg, hc, hzdzs, hzdzi, hzdzb, hzdzcze, hzdzczr, hzdztze, hzdztzr, hzsg, hzn, hznn⟩
theorem cells_as : Tryd.prog.cellsOf 57 = 266 := by kernel_rfl
theorem as_of_trod {fuel : Nat} {cs : List Value} {x : DataW H × List MemPlace} (h : DataW.trod enc Tryd.prog W b0 (fun _ => true) held fuel 57 cs = some x) (hr : ∀ n ∈ x.1.weights Tryd.prog 57, n ≤ reachBytes) : ∃ (zazno : Option Addr) (zaznc : Nat) (zaznl : List Nat) (zazdzs : Nat) (zazdzi : Nat) (zazdzb : List Nat) (zazdzcze : Nat) (zazdzczr : List Nat) (zazdztze : Nat) (zazdztzr : List Nat) (zazsg : List Nat) (zzzno : Option Addr) (zzznc : Nat) (zzznl : List Nat) (zzzdzs : Nat) (zzzdzi : Nat) (zzzdzb : List Nat) (zzzdzcze : Nat) (zzzdzczr : List Nat) (zzzdztze : Nat) (zzzdztzr : List Nat) (zzzsg : List Nat), cs = asC zazno zaznc zaznl zazdzs zazdzi zazdzb zazdzcze zazdzczr zazdztze zazdztzr zazsg zzzno zzznc zzznl zzzdzs zzzdzi zzzdzb zzzdzcze zzzdzczr zzzdztze zzzdztzr zzzsg ∧ zazdzs < 18446744073709551616 ∧ zazdzi < 18446744073709551616 ∧ Rt zazdzb ∧ zazdzcze < 18446744073709551616 ∧ Rt zazdzczr ∧ zazdztze < 18446744073709551616 ∧ Rt zazdztzr ∧ Rt zazsg ∧ zzzdzs < 18446744073709551616 ∧ zzzdzi < 18446744073709551616 ∧ Rt zzzdzb ∧ zzzdzcze < 18446744073709551616 ∧ Rt zzzdzczr ∧ zzzdztze < 18446744073709551616 ∧ Rt zzzdztzr ∧ Rt zzzsg ∧ IsN W (.slice zazno zaznl.length zaznc) zaznl ∧ IsN W (.slice zzzno zzznl.length zzznc) zzznl ∧ zaznl.length ≤ 17592186043904 ∧ zzznl.length ≤ 17592186043904 := by
  obtain ⟨xs, n, _, rfl, hl, hlen, hf⟩ := DataW.trod_struct Tryd.underlying57 h
  rw [cells_as] at hl
  have hx : xs.length = 2 := hlen
  have f0 : ∃ y, xs[0]? = some y ∧ DataW.trod enc Tryd.prog W b0 (fun _ => true) held n 55 ((cs.drop 0).take 133) = some y := by
    have := hf 0 _ rfl
    change DataW.trod enc Tryd.prog W b0 (fun _ => true) held n 55 (List.take (Tryd.prog.cellsOf 55) (List.drop 0 cs)) = xs[0]? at this
    rw [cells_ix, List.getElem?_eq_getElem (by omega)] at this
    exact ⟨_, List.getElem?_eq_getElem (by omega), this⟩
  obtain ⟨y0, g0, f0⟩ := f0
  obtain ⟨zazno, zaznc, zaznl, zazdzs, zazdzi, zazdzb, zazdzcze, zazdzczr, zazdztze, zazdztzr, zazsg, e0, hzazdzs, hzazdzi, hzazdzb, hzazdzcze, hzazdzczr, hzazdztze, hzazdztzr, hzazsg, hzazn, hzaznn⟩ := ix_of_trod f0 (fun n hn => hr n (weights_part Tryd.underlying57 0 rfl g0 hn))
  have f1 : ∃ y, xs[1]? = some y ∧ DataW.trod enc Tryd.prog W b0 (fun _ => true) held n 55 ((cs.drop 133).take 133) = some y := by
    have := hf 1 _ rfl
    change DataW.trod enc Tryd.prog W b0 (fun _ => true) held n 55 (List.take (Tryd.prog.cellsOf 55) (List.drop 133 cs)) = xs[1]? at this
    rw [cells_ix, List.getElem?_eq_getElem (by omega)] at this
    exact ⟨_, List.getElem?_eq_getElem (by omega), this⟩
  obtain ⟨y1, g1, f1⟩ := f1
  obtain ⟨zzzno, zzznc, zzznl, zzzdzs, zzzdzi, zzzdzb, zzzdzcze, zzzdzczr, zzzdztze, zzzdztzr, zzzsg, e1, hzzzdzs, hzzzdzi, hzzzdzb, hzzzdzcze, hzzzdzczr, hzzzdztze, hzzzdztzr, hzzzsg, hzzzn, hzzznn⟩ := ix_of_trod f1 (fun n hn => hr n (weights_part Tryd.underlying57 1 rfl g1 hn))
  have hc := cut_flat cs [133, 133] 0 (by rw [hl]; rfl)
  rw [List.drop_zero] at e0
  simp only [cutAt, List.drop_zero, Nat.zero_add, Nat.reduceAdd, e0, e1] at hc
  refine ⟨zazno, zaznc, zaznl, zazdzs, zazdzi, zazdzb, zazdzcze, zazdzczr, zazdztze, zazdztzr, zazsg, zzzno, zzznc, zzznl, zzzdzs, zzzdzi, zzzdzb, zzzdzcze, zzzdzczr, zzzdztze, zzzdztzr, zzzsg, hc, hzazdzs, hzazdzi, hzazdzb, hzazdzcze, hzazdzczr, hzazdztze, hzazdztzr, hzazsg, hzzzdzs, hzzzdzi, hzzzdzb, hzzzdzcze, hzzzdzczr, hzzzdztze, hzzzdztzr, hzzzsg, hzazn, hzzzn, hzaznn, hzzznn⟩
theorem cells_at : Tryd.prog.cellsOf 60 = 133 := by kernel_rfl
theorem at_of_trod {fuel : Nat} {cs : List Value} {x : DataW H × List MemPlace} (h : DataW.trod enc Tryd.prog W b0 (fun _ => true) held fuel 60 cs = some x) (hr : ∀ n ∈ x.1.weights Tryd.prog 60, n ≤ reachBytes) : ∃ (zbo : Option Addr) (zbc : Nat) (zbl : List Bool) (zdzs : Nat) (zdzi : Nat) (zdzb : List Nat) (zdzcze : Nat) (zdzczr : List Nat) (zdztze : Nat) (zdztzr : List Nat) (zsg : List Nat), cs = atC zbo zbc zbl zdzs zdzi zdzb zdzcze zdzczr zdztze zdztzr zsg ∧ zdzs < 18446744073709551616 ∧ zdzi < 18446744073709551616 ∧ Rt zdzb ∧ zdzcze < 18446744073709551616 ∧ Rt zdzczr ∧ zdztze < 18446744073709551616 ∧ Rt zdztzr ∧ Rt zsg ∧ IsT W (.slice zbo zbl.length zbc) zbl ∧ zbl.length ≤ 140737488351232 := by
  obtain ⟨xs, n, _, rfl, hl, hlen, hf⟩ := DataW.trod_struct Tryd.underlying60 h
  rw [cells_at] at hl
  have hx : xs.length = 3 := hlen
  have f0 : ∃ y, xs[0]? = some y ∧ DataW.trod enc Tryd.prog W b0 (fun _ => true) held n 58 ((cs.drop 0).take 1) = some y := by
    have := hf 0 _ rfl
    change DataW.trod enc Tryd.prog W b0 (fun _ => true) held n 58 (List.take (Tryd.prog.cellsOf 58) (List.drop 0 cs)) = xs[0]? at this
    rw [cellsBs, List.getElem?_eq_getElem (by omega)] at this
    exact ⟨_, List.getElem?_eq_getElem (by omega), this⟩
  obtain ⟨y0, g0, f0⟩ := f0
  obtain ⟨zbo, zbc, zbl, e0, hzb⟩ := bits_of_trod f0
  have q0 := len_of_trod Tryd.underlying58 (show Tryd.prog.bytesOf 4 = 1 by kernel_rfl) (by rw [← e0]; exact f0) (fun n hn => hr n (weights_part Tryd.underlying60 0 rfl g0 hn))
  have hzbn : zbl.length ≤ 140737488351232 := by unfold reachBytes at q0; omega
  have f1 : ∃ y, xs[1]? = some y ∧ DataW.trod enc Tryd.prog W b0 (fun _ => true) held n 53 ((cs.drop 1).take 100) = some y := by
    have := hf 1 _ rfl
    change DataW.trod enc Tryd.prog W b0 (fun _ => true) held n 53 (List.take (Tryd.prog.cellsOf 53) (List.drop 1 cs)) = xs[1]? at this
    rw [cells_vt, List.getElem?_eq_getElem (by omega)] at this
    exact ⟨_, List.getElem?_eq_getElem (by omega), this⟩
  obtain ⟨y1, g1, f1⟩ := f1
  obtain ⟨zdzs, zdzi, zdzb, zdzcze, zdzczr, zdztze, zdztzr, e1, hzdzs, hzdzi, hzdzb, hzdzcze, hzdzczr, hzdztze, hzdztzr⟩ := vt_of_trod f1
  have f2 : ∃ y, xs[2]? = some y ∧ DataW.trod enc Tryd.prog W b0 (fun _ => true) held n 24 ((cs.drop 101).take 32) = some y := by
    have := hf 2 _ rfl
    change DataW.trod enc Tryd.prog W b0 (fun _ => true) held n 24 (List.take (Tryd.prog.cellsOf 24) (List.drop 101 cs)) = xs[2]? at this
    rw [cellsRt, List.getElem?_eq_getElem (by omega)] at this
    exact ⟨_, List.getElem?_eq_getElem (by omega), this⟩
  obtain ⟨y2, g2, f2⟩ := f2
  obtain ⟨zsg, e2, hzsg⟩ := root_of_trod f2
  have hc := cut_flat cs [1, 100, 32] 0 (by rw [hl]; rfl)
  rw [List.drop_zero] at e0
  simp only [cutAt, List.drop_zero, Nat.zero_add, Nat.reduceAdd, e0, e1, e2] at hc
  refine ⟨zbo, zbc, zbl, zdzs, zdzi, zdzb, zdzcze, zdzczr, zdztze, zdztzr, zsg, hc, hzdzs, hzdzi, hzdzb, hzdzcze, hzdzczr, hzdztze, hzdztzr, hzsg, hzb, hzbn⟩
theorem cells_hd : Tryd.prog.cellsOf 39 = 98 := by kernel_rfl
theorem hd_of_trod {fuel : Nat} {cs : List Value} {x : DataW H × List MemPlace} (h : DataW.trod enc Tryd.prog W b0 sp held fuel 39 cs = some x) : ∃ (zs : Nat) (zp : Nat) (zpa : List Nat) (zst : List Nat) (zbo : List Nat), cs = hdC zs zp zpa zst zbo ∧ zs < 18446744073709551616 ∧ zp < 18446744073709551616 ∧ Rt zpa ∧ Rt zst ∧ Rt zbo := by
  obtain ⟨xs, n, _, _, hl, hlen, hf⟩ := DataW.trod_struct Tryd.underlying39 h
  rw [cells_hd] at hl
  have hx : xs.length = 5 := hlen
  have f0 : ∃ y, DataW.trod enc Tryd.prog W b0 sp held n 22 ((cs.drop 0).take 1) = some y := by
    have := hf 0 _ rfl
    change DataW.trod enc Tryd.prog W b0 sp held n 22 (List.take (Tryd.prog.cellsOf 22) (List.drop 0 cs)) = xs[0]? at this
    rw [cellsU64, List.getElem?_eq_getElem (by omega)] at this
    exact ⟨_, this⟩
  obtain ⟨y0, f0⟩ := f0
  obtain ⟨zs, e0, hzs⟩ := num_of_trod f0
  have f1 : ∃ y, DataW.trod enc Tryd.prog W b0 sp held n 22 ((cs.drop 1).take 1) = some y := by
    have := hf 1 _ rfl
    change DataW.trod enc Tryd.prog W b0 sp held n 22 (List.take (Tryd.prog.cellsOf 22) (List.drop 1 cs)) = xs[1]? at this
    rw [cellsU64, List.getElem?_eq_getElem (by omega)] at this
    exact ⟨_, this⟩
  obtain ⟨y1, f1⟩ := f1
  obtain ⟨zp, e1, hzp⟩ := num_of_trod f1
  have f2 : ∃ y, DataW.trod enc Tryd.prog W b0 sp held n 24 ((cs.drop 2).take 32) = some y := by
    have := hf 2 _ rfl
    change DataW.trod enc Tryd.prog W b0 sp held n 24 (List.take (Tryd.prog.cellsOf 24) (List.drop 2 cs)) = xs[2]? at this
    rw [cellsRt, List.getElem?_eq_getElem (by omega)] at this
    exact ⟨_, this⟩
  obtain ⟨y2, f2⟩ := f2
  obtain ⟨zpa, e2, hzpa⟩ := root_of_trod f2
  have f3 : ∃ y, DataW.trod enc Tryd.prog W b0 sp held n 24 ((cs.drop 34).take 32) = some y := by
    have := hf 3 _ rfl
    change DataW.trod enc Tryd.prog W b0 sp held n 24 (List.take (Tryd.prog.cellsOf 24) (List.drop 34 cs)) = xs[3]? at this
    rw [cellsRt, List.getElem?_eq_getElem (by omega)] at this
    exact ⟨_, this⟩
  obtain ⟨y3, f3⟩ := f3
  obtain ⟨zst, e3, hzst⟩ := root_of_trod f3
  have f4 : ∃ y, DataW.trod enc Tryd.prog W b0 sp held n 24 ((cs.drop 66).take 32) = some y := by
    have := hf 4 _ rfl
    change DataW.trod enc Tryd.prog W b0 sp held n 24 (List.take (Tryd.prog.cellsOf 24) (List.drop 66 cs)) = xs[4]? at this
    rw [cellsRt, List.getElem?_eq_getElem (by omega)] at this
    exact ⟨_, this⟩
  obtain ⟨y4, f4⟩ := f4
  obtain ⟨zbo, e4, hzbo⟩ := root_of_trod f4
  have hc := cut_flat cs [1, 1, 32, 32, 32] 0 (by rw [hl]; rfl)
  rw [List.drop_zero] at e0
  simp only [cutAt, List.drop_zero, Nat.zero_add, Nat.reduceAdd, e0, e1, e2, e3, e4] at hc
  refine ⟨zs, zp, zpa, zst, zbo, hc, hzs, hzp, hzpa, hzst, hzbo⟩
theorem cells_sh : Tryd.prog.cellsOf 65 = 130 := by kernel_rfl
theorem sh_of_trod {fuel : Nat} {cs : List Value} {x : DataW H × List MemPlace} (h : DataW.trod enc Tryd.prog W b0 sp held fuel 65 cs = some x) : ∃ (zhzs : Nat) (zhzp : Nat) (zhzpa : List Nat) (zhzst : List Nat) (zhzbo : List Nat) (zsg : List Nat), cs = shC zhzs zhzp zhzpa zhzst zhzbo zsg ∧ zhzs < 18446744073709551616 ∧ zhzp < 18446744073709551616 ∧ Rt zhzpa ∧ Rt zhzst ∧ Rt zhzbo ∧ Rt zsg := by
  obtain ⟨xs, n, _, _, hl, hlen, hf⟩ := DataW.trod_struct Tryd.underlying65 h
  rw [cells_sh] at hl
  have hx : xs.length = 2 := hlen
  have f0 : ∃ y, DataW.trod enc Tryd.prog W b0 sp held n 39 ((cs.drop 0).take 98) = some y := by
    have := hf 0 _ rfl
    change DataW.trod enc Tryd.prog W b0 sp held n 39 (List.take (Tryd.prog.cellsOf 39) (List.drop 0 cs)) = xs[0]? at this
    rw [cells_hd, List.getElem?_eq_getElem (by omega)] at this
    exact ⟨_, this⟩
  obtain ⟨y0, f0⟩ := f0
  obtain ⟨zhzs, zhzp, zhzpa, zhzst, zhzbo, e0, hzhzs, hzhzp, hzhzpa, hzhzst, hzhzbo⟩ := hd_of_trod f0
  have f1 : ∃ y, DataW.trod enc Tryd.prog W b0 sp held n 24 ((cs.drop 98).take 32) = some y := by
    have := hf 1 _ rfl
    change DataW.trod enc Tryd.prog W b0 sp held n 24 (List.take (Tryd.prog.cellsOf 24) (List.drop 98 cs)) = xs[1]? at this
    rw [cellsRt, List.getElem?_eq_getElem (by omega)] at this
    exact ⟨_, this⟩
  obtain ⟨y1, f1⟩ := f1
  obtain ⟨zsg, e1, hzsg⟩ := root_of_trod f1
  have hc := cut_flat cs [98, 32] 0 (by rw [hl]; rfl)
  rw [List.drop_zero] at e0
  simp only [cutAt, List.drop_zero, Nat.zero_add, Nat.reduceAdd, e0, e1] at hc
  refine ⟨zhzs, zhzp, zhzpa, zhzst, zhzbo, zsg, hc, hzhzs, hzhzp, hzhzpa, hzhzst, hzhzbo, hzsg⟩
theorem cells_ps : Tryd.prog.cellsOf 67 = 260 := by kernel_rfl
theorem ps_of_trod {fuel : Nat} {cs : List Value} {x : DataW H × List MemPlace} (h : DataW.trod enc Tryd.prog W b0 sp held fuel 67 cs = some x) : ∃ (zazhzs : Nat) (zazhzp : Nat) (zazhzpa : List Nat) (zazhzst : List Nat) (zazhzbo : List Nat) (zazsg : List Nat) (zzzhzs : Nat) (zzzhzp : Nat) (zzzhzpa : List Nat) (zzzhzst : List Nat) (zzzhzbo : List Nat) (zzzsg : List Nat), cs = psC zazhzs zazhzp zazhzpa zazhzst zazhzbo zazsg zzzhzs zzzhzp zzzhzpa zzzhzst zzzhzbo zzzsg ∧ zazhzs < 18446744073709551616 ∧ zazhzp < 18446744073709551616 ∧ Rt zazhzpa ∧ Rt zazhzst ∧ Rt zazhzbo ∧ Rt zazsg ∧ zzzhzs < 18446744073709551616 ∧ zzzhzp < 18446744073709551616 ∧ Rt zzzhzpa ∧ Rt zzzhzst ∧ Rt zzzhzbo ∧ Rt zzzsg := by
  obtain ⟨xs, n, _, _, hl, hlen, hf⟩ := DataW.trod_struct Tryd.underlying67 h
  rw [cells_ps] at hl
  have hx : xs.length = 2 := hlen
  have f0 : ∃ y, DataW.trod enc Tryd.prog W b0 sp held n 65 ((cs.drop 0).take 130) = some y := by
    have := hf 0 _ rfl
    change DataW.trod enc Tryd.prog W b0 sp held n 65 (List.take (Tryd.prog.cellsOf 65) (List.drop 0 cs)) = xs[0]? at this
    rw [cells_sh, List.getElem?_eq_getElem (by omega)] at this
    exact ⟨_, this⟩
  obtain ⟨y0, f0⟩ := f0
  obtain ⟨zazhzs, zazhzp, zazhzpa, zazhzst, zazhzbo, zazsg, e0, hzazhzs, hzazhzp, hzazhzpa, hzazhzst, hzazhzbo, hzazsg⟩ := sh_of_trod f0
  have f1 : ∃ y, DataW.trod enc Tryd.prog W b0 sp held n 65 ((cs.drop 130).take 130) = some y := by
    have := hf 1 _ rfl
    change DataW.trod enc Tryd.prog W b0 sp held n 65 (List.take (Tryd.prog.cellsOf 65) (List.drop 130 cs)) = xs[1]? at this
    rw [cells_sh, List.getElem?_eq_getElem (by omega)] at this
    exact ⟨_, this⟩
  obtain ⟨y1, f1⟩ := f1
  obtain ⟨zzzhzs, zzzhzp, zzzhzpa, zzzhzst, zzzhzbo, zzzsg, e1, hzzzhzs, hzzzhzp, hzzzhzpa, hzzzhzst, hzzzhzbo, hzzzsg⟩ := sh_of_trod f1
  have hc := cut_flat cs [130, 130] 0 (by rw [hl]; rfl)
  rw [List.drop_zero] at e0
  simp only [cutAt, List.drop_zero, Nat.zero_add, Nat.reduceAdd, e0, e1] at hc
  refine ⟨zazhzs, zazhzp, zazhzpa, zazhzst, zazhzbo, zazsg, zzzhzs, zzzhzp, zzzhzpa, zzzhzst, zzzhzbo, zzzsg, hc, hzazhzs, hzazhzp, hzazhzpa, hzazhzst, hzazhzbo, hzazsg, hzzzhzs, hzzzhzp, hzzzhzpa, hzzzhzst, hzzzhzbo, hzzzsg⟩
theorem cells_ex : Tryd.prog.cellsOf 82 = 2 := by kernel_rfl
theorem ex_of_trod {fuel : Nat} {cs : List Value} {x : DataW H × List MemPlace} (h : DataW.trod enc Tryd.prog W b0 sp held fuel 82 cs = some x) : ∃ (ze : Nat) (zi : Nat), cs = exC ze zi ∧ ze < 18446744073709551616 ∧ zi < 18446744073709551616 := by
  obtain ⟨xs, n, _, _, hl, hlen, hf⟩ := DataW.trod_struct Tryd.underlying82 h
  rw [cells_ex] at hl
  have hx : xs.length = 2 := hlen
  have f0 : ∃ y, DataW.trod enc Tryd.prog W b0 sp held n 22 ((cs.drop 0).take 1) = some y := by
    have := hf 0 _ rfl
    change DataW.trod enc Tryd.prog W b0 sp held n 22 (List.take (Tryd.prog.cellsOf 22) (List.drop 0 cs)) = xs[0]? at this
    rw [cellsU64, List.getElem?_eq_getElem (by omega)] at this
    exact ⟨_, this⟩
  obtain ⟨y0, f0⟩ := f0
  obtain ⟨ze, e0, hze⟩ := num_of_trod f0
  have f1 : ∃ y, DataW.trod enc Tryd.prog W b0 sp held n 22 ((cs.drop 1).take 1) = some y := by
    have := hf 1 _ rfl
    change DataW.trod enc Tryd.prog W b0 sp held n 22 (List.take (Tryd.prog.cellsOf 22) (List.drop 1 cs)) = xs[1]? at this
    rw [cellsU64, List.getElem?_eq_getElem (by omega)] at this
    exact ⟨_, this⟩
  obtain ⟨y1, f1⟩ := f1
  obtain ⟨zi, e1, hzi⟩ := num_of_trod f1
  have hc := cut_flat cs [1, 1] 0 (by rw [hl]; rfl)
  rw [List.drop_zero] at e0
  simp only [cutAt, List.drop_zero, Nat.zero_add, Nat.reduceAdd, e0, e1] at hc
  refine ⟨ze, zi, hc, hze, hzi⟩
theorem cells_sx : Tryd.prog.cellsOf 84 = 34 := by kernel_rfl
theorem sx_of_trod {fuel : Nat} {cs : List Value} {x : DataW H × List MemPlace} (h : DataW.trod enc Tryd.prog W b0 sp held fuel 84 cs = some x) : ∃ (zxze : Nat) (zxzi : Nat) (zsg : List Nat), cs = sxC zxze zxzi zsg ∧ zxze < 18446744073709551616 ∧ zxzi < 18446744073709551616 ∧ Rt zsg := by
  obtain ⟨xs, n, _, _, hl, hlen, hf⟩ := DataW.trod_struct Tryd.underlying84 h
  rw [cells_sx] at hl
  have hx : xs.length = 2 := hlen
  have f0 : ∃ y, DataW.trod enc Tryd.prog W b0 sp held n 82 ((cs.drop 0).take 2) = some y := by
    have := hf 0 _ rfl
    change DataW.trod enc Tryd.prog W b0 sp held n 82 (List.take (Tryd.prog.cellsOf 82) (List.drop 0 cs)) = xs[0]? at this
    rw [cells_ex, List.getElem?_eq_getElem (by omega)] at this
    exact ⟨_, this⟩
  obtain ⟨y0, f0⟩ := f0
  obtain ⟨zxze, zxzi, e0, hzxze, hzxzi⟩ := ex_of_trod f0
  have f1 : ∃ y, DataW.trod enc Tryd.prog W b0 sp held n 24 ((cs.drop 2).take 32) = some y := by
    have := hf 1 _ rfl
    change DataW.trod enc Tryd.prog W b0 sp held n 24 (List.take (Tryd.prog.cellsOf 24) (List.drop 2 cs)) = xs[1]? at this
    rw [cellsRt, List.getElem?_eq_getElem (by omega)] at this
    exact ⟨_, this⟩
  obtain ⟨y1, f1⟩ := f1
  obtain ⟨zsg, e1, hzsg⟩ := root_of_trod f1
  have hc := cut_flat cs [2, 32] 0 (by rw [hl]; rfl)
  rw [List.drop_zero] at e0
  simp only [cutAt, List.drop_zero, Nat.zero_add, Nat.reduceAdd, e0, e1] at hc
  refine ⟨zxze, zxzi, zsg, hc, hzxze, hzxzi, hzsg⟩
theorem cells_et : Tryd.prog.cellsOf 26 = 33 := by kernel_rfl
theorem et_of_trod {fuel : Nat} {cs : List Value} {x : DataW H × List MemPlace} (h : DataW.trod enc Tryd.prog W b0 sp held fuel 26 cs = some x) : ∃ (zd : List Nat) (zc : Nat), cs = etC zd zc ∧ Rt zd ∧ zc < 18446744073709551616 := by
  obtain ⟨xs, n, _, _, hl, hlen, hf⟩ := DataW.trod_struct Tryd.underlying26 h
  rw [cells_et] at hl
  have hx : xs.length = 2 := hlen
  have f0 : ∃ y, DataW.trod enc Tryd.prog W b0 sp held n 24 ((cs.drop 0).take 32) = some y := by
    have := hf 0 _ rfl
    change DataW.trod enc Tryd.prog W b0 sp held n 24 (List.take (Tryd.prog.cellsOf 24) (List.drop 0 cs)) = xs[0]? at this
    rw [cellsRt, List.getElem?_eq_getElem (by omega)] at this
    exact ⟨_, this⟩
  obtain ⟨y0, f0⟩ := f0
  obtain ⟨zd, e0, hzd⟩ := root_of_trod f0
  have f1 : ∃ y, DataW.trod enc Tryd.prog W b0 sp held n 22 ((cs.drop 32).take 1) = some y := by
    have := hf 1 _ rfl
    change DataW.trod enc Tryd.prog W b0 sp held n 22 (List.take (Tryd.prog.cellsOf 22) (List.drop 32 cs)) = xs[1]? at this
    rw [cellsU64, List.getElem?_eq_getElem (by omega)] at this
    exact ⟨_, this⟩
  obtain ⟨y1, f1⟩ := f1
  obtain ⟨zc, e1, hzc⟩ := num_of_trod f1
  have hc := cut_flat cs [32, 1] 0 (by rw [hl]; rfl)
  rw [List.drop_zero] at e0
  simp only [cutAt, List.drop_zero, Nat.zero_add, Nat.reduceAdd, e0, e1] at hc
  refine ⟨zd, zc, hc, hzd, hzc⟩
theorem cells_dd : Tryd.prog.cellsOf 76 = 97 := by kernel_rfl
theorem dd_of_trod {fuel : Nat} {cs : List Value} {x : DataW H × List MemPlace} (h : DataW.trod enc Tryd.prog W b0 sp held fuel 76 cs = some x) : ∃ (zk : List Nat) (zcr : List Nat) (zam : Nat) (zsg : List Nat), cs = ddC zk zcr zam zsg ∧ Rt zk ∧ Rt zcr ∧ zam < 18446744073709551616 ∧ Rt zsg := by
  obtain ⟨xs, n, _, _, hl, hlen, hf⟩ := DataW.trod_struct Tryd.underlying76 h
  rw [cells_dd] at hl
  have hx : xs.length = 4 := hlen
  have f0 : ∃ y, DataW.trod enc Tryd.prog W b0 sp held n 24 ((cs.drop 0).take 32) = some y := by
    have := hf 0 _ rfl
    change DataW.trod enc Tryd.prog W b0 sp held n 24 (List.take (Tryd.prog.cellsOf 24) (List.drop 0 cs)) = xs[0]? at this
    rw [cellsRt, List.getElem?_eq_getElem (by omega)] at this
    exact ⟨_, this⟩
  obtain ⟨y0, f0⟩ := f0
  obtain ⟨zk, e0, hzk⟩ := root_of_trod f0
  have f1 : ∃ y, DataW.trod enc Tryd.prog W b0 sp held n 24 ((cs.drop 32).take 32) = some y := by
    have := hf 1 _ rfl
    change DataW.trod enc Tryd.prog W b0 sp held n 24 (List.take (Tryd.prog.cellsOf 24) (List.drop 32 cs)) = xs[1]? at this
    rw [cellsRt, List.getElem?_eq_getElem (by omega)] at this
    exact ⟨_, this⟩
  obtain ⟨y1, f1⟩ := f1
  obtain ⟨zcr, e1, hzcr⟩ := root_of_trod f1
  have f2 : ∃ y, DataW.trod enc Tryd.prog W b0 sp held n 22 ((cs.drop 64).take 1) = some y := by
    have := hf 2 _ rfl
    change DataW.trod enc Tryd.prog W b0 sp held n 22 (List.take (Tryd.prog.cellsOf 22) (List.drop 64 cs)) = xs[2]? at this
    rw [cellsU64, List.getElem?_eq_getElem (by omega)] at this
    exact ⟨_, this⟩
  obtain ⟨y2, f2⟩ := f2
  obtain ⟨zam, e2, hzam⟩ := num_of_trod f2
  have f3 : ∃ y, DataW.trod enc Tryd.prog W b0 sp held n 24 ((cs.drop 65).take 32) = some y := by
    have := hf 3 _ rfl
    change DataW.trod enc Tryd.prog W b0 sp held n 24 (List.take (Tryd.prog.cellsOf 24) (List.drop 65 cs)) = xs[3]? at this
    rw [cellsRt, List.getElem?_eq_getElem (by omega)] at this
    exact ⟨_, this⟩
  obtain ⟨y3, f3⟩ := f3
  obtain ⟨zsg, e3, hzsg⟩ := root_of_trod f3
  have hc := cut_flat cs [32, 32, 1, 32] 0 (by rw [hl]; rfl)
  rw [List.drop_zero] at e0
  simp only [cutAt, List.drop_zero, Nat.zero_add, Nat.reduceAdd, e0, e1, e2, e3] at hc
  refine ⟨zk, zcr, zam, zsg, hc, hzk, hzcr, hzam, hzsg⟩
theorem cells_v6 : Tryd.prog.cellsOf 74 = 192 := by kernel_rfl
theorem cells_dp : Tryd.prog.cellsOf 78 = 289 := by kernel_rfl
theorem und_v6 : Tryd.prog.underlying 74 = some (.array 6 24) := by kernel_rfl
theorem v6_of_trod {fuel : Nat} {cs : List Value} {x : DataW H × List MemPlace} (h : DataW.trod enc Tryd.prog W b0 sp held fuel 74 cs = some x) : ∃ rs : List (List Nat), cs = cellsOf rs ∧ Rts rs ∧ rs.length = 6 := by
  obtain ⟨xs, m, _, _, hl, hxs, hel⟩ := DataW.trod_array und_v6 h
  rw [cells_v6] at hl
  have each : ∀ i, i < 6 → ∃ r : List Nat, (cs.drop (i * 32)).take 32 = (nums .u8 r).toList ∧ Rt r := by
    intro i hi
    have h1 := hel i (by omega)
    rw [cellsRt, List.getElem?_eq_getElem (by omega)] at h1
    exact root_of_trod h1
  have hf : ∃ f : Nat → List Nat, ∀ i, i < 6 → (cs.drop (i * 32)).take 32 = (nums .u8 (f i)).toList ∧ Rt (f i) :=
    ⟨fun i => if h : i < 6 then Classical.choose (each i h) else [], fun i hi => by simp only [hi, dif_pos]; exact Classical.choose_spec (each i hi)⟩
  obtain ⟨f, hf⟩ := hf
  have hc := cut_flat cs [32, 32, 32, 32, 32, 32] 0 (by rw [hl]; rfl)
  have e0 := (hf 0 (by decide)).1
  have e1 := (hf 1 (by decide)).1
  have e2 := (hf 2 (by decide)).1
  have e3 := (hf 3 (by decide)).1
  have e4 := (hf 4 (by decide)).1
  have e5 := (hf 5 (by decide)).1
  simp only [Nat.zero_mul, Nat.one_mul, Nat.reduceMul, List.drop_zero] at e0 e1 e2 e3 e4 e5
  simp only [cutAt, List.drop_zero, Nat.zero_add, Nat.reduceAdd, e0, e1, e2, e3, e4, e5] at hc
  refine ⟨[f 0, f 1, f 2, f 3, f 4, f 5], ?_, ⟨fun r hr => ?_, fun r hr => ?_⟩, rfl⟩
  · rw [hc]
    simp [cellsOf, nums]
  · simp only [List.mem_cons, List.not_mem_nil, or_false] at hr
    rcases hr with rfl | rfl | rfl | rfl | rfl | rfl <;> exact (hf _ (by decide)).2.len
  · simp only [List.mem_cons, List.not_mem_nil, or_false] at hr
    rcases hr with rfl | rfl | rfl | rfl | rfl | rfl <;> exact (hf _ (by decide)).2.byte
theorem dp_of_trod {fuel : Nat} {cs : List Value} {x : DataW H × List MemPlace} (h : DataW.trod enc Tryd.prog W b0 sp held fuel 78 cs = some x) : ∃ (zp : List (List Nat)) (zdzk : List Nat) (zdzcr : List Nat) (zdzam : Nat) (zdzsg : List Nat), cs = dpC zp zdzk zdzcr zdzam zdzsg ∧ Rts zp ∧ zp.length = 6 ∧ Rt zdzk ∧ Rt zdzcr ∧ zdzam < 18446744073709551616 ∧ Rt zdzsg := by
  obtain ⟨xs, n, _, _, hl, hlen, hf⟩ := DataW.trod_struct Tryd.underlying78 h
  rw [cells_dp] at hl
  have hx : xs.length = 2 := hlen
  have f0 : ∃ y, DataW.trod enc Tryd.prog W b0 sp held n 74 ((cs.drop 0).take 192) = some y := by
    have := hf 0 _ rfl
    change DataW.trod enc Tryd.prog W b0 sp held n 74 (List.take (Tryd.prog.cellsOf 74) (List.drop 0 cs)) = xs[0]? at this
    rw [cells_v6, List.getElem?_eq_getElem (by omega)] at this
    exact ⟨_, this⟩
  obtain ⟨y0, f0⟩ := f0
  obtain ⟨zp, e0, hzp, hzpl⟩ := v6_of_trod f0
  have f1 : ∃ y, DataW.trod enc Tryd.prog W b0 sp held n 76 ((cs.drop 192).take 97) = some y := by
    have := hf 1 _ rfl
    change DataW.trod enc Tryd.prog W b0 sp held n 76 (List.take (Tryd.prog.cellsOf 76) (List.drop 192 cs)) = xs[1]? at this
    rw [cells_dd, List.getElem?_eq_getElem (by omega)] at this
    exact ⟨_, this⟩
  obtain ⟨y1, f1⟩ := f1
  obtain ⟨zdzk, zdzcr, zdzam, zdzsg, e1, h1, h2, h3, h4⟩ := dd_of_trod f1
  have hc := cut_flat cs [192, 97] 0 (by rw [hl]; rfl)
  rw [List.drop_zero] at e0
  simp only [cutAt, List.drop_zero, Nat.zero_add, Nat.reduceAdd, e0, e1] at hc
  exact ⟨zp, zdzk, zdzcr, zdzam, zdzsg, hc, hzp, hzpl, h1, h2, h3, h4⟩
end
end Go.Proofs.YtpkelkipmldfeaaDoor

/- Lists of structs, a body, a block that came in. -/
namespace Go.Proofs.YtpkelkipmldfeaaDoor
open Go.RowKit Go.Deep Go.WideShapes
set_option linter.unusedVariables false
set_option linter.unusedSimpArgs false
set_option maxRecDepth 100000
section
variable {H : Type} {enc : TypeId × Value → H} {W : World} {b0 : Nat} {held : Bool}
theorem open_list {t e : TypeId} {F : FuncId} {sz by_ : Nat} {Q : List Value → Prop} (hu : Tryd.prog.underlying t = some (.slice e)) (hc : Tryd.prog.cellsOf e = sz) (hsz : 0 < sz) (hby : Tryd.prog.bytesOf e = by_) (h32 : 32 ≤ by_)
    (good : ∀ fuel cs x, DataW.trod enc Tryd.prog W b0 (fun _ => true) held fuel e cs = some x → (∀ n ∈ x.1.weights Tryd.prog e, n ≤ reachBytes) → cs.length = sz ∧ cs.toArray.all (·.oneCell') = true ∧ Q cs ∧ ∃ R, RootOf F W cs R)
    {fuel : Nat} {cs : List Value} {x : DataW H × List MemPlace} (h : DataW.trod enc Tryd.prog W b0 (fun _ => true) held fuel t cs = some x) (hr : ∀ n ∈ x.1.weights Tryd.prog t, n ≤ reachBytes) :
    ∃ ao cap css Rs, cs = [.slice ao css.length cap] ∧ css.length ≤ cap ∧ cap ≤ maxLen ∧ css.length ≤ 4398046511104 ∧ Elems F sz W ao css Rs ∧ ∀ i, i < css.length → Q (css.getD i []) := by
  rcases open_slice hu h with ⟨hcs, _⟩ | ⟨a, len, cap, m, n, D, Pl, rfl, _, hl, hm, hmm, hd, hx⟩
  · exact ⟨none, 0, [], [], hcs, Nat.le_refl _, by decide, by decide, ⟨rfl, fun i hi => absurd hi (Nat.not_lt_zero _), fun i hi => absurd hi (Nat.not_lt_zero _), .inl rfl, fun i hi => absurd hi (Nat.not_lt_zero _)⟩, fun i hi => absurd hi (Nat.not_lt_zero _)⟩
  · have hb := len_of_trod hu hby h hr
    have hb2 : len * 32 ≤ len * by_ := Nat.mul_le_mul_left len h32
    have hlb : len ≤ 4398046511104 := by unfold reachBytes at hb; omega
    have hlm : len ≤ m := by rw [hmm]; split <;> omega
    rw [hc] at hx
    have each : ∀ i, i < len → ∃ (cs : List Value) (R : List Nat), cs.length = sz ∧ cs.toArray.all (·.oneCell') = true ∧ Q cs ∧ RootOf F W cs R ∧ ∀ (j : Nat) v, cs[j]? = some v → W.cell? ((a.add (i * sz)).add j) = some v := by
      intro i hi
      obtain ⟨cs', hc', ht⟩ := hx i (by omega)
      obtain ⟨g1, g2, g3, R, g4⟩ := good n cs' (D i, Pl i) ht (fun q hq => hr q (by rw [hd, DataW.weights, hu]; exact List.mem_cons_of_mem _ (List.mem_append.2 (.inl (weightsAll_mem (d := D i) (List.mem_map.2 ⟨i, List.mem_range.2 hi, rfl⟩) hq)))))
      refine ⟨cs', R, g1, g2, g3, g4, fun j v hv => ?_⟩
      have hj : j < sz := by rw [← g1]; exact (List.getElem?_eq_some_iff.1 hv).1
      rw [(World.cells?_some hc').2.2 j hj]
      exact hv
    have hf : ∃ f : Nat → List Value × List Nat, ∀ i, i < len → (f i).1.length = sz ∧ (f i).1.toArray.all (·.oneCell') = true ∧ Q (f i).1 ∧ RootOf F W (f i).1 (f i).2 ∧ ∀ (j : Nat) v, (f i).1[j]? = some v → W.cell? ((a.add (i * sz)).add j) = some v :=
      ⟨fun i => if h : i < len then (Classical.choose (each i h), Classical.choose (Classical.choose_spec (each i h))) else ([], []), fun i hi => by simp only [hi, dif_pos]; exact Classical.choose_spec (Classical.choose_spec (each i hi))⟩
    obtain ⟨f, hf⟩ := hf
    have hlen : ((List.range len).map fun i => (f i).1).length = len := by simp
    have gd : ∀ i, i < len → ((List.range len).map fun i => (f i).1).getD i [] = (f i).1 := fun i hi => by simp [hi]
    have gr : ∀ i, i < len → ((List.range len).map fun i => (f i).2).getD i [] = (f i).2 := fun i hi => by simp [hi]
    refine ⟨some a, cap, (List.range len).map (fun i => (f i).1), (List.range len).map (fun i => (f i).2), by rw [hlen], by rw [hlen]; exact hl, hm, by rw [hlen]; exact hlb, ⟨by simp, fun i hi => ?_, fun i hi => ?_, ?_, fun i hi => ?_⟩, fun i hi => ?_⟩
    · rw [hlen] at hi; rw [gd i hi]; exact (hf i hi).1
    · rw [hlen] at hi; rw [gd i hi]; exact (hf i hi).2.1
    · by_cases h0 : len = 0
      · exact .inl (by rw [hlen]; exact h0)
      · obtain ⟨b, off, spot⟩ := a
        obtain rfl : spot = none := by
          have h1 := (hf 0 (by omega)).1
          have h2 := (hf 0 (by omega)).2.2.2.2 0 ((f 0).1[0]'(by omega)) (List.getElem?_eq_getElem (by omega))
          simpa [Addr.add] using World.cell?_spot h2
        refine .inr ⟨b, off, rfl, fun i hi => ?_⟩
        rw [hlen] at hi
        rw [gd i hi]
        intro j v hv
        have h2 := (hf i hi).2.2.2.2 j v hv
        rw [Addr.add_lit, Addr.add_lit] at h2
        exact h2
    · rw [hlen] at hi; rw [gd i hi, gr i hi]; exact (hf i hi).2.2.2.1
    · rw [hlen] at hi; rw [gd i hi]; exact (hf i hi).2.2.1
theorem hds_of {F : FuncId} {sz k : Nat} {ao : Option Addr} {css : List (List Value)} {Rs : List (List Nat)} (h : Elems F sz W ao css Rs) (hq : ∀ i, i < css.length → ∃ o m c, (css.getD i [])[k]? = some (Value.slice o m c)) {w : World} (hb : Below W.heap.size W w) : Hds w ao css.length sz k := by
  rcases h.mem with e | ⟨b, off, e, hm⟩
  · exact .inl e
  · refine .inr ⟨b, off, e, fun i hi => ?_⟩
    obtain ⟨o, m, c, hh⟩ := hq i hi
    exact ⟨o, m, c, cell_keep hb (hm i hi k _ hh)⟩
set_option maxHeartbeats 1000000 in
theorem good_ps (hT : Tabs W) (fuel : Nat) (cs : List Value) (x : DataW H × List MemPlace) (h : DataW.trod enc Tryd.prog W b0 (fun _ => true) held fuel 67 cs = some x) (hr : ∀ n ∈ x.1.weights Tryd.prog 67, n ≤ reachBytes) : cs.length = 260 ∧ cs.toArray.all (·.oneCell') = true ∧ (True) ∧ ∃ R, RootOf 17 W cs R := by
  obtain ⟨zazhzs, zazhzp, zazhzpa, zazhzst, zazhzbo, zazsg, zzzhzs, zzzhzp, zzzhzpa, zzzhzst, zzzhzbo, zzzsg, rfl, hzazhzs, hzazhzp, hzazhzpa, hzazhzst, hzazhzbo, hzazsg, hzzzhzs, hzzzhzp, hzzzhzpa, hzzzhzst, hzzzhzbo, hzzzsg⟩ := ps_of_trod h
  exact ⟨psC_length zazhzs zazhzp zazhzpa zazhzst zazhzbo zazsg zzzhzs zzzhzp zzzhzpa zzzhzst zzzhzbo zzzsg hzazhzpa.len hzazhzst.len hzazhzbo.len hzazsg.len hzzzhzpa.len hzzzhzst.len hzzzhzbo.len hzzzsg.len, by simp [psC, psP, shC, shP, hdC, hdP, cellsB, Value.oneCell'], trivial, psR zazhzs zazhzp zazhzpa zazhzst zazhzbo zazsg zzzhzs zzzhzp zzzhzpa zzzhzst zzzhzbo zzzsg, psR_rt zazhzs zazhzp zazhzpa zazhzst zazhzbo zazsg zzzhzs zzzhzp zzzhzpa zzzhzst zzzhzbo zzzsg hzazhzpa hzazhzst hzazhzbo hzazsg hzzzhzpa hzzzhzst hzzzhzbo hzzzsg, fun w' hb => psR_any zazhzs zazhzp zazhzpa zazhzst zazhzbo zazsg zzzhzs zzzhzp zzzhzpa zzzhzst zzzhzbo zzzsg hzazhzs hzazhzp hzazhzpa hzazhzst hzazhzbo hzazsg hzzzhzs hzzzhzp hzzzhzpa hzzzhzst hzzzhzbo hzzzsg w' (hT.keep hb)⟩
set_option maxHeartbeats 1000000 in
theorem good_as (hT : Tabs W) (fuel : Nat) (cs : List Value) (x : DataW H × List MemPlace) (h : DataW.trod enc Tryd.prog W b0 (fun _ => true) held fuel 57 cs = some x) (hr : ∀ n ∈ x.1.weights Tryd.prog 57, n ≤ reachBytes) : cs.length = 266 ∧ cs.toArray.all (·.oneCell') = true ∧ ((∃ o m c, cs[0]? = some (Value.slice o m c)) ∧ ∃ o m c, cs[133]? = some (Value.slice o m c)) ∧ ∃ R, RootOf 19 W cs R := by
  obtain ⟨zazno, zaznc, zaznl, zazdzs, zazdzi, zazdzb, zazdzcze, zazdzczr, zazdztze, zazdztzr, zazsg, zzzno, zzznc, zzznl, zzzdzs, zzzdzi, zzzdzb, zzzdzcze, zzzdzczr, zzzdztze, zzzdztzr, zzzsg, rfl, hzazdzs, hzazdzi, hzazdzb, hzazdzcze, hzazdzczr, hzazdztze, hzazdztzr, hzazsg, hzzzdzs, hzzzdzi, hzzzdzb, hzzzdzcze, hzzzdzczr, hzzzdztze, hzzzdztzr, hzzzsg, hzazn, hzzzn, hzaznn, hzzznn⟩ := as_of_trod h hr
  exact ⟨asC_length zazno zaznc zaznl zazdzs zazdzi zazdzb zazdzcze zazdzczr zazdztze zazdztzr zazsg zzzno zzznc zzznl zzzdzs zzzdzi zzzdzb zzzdzcze zzzdzczr zzzdztze zzzdztzr zzzsg hzazdzb.len hzazdzczr.len hzazdztzr.len hzazsg.len hzzzdzb.len hzzzdzczr.len hzzzdztzr.len hzzzsg.len, by simp [asC, asP, ixC, ixP, vtC, vtP, cpC, cpP, cellsB, Value.oneCell'], ⟨⟨_, _, _, rfl⟩, _, _, _, seg (ps := asP zazno zaznc zaznl zazdzs zazdzi zazdzb zazdzcze zazdzczr zazdztze zazdztzr zazsg zzzno zzznc zzznl zzzdzs zzzdzi zzzdzb zzzdzcze zzzdzczr zzzdztze zzzdztzr zzzsg) (i := 1) (off := 133) rfl (by simp [asP, ixC_length zazno zaznc zaznl zazdzs zazdzi zazdzb zazdzcze zazdzczr zazdztze zazdztzr zazsg hzazdzb.len hzazdzczr.len hzazdztzr.len hzazsg.len]) 0 _ rfl⟩, asR zazno zaznc zaznl zazdzs zazdzi zazdzb zazdzcze zazdzczr zazdztze zazdztzr zazsg zzzno zzznc zzznl zzzdzs zzzdzi zzzdzb zzzdzcze zzzdzczr zzzdztze zzzdztzr zzzsg, asR_rt zazno zaznc zaznl zazdzs zazdzi zazdzb zazdzcze zazdzczr zazdztze zazdztzr zazsg zzzno zzznc zzznl zzzdzs zzzdzi zzzdzb zzzdzcze zzzdzczr zzzdztze zzzdztzr zzzsg hzazdzb hzazdzczr hzazdztzr hzazsg hzzzdzb hzzzdzczr hzzzdztzr hzzzsg, fun w' hb => asR_any zazno zaznc zaznl zazdzs zazdzi zazdzb zazdzcze zazdzczr zazdztze zazdztzr zazsg zzzno zzznc zzznl zzzdzs zzzdzi zzzdzb zzzdzcze zzzdzczr zzzdztze zzzdztzr zzzsg hzazdzs hzazdzi hzazdzb hzazdzcze hzazdzczr hzazdztze hzazdztzr hzazsg hzzzdzs hzzzdzi hzzzdzb hzzzdzcze hzzzdzczr hzzzdztze hzzzdztzr hzzzsg w' (hT.keep hb) (hzazn.keep hb) hzaznn (hzzzn.keep hb) hzzznn⟩
set_option maxHeartbeats 1000000 in
theorem good_at (hT : Tabs W) (fuel : Nat) (cs : List Value) (x : DataW H × List MemPlace) (h : DataW.trod enc Tryd.prog W b0 (fun _ => true) held fuel 60 cs = some x) (hr : ∀ n ∈ x.1.weights Tryd.prog 60, n ≤ reachBytes) : cs.length = 133 ∧ cs.toArray.all (·.oneCell') = true ∧ (∃ o m c, cs[0]? = some (Value.slice o m c)) ∧ ∃ R, RootOf 21 W cs R := by
  obtain ⟨zbo, zbc, zbl, zdzs, zdzi, zdzb, zdzcze, zdzczr, zdztze, zdztzr, zsg, rfl, hzdzs, hzdzi, hzdzb, hzdzcze, hzdzczr, hzdztze, hzdztzr, hzsg, hzb, hzbn⟩ := at_of_trod h hr
  exact ⟨atC_length zbo zbc zbl zdzs zdzi zdzb zdzcze zdzczr zdztze zdztzr zsg hzdzb.len hzdzczr.len hzdztzr.len hzsg.len, by simp [atC, atP, vtC, vtP, cpC, cpP, cellsB, Value.oneCell'], ⟨_, _, _, rfl⟩, atR zbo zbc zbl zdzs zdzi zdzb zdzcze zdzczr zdztze zdztzr zsg, atR_rt zbo zbc zbl zdzs zdzi zdzb zdzcze zdzczr zdztze zdztzr zsg hzdzb hzdzczr hzdztzr hzsg, fun w' hb => atR_any zbo zbc zbl zdzs zdzi zdzb zdzcze zdzczr zdztze zdztzr zsg hzdzs hzdzi hzdzb hzdzcze hzdzczr hzdztze hzdztzr hzsg w' (hT.keep hb) (hzb.keep hb) hzbn⟩
set_option maxHeartbeats 1000000 in
theorem good_sx (hT : Tabs W) (fuel : Nat) (cs : List Value) (x : DataW H × List MemPlace) (h : DataW.trod enc Tryd.prog W b0 (fun _ => true) held fuel 84 cs = some x) (hr : ∀ n ∈ x.1.weights Tryd.prog 84, n ≤ reachBytes) : cs.length = 34 ∧ cs.toArray.all (·.oneCell') = true ∧ (True) ∧ ∃ R, RootOf 25 W cs R := by
  obtain ⟨zxze, zxzi, zsg, rfl, hzxze, hzxzi, hzsg⟩ := sx_of_trod h
  exact ⟨sxC_length zxze zxzi zsg hzsg.len, by simp [sxC, sxP, exC, exP, cellsB, Value.oneCell'], trivial, sxR zxze zxzi zsg, sxR_rt zxze zxzi zsg hzsg, fun w' hb => sxR_any zxze zxzi zsg hzxze hzxzi hzsg w' (hT.keep hb)⟩
set_option maxHeartbeats 1000000 in
theorem good_dp (hT : Tabs W) (fuel : Nat) (cs : List Value) (x : DataW H × List MemPlace) (h : DataW.trod enc Tryd.prog W b0 (fun _ => true) held fuel 78 cs = some x) (hr : ∀ n ∈ x.1.weights Tryd.prog 78, n ≤ reachBytes) : cs.length = 289 ∧ cs.toArray.all (·.oneCell') = true ∧ True ∧ ∃ R, RootOf 23 W cs R := by
  obtain ⟨zp, zdzk, zdzcr, zdzam, zdzsg, rfl, hzp, hzpl, hzdzk, hzdzcr, hzdzam, hzdzsg⟩ := dp_of_trod h
  exact ⟨dpC_length zp zdzk zdzcr zdzam zdzsg hzp hzpl hzdzk.len hzdzcr.len hzdzsg.len, by simp [dpC, dpP, ddC, ddP, cellsB, cellsOf, Value.oneCell'], trivial, dpR zp zdzk zdzcr zdzam zdzsg, dpR_rt zp zdzk zdzcr zdzam zdzsg hzp hzdzk hzdzcr hzdzsg, fun w' hb => dpR_any zp zdzk zdzcr zdzam zdzsg hzp hzpl hzdzk hzdzcr hzdzam hzdzsg w' (hT.keep hb)⟩
theorem cells_bd : Tryd.prog.cellsOf 33 = 102 := by kernel_rfl
theorem cells_bk : Tryd.prog.cellsOf 35 = 168 := by kernel_rfl
theorem cellsL_ps : Tryd.prog.cellsOf 27 = 1 := by kernel_rfl
theorem cellsL_as : Tryd.prog.cellsOf 28 = 1 := by kernel_rfl
theorem cellsL_at : Tryd.prog.cellsOf 29 = 1 := by kernel_rfl
theorem cellsL_dp : Tryd.prog.cellsOf 30 = 1 := by kernel_rfl
theorem cellsL_sx : Tryd.prog.cellsOf 31 = 1 := by kernel_rfl
set_option maxHeartbeats 2000000 in
/-- A body that came in: what Body answers of it, and that Big answers. -/
theorem bd_of_trod (hT : Tabs W) {fuel : Nat} {cs : List Value} {x : DataW H × List MemPlace} (h : DataW.trod enc Tryd.prog W b0 (fun _ => true) held fuel 33 cs = some x) (hr : ∀ n ∈ x.1.weights Tryd.prog 33, n ≤ reachBytes) :
    cs.length = 102 ∧ (∃ R, RootOf 7 W cs R) ∧ ∀ w', Below W.heap.size W w' → Calls Tryd.prog 5 #[.agg cs.toArray] w' fun e w'' => (∃ b, e = .returned (.bool b)) ∧ Below w'.heap.size w' w'' := by
  obtain ⟨xs, n, _, rfl, hl, hlen, hf⟩ := DataW.trod_struct Tryd.underlying33 h
  rw [cells_bd] at hl
  have hx : xs.length = 8 := hlen
  have f0 : ∃ y, xs[0]? = some y ∧ DataW.trod enc Tryd.prog W b0 (fun _ => true) held n 24 ((cs.drop 0).take 32) = some y := by
    have := hf 0 _ rfl
    change DataW.trod enc Tryd.prog W b0 (fun _ => true) held n 24 (List.take (Tryd.prog.cellsOf 24) (List.drop 0 cs)) = xs[0]? at this
    rw [cellsRt, List.getElem?_eq_getElem (by omega)] at this
    exact ⟨_, List.getElem?_eq_getElem (by omega), this⟩
  obtain ⟨y0, g0, f0⟩ := f0
  obtain ⟨ra, e0, hra⟩ := root_of_trod f0
  have f1 : ∃ y, xs[1]? = some y ∧ DataW.trod enc Tryd.prog W b0 (fun _ => true) held n 26 ((cs.drop 32).take 33) = some y := by
    have := hf 1 _ rfl
    change DataW.trod enc Tryd.prog W b0 (fun _ => true) held n 26 (List.take (Tryd.prog.cellsOf 26) (List.drop 32 cs)) = xs[1]? at this
    rw [cells_et, List.getElem?_eq_getElem (by omega)] at this
    exact ⟨_, List.getElem?_eq_getElem (by omega), this⟩
  obtain ⟨y1, g1, f1⟩ := f1
  obtain ⟨ed, ec, e1, hed, hec⟩ := et_of_trod f1
  have f2 : ∃ y, xs[2]? = some y ∧ DataW.trod enc Tryd.prog W b0 (fun _ => true) held n 24 ((cs.drop 65).take 32) = some y := by
    have := hf 2 _ rfl
    change DataW.trod enc Tryd.prog W b0 (fun _ => true) held n 24 (List.take (Tryd.prog.cellsOf 24) (List.drop 65 cs)) = xs[2]? at this
    rw [cellsRt, List.getElem?_eq_getElem (by omega)] at this
    exact ⟨_, List.getElem?_eq_getElem (by omega), this⟩
  obtain ⟨y2, g2, f2⟩ := f2
  obtain ⟨gr, e2, hgr⟩ := root_of_trod f2
  have f3 : ∃ y, xs[3]? = some y ∧ DataW.trod enc Tryd.prog W b0 (fun _ => true) held n 27 ((cs.drop 97).take 1) = some y := by
    have := hf 3 _ rfl
    change DataW.trod enc Tryd.prog W b0 (fun _ => true) held n 27 (List.take (Tryd.prog.cellsOf 27) (List.drop 97 cs)) = xs[3]? at this
    rw [cellsL_ps, List.getElem?_eq_getElem (by omega)] at this
    exact ⟨_, List.getElem?_eq_getElem (by omega), this⟩
  obtain ⟨y3, g3, f3⟩ := f3
  obtain ⟨a1, c1, css1, Rs1, e3, p1, m1, n1, E1, Q1⟩ := open_list Tryd.underlying27 cells_ps (by decide) rfl (by rw [show Tryd.prog.bytesOf 67 = 288 by kernel_rfl]; decide) (good_ps hT) f3 (fun n hn => hr n (weights_part Tryd.underlying33 3 rfl g3 hn))
  have f4 : ∃ y, xs[4]? = some y ∧ DataW.trod enc Tryd.prog W b0 (fun _ => true) held n 28 ((cs.drop 98).take 1) = some y := by
    have := hf 4 _ rfl
    change DataW.trod enc Tryd.prog W b0 (fun _ => true) held n 28 (List.take (Tryd.prog.cellsOf 28) (List.drop 98 cs)) = xs[4]? at this
    rw [cellsL_as, List.getElem?_eq_getElem (by omega)] at this
    exact ⟨_, List.getElem?_eq_getElem (by omega), this⟩
  obtain ⟨y4, g4, f4⟩ := f4
  obtain ⟨a2, c2, css2, Rs2, e4, p2, m2, n2, E2, Q2⟩ := open_list Tryd.underlying28 cells_as (by decide) rfl (by rw [show Tryd.prog.bytesOf 57 = 368 by kernel_rfl]; decide) (good_as hT) f4 (fun n hn => hr n (weights_part Tryd.underlying33 4 rfl g4 hn))
  have f5 : ∃ y, xs[5]? = some y ∧ DataW.trod enc Tryd.prog W b0 (fun _ => true) held n 29 ((cs.drop 99).take 1) = some y := by
    have := hf 5 _ rfl
    change DataW.trod enc Tryd.prog W b0 (fun _ => true) held n 29 (List.take (Tryd.prog.cellsOf 29) (List.drop 99 cs)) = xs[5]? at this
    rw [cellsL_at, List.getElem?_eq_getElem (by omega)] at this
    exact ⟨_, List.getElem?_eq_getElem (by omega), this⟩
  obtain ⟨y5, g5, f5⟩ := f5
  obtain ⟨a3, c3, css3, Rs3, e5, p3, m3, n3, E3, Q3⟩ := open_list Tryd.underlying29 cells_at (by decide) rfl (by rw [show Tryd.prog.bytesOf 60 = 184 by kernel_rfl]; decide) (good_at hT) f5 (fun n hn => hr n (weights_part Tryd.underlying33 5 rfl g5 hn))
  have f6 : ∃ y, xs[6]? = some y ∧ DataW.trod enc Tryd.prog W b0 (fun _ => true) held n 30 ((cs.drop 100).take 1) = some y := by
    have := hf 6 _ rfl
    change DataW.trod enc Tryd.prog W b0 (fun _ => true) held n 30 (List.take (Tryd.prog.cellsOf 30) (List.drop 100 cs)) = xs[6]? at this
    rw [cellsL_dp, List.getElem?_eq_getElem (by omega)] at this
    exact ⟨_, List.getElem?_eq_getElem (by omega), this⟩
  obtain ⟨y6, g6, f6⟩ := f6
  obtain ⟨a4, c4, css4, Rs4, e6, p4, m4, n4, E4, Q4⟩ := open_list Tryd.underlying30 cells_dp (by decide) rfl (by rw [show Tryd.prog.bytesOf 78 = 296 by kernel_rfl]; decide) (good_dp hT) f6 (fun n hn => hr n (weights_part Tryd.underlying33 6 rfl g6 hn))
  have f7 : ∃ y, xs[7]? = some y ∧ DataW.trod enc Tryd.prog W b0 (fun _ => true) held n 31 ((cs.drop 101).take 1) = some y := by
    have := hf 7 _ rfl
    change DataW.trod enc Tryd.prog W b0 (fun _ => true) held n 31 (List.take (Tryd.prog.cellsOf 31) (List.drop 101 cs)) = xs[7]? at this
    rw [cellsL_sx, List.getElem?_eq_getElem (by omega)] at this
    exact ⟨_, List.getElem?_eq_getElem (by omega), this⟩
  obtain ⟨y7, g7, f7⟩ := f7
  obtain ⟨a5, c5, css5, Rs5, e7, p5, m5, n5, E5, Q5⟩ := open_list Tryd.underlying31 cells_sx (by decide) rfl (by rw [show Tryd.prog.bytesOf 84 = 48 by kernel_rfl]; decide) (good_sx hT) f7 (fun n hn => hr n (weights_part Tryd.underlying33 7 rfl g7 hn))
  have hc := cut_flat cs [32, 33, 32, 1, 1, 1, 1, 1] 0 (by rw [hl]; rfl)
  rw [List.drop_zero] at e0
  simp only [cutAt, List.drop_zero, Nat.zero_add, Nat.reduceAdd, e0, e1, e2, e3, e4, e5, e6, e7] at hc
  have hc' : cs = bdC ra ed ec gr (.slice a1 css1.length c1) (.slice a2 css2.length c2) (.slice a3 css3.length c3) (.slice a4 css4.length c4) (.slice a5 css5.length c5) := hc
  refine ⟨hl, ?_, ?_⟩
  · rw [hc']
    exact ⟨bdR ra ed ec gr Rs1 Rs2 Rs3 Rs4 Rs5, bdR_rt ra ed ec gr Rs1 Rs2 Rs3 Rs4 Rs5 hra hed hgr, fun w' hb => bdR_any ra ed ec gr (.slice a1 css1.length c1) (.slice a2 css2.length c2) (.slice a3 css3.length c3) (.slice a4 css4.length c4) (.slice a5 css5.length c5) Rs1 Rs2 Rs3 Rs4 Rs5 hra hed hec hgr w' (hT.keep hb) ⟨a1, c1, css1, rfl, p1, m1, n1, E1.keep hb⟩ ⟨a2, c2, css2, rfl, p2, m2, n2, E2.keep hb⟩ ⟨a3, c3, css3, rfl, p3, m3, n3, E3.keep hb⟩ ⟨a4, c4, css4, rfl, p4, m4, n4, E4.keep hb⟩ ⟨a5, c5, css5, rfl, p5, m5, n5, E5.keep hb⟩⟩
  · rw [hc']
    exact fun w' hb => big_any ra ed ec gr a1 a2 a3 a4 a5 css1.length css2.length css3.length css4.length css5.length c1 c2 c3 c4 c5 hra hed hgr w' n1 n2 n3 n4 n5 (hds_of E2 (fun i hi => (Q2 i hi).1) hb) (hds_of E2 (fun i hi => (Q2 i hi).2) hb) (hds_of E3 Q3 hb)
set_option maxHeartbeats 2000000 in
theorem bk_of_trod (hT : Tabs W) {fuel : Nat} {cs : List Value} {x : DataW H × List MemPlace} (h : DataW.trod enc Tryd.prog W b0 (fun _ => true) held fuel 35 cs = some x) (hr : ∀ n ∈ x.1.weights Tryd.prog 35, n ≤ reachBytes) :
    ∃ (sl pr0 : Nat) (pa st : List Nat) (bc : List Value) (R : List Nat), cs = bkC sl pr0 pa st bc ∧ sl < 18446744073709551616 ∧ pr0 < 18446744073709551616 ∧ Rt pa ∧ Rt st ∧ bc.length = 102 ∧ RootOf 7 W bc R ∧ ∀ w', Below W.heap.size W w' → Calls Tryd.prog 5 #[.agg bc.toArray] w' fun e w'' => (∃ b, e = .returned (.bool b)) ∧ Below w'.heap.size w' w'' := by
  obtain ⟨xs, n, _, rfl, hl, hlen, hf⟩ := DataW.trod_struct Tryd.underlying35 h
  rw [cells_bk] at hl
  have hx : xs.length = 5 := hlen
  have f0 : ∃ y, xs[0]? = some y ∧ DataW.trod enc Tryd.prog W b0 (fun _ => true) held n 22 ((cs.drop 0).take 1) = some y := by
    have := hf 0 _ rfl
    change DataW.trod enc Tryd.prog W b0 (fun _ => true) held n 22 (List.take (Tryd.prog.cellsOf 22) (List.drop 0 cs)) = xs[0]? at this
    rw [cellsU64, List.getElem?_eq_getElem (by omega)] at this
    exact ⟨_, List.getElem?_eq_getElem (by omega), this⟩
  obtain ⟨y0, g0, f0⟩ := f0
  obtain ⟨sl, e0, hsl⟩ := num_of_trod f0
  have f1 : ∃ y, xs[1]? = some y ∧ DataW.trod enc Tryd.prog W b0 (fun _ => true) held n 22 ((cs.drop 1).take 1) = some y := by
    have := hf 1 _ rfl
    change DataW.trod enc Tryd.prog W b0 (fun _ => true) held n 22 (List.take (Tryd.prog.cellsOf 22) (List.drop 1 cs)) = xs[1]? at this
    rw [cellsU64, List.getElem?_eq_getElem (by omega)] at this
    exact ⟨_, List.getElem?_eq_getElem (by omega), this⟩
  obtain ⟨y1, g1, f1⟩ := f1
  obtain ⟨pr0, e1, hpr⟩ := num_of_trod f1
  have f2 : ∃ y, xs[2]? = some y ∧ DataW.trod enc Tryd.prog W b0 (fun _ => true) held n 24 ((cs.drop 2).take 32) = some y := by
    have := hf 2 _ rfl
    change DataW.trod enc Tryd.prog W b0 (fun _ => true) held n 24 (List.take (Tryd.prog.cellsOf 24) (List.drop 2 cs)) = xs[2]? at this
    rw [cellsRt, List.getElem?_eq_getElem (by omega)] at this
    exact ⟨_, List.getElem?_eq_getElem (by omega), this⟩
  obtain ⟨y2, g2, f2⟩ := f2
  obtain ⟨pa, e2, hpa⟩ := root_of_trod f2
  have f3 : ∃ y, xs[3]? = some y ∧ DataW.trod enc Tryd.prog W b0 (fun _ => true) held n 24 ((cs.drop 34).take 32) = some y := by
    have := hf 3 _ rfl
    change DataW.trod enc Tryd.prog W b0 (fun _ => true) held n 24 (List.take (Tryd.prog.cellsOf 24) (List.drop 34 cs)) = xs[3]? at this
    rw [cellsRt, List.getElem?_eq_getElem (by omega)] at this
    exact ⟨_, List.getElem?_eq_getElem (by omega), this⟩
  obtain ⟨y3, g3, f3⟩ := f3
  obtain ⟨st, e3, hst⟩ := root_of_trod f3
  have f4 : ∃ y, xs[4]? = some y ∧ DataW.trod enc Tryd.prog W b0 (fun _ => true) held n 33 ((cs.drop 66).take 102) = some y := by
    have := hf 4 _ rfl
    change DataW.trod enc Tryd.prog W b0 (fun _ => true) held n 33 (List.take (Tryd.prog.cellsOf 33) (List.drop 66 cs)) = xs[4]? at this
    rw [cells_bd, List.getElem?_eq_getElem (by omega)] at this
    exact ⟨_, List.getElem?_eq_getElem (by omega), this⟩
  obtain ⟨y4, g4, f4⟩ := f4
  obtain ⟨hbl, ⟨R, hR⟩, hB⟩ := bd_of_trod hT f4 (fun n hn => hr n (weights_part Tryd.underlying35 4 rfl g4 hn))
  obtain ⟨bc, e4⟩ : ∃ bc, (cs.drop 66).take 102 = bc := ⟨_, rfl⟩
  rw [e4] at hbl hR hB
  have hc := cut_flat cs [1, 1, 32, 32, 102] 0 (by rw [hl]; rfl)
  rw [List.drop_zero] at e0
  simp only [cutAt, List.drop_zero, Nat.zero_add, Nat.reduceAdd, e0, e1, e2, e3, e4] at hc
  exact ⟨sl, pr0, pa, st, bc, R, hc, hsl, hpr, hpa, hst, hbl, hR, hB⟩
theorem open_bk {base : Nat} {v : Value} {d : DataW H} {p : List MemPlace} (hT : Tabs W) (hv : Value.okWide Tryd.prog W .any base 35 v) (h : DataW.Trod enc Tryd.prog W b0 (fun _ => true) held 35 v d p) (hr : ∀ n ∈ d.weights Tryd.prog 35, n ≤ reachBytes) :
    ∃ (sl pr0 : Nat) (pa st : List Nat) (bc : List Value) (R : List Nat), v = .agg (bkC sl pr0 pa st bc).toArray ∧ sl < 18446744073709551616 ∧ pr0 < 18446744073709551616 ∧ Rt pa ∧ Rt st ∧ bc.length = 102 ∧ RootOf 7 W bc R ∧ ∀ w', Below W.heap.size W w' → Calls Tryd.prog 5 #[.agg bc.toArray] w' fun e w'' => (∃ b, e = .returned (.bool b)) ∧ Below w'.heap.size w' w'' := by
  obtain ⟨cs, rfl, _⟩ := okWide_struct Tryd.underlying35 hv
  obtain ⟨fuel, hf⟩ := h
  obtain ⟨sl, pr0, pa, st, bc, R, e, hsl, hpr, hpa, hst, hbl, hR, hB⟩ := bk_of_trod hT hf hr
  exact ⟨sl, pr0, pa, st, bc, R, by rw [← Array.toList_inj.1 (show cs.toList = (bkC sl pr0 pa st bc).toArray.toList from e)], hsl, hpr, hpa, hst, hbl, hR, hB⟩
end
end Go.Proofs.YtpkelkipmldfeaaDoor

