/- Own texts of the proof, joined: LwIndexed Laid OpenIx. -/
import Derived.Test.YthodofnebonpfaaDoorH5
import Derived.LaidMore
import Derived.MakeChecks
import Derived.Lib.LaidTab
import Derived.Lib.LaidU8
import Derived.FnData
import Derived.ProofKit
import Derived.OpenShut
import Derived.ShutString
import Derived.ChangeOld
import Derived.Deep.Slices
import Derived.SevenTiedAt
import Derived.Stop.Joined
import Derived.Deep.Grids
import Derived.ChangeSlices
/- RootIndexed answers true for every value. -/
namespace Go.Proofs.YthodofnebonpfaaDoor
open Go.RowKit Go.Shelf
set_option linter.unusedVariables false
set_option linter.unusedSimpArgs false
set_option maxRecDepth 100000

theorem listR_nums (ns : List Nat) : listR 32 ((ns.map fun n => Vt.mk n (zeros 32) [] []).map Vt.num) = numR ns := by
  have e : (ns.map fun n => Vt.mk n (zeros 32) [] []).map Vt.num = ns := by rw [List.map_map]; exact List.map_id'' (fun _ => rfl) ns
  rw [e]
  unfold listR numR
  rfl
theorem ixD_root (zno : Option Addr) (znc : Nat) (znl : List Nat) (zdzs : Nat) (zdzi : Nat) (zdzb : List Nat) (zdzcze : Nat) (zdzczr : List Nat) (zdztze : Nat) (zdztzr : List Nat) (zsg : List Nat) : rootV ixD (ixV zno znc znl zdzs zdzi zdzb zdzcze zdzczr zdztze zdztzr zsg) = ixR zno znc znl zdzs zdzi zdzb zdzcze zdzczr zdztze zdztzr zsg := by
  simp only [cpD, vtD, ixD, cpV, vtV, ixV, dBox, dNum, dRoot, dTruth, dNums, numsV, cpR, vtR, ixR, rootV, rootsV, listR_nums]
  simp
theorem ixD_ok (zno : Option Addr) (znc : Nat) (znl : List Nat) (zdzs : Nat) (zdzi : Nat) (zdzb : List Nat) (zdzcze : Nat) (zdzczr : List Nat) (zdztze : Nat) (zdztzr : List Nat) (zsg : List Nat) (hznn : znl.length ≤ 500) : okR ixD (ixV zno znc znl zdzs zdzi zdzb zdzcze zdzczr zdztze zdztzr zsg) := by
  simp [cpD, vtD, ixD, cpV, vtV, ixV, dBox, dNum, dRoot, dTruth, dNums, numsV, okR, okRs]
  omega
set_option maxHeartbeats 2000000 in
theorem ix_walk (zno : Option Addr) (znc : Nat) (znl : List Nat) (zdzs : Nat) (zdzi : Nat) (zdzb : List Nat) (zdzcze : Nat) (zdzczr : List Nat) (zdztze : Nat) (zdztzr : List Nat) (zsg : List Nat) (hzdzs : zdzs < 18446744073709551616) (hzdzi : zdzi < 18446744073709551616) (hzdzb : Rt zdzb) (hzdzcze : zdzcze < 18446744073709551616) (hzdzczr : Rt zdzczr) (hzdztze : zdztze < 18446744073709551616) (hzdztzr : Rt zdztzr) (hzsg : Rt zsg) (w : World) (hT : Tabs w) (hzn : IsN w (.slice zno znl.length znc) znl) : Calls Tryd.prog 5 #[.agg (ixC zno znc znl zdzs zdzi zdzb zdzcze zdzczr zdztze zdztzr zsg).toArray] w fun e w' => e = .returned (.bool true) ∧ Below w.heap.size w w' := by
  have hR1 := ixR_rt zno znc znl zdzs zdzi zdzb zdzcze zdzczr zdztze zdztzr zsg hzdzb hzdzczr hzdztzr hzsg
  have HE := hid (ixD_root zno znc znl zdzs zdzi zdzb zdzcze zdzczr zdztze zdztzr zsg)
  obtain ⟨R1, HR⟩ : ∃ R, Same (ixR zno znc znl zdzs zdzi zdzb zdzcze zdzczr zdztze zdztzr zsg) R := ⟨_, ⟨rfl⟩⟩
  rw [HR.out] at hR1 HE
  have HE2 : Same (rootV ixD (ixV zno znc znl zdzs zdzi zdzb zdzcze zdzczr zdztze zdztzr zsg)) R1 := ⟨HE.out⟩
  clear HE
  have HE := HE2
  clear HE2
  go_enter Tryd.func5, Tryd.ntmps5
  go_wp2_with ((with_reducible refine at_list' ?_); first
    | (refine wpList_box_c rfl 1 rfl (.tmp 0) rfl (ixC zno znc znl zdzs zdzi zdzb zdzcze zdzczr zdztze zdztzr zsg) rfl ?_; intro w1 H1 B1 S1))
  refine (awake_any w1 (hT.keep B1)).mono ?_
  rintro e w2 ⟨rfl, B2⟩
  have HX := hid (H1.keep B2)
  have HB := hid (B1.trans (B2.mono B1.size))
  have HT := hid (hT.keep HB.out)
  clear H1 B1 S1 B2
  have HC0 := hid (HX.out.cell (j := 0) (v := .slice zno znl.length znc) (seg (ps := ixP zno znc znl zdzs zdzi zdzb zdzcze zdzczr zdztze zdztzr zsg) (i := 0) (off := 0) rfl rfl 0 _ rfl))
  by_cases h500 : (500 : Int) < ((znl.length : Nat) : Int)
  · go_wp2_with ((with_reducible refine at_list' ?_); first | (refine wpList_run rfl _ (run_cell 47 (.tmp 5) rfl ⟨w.heap.size, 0, none⟩ rfl _ HC0.out _ Tryd.underlying47 rfl) ?_))
    go_ret
    exact ⟨rfl, HB.out⟩
  have hznn : znl.length ≤ 500 := by omega
  have HO := hid (ixD_ok zno znc znl zdzs zdzi zdzb zdzcze zdzczr zdztze zdztzr zsg hznn)
  go_wp2_with ((with_reducible refine at_list' ?_); first | (refine wpList_run rfl _ (run_cell 47 (.tmp 5) rfl ⟨w.heap.size, 0, none⟩ rfl _ HC0.out _ Tryd.underlying47 rfl) ?_))
  try simp only [Act.put, List.setIfInBounds_toArray, List.set_cons_succ, List.set_cons_zero]
  refine wp_region_flow 7 7 (fun i v wq => match i with
    | 0 => v = .agg (ixC zno znc znl zdzs zdzi zdzb zdzcze zdzczr zdztze zdztzr zsg).toArray
    | 1 => v = .agg (nums .u8 R1)
    | 2 => ∃ p, v = .pointer (some ⟨p, 0, none⟩) ∧ DAt wq ixD p
    | 3 => v = .agg (ixC zno znc znl zdzs zdzi zdzb zdzcze zdzczr zdztze zdztzr zsg).toArray
    | 4 => IsV wq v (ixV zno znc znl zdzs zdzi zdzb zdzcze zdzczr zdztze zdztzr zsg)
    | 5 => v = .agg (nums .u8 R1)
    | _ => v = .bool true) (by kernel_rfl) (by kernel_rfl) (fun _ d _ _ _ h => by cases d <;> exact h) ?_ ?_ ?_ ?_
  · intro i v wq wq' hi hv hb
    match i, hi with
    | 0, _ => exact hv
    | 1, _ => exact hv
    | 2, _ => obtain ⟨p, h1, h2⟩ := hv; exact ⟨p, h1, DAt.keep hb _ h2⟩
    | 3, _ => exact hv
    | 4, _ => exact hv.keep hb
    | 5, _ => exact hv
    | 6, _ => exact hv
    | (k + 7), hk => exact absurd hk (by omega)
  · intro i o hi ho aq wq hc hk hdep
    match i, hi with
    | 0, _ =>
      cases ho
      have e1 : aq.tmps.getD 1 undef = .pointer (some ⟨w.heap.size, 0, none⟩) := hk 1 (by decide)
      exact flow_value _ (run_mid 49 (.tmp 1) rfl w.heap.size 0 e1 (ixC zno znc znl zdzs zdzi zdzb zdzcze zdzczr zdztze zdztzr zsg) ((HX.out.keep (hcB hc)).range 0 (ixC zno znc znl zdzs zdzi zdzb zdzcze zdzczr zdztze zdztzr zsg) (fun j v hv => by rw [Nat.zero_add]; exact hv)) _ Tryd.underlying49 rfl (by rw [ixC_length zno znc znl zdzs zdzi zdzb zdzcze zdzczr zdztze zdztzr zsg hzdzb.len hzdzczr.len hzdztzr.len hzsg.len]; kernel_rfl)) rfl
    | 1, _ =>
      cases ho
      have e0 : aq.tmps.getD 9 undef = .agg (ixC zno znc znl zdzs zdzi zdzb zdzcze zdzczr zdztze zdztzr zsg).toArray := hdep 0 9 rfl (by kernel_rfl)
      refine flow_fun 15 _ _ rfl (fun _ _ => by simp [go_sem]) #[.agg (ixC zno znc znl zdzs zdzi zdzb zdzcze zdzczr zdztze zdztzr zsg).toArray] (by rw [show (#[Operand.tmp 9] : Array Operand).map aq.eval = #[aq.tmps.getD 9 undef] from by simp [Act.eval], e0]) ?_
      refine (ixR_any zno znc znl zdzs zdzi zdzb zdzcze zdzczr zdztze zdztzr zsg hzdzs hzdzi hzdzb hzdzcze hzdzczr hzdztze hzdztzr hzsg wq (HT.out.keep (hcB hc)) (hzn.keep (HB.out.trans ((hcB hc).mono HB.out.size))) hznn).mono ?_
      rintro x w' ⟨rfl, q⟩
      exact ⟨_, rfl, (by rw [← HR.out]; rfl), q⟩
    | 2, _ =>
      cases ho
      refine flow_fun 16 _ _ rfl (fun _ _ => by simp [go_sem]) #[] (by simp) ?_
      refine (ixD_any wq).mono ?_
      rintro x w' ⟨p, rfl, h1, q⟩
      exact ⟨_, rfl, ⟨p, rfl, h1⟩, q⟩
    | 3, _ =>
      cases ho
      have e1 : aq.tmps.getD 1 undef = .pointer (some ⟨w.heap.size, 0, none⟩) := hk 1 (by decide)
      exact flow_value _ (run_mid 49 (.tmp 1) rfl w.heap.size 0 e1 (ixC zno znc znl zdzs zdzi zdzb zdzcze zdzczr zdztze zdztzr zsg) ((HX.out.keep (hcB hc)).range 0 (ixC zno znc znl zdzs zdzi zdzb zdzcze zdzczr zdztze zdztzr zsg) (fun j v hv => by rw [Nat.zero_add]; exact hv)) _ Tryd.underlying49 rfl (by rw [ixC_length zno znc znl zdzs zdzi zdzb zdzcze zdzczr zdztze zdztzr zsg hzdzb.len hzdzczr.len hzdztzr.len hzsg.len]; kernel_rfl)) rfl
    | 4, _ =>
      cases ho
      have e0 : aq.tmps.getD 12 undef = .agg (ixC zno znc znl zdzs zdzi zdzb zdzcze zdzczr zdztze zdztzr zsg).toArray := hdep 3 12 rfl (by kernel_rfl)
      refine flow_fun 17 _ _ rfl (fun _ _ => by simp [go_sem]) #[.agg (ixC zno znc znl zdzs zdzi zdzb zdzcze zdzczr zdztze zdztzr zsg).toArray] (by rw [show (#[Operand.tmp 12] : Array Operand).map aq.eval = #[aq.tmps.getD 12 undef] from by simp [Act.eval], e0]) ?_
      refine (ixV_any zno znc znl zdzs zdzi zdzb zdzcze zdzczr zdztze zdztzr zsg hzdzs hzdzi hzdzb hzdzcze hzdzczr hzdztze hzdztzr hzsg wq (hzn.keep (HB.out.trans ((hcB hc).mono HB.out.size))) hznn).mono ?_
      rintro x w' ⟨v, rfl, h1, q⟩
      exact ⟨v, rfl, h1, q⟩
    | 5, _ =>
      cases ho
      obtain ⟨p, e0, h0⟩ := hdep 2 11 rfl (by kernel_rfl)
      have h1 : IsV wq (aq.tmps.getD 13 undef) (ixV zno znc znl zdzs zdzi zdzb zdzcze zdzczr zdztze zdztzr zsg) := hdep 4 13 rfl (by kernel_rfl)
      refine flow_fun 9 _ _ rfl (fun _ _ => by simp [go_sem]) #[.pointer (some ⟨p, 0, none⟩), aq.tmps.getD 13 undef] (by rw [show (#[Operand.tmp 11, Operand.tmp 13] : Array Operand).map aq.eval = #[aq.tmps.getD 11 undef, aq.tmps.getD 13 undef] from by simp [Act.eval], e0]) ?_
      refine (rroot_any ixD (ixV zno znc znl zdzs zdzi zdzb zdzcze zdzczr zdztze zdztzr zsg) p _ wq HO.out h0 h1).mono ?_
      rintro x w' ⟨rfl, q⟩
      exact ⟨_, rfl, (by rw [HE.out]; rfl), q⟩
    | 6, _ =>
      cases ho
      have e0 : aq.tmps.getD 10 undef = .agg (nums .u8 R1) := hdep 1 10 rfl (by kernel_rfl)
      have e1 : aq.tmps.getD 14 undef = .agg (nums .u8 R1) := hdep 5 14 rfl (by kernel_rfl)
      exact flow_value _ (run_same_root (.tmp 10) (.tmp 14) rfl R1 hR1 e0 e1) rfl
    | (k + 7), hk => exact absurd hk (by omega)
  · intro o h7 ho
    omega
  intro vf w8 hc hv
  have e7 : vf 6 = _ := hv 6 15 (by decide) rfl
  have B8 := HB.out.trans ((hcB hc).mono HB.out.size)
  clear hv hc
  simp only [List.take_succ_cons, List.take_zero, List.drop_succ_cons, List.drop_zero, putAll, Act.put, List.setIfInBounds_toArray, List.set_cons_succ, List.set_cons_zero]
  rw [e7]
  have HB8 := hid B8
  clear B8 e7 HB HX HT
  go_wp2
  go_ret
  exact ⟨rfl, HB8.out⟩
end Go.Proofs.YthodofnebonpfaaDoor

/- From the rows' condition on the two tables to what the contracts ask of them. -/
namespace Go.Proofs.YthodofnebonpfaaDoor
open Go.RowKit
set_option linter.unusedVariables false
set_option maxRecDepth 100000

def laidTwo : List (String × DataW Unit) := [("keystone/digest.starts", Rows.laid_keystone_digest_starts), ("keystone/digest.rounds", Rows.laid_keystone_digest_rounds)]
theorem gStarts : Tryd.prog.globalNamed "keystone/digest.starts" = some 0 := by kernel_rfl
theorem gRounds : Tryd.prog.globalNamed "keystone/digest.rounds" = some 1 := by kernel_rfl
theorem tStarts : (Tryd.prog.globals[0]?).map (·.type) = some 110 := by kernel_rfl
theorem tRounds : (Tryd.prog.globals[1]?).map (·.type) = some 120 := by kernel_rfl
theorem dStarts {H : Type} : (Rows.laid_keystone_digest_starts : DataW H) = Lib.tabData .u32 (startNums.map fun n : Nat => (n : Int)) := rfl
theorem dRounds {H : Type} : (Rows.laid_keystone_digest_rounds : DataW H) = Lib.tabData .u32 (kNums.map fun n : Nat => (n : Int)) := rfl

theorem tabs_of_laid {W : World} (h : laidMetH Tryd.prog laidTwo W) : Tabs W := by
  rw [MakeChecks.laidMetH_plain _ _ _ (by kernel_rfl)] at h
  have h1 := Lib.laidMet.reads h (n := "keystone/digest.starts") (d := Rows.laid_keystone_digest_starts) (.head _)
  have h2 := Lib.laidMet.reads h (n := "keystone/digest.rounds") (d := Rows.laid_keystone_digest_rounds) (.tail _ (.head _))
  refine ⟨fun i hi => ?_, fun i hi => ?_⟩
  · obtain ⟨g, t, cs, fuel, p, hg, hty, hvar, hd⟩ := h1
    obtain rfl := Option.some.inj (gStarts.symm.trans hg)
    obtain rfl := Option.some.inj (tStarts.symm.trans hty)
    rw [dStarts] at hd
    have hcs := Lib.cells_of_tab Tryd.underlying110 Tryd.underlying109 (by kernel_rfl) (by kernel_rfl) hd
    rw [World.var?_cell hg hvar i, ← Array.getElem?_toList, hcs, List.map_map, List.getElem?_map]
    have hl : i < startNums.length := hi
    rw [List.getElem?_eq_getElem hl]
    simp [hl]
  · obtain ⟨g, t, cs, fuel, p, hg, hty, hvar, hd⟩ := h2
    obtain rfl := Option.some.inj (gRounds.symm.trans hg)
    obtain rfl := Option.some.inj (tRounds.symm.trans hty)
    rw [dRounds] at hd
    have hcs := Lib.cells_of_tab Tryd.underlying120 Tryd.underlying109 (by kernel_rfl) (by kernel_rfl) hd
    rw [World.var?_cell hg hvar i, ← Array.getElem?_toList, hcs, List.map_map, List.getElem?_map]
    have hl : i < kNums.length := hi
    rw [List.getElem?_eq_getElem hl]
    simp [hl]
end Go.Proofs.YthodofnebonpfaaDoor

/- Structs that came in by value. -/
namespace Go.Proofs.YthodofnebonpfaaDoor
open Go.RowKit Go.Deep Go.WideShapes
set_option linter.unusedVariables false
set_option linter.unusedSimpArgs false
set_option maxRecDepth 100000

theorem cellsRt : Tryd.prog.cellsOf 25 = 32 := by kernel_rfl
theorem cellsU8 : Tryd.prog.cellsOf 5 = 1 := by kernel_rfl
theorem cellsU64 : Tryd.prog.cellsOf 23 = 1 := by kernel_rfl
theorem cellsBo : Tryd.prog.cellsOf 4 = 1 := by kernel_rfl
/-- Parts of a list, one behind the other. -/
def cutAt {α : Type} (cs : List α) : Nat → List Nat → List (List α)
  | _, [] => []
  | o, k :: ks => (cs.drop o).take k :: cutAt cs (o + k) ks
theorem cut_flat {α : Type} (cs : List α) : ∀ (ks : List Nat) (o : Nat), o + ks.sum = cs.length → cs.drop o = (cutAt cs o ks).flatten := by
  intro ks
  induction ks with
  | nil => intro o h; simp at h; rw [h, List.drop_length]; rfl
  | cons k ks ih =>
    intro o h
    rw [cutAt, List.flatten_cons, ← ih (o + k) (by simp at h; omega), ← List.drop_drop, List.take_append_drop]
section
variable {H : Type} {enc : TypeId × Value → H} {W : World} {b0 : Nat} {sp : Nat → Bool} {held : Bool}
theorem root_of_trod {fuel : Nat} {cs : List Value} {x : DataW H × List MemPlace} (h : DataW.trod enc Tryd.prog W b0 sp held fuel 25 cs = some x) : ∃ r : List Nat, cs = (nums .u8 r).toList ∧ Rt r := by
  obtain ⟨xs, m, _, _, hl, hxs, hel⟩ := DataW.trod_array Tryd.und25 h
  rw [cellsRt] at hl
  have key : ∀ i (hi : i < cs.length), ∃ n : Nat, cs[i] = .int .u8 (n : Int) ∧ n < 256 := by
    intro i hi
    have h1 := hel i (by omega)
    rw [cellsU8, Nat.mul_one, List.getElem?_eq_getElem (by omega)] at h1
    obtain ⟨n, e1, _, hw⟩ := DataW.trod_int Tryd.underlying5 h1
    have hb := bounds_u8 hw
    have e2 : (cs.drop i).take 1 = [cs[i]] := by
      rw [List.drop_eq_getElem_cons hi, List.take_succ_cons, List.take_zero]
    have e3 : [cs[i]] = [Value.int .u8 n] := e2.symm.trans e1
    refine ⟨n.toNat, ?_, by omega⟩
    have e4 : cs[i] = Value.int .u8 n := by simpa using e3
    rw [e4]
    congr 1
    omega
  refine ⟨cs.map fun v => (intOf v).toNat, ?_, by simp [hl], ?_⟩
  · unfold nums
    apply List.ext_getElem
    · simp
    · intro i h1 h2
      obtain ⟨n, e, hn⟩ := key i h1
      simp [e, intOf]
  · intro z hz
    obtain ⟨v, hv, rfl⟩ := List.mem_map.1 hz
    obtain ⟨i, hi, rfl⟩ := List.mem_iff_getElem.1 hv
    obtain ⟨n, e, hn⟩ := key i hi
    simp [e, intOf, hn]
theorem num_of_trod {fuel : Nat} {cs : List Value} {x : DataW H × List MemPlace} (h : DataW.trod enc Tryd.prog W b0 sp held fuel 23 cs = some x) : ∃ n : Nat, cs = [.int .u64 (n : Nat)] ∧ n < 18446744073709551616 := by
  obtain ⟨i, e, _, hw⟩ := DataW.trod_int Tryd.underlying23 h
  have hb := bounds_u64 hw
  refine ⟨i.toNat, ?_, by omega⟩
  rw [e, Int.toNat_of_nonneg hb.1]
theorem bool_of_trod {fuel : Nat} {cs : List Value} {x : DataW H × List MemPlace} (h : DataW.trod enc Tryd.prog W b0 sp held fuel 4 cs = some x) : ∃ b : Bool, cs = [.bool b] := by
  obtain ⟨b, e, _⟩ := DataW.trod_bool Tryd.underlying4 h
  exact ⟨b, e⟩
theorem cellsNs : Tryd.prog.cellsOf 47 = 1 := by kernel_rfl
theorem nums_of_trod {fuel : Nat} {cs : List Value} {x : DataW H × List MemPlace} (h : DataW.trod enc Tryd.prog W b0 (fun _ => true) held fuel 47 cs = some x) : ∃ (ao : Option Addr) (c : Nat) (l : List Nat), cs = [.slice ao l.length c] ∧ IsN W (.slice ao l.length c) l := by
  rcases Go.ChangeShapes.open_ints Tryd.underlying47 Tryd.underlying23 cellsU64 h with ⟨hcs, _⟩ | ⟨a, len, cap, zs, hcs, _, hl, hm, hzl, _, hcell, hwf⟩
  · exact ⟨none, 0, [], hcs, ⟨none, 0, rfl, Nat.le_refl _, by decide, .inl rfl⟩, fun _ h => absurd h List.not_mem_nil⟩
  · simp only [if_true] at hzl
    have hln : ((zs.take len).map Int.toNat).length = len := by rw [List.length_map, List.length_take, hzl, Nat.min_eq_left hl]
    refine ⟨some a, cap, (zs.take len).map Int.toNat, by rw [hln]; exact hcs, ⟨some a, cap, rfl, by rw [hln]; exact hl, hm, ?_⟩, ?_⟩
    · by_cases h0 : len = 0
      · exact .inl (by rw [hln]; exact h0)
      · obtain ⟨b, off, spot⟩ := a
        obtain rfl : spot = none := by
          have := hcell 0 (by omega)
          simpa [Addr.add] using World.cell?_spot this
        refine .inr ⟨b, off, rfl, fun i hi => ?_⟩
        rw [hln] at hi
        have hiz : i < zs.length := by omega
        have h1 := hcell i hiz
        rw [Addr.add_lit] at h1
        have hb := bounds_u64 (hwf (zs.getD i 0) (by rw [List.getD_eq_getElem?_getD, List.getElem?_eq_getElem hiz]; exact List.getElem_mem hiz))
        rw [h1]
        have e1 : ((zs.take len).map Int.toNat).getD i 0 = (zs.getD i 0).toNat := by
          rw [List.getD_eq_getElem?_getD, List.getElem?_map, List.getElem?_take, if_pos hi, List.getD_eq_getElem?_getD, List.getElem?_eq_getElem hiz]
          rfl
        rw [e1, Int.toNat_of_nonneg hb.1]
    · intro n hn
      obtain ⟨z, hz, rfl⟩ := List.mem_map.1 hn
      have hb := bounds_u64 (hwf z (List.mem_of_mem_take hz))
      omega
theorem cells_cp : Tryd.prog.cellsOf 27 = 33 := by kernel_rfl
theorem cp_of_trod {fuel : Nat} {cs : List Value} {x : DataW H × List MemPlace} (h : DataW.trod enc Tryd.prog W b0 sp held fuel 27 cs = some x) : ∃ (ze : Nat) (zr : List Nat), cs = cpC ze zr ∧ ze < 18446744073709551616 ∧ Rt zr := by
  obtain ⟨xs, n, _, _, hl, hlen, hf⟩ := DataW.trod_struct Tryd.underlying27 h
  rw [cells_cp] at hl
  have hx : xs.length = 2 := hlen
  have f0 : ∃ y, DataW.trod enc Tryd.prog W b0 sp held n 23 ((cs.drop 0).take 1) = some y := by
    have := hf 0 _ rfl
    change DataW.trod enc Tryd.prog W b0 sp held n 23 (List.take (Tryd.prog.cellsOf 23) (List.drop 0 cs)) = xs[0]? at this
    rw [cellsU64, List.getElem?_eq_getElem (by omega)] at this
    exact ⟨_, this⟩
  obtain ⟨y0, f0⟩ := f0
  obtain ⟨ze, e0, hze⟩ := num_of_trod f0
  have f1 : ∃ y, DataW.trod enc Tryd.prog W b0 sp held n 25 ((cs.drop 1).take 32) = some y := by
    have := hf 1 _ rfl
    change DataW.trod enc Tryd.prog W b0 sp held n 25 (List.take (Tryd.prog.cellsOf 25) (List.drop 1 cs)) = xs[1]? at this
    rw [cellsRt, List.getElem?_eq_getElem (by omega)] at this
    exact ⟨_, this⟩
  obtain ⟨y1, f1⟩ := f1
  obtain ⟨zr, e1, hzr⟩ := root_of_trod f1
  have hc := cut_flat cs [1, 32] 0 (by rw [hl]; rfl)
  rw [List.drop_zero] at e0
  simp only [cutAt, List.drop_zero, Nat.zero_add, Nat.reduceAdd, e0, e1] at hc
  refine ⟨ze, zr, hc, hze, hzr⟩
theorem open_cp {base : Nat} {v : Value} {d : DataW H} {p : List MemPlace} (hv : Value.okWide Tryd.prog W .any base 27 v) (h : DataW.Trod enc Tryd.prog W b0 sp held 27 v d p) : ∃ (ze : Nat) (zr : List Nat), v = .agg (cpC ze zr).toArray ∧ ze < 18446744073709551616 ∧ Rt zr := by
  obtain ⟨cs, rfl, _⟩ := okWide_struct Tryd.underlying27 hv
  obtain ⟨fuel, hf⟩ := h
  obtain ⟨ze, zr, e, hze, hzr⟩ := cp_of_trod hf
  exact ⟨ze, zr, by rw [← Array.toList_inj.1 (show cs.toList = (cpC ze zr).toArray.toList from e)], hze, hzr⟩
theorem cells_vt : Tryd.prog.cellsOf 29 = 100 := by kernel_rfl
theorem vt_of_trod {fuel : Nat} {cs : List Value} {x : DataW H × List MemPlace} (h : DataW.trod enc Tryd.prog W b0 sp held fuel 29 cs = some x) : ∃ (zs : Nat) (zi : Nat) (zb : List Nat) (zcze : Nat) (zczr : List Nat) (ztze : Nat) (ztzr : List Nat), cs = vtC zs zi zb zcze zczr ztze ztzr ∧ zs < 18446744073709551616 ∧ zi < 18446744073709551616 ∧ Rt zb ∧ zcze < 18446744073709551616 ∧ Rt zczr ∧ ztze < 18446744073709551616 ∧ Rt ztzr := by
  obtain ⟨xs, n, _, _, hl, hlen, hf⟩ := DataW.trod_struct Tryd.underlying29 h
  rw [cells_vt] at hl
  have hx : xs.length = 5 := hlen
  have f0 : ∃ y, DataW.trod enc Tryd.prog W b0 sp held n 23 ((cs.drop 0).take 1) = some y := by
    have := hf 0 _ rfl
    change DataW.trod enc Tryd.prog W b0 sp held n 23 (List.take (Tryd.prog.cellsOf 23) (List.drop 0 cs)) = xs[0]? at this
    rw [cellsU64, List.getElem?_eq_getElem (by omega)] at this
    exact ⟨_, this⟩
  obtain ⟨y0, f0⟩ := f0
  obtain ⟨zs, e0, hzs⟩ := num_of_trod f0
  have f1 : ∃ y, DataW.trod enc Tryd.prog W b0 sp held n 23 ((cs.drop 1).take 1) = some y := by
    have := hf 1 _ rfl
    change DataW.trod enc Tryd.prog W b0 sp held n 23 (List.take (Tryd.prog.cellsOf 23) (List.drop 1 cs)) = xs[1]? at this
    rw [cellsU64, List.getElem?_eq_getElem (by omega)] at this
    exact ⟨_, this⟩
  obtain ⟨y1, f1⟩ := f1
  obtain ⟨zi, e1, hzi⟩ := num_of_trod f1
  have f2 : ∃ y, DataW.trod enc Tryd.prog W b0 sp held n 25 ((cs.drop 2).take 32) = some y := by
    have := hf 2 _ rfl
    change DataW.trod enc Tryd.prog W b0 sp held n 25 (List.take (Tryd.prog.cellsOf 25) (List.drop 2 cs)) = xs[2]? at this
    rw [cellsRt, List.getElem?_eq_getElem (by omega)] at this
    exact ⟨_, this⟩
  obtain ⟨y2, f2⟩ := f2
  obtain ⟨zb, e2, hzb⟩ := root_of_trod f2
  have f3 : ∃ y, DataW.trod enc Tryd.prog W b0 sp held n 27 ((cs.drop 34).take 33) = some y := by
    have := hf 3 _ rfl
    change DataW.trod enc Tryd.prog W b0 sp held n 27 (List.take (Tryd.prog.cellsOf 27) (List.drop 34 cs)) = xs[3]? at this
    rw [cells_cp, List.getElem?_eq_getElem (by omega)] at this
    exact ⟨_, this⟩
  obtain ⟨y3, f3⟩ := f3
  obtain ⟨zcze, zczr, e3, hzcze, hzczr⟩ := cp_of_trod f3
  have f4 : ∃ y, DataW.trod enc Tryd.prog W b0 sp held n 27 ((cs.drop 67).take 33) = some y := by
    have := hf 4 _ rfl
    change DataW.trod enc Tryd.prog W b0 sp held n 27 (List.take (Tryd.prog.cellsOf 27) (List.drop 67 cs)) = xs[4]? at this
    rw [cells_cp, List.getElem?_eq_getElem (by omega)] at this
    exact ⟨_, this⟩
  obtain ⟨y4, f4⟩ := f4
  obtain ⟨ztze, ztzr, e4, hztze, hztzr⟩ := cp_of_trod f4
  have hc := cut_flat cs [1, 1, 32, 33, 33] 0 (by rw [hl]; rfl)
  rw [List.drop_zero] at e0
  simp only [cutAt, List.drop_zero, Nat.zero_add, Nat.reduceAdd, e0, e1, e2, e3, e4] at hc
  refine ⟨zs, zi, zb, zcze, zczr, ztze, ztzr, hc, hzs, hzi, hzb, hzcze, hzczr, hztze, hztzr⟩
theorem open_vt {base : Nat} {v : Value} {d : DataW H} {p : List MemPlace} (hv : Value.okWide Tryd.prog W .any base 29 v) (h : DataW.Trod enc Tryd.prog W b0 sp held 29 v d p) : ∃ (zs : Nat) (zi : Nat) (zb : List Nat) (zcze : Nat) (zczr : List Nat) (ztze : Nat) (ztzr : List Nat), v = .agg (vtC zs zi zb zcze zczr ztze ztzr).toArray ∧ zs < 18446744073709551616 ∧ zi < 18446744073709551616 ∧ Rt zb ∧ zcze < 18446744073709551616 ∧ Rt zczr ∧ ztze < 18446744073709551616 ∧ Rt ztzr := by
  obtain ⟨cs, rfl, _⟩ := okWide_struct Tryd.underlying29 hv
  obtain ⟨fuel, hf⟩ := h
  obtain ⟨zs, zi, zb, zcze, zczr, ztze, ztzr, e, hzs, hzi, hzb, hzcze, hzczr, hztze, hztzr⟩ := vt_of_trod hf
  exact ⟨zs, zi, zb, zcze, zczr, ztze, ztzr, by rw [← Array.toList_inj.1 (show cs.toList = (vtC zs zi zb zcze zczr ztze ztzr).toArray.toList from e)], hzs, hzi, hzb, hzcze, hzczr, hztze, hztzr⟩
theorem cells_ix : Tryd.prog.cellsOf 49 = 133 := by kernel_rfl
theorem ix_of_trod {fuel : Nat} {cs : List Value} {x : DataW H × List MemPlace} (h : DataW.trod enc Tryd.prog W b0 (fun _ => true) held fuel 49 cs = some x) : ∃ (zno : Option Addr) (znc : Nat) (znl : List Nat) (zdzs : Nat) (zdzi : Nat) (zdzb : List Nat) (zdzcze : Nat) (zdzczr : List Nat) (zdztze : Nat) (zdztzr : List Nat) (zsg : List Nat), cs = ixC zno znc znl zdzs zdzi zdzb zdzcze zdzczr zdztze zdztzr zsg ∧ zdzs < 18446744073709551616 ∧ zdzi < 18446744073709551616 ∧ Rt zdzb ∧ zdzcze < 18446744073709551616 ∧ Rt zdzczr ∧ zdztze < 18446744073709551616 ∧ Rt zdztzr ∧ Rt zsg ∧ IsN W (.slice zno znl.length znc) znl := by
  obtain ⟨xs, n, _, _, hl, hlen, hf⟩ := DataW.trod_struct Tryd.underlying49 h
  rw [cells_ix] at hl
  have hx : xs.length = 3 := hlen
  have f0 : ∃ y, DataW.trod enc Tryd.prog W b0 (fun _ => true) held n 47 ((cs.drop 0).take 1) = some y := by
    have := hf 0 _ rfl
    change DataW.trod enc Tryd.prog W b0 (fun _ => true) held n 47 (List.take (Tryd.prog.cellsOf 47) (List.drop 0 cs)) = xs[0]? at this
    rw [cellsNs, List.getElem?_eq_getElem (by omega)] at this
    exact ⟨_, this⟩
  obtain ⟨y0, f0⟩ := f0
  obtain ⟨zno, znc, znl, e0, hzn⟩ := nums_of_trod f0
  have f1 : ∃ y, DataW.trod enc Tryd.prog W b0 (fun _ => true) held n 29 ((cs.drop 1).take 100) = some y := by
    have := hf 1 _ rfl
    change DataW.trod enc Tryd.prog W b0 (fun _ => true) held n 29 (List.take (Tryd.prog.cellsOf 29) (List.drop 1 cs)) = xs[1]? at this
    rw [cells_vt, List.getElem?_eq_getElem (by omega)] at this
    exact ⟨_, this⟩
  obtain ⟨y1, f1⟩ := f1
  obtain ⟨zdzs, zdzi, zdzb, zdzcze, zdzczr, zdztze, zdztzr, e1, hzdzs, hzdzi, hzdzb, hzdzcze, hzdzczr, hzdztze, hzdztzr⟩ := vt_of_trod f1
  have f2 : ∃ y, DataW.trod enc Tryd.prog W b0 (fun _ => true) held n 25 ((cs.drop 101).take 32) = some y := by
    have := hf 2 _ rfl
    change DataW.trod enc Tryd.prog W b0 (fun _ => true) held n 25 (List.take (Tryd.prog.cellsOf 25) (List.drop 101 cs)) = xs[2]? at this
    rw [cellsRt, List.getElem?_eq_getElem (by omega)] at this
    exact ⟨_, this⟩
  obtain ⟨y2, f2⟩ := f2
  obtain ⟨zsg, e2, hzsg⟩ := root_of_trod f2
  have hc := cut_flat cs [1, 100, 32] 0 (by rw [hl]; rfl)
  rw [List.drop_zero] at e0
  simp only [cutAt, List.drop_zero, Nat.zero_add, Nat.reduceAdd, e0, e1, e2] at hc
  refine ⟨zno, znc, znl, zdzs, zdzi, zdzb, zdzcze, zdzczr, zdztze, zdztzr, zsg, hc, hzdzs, hzdzi, hzdzb, hzdzcze, hzdzczr, hzdztze, hzdztzr, hzsg, hzn⟩
theorem open_ix {base : Nat} {v : Value} {d : DataW H} {p : List MemPlace} (hv : Value.okWide Tryd.prog W .any base 49 v) (h : DataW.Trod enc Tryd.prog W b0 (fun _ => true) held 49 v d p) : ∃ (zno : Option Addr) (znc : Nat) (znl : List Nat) (zdzs : Nat) (zdzi : Nat) (zdzb : List Nat) (zdzcze : Nat) (zdzczr : List Nat) (zdztze : Nat) (zdztzr : List Nat) (zsg : List Nat), v = .agg (ixC zno znc znl zdzs zdzi zdzb zdzcze zdzczr zdztze zdztzr zsg).toArray ∧ zdzs < 18446744073709551616 ∧ zdzi < 18446744073709551616 ∧ Rt zdzb ∧ zdzcze < 18446744073709551616 ∧ Rt zdzczr ∧ zdztze < 18446744073709551616 ∧ Rt zdztzr ∧ Rt zsg ∧ IsN W (.slice zno znl.length znc) znl := by
  obtain ⟨cs, rfl, _⟩ := okWide_struct Tryd.underlying49 hv
  obtain ⟨fuel, hf⟩ := h
  obtain ⟨zno, znc, znl, zdzs, zdzi, zdzb, zdzcze, zdzczr, zdztze, zdztzr, zsg, e, hzdzs, hzdzi, hzdzb, hzdzcze, hzdzczr, hzdztze, hzdztzr, hzsg, hzn⟩ := ix_of_trod hf
  exact ⟨zno, znc, znl, zdzs, zdzi, zdzb, zdzcze, zdzczr, zdztze, zdztzr, zsg, by rw [← Array.toList_inj.1 (show cs.toList = (ixC zno znc znl zdzs zdzi zdzb zdzcze zdzczr zdztze zdztzr zsg).toArray.toList from e)], hzdzs, hzdzi, hzdzb, hzdzcze, hzdzczr, hzdztze, hzdztzr, hzsg, hzn⟩
end
end Go.Proofs.YthodofnebonpfaaDoor

