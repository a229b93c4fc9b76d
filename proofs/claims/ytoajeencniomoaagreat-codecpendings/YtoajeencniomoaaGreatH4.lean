/- Own texts of the proof, joined: PutPd Pd5 Open5b. -/
import Derived.Test.YtoajeencniomoaaGreatH3
import Derived.ProofKit
import Derived.OpenShut
import Derived.ShutString
import Derived.ChangeOld
import Derived.Deep.Slices
import Derived.SevenTiedAt
import Derived.Stop.Joined
import Derived.Deep.Grids
/- The put of a Pending. -/
namespace Go.Proofs.YtoajeencniomoaaGreat
open Go.RowKit Go.Shelf
set_option linter.unusedVariables false
set_option linter.unusedSimpArgs false
set_option maxRecDepth 100000

set_option maxHeartbeats 1000000 in
/-- codec.Pending: its cells are the bits' slice, a Vote's cells, two numbers. -/
theorem pending_any (ao : Option Addr) (bl cap : Nat) (bits : List Bool) (sl ix : Nat) (b : List Nat) (es : Nat) (rs : List Nat) (et : Nat) (rt : List Nat) (de pr : Nat) (w : World) (hT : IsT w (.slice ao bl cap) bits) (hbl : bits.length ≤ 1099511627) (h1 : sl < 18446744073709551616) (h2 : ix < 18446744073709551616) (hb : b.length = 32) (hb8 : ∀ z ∈ b, z < 256)
    (hes : es < 18446744073709551616) (hrs : rs.length = 32) (hrs8 : ∀ z ∈ rs, z < 256) (het : et < 18446744073709551616) (hrt : rt.length = 32) (hrt8 : ∀ z ∈ rt, z < 256) (hde : de < 18446744073709551616) (hpr : pr < 18446744073709551616) :
    Calls Tryz.prog 22 #[.agg ([Value.slice ao bl cap] ++ (vtC sl ix b es rs et rt ++ ([Value.int .u64 (de : Nat), Value.int .u64 (pr : Nat)] ++ []))).toArray] w fun x w' => ∃ v, x = .returned v ∧ Row w' w.heap.size v (cont ([(putB bits true, true)] ++ (vtF sl ix b es rs et rt ++ numF [de, pr]))) ∧ Below w.heap.size w w' := by
  have HT := hid hT
  have HBB := hid (And.intro hb hb8)
  have HRS := hid (And.intro hrs hrs8)
  have HRT := hid (And.intro hrt hrt8)
  have HE : Hid (([Value.slice ao bl cap] ++ (vtC sl ix b es rs et rt ++ ([Value.int .u64 (de : Nat), Value.int .u64 (pr : Nat)] ++ [])) : List Value) = ([Value.slice ao bl cap] ++ vtC sl ix b es rs et rt) ++ ([Value.int .u64 (de : Nat), Value.int .u64 (pr : Nat)] ++ [])) := hid (by simp)
  obtain ⟨C, hC⟩ : ∃ C : List Value, [Value.slice ao bl cap] ++ (vtC sl ix b es rs et rt ++ ([Value.int .u64 (de : Nat), Value.int .u64 (pr : Nat)] ++ [])) = C := ⟨_, rfl⟩
  have HC0 : Hid (C[0]? = some (.slice ao bl cap)) := hid (by rw [← hC]; rfl)
  have HC1 : Hid (∀ (j : Nat) v, (vtC sl ix b es rs et rt)[j]? = some v → C[1 + j]? = some v) := hid (fun j v hv => by rw [← hC]; exact get_mid rfl hv)
  have HC2 : Hid (∀ (j : Nat) v, ([Value.int .u64 (de : Nat), Value.int .u64 (pr : Nat)])[j]? = some v → C[101 + j]? = some v) := hid (fun j v hv => by rw [← hC, HE.out]; exact get_mid (by simp [vtC_length hb hrs hrt]) hv)
  rw [hC]
  clear hC HE hT hb hb8 hrs hrs8 hrt hrt8
  go_enter Tryz.func22, Tryz.ntmps22
  go_wp2_with (first
    | (refine wpList_box_c rfl 1 rfl (.tmp 0) rfl C rfl ?_; intro w1 H1 B1 S1; have hc0 := ((H1.keep ((Below.refl _ w1).alloc (Nat.le_refl _) (.cells #[.int .i64 0, .pointer none] 125))).cell (j := 0) HC0.out)))
  have W1 := wr_new w1
  have B2 : Below w1.heap.size w1 (w1.alloc (.cells #[.int .i64 0, .pointer none] 125)) := (Below.refl _ w1).alloc (Nat.le_refl _) _
  have S2 := World.size_alloc w1 (.cells #[.int .i64 0, .pointer none] 125)
  rw [S1] at W1
  have X2 := hid (H1.keep B2)
  generalize w1.alloc (.cells #[.int .i64 0, .pointer none] 125) = w2 at W1 B2 S2 X2 hc0 ⊢
  have B12 := hid (B1.trans (B2.mono (by omega)))
  have s2 : w2.heap.size = w.heap.size + 2 := by omega
  have HP := hid (putBits_any _ bits true w2 (HT.out.keep B12.out) (by omega))
  have HW := hid W1
  clear B1 B2 S1 S2 H1 W1 hc0 HT
  refine HP.out.mono ?_
  rintro x w3 ⟨v3, rfl, q1, q2⟩
  have I3 := q1.isB (putB_byte bits true)
  have s3 := q2.size
  have B13 := hid (B12.out.trans (q2.mono (by omega)))
  have X3 := hid (X2.out.keep q2)
  have HQ := hid (part_wr (w.heap.size + 1) _ [] v3 (putB bits true) w3 (HW.out.below q2) I3 (by simp) (by rw [putB_length]; simp; omega))
  clear q1 q2 I3 HP HW X2 B12
  go_wp2_with fail
  refine HQ.out.mono ?_
  rintro x w4 ⟨⟨u4, rfl⟩, q1, q2⟩
  have s4 := q2.size
  have X4 := hid (X3.out.grown q2 (by omega))
  have W4 := hid q1
  have B4 : Hid (Below w.heap.size w w4) := hid ⟨q2.os.trans B13.out.os, q2.tape.trans B13.out.tape, q2.output.trans B13.out.output, by omega, fun j hj => (q2.block j (by omega) (fun h => by have := Option.some.inj h; omega)).trans (B13.out.block j hj)⟩
  clear q1 q2 HQ X3 B13
  go_wp2_with (first
    | (refine wpList_load_mid rfl 28 (.tmp 8) rfl w.heap.size 1 (by exact rfl) (vtC sl ix b es rs et rt) _ (X4.out.range 1 _ HC1.out) Tryz.underlying28 rfl (by rw [vtC_length HBB.out.1 HRS.out.1 HRT.out.1]; exact Tryz.ty28.size) ?_))
  have HQ := hid (putVt_any (w.heap.size + 1) _ _ sl ix b es rs et rt w4 W4.out (by simp) h1 h2 HBB.out.1 HBB.out.2 hes HRS.out.1 HRS.out.2 het HRT.out.1 HRT.out.2)
  refine HQ.out.mono ?_
  rintro x w5 ⟨⟨u5, rfl⟩, q1, q2⟩
  have s5 := q2.size
  have X5 := hid (X4.out.grown q2 (by omega))
  have W5 := hid q1
  have B5 : Hid (Below w.heap.size w w5) := hid ⟨q2.os.trans B4.out.os, q2.tape.trans B4.out.tape, q2.output.trans B4.out.output, by omega, fun j hj => (q2.block j (by omega) (fun h => by have := Option.some.inj h; omega)).trans (B4.out.block j hj)⟩
  clear q1 q2 HQ X4 W4 B4
  have hc1 := X5.out.cell (HC2.out 0 _ rfl)
  have hc2 := X5.out.cell (HC2.out 1 _ rfl)
  go_wp2_with fail
  have B6 : Below w5.heap.size w5 (w5.alloc (.cells #[.int .u64 (de : Nat), .int .u64 (pr : Nat)] 22)) := (Below.refl _ w5).alloc (Nat.le_refl _) _
  have H6 := heap_alloc_new w5 (.cells #[.int .u64 (de : Nat), .int .u64 (pr : Nat)] 22)
  generalize w5.alloc (.cells #[.int .u64 (de : Nat), .int .u64 (pr : Nat)] 22) = w6 at B6 H6 ⊢
  clear hc1 hc2
  have HQ := hid (num_wr (w.heap.size + 1) _ _ [de, pr] w5.heap.size 0 2 w6 (W5.out.below B6) (by omega) (by simp [vtF, numF, rootF, cpF]) (by simpa using And.intro hde hpr) (fun i hi => by
    have : i = 0 ∨ i = 1 := by simp at hi; omega
    rcases this with rfl | rfl
    · exact cell_of_row w6 _ 0 _ _ (0, 0) H6
    · exact cell_of_row w6 _ 1 _ _ (0, 0) H6) (by simp))
  have B56 := hid (B5.out.trans (B6.mono (by omega)))
  have s6 := B6.size
  clear H6 B6 W5 X5
  refine HQ.out.mono ?_
  rintro x w7 ⟨⟨u7, rfl⟩, q1, q2⟩
  have s7 := q2.size
  have B7 : Hid (Below w.heap.size w w7) := hid ⟨q2.os.trans B56.out.os, q2.tape.trans B56.out.tape, q2.output.trans B56.out.output, by omega, fun j hj => (q2.block j (by omega) (fun h => by have := Option.some.inj h; omega)).trans (B56.out.block j hj)⟩
  have HY := hid (bytes_any (w.heap.size + 1) _ _ w7 q1 (by simp [vtF, numF, rootF, cpF]) (by simp [vtF, numF, rootF, cpF, lenF, le_length, putB_length, HBB.out.1, HRS.out.1, HRT.out.1]; omega))
  clear q1 q2 HQ B56 B5
  go_wp2_with fail
  refine HY.out.mono ?_
  rintro x w8 ⟨v, rfl, q1, q2⟩
  have X := hid (And.intro q1 q2)
  clear q1 q2
  go_wp2
  go_ret
  refine ⟨v, rfl, ?_, B7.out.trans (X.out.2.mono (by omega))⟩
  have := X.out.1.base (b' := w.heap.size) (by omega)
  simp only [List.append_assoc, List.nil_append] at this
  exact this
end Go.Proofs.YtoajeencniomoaaGreat

/- CodecPendings: its contracts, made one. -/
namespace Go.Proofs.YtoajeencniomoaaGreat
open Go.RowKit
set_option linter.unusedVariables false
set_option linter.unusedSimpArgs false
set_option maxRecDepth 100000

theorem pdC_six (ao : Option Addr) (c : Nat) (l : List Bool) (sl ix : Nat) (b : List Nat) (es : Nat) (rs : List Nat) (et : Nat) (rt : List Nat) (de pr : Nat) : pdC6 ao c l sl ix b es rs et rt de pr = pdC (.slice ao l.length c) (vtC sl ix b es rs et rt) de pr := by
  simp [pdC6, pdP6, vtC6, vtP6, cpC6, cpP6, pdC, vtC, cpC]
theorem pdBS_len (l : List Bool) (sl ix : Nat) (b : List Nat) (es : Nat) (rs : List Nat) (et : Nat) (rt : List Nat) (de pr : Nat) (hl : l.length ≤ 500) (hb : b.length = 32) (hrs : rs.length = 32) (hrt : rt.length = 32) : (pdBS l sl ix b es rs et rt de pr).length ≤ 100000000000 := by
  have hp : (putB l true).length ≤ 1000 := by rw [putB_length]; simp; omega
  simp [pdBS, le_length, hb, hrs, hrt]
  omega
theorem pdBS_byte (l : List Bool) (sl ix : Nat) (b : List Nat) (es : Nat) (rs : List Nat) (et : Nat) (rt : List Nat) (de pr : Nat) (hb8 : ∀ z ∈ b, z < 256) (hrs8 : ∀ z ∈ rs, z < 256) (hrt8 : ∀ z ∈ rt, z < 256) : ∀ z ∈ pdBS l sl ix b es rs et rt de pr, z < 256 := by
  intro z hz
  unfold pdBS at hz
  simp only [List.mem_append] at hz
  rcases hz with hz | hz | hz | hz | hz | hz | hz | hz | hz | hz | hz
  · exact le_byte _ _ z hz
  · exact le_byte _ _ z hz
  · exact le_byte _ _ z hz
  · exact hb8 z hz
  · exact le_byte _ _ z hz
  · exact hrs8 z hz
  · exact le_byte _ _ z hz
  · exact hrt8 z hz
  · exact le_byte _ _ z hz
  · exact le_byte _ _ z hz
  · exact putB_byte l true z hz
theorem pd0_built : Tryz.prog.built 54 [] = some pd0.toArray := by kernel_rfl
theorem pd_walk (ao : Option Addr) (c : Nat) (l : List Bool) (sl ix : Nat) (b : List Nat) (es : Nat) (rs : List Nat) (et : Nat) (rt : List Nat) (de pr : Nat) (hsl : sl < 18446744073709551616) (hix : ix < 18446744073709551616) (hb : b.length = 32) (hb8 : ∀ z ∈ b, z < 256) (hes : es < 18446744073709551616) (hrs : rs.length = 32) (hrs8 : ∀ z ∈ rs, z < 256) (het : et < 18446744073709551616) (hrt : rt.length = 32) (hrt8 : ∀ z ∈ rt, z < 256) (hde : de < 18446744073709551616) (hpr : pr < 18446744073709551616) (w : World) (hIT : IsT w (.slice ao l.length c) l) :
    Calls Tryz.prog 5 #[.agg (pdC (.slice ao l.length c) (vtC sl ix b es rs et rt) de pr).toArray] w fun e w' => e = .returned (.bool true) ∧ Below w.heap.size w w' := by
  have hVl : (vtC sl ix b es rs et rt).length = 100 := vtC_length hb hrs hrt
  have hV1 := vtC_one sl ix b es rs et rt
  have hCl : (pdC (.slice ao l.length c) (vtC sl ix b es rs et rt) de pr).length = pd0.length := (pdC_length hVl).trans (show (103 : Nat) = pd0.length by kernel_rfl)
  have hC1 : (pdC (.slice ao l.length c) (vtC sl ix b es rs et rt) de pr).toArray.all (·.oneCell') = true := pdC_one rfl hV1
  by_cases hw : 500 < l.length
  · exact CodecPendings_wide _ pd0 ao c l w Tryz.ty54 hCl rfl hw
  have hn : l.length ≤ 500 := by omega
  have href : ∀ (ao' : Option Addr) (c' : Nat) wq, IsT wq (.slice ao' l.length c') l → Calls Tryz.prog 21 #[.agg (pdC (.slice ao' l.length c') (vtC sl ix b es rs et rt) de pr).toArray] wq fun x w' => ∃ v, x = .returned v ∧ IsV w' v (pdV6 ao c l sl ix b es rs et rt de pr) ∧ Below wq.heap.size wq w' := fun ao' c' wq hq => by
    have h := pdV6_any ao' c' l sl ix b es rs et rt de pr hsl hix ⟨hb, hb8⟩ hes ⟨hrs, hrs8⟩ het ⟨hrt, hrt8⟩ hde hpr wq hq hn
    rw [pdC_six] at h
    exact h
  have henc : ∀ wq, IsT wq (.slice ao l.length c) l → Calls Tryz.prog 22 #[.agg (pdC (.slice ao l.length c) (vtC sl ix b es rs et rt) de pr).toArray] wq fun x w' => ∃ v, x = .returned v ∧ Row w' wq.heap.size v (pdBS l sl ix b es rs et rt de pr) ∧ Below wq.heap.size wq w' := fun wq hq => by
    have h := pending_any ao l.length c l sl ix b es rs et rt de pr wq hq (by omega) hsl hix hb hb8 hes hrs hrs8 het hrt hrt8 hde hpr
    rw [pdB l sl ix b es rs et rt de pr hb hrs hrt] at h
    exact h
  have henv : ∀ p u wq, DAt wq (dBox [dBits, dBox [dNum, dNum, dRoot, dBox [dNum, dRoot], dBox [dNum, dRoot]], dNum, dNum]) p → IsV wq u (pdV6 ao c l sl ix b es rs et rt de pr) → Calls Tryz.prog 13 #[.pointer (some ⟨p, 0, none⟩), u] wq fun x w' => ∃ v, x = .returned v ∧ Row w' wq.heap.size v (pdBS l sl ix b es rs et rt de pr) ∧ Below wq.heap.size wq w' := fun p u wq hD hV => by
    have h := enc_any _ _ u p wq pdK_ok (pdV_ok ao c l sl ix b es rs et rt de pr hn hb hrs hrt) hD hV
    rw [pdV_enc ao c l sl ix b es rs et rt de pr hb hrs hrt] at h
    exact h
  have hsm : ∀ Y u v wq, IsV wq u Y → IsV wq v Y → Calls Tryz.prog 15 #[u, v] wq fun x w' => x = .returned (.bool true) ∧ Below wq.heap.size wq w' := fun Y u v wq hu hv => by
    have h := same_any _ _ u v wq hu hv
    rw [sameV_refl] at h
    exact h
  have hBl := pdBS_len l sl ix b es rs et rt de pr hn hb hrs hrt
  have hB8 := pdBS_byte l sl ix b es rs et rt de pr hb8 hrs8 hrt8
  obtain ⟨r1, r2, r3, r4, r5⟩ := pd_read l sl ix b es rs et rt de pr hsl hix hes het hde hpr hb hrs hrt
  by_cases hle : l.length ≤ 32
  · refine codecPending_good _ pd0 ao c l (fun u => pdC u (vtC sl ix b es rs et rt) de pr) (pdV6 ao c l sl ix b es rs et rt de pr) (pdBS l sl ix b es rs et rt de pr) _ w Tryz.ty54 hCl hC1 rfl hn hIT hB8 (fun wq hq => href ao c wq hq) henc (fun v wq hI => ?_) (fun u wq hu => ?_) (fun u wq hu => ?_) hle (fun wq => dpd_any wq) henv hsm
    · have h := toPd_good v _ l wq hI hBl r1 (by rw [r2]; exact take_lim l 32 hle)
      rw [r3, r4, r5] at h
      exact h
    · exact ⟨(pdC_length hVl).trans (show (103 : Nat) = pd0.length by kernel_rfl), pdC_one (isT_oneCell hu) hV1⟩
    · obtain ⟨ao', c', rfl, _⟩ := id hu
      exact href ao' c' wq hu
  · refine codecPending_bad _ pd0 ao c l (pdV6 ao c l sl ix b es rs et rt de pr) (pdBS l sl ix b es rs et rt de pr) _ w Tryz.ty54 hCl hC1 rfl hn hIT hB8 (fun wq hq => href ao c wq hq) henc (pdV6 none 0 [] 0 0 (zeros 32) 0 (zeros 32) 0 (zeros 32) 0 0) (fun v wq hI => ?_) pd0_one pd0_built (fun wq => ?_) (by omega) (fun wq => dpd_any wq) henv hsm
    · have h := toPd_bad v _ wq hI hBl (.inr (by rw [r2]; exact take_more l 32 (by omega)))
      exact h
    · have hz : (zeros 32).length = 32 := rfl
      have h := pdV6_any none 0 [] 0 0 (zeros 32) 0 (zeros 32) 0 (zeros 32) 0 0 (by decide) (by decide) ⟨hz, zeros_byte 32⟩ (by decide) ⟨hz, zeros_byte 32⟩ (by decide) ⟨hz, zeros_byte 32⟩ (by decide) (by decide) wq (isT_nil wq) (by decide)
      rw [pdC_six] at h
      exact h
end Go.Proofs.YtoajeencniomoaaGreat

/- Structs that came in by value. -/
namespace Go.Proofs.YtoajeencniomoaaGreat
open Go.RowKit Go.Deep Go.WideShapes
set_option linter.unusedVariables false
set_option linter.unusedSimpArgs false
set_option maxRecDepth 100000

abbrev Rt (r : List Nat) : Prop := r.length = 32 ∧ ∀ z ∈ r, z < 256
theorem cellsRt : Tryz.prog.cellsOf 24 = 32 := by kernel_rfl
theorem cellsU8 : Tryz.prog.cellsOf 5 = 1 := by kernel_rfl
theorem cellsU64 : Tryz.prog.cellsOf 22 = 1 := by kernel_rfl
/-- Parts of a list, one behind the other. -/
def cutAt {α : Type} (cs : List α) : Nat → List Nat → List (List α)
  | _, [] => []
  | o, k :: ks => (cs.drop o).take k :: cutAt cs (o + k) ks
theorem cut_flat {α : Type} (cs : List α) : ∀ (ks : List Nat) (o : Nat), o + ks.sum = cs.length → cs.drop o = (cutAt cs o ks).flatten := by
  intro ks
  induction ks with
  | nil => intro o h; simp at h; rw [h, List.drop_length]; rfl
  | cons k ks ih =>
    intro o h
    rw [cutAt, List.flatten_cons, ← ih (o + k) (by simp at h; omega), ← List.drop_drop, List.take_append_drop]
section
variable {H : Type} {enc : TypeId × Value → H} {W : World} {b0 : Nat} {sp : Nat → Bool} {held : Bool}
theorem root_of_trod {fuel : Nat} {cs : List Value} {x : DataW H × List MemPlace} (h : DataW.trod enc Tryz.prog W b0 sp held fuel 24 cs = some x) : ∃ r : List Nat, cs = cellsB r ∧ r.length = 32 ∧ ∀ z ∈ r, z < 256 := by
  obtain ⟨xs, m, _, _, hl, hxs, hel⟩ := DataW.trod_array Tryz.und24 h
  rw [cellsRt] at hl
  have key : ∀ i (hi : i < cs.length), ∃ n : Nat, cs[i] = .int .u8 (n : Int) ∧ n < 256 := by
    intro i hi
    have h1 := hel i (by omega)
    rw [cellsU8, Nat.mul_one, List.getElem?_eq_getElem (by omega)] at h1
    obtain ⟨n, e1, _, hw⟩ := DataW.trod_int Tryz.underlying5 h1
    have hb := bounds_u8 hw
    have e2 : (cs.drop i).take 1 = [cs[i]] := by
      rw [List.drop_eq_getElem_cons hi, List.take_succ_cons, List.take_zero]
    have e3 : [cs[i]] = [Value.int .u8 n] := e2.symm.trans e1
    refine ⟨n.toNat, ?_, by omega⟩
    have e4 : cs[i] = Value.int .u8 n := by simpa using e3
    rw [e4]
    congr 1
    omega
  refine ⟨cs.map fun v => (intOf v).toNat, ?_, by simp [hl], ?_⟩
  · unfold cellsB
    apply List.ext_getElem
    · simp
    · intro i h1 h2
      obtain ⟨n, e, hn⟩ := key i h1
      simp [e, intOf]
  · intro z hz
    obtain ⟨v, hv, rfl⟩ := List.mem_map.1 hz
    obtain ⟨i, hi, rfl⟩ := List.mem_iff_getElem.1 hv
    obtain ⟨n, e, hn⟩ := key i hi
    simp [e, intOf, hn]
theorem num_of_trod {fuel : Nat} {cs : List Value} {x : DataW H × List MemPlace} (h : DataW.trod enc Tryz.prog W b0 sp held fuel 22 cs = some x) : ∃ n : Nat, cs = [.int .u64 (n : Nat)] ∧ n < 18446744073709551616 := by
  obtain ⟨i, e, _, hw⟩ := DataW.trod_int Tryz.underlying22 h
  have hb := bounds_u64 hw
  refine ⟨i.toNat, ?_, by omega⟩
  rw [e, Int.toNat_of_nonneg hb.1]
theorem cellsBo : Tryz.prog.cellsOf 4 = 1 := by kernel_rfl
theorem cellsBs : Tryz.prog.cellsOf 30 = 1 := by kernel_rfl
theorem bits_of_trod {fuel : Nat} {cs : List Value} {x : DataW H × List MemPlace} (h : DataW.trod enc Tryz.prog W b0 (fun _ => true) held fuel 30 cs = some x) : ∃ (ao : Option Addr) (c : Nat) (l : List Bool), cs = [.slice ao l.length c] ∧ IsT W (.slice ao l.length c) l := by
  rcases open_bools Tryz.underlying30 Tryz.underlying4 cellsBo h with ⟨hcs, _⟩ | ⟨a, len, cap, B, hcs, _, hl, hm, _, hcell⟩
  · exact ⟨none, 0, [], hcs, none, 0, rfl, Nat.le_refl _, by decide, .inl rfl⟩
  · refine ⟨some a, cap, (List.range len).map B, by simpa using hcs, some a, cap, rfl, by simpa using hl, hm, ?_⟩
    by_cases h0 : len = 0
    · exact .inl (by simpa using h0)
    · obtain ⟨b, off, spot⟩ := a
      obtain rfl : spot = none := by
        have := hcell 0 (by omega)
        simpa [Addr.add] using World.cell?_spot this
      refine .inr ⟨b, off, rfl, fun i hi => ?_⟩
      have hi' : i < len := by simpa using hi
      have := hcell i (by omega)
      rw [Addr.add_lit] at this
      rw [this]
      simp [hi']
theorem cells_cp : Tryz.prog.cellsOf 26 = 33 := by kernel_rfl
theorem cp_of_trod {fuel : Nat} {cs : List Value} {x : DataW H × List MemPlace} (h : DataW.trod enc Tryz.prog W b0 sp held fuel 26 cs = some x) : ∃ (ze : Nat) (zr : List Nat), cs = cpC ze zr ∧ ze < 18446744073709551616 ∧ Rt zr := by
  obtain ⟨xs, n, _, _, hl, hlen, hf⟩ := DataW.trod_struct Tryz.underlying26 h
  rw [cells_cp] at hl
  have hx : xs.length = 2 := hlen
  have f0 : ∃ y, DataW.trod enc Tryz.prog W b0 sp held n 22 ((cs.drop 0).take 1) = some y := by
    have := hf 0 _ rfl
    change DataW.trod enc Tryz.prog W b0 sp held n 22 (List.take (Tryz.prog.cellsOf 22) (List.drop 0 cs)) = xs[0]? at this
    rw [cellsU64, List.getElem?_eq_getElem (by omega)] at this
    exact ⟨_, this⟩
  obtain ⟨y0, f0⟩ := f0
  obtain ⟨ze, e0, hze⟩ := num_of_trod f0
  have f1 : ∃ y, DataW.trod enc Tryz.prog W b0 sp held n 24 ((cs.drop 1).take 32) = some y := by
    have := hf 1 _ rfl
    change DataW.trod enc Tryz.prog W b0 sp held n 24 (List.take (Tryz.prog.cellsOf 24) (List.drop 1 cs)) = xs[1]? at this
    rw [cellsRt, List.getElem?_eq_getElem (by omega)] at this
    exact ⟨_, this⟩
  obtain ⟨y1, f1⟩ := f1
  obtain ⟨zr, e1, hzr⟩ := root_of_trod f1
  have hc := cut_flat cs [1, 32] 0 (by rw [hl]; rfl)
  rw [List.drop_zero] at e0
  simp only [cutAt, List.drop_zero, Nat.zero_add, Nat.reduceAdd, e0, e1] at hc
  refine ⟨ze, zr, by rw [hc]; simp [cpC], hze, hzr⟩
theorem open_cp {base : Nat} {v : Value} {d : DataW H} {p : List MemPlace} (hv : Value.okWide Tryz.prog W .any base 26 v) (h : DataW.Trod enc Tryz.prog W b0 sp held 26 v d p) : ∃ (ze : Nat) (zr : List Nat), v = .agg (cpC ze zr).toArray ∧ ze < 18446744073709551616 ∧ Rt zr := by
  obtain ⟨cs, rfl, _⟩ := okWide_struct Tryz.underlying26 hv
  obtain ⟨fuel, hf⟩ := h
  obtain ⟨ze, zr, e, hze, hzr⟩ := cp_of_trod hf
  exact ⟨ze, zr, by rw [← Array.toList_inj.1 (show cs.toList = (cpC ze zr).toArray.toList from e)], hze, hzr⟩
theorem cells_vt : Tryz.prog.cellsOf 28 = 100 := by kernel_rfl
theorem vt_of_trod {fuel : Nat} {cs : List Value} {x : DataW H × List MemPlace} (h : DataW.trod enc Tryz.prog W b0 sp held fuel 28 cs = some x) : ∃ (zs : Nat) (zi : Nat) (zb : List Nat) (zcze : Nat) (zczr : List Nat) (ztze : Nat) (ztzr : List Nat), cs = vtC zs zi zb zcze zczr ztze ztzr ∧ zs < 18446744073709551616 ∧ zi < 18446744073709551616 ∧ Rt zb ∧ zcze < 18446744073709551616 ∧ Rt zczr ∧ ztze < 18446744073709551616 ∧ Rt ztzr := by
  obtain ⟨xs, n, _, _, hl, hlen, hf⟩ := DataW.trod_struct Tryz.underlying28 h
  rw [cells_vt] at hl
  have hx : xs.length = 5 := hlen
  have f0 : ∃ y, DataW.trod enc Tryz.prog W b0 sp held n 22 ((cs.drop 0).take 1) = some y := by
    have := hf 0 _ rfl
    change DataW.trod enc Tryz.prog W b0 sp held n 22 (List.take (Tryz.prog.cellsOf 22) (List.drop 0 cs)) = xs[0]? at this
    rw [cellsU64, List.getElem?_eq_getElem (by omega)] at this
    exact ⟨_, this⟩
  obtain ⟨y0, f0⟩ := f0
  obtain ⟨zs, e0, hzs⟩ := num_of_trod f0
  have f1 : ∃ y, DataW.trod enc Tryz.prog W b0 sp held n 22 ((cs.drop 1).take 1) = some y := by
    have := hf 1 _ rfl
    change DataW.trod enc Tryz.prog W b0 sp held n 22 (List.take (Tryz.prog.cellsOf 22) (List.drop 1 cs)) = xs[1]? at this
    rw [cellsU64, List.getElem?_eq_getElem (by omega)] at this
    exact ⟨_, this⟩
  obtain ⟨y1, f1⟩ := f1
  obtain ⟨zi, e1, hzi⟩ := num_of_trod f1
  have f2 : ∃ y, DataW.trod enc Tryz.prog W b0 sp held n 24 ((cs.drop 2).take 32) = some y := by
    have := hf 2 _ rfl
    change DataW.trod enc Tryz.prog W b0 sp held n 24 (List.take (Tryz.prog.cellsOf 24) (List.drop 2 cs)) = xs[2]? at this
    rw [cellsRt, List.getElem?_eq_getElem (by omega)] at this
    exact ⟨_, this⟩
  obtain ⟨y2, f2⟩ := f2
  obtain ⟨zb, e2, hzb⟩ := root_of_trod f2
  have f3 : ∃ y, DataW.trod enc Tryz.prog W b0 sp held n 26 ((cs.drop 34).take 33) = some y := by
    have := hf 3 _ rfl
    change DataW.trod enc Tryz.prog W b0 sp held n 26 (List.take (Tryz.prog.cellsOf 26) (List.drop 34 cs)) = xs[3]? at this
    rw [cells_cp, List.getElem?_eq_getElem (by omega)] at this
    exact ⟨_, this⟩
  obtain ⟨y3, f3⟩ := f3
  obtain ⟨zcze, zczr, e3, hzcze, hzczr⟩ := cp_of_trod f3
  have f4 : ∃ y, DataW.trod enc Tryz.prog W b0 sp held n 26 ((cs.drop 67).take 33) = some y := by
    have := hf 4 _ rfl
    change DataW.trod enc Tryz.prog W b0 sp held n 26 (List.take (Tryz.prog.cellsOf 26) (List.drop 67 cs)) = xs[4]? at this
    rw [cells_cp, List.getElem?_eq_getElem (by omega)] at this
    exact ⟨_, this⟩
  obtain ⟨y4, f4⟩ := f4
  obtain ⟨ztze, ztzr, e4, hztze, hztzr⟩ := cp_of_trod f4
  have hc := cut_flat cs [1, 1, 32, 33, 33] 0 (by rw [hl]; rfl)
  rw [List.drop_zero] at e0
  simp only [cutAt, List.drop_zero, Nat.zero_add, Nat.reduceAdd, e0, e1, e2, e3, e4] at hc
  refine ⟨zs, zi, zb, zcze, zczr, ztze, ztzr, by rw [hc]; simp [vtC], hzs, hzi, hzb, hzcze, hzczr, hztze, hztzr⟩
theorem open_vt {base : Nat} {v : Value} {d : DataW H} {p : List MemPlace} (hv : Value.okWide Tryz.prog W .any base 28 v) (h : DataW.Trod enc Tryz.prog W b0 sp held 28 v d p) : ∃ (zs : Nat) (zi : Nat) (zb : List Nat) (zcze : Nat) (zczr : List Nat) (ztze : Nat) (ztzr : List Nat), v = .agg (vtC zs zi zb zcze zczr ztze ztzr).toArray ∧ zs < 18446744073709551616 ∧ zi < 18446744073709551616 ∧ Rt zb ∧ zcze < 18446744073709551616 ∧ Rt zczr ∧ ztze < 18446744073709551616 ∧ Rt ztzr := by
  obtain ⟨cs, rfl, _⟩ := okWide_struct Tryz.underlying28 hv
  obtain ⟨fuel, hf⟩ := h
  obtain ⟨zs, zi, zb, zcze, zczr, ztze, ztzr, e, hzs, hzi, hzb, hzcze, hzczr, hztze, hztzr⟩ := vt_of_trod hf
  exact ⟨zs, zi, zb, zcze, zczr, ztze, ztzr, by rw [← Array.toList_inj.1 (show cs.toList = (vtC zs zi zb zcze zczr ztze ztzr).toArray.toList from e)], hzs, hzi, hzb, hzcze, hzczr, hztze, hztzr⟩
theorem cells_pd : Tryz.prog.cellsOf 54 = 103 := by kernel_rfl
theorem pd_of_trod {fuel : Nat} {cs : List Value} {x : DataW H × List MemPlace} (h : DataW.trod enc Tryz.prog W b0 (fun _ => true) held fuel 54 cs = some x) : ∃ (zbo : Option Addr) (zbc : Nat) (zbl : List Bool) (zdzs : Nat) (zdzi : Nat) (zdzb : List Nat) (zdzcze : Nat) (zdzczr : List Nat) (zdztze : Nat) (zdztzr : List Nat) (zde : Nat) (zpr : Nat), cs = pdC (.slice zbo zbl.length zbc) (vtC zdzs zdzi zdzb zdzcze zdzczr zdztze zdztzr) zde zpr ∧ zdzs < 18446744073709551616 ∧ zdzi < 18446744073709551616 ∧ Rt zdzb ∧ zdzcze < 18446744073709551616 ∧ Rt zdzczr ∧ zdztze < 18446744073709551616 ∧ Rt zdztzr ∧ zde < 18446744073709551616 ∧ zpr < 18446744073709551616 ∧ IsT W (.slice zbo zbl.length zbc) zbl := by
  obtain ⟨xs, n, _, _, hl, hlen, hf⟩ := DataW.trod_struct Tryz.underlying54 h
  rw [cells_pd] at hl
  have hx : xs.length = 4 := hlen
  have f0 : ∃ y, DataW.trod enc Tryz.prog W b0 (fun _ => true) held n 30 ((cs.drop 0).take 1) = some y := by
    have := hf 0 _ rfl
    change DataW.trod enc Tryz.prog W b0 (fun _ => true) held n 30 (List.take (Tryz.prog.cellsOf 30) (List.drop 0 cs)) = xs[0]? at this
    rw [cellsBs, List.getElem?_eq_getElem (by omega)] at this
    exact ⟨_, this⟩
  obtain ⟨y0, f0⟩ := f0
  obtain ⟨zbo, zbc, zbl, e0, hzb⟩ := bits_of_trod f0
  have f1 : ∃ y, DataW.trod enc Tryz.prog W b0 (fun _ => true) held n 28 ((cs.drop 1).take 100) = some y := by
    have := hf 1 _ rfl
    change DataW.trod enc Tryz.prog W b0 (fun _ => true) held n 28 (List.take (Tryz.prog.cellsOf 28) (List.drop 1 cs)) = xs[1]? at this
    rw [cells_vt, List.getElem?_eq_getElem (by omega)] at this
    exact ⟨_, this⟩
  obtain ⟨y1, f1⟩ := f1
  obtain ⟨zdzs, zdzi, zdzb, zdzcze, zdzczr, zdztze, zdztzr, e1, hzdzs, hzdzi, hzdzb, hzdzcze, hzdzczr, hzdztze, hzdztzr⟩ := vt_of_trod f1
  have f2 : ∃ y, DataW.trod enc Tryz.prog W b0 (fun _ => true) held n 22 ((cs.drop 101).take 1) = some y := by
    have := hf 2 _ rfl
    change DataW.trod enc Tryz.prog W b0 (fun _ => true) held n 22 (List.take (Tryz.prog.cellsOf 22) (List.drop 101 cs)) = xs[2]? at this
    rw [cellsU64, List.getElem?_eq_getElem (by omega)] at this
    exact ⟨_, this⟩
  obtain ⟨y2, f2⟩ := f2
  obtain ⟨zde, e2, hzde⟩ := num_of_trod f2
  have f3 : ∃ y, DataW.trod enc Tryz.prog W b0 (fun _ => true) held n 22 ((cs.drop 102).take 1) = some y := by
    have := hf 3 _ rfl
    change DataW.trod enc Tryz.prog W b0 (fun _ => true) held n 22 (List.take (Tryz.prog.cellsOf 22) (List.drop 102 cs)) = xs[3]? at this
    rw [cellsU64, List.getElem?_eq_getElem (by omega)] at this
    exact ⟨_, this⟩
  obtain ⟨y3, f3⟩ := f3
  obtain ⟨zpr, e3, hzpr⟩ := num_of_trod f3
  have hc := cut_flat cs [1, 100, 1, 1] 0 (by rw [hl]; rfl)
  rw [List.drop_zero] at e0
  simp only [cutAt, List.drop_zero, Nat.zero_add, Nat.reduceAdd, e0, e1, e2, e3] at hc
  refine ⟨zbo, zbc, zbl, zdzs, zdzi, zdzb, zdzcze, zdzczr, zdztze, zdztzr, zde, zpr, by rw [hc]; simp [pdC], hzdzs, hzdzi, hzdzb, hzdzcze, hzdzczr, hzdztze, hzdztzr, hzde, hzpr, hzb⟩
theorem open_pd {base : Nat} {v : Value} {d : DataW H} {p : List MemPlace} (hv : Value.okWide Tryz.prog W .any base 54 v) (h : DataW.Trod enc Tryz.prog W b0 (fun _ => true) held 54 v d p) : ∃ (zbo : Option Addr) (zbc : Nat) (zbl : List Bool) (zdzs : Nat) (zdzi : Nat) (zdzb : List Nat) (zdzcze : Nat) (zdzczr : List Nat) (zdztze : Nat) (zdztzr : List Nat) (zde : Nat) (zpr : Nat), v = .agg (pdC (.slice zbo zbl.length zbc) (vtC zdzs zdzi zdzb zdzcze zdzczr zdztze zdztzr) zde zpr).toArray ∧ zdzs < 18446744073709551616 ∧ zdzi < 18446744073709551616 ∧ Rt zdzb ∧ zdzcze < 18446744073709551616 ∧ Rt zdzczr ∧ zdztze < 18446744073709551616 ∧ Rt zdztzr ∧ zde < 18446744073709551616 ∧ zpr < 18446744073709551616 ∧ IsT W (.slice zbo zbl.length zbc) zbl := by
  obtain ⟨cs, rfl, _⟩ := okWide_struct Tryz.underlying54 hv
  obtain ⟨fuel, hf⟩ := h
  obtain ⟨zbo, zbc, zbl, zdzs, zdzi, zdzb, zdzcze, zdzczr, zdztze, zdztzr, zde, zpr, e, hzdzs, hzdzi, hzdzb, hzdzcze, hzdzczr, hzdztze, hzdztzr, hzde, hzpr, hzb⟩ := pd_of_trod hf
  exact ⟨zbo, zbc, zbl, zdzs, zdzi, zdzb, zdzcze, zdzczr, zdztze, zdztzr, zde, zpr, by rw [← Array.toList_inj.1 (show cs.toList = (pdC (.slice zbo zbl.length zbc) (vtC zdzs zdzi zdzb zdzcze zdzczr zdztze zdztzr) zde zpr).toArray.toList from e)], hzdzs, hzdzi, hzdzb, hzdzcze, hzdzczr, hzdztze, hzdztzr, hzde, hzpr, hzb⟩
end
end Go.Proofs.YtoajeencniomoaaGreat

