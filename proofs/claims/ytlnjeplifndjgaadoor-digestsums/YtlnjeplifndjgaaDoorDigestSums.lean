/- For all bytes b, keystonelaw02.DigestSums answers true: the digest of b is the document's, and what is handed in stays, spare room included; the two tables stand as the program's text lays them (tied). -/
import Derived.Test.YtlnjeplifndjgaaDoorCards
import Derived.Test.YtlnjeplifndjgaaDoorTie
import Derived.Test.YtlnjeplifndjgaaDoorLaid
import Derived.Test.YtlnjeplifndjgaaDoorAwake2
import Derived.Test.YtlnjeplifndjgaaDoorEqual
import Derived.Test.YtlnjeplifndjgaaDoorApp
import Derived.ProofKit
import Derived.OpenShut
import Derived.ShutString
import Derived.ChangeOld
import Derived.SevenTiedAt
import Derived.Stop.Joined
namespace Go.Proofs.YtlnjeplifndjgaaDoor.digestSums
open Go.ChangeShapes Go.WideShapes Go.ChangeAt Go.RowKit
set_option linter.unusedVariables false
set_option maxRecDepth 100000

theorem own : ownKnob Tryd.prog.godebug = none := by kernel_rfl
theorem laidOut : laidOutB Tryd.prog = true := by kernel_rfl

/-- WHAT THE WALK IS TOLD OF A SLICE OF INTEGERS THAT CAME IN. -/
def IsRow (k : IntKind) (w : World) (a : Option Addr) (len cap : Nat) (zs : List Int) : Prop :=
  (a = none ∧ len = 0 ∧ cap = 0 ∧ zs = []) ∨
  ∃ x, a = some x ∧ len ≤ cap ∧ cap ≤ maxLen ∧ zs.length = cap ∧ (∀ i, i < zs.length → w.cell? (x.add i) = some (.int k (zs.getD i 0))) ∧ ∀ n ∈ zs, (Lit.int k n).wf = true

/-- What came in, as the contracts ask for it. -/
theorem reads_row {w : World} {a : Option Addr} {len cap : Nat} {zs : List Int} (h : IsRow .u8 w a len cap zs) :
    ∃ bs : List Nat, bs.length = len ∧ (∀ z ∈ bs, z < 256) ∧ Reads w a bs ∧ len ≤ cap ∧ cap ≤ maxLen := by
  rcases h with ⟨rfl, rfl, rfl, rfl⟩ | ⟨x, rfl, hl, hm, hz, hc, hwf⟩
  · exact ⟨[], rfl, (fun z hz => by cases hz), .inl rfl, Nat.le_refl _, by decide⟩
  · refine ⟨(zs.take len).map Int.toNat, by simp; omega, fun z hz' => ?_, ?_, hl, hm⟩
    · obtain ⟨y, hy, rfl⟩ := List.mem_map.1 hz'
      have := bounds_u8 (hwf y (List.mem_of_mem_take hy))
      omega
    · by_cases h0 : len = 0
      · exact .inl (by simp [h0])
      · obtain ⟨b, off, rfl, hc'⟩ := ints_at hc (by omega)
        refine .inr ⟨b, off, rfl, fun i hi => ?_⟩
        have hi' : i < len := by simp at hi; omega
        rw [hc' i (by omega)]
        have hb := bounds_u8 (hwf (zs.getD i 0) (by rw [List.getD_eq_getElem?_getD, List.getElem?_eq_getElem (by omega)]; exact List.getElem_mem _))
        have e : ((zs.take len).map Int.toNat).getD i 0 = (zs.getD i 0).toNat := by
          simp [List.getD_eq_getElem?_getD, hi', show i < zs.length by omega]
        rw [e]
        congr 2
        omega
theorem spare_src (w : World) : Src Tryd.prog 1 9 (.string ⟨#[115, 112, 97, 114, 101]⟩) ([115, 112, 97, 114, 101] : List Nat).length (([115, 112, 97, 114, 101] : List Nat).map fun n : Nat => Value.int .u8 (n : Int)) w :=
  Src.ofString w Tryd.underlying9 ⟨#[115, 112, 97, 114, 101]⟩
theorem bytes_src {w : World} {ao : Option Addr} {zs : List Nat} (h : Reads w ao zs) (cap : Nat) (hn : ao = none → zs.length = 0) : Src Tryd.prog 1 22 (.slice ao zs.length cap) zs.length (zs.map fun n : Nat => Value.int .u8 (n : Int)) w := by
  rcases ao with _ | ad
  · obtain rfl : zs = [] := List.eq_nil_of_length_eq_zero (hn rfl)
    exact Src.ofNil w Tryd.underlying22 cap
  · refine Src.ofSlice w Tryd.underlying22 ad zs.length cap _ (by simp) (fun j u hj => ?_) (fun u hu => by obtain ⟨n, _, rfl⟩ := List.mem_map.1 hu; rfl)
    have hjl : j < zs.length := by
      by_cases hjl : j < zs.length
      · exact hjl
      · rw [List.getElem?_eq_none (by simp; omega)] at hj; cases hj
    obtain ⟨ad', e1, hc⟩ := h.src (by omega)
    cases e1
    rw [hc j hjl]
    simpa [hjl] using hj

theorem info5 : ∃ i, Tryd.prog.info? 5 = some i ∧ i.size = 1 := by
  have := Tryd.one5
  cases hq : Tryd.prog.info? 5 with
  | none => simp [hq] at this
  | some i => simp [hq] at this; exact ⟨i, rfl, this⟩

theorem fold_push (l : List Int) : ∀ r : ByteArray, l.foldl (fun r n => r.push (UInt8.ofNat n.toNat)) r = ⟨r.data ++ (l.map fun n => UInt8.ofNat n.toNat).toArray⟩ := by
  induction l with
  | nil => intro r; simp
  | cons x l ih =>
    intro r
    rw [List.foldl_cons, ih]
    simp [ByteArray.push]
theorem strOf_eq (l : List Nat) : strOf l = ⟨(l.map fun n : Nat => UInt8.ofNat ((n : Int).toNat)).toArray⟩ := by
  rw [strOf, fold_push]
  simp
theorem strOf_spare (l : List Nat) : strOf (l ++ [115, 112, 97, 114, 101]) = strOf l ++ ⟨#[115, 112, 97, 114, 101]⟩ := by
  rw [strOf_eq, strOf_eq]
  apply ByteArray.ext
  simp
theorem strOf_size (l : List Nat) : (strOf l).size = l.length := by
  rw [strOf_eq]
  simp [ByteArray.size]

theorem row_take (bs : List Nat) : (over (over (zeros (bs.length + 9)) 0 bs) bs.length [115, 112, 97, 114, 101]).take (bs.length + 5) = bs ++ [115, 112, 97, 114, 101] := by
  have h1 : (over (zeros (bs.length + 9)) 0 bs).length = bs.length + 9 := by rw [over_length _ _ _ (by rw [zeros_length]; omega), zeros_length]
  have h2 : (over (over (zeros (bs.length + 9)) 0 bs) bs.length [115, 112, 97, 114, 101]).length = bs.length + 9 := by rw [over_length _ _ _ (by rw [h1]; simp), h1]
  apply ext_getD
  · rw [List.length_take, h2, List.length_append]; simp
  · intro i hi
    rw [List.length_take, h2] at hi
    rw [take_getD _ _ _ (by omega), over_getD_at _ _ _ _ (by rw [h1]; simp), append_getD, over_getD]
    simp only [List.length_cons, List.length_nil]
    by_cases h3 : i < bs.length
    · rw [if_neg (by omega), if_pos h3, if_pos h3]
    · rw [if_pos ⟨by omega, by omega⟩, if_neg h3]
theorem row_front (bs : List Nat) (i : Nat) (hi : i < bs.length) : (over (over (zeros (bs.length + 9)) 0 bs) bs.length [115, 112, 97, 114, 101]).getD i 0 = bs.getD i 0 := by
  have h1 : (over (zeros (bs.length + 9)) 0 bs).length = bs.length + 9 := by rw [over_length _ _ _ (by rw [zeros_length]; omega), zeros_length]
  rw [over_getD_at _ _ _ _ (by rw [h1]; simp), if_neg (by omega), over_getD, if_pos hi]
theorem row_length (bs : List Nat) : (over (over (zeros (bs.length + 9)) 0 bs) bs.length [115, 112, 97, 114, 101]).length = bs.length + 9 := by
  have h1 : (over (zeros (bs.length + 9)) 0 bs).length = bs.length + 9 := by rw [over_length _ _ _ (by rw [zeros_length]; omega), zeros_length]
  rw [over_length _ _ _ (by rw [h1]; simp), h1]

set_option maxHeartbeats 1000000 in
theorem walk (a0 : Option Addr) (len0 cap0 : Nat) (z0 : List Int) (w : World) (hT : Tabs w) (w0 : IsRow .u8 w a0 len0 cap0 z0) :
    Calls Tryd.prog 3 #[.slice a0 len0 cap0] w fun e w' => e = .returned (.bool true) ∧ Below w.heap.size w w' := by
  have hnil : a0 = none → len0 = 0 := by
    rcases w0 with ⟨_, h, _⟩ | ⟨x, h, _⟩
    · exact fun _ => h
    · intro e; rw [h] at e; cases e
  obtain ⟨bs, rfl, hby, hR, hcap, hm⟩ := reads_row w0
  have hm2 := hm
  unfold maxLen at hm2
  clear w0
  by_cases hlen : 3000 < bs.length
  · go_enter Tryd.func3, Tryd.ntmps3
    go_wp2_with fail
    refine (awake_any w hT).mono ?_
    rintro e w1 ⟨rfl, B1⟩
    go_wp2
    go_ret
    exact ⟨rfl, B1⟩
  · obtain ⟨i5, hi5, hz5⟩ := info5
    have HI := hid hi5
    have HZ := hid hz5
    clear hi5 hz5
    have hsl : ([115, 112, 97, 114, 101] : List Nat).length = 5 := rfl
    have hz9 : (zeros (bs.length + 9)).length = bs.length + 9 := zeros_length _
    have HZ9 := hid hz9
    have HSL := hid hsl
    clear hz9 hsl
    go_enter Tryd.func3, Tryd.ntmps3
    go_wp2_with fail
    refine (awake_any w hT).mono ?_
    rintro e w1 ⟨rfl, B1⟩
    go_wp2_with (first
      | (refine wpList_make_cap rfl (.const (.int .i64 0)) (.tmp 11) 22 rfl 5 .u8 Tryd.underlying22 Tryd.zero5 .i64 .i64 _ _ 0 (bs.length + 9) rfl rfl rfl (by go_num) (by omega) (by omega) ?_; intro w2 H2 B2 S2; replace S2 := hid S2)
      | (refine wpList_append_has rfl (.tmp 12) (.tmp 13) 22 22 rfl 5 i5 Tryd.underlying22 HI.out HZ.out w1.heap.size 0 (bs.length + 9) rfl _ rfl .u8 (zeros (bs.length + 9)) 5 H2 bs (by exact bytes_src ((hR.keep B1).keep B2) cap0 hnil) HZ9.out (by omega) ?_; intro w3 H3 O3; rw [Nat.zero_add]; have h3l : (over (zeros (bs.length + 9)) 0 bs).length = bs.length + 9 := (by rw [over_length _ _ _ (by rw [HZ9.out]; omega), HZ9.out]); replace h3l := hid h3l)
      | (refine wpList_append_has rfl (.tmp 14) (.const (.string ⟨#[115, 112, 97, 114, 101]⟩)) 22 9 rfl 5 i5 Tryd.underlying22 HI.out HZ.out w1.heap.size bs.length (bs.length + 9) rfl _ rfl .u8 (over (zeros (bs.length + 9)) 0 bs) 5 H3 [115, 112, 97, 114, 101] (by exact spare_src _) h3l.out (by rw [HSL.out]; omega) ?_; intro w4 H4 O4; rw [HSL.out]))
    have hrl := row_length bs
    have hrf := row_front bs
    have hrt := row_take bs
    have n1 := B1.size
    have HW4 : Below w.heap.size w w4 := below_only (below_only (below_more B1 B2 (Nat.le_refl _)) O3 n1) O4 n1
    clear H2 B2 S2 H3 O3 h3l O4 HZ9 HI HZ HSL B1
    generalize over (over (zeros (bs.length + 9)) 0 bs) bs.length [115, 112, 97, 114, 101] = rw0 at *
    generalize w1.heap.size = Bb at *
    have hR4 : Reads w4 (some ⟨Bb, 0, none⟩) bs := .inr ⟨Bb, 0, rfl, fun i hi => by rw [Nat.zero_add, H4.cell i (by omega), hrf i hi]⟩
    refine (of_any (some ⟨Bb, 0, none⟩) (bs.length + 9) bs w4 (hT.keep HW4) (by omega) (by unfold maxLen; omega) (by omega) hby hR4).mono ?_
    rintro e w5 ⟨rfl, B5⟩
    have HW5 := below_more HW4 B5 (Nat.le_refl _)
    have H5 := H4.keep B5
    have HRF := hid hrf
    have HRT : Same _ _ := ⟨hrt⟩
    clear hR4 hrf hrt HW4 H4 B5
    have HO2 := hid (rof_any a0 cap0 bs w5 hcap hm (by omega) hby (hR.keep HW5))
    go_wp2_with fail
    refine HO2.out.mono ?_
    rintro e w6 ⟨rfl, B6⟩
    have HW6 := below_more HW5 B6 (Nat.le_refl _)
    have H6 := H5.keep B6
    have heq := eql_roots (sha bs) (sha bs) (sha_length _) (sha_length _) (sha_bytes _) (sha_bytes _) w6
    have hc1 := conv_take H6 (bs.length + 5) (bs.length + 9) (by omega)
    have hc2 := conv_reads (hR.keep HW6) cap0
    rw [HRT.out] at hc1
    rw [decide_eq_true rfl] at heq
    rw [strOf_spare] at hc1
    have hss : (strOf bs).size ≤ 3000 := by rw [strOf_size]; omega
    generalize strOf bs = sb at *
    clear HO2 HRF HRT H5 HW5 B6 hrl
    generalize sha bs = S at *
    go_wp2
    go_ret
    exact ⟨rfl, HW6⟩

/-- The door's own heap meets the condition. -/
theorem door_met (os : Os) (args : Array Value) : laidMetH Tryd.prog laidTwo ((World.doorLaid Tryd.prog 19 os).forCall (fun _ _ => 0) ⟨#[], args, []⟩).memory :=
  laidMetH_of_parts3 (fuel := 8) (laidMet_of_run' 8 (by kernel_rfl) (by kernel_rfl)) (by kernel_rfl) (by kernel_rfl)

theorem lifted (os : Os) (started : os.Started) (H : Type) (enc : TypeId × Value → H) :
    ReturnsInHanded {} Tryd.checked os 3 .any (fun w args => (Rows.digestSumsSpec.pre enc Tryd.prog Tryd.f3 [] false w args ∧ laidMetH Tryd.prog laidTwo w) ∧ sizedMet enc Tryd.prog Tryd.f3 (OpenSpec.ofChange Rows.digestSumsSpec) false w args)
      (Rows.digestSumsSpec.post enc Tryd.prog Tryd.f3 false true false false) := by
  refine returnsInHanded_of_change_and (C := Tryd.checked) (X := fun w _ => laidMetH Tryd.prog laidTwo w) (fun _ _ _ hh h => h.of_heap hh) own started (by kernel_rfl) Tryd.func3
    (ChangeSpec.witness_shaped (enc := enc) (C := Tryd.checked) (os := os) (X := fun w _ => laidMetH Tryd.prog laidTwo w) false (World.doorLaid Tryd.prog 19 os) #[.slice none 0 0] 8 rfl (World.shaped_of_RefB (by kernel_rfl) (by kernel_rfl)) (by kernel_rfl) (by kernel_rfl) (by kernel_rfl) (door_met os _)) ?_
  intro W base args ds gs before hval0 hW _ _ hL _
  have hval : ∀ (j : Nat) t v, Tryd.f3.params[j]? = some t → args[j]? = some v → Value.okWide Tryd.prog W .any base t v := hval0
  have hW' := hW
  obtain ⟨p, q, hA0, hV, rfl, hfz, hnd⟩ := hW
  have hA : DataW.TrodAll enc Tryd.prog W 0 (fun _ => true) true Tryd.f3.params.toList args.toList ds p := hA0
  rw [Tryd.params3] at hA hval
  obtain ⟨v0, vs0, d0, ds0, p0, q0, hargs, rfl, rfl, h0, r0⟩ := trodAll_cons hA
  obtain ⟨rfl, rfl, rfl⟩ := trodAll_nil r0
  obtain rfl : args = #[v0] := by cases args; simp_all
  obtain ⟨rfl, rfl⟩ := trodVars_none hV
  obtain ⟨a0, len0, cap0, rfl⟩ := okWide_slice Tryd.underlying22 (hval 0 22 v0 rfl rfl)
  have k0 := h0
  have lt0 : ∀ x ∈ p0, x.block < W.heap.size := by obtain ⟨m, hm⟩ := k0; exact DataW.trod_lt m _ _ _ hm
  obtain ⟨z0, w0⟩ : ∃ zs, IsRow .u8 W a0 len0 cap0 zs := by
    obtain ⟨fuel, hf⟩ := h0
    rcases open_ints Tryd.underlying22 Tryd.underlying5 (by kernel_rfl) hf with ⟨hcs, _⟩ | ⟨x, l, c, zs, hcs, _, hl, hm, hz, _, hcell, hwz⟩
    · simp [Value.cells] at hcs
      obtain ⟨rfl, rfl, rfl⟩ := hcs
      exact ⟨[], .inl ⟨rfl, rfl, rfl, rfl⟩⟩
    · simp [Value.cells] at hcs
      obtain ⟨rfl, rfl, rfl⟩ := hcs
      exact ⟨zs, .inr ⟨_, rfl, hl, hm, by simpa using hz, hcell, hwz⟩⟩
  clear hA0 hval0
  refine (walk a0 len0 cap0 z0 W (tabs_of_laid hL) w0).mono fun e W' ⟨he, bel⟩ => ?_
  subst he
  exact ⟨_, rfl, _, _, _, [], _, [], hW', trodAll_mk1 (shut_bool Tryd.underlying4 _), (trodAll_cons_mk (Below.trod laidOut (by kernel_rfl) (of_decide_eq_true (by kernel_rfl)) k0 bel lt0) trodAll_mk0), rfl, bel.frame _, fun h => by cases h⟩

theorem row_holds : Rows.DigestSumsSaid :=
  OpenClaim.holds_of_wide 3 Tryd.f3 rfl rfl rfl rfl rfl rfl rfl ⟨rfl, rfl, rfl, rfl, rfl⟩ rfl rfl rfl rfl rfl (by kernel_rfl) Tryd.func3 (by kernel_rfl)
    (of_decide_eq_true (by kernel_rfl)) (by unfold Func.isWrapper; first | (rw [if_pos (by decide +kernel)]; kernel_rfl) | (rw [if_neg (by decide +kernel)]; exact ⟨rfl, rfl⟩))
    (fun os started H enc _ => lifted os started H enc)

theorem proved : Rows.DigestSumsCardSaid :=
  Claim7.holds_tied_plain_at .later [] [.data, .data] true Rows.digestSumsCard.stood.harness false
    row_holds (fun _ h => by cases h) (by kernel_rfl) (fun _ h => by cases h) digestSums_row_tie rfl ⟨rfl, rfl⟩ (by kernel_rfl) rfl
    (fun f fn hf hfn => by
      obtain rfl : f = 3 := Option.some.inj ((show Tryd.prog.funcNamed Tryd.f3.name = some 3 by kernel_rfl).symm.trans hf) |>.symm
      obtain rfl : fn = Tryd.f3 := (Option.some.inj (Tryd.func3.symm.trans hfn)).symm
      exact ⟨by kernel_rfl, fun j t ht => by
        rw [Tryd.params3] at ht
        have h3 : t = 22 := by
          rcases j with _ | j
          · simpa using ht.symm
          · simp at ht
        subst h3
        exact (show Tryd.prog.wantsStandIn 22 = false by kernel_rfl)⟩)
    (by kernel_rfl)
end Go.Proofs.YtlnjeplifndjgaaDoor.digestSums
namespace Go.Proofs.YtlnjeplifndjgaaDoor
theorem digestSums_holds : Rows.DigestSumsCardSaid := digestSums.proved
#print axioms digestSums_holds
end Go.Proofs.YtlnjeplifndjgaaDoor
