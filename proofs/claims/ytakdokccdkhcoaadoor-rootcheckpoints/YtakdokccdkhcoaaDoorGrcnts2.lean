/- Own texts of the proof, joined: Tail RefOf HexPure Hex App Cls Equal Tree Roots ShaB. -/
import Derived.Test.YtakdokccdkhcoaaDoorGrcnts1
import Derived.StillTail
import Derived.Deep.Quiet
import Derived.Deep.QuietTactic
import Derived.BigQuiet
import Derived.Deep.AppendSrc
import Derived.Laws.AppendOwn
import Derived.Deep.RegionLaw
import Derived.Stop.BytesEq
import Derived.Deep.MidRow
/- A region that draws its order, whose operations only read (they may draw) up to a tail that waits for them all (a store at the end): one walk in the order of the text serves every order. Over the kit's two theorems on quiet regions and on tails. -/
namespace Go.Proofs.YtakdokccdkhcoaaDoor
open Go
section
variable {P : Program} {ops : Array Oper} {md : Region.Mode} {C : World → Prop}

/-- So many operations of the head, in whatever order, each quiet; then L. -/
def headQ (P : Program) (md : Region.Mode) (ops : Array Oper) (C : World → Prop) (n : Nat) (L : Array Bool → Act → Prop) : Nat → Array Bool → Act → Prop
  | 0, done, a => L done a
  | f + 1, done, a => Region.ready md ops done ≠ [] ∧ ∀ i, i ∈ Region.ready md ops done → i < n ∧ qOp P ops C i (headQ P md ops C n L f (done.setIfInBounds i true)) a

theorem any_of_headQ {n g : Nat} {L : Array Bool → Act → Prop} {Q : Exit → Act → World → Prop} (hL : ∀ done a w, C w → L done a → wpAny P md ops Q g done a w) (f : Nat) :
    ∀ (done : Array Bool) (a : Act) (w : World), C w → headQ P md ops C n L f done a → wpAny P md ops Q (f + g) done a w := by
  induction f with
  | zero => intro done a w hw h; rw [Nat.zero_add]; exact hL _ _ _ hw h
  | succ f ih =>
    intro done a w hw h
    rw [Nat.succ_add]
    exact ⟨fun e => absurd e h.1, fun i hi => wpOp_of_qOp hw (fun a' w' hw' hh => ih _ a' w' hw' hh) (h.2 i hi).2⟩

theorem headQ_first {n i : Nat} {oi : Oper} {v : Value} {L : Array Bool → Act → Prop} (hi : ops[i]? = some oi) (hsel : Region.noSelect ops = true) (hs : Region.sinkB md ops n = true) (hc : Region.chainB md ops n = true)
    (hn : n < ops.size) (hin : i < n) (hend : ∀ done a, L done a → ∀ j ∈ Region.ready md ops done, n ≤ j) (f : Nat) :
    ∀ (done : Array Bool) (a : Act), HeadInv md ops n done →
      (∀ j oj, ops[j]? = some oj → j ≠ i → done.getD j true = false → (∀ e ∈ oj.after, Region.binds md e = true → e.on ≠ i) → oi.apart ops oj = true) →
      i ∈ Region.ready md ops done → YieldsIn P ops C oi v a → headQ P md ops C n L f (done.setIfInBounds i true) (a.put oi.dst v) → headQ P md ops C n L (f + 1) done a := by
  have spec := Region.noSelect_spec hsel
  have early : ∀ (done : Array Bool), HeadInv md ops n done → i ∈ Region.ready md ops done → ∀ j, j ∈ Region.ready md ops done → j < n := fun done inv hr j hj =>
    Nat.lt_of_not_le fun h => tail_waits hs hc hn inv _ i rfl hin (mem_ready.1 hr).1 j h hj
  induction f with
  | zero =>
    intro done a inv _ hr hy H
    refine ⟨fun e => (by rw [e] at hr; cases hr), fun j hj => ⟨early done inv hr j hj, ?_⟩⟩
    by_cases e : j = i
    · subst e; exact hy.qOp hi H
    · have h1 := early done inv hr j hj
      have h2 := hend _ _ H j (ready_mono hj e)
      omega
  | succ f ih =>
    intro done a inv free hr hy H
    refine ⟨fun e => (by rw [e] at hr; cases hr), fun j hj => ⟨early done inv hr j hj, ?_⟩⟩
    by_cases e : j = i
    · subst e; exact hy.qOp hi H
    · obtain ⟨hjun, oj, hoj, hall⟩ := mem_ready.1 hj
      have waits : ∀ d ∈ oj.after, Region.binds md d = true → d.on ≠ i := fun d hd hb he => by
        have h3 := hall d hd hb
        rw [he, getD_both (mem_ready.1 hr).1] at h3
        cases h3
      refine qOp_mono (fun a' h3 => ?_) (qOp_put hoj (free j oj hoj e hjun waits) (fun cs b => spec i oi cs b hi) (fun cs b => spec j oj cs b hoj) hy (H.2 j (ready_mono hj e)).2)
      refine ih (done.setIfInBounds j true) a' (inv.set hj (early done inv hr j hj)) (fun k ok hk hki hun hno => free k ok hk hki ?_ hno) (ready_mono hr (Ne.symm e)) h3.1 (by rw [Array.setIfInBounds_comm _ _ e]; exact h3.2)
      by_cases hjk : j = k
      · subst hjk; exact hjun
      · rwa [getD_set_ne true hjk] at hun

theorem headQ_lex {n g : Nat} {R : Act → Prop} (hsel : Region.noSelect ops = true) (hs : Region.sinkB md ops n = true) (hc : Region.chainB md ops n = true) (hn : n < ops.size) (l : List Oper) :
    ∀ (k : Nat) (done : Array Bool) (a : Act), (∀ j, j < l.length → l[j]? = ops[k + j]?) → k + l.length = n → HeadInv md ops n done → Region.lexHead md ops g l.length k done = true → wpQuiet P ops C R l a →
      headQ P md ops C n (fun d a' => Region.seqB md ops g n d = true ∧ R a') l.length done a := by
  induction l with
  | nil =>
    intro k done a _ hk _ hB h
    obtain rfl : k = n := by simpa using hk
    exact ⟨by simpa [Region.lexHead] using hB, h⟩
  | cons o l ih =>
    intro k done a hl hk inv hB h
    have h0 : ops[k]? = some o := by simpa using (hl 0 (by simp)).symm
    simp only [List.length_cons, Region.lexHead, Bool.and_eq_true] at hB hk
    have hr : k ∈ Region.ready md ops done := by simpa using hB.1.1
    obtain ⟨v, hy, hK⟩ := yieldsIn_of_qOp (C := C) (K := wpQuiet P ops C R l) h0 (by unfold qOp; simp only [h0]; exact h)
    refine headQ_first h0 hsel hs hc hn (by omega) (fun d a' hL => seqB_ready hL.1) l.length done a inv (Region.free_spec h0 hB.1.2) hr hy ?_
    refine ih (k + 1) _ _ (fun j hj => ?_) (by omega) (inv.set hr (by omega)) hB.2 hK
    have := hl (j + 1) (by simp; omega)
    simpa [Nat.add_assoc, Nat.add_comm 1 j] using this

/-- The head read in the order of the text, in the world behind some draws; then the tail, one by one. -/
theorem wp_region_quiet_tail {id : Nat} {Q : Exit → Act → World → Prop} {a : Act} {w : World} {l : List Oper} (n : Nat) (hm : P.follows .mixedOrders = true) (hB : Region.lexTailB .any l.toArray n = true)
    (h : wpQuiet P l.toArray (fun w' => ∃ m, w' = w.drewN m) (fun a' => ∀ w', (∃ m, w' = w.drewN m) → wpList P l.toArray Q (l.drop n) a' w') (l.take n) a) : (Code.region id l.toArray true).wp P Q a w := by
  simp only [Region.lexTailB, Bool.and_eq_true, decide_eq_true_eq] at hB
  obtain ⟨⟨⟨⟨hsel, hn⟩, hs⟩, hc⟩, hlex⟩ := hB
  have h1 : n < l.length := by simpa using hn
  have h2 : (l.take n).length = n := by simp; omega
  have h3 : (l.drop n).length = l.toArray.size - n := by simp
  have H := headQ_lex (g := l.toArray.size - n) hsel hs hc hn (l.take n) 0 (Array.replicate l.toArray.size false) a (fun j hj => by rw [h2] at hj; simp [hj]) (by omega)
    ⟨by simp, fun j oj _ hx => (by rw [getD_replicate_false] at hx; cases hx), fun t _ ht => getD_in (by simpa using ht) (getD_replicate_false _ _)⟩ (by rw [h2]; exact hlex) h
  have K := any_of_headQ (Q := Q) (g := l.toArray.size - n) (fun done a' w' hw' hL => by
    have := wpAny_of_seq (md := .any) (Q' := Q) (l.drop n) n done a' w' (fun j => by simp [List.getElem?_drop]) (by rw [h3]; exact hL.1) (hL.2 w' hw')
    rwa [h3] at this) _ _ _ _ (⟨1, rfl⟩ : ∃ m, { w with drawn := w.drawn + 1 } = w.drewN m) H
  rw [h2, show n + (l.toArray.size - n) = l.toArray.size by omega] at K
  exact wp_region_any hm K
end
end Go.Proofs.YtakdokccdkhcoaaDoor

/- Contract of the document's digest of bytes. -/
namespace Go.Proofs.YtakdokccdkhcoaaDoor
open Go.RowKit
set_option linter.unusedVariables false

theorem Tryd.zero23 : (Tryd.prog.info? 23).map (fun i => (i.zero, i.size)) = some (some (.agg (nums .u8 (zeros 32))), 32) := by kernel_rfl
theorem Tryd.size23 : (Tryd.prog.info? 23).map (·.size) = some 32 := by kernel_rfl

theorem or_four (a b c d : Nat) (ha : a < 256) (hb : b < 256) (hc : c < 256) (hd : d < 256) :
    bits .or .u32 (bits .or .u32 (bits .or .u32 ((a : Int) * 16777216) ((b : Int) * 65536)) ((c : Int) * 256)) (d : Int) = ((((a * 256 + b) * 256 + c) * 256 + d : Nat) : Int) := by
  have e1 : (a : Int) * 16777216 = ((a * 16777216 : Nat) : Int) := by simp
  have e2 : (b : Int) * 65536 = ((b * 65536 : Nat) : Int) := by simp
  have e3 : (c : Int) * 256 = ((c * 256 : Nat) : Int) := by simp
  rw [e1, e2, e3, u32_or_nat _ _ (by omega) (by omega), nat_join 24 (a * 16777216) (b * 65536) (by omega) (by omega), u32_or_nat _ _ (by omega) (by omega),
    nat_join 16 (a * 16777216 + b * 65536) (c * 256) (by omega) (by omega), u32_or_nat _ _ (by omega) (by omega), nat_join 8 _ d (by omega) (by omega)]
  have e4 : a * 16777216 + b * 65536 + c * 256 + d = ((a * 256 + b) * 256 + c) * 256 + d := by omega
  rw [e4]
theorem sched_walk (p x r y : Nat) (hx : x < 4294967296) (hy : y < 4294967296) :
    ((p : Int) + bits .xor .u32 (bits .xor .u32 (rr 7 x : Nat) (rr 18 x : Nat)) ((x : Int) / 8) + (r : Int) + bits .xor .u32 (bits .xor .u32 (rr 17 y : Nat) (rr 19 y : Nat)) ((y : Int) / 1024)) % 4294967296 = (((p + sg0 x + r + sg1 y) % 4294967296 : Nat) : Int) := by
  rw [sg0_walk x hx, sg1_walk y hy]; simp
theorem mix_eight (a b c d e f g h a' b' c' d' e' f' g' h' : Nat) :
    addUp [a, b, c, d, e, f, g, h] [a', b', c', d', e', f', g', h'] 8 = [(a + a') % 4294967296, (b + b') % 4294967296, (c + c') % 4294967296, (d + d') % 4294967296, (e + e') % 4294967296, (f + f') % 4294967296, (g + g') % 4294967296, (h + h') % 4294967296] := by
  simp [addUp]
theorem sum_mod (x y : Nat) : ((x : Int) + (y : Int)) % 4294967296 = (((x + y) % 4294967296 : Nat) : Int) := by simp

set_option maxRecDepth 100000 in
set_option maxHeartbeats 4000000 in
theorem rof_any (ao : Option Addr) (cap : Nat) (zs : List Nat) (w : World) (hcap : zs.length ≤ cap) (hm : cap ≤ maxLen) (hL : zs.length ≤ 140737488355328) (hby : ∀ z ∈ zs, z < 256) (hz : Reads w ao zs) :
    Calls Tryd.prog 65 #[.slice ao zs.length cap] w fun e w' => e = .returned (.agg (nums .u8 (sha zs))) ∧ Below w.heap.size w w' := by
  have hpt : zs.length + 9 ≤ padTo zs.length ∧ padTo zs.length ≤ zs.length + 72 := by unfold padTo; omega
  have hpe : ((zs.length : Int) + 9 + 63) / 64 * 64 = (padTo zs.length : Nat) := by unfold padTo; omega
  have HPE := hid hpe
  obtain ⟨M, hM⟩ : ∃ M, padTo zs.length = M := ⟨_, rfl⟩
  rw [hM] at hpt
  have HM := hid hM
  clear hpe hM
  go_enter Tryd.func65, Tryd.ntmps65
  go_wp2_with (first
    | (refine wpList_alloc_has rfl 2 rfl 23 rfl .u8 32 Tryd.zero23 ?_; intro w1 H1 B1 S1)
    | (refine wpList_build_has rfl 94 _ rfl .u32 startNums (by kernel_rfl) ?_)
    | (refine wpList_alloc_has rfl 3 rfl 94 rfl .u32 8 Tryd.zero94 ?_; intro w2 H2 B2 S2)
    | (refine wpList_store_has rfl 94 (.tmp 3) (.tmp 26) rfl w1.heap.size .u32 startNums (zeros 8) rfl rfl 94 H2 Tryd.size94 (by rw [zeros_length]; rfl) ?_; intro w3 H3 O3)
    | (go_at_call 73; refine (numbers_any _).mono ?_; rintro e w4 ⟨rfl, B4⟩)
    | (refine wpList_alloc_has rfl 4 rfl 105 rfl .u32 64 Tryd.zero105 ?_; intro w5 H5 B5 S5)
    | (refine wpList_store_has rfl 105 (.tmp 4) (.tmp 27) rfl w4.heap.size .u32 kNums (zeros 64) rfl rfl 105 H5 Tryd.size105 (by rw [zeros_length]; rfl) ?_; intro w6 H6 O6)
    | (refine wpList_make_has rfl (.tmp 33) (.tmp 33) 67 rfl 5 .u8 Tryd.underlying67 Tryd.zero5 .i64 .i64 _ _ M rfl rfl (by rw [HPE.out, HM.out]) (by rw [HPE.out, HM.out]) (by omega) ?_; intro w7 H7 B7; have HW3 : Below w.heap.size w w3 := below_only (B1.trans (B2.mono (by omega))) O3 (by omega); have HW4 := below_more HW3 B4 (Nat.le_refl _); have HW5 := below_more HW4 B5 (Nat.le_refl _); have HW6 := below_only HW5 O6 HW4.size; have HW7 := below_more HW6 B7 (Nat.le_refl _); have HA4 := ((H1.keep B2).only O3 (by omega)).keep B4; have HA7 := ((HA4.keep B5).only O6 (Nat.ne_of_lt HA4.lt)).keep B7; have HB4 := H3.keep B4; have HB7 := ((HB4.keep B5).only O6 (Nat.ne_of_lt HB4.lt)).keep B7; have HC7 := H6.keep B7; have hn4 := HB4.lt; have hn6 := H6.lt; have hol : (over (zeros M) 0 zs).length = M := by rw [over_length _ _ _ (by rw [zeros_length]; omega), zeros_length])
    | (refine wpList_copy_has rfl (.tmp 35) (.tmp 36) 67 67 rfl 5 Tryd.underlying67 Tryd.one5 _ _ _ _ _ _ rfl rfl w6.heap.size 0 .u8 (zeros M) 5 H7 zs (by simp [Nat.min_def]; omega) (fun h0 => ⟨rfl, (hz.keep HW7).src h0⟩) (by rw [zeros_length]; omega) ?_; intro w8 H8 O8; have c8 := H8.cell zs.length (by rw [hol]; omega); have f8 := H8.frozen zs.length))
  have O9 := O8.trans (Only.setCell w8 w6.heap.size zs.length (.int .u8 128))
  have HP9 := H8.set zs.length 128
  have HA9 := HA7.only O9 (by omega)
  have HB9 := HB7.only O9 (by omega)
  have HC9 := HC7.only O9 (by omega)
  have HW9 := below_only HW7 O9 (by omega)
  rw [S1] at HB9 hn4
  have HPD : Same (pad zs M (8 * zs.length)) (beUp ((over (zeros M) 0 zs).set zs.length 128) M (8 * zs.length) 8) := ⟨by rw [pad]⟩
  have hol2 : ((over (zeros M) 0 zs).set zs.length 128).length = M := by rw [List.length_set]; exact hol
  have HOL := hid hol2
  clear H1 B1 H2 B2 S2 H3 O3 B4 H5 B5 S5 H6 O6 H7 B7 HW3 HW4 HW5 HW6 HW7 HA4 HA7 HB4 HB7 HC7 hol H8 O8 c8 f8 O9 S1 hol2 HPE
  generalize (over (zeros M) 0 zs).set zs.length 128 = l0 at *
  generalize w8.setCell ⟨w6.heap.size, zs.length, none⟩ (.int .u8 128) = w9 at *
  generalize w6.heap.size = Mb at *
  generalize w4.heap.size = Kb at *
  go_loopw [6] (fun i wr => ∃ k : Nat, k ≤ 8 ∧ i = .int .i64 k ∧ Has wr Mb 5 .u8 (beUp l0 M (8 * zs.length) k) ∧ Has wr w.heap.size 23 .u8 (zeros 32) ∧ Has wr (w.heap.size + 1) 94 .u32 startNums ∧ Has wr Kb 105 .u32 kNums ∧ Below w.heap.size w wr) (fun i _ => 8 - (intOf i).toNat)
  case atStart => exact ⟨0, by omega, rfl, HP9, HA9, HB9, HC9, HW9⟩
  case round =>
    clear HP9 HA9 HB9 HC9 HW9
    obtain ⟨k, hk, rfl, HP, HA, HB, HC, HW⟩ := hrel
    by_cases hlt : k < 8
    · have hlen := beUp_length l0 M (8 * zs.length) k
      have c1 := HP.cell (M - 1 - k) (by rw [hlen, HOL.out]; omega)
      have f1 := HP.frozen (M - 1 - k)
      have HBW := hid (byte_walk zs.length k)
      have HS : Same (beUp l0 M (8 * zs.length) (k + 1)) ((beUp l0 M (8 * zs.length) k).set (M - 1 - k) (8 * zs.length / 256 ^ k % 256)) := ⟨by rw [beUp]⟩
      have et2 : ((M : Int) - 1 - (k : Int)).toNat = M - 1 - k := by omega
      clear hlen
      go_wp2
      go_roundw
      case rel =>
        rw [HBW.out]
        have HO := Only.setCell wr Mb (M - 1 - k) (.int .u8 ((8 * zs.length / 256 ^ k % 256 : Nat) : Int))
        exact ⟨k + 1, by omega, by go_num, by rw [HS.out]; exact HP.set (M - 1 - k) _, HA.only HO (by omega), HB.only HO (by omega), HC.only HO (by omega), below_only HW HO (by omega)⟩
      case measure => simp [intOf]; omega
    · have hk8 : k = 8 := by omega
      subst hk8
      rw [show ((8 : Nat) : Int) = 8 from rfl]
      rw [← HPD.out] at HP
      have hpl := hid (pad_length zs M (8 * zs.length) (by omega))
      have hpb := hid (pad_bytes zs M (8 * zs.length) hby)
      have hM64 : M = 64 * (M / 64) := by have := HM.out; unfold padTo at this; omega
      have HM64 := hid hM64
      have hMb : M ≤ 140737488355400 := by omega
      have HSH : Same (sha zs) (joinUp (absorb startNums (pad zs M (8 * zs.length)) (M / 64)) 32) := ⟨by rw [sha, HM.out]⟩
      clear HPD HOL hz hby hlt hk hM64
      generalize pad zs M (8 * zs.length) = ps at *
      go_wp2
      clear hpt
      go_loopw [7] (fun i wr => ∃ q : Nat, 64 * q ≤ M ∧ i = .int .i64 ((64 * q : Nat) : Int) ∧ Has wr Mb 5 .u8 ps ∧ Has wr w.heap.size 23 .u8 (zeros 32) ∧ Has wr (w.heap.size + 1) 94 .u32 (absorb startNums ps q) ∧ Has wr Kb 105 .u32 kNums ∧ Below w.heap.size w wr) (fun i _ => M - (intOf i).toNat)
      case atStart => exact ⟨0, by omega, rfl, HP, HA, HB, HC, HW⟩
      case round =>
        clear HP HA HB HC HW
        obtain ⟨q, hq, rfl, HP, HA, HB, HC, HW⟩ := hrel
        by_cases hlt : 64 * q < M
        · have hq2 : 64 * q + 64 ≤ M := by have := HM64.out; omega
          have hzl := hid (blk_length ps q (by rw [hpl.out]; omega))
          have hzb := hid (blk_mem ps q hpb.out)
          have hzc : Hid (∀ wx, Has wx Mb 5 .u8 ps → ∀ i, i < 64 → wx.cell? ⟨Mb, 64 * q + i, none⟩ = some (.int .u8 ((blk ps q).getD i 0 : Nat))) := fun wx hx i hi => by
            rw [blk_getD ps q i hi]; exact hx.cell (64 * q + i) (by rw [hpl.out]; omega)
          go_wp2_with (first
            | (refine wpList_build_has rfl 105 _ rfl .u32 (zeros 64) (by kernel_rfl) ?_)
            | (refine wpList_alloc_has rfl 8 rfl 105 rfl .u32 64 Tryd.zero105 ?_; intro wa H1 B1 S1)
            | (refine wpList_store_has rfl 105 (.tmp 8) (.tmp 67) rfl wr.heap.size .u32 (zeros 64) (zeros 64) rfl rfl 105 H1 (by rw [zeros_length]; exact Tryd.size105) rfl ?_; intro wb H2 O2))
          have hn8 := HP.lt
          have HP2 := (HP.keep B1).only O2 (by omega)
          have HA2 := (HA.keep B1).only O2 (by omega)
          have HB2 := (HB.keep B1).only O2 (by omega)
          have HC2 := (HC.keep B1).only O2 (by omega)
          have HW2 := below_only (below_more HW B1 (Nat.le_refl _)) O2 HW.size
          clear HP HA HB HC HW H1 B1 O2 S1
          generalize wr.heap.size = Wb at *
          go_loopw [9] (fun i wr => ∃ t : Nat, t ≤ 64 ∧ i = .int .i64 t ∧ Has wr Wb 105 .u32 (fill (blk ps q) t) ∧ Has wr Mb 5 .u8 ps ∧ Has wr w.heap.size 23 .u8 (zeros 32) ∧ Has wr (w.heap.size + 1) 94 .u32 (absorb startNums ps q) ∧ Has wr Kb 105 .u32 kNums ∧ Below w.heap.size w wr) (fun i _ => 64 - (intOf i).toNat)
          case atStart => exact ⟨0, by omega, rfl, by rw [fill]; exact H2, HP2, HA2, HB2, HC2, HW2⟩
          case round =>
            clear HP2 HA2 HB2 HC2 HW2 H2
            obtain ⟨t, ht, rfl, HD, HP, HA, HB, HC, HW⟩ := hrel
            by_cases h64 : t < 64
            · by_cases h16 : t < 16
              ·
                have c0 := hzc.out wr HP (4 * t + 0) (by omega)
                have c1 := hzc.out wr HP (4 * t + 1) (by omega)
                have c2 := hzc.out wr HP (4 * t + 2) (by omega)
                have c3 := hzc.out wr HP (4 * t + 3) (by omega)
                have b0 := bytes_getD (blk ps q) hzb.out (4 * t + 0)
                have b1 := bytes_getD (blk ps q) hzb.out (4 * t + 1)
                have b2 := bytes_getD (blk ps q) hzb.out (4 * t + 2)
                have b3 := bytes_getD (blk ps q) hzb.out (4 * t + 3)
                have HF : Same (fill (blk ps q) (t + 1)) ((fill (blk ps q) t).set t ((((blk ps q).getD (4 * t + 0) 0 * 256 + (blk ps q).getD (4 * t + 1) 0) * 256 + (blk ps q).getD (4 * t + 2) 0) * 256 + (blk ps q).getD (4 * t + 3) 0)) := ⟨by rw [fill, if_pos h16]; simp [wpart]⟩
                generalize (blk ps q).getD (4 * t + 0) 0 = x0 at *
                generalize (blk ps q).getD (4 * t + 1) 0 = x1 at *
                generalize (blk ps q).getD (4 * t + 2) 0 = x2 at *
                generalize (blk ps q).getD (4 * t + 3) 0 = x3 at *
                rw [Nat.add_zero] at c0
                rw [← Nat.add_assoc] at c1 c2 c3
                have cw := HD.cell t (by rw [fill_length]; omega)
                have fw := HD.frozen t
                generalize fill (blk ps q) t = lf at *
                have i0 : (0 : Int) ≤ 64 * (q : Int) + 4 * (t : Int) := by omega
                have i1 : 64 * (q : Int) + 4 * (t : Int) + 3 < (M : Int) := by omega
                have i2 : (0 : Int) ≤ (t : Int) := by omega
                have i3 : (t : Int) < 64 := by omega
                go_wp2
                refine wp_region_quiet_tail 31 (by kernel_rfl) (by kernel_rfl) ?_
                simp only [List.take_succ_cons, List.take_zero, List.drop_succ_cons, List.drop_zero]
                repeat (go_big_quiet_step (fail))
                refine wpQuiet_nil ?_
                intro _ hw'
                obtain ⟨nq, hw''⟩ := hw'
                subst hw''
                go_wp2
                go_roundw
                case rel =>
                  rw [or_four x0 x1 x2 x3 b0 b1 b2 b3]
                  have HO := Only.setCell (wr.drewN nq) Wb t (.int .u32 ((((x0 * 256 + x1) * 256 + x2) * 256 + x3 : Nat) : Int))
                  exact ⟨t + 1, by omega, by go_num, by rw [HF.out]; exact (HD.drewN nq).set t _, (HP.drewN nq).only HO (by omega), (HA.drewN nq).only HO (by omega), (HB.drewN nq).only HO (by omega), (HC.drewN nq).only HO (by omega), below_only (below_drewN HW nq) HO (by omega)⟩
                case measure => simp [intOf]; omega
              ·
                have c15 := HD.cell (t - 15) (by rw [fill_length]; omega)
                have c2 := HD.cell (t - 2) (by rw [fill_length]; omega)
                have c16 := HD.cell (t - 16) (by rw [fill_length]; omega)
                have c7 := HD.cell (t - 7) (by rw [fill_length]; omega)
                have c0 := HD.cell t (by rw [fill_length]; omega)
                have hft := HD.frozen t
                have b15 := fill_lt (blk ps q) hzb.out t (t - 15)
                have b2 := fill_lt (blk ps q) hzb.out t (t - 2)
                have b16 := fill_lt (blk ps q) hzb.out t (t - 16)
                have b7 := fill_lt (blk ps q) hzb.out t (t - 7)
                have HF : Same (fill (blk ps q) (t + 1)) ((fill (blk ps q) t).set t (((fill (blk ps q) t).getD (t - 16) 0 + sg0 ((fill (blk ps q) t).getD (t - 15) 0) + (fill (blk ps q) t).getD (t - 7) 0 + sg1 ((fill (blk ps q) t).getD (t - 2) 0)) % 4294967296)) := ⟨by rw [← fill_next (blk ps q) t h16, nextW]⟩
                generalize (fill (blk ps q) t).getD (t - 15) 0 = x15 at *
                generalize (fill (blk ps q) t).getD (t - 2) 0 = x2 at *
                generalize (fill (blk ps q) t).getD (t - 16) 0 = x16 at *
                generalize (fill (blk ps q) t).getD (t - 7) 0 = x7 at *
                generalize fill (blk ps q) t = lf at *
                go_wp2
                go_quiet (fail)
                go_wp2
                refine wp_region_quiet_tail 29 (by kernel_rfl) (by kernel_rfl) ?_
                simp only [List.take_succ_cons, List.take_zero, List.drop_succ_cons, List.drop_zero]
                repeat (go_big_quiet_step ((go_at_call 74; refine quiet_some (rright_any _ _ ?_ ?_ ?_ _) <;> omega)))
                refine wpQuiet_nil ?_
                intro _ hw'
                obtain ⟨nq2, hw''⟩ := hw'
                subst hw''
                go_wp2
                go_roundw
                case rel =>
                  rw [sched_walk x16 x15 x7 x2 b15 b2]
                  have HO := Only.setCell (wr.drewN (nq + nq2)) Wb t (.int .u32 (((x16 + sg0 x15 + x7 + sg1 x2) % 4294967296 : Nat) : Int))
                  exact ⟨t + 1, by omega, by go_num, by rw [HF.out]; exact (HD.drewN (nq + nq2)).set t _, (HP.drewN _).only HO (by omega), (HA.drewN _).only HO (by omega), (HB.drewN _).only HO (by omega), (HC.drewN _).only HO (by omega), below_only (below_drewN HW _) HO (by omega)⟩
                case measure => simp [intOf]; omega
            ·
              have ht2 : t = 64 := by omega
              subst ht2
              rw [show ((64 : Nat) : Int) = 64 from rfl]
              have hreg := absorb_reg startNums ps start_reg q
              have hfl := hid (fill_length (blk ps q) 64)
              have hfb := hid (fill_lt (blk ps q) hzb.out 64)
              have HMX : Same (absorb startNums ps (q + 1)) (addUp (absorb startNums ps q) (rnds (absorb startNums ps q) (fill (blk ps q) 64) 64) 8) := ⟨by rw [absorb, mixL]⟩
              generalize fill (blk ps q) 64 = ws at *
              generalize absorb startNums ps q = hs at *
              obtain ⟨ha, hb, hc, hd, he, hf, hg, hh, rfl⟩ := eight hs hreg.1
              obtain ⟨c0, c1, c2, c3, c4, c5, c6, c7⟩ := HB.cells8
              clear ht h64 hzc hzb hzl
              go_wp2
              go_quiet (fail)
              go_wp2
              clear c0 c1 c2 c3 c4 c5 c6 c7
              go_loopw [13, 14, 15, 16, 17, 18, 19, 20, 21] (fun va vb vc vd ve vf vg vh i wr => ∃ t a b c d e f g h : Nat, t ≤ 64 ∧ i = .int .i64 t ∧ va = .int .u32 a ∧ vb = .int .u32 b ∧ vc = .int .u32 c ∧ vd = .int .u32 d ∧ ve = .int .u32 e ∧ vf = .int .u32 f ∧ vg = .int .u32 g ∧ vh = .int .u32 h ∧ Same (rnds [ha, hb, hc, hd, he, hf, hg, hh] ws t) [a, b, c, d, e, f, g, h] ∧ Has wr Wb 105 .u32 ws ∧ Has wr Mb 5 .u8 ps ∧ Has wr w.heap.size 23 .u8 (zeros 32) ∧ Has wr (w.heap.size + 1) 94 .u32 [ha, hb, hc, hd, he, hf, hg, hh] ∧ Has wr Kb 105 .u32 kNums ∧ Below w.heap.size w wr) (fun _ _ _ _ _ _ _ _ i _ => 64 - (intOf i).toNat)
              case atStart => exact ⟨0, ha, hb, hc, hd, he, hf, hg, hh, by omega, rfl, rfl, rfl, rfl, rfl, rfl, rfl, rfl, rfl, ⟨by rw [rnds]⟩, HD.drewN _, HP.drewN _, HA.drewN _, HB.drewN _, HC.drewN _, below_drewN HW _⟩
              case round =>
                clear HD HP HA HB HC HW
                obtain ⟨t, ra, rb, rc, rd, re, rf, rg, rh, ht, rfl, rfl, rfl, rfl, rfl, rfl, rfl, rfl, rfl, HS, HD, HP, HA, HB, HC, HW⟩ := hrel
                by_cases hlt4 : t < 64
                ·
                  have hrg := rnds_reg [ha, hb, hc, hd, he, hf, hg, hh] ws hreg t
                  have HS1 : Same (rnds [ha, hb, hc, hd, he, hf, hg, hh] ws (t + 1)) (rnd [ra, rb, rc, rd, re, rf, rg, rh] (kNums.getD t 0) (ws.getD t 0)) := ⟨by rw [rnds, HS.out]⟩
                  rw [HS.out] at hrg
                  have hall := hrg.2
                  simp only [List.mem_cons, List.not_mem_nil, or_false, forall_eq_or_imp, forall_eq] at hall
                  obtain ⟨ba, bb, bc, bd, be, bf, bg, bh⟩ := hall
                  have ck := HC.cell t (show t < 64 from hlt4)
                  have cw := HD.cell t (by rw [hfl.out]; omega)
                  have bk := kNums_lt t
                  have bw := hfb.out t
                  have HS2 := HS1.out
                  clear HS HS1 hrg
                  generalize kNums.getD t 0 = kk at *
                  generalize ws.getD t 0 = wt at *
                  rw [show rnd [ra, rb, rc, rd, re, rf, rg, rh] kk wt = [(tOne re rf rg rh kk wt + tTwo ra rb rc) % 4294967296, ra, rb, rc, (rd + tOne re rf rg rh kk wt) % 4294967296, re, rf, rg] from rfl] at HS2
                  have HS : Same _ _ := ⟨HS2⟩
                  clear HS2
                  have hsg := u32_unsigned
                  have q1 := t1_walk re rf rg rh kk wt be bf bg
                  have q2 := t2_walk ra rb rc ba bb bc
                  have l1 := tOne_lt re rf rg rh kk wt
                  have l2 := tTwo_lt ra rb rc
                  generalize tOne re rf rg rh kk wt = t1 at *
                  generalize tTwo ra rb rc = t2 at *
                  go_wp2
                  go_quiet ((go_at_call 74; first | (refine quiet_some (rright_any _ _ ?_ ?_ ?_ _) <;> omega) | (refine Calls.quiet_of (rright_any _ _ ?_ ?_ ?_ _) <;> omega)))
                  go_wp2_with (go_at_call 74; refine (rright_any _ _ (by omega) (by omega) (by omega) _).mono ?_; rintro e w' ⟨rfl, m, rfl⟩)
                  go_roundw
                  case rel =>
                    exact ⟨t + 1, (t1 + t2) % 4294967296, ra, rb, rc, (rd + t1) % 4294967296, re, rf, rg, by omega, by go_num, by rw [← sum_mod], rfl, rfl, rfl, by rw [← sum_mod], rfl, rfl, rfl, HS, HD.drewN _, HP.drewN _, HA.drewN _, HB.drewN _, HC.drewN _, below_drewN HW _⟩
                  case measure => simp [intOf]; omega
                ·
                  have ht3 : t = 64 := by omega
                  subst ht3
                  rw [show ((64 : Nat) : Int) = 64 from rfl]
                  obtain ⟨c0, c1, c2, c3, c4, c5, c6, c7⟩ := HB.cells8
                  have f5 := HB.frozen
                  have HX : Same (absorb startNums ps (q + 1)) [(ha + ra) % 4294967296, (hb + rb) % 4294967296, (hc + rc) % 4294967296, (hd + rd) % 4294967296, (he + re) % 4294967296, (hf + rf) % 4294967296, (hg + rg) % 4294967296, (hh + rh) % 4294967296] := ⟨by rw [HMX.out, HS.out, mix_eight]⟩
                  clear HS HMX hfb hfl hreg
                  go_wp2
                  go_roundw
                  case rel =>
                    simp only [sum_mod]
                    obtain ⟨H6, O6⟩ := HB.set8 rfl ((ha + ra) % 4294967296) ((hb + rb) % 4294967296) ((hc + rc) % 4294967296) ((hd + rd) % 4294967296) ((he + re) % 4294967296) ((hf + rf) % 4294967296) ((hg + rg) % 4294967296) ((hh + rh) % 4294967296)
                    exact ⟨q + 1, by omega, by go_num, HP.only O6 (by omega), HA.only O6 (by omega), by rw [HX.out]; exact H6, HC.only O6 (by omega), below_only HW O6 (by omega)⟩
                  case measure => simp [intOf]; omega
        ·
          have hqe : M / 64 = q := by have := HM64.out; omega
          rw [hqe] at HSH
          have hreg := absorb_reg startNums ps start_reg q
          generalize absorb startNums ps q = hs at *
          have h8 := hreg.1
          clear hqe HM64 HM hpl hpb
          go_wp2_with (first
            | (refine wpList_build_has rfl 23 _ rfl .u8 (zeros 32) (by kernel_rfl) ?_)
            | (refine wpList_alloc_has rfl 24 rfl 23 rfl .u8 32 Tryd.zero23 ?_; intro wa H1 B1 S1)
            | (refine wpList_store_has rfl 23 (.tmp 24) (.tmp 265) rfl wr.heap.size .u8 (zeros 32) (zeros 32) rfl rfl 23 H1 (by rw [zeros_length]; exact Tryd.size23) rfl ?_; intro wb H2 O2))
          have hn8 := HP.lt
          have HA2 := (HA.keep B1).only O2 (by omega)
          have HB2 := (HB.keep B1).only O2 (by omega)
          have HW2 := below_only (below_more HW B1 (Nat.le_refl _)) O2 HW.size
          clear HP HA HB HC HW H1 B1 O2 S1
          generalize wr.heap.size = Ob at *
          go_loopw [25] (fun i wr => ∃ t : Nat, t ≤ 32 ∧ i = .int .i64 t ∧ Has wr Ob 23 .u8 (joinUp hs t) ∧ Has wr w.heap.size 23 .u8 (zeros 32) ∧ Has wr (w.heap.size + 1) 94 .u32 hs ∧ Below w.heap.size w wr) (fun i _ => 32 - (intOf i).toNat)
          case atStart => exact ⟨0, by omega, rfl, by rw [joinUp]; exact H2, HA2, HB2, HW2⟩
          case round =>
            clear HA2 HB2 HW2 H2
            obtain ⟨t, ht, rfl, HC, HA, HB, HW⟩ := hrel
            by_cases h32 : t < 32
            · have c1 := HB.cell (t / 4) (by omega)
              have c2 := HC.cell t (by rw [joinUp_length]; omega)
              have f2 := HC.frozen t
              have HS : Same (joinUp hs (t + 1)) ((joinUp hs t).set t (hs.getD (t / 4) 0 / 2 ^ (24 - 8 * (t % 4)) % 256)) := ⟨by rw [joinUp]⟩
              have bx := reg_getD hs hreg (t / 4)
              generalize hs.getD (t / 4) 0 = x at *
              generalize joinUp hs t = jl at *
              go_wp2
              go_roundw
              case rel =>
                have e1 : (x : Int) / 2 ^ (24 - 8 * (t % 4)) % 256 = ((x / 2 ^ (24 - 8 * (t % 4)) % 256 : Nat) : Int) := by simp
                rw [e1]
                have HO := Only.setCell wr Ob t (.int .u8 ((x / 2 ^ (24 - 8 * (t % 4)) % 256 : Nat) : Int))
                exact ⟨t + 1, by omega, by go_num, by rw [HS.out]; exact HC.set t _, HA.only HO (by omega), HB.only HO (by omega), below_only HW HO (by omega)⟩
              case measure => simp [intOf]; omega
            · have ht2 : t = 32 := by omega
              subst ht2
              rw [← HSH.out] at HC
              clear HSH
              go_wp2_with (first
                | (refine wpList_load_has rfl 23 (.tmp 24) rfl Ob .u8 (sha zs) rfl 23 HC _ _ Tryd.underlying23 (by rw [sha_length]; exact Tryd.size23) ?_)
                | (refine wpList_store_has rfl 23 (.tmp 2) (.tmp 282) rfl w.heap.size .u8 (sha zs) (zeros 32) rfl rfl 23 HA (by rw [sha_length]; exact Tryd.size23) (by rw [sha_length, zeros_length]) ?_; intro w9 H9 O9))
              refine bodyPost_ret (results_has rfl _ _ w.heap.size 23 .u8 (sha zs) _ _ rfl H9 Tryd.underlying23 (by rw [sha_length]; exact Tryd.size23)) rfl ?_
              exact ⟨rfl, below_only HW O9 (Nat.le_refl _)⟩
end Go.Proofs.YtakdokccdkhcoaaDoor

/- The plain mathematics of roots in base sixteen, and of two roots one behind the other. -/
namespace Go.Proofs.YtakdokccdkhcoaaDoor

def dig (n : Nat) : Nat := [48, 49, 50, 51, 52, 53, 54, 55, 56, 57, 97, 98, 99, 100, 101, 102].getD n 0
/-- Two digits a byte, the first i bytes. -/
def hexUp (l : List Nat) : Nat → List Nat
  | 0 => zeros 64
  | i + 1 => ((hexUp l i).set (2 * i) (dig (l.getD i 0 / 16))).set (2 * i + 1) (dig (l.getD i 0 % 16))
/-- Digit by digit, the first i. -/
def hexTo (l : List Nat) : Nat → List Nat
  | 0 => zeros 64
  | i + 1 => (hexTo l i).set i (dig (l.getD (i / 2) 0 / 2 ^ (4 * (1 - i % 2)) % 16))
theorem hexUp_length (l : List Nat) (i : Nat) : (hexUp l i).length = 64 := by
  induction i with
  | zero => exact zeros_length 64
  | succ i ih => simp [hexUp, ih]
theorem hexTo_length (l : List Nat) (i : Nat) : (hexTo l i).length = 64 := by
  induction i with
  | zero => exact zeros_length 64
  | succ i ih => simp [hexTo, ih]
theorem hex_same (l : List Nat) (h : ∀ z ∈ l, z < 256) (i : Nat) : hexTo l (2 * i) = hexUp l i := by
  induction i with
  | zero => rfl
  | succ i ih =>
    have hb := bytes_getD l h i
    have e1 : (2 * i) / 2 = i := by omega
    have e2 : (2 * i + 1) / 2 = i := by omega
    have e3 : (2 * i) % 2 = 0 := by omega
    have e4 : (2 * i + 1) % 2 = 1 := by omega
    rw [show 2 * (i + 1) = 2 * i + 1 + 1 by omega, hexTo, hexTo, ih, hexUp, e1, e2, e3, e4]
    have e5 : l.getD i 0 / 2 ^ (4 * (1 - 0)) % 16 = l.getD i 0 / 16 := by simp only [Nat.sub_zero, Nat.mul_one]; omega
    have e6 : l.getD i 0 / 2 ^ (4 * (1 - 1)) % 16 = l.getD i 0 % 16 := by simp
    rw [e5, e6]
theorem hexUp_zero (l : List Nat) (i j : Nat) (h : 2 * i ≤ j) : (hexUp l i).getD j 0 = 0 := by
  induction i with
  | zero => exact zeros_getD 64 j
  | succ i ih => rw [hexUp, getD_set, if_neg (by omega), getD_set, if_neg (by omega)]; exact ih (by omega)
/-- One root behind the other: the first i bytes of each. -/
def pairUp (a b : List Nat) : Nat → List Nat
  | 0 => zeros 64
  | i + 1 => ((pairUp a b i).set i (a.getD i 0)).set (32 + i) (b.getD i 0)
theorem pairUp_length (a b : List Nat) (i : Nat) : (pairUp a b i).length = 64 := by
  induction i with
  | zero => exact zeros_length 64
  | succ i ih => simp [pairUp, ih]
theorem pairUp_getD (a b : List Nat) (i j : Nat) (hi : i ≤ 32) : (pairUp a b i).getD j 0 = if j < i then a.getD j 0 else if 32 ≤ j ∧ j < 32 + i then b.getD (j - 32) 0 else 0 := by
  induction i with
  | zero => rw [if_neg (by omega), if_neg (by omega)]; exact zeros_getD 64 j
  | succ i ih =>
    rw [pairUp, getD_set, getD_set, List.length_set, pairUp_length, ih (by omega)]
    by_cases h1 : 32 + i = j
    · subst h1
      rw [if_pos ⟨rfl, by omega⟩, if_neg (by omega), if_pos ⟨by omega, by omega⟩, show 32 + i - 32 = i by omega]
    · rw [if_neg (by omega)]
      by_cases h2 : i = j
      · subst h2; rw [if_pos ⟨rfl, by omega⟩, if_pos (by omega)]
      · rw [if_neg (by omega)]
        by_cases h3 : j < i
        · rw [if_pos h3, if_pos (by omega)]
        · rw [if_neg h3, if_neg (show ¬ j < i + 1 by omega)]
          by_cases h4 : 32 ≤ j ∧ j < 32 + i
          · rw [if_pos h4, if_pos ⟨h4.1, by omega⟩]
          · rw [if_neg h4, if_neg (by omega)]
theorem append_getD (a b : List Nat) (j : Nat) : (a ++ b).getD j 0 = if j < a.length then a.getD j 0 else b.getD (j - a.length) 0 := by
  simp only [List.getD_eq_getElem?_getD]
  split
  · rename_i h; rw [List.getElem?_append_left h]
  · rename_i h; rw [List.getElem?_append_right (by omega)]
theorem pairUp_all (a b : List Nat) (ha : a.length = 32) (hb : b.length = 32) : pairUp a b 32 = a ++ b := by
  apply ext_getD
  · rw [pairUp_length, List.length_append, ha, hb]
  · intro j hj
    rw [pairUp_length] at hj
    rw [pairUp_getD a b 32 j (by omega), append_getD, ha]
    by_cases h : j < 32
    · rw [if_pos h, if_pos h]
    · rw [if_neg h, if_neg h, if_pos (by omega)]
theorem over_pair (a b : List Nat) (ha : a.length = 32) (hb : b.length = 32) : over (over (zeros 64) 0 a) 32 b = a ++ b := by
  have h1 : (over (zeros 64) 0 a).length = 64 := by rw [over_length _ _ _ (by rw [zeros_length]; omega), zeros_length]
  have e1 : (over (zeros 64) 0 a).take 32 = a := by
    unfold over
    simp only [List.take_zero, List.nil_append]
    rw [List.take_append_of_le_length (by omega), List.take_of_length_le (by omega)]
  have e2 : (over (zeros 64) 0 a).drop (32 + b.length) = [] := List.drop_eq_nil_of_le (by omega)
  show (over (zeros 64) 0 a).take 32 ++ (b ++ (over (zeros 64) 0 a).drop (32 + b.length)) = a ++ b
  rw [e1, e2, List.append_nil]
end Go.Proofs.YtakdokccdkhcoaaDoor

/- Contracts of digest.Hex and digest.Pair, and of the document's. -/
namespace Go.Proofs.YtakdokccdkhcoaaDoor
open Go.RowKit
set_option linter.unusedVariables false

theorem Tryd.zero66 : (Tryd.prog.info? 66).map (fun i => (i.zero, i.size)) = some (some (.agg (nums .u8 (zeros 64))), 64) := by kernel_rfl
theorem Tryd.size66 : (Tryd.prog.info? 66).map (·.size) = some 64 := by kernel_rfl

/-- The bytes of a list of numbers, as a string. -/
def strOf (l : List Nat) : ByteArray := (l.map fun n : Nat => (n : Int)).foldl (fun r n => r.push (UInt8.ofNat n.toNat)) ByteArray.empty

set_option maxRecDepth 100000 in
set_option maxHeartbeats 1000000 in
theorem pair_any (a b : List Nat) (ha : a.length = 32) (hb : b.length = 32) (hba : ∀ z ∈ a, z < 256) (hbb : ∀ z ∈ b, z < 256) (w : World) (hT : Tabs w) :
    Calls Tryd.prog 11 #[.agg (nums .u8 a), .agg (nums .u8 b)] w fun e w' => e = .returned (.agg (nums .u8 (sha (a ++ b)))) ∧ Below w.heap.size w w' := by
  go_enter Tryd.func11, Tryd.ntmps11
  go_wp2_with (first
    | (refine wpList_box_has rfl 2 rfl 24 (.tmp 0) rfl .u8 a rfl ?_; intro w1 H1 B1 S1)
    | (refine wpList_box_has rfl 3 rfl 24 (.tmp 1) rfl .u8 b rfl ?_; intro w2 H2 B2 S2)
    | (refine wpList_alloc_has rfl 4 rfl 24 rfl .u8 32 Tryd.zero24 ?_; intro w3 H3 B3 S3)
    | (refine wpList_alloc_has rfl 5 rfl 66 rfl .u8 64 Tryd.zero66 ?_; intro w4 H4 B4 S4))
  have HA4 : Has w4 w.heap.size 24 .u8 a := ((H1.keep B2).keep B3).keep B4
  have HB4 : Has w4 w1.heap.size 24 .u8 b := (H2.keep B3).keep B4
  have HC4 : Has w4 w2.heap.size 24 .u8 (zeros 32) := H3.keep B4
  have HW4 : Below w.heap.size w w4 := below_more (below_more (below_more B1 B2 (Nat.le_refl _)) B3 (Nat.le_refl _)) B4 (Nat.le_refl _)
  have n1 : w.heap.size < w1.heap.size := by omega
  have n2 : w1.heap.size < w2.heap.size := by omega
  have n3 : w2.heap.size < w3.heap.size := by omega
  clear H1 B1 H2 B2 H3 B3 B4 S1 S2 S3 S4
  generalize w1.heap.size = Bb at *
  generalize w2.heap.size = Rb at *
  generalize w3.heap.size = Cb at *
  have HSRC : ∀ j, j < 32 → w4.cell? (Addr.add ⟨w.heap.size, 0, none⟩ j) = some (.int .u8 (a.getD j 0 : Nat)) := fun j hj => by
    rw [Addr.add_lit, Nat.zero_add]; exact HA4.cell j (by omega)
  go_region_law (refine step_copy_has rfl (.tmp 6) (.tmp 7) 67 67 rfl 5 Tryd.underlying67 Tryd.one5 _ _ _ _ _ _ rfl rfl Cb 0 .u8 (zeros 64) 66 (by exact H4) a (by rw [ha]; rfl) (fun _ => ⟨rfl, _, rfl, by rw [ha]; exact HSRC⟩) (by rw [ha, zeros_length]; omega) ?_; intro w5 H5 O5)
  all_goals
    have HB5 := HB4.drew.only O5 (by omega)
    have HC5 := HC4.drew.only O5 (by omega)
    have HW5 := below_only HW4.drew O5 (by omega)
    have HSRC2 : ∀ j, j < 32 → w5.cell? (Addr.add ⟨Bb, 0, none⟩ j) = some (.int .u8 (b.getD j 0 : Nat)) := fun j hj => by
      rw [Addr.add_lit, Nat.zero_add]; exact HB5.cell j (by omega)
    have hol : (over (zeros 64) 0 a).length = 64 := by rw [over_length _ _ _ (by rw [zeros_length]; omega), zeros_length]
    clear HSRC HA4 HB4 HC4 HW4 H4 O5
    go_wp2
    go_region_law (refine step_copy_has rfl (.tmp 9) (.tmp 10) 67 67 rfl 5 Tryd.underlying67 Tryd.one5 _ _ _ _ _ _ rfl rfl Cb 32 .u8 (over (zeros 64) 0 a) 66 (by exact H5) b (by rw [hb]; rfl) (fun _ => ⟨rfl, _, rfl, by rw [hb]; exact HSRC2⟩) (by rw [hb, hol]; omega) ?_; intro w6 H6 O6)
    all_goals
      have HC6 := HC5.drew.only O6 (by omega)
      have HW6 := below_only HW5.drew O6 (by omega)
      rw [over_pair a b ha hb] at H6
      have hab : (a ++ b).length = 64 := by rw [List.length_append, ha, hb]
      have HO := hid (fun (hR : Reads w6 (some ⟨Cb, 0, none⟩) (a ++ b)) => of_any (some ⟨Cb, 0, none⟩) 64 (a ++ b) w6 (hT.keep HW6) (by omega) (by unfold maxLen; omega) (by omega) (fun z hz => by
        rcases List.mem_append.1 hz with hz | hz
        · exact hba z hz
        · exact hbb z hz) hR)
      have HOR := HO.out (.inr ⟨Cb, 0, rfl, fun i hi => by rw [Nat.zero_add]; exact H6.cell i hi⟩)
      rw [hab] at HOR
      have HOQ := hid HOR
      clear HOR HO hab hol HSRC2 HB5 HC5 HW5 H5 O6
      go_wp2_with (first
        | (go_at_call 32; refine HOQ.out.mono ?_; rintro e w7 ⟨rfl, B7⟩)
        | (refine wpList_store_has rfl 24 (.tmp 4) (.tmp 13) rfl Rb .u8 (sha (a ++ b)) (zeros 32) rfl rfl 24 (HC6.keep B7) (by rw [sha_length]; exact Tryd.size24) (by rw [sha_length, zeros_length]) ?_; intro w9 H9 O9))
      refine bodyPost_ret (results_has rfl _ _ Rb 24 .u8 (sha (a ++ b)) _ _ rfl H9 Tryd.und24 (by rw [sha_length]; exact Tryd.size24)) rfl ?_
      exact ⟨rfl, below_only (below_more HW6 B7 (Nat.le_refl _)) O9 (by omega)⟩
end Go.Proofs.YtakdokccdkhcoaaDoor

/- make with room, append within it, and bytes as strings, over rows that are known whole. -/
namespace Go.Proofs.YtakdokccdkhcoaaDoor
open Go.RowKit
set_option linter.unusedVariables false

/-- One by one from a place on. -/
def setMany (l : List Nat) : Nat → List Nat → List Nat
  | _, [] => l
  | o, c :: cs => setMany (l.set o c) (o + 1) cs
theorem setMany_length (cs : List Nat) : ∀ (l : List Nat) (o : Nat), (setMany l o cs).length = l.length := by
  induction cs with
  | nil => intro l o; rfl
  | cons c cs ih => intro l o; rw [setMany, ih, List.length_set]
theorem setMany_getD (cs : List Nat) : ∀ (l : List Nat) (o i : Nat), o + cs.length ≤ l.length → (setMany l o cs).getD i 0 = if o ≤ i ∧ i < o + cs.length then cs.getD (i - o) 0 else l.getD i 0 := by
  induction cs with
  | nil => intro l o i h; rw [setMany, if_neg (by simp)]
  | cons c cs ih =>
    intro l o i h
    simp only [List.length_cons] at h
    rw [setMany, ih _ _ _ (by rw [List.length_set]; omega), getD_set]
    by_cases h1 : o = i
    · subst h1
      rw [if_neg (by omega), if_pos ⟨rfl, by omega⟩, if_pos ⟨by omega, by simp⟩, Nat.sub_self]; rfl
    · by_cases h2 : o + 1 ≤ i ∧ i < o + 1 + cs.length
      · rw [if_pos h2, if_pos ⟨by omega, by simp; omega⟩, show i - o = (i - (o + 1)) + 1 by omega]; rfl
      · rw [if_neg h2, if_neg (by omega), if_neg (by simp; omega)]
theorem over_getD_at (l : List Nat) (o : Nat) (cs : List Nat) (i : Nat) (h : o + cs.length ≤ l.length) : (over l o cs).getD i 0 = if o ≤ i ∧ i < o + cs.length then cs.getD (i - o) 0 else l.getD i 0 := by
  unfold over
  have ht : (l.take o).length = o := by simp; omega
  rw [append_getD, append_getD, ht]
  by_cases h1 : i < o
  · rw [if_pos h1, if_neg (by omega), take_getD _ _ _ h1]
  · rw [if_neg h1]
    by_cases h2 : i - o < cs.length
    · rw [if_pos h2, if_pos (by omega)]
    · rw [if_neg h2, if_neg (by omega), drop_getD]; congr 1; omega
theorem setMany_over (l : List Nat) (o : Nat) (cs : List Nat) (h : o + cs.length ≤ l.length) : setMany l o cs = over l o cs := by
  apply ext_getD
  · rw [setMany_length, over_length _ _ _ h]
  · intro i hi
    rw [setMany_getD cs l o i h, over_getD_at l o cs i h]
theorem has_setCells {g : Nat} {t : TypeId} {k : IntKind} (cs : List Nat) : ∀ (w : World) (l : List Nat) (o : Nat), Has w g t k l → Has (w.setCells g o (cs.map fun n : Nat => Value.int k (n : Int))) g t k (setMany l o cs) ∧ Only g w (w.setCells g o (cs.map fun n : Nat => Value.int k (n : Int))) := by
  induction cs with
  | nil => intro w l o h; exact ⟨h, ⟨rfl, rfl, rfl, rfl, fun _ _ => rfl⟩⟩
  | cons c cs ih =>
    intro w l o h
    rw [List.map_cons, World.setCells, setMany]
    obtain ⟨h1, h2⟩ := ih _ _ (o + 1) (h.set o c)
    exact ⟨h1, (Only.setCell w g o _).trans h2⟩

section
variable {P : Program} {w : World} {ops : Array Oper} {rest : List Oper} {o : Oper} {a : Act} {Q : Exit → Act → World → Prop}
/-- make with room. -/
theorem wpList_make_cap (hgd : o.guard = none) (l c : Operand) (t : TypeId) (ho : o.op = Op.makeSlice t l c) (e : TypeId) (k : IntKind) (h1 : P.underlying t = some (.slice e))
    (hz : (P.info? e).map (fun i => (i.zero, i.size, i.bytes)) = some (some (.int k 0), 1, 1)) (kl kc : IntKind) (L C : Int) (n m : Nat) (hl : a.eval l = .int kl L) (hc : a.eval c = .int kc C) (hL : L = (n : Int)) (hC : C = (m : Int)) (hnm : n ≤ m) (b2 : m ≤ 281474976710656)
    (h : ∀ w', Has w' w.heap.size e k (zeros m) → Below w.heap.size w w' → w'.heap.size = w.heap.size + 1 → wpList P ops Q rest (a.put o.dst (.slice (some ⟨w.heap.size, 0, none⟩) n m)) w') : wpList P ops Q (o :: rest) a w := by
  obtain ⟨i0, hi, hz0, hz1, hz2⟩ : ∃ i, P.info? e = some i ∧ i.zero = some (.int k 0) ∧ i.size = 1 ∧ i.bytes = 1 := by
    cases hq : P.info? e with
    | none => simp [hq] at hz
    | some i => simp [hq] at hz; exact ⟨i, rfl, hz.1, hz.2.1, hz.2.2⟩
  refine wpList_plain hgd fun K hK => ?_
  have hrun := run_make (P := P) w t e i0 (.int k 0) h1 hi hz0 kl kc L C (by omega) (by omega) (by rw [hz2]; omega) (by omega)
  have hz : (madeCells (Value.int k 0).cells (C.toNat * i0.size)) = nums k (zeros m) := by
    apply Array.toList_inj.1
    rw [show (Value.int k 0).cells = #[.int k 0] from rfl, toList_madeCells_one, hz1, hC]
    unfold nums zeros
    rw [List.map_replicate]
    simp
  rw [hz] at hrun
  subst hL
  subst hC
  simp only [Int.toNat_natCast] at hrun
  have := h (w.alloc (.cells (nums k (zeros m)) e)) (heap_alloc_new w _) ((Below.refl _ _).alloc (Nat.le_refl _) _) (by simp)
  unfold Oper.wp
  simp [execOp, ho, hl, hc, hrun, Result.andThen]
  exact hK _ _ this

/-- append where there is room, onto a row of the call's own, from whatever source. -/
theorem wpList_append_has (hgd : o.guard = none) (s x : Operand) (t tx : TypeId) (ho : o.op = Op.call { callee := Callee.builtin Builtin.append, args := #[s, x], argTypes := #[t, tx] })
    (e : TypeId) (i : TypeInfo) (h1 : P.underlying t = some (.slice e)) (h2 : P.info? e = some i) (h3 : i.size = 1) (g n cap : Nat) (hs : a.eval s = .slice (some ⟨g, 0, none⟩) n cap) (v : Value) (hx : a.eval x = v)
    (k : IntKind) (l : List Nat) (t' : TypeId) (hg : Has w g t' k l) (cs : List Nat) (hsrc : Src P 1 tx v cs.length (cs.map fun n : Nat => Value.int k (n : Int)) w) (hcap : l.length = cap) (hroom : n + cs.length ≤ cap)
    (h : ∀ w', Has w' g t' k (over l n cs) → Only g w w' → wpList P ops Q rest (a.put o.dst (.slice (some ⟨g, 0, none⟩) (n + cs.length) cap)) w') : wpList P ops Q (o :: rest) a w := by
  refine wpList_plain hgd fun K hK => ?_
  have hlen : (cs.map fun n : Nat => Value.int k (n : Int)).length = cs.length := by simp
  have hrun := run_append_room_src (P := P) (w := w) t tx o.type e i h1 h2 g 0 n cap v cs.length (cs.map fun n : Nat => Value.int k (n : Int)) (by rw [h3]; exact hsrc) hroom
    (fun j hj => by rw [h3, hg.cell (0 + n * 1 + j) (by rw [hlen] at hj; omega)]; rfl) (fun j hj => hg.frozen _)
  obtain ⟨q1, q2⟩ := has_setCells cs w l (0 + n * i.size) hg
  rw [h3, Nat.zero_add, Nat.mul_one] at q1 q2
  rw [h3, Nat.zero_add, Nat.mul_one] at hrun
  rw [setMany_over l n cs (by omega)] at q1
  unfold Oper.wp
  simp [execOp, ho, resolve, invoke, builtin, hs, hx, hrun, Result.andThen]
  exact hK _ _ (h _ q1 q2)
end

/-- The first n of a row of bytes, turned into a string. -/
theorem conv_take {w : World} {b : Nat} {t : TypeId} {l : List Nat} (h : Has w b t .u8 l) (n cap : Nat) (hn : n ≤ l.length) :
    (convert 67 9 (.slice (some ⟨b, 0, none⟩) n cap)).run Tryd.prog w = .ok (.string (strOf (l.take n))) w := by
  rw [run_convert_bytes_string w 67 9 5 _ _ _ Tryd.underlying67 Tryd.underlying5 Tryd.underlying9]
  refine run_bytesToString w _ n cap ((l.take n).map fun n : Nat => (n : Int)) ?_
  have := run_loadCells_list (P := Tryd.prog) w ⟨b, 0, none⟩ ((l.take n).map fun n : Nat => Value.int .u8 (n : Int)) (fun j u hj => by
    have hjl : j < n := by
      by_cases hjl : j < n
      · exact hjl
      · rw [List.getElem?_eq_none (by simp; omega)] at hj; cases hj
    rw [Addr.add_lit, Nat.zero_add, h.cell j (by omega)]
    simpa [hjl, show j < l.length by omega] using hj)
  rw [List.length_map, List.length_take, Nat.min_eq_left hn] at this
  rw [List.map_map]
  exact this
/-- A slice that came in, turned into a string. -/
theorem conv_reads {w : World} {ao : Option Addr} {zs : List Nat} (h : Reads w ao zs) (cap : Nat) :
    (convert 67 9 (.slice ao zs.length cap)).run Tryd.prog w = .ok (.string (strOf zs)) w := by
  rw [run_convert_bytes_string w 67 9 5 _ _ _ Tryd.underlying67 Tryd.underlying5 Tryd.underlying9]
  rcases ao with _ | ad
  · rcases h with h | ⟨b, off, hb, _⟩
    · obtain rfl : zs = [] := List.eq_nil_of_length_eq_zero h
      unfold Conv.bytesToString strOf
      simp [Sem.run_pure]
    · cases hb
  · refine run_bytesToString w _ zs.length cap (zs.map fun n : Nat => (n : Int)) ?_
    have := run_loadCells_list (P := Tryd.prog) w ad (zs.map fun n : Nat => Value.int .u8 (n : Int)) (fun j u hj => by
      have hjl : j < zs.length := by
        by_cases hjl : j < zs.length
        · exact hjl
        · rw [List.getElem?_eq_none (by simp; omega)] at hj; cases hj
      obtain ⟨ad', e1, hc⟩ := h.src (by omega)
      cases e1
      rw [hc j hjl]
      simpa [hjl] using hj)
    rw [List.length_map] at this
    rw [List.map_map]
    exact this
end Go.Proofs.YtakdokccdkhcoaaDoor

/- A region that draws its order, whose operations only read and whose callees only make memory: one walk in the order of the text, in the class of worlds in which nothing old has turned. And append onto a row of the call's own as a step of such a region. -/
namespace Go.Proofs.YtakdokccdkhcoaaDoor
open Go.RowKit
set_option linter.unusedVariables false

/-- Nothing that the world W held has turned. -/
structure Cls (W w : World) : Prop where
  bel : Below W.heap.size W w
theorem Cls.more {W w w' : World} (h : Cls W w) (k : Below w.heap.size w w') : Cls W w' := ⟨below_more h.bel k (Nat.le_refl _)⟩

section
variable {P : Program} {ops : Array Oper} {o : Oper} {a : Act} {C : World → Prop}
theorem wp_region_cls {id : Nat} {Q : Exit → Act → World → Prop} {w : World} {l : List Oper} (hm : P.follows .mixedOrders = true) (hB : Region.lexB .any l.toArray = true)
    (h : wpQuiet P l.toArray (Cls w) (fun a' => ∀ w', Cls w w' → Q .normal a' w') l a) : (Code.region id l.toArray true).wp P Q a w :=
  wp_region_quiet (C := Cls w) hm hB ⟨(Below.refl _ w).drew⟩ (by simpa using h)
theorem quiet_run {K : Act → Prop} (v : Value) (hrun : ∀ w, C w → (execOp a.eval o).run P w = .ok (.value v) w) (hk : K (a.put o.dst v)) : o.quiet P a C K :=
  ⟨v, fun w hw => by unfold Oper.quietAt; rw [hrun w hw]; exact ⟨rfl, rfl⟩, hk⟩
theorem quiet_load {K : Act → Prop} (ty : TypeId) (x : Operand) (ho : o.op = .load ty x) (g : Nat) (k : IntKind) (l : List Nat) (hx : a.eval x = .pointer (some ⟨g, 0, none⟩)) (t : TypeId) (hg : ∀ w, C w → Has w g t k l)
    (n : Nat) (e : TypeId) (hu : P.underlying ty = some (.array n e)) (hi : (P.info? ty).map (·.size) = some l.length) (hk : K (a.put o.dst (.agg (nums k l)))) : o.quiet P a C K := by
  refine quiet_run _ (fun w hw => ?_) hk
  have hl := run_loadVar_row w g t ty (nums k l) (0, 0) _ (hg w hw) hu rfl (by rw [hi, nums_size])
  unfold execOp
  simp only [ho, hx, Instr.loadAt, Instr.sureAddr, Sem.run_bind, Sem.run_pure, Result.andThen_ok, hl]
theorem quiet_call {K : Act → Prop} (f : FuncId) (args : Array Value) (v : Value) (hrun : ∀ w, (execOp a.eval o).run P w = .ok (.enter f args) w) (hc : ∀ w, C w → Calls P f args w fun e w' => e = .returned v ∧ C w') (hk : K (a.put o.dst v)) : o.quiet P a C K :=
  ⟨v, fun w hw => by unfold Oper.quietAt; rw [hrun w]; exact ⟨rfl, hc w hw⟩, hk⟩
/-- append onto a row of the call's own, as a step of a region that draws. -/
theorem step_append_own {w : World} {K : Act → World → Prop} {Q : Exit → Act → World → Prop} {E : Prop} (hg : o.guard = none) (s x : Operand) (t : TypeId) (hop : o.op = Op.call { callee := Callee.builtin Builtin.append, args := #[s, x], argTypes := #[t, t] })
    (base : Nat) (e : TypeId) (k : IntKind) (h1 : P.underlying t = some (.slice e)) (hz : (P.info? e).map (fun i => (i.zero, i.size, i.bytes)) = some (some (.int k 0), 1, 1))
    (v : Value) (n : Nat) (xs : List Value) (hs : a.eval s = v) (hown : w.ownsRow base e 1 v n xs) (ad : Addr) (cs : List Nat) (c : Nat) (hx : a.eval x = .slice (some ad) cs.length c)
    (hc : ∀ j, j < cs.length → w.cell? (ad.add j) = some (.int k (cs.getD j 0 : Nat))) (b1 : n + cs.length ≤ 140737488355328) (hb : base ≤ w.heap.size)
    (hK : ∀ v' w', w'.ownsRow base e 1 v' (n + cs.length) (xs ++ cs.map fun n : Nat => Value.int k (n : Int)) → w.grownBy w' v.ownBlock → K (a.put o.dst v') w') :
    if Region.wanted o (yielded ops a.tmps) = true then Oper.wp P o a w K Q else E := by
  obtain ⟨i0, hi, hz0, hz1, hz2⟩ : ∃ i, P.info? e = some i ∧ i.zero = some (.int k 0) ∧ i.size = 1 ∧ i.bytes = 1 := by
    cases hq : P.info? e with
    | none => simp [hq] at hz
    | some i => simp [hq] at hz; exact ⟨i, rfl, hz.1, hz.2.1, hz.2.2⟩
  have hw : Region.wanted o (yielded ops a.tmps) = true := by simp [Region.wanted, hg]
  rw [if_pos hw]
  obtain ⟨v', w', hrun, r1, r2, _⟩ := run_append_own (P := P) w base t o.type e i0 (.int k 0) 1 1 h1 hi hz0 hz1 hz2 rfl (by decide) v n xs hown ad cs.length c (cs.map fun n : Nat => Value.int k (n : Int)) (by simp) (fun j u hj => by
    have hjl : j < cs.length := by
      by_cases hjl : j < cs.length
      · exact hjl
      · rw [List.getElem?_eq_none (by simp; omega)] at hj; cases hj
    rw [hc j hjl]
    simpa [hjl] using hj) (fun u hu => by obtain ⟨n, _, rfl⟩ := List.mem_map.1 hu; rfl) (by unfold maxLen; omega) (by omega) hb
  unfold Oper.wp
  simp [execOp, hop, resolve, invoke, builtin, hs, hx, hrun, Result.andThen]
  exact hK v' w' r1 r2
end
end Go.Proofs.YtakdokccdkhcoaaDoor

/- Roots held against each other. -/
namespace Go.Proofs.YtakdokccdkhcoaaDoor
open Go.RowKit
set_option linter.unusedVariables false

theorem nums_cells (l : List Nat) (h : ∀ z ∈ l, z < 256) : nums .u8 l = ((l.map UInt8.ofNat).map Extern.Stop.cell).toArray := by
  unfold nums
  rw [List.map_map]
  congr 1
  apply List.map_congr_left
  intro z hz
  have := h z hz
  show Value.int .u8 (z : Int) = Value.int .u8 ((UInt8.ofNat z).toNat : Int)
  rw [UInt8.toNat_ofNat']
  congr 2
  omega
theorem ofNat_inj (l m : List Nat) (hl : ∀ z ∈ l, z < 256) (hm : ∀ z ∈ m, z < 256) : (l.map UInt8.ofNat == m.map UInt8.ofNat) = decide (l = m) := by
  have key : l.map UInt8.ofNat = m.map UInt8.ofNat → l = m := by
    intro e
    have e2 := congrArg (List.map UInt8.toNat) e
    rw [List.map_map, List.map_map] at e2
    have f : ∀ (k : List Nat), (∀ z ∈ k, z < 256) → k.map (UInt8.toNat ∘ UInt8.ofNat) = k := fun k hk => by
      conv => rhs; rw [← List.map_id k]
      apply List.map_congr_left
      intro z hz
      have := hk z hz
      show (UInt8.ofNat z).toNat = z
      rw [UInt8.toNat_ofNat']
      omega
    rwa [f l hl, f m hm] at e2
  by_cases h : l = m
  · subst h; simp
  · simp only [h, decide_false]
    exact beq_eq_false_iff_ne.2 fun e => h (key e)
theorem eql_roots (l m : List Nat) (hl : l.length = 32) (hm : m.length = 32) (bl : ∀ z ∈ l, z < 256) (bm : ∀ z ∈ m, z < 256) (w : World) :
    (Op.equalIn 10000 23 (.agg (nums .u8 l)) (.agg (nums .u8 m))).run Tryd.prog w = .ok (decide (l = m)) w := by
  rw [nums_cells l bl, nums_cells m bm, run_equalIn_bytes w 9998 23 5 32 Tryd.underlying23 Tryd.underlying5 Tryd.sizeOf5 _ _ (by simpa using hl) (by simpa using hm), ofNat_inj l m bl bm]
theorem eql_api (l m : List Nat) (hl : l.length = 32) (hm : m.length = 32) (bl : ∀ z ∈ l, z < 256) (bm : ∀ z ∈ m, z < 256) (w : World) :
    (Op.equalIn 10000 24 (.agg (nums .u8 l)) (.agg (nums .u8 m))).run Tryd.prog w = .ok (decide (l = m)) w := by
  rw [nums_cells l bl, nums_cells m bm, run_equalIn_bytes w 9998 24 5 32 Tryd.und24 Tryd.underlying5 Tryd.sizeOf5 _ _ (by simpa using hl) (by simpa using hm), ofNat_inj l m bl bm]
end Go.Proofs.YtakdokccdkhcoaaDoor

/- The plain mathematics of trees, over any way f to make one of two, and any empty leaf z: by halves, level by level, and along a branch. -/
namespace Go.Proofs.YtakdokccdkhcoaaDoor
section
variable {α : Type}

/-- The root of a tree of the depth d whose leaves are all z. -/
def zeroUp (f : α → α → α) (z : α) : Nat → α
  | 0 => z
  | d + 1 => f (zeroUp f z d) (zeroUp f z d)
/-- The root of a tree of the depth d: the first 2^d leaves of l, and z behind. -/
def full (f : α → α → α) (z : α) : Nat → List α → α
  | 0, l => l.getD 0 z
  | d + 1, l => f (full f z d l) (full f z d (l.drop (2 ^ d)))
theorem full_nil (f : α → α → α) (z : α) (d : Nat) : full f z d [] = zeroUp f z d := by
  induction d with
  | zero => rfl
  | succ d ih => rw [full, zeroUp, List.drop_nil, ih]
/-- Only the first 2^d leaves count. -/
theorem full_take (f : α → α → α) (z : α) (d : Nat) : ∀ (n : Nat) (l : List α), 2 ^ d ≤ n → full f z d (l.take n) = full f z d l := by
  induction d with
  | zero =>
    intro n l h
    cases n with
    | zero => simp at h
    | succ n => cases l <;> rfl
  | succ d ih =>
    intro n l h
    have h2 : 2 ^ (d + 1) = 2 ^ d + 2 ^ d := by rw [Nat.pow_succ]; omega
    rw [full, full, ih n l (by omega), List.drop_take, ih (n - 2 ^ d) _ (by omega)]
theorem full_of_take (f : α → α → α) (z : α) (d : Nat) (l m : List α) (h : l.take (2 ^ d) = m.take (2 ^ d)) : full f z d l = full f z d m := by
  rw [← full_take f z d (2 ^ d) l (Nat.le_refl _), ← full_take f z d (2 ^ d) m (Nat.le_refl _), h]
/-- A tree that is at most half full. -/
theorem full_half (f : α → α → α) (z : α) (d : Nat) (l : List α) (h : l.length ≤ 2 ^ d) : full f z (d + 1) l = f (full f z d l) (zeroUp f z d) := by
  rw [full, List.drop_eq_nil_of_le h, full_nil]
theorem full_zero (f : α → α → α) (z : α) (l : List α) : full f z 0 l = l.getD 0 z := rfl
theorem zeroUp_up (f : α → α → α) (z : α) (d : Nat) : zeroUp f (f z z) d = zeroUp f z (d + 1) := by
  induction d with
  | zero => rfl
  | succ d ih => rw [zeroUp, ih, zeroUp]; rfl

/-- One level up: neighbours two by two, the last one by z. -/
def level (f : α → α → α) (z : α) : List α → List α
  | [] => []
  | [a] => [f a z]
  | a :: b :: t => f a b :: level f z t
theorem level_length (f : α → α → α) (z : α) : ∀ (l : List α), (level f z l).length = (l.length + 1) / 2
  | [] => by simp [level]
  | [_] => by simp [level]
  | _ :: _ :: t => by simp only [level, List.length_cons, level_length f z t]; omega
theorem level_drop (f : α → α → α) (z : α) : ∀ (n : Nat) (l : List α), level f z (l.drop (2 * n)) = (level f z l).drop n := by
  intro n
  induction n with
  | zero => intro l; rfl
  | succ n ih =>
    intro l
    match l with
    | [] => simp [level]
    | [a] => rw [List.drop_eq_nil_of_le (by simp; omega), List.drop_eq_nil_of_le (by simp [level])]; rfl
    | a :: b :: t =>
      rw [show 2 * (n + 1) = 2 * n + 1 + 1 by omega, List.drop_succ_cons, List.drop_succ_cons, level, List.drop_succ_cons]
      exact ih t
theorem level_getD (f : α → α → α) (z : α) (i : Nat) (l : List α) : (level f z l).getD i (f z z) = f (l.getD (2 * i) z) (l.getD (2 * i + 1) z) := by
  induction i generalizing l with
  | zero =>
    match l with
    | [] => rfl
    | [_] => rfl
    | _ :: _ :: _ => rfl
  | succ i ih =>
    match l with
    | [] => rfl
    | [a] => rfl
    | a :: b :: t =>
      rw [level, show 2 * (i + 1) = 2 * i + 1 + 1 by omega, List.getD_cons_succ, List.getD_cons_succ, List.getD_cons_succ, show 2 * i + 1 + 1 + 1 = 2 * i + 1 + 1 + 1 from rfl, List.getD_cons_succ, List.getD_cons_succ]
      exact ih t
/-- A tree is that of the level above, one less deep. -/
theorem full_level (f : α → α → α) (z : α) (d : Nat) : ∀ l : List α, full f z (d + 1) l = full f (f z z) d (level f z l) := by
  induction d with
  | zero =>
    intro l
    match l with
    | [] => rfl
    | [_] => rfl
    | _ :: _ :: _ => rfl
  | succ d ih =>
    intro l
    rw [full, ih, ih, full, show 2 ^ (d + 1) = 2 * 2 ^ d by rw [Nat.pow_succ]; omega, level_drop]
/-- The k-th level above l. -/
def levels (f : α → α → α) (z : α) (l : List α) : Nat → List α
  | 0 => l
  | k + 1 => level f (zeroUp f z k) (levels f z l k)
theorem levels_getD (f : α → α → α) (z : α) (l : List α) (k : Nat) : ∀ i : Nat, (levels f z l k).getD i (zeroUp f z k) = full f z k (l.drop (i * 2 ^ k)) := by
  induction k with
  | zero => intro i; simp [levels, full, zeroUp, List.getD_eq_getElem?_getD]
  | succ k ih =>
    intro i
    rw [levels, zeroUp, level_getD, ih, ih, full, List.drop_drop]
    have e1 : 2 * i * 2 ^ k = i * 2 ^ (k + 1) := by rw [Nat.pow_succ, Nat.mul_comm 2 i, Nat.mul_assoc, Nat.mul_comm 2 (2 ^ k)]
    have e2 : (2 * i + 1) * 2 ^ k = i * 2 ^ (k + 1) + 2 ^ k := by rw [Nat.add_mul, e1, Nat.one_mul]
    rw [e1, e2]
/-- A tree of the depth k + d is that of its k-th level, d deep. -/
theorem full_levels (f : α → α → α) (z : α) (l : List α) (d : Nat) : ∀ k : Nat, full f z (k + d) l = full f (zeroUp f z k) d (levels f z l k) := by
  intro k
  induction k generalizing d with
  | zero => rw [Nat.zero_add]; rfl
  | succ k ih => rw [show k + 1 + d = k + (d + 1) by omega, ih, full_level]; rfl
/-- The whole tree, where the k-th level is at its top. -/
theorem full_top (f : α → α → α) (z : α) (l : List α) (d : Nat) : full f z d l = (levels f z l d).getD 0 (zeroUp f z d) := by
  rw [levels_getD, Nat.zero_mul]; rfl
theorem levels_nil (f : α → α → α) (z : α) (k : Nat) : levels f z [] k = [] := by
  induction k with
  | zero => rfl
  | succ k ih => rw [levels, ih]; rfl
theorem levels_length (f : α → α → α) (z : α) (l : List α) (k : Nat) : (levels f z l (k + 1)).length = ((levels f z l k).length + 1) / 2 := level_length f _ _
/-- Behind the leaves there is nothing but zero. -/
theorem full_beyond (f : α → α → α) (z : α) (k n : Nat) (l : List α) (h : l.length ≤ n) : full f z k (l.drop n) = zeroUp f z k := by
  rw [List.drop_eq_nil_of_le h, full_nil]

/-- What one comes to from a leaf along a branch: bit by bit of the place i. -/
def climb (f : α → α → α) (x : α) : List α → Nat → α
  | [], _ => x
  | b :: t, i => climb f (if i % 2 = 1 then f b x else f x b) t (i / 2)
theorem climb_append (f : α → α → α) (b : α) : ∀ (t : List α) (x : α) (i : Nat), climb f x (t ++ [b]) i = if i / 2 ^ t.length % 2 = 1 then f b (climb f x t i) else f (climb f x t i) b
  | [], x, i => by simp [climb]
  | a :: t, x, i => by
    rw [List.cons_append, climb, climb_append f b t, climb, List.length_cons, Nat.div_div_eq_div_mul, show 2 * 2 ^ t.length = 2 ^ (t.length + 1) by rw [Nat.pow_succ]; omega]
/-- The neighbour of the place i at the level k. -/
def beside (f : α → α → α) (z : α) (l : List α) (i k : Nat) : α := full f z k (l.drop ((i / 2 ^ k ^^^ 1) * 2 ^ k))
/-- The branch of the place i, k levels up. -/
def branch (f : α → α → α) (z : α) (l : List α) (i k : Nat) : List α := (List.range k).map (beside f z l i)
theorem branch_length (f : α → α → α) (z : α) (l : List α) (i k : Nat) : (branch f z l i k).length = k := by simp [branch]
theorem branch_succ (f : α → α → α) (z : α) (l : List α) (i k : Nat) : branch f z l i (k + 1) = branch f z l i k ++ [beside f z l i k] := by
  simp [branch, List.range_succ]
theorem xor_one (j : Nat) : j ^^^ 1 = if j % 2 = 1 then j - 1 else j + 1 := by
  apply Nat.eq_of_testBit_eq
  intro i
  rw [Nat.testBit_xor]
  cases i with
  | zero =>
    split
    · rename_i h
      have h2 : (j - 1) % 2 = 0 := by omega
      simp [Nat.testBit_zero, h, h2]
    · rename_i h
      have h1 : j % 2 = 0 := by omega
      have h2 : (j + 1) % 2 = 1 := by omega
      simp only [Nat.testBit_zero, h1, h2]
      rfl
  | succ i =>
    rw [Nat.testBit_succ, Nat.testBit_succ, show (1 : Nat) / 2 = 0 from rfl, Nat.zero_testBit, Bool.xor_false, Nat.testBit_succ]
    congr 1
    split <;> omega
theorem beside_levels (f : α → α → α) (z : α) (l : List α) (i k : Nat) : beside f z l i k = (levels f z l k).getD (i / 2 ^ k ^^^ 1) (zeroUp f z k) := by
  rw [levels_getD]; rfl
/-- Along the branch of the place i one comes, from any leaf x, to the tree in which x stands at i. -/
theorem climb_branch (f : α → α → α) (z x : α) (l : List α) (i k : Nat) (hi : i < l.length) : climb f x (branch f z l i k) i = full f z k ((l.set i x).drop (i / 2 ^ k * 2 ^ k)) := by
  induction k with
  | zero =>
    simp [branch, climb, full, List.getD_eq_getElem?_getD, hi]
  | succ k ih =>
    rw [branch_succ, climb_append, branch_length, ih, beside, xor_one, full, List.drop_drop]
    have hp : 0 < 2 ^ k := Nat.two_pow_pos k
    have hd : i / 2 ^ (k + 1) = i / 2 ^ k / 2 := by rw [Nat.pow_succ, Nat.div_div_eq_div_mul]
    have hlo : i / 2 ^ k * 2 ^ k ≤ i := Nat.div_mul_le_self _ _
    have hhi : i < (i / 2 ^ k + 1) * 2 ^ k := by
      rw [Nat.mul_comm]; exact Nat.lt_mul_div_succ i hp
    rw [hd]
    generalize i / 2 ^ k = j at hlo hhi ⊢
    have hq : j / 2 * 2 ^ (k + 1) = j / 2 * 2 * 2 ^ k := by rw [Nat.pow_succ, Nat.mul_assoc, Nat.mul_comm 2]
    rw [hq]
    split
    · rename_i h1
      have e1 : j / 2 * 2 = j - 1 := by omega
      have e2 : (j - 1) * 2 ^ k + 2 ^ k = j * 2 ^ k := by rw [← Nat.succ_mul]; congr 1; omega
      rw [e1, e2]
      congr 1
      apply full_of_take
      apply List.ext_getElem?
      intro n
      rw [List.getElem?_take, List.getElem?_take]
      split
      · rename_i hn
        rw [List.getElem?_drop, List.getElem?_drop, List.getElem?_set_ne (by omega)]
      · rfl
    · rename_i h1
      have e1 : j / 2 * 2 = j := by omega
      have e2 : (j + 1) * 2 ^ k = j * 2 ^ k + 2 ^ k := by rw [Nat.add_mul, Nat.one_mul]
      rw [e1, ← e2]
      congr 2
      apply List.ext_getElem?
      intro n
      rw [List.getElem?_drop, List.getElem?_drop, List.getElem?_set_ne (by omega)]
theorem climb_full (f : α → α → α) (z x : α) (l : List α) (i d : Nat) (hi : i < l.length) (hd : i < 2 ^ d) : climb f x (branch f z l i d) i = full f z d (l.set i x) := by
  rw [climb_branch f z x l i d hi, Nat.div_eq_of_lt hd, Nat.zero_mul]; rfl
theorem climb_own (f : α → α → α) (z : α) (l : List α) (i d : Nat) (hi : i < l.length) (hd : i < 2 ^ d) : climb f l[i] (branch f z l i d) i = full f z d l := by
  rw [climb_full f z _ l i d hi hd, List.set_getElem_self]
end

/-- The least depth from d on, at most n more, with 2^d at least m. -/
def depFrom (m : Int) : Nat → Nat → Nat
  | 0, d => d
  | n + 1, d => if (2 ^ d : Int) < m then depFrom m n (d + 1) else d
/-- The depth of a tree with the limit m. -/
def depth (m : Int) : Nat := depFrom m 62 0
theorem depFrom_le (m : Int) : ∀ n d : Nat, depFrom m n d ≤ d + n
  | 0, d => Nat.le_refl _
  | n + 1, d => by
    rw [depFrom]
    split
    · exact Nat.le_trans (depFrom_le m n (d + 1)) (by omega)
    · omega
theorem depth_le (m : Int) : depth m ≤ 62 := by have := depFrom_le m 62 0; rwa [Nat.zero_add] at this
theorem depFrom_same (m : Int) : ∀ n d : Nat, d ≤ n → (∀ e, e < d → (2 ^ e : Int) < m) → depFrom m (n - d) d = depFrom m n 0
  | _, 0, _, _ => by rw [Nat.sub_zero]
  | n, d + 1, h, hb => by
    rw [← depFrom_same m n d (by omega) (fun e he => hb e (by omega)), show n - d = n - (d + 1) + 1 by omega, depFrom, if_pos (hb d (by omega))]
theorem depth_at (m : Int) (d : Nat) (hd : d ≤ 62) (hb : ∀ e, e < d → (2 ^ e : Int) < m) (ht : d = 62 ∨ m ≤ 2 ^ d) : depth m = d := by
  rw [depth, ← depFrom_same m 62 d hd hb]
  cases h : 62 - d with
  | zero => rfl
  | succ n => rw [depFrom, if_neg (by rcases ht with e | e <;> omega)]

/-- The j-th part of 32 bytes, filled up with 0. -/
def chunkAt (b : List Nat) (j : Nat) : List Nat := (b.drop (32 * j)).take 32 ++ List.replicate (32 - ((b.drop (32 * j)).take 32).length) 0
theorem chunkAt_length (b : List Nat) (j : Nat) : (chunkAt b j).length = 32 := by
  simp only [chunkAt, List.length_append, List.length_replicate]
  have : ((b.drop (32 * j)).take 32).length ≤ 32 := List.length_take_le _ _
  omega
theorem chunkAt_getD (b : List Nat) (j i : Nat) (h : i < 32) : (chunkAt b j).getD i 0 = b.getD (32 * j + i) 0 := by
  simp only [chunkAt, List.getD_eq_getElem?_getD]
  by_cases hi : i < ((b.drop (32 * j)).take 32).length
  · rw [List.getElem?_append_left hi, List.getElem?_take, if_pos h, List.getElem?_drop]
  · rw [List.getElem?_append_right (by omega), List.getElem?_replicate]
    have hn : b[32 * j + i]? = none := by
      rw [List.getElem?_eq_none_iff]
      simp only [List.length_take, List.length_drop] at hi
      omega
    rw [hn]
    split <;> rfl
/-- Bytes in parts of 32. -/
def chunks (b : List Nat) : List (List Nat) := (List.range ((b.length + 31) / 32)).map (chunkAt b)
theorem chunks_length (b : List Nat) : (chunks b).length = (b.length + 31) / 32 := by simp [chunks]
end Go.Proofs.YtakdokccdkhcoaaDoor

/- Rows of roots in memory: 32 cells each, one behind the other; how they are read, parted and appended to. -/
namespace Go.Proofs.YtakdokccdkhcoaaDoor
open Go.RowKit
set_option linter.unusedVariables false

/-- Each of them has 32 bytes. -/
structure Rts (rs : List (List Nat)) : Prop where
  len : ∀ r ∈ rs, r.length = 32
  byte : ∀ r ∈ rs, ∀ z ∈ r, z < 256
theorem Rts.nil : Rts [] := ⟨fun _ h => absurd h List.not_mem_nil, fun _ h => absurd h List.not_mem_nil⟩
theorem Rts.cons {r : List Nat} {rs : List (List Nat)} (h : Rts (r :: rs)) : Rts rs := ⟨fun x hx => h.len x (by simp [hx]), fun x hx => h.byte x (by simp [hx])⟩
theorem Rts.append {rs ss : List (List Nat)} (h : Rts rs) (k : Rts ss) : Rts (rs ++ ss) :=
  ⟨fun x hx => (List.mem_append.1 hx).elim (h.len x) (k.len x), fun x hx => (List.mem_append.1 hx).elim (h.byte x) (k.byte x)⟩
theorem Rts.drop {rs : List (List Nat)} (h : Rts rs) (n : Nat) : Rts (rs.drop n) := ⟨fun x hx => h.len x (List.mem_of_mem_drop hx), fun x hx => h.byte x (List.mem_of_mem_drop hx)⟩
theorem Rts.take {rs : List (List Nat)} (h : Rts rs) (n : Nat) : Rts (rs.take n) := ⟨fun x hx => h.len x (List.mem_of_mem_take hx), fun x hx => h.byte x (List.mem_of_mem_take hx)⟩
theorem Rts.one {r : List Nat} (h : r.length = 32) (k : ∀ z ∈ r, z < 256) : Rts [r] := ⟨fun x hx => by simp at hx; subst hx; exact h, fun x hx => by simp at hx; subst hx; exact k⟩
theorem Rts.set {rs : List (List Nat)} (h : Rts rs) (i : Nat) {r : List Nat} (hl : r.length = 32) (hb : ∀ z ∈ r, z < 256) : Rts (rs.set i r) :=
  ⟨fun x hx => (List.mem_or_eq_of_mem_set hx).elim (h.len x) (fun e => e ▸ hl), fun x hx => (List.mem_or_eq_of_mem_set hx).elim (h.byte x) (fun e => e ▸ hb)⟩
theorem Rts.at {rs : List (List Nat)} (h : Rts rs) (i : Nat) (hi : i < rs.length) : (rs.getD i []).length = 32 ∧ ∀ z ∈ rs.getD i [], z < 256 := by
  have e : rs.getD i [] = rs[i] := by simp [hi]
  rw [e]
  exact ⟨h.len _ (List.getElem_mem hi), h.byte _ (List.getElem_mem hi)⟩
theorem Rts.bytes {rs : List (List Nat)} (h : Rts rs) : ∀ z ∈ rs.flatten, z < 256 := fun z hz => by
  obtain ⟨r, hr, hz⟩ := List.mem_flatten.1 hz
  exact h.byte r hr z hz

theorem flat_length (rs : List (List Nat)) (h : Rts rs) : rs.flatten.length = 32 * rs.length := by
  induction rs with
  | nil => rfl
  | cons r rs ih => rw [List.flatten_cons, List.length_append, ih h.cons, h.len r (by simp), List.length_cons]; omega
theorem flat_drop (rs : List (List Nat)) (h : Rts rs) (i : Nat) : rs.flatten.drop (32 * i) = (rs.drop i).flatten := by
  induction i generalizing rs with
  | zero => rfl
  | succ i ih =>
    cases rs with
    | nil => simp
    | cons r rs =>
      have hr := h.len r (by simp)
      rw [List.flatten_cons, show 32 * (i + 1) = r.length + 32 * i by omega, List.drop_append, List.drop_succ_cons, ← ih rs h.cons]
      simp
theorem flat_take (rs : List (List Nat)) (h : Rts rs) (i : Nat) : rs.flatten.take (32 * i) = (rs.take i).flatten := by
  induction i generalizing rs with
  | zero => simp
  | succ i ih =>
    cases rs with
    | nil => simp
    | cons r rs =>
      have hr := h.len r (by simp)
      rw [List.flatten_cons, show 32 * (i + 1) = r.length + 32 * i by omega, List.take_append, List.take_succ_cons, List.flatten_cons, ← ih rs h.cons, List.take_of_length_le (by omega)]
      simp
theorem flat_at (rs : List (List Nat)) (h : Rts rs) (i : Nat) (hi : i < rs.length) : (rs.flatten.drop (32 * i)).take 32 = rs.getD i [] := by
  rw [flat_drop rs h, show (32 : Nat) = 32 * 1 from rfl, flat_take _ (h.drop i)]
  rw [List.drop_eq_getElem_cons hi, List.take_succ_cons, List.take_zero, List.flatten_cons, List.flatten_nil, List.append_nil]
  simp [hi]
theorem flat_getD (rs : List (List Nat)) (h : Rts rs) (i j : Nat) (hi : i < rs.length) (hj : j < 32) : rs.flatten.getD (32 * i + j) 0 = (rs.getD i []).getD j 0 := by
  rw [← flat_at rs h i hi]
  simp only [List.getD_eq_getElem?_getD, List.getElem?_take, if_pos hj, List.getElem?_drop]
theorem flat_set (rs : List (List Nat)) (h : Rts rs) (i : Nat) (hi : i < rs.length) (r : List Nat) (hr : r.length = 32) : rs.flatten.take (32 * i) ++ r ++ rs.flatten.drop (32 * i + 32) = (rs.set i r).flatten := by
  rw [show 32 * i + 32 = 32 * (i + 1) by omega, flat_take rs h, flat_drop rs h, List.set_eq_take_append_cons_drop, if_pos hi, List.flatten_append, List.flatten_cons, List.append_assoc]
theorem flat_inj (rs ss : List (List Nat)) (h : Rts rs) (k : Rts ss) (e : rs.flatten = ss.flatten) : rs = ss := by
  induction rs generalizing ss with
  | nil =>
    cases ss with
    | nil => rfl
    | cons s ss =>
      have := congrArg List.length e
      have hs := k.len s (by simp)
      simp only [List.flatten_nil, List.flatten_cons, List.length_append, List.length_nil, hs] at this
      omega
  | cons r rs ih =>
    cases ss with
    | nil =>
      have := congrArg List.length e
      have hr := h.len r (by simp)
      simp only [List.flatten_nil, List.flatten_cons, List.length_append, List.length_nil, hr] at this
      omega
    | cons s ss =>
      have hr := h.len r (by simp)
      have hs := k.len s (by simp)
      rw [List.flatten_cons, List.flatten_cons] at e
      obtain ⟨e1, e2⟩ := List.append_inj e (by rw [hr, hs])
      rw [e1, ih ss h.cons k.cons e2]

/-- Roots, as cells. -/
def cellsOf (rs : List (List Nat)) : List Value := rs.flatten.map fun n : Nat => Value.int .u8 (n : Int)
theorem cellsOf_append (rs ss : List (List Nat)) : cellsOf (rs ++ ss) = cellsOf rs ++ cellsOf ss := by simp [cellsOf]
theorem cellsOf_length (rs : List (List Nat)) (h : Rts rs) : (cellsOf rs).length = rs.length * 32 := by rw [cellsOf, List.length_map, flat_length rs h, Nat.mul_comm]
theorem cellsOf_one (rs : List (List Nat)) : ∀ u ∈ cellsOf rs, u.oneCell' = true := fun u hu => by obtain ⟨n, _, rfl⟩ := List.mem_map.1 hu; rfl
theorem cellsOf_inj (rs ss : List (List Nat)) (h : Rts rs) (k : Rts ss) (e : cellsOf rs = cellsOf ss) : rs = ss := by
  refine flat_inj rs ss h k (nums_inj .u8 _ _ ?_)
  unfold nums
  exact congrArg List.toArray e

/-- The slice at that address reads as these roots. -/
structure RootsAt (w : World) (ao : Option Addr) (rs : List (List Nat)) : Prop where
  rts : Rts rs
  reads : Reads w ao rs.flatten
theorem RootsAt.nil (w : World) (ao : Option Addr) : RootsAt w ao [] := ⟨Rts.nil, .inl rfl⟩
theorem RootsAt.keep {w w' : World} {ao : Option Addr} {rs : List (List Nat)} (h : RootsAt w ao rs) (hb : Below w.heap.size w w') : RootsAt w' ao rs := ⟨h.rts, h.reads.keep hb⟩
theorem RootsAt.addr {w : World} {ao : Option Addr} {rs : List (List Nat)} (h : RootsAt w ao rs) (h0 : 0 < rs.length) : ∃ b off, ao = some ⟨b, off, none⟩ ∧ ∀ i, i < 32 * rs.length → w.cell? ⟨b, off + i, none⟩ = some (.int .u8 (rs.flatten.getD i 0 : Nat)) := by
  have hl := flat_length rs h.rts
  rcases h.reads with e | ⟨b, off, e, hc⟩
  · omega
  · exact ⟨b, off, e, fun i hi => hc i (by omega)⟩
/-- One root of a row. -/
theorem RootsAt.range {w : World} {b off : Nat} {rs : List (List Nat)} (h : RootsAt w (some ⟨b, off, none⟩) rs) (i : Nat) (hi : i < rs.length) : w.rangeAt b (off + 32 * i) (nums .u8 (rs.getD i [])).toList := by
  obtain ⟨b', off', e, hc⟩ := h.addr (by omega)
  cases e
  intro j v hv
  have hn := (h.rts.at i hi).1
  have hj : j < 32 := by
    by_cases hj : j < 32
    · exact hj
    · rw [List.getElem?_eq_none (by rw [Array.length_toList, nums_size]; omega)] at hv; cases hv
  rw [Nat.add_assoc, hc (32 * i + j) (by omega), flat_getD rs h.rts i j hi hj, ← nums_get .u8 _ j (by omega)]
  simpa using hv
/-- A part of a row. -/
theorem RootsAt.part {w : World} {b off : Nat} {rs : List (List Nat)} (h : RootsAt w (some ⟨b, off, none⟩) rs) (i n : Nat) : RootsAt w (some ⟨b, off + 32 * i, none⟩) ((rs.drop i).take n) := by
  refine ⟨(h.rts.drop i).take n, ?_⟩
  by_cases h0 : rs.length ≤ i
  · rw [List.drop_eq_nil_of_le h0]; exact .inl (by simp)
  · obtain ⟨b', off', e, hc⟩ := h.addr (by omega)
    cases e
    refine .inr ⟨b, off + 32 * i, rfl, fun j hj => ?_⟩
    have hl := flat_length _ ((h.rts.drop i).take n)
    rw [List.length_take, List.length_drop] at hl
    have hm1 : min n (rs.length - i) ≤ rs.length - i := Nat.min_le_right _ _
    have hm2 : min n (rs.length - i) ≤ n := Nat.min_le_left _ _
    rw [Nat.add_assoc, hc (32 * i + j) (by omega), ← flat_take _ (h.rts.drop i), ← flat_drop rs h.rts]
    simp only [List.getD_eq_getElem?_getD]
    rw [List.getElem?_take, if_pos (by omega), List.getElem?_drop]
theorem RootsAt.first {w : World} {ao : Option Addr} {rs : List (List Nat)} (h : RootsAt w ao rs) (n : Nat) : RootsAt w ao (rs.take n) := by
  rcases ao with _ | ⟨b, off, p⟩
  · refine ⟨h.rts.take n, ?_⟩
    rcases h.reads with e | ⟨b, off, e, _⟩
    · exact .inl (by rw [← flat_take rs h.rts, List.length_take]; omega)
    · cases e
  · by_cases h0 : rs.length = 0
    · rw [List.eq_nil_of_length_eq_zero h0, List.take_nil]; exact RootsAt.nil w _
    · obtain ⟨b', off', e, hc⟩ := h.addr (by omega)
      cases e
      have := h.part 0 n
      rwa [Nat.mul_zero, Nat.add_zero, List.drop_zero] at this
/-- A row of the call's own reads as its roots. -/
theorem RootsAt.own {w : World} {base n : Nat} {e : TypeId} {v : Value} {rs : List (List Nat)} (hr : Rts rs) (h : w.ownsRow base e 32 v n (cellsOf rs)) :
    n = rs.length ∧ ∃ ao cap, v = .slice ao rs.length cap ∧ rs.length ≤ cap ∧ cap ≤ maxLen ∧ RootsAt w ao rs := by
  obtain ⟨hlen, h⟩ := h
  rw [cellsOf_length rs hr] at hlen
  obtain rfl : n = rs.length := by omega
  refine ⟨rfl, ?_⟩
  rcases h with ⟨rfl, h0⟩ | ⟨g, cap, cur, rfl, hb, hg, hnc, hm, hcs, htk⟩
  · obtain rfl : rs = [] := List.eq_nil_of_length_eq_zero h0
    exact ⟨none, 0, rfl, Nat.le_refl _, by unfold maxLen; omega, RootsAt.nil w _⟩
  · refine ⟨_, cap, rfl, hnc, hm, hr, .inr ⟨g, 0, rfl, fun i hi => ?_⟩⟩
    have hl := flat_length rs hr
    rw [Nat.zero_add, cell_of_row w g i _ _ (0, 0) hg, ← Array.getElem?_toList]
    have : (cur.toList.take (rs.length * 32))[i]? = (cellsOf rs)[i]? := by rw [htk]
    rw [List.getElem?_take, if_pos (by omega)] at this
    rw [this, cellsOf, List.getElem?_map, List.getElem?_eq_getElem hi, List.getD_eq_getElem?_getD, List.getElem?_eq_getElem hi]
    rfl

/-- Cells put one by one from a place on. -/
def setV (c : Array Value) : Nat → List Value → Array Value
  | _, [] => c
  | o, v :: vs => setV (c.setIfInBounds o v) (o + 1) vs
theorem setV_size (vs : List Value) : ∀ (c : Array Value) (o : Nat), (setV c o vs).size = c.size := by
  induction vs with
  | nil => intro c o; rfl
  | cons v vs ih => intro c o; rw [setV, ih, Array.size_setIfInBounds]
theorem setV_get (vs : List Value) : ∀ (c : Array Value) (o : Nat), o + vs.length ≤ c.size → ∀ i, (setV c o vs)[i]? = if o ≤ i ∧ i < o + vs.length then vs[i - o]? else c[i]? := by
  induction vs with
  | nil => intro c o h i; rw [setV, if_neg (by simp)]
  | cons v vs ih =>
    intro c o h i
    rw [List.length_cons] at h ⊢
    rw [setV, ih _ _ (by rw [Array.size_setIfInBounds]; omega)]
    by_cases e : i = o
    · subst e
      rw [if_neg (by omega), if_pos (by omega), Array.getElem?_setIfInBounds, if_pos rfl, if_pos (by omega), Nat.sub_self]
      rfl
    · by_cases e2 : o + 1 ≤ i ∧ i < o + 1 + vs.length
      · rw [if_pos e2, if_pos (by omega), show i - o = i - (o + 1) + 1 by omega, List.getElem?_cons_succ]
      · rw [if_neg e2, if_neg (by omega), Array.getElem?_setIfInBounds, if_neg (by omega)]
theorem heap_setCells {g : Nat} {t : TypeId} (vs : List Value) : ∀ (w : World) (c : Array Value) (o : Nat), w.heap[g]? = some (.cells c t (0, 0)) → (w.setCells g o vs).heap[g]? = some (.cells (setV c o vs) t (0, 0)) ∧ Only g w (w.setCells g o vs) := by
  induction vs with
  | nil => intro w c o h; exact ⟨h, ⟨rfl, rfl, rfl, rfl, fun _ _ => rfl⟩⟩
  | cons v vs ih =>
    intro w c o h
    rw [World.setCells, setV]
    obtain ⟨h1, h2⟩ := ih (w.setCell ⟨g, o, none⟩ v) _ (o + 1) (heap_setCell_same w g o _ t v h)
    exact ⟨h1, (Only.setCell w g o _).trans h2⟩
/-- A root of a row of the call's own, written over. -/
theorem own_set {w : World} {base n cap g : Nat} {e : TypeId} {rs : List (List Nat)} (hr : Rts rs) (h : w.ownsRow base e 32 (.slice (some ⟨g, 0, none⟩) n cap) n (cellsOf rs)) (i : Nat) (hi : i < rs.length) (r : List Nat) (hl : r.length = 32) :
    w.there g (32 * i) 32 ∧ (w.setCells g (32 * i) (nums .u8 r).toList).ownsRow base e 32 (.slice (some ⟨g, 0, none⟩) n cap) n (cellsOf (rs.set i r)) ∧ Only g w (w.setCells g (32 * i) (nums .u8 r).toList) := by
  obtain ⟨hlen, h⟩ := h
  rw [cellsOf_length rs hr] at hlen
  obtain rfl : n = rs.length := by omega
  rcases h with ⟨hv, _⟩ | ⟨g', cap', cur, hv, hb, hg, hnc, hm, hcs, htk⟩
  · cases hv
  · simp only [Value.slice.injEq, Option.some.injEq, Addr.mk.injEq] at hv
    obtain ⟨⟨rfl, _, _⟩, _, rfl⟩ := hv
    have hnl : (nums .u8 r).toList.length = 32 := by rw [Array.length_toList, nums_size, hl]
    have hfit : 32 * i + 32 ≤ cur.size := by rw [hcs]; have : i + 1 ≤ cap := by omega
                                             omega
    obtain ⟨h1, h2⟩ := heap_setCells (nums .u8 r).toList w cur (32 * i) hg
    refine ⟨fun j hj => ⟨?_, frozen_of_row w g _ _ e hg⟩, ⟨?_, .inr ⟨g, cap, _, rfl, hb, h1, hnc, hm, by rw [setV_size, hcs], ?_⟩⟩, h2⟩
    · rw [cell_of_row w g _ _ e (0, 0) hg, Array.getElem?_eq_getElem (by omega)]; rfl
    · rw [cellsOf, ← flat_set rs hr i hi r hl, List.length_map]
      have hf := flat_length rs hr
      simp only [List.length_append, List.length_take, List.length_drop, hl, hf]
      omega
    · rw [cellsOf, ← flat_set rs hr i hi r hl]
      have hf := flat_length rs hr
      have htk' : ∀ j, j < 32 * rs.length → cur[j]? = (rs.flatten[j]?).map fun n : Nat => Value.int .u8 (n : Int) := by
        intro j hj
        have : (cur.toList.take (rs.length * 32))[j]? = (cellsOf rs)[j]? := by rw [htk]
        rw [List.getElem?_take, if_pos (by omega), cellsOf, List.getElem?_map, Array.getElem?_toList] at this
        exact this
      apply List.ext_getElem?
      intro j
      rw [List.getElem?_take, List.getElem?_map]
      by_cases hj : j < rs.length * 32
      · rw [if_pos hj, Array.getElem?_toList, setV_get _ _ _ (by rw [hnl]; exact hfit), hnl]
        have ht : (rs.flatten.take (32 * i)).length = 32 * i := by rw [List.length_take]; omega
        by_cases h3 : j < 32 * i
        · rw [if_neg (by omega), List.append_assoc, List.getElem?_append_left (by omega), List.getElem?_take, if_pos h3]
          exact htk' j (by omega)
        · by_cases h4 : j < 32 * i + 32
          · rw [if_pos (by omega), List.append_assoc, List.getElem?_append_right (by omega), ht, List.getElem?_append_left (by omega)]
            simp [nums]
          · rw [if_neg (by omega), List.getElem?_append_right (by rw [List.length_append]; omega), List.length_append, ht, hl, List.getElem?_drop, show 32 * i + 32 + (j - (32 * i + 32)) = j by omega]
            exact htk' j (by omega)
      · rw [if_neg hj, List.getElem?_eq_none (by simp only [List.length_append, List.length_take, List.length_drop, hl, hf]; omega)]
        rfl

section
variable {P : Program} {w : World} {ops : Array Oper} {rest : List Oper} {o : Oper} {a : Act} {Q : Exit → Act → World → Prop}
/-- A root read out of a row. -/
theorem wpList_load_root (hgd : o.guard = none) (ty : TypeId) (x : Operand) (ho : o.op = .load ty x) (b off i : Nat) (rs : List (List Nat)) (hx : a.eval x = .pointer (some ⟨b, off + 32 * i, none⟩)) (hr : RootsAt w (some ⟨b, off, none⟩) rs) (hi : i < rs.length)
    (n : Nat) (e : TypeId) (hu : P.underlying ty = some (.array n e)) (hs : (P.info? ty).map (·.size) = some 32)
    (h : wpList P ops Q rest (a.put o.dst (.agg (nums .u8 (rs.getD i [])))) w) : wpList P ops Q (o :: rest) a w :=
  wpList_load_mid hgd ty x ho b (off + 32 * i) hx (nums .u8 (rs.getD i [])).toList _ (hr.range i hi) hu rfl (by rw [hs, Array.length_toList, nums_size, (hr.rts.at i hi).1]) (by rwa [Array.toArray_toList])
/-- A root written into a row of the call's own. -/
theorem wpList_store_root (hgd : o.guard = none) (ty : TypeId) (x y : Operand) (ho : o.op = .store ty x y) (base n cap g i : Nat) (e : TypeId) (rs : List (List Nat)) (r : List Nat) (hx : a.eval x = .pointer (some ⟨g, 32 * i, none⟩)) (hy : a.eval y = .agg (nums .u8 r))
    (hr : Rts rs) (hown : w.ownsRow base e 32 (.slice (some ⟨g, 0, none⟩) n cap) n (cellsOf rs)) (hi : i < rs.length) (hl : r.length = 32) (hs : (P.info? ty).map (·.size) = some 32)
    (h : ∀ w', w'.ownsRow base e 32 (.slice (some ⟨g, 0, none⟩) n cap) n (cellsOf (rs.set i r)) → Only g w w' → wpList P ops Q rest (a.put o.dst undef) w') : wpList P ops Q (o :: rest) a w := by
  obtain ⟨h1, h2, h3⟩ := own_set hr hown i hi r hl
  exact wpList_store_mid hgd ty x y ho g (32 * i) (nums .u8 r) hx hy (by rw [nums_size, hl]; exact h1) (by rw [hs, nums_size, hl]) (nums_one .u8 r) (h _ h2 h3)
/-- Roots appended onto a row of the call's own. -/
theorem wpList_append_roots (hgd : o.guard = none) (s x : Operand) (t : TypeId) (ho : o.op = .call { callee := .builtin .append, args := #[s, x], argTypes := #[t, t] })
    (base : Nat) (e : TypeId) (ht : P.underlying t = some (.slice e)) (hi : (P.info? e).map (fun i => (i.zero, i.size, i.bytes)) = some (some (.agg (nums .u8 (zeros 32))), 32, 32))
    (v : Value) (n : Nat) (rs ss : List (List Nat)) (hs : a.eval s = v) (hown : w.ownsRow base e 32 v n (cellsOf rs)) (hss : Rts ss) (ad : Addr) (c : Nat) (hx : a.eval x = .slice (some ad) ss.length c)
    (hc : ∀ j, j < 32 * ss.length → w.cell? (ad.add j) = some (.int .u8 (ss.flatten.getD j 0 : Nat))) (hb : n + ss.length ≤ 4398046511104) (hbase : base ≤ w.heap.size)
    (h : ∀ v' w', w'.ownsRow base e 32 v' (n + ss.length) (cellsOf (rs ++ ss)) → w.grownBy w' v.ownBlock → wpList P ops Q rest (a.put o.dst v') w') : wpList P ops Q (o :: rest) a w := by
  obtain ⟨i0, hi, hz0, hz1, hz2⟩ : ∃ i, P.info? e = some i ∧ i.zero = some (.agg (nums .u8 (zeros 32))) ∧ i.size = 32 ∧ i.bytes = 32 := by
    cases hq : P.info? e with
    | none => simp [hq] at hi
    | some i => simp [hq] at hi; exact ⟨i, rfl, hi.1, hi.2.1, hi.2.2⟩
  have hl := flat_length ss hss
  refine wpList_append_own w hgd s x t ho base e i0 (.agg (nums .u8 (zeros 32))) 32 32 ht hi hz0 hz1 hz2 (by simp [Value.cells, nums_size, zeros_length]) (by decide) v n (cellsOf rs) hs hown ad ss.length c (cellsOf ss) hx (cellsOf_length ss hss) ?_ (cellsOf_one ss) (by unfold maxLen; omega) (by omega) hbase ?_
  · intro j u hu
    have hj : j < 32 * ss.length := by
      by_cases hj : j < 32 * ss.length
      · exact hj
      · rw [List.getElem?_eq_none (by rw [cellsOf_length ss hss]; omega)] at hu; cases hu
    rw [hc j hj]
    have : j < ss.flatten.length := by omega
    rw [cellsOf, List.getElem?_map, List.getElem?_eq_getElem this] at hu
    rw [List.getD_eq_getElem?_getD, List.getElem?_eq_getElem this]
    exact hu
  · intro v' w' h1 h2 _
    rw [← cellsOf_append] at h1
    exact h v' w' h1 h2
end
end Go.Proofs.YtakdokccdkhcoaaDoor

/- Digests are bytes. -/
namespace Go.Proofs.YtakdokccdkhcoaaDoor
open Go.RowKit
theorem joinUp_bytes (hs : List Nat) (i : Nat) : ∀ z ∈ joinUp hs i, z < 256 := by
  induction i with
  | zero => exact zeros_bytes 32
  | succ i ih => exact set_bytes _ _ _ ih (Nat.mod_lt _ (by decide))
theorem sha_bytes (zs : List Nat) : ∀ z ∈ sha zs, z < 256 := joinUp_bytes _ _
end Go.Proofs.YtakdokccdkhcoaaDoor

