/- Contracts of the document's Tree, and of both Mix: a number mixed in. -/
import Derived.Test.YtbmcmabimfoknaaGreatDoorPutC
namespace Go.Proofs.YtbmcmabimfoknaaGreatDoor
set_option maxRecDepth 100000
open Go.RowKit
set_option linter.unusedVariables false

set_option maxRecDepth 100000 in
set_option maxHeartbeats 1000000 in
theorem rtree_bad (ao : Option Addr) (cap : Nat) (rs : List (List Nat)) (m : Int) (w : World) (hcap : rs.length ≤ cap) (hm : cap ≤ maxLen) (h0 : -9223372036854775808 ≤ m) (h1 : m ≤ 9223372036854775807) (hbad : m < 0 ∨ m < (rs.length : Int)) :
    Calls Tryz.prog 36 #[.slice ao rs.length cap, .int .i64 m] w fun e w' => e = .returned (.tuple #[.agg (nums .u8 (zeros 32)), .bool false]) ∧ Below w.heap.size w w' := by
  unfold maxLen at hm
  have hzr := zero_rt
  by_cases hneg : m < 0
  · go_enter Tryz.func36, Tryz.ntmps36
    go_wp2_with (first
      | (refine wpList_alloc_has rfl 4 rfl 22 rfl .u8 32 Tryz.zero22 ?_; intro w1 H1 B1 S1)
      | (refine wpList_build_has rfl 22 _ rfl .u8 (zeros 32) (by kernel_rfl) ?_)
      | (refine wpList_store_has rfl 22 (.tmp 4) (.tmp 14) rfl w.heap.size .u8 (zeros 32) (zeros 32) rfl rfl 22 H1 (hzr.size _ Tryz.size22) rfl ?_; intro w9 H9 O9))
    refine bodyPost_ret (results_cell_tmp rfl _ _ w.heap.size 22 .u8 (zeros 32) _ _ _ rfl rfl H9 Tryz.underlying22 (hzr.size _ Tryz.size22)) rfl ?_
    exact ⟨rfl, below_only B1 O9 (Nat.le_refl _)⟩
  · have hlt : m < (rs.length : Int) := by omega
    go_enter Tryz.func36, Tryz.ntmps36
    go_wp2_with (first
      | (refine wpList_alloc_has rfl 4 rfl 22 rfl .u8 32 Tryz.zero22 ?_; intro w1 H1 B1 S1)
      | (refine wpList_build_has rfl 22 _ rfl .u8 (zeros 32) (by kernel_rfl) ?_)
      | (refine wpList_store_has rfl 22 (.tmp 4) (.tmp 14) rfl w.heap.size .u8 (zeros 32) (zeros 32) rfl rfl 22 H1 (hzr.size _ Tryz.size22) rfl ?_; intro w9 H9 O9))
    refine bodyPost_ret (results_cell_tmp rfl _ _ w.heap.size 22 .u8 (zeros 32) _ _ _ rfl rfl H9 Tryz.underlying22 (hzr.size _ Tryz.size22)) rfl ?_
    exact ⟨rfl, below_only B1 O9 (Nat.le_refl _)⟩

set_option maxRecDepth 100000 in
set_option maxHeartbeats 1000000 in
theorem rtree_any (ao : Option Addr) (cap : Nat) (rs : List (List Nat)) (m : Int) (w : World) (hcap : rs.length ≤ cap) (hm : cap ≤ maxLen) (hR : RootsAt w ao rs) (h0 : (rs.length : Int) ≤ m) (h1 : m ≤ 9223372036854775807) :
    Calls Tryz.prog 36 #[.slice ao rs.length cap, .int .i64 m] w fun e w' => e = .returned (.tuple #[.agg (nums .u8 (fullR (depth m) rs)), .bool true]) ∧ Below w.heap.size w w' := by
  have hm' := hm
  unfold maxLen at hm
  have hd62 := depth_le m
  have HD := hid (fun w => rdepth_any m (by omega) h1 w)
  have hfr := full_rt (depth m) rs hR.rts
  have HF := hid (fun w (h : RootsAt w ao rs) => rfull_any (depth m) hd62 ao cap rs w hcap hm' h)
  have hmn : ¬ m < 0 := by omega
  have hml : ¬ m < (rs.length : Int) := by omega
  obtain ⟨T, hT⟩ : ∃ T, fullR (depth m) rs = T := ⟨_, rfl⟩
  have ht' : Rt T := by rw [← hT]; exact hfr
  rw [hT] at HF ⊢
  clear hT hfr
  generalize depth m = d at *
  go_enter Tryz.func36, Tryz.ntmps36
  go_wp2_with (first
    | (refine wpList_alloc_has rfl 4 rfl 22 rfl .u8 32 Tryz.zero22 ?_; intro w1 H1 B1 S1)
    | (go_at_call 35; refine (HD.out _).mono ?_; rintro e w2 ⟨rfl, rfl⟩)
    | (go_at_call 34; refine (HF.out _ (hR.keep B1)).mono ?_; rintro e w3 ⟨rfl, B3⟩)
    | (refine wpList_store_has rfl 22 (.tmp 4) (.tmp 18) rfl w.heap.size .u8 T (zeros 32) rfl rfl 22 (H1.keep B3) (ht'.size _ Tryz.size22) (by rw [ht'.len, zeros_length]) ?_; intro w9 H9 O9))
  refine bodyPost_ret (results_cell_tmp rfl _ _ w.heap.size 22 .u8 T _ _ _ rfl rfl H9 Tryz.underlying22 (ht'.size _ Tryz.size22)) rfl ?_
  exact ⟨rfl, below_only (below_more B1 B3 (Nat.le_refl _)) O9 (Nat.le_refl _)⟩

/-- Byte i of n. -/
def byteN (n i : Nat) : Nat := n / 256 ^ i % 256
/-- A number as a root, its first t bytes. -/
def wUp (n : Nat) : Nat → List Nat
  | 0 => zeros 32
  | t + 1 => (wUp n t).set t (byteN n t)
theorem wUp_rt (n t : Nat) : Rt (wUp n t) := by
  induction t with
  | zero => exact zero_rt
  | succ t ih => exact ⟨by rw [wUp, List.length_set]; exact ih.len, set_bytes _ _ _ ih.byte (Nat.mod_lt _ (by decide))⟩
def byte8 (n : Nat) : List Nat := (List.range 8).map (byteN n)
theorem over_word (n : Nat) : over (zeros 32) 0 (byte8 n) = wUp n 8 := rfl
theorem put_cells {w : World} {base : Nat} {v : Value} {n : Nat} (h : w.ownsRow base 5 1 v 8 ((putL n 8).map (Value.int .u8))) : ∃ g cap, base ≤ g ∧ 8 ≤ cap ∧ cap ≤ maxLen ∧ v = .slice (some ⟨g, 0, none⟩) 8 cap ∧ ∀ i, i < 8 → w.cell? ⟨g, i, none⟩ = some (.int .u8 (byteN n i : Nat)) := by
  obtain ⟨hl, ⟨_, h8⟩ | ⟨g, cap, cur, rfl, hb, hg, hnc, hm, hcs, htk⟩⟩ := h
  · omega
  · refine ⟨g, cap, hb, hnc, hm, rfl, fun i hi => ?_⟩
    rw [cell_of_row w g i _ _ (0, 0) hg, ← Array.getElem?_toList]
    have : (cur.toList.take (8 * 1))[i]? = ((putL n 8).map (Value.int .u8))[i]? := by rw [htk]
    rw [List.getElem?_take, if_pos (by omega)] at this
    rw [this]
    simp [putL, hi, byteAt, byteN]

set_option maxRecDepth 100000 in
set_option maxHeartbeats 1000000 in
theorem word_any (n : Nat) (hn : n < 18446744073709551616) (w : World) :
    Calls Tryz.prog 31 #[.int .u64 n] w fun e w' => e = .returned (.agg (nums .u8 (wUp n 8))) ∧ Below w.heap.size w w' := by
  have hzr := zero_rt
  have HP := hid (fun w => refPut_any n 8 hn (by omega) w)
  go_enter Tryz.func31, Tryz.ntmps31
  go_wp2_with (first
    | (refine wpList_alloc_has rfl 2 rfl 22 rfl .u8 32 Tryz.zero22 ?_; intro w1 H1 B1 S1)
    | (refine wpList_build_has rfl 22 _ rfl .u8 (zeros 32) (by kernel_rfl) ?_)
    | (refine wpList_alloc_has rfl 3 rfl 22 rfl .u8 32 Tryz.zero22 ?_; intro w2 H2 B2 S2; rw [S1] at H2 ⊢)
    | (refine wpList_store_has rfl 22 (.tmp 3) (.tmp 6) rfl (w.heap.size + 1) .u8 (zeros 32) (zeros 32) rfl rfl 22 H2 (hzr.size _ Tryz.size22) rfl ?_; intro w3 H3 O3)
    | (go_at_call 38; refine (HP.out _).mono ?_; rintro e w4 ⟨v, rfl, own4, B4⟩; obtain ⟨g, cap, hg, c1, c2, rfl, hcell⟩ := put_cells own4))
  have HW3 := below_only (below_more B1 B2 (Nat.le_refl _)) O3 (by omega)
  have HA3 := (H1.keep B2).only O3 (by omega)
  have HW4 := below_more HW3 B4 (Nat.le_refl _)
  have HA4 := HA3.keep B4
  have HB4 := H3.keep B4
  have lt3 := H3.lt
  unfold maxLen at c2
  have hc4 := hid hcell
  clear H1 B1 H2 B2 S1 S2 O3 H3 HA3 HW3 own4 hcell
  go_loopw [5] (fun i wr => ∃ t : Nat, t ≤ 8 ∧ i = .int .i64 t ∧ Has wr (w.heap.size + 1) 22 .u8 (wUp n t) ∧ Has wr w.heap.size 22 .u8 (zeros 32) ∧ (∀ i, i < 8 → wr.cell? ⟨g, i, none⟩ = some (.int .u8 (byteN n i : Nat))) ∧ Below w.heap.size w wr) (fun i _ => 8 - (intOf i).toNat)
  case atStart => exact ⟨0, by omega, rfl, HB4, HA4, hc4.out, HW4⟩
  case round =>
    clear HB4 HA4 hc4 HW4
    obtain ⟨t, ht, rfl, HB, HA, hc, HW⟩ := hrel
    have hwl := (wUp_rt n t).len
    by_cases hlt : t < 8
    · have c0 := hc t hlt
      have c1' := HB.cell t (by omega)
      have f1 := HB.frozen t
      have HS : Same (wUp n (t + 1)) ((wUp n t).set t (byteN n t)) := ⟨by rw [wUp]⟩
      have hcq := hid hc
      clear hc hwl
      generalize byteN n t = bt at *
      generalize wUp n t = wl at *
      go_wp2
      go_roundw
      case rel =>
        have HO := Only.setCell wr (w.heap.size + 1) t (.int .u8 (bt : Nat))
        exact ⟨t + 1, by omega, by go_num, by rw [HS.out]; exact HB.set t _, HA.only HO (by omega), fun i hi => by rw [World.cell?_of_block (w := wr) (a := ⟨g, i, none⟩) (HO.block g (by omega))]; exact hcq.out i hi, below_only HW HO (by omega)⟩
      case measure => simp [intOf]; omega
    · have ht2 : t = 8 := by omega
      subst ht2
      have hwr := wUp_rt n 8
      go_wp2_with (first
        | (refine wpList_load_has rfl 22 (.tmp 3) rfl (w.heap.size + 1) .u8 (wUp n 8) rfl 22 HB _ _ Tryz.underlying22 (hwr.size _ Tryz.size22) ?_)
        | (refine wpList_store_has rfl 22 (.tmp 2) (.tmp 19) rfl w.heap.size .u8 (wUp n 8) (zeros 32) rfl rfl 22 HA (hwr.size _ Tryz.size22) (by rw [hwr.len, zeros_length]) ?_; intro w9 H9 O9))
      refine bodyPost_ret (results_has rfl _ _ w.heap.size 22 .u8 (wUp n 8) _ _ rfl H9 Tryz.underlying22 (hwr.size _ Tryz.size22)) rfl ?_
      exact ⟨rfl, below_only HW O9 (by omega)⟩
end Go.Proofs.YtbmcmabimfoknaaGreatDoor
