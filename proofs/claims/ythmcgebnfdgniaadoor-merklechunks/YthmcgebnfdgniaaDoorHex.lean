/- Contracts of digest.Hex and digest.Pair, and of the document's. -/
import Derived.Test.YthmcgebnfdgniaaDoorHexPure
namespace Go.Proofs.YthmcgebnfdgniaaDoor
set_option maxRecDepth 100000
open Go.RowKit
set_option linter.unusedVariables false

theorem Tryd.zero45 : (Tryd.prog.info? 45).map (fun i => (i.zero, i.size)) = some (some (.agg (nums .u8 (zeros 64))), 64) := by kernel_rfl
theorem Tryd.size45 : (Tryd.prog.info? 45).map (·.size) = some 64 := by kernel_rfl

/-- The bytes of a list of numbers, as a string. -/
def strOf (l : List Nat) : ByteArray := (l.map fun n : Nat => (n : Int)).foldl (fun r n => r.push (UInt8.ofNat n.toNat)) ByteArray.empty

/-- A row of bytes, turned into a string. -/
theorem conv_has {w : World} {b : Nat} {t : TypeId} {l : List Nat} (h : Has w b t .u8 l) (n cap : Nat) (hn : l.length = n) :
    (convert 22 9 (.slice (some ⟨b, 0, none⟩) n cap)).run Tryd.prog w = .ok (.string (strOf l)) w := by
  rw [run_convert_bytes_string w 22 9 5 _ _ _ Tryd.underlying22 Tryd.underlying5 Tryd.underlying9]
  refine run_bytesToString w _ n cap (l.map fun n : Nat => (n : Int)) ?_
  have := run_loadCells_list (P := Tryd.prog) w ⟨b, 0, none⟩ (l.map fun n : Nat => Value.int .u8 (n : Int)) (fun j u hj => by
    have hjl : j < l.length := by
      by_cases hjl : j < l.length
      · exact hjl
      · rw [List.getElem?_eq_none (by simp; omega)] at hj; cases hj
    rw [Addr.add_lit, Nat.zero_add, h.cell j hjl]
    simpa [hjl] using hj)
  rw [List.length_map, hn] at this
  rw [List.map_map]
  exact this

theorem digit_run (n : Nat) (h : n < 16) (w : World) :
    (Instr.index 9 (.string ⟨#[48, 49, 50, 51, 52, 53, 54, 55, 56, 57, 97, 98, 99, 100, 101, 102]⟩) (.int .u8 (n : Int))).run Tryd.prog w = .ok (.int .u8 (dig n : Nat)) w := by
  have hc : n = 0 ∨ n = 1 ∨ n = 2 ∨ n = 3 ∨ n = 4 ∨ n = 5 ∨ n = 6 ∨ n = 7 ∨ n = 8 ∨ n = 9 ∨ n = 10 ∨ n = 11 ∨ n = 12 ∨ n = 13 ∨ n = 14 ∨ n = 15 := by omega
  rcases hc with rfl | rfl | rfl | rfl | rfl | rfl | rfl | rfl | rfl | rfl | rfl | rfl | rfl | rfl | rfl | rfl
  all_goals (simp [Instr.index, asIntOf, run_underlying Tryd.underlying9, dig]; rfl)
theorem digit_at (n : Nat) (h : n < (⟨#[48, 49, 50, 51, 52, 53, 54, 55, 56, 57, 97, 98, 99, 100, 101, 102]⟩ : ByteArray).size) : ((⟨#[48, 49, 50, 51, 52, 53, 54, 55, 56, 57, 97, 98, 99, 100, 101, 102]⟩ : ByteArray)[n]'h).toNat = dig n := by
  have h' : n < 16 := h
  have hc : n = 0 ∨ n = 1 ∨ n = 2 ∨ n = 3 ∨ n = 4 ∨ n = 5 ∨ n = 6 ∨ n = 7 ∨ n = 8 ∨ n = 9 ∨ n = 10 ∨ n = 11 ∨ n = 12 ∨ n = 13 ∨ n = 14 ∨ n = 15 := by omega
  rcases hc with rfl | rfl | rfl | rfl | rfl | rfl | rfl | rfl | rfl | rfl | rfl | rfl | rfl | rfl | rfl | rfl
  all_goals rfl
theorem index_run (l : List Nat) (hl : l.length = 32) (t : Nat) (h : t < 32) (w : World) :
    (Instr.index 31 (.agg (nums .u8 l)) (.int .i64 (t : Int))).run Tryd.prog w = .ok (.int .u8 (l.getD t 0 : Nat)) w := by
  have hg := nums_get .u8 l t (by omega)
  simp [Instr.index, asIntOf, run_underlying Tryd.und31, part, hg, go_sem]
  intro h2
  omega
theorem low_digit (x : Nat) (h : x < 256) : bits .and .u8 (x : Int) 15 = ((x % 16 : Nat) : Int) := by
  rw [show (15 : Int) = ((15 : Nat) : Int) from rfl, u8_and_nat _ _ h (by decide), nat_mask4]

set_option maxRecDepth 100000 in
set_option maxHeartbeats 1000000 in
theorem hex_any (l : List Nat) (hl : l.length = 32) (hby : ∀ z ∈ l, z < 256) (w : World) :
    Calls Tryd.prog 8 #[.agg (nums .u8 l)] w fun e w' => e = .returned (.string (strOf (hexUp l 32))) ∧ Below w.heap.size w w' := by
  go_enter Tryd.func8, Tryd.ntmps8
  go_wp2_with (first
    | (refine wpList_box_has rfl 1 rfl 31 (.tmp 0) rfl .u8 l rfl ?_; intro w1 H1 B1 S1)
    | (refine wpList_alloc_has rfl 3 rfl 45 rfl .u8 64 Tryd.zero45 ?_; intro w2 H2 B2 S2)
    | (refine wpList_load_has rfl 31 (.tmp 1) rfl w.heap.size .u8 l rfl 31 (H1.keep B2) _ _ Tryd.und31 (by rw [hl]; exact Tryd.size31) ?_))
  rw [S1] at H2 B2 S2
  have HW : Below w.heap.size w w2 := B1.trans (B2.mono (by omega))
  clear H1 B1 B2 S1 S2
  go_loopw [7] (fun i wr => ∃ t : Nat, t ≤ 32 ∧ i = .int .i64 t ∧ Has wr (w.heap.size + 1) 45 .u8 (hexUp l t) ∧ Below w.heap.size w wr) (fun i _ => 32 - (intOf i).toNat)
  case atStart => exact ⟨0, by omega, rfl, by rw [hexUp]; exact H2, HW⟩
  case round =>
    clear H2 HW
    obtain ⟨t, ht, rfl, HB, HW⟩ := hrel
    by_cases hlt : t < 32
    · have hx := bytes_getD l hby t
      have hg := nums_get .u8 l t (by omega)
      have c1 := HB.cell (2 * t) (by rw [hexUp_length]; omega)
      have c2 := HB.cell (2 * t + 1) (by rw [hexUp_length]; omega)
      have f1 := HB.frozen (2 * t)
      have f2 := HB.frozen (2 * t + 1)
      have hix := index_run l hl t hlt
      have hd1 := digit_run (l.getD t 0 / 16) (by omega)
      have hd2 := digit_run (l.getD t 0 % 16) (by omega)
      have ha := low_digit (l.getD t 0) hx
      have HS : Same (hexUp l (t + 1)) (((hexUp l t).set (2 * t) (dig (l.getD t 0 / 16))).set (2 * t + 1) (dig (l.getD t 0 % 16))) := ⟨by rw [hexUp]⟩
      generalize l.getD t 0 = x at *
      have e1 : ((x / 16 : Nat) : Int) = (x : Int) / 16 := by simp
      rw [e1] at hd1
      generalize hexUp l t = hl0 at *
      clear hg e1
      go_wp2
      go_roundw
      case rel =>
        rw [digit_at]
        have HO1 := Only.setCell wr (w.heap.size + 1) (2 * t) (.int .u8 (dig (x / 16) : Nat))
        have HO2 := HO1.trans (Only.setCell _ (w.heap.size + 1) (2 * t + 1) (.int .u8 (dig (x % 16) : Nat)))
        exact ⟨t + 1, by omega, by go_num, by rw [HS.out]; exact (HB.set (2 * t) _).set (2 * t + 1) _, below_only HW HO2 (by omega)⟩
      case measure => simp [intOf]; omega
    · have ht2 : t = 32 := by omega
      subst ht2
      have hcv := conv_has HB 64 64 (hexUp_length l 32)
      go_wp2
      go_ret
      exact ⟨rfl, HW⟩

set_option maxRecDepth 100000 in
set_option maxHeartbeats 1000000 in
theorem pair_any (a b : List Nat) (ha : a.length = 32) (hb : b.length = 32) (hba : ∀ z ∈ a, z < 256) (hbb : ∀ z ∈ b, z < 256) (w : World) (hT : Tabs w) :
    Calls Tryd.prog 15 #[.agg (nums .u8 a), .agg (nums .u8 b)] w fun e w' => e = .returned (.agg (nums .u8 (sha (a ++ b)))) ∧ Below w.heap.size w w' := by
  go_enter Tryd.func15, Tryd.ntmps15
  go_wp2_with (first
    | (refine wpList_box_has rfl 2 rfl 31 (.tmp 0) rfl .u8 a rfl ?_; intro w1 H1 B1 S1)
    | (refine wpList_box_has rfl 3 rfl 31 (.tmp 1) rfl .u8 b rfl ?_; intro w2 H2 B2 S2)
    | (refine wpList_alloc_has rfl 4 rfl 31 rfl .u8 32 Tryd.zero31 ?_; intro w3 H3 B3 S3)
    | (refine wpList_alloc_has rfl 5 rfl 45 rfl .u8 64 Tryd.zero45 ?_; intro w4 H4 B4 S4))
  have HA4 : Has w4 w.heap.size 31 .u8 a := ((H1.keep B2).keep B3).keep B4
  have HB4 : Has w4 w1.heap.size 31 .u8 b := (H2.keep B3).keep B4
  have HC4 : Has w4 w2.heap.size 31 .u8 (zeros 32) := H3.keep B4
  have HW4 : Below w.heap.size w w4 := below_more (below_more (below_more B1 B2 (Nat.le_refl _)) B3 (Nat.le_refl _)) B4 (Nat.le_refl _)
  have n1 : w.heap.size < w1.heap.size := by omega
  have n2 : w1.heap.size < w2.heap.size := by omega
  have n3 : w2.heap.size < w3.heap.size := by omega
  clear H1 B1 H2 B2 H3 B3 B4 S1 S2 S3 S4
  generalize w1.heap.size = Bb at *
  generalize w2.heap.size = Rb at *
  generalize w3.heap.size = Cb at *
  have HSRC : ∀ j, j < 32 → w4.cell? (Addr.add ⟨w.heap.size, 0, none⟩ j) = some (.int .u8 (a.getD j 0 : Nat)) := fun j hj => by
    rw [Addr.add_lit, Nat.zero_add]; exact HA4.cell j (by omega)
  go_region_law (refine step_copy_has rfl (.tmp 6) (.tmp 7) 22 22 rfl 5 Tryd.underlying22 Tryd.one5 _ _ _ _ _ _ rfl rfl Cb 0 .u8 (zeros 64) 45 (by exact H4) a (by rw [ha]; rfl) (fun _ => ⟨rfl, _, rfl, by rw [ha]; exact HSRC⟩) (by rw [ha, zeros_length]; omega) ?_; intro w5 H5 O5)
  all_goals
    have HB5 := HB4.drew.only O5 (by omega)
    have HC5 := HC4.drew.only O5 (by omega)
    have HW5 := below_only HW4.drew O5 (by omega)
    have HSRC2 : ∀ j, j < 32 → w5.cell? (Addr.add ⟨Bb, 0, none⟩ j) = some (.int .u8 (b.getD j 0 : Nat)) := fun j hj => by
      rw [Addr.add_lit, Nat.zero_add]; exact HB5.cell j (by omega)
    have hol : (over (zeros 64) 0 a).length = 64 := by rw [over_length _ _ _ (by rw [zeros_length]; omega), zeros_length]
    clear HSRC HA4 HB4 HC4 HW4 H4 O5
    go_wp2
    go_region_law (refine step_copy_has rfl (.tmp 9) (.tmp 10) 22 22 rfl 5 Tryd.underlying22 Tryd.one5 _ _ _ _ _ _ rfl rfl Cb 32 .u8 (over (zeros 64) 0 a) 45 (by exact H5) b (by rw [hb]; rfl) (fun _ => ⟨rfl, _, rfl, by rw [hb]; exact HSRC2⟩) (by rw [hb, hol]; omega) ?_; intro w6 H6 O6)
    all_goals
      have HC6 := HC5.drew.only O6 (by omega)
      have HW6 := below_only HW5.drew O6 (by omega)
      rw [over_pair a b ha hb] at H6
      have hab : (a ++ b).length = 64 := by rw [List.length_append, ha, hb]
      have HO := hid (fun (hR : Reads w6 (some ⟨Cb, 0, none⟩) (a ++ b)) => of_any (some ⟨Cb, 0, none⟩) 64 (a ++ b) w6 (hT.keep HW6) (by omega) (by unfold maxLen; omega) (by omega) (fun z hz => by
        rcases List.mem_append.1 hz with hz | hz
        · exact hba z hz
        · exact hbb z hz) hR)
      have HOR := HO.out (.inr ⟨Cb, 0, rfl, fun i hi => by rw [Nat.zero_add]; exact H6.cell i hi⟩)
      rw [hab] at HOR
      have HOQ := hid HOR
      clear HOR HO hab hol HSRC2 HB5 HC5 HW5 H5 O6
      go_wp2_with (first
        | (go_at_call 17; refine HOQ.out.mono ?_; rintro e w7 ⟨rfl, B7⟩)
        | (refine wpList_store_has rfl 31 (.tmp 4) (.tmp 13) rfl Rb .u8 (sha (a ++ b)) (zeros 32) rfl rfl 31 (HC6.keep B7) (by rw [sha_length]; exact Tryd.size31) (by rw [sha_length, zeros_length]) ?_; intro w9 H9 O9))
      refine bodyPost_ret (results_has rfl _ _ Rb 31 .u8 (sha (a ++ b)) _ _ rfl H9 Tryd.und31 (by rw [sha_length]; exact Tryd.size31)) rfl ?_
      exact ⟨rfl, below_only (below_more HW6 B7 (Nat.le_refl _)) O9 (by omega)⟩
end Go.Proofs.YthmcgebnfdgniaaDoor
