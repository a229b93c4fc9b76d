/- List. -/
import Derived.Test.YtibblghdemmkjaaDoorLi8
namespace Go.Proofs.YtibblghdemmkjaaDoor
open Go.RowKit
set_option linter.unusedVariables false
set_option maxRecDepth 100000

/-- The list behind so many rounds. -/
def ordK (s : List Nat) (n k : Nat) : List Nat := (List.range n).map (ix s n k)
theorem ordK_zero (s : List Nat) (n : Nat) : ordK s n 0 = List.range n := by
  have : (fun i => ix s n 0 i) = id := rfl
  unfold ordK
  exact (List.map_congr_left fun i _ => rfl).trans (List.map_id _)
theorem ordK_succ (s : List Nat) (n k : Nat) : (ordK s n k).map (mv s k n) = ordK s n (k + 1) := by
  unfold ordK
  rw [List.map_map]
  rfl
theorem ordK_length (s : List Nat) (n k : Nat) : (ordK s n k).length = n := by simp [ordK]
theorem ordK_get (s : List Nat) (n k j : Nat) (hj : j < n) : (ordK s n k).getD j 0 = ix s n k j := by
  simp [ordK, List.getD_eq_getElem?_getD, hj]
theorem Tryd.infoU64 : (Tryd.prog.info? 22).map (fun i => (i.zero, i.size, i.bytes)) = some (some (.int .u64 0), 1, 8) := by kernel_rfl

theorem list_bad (n : Nat) (s : List Nat) (hn : n < 18446744073709551616) (h : 1048576 < n) (w : World) :
    Calls Tryd.prog 9 #[.int .u64 n, .agg (nums .u8 s)] w fun e w' => e = .returned (.tuple #[.slice none 0 0, .int .i64 2]) ∧ Below w.heap.size w w' := by
  go_enter Tryd.func9, Tryd.ntmps9
  go_wp2_with (refine wpList_box_has rfl 3 rfl 24 (.tmp 1) rfl .u8 s rfl ?_; intro w1 H1 B1 S1)
  refine bodyPost_ret (results_tmp_tmp rfl _ _) rfl ?_
  exact ⟨rfl, B1⟩

set_option maxHeartbeats 2000000 in
theorem list_ok (n : Nat) (s : List Nat) (hs : Rt s) (hn : n ≤ 1048576) (w : World) (hT : Tabs w) :
    Calls Tryd.prog 9 #[.int .u64 n, .agg (nums .u8 s)] w fun e w' => ∃ g, w.heap.size ≤ g ∧ e = .returned (.tuple #[.slice (some ⟨g, 0, none⟩) n n, .int .i64 0]) ∧ Has w' g 22 .u64 (ordK s n 5) ∧ Below w.heap.size w w' := by
  have hd : decide (1048576 < (n : Int)) = false := by simp; omega
  have hTT := hid hT
  clear hT
  obtain ⟨Z, hZ⟩ : ∃ Z, Same (ordK s n 5) Z := ⟨_, ⟨rfl⟩⟩
  rw [hZ.out]
  go_enter Tryd.func9, Tryd.ntmps9
  go_wp2_with (first
    | (refine wpList_box_has rfl 3 rfl 24 (.tmp 1) rfl .u8 s rfl ?_; intro w1 H1 B1 S1)
    | (at_make; refine wpList_make_u64 rfl (.tmp 11) (.tmp 11) 32 rfl 22 .u64 8 (Nat.le_refl _) (by kernel_rfl) Tryd.infoU64 .u64 .u64 _ _ n rfl rfl rfl rfl (by omega) ?_; intro w2 H2 B2))
  obtain ⟨g, hg⟩ : ∃ g, w.heap.size + 1 = g := ⟨_, rfl⟩
  have hgl := H1.lt
  have hS2 := hid (H1.keep B2)
  have hB2 := hid (below_more B1 B2 (Nat.le_refl _))
  rw [S1] at hgl H2
  rw [hg] at hgl H2 ⊢
  rw [← upI_zero] at H2
  have hL2 := hid H2
  clear H1 B1 S1 H2 B2 hg
  go_loopw [7, 15] (fun _ c wr => ∃ k : Nat, k ≤ n ∧ c = .int .i64 (k : Nat) ∧ Has wr g 22 .u64 (upI n k) ∧ Has wr w.heap.size 24 .u8 s ∧ Below w.heap.size w wr) (fun _ c _ => n - (intOf c).toNat)
  case atStart => exact ⟨0, by omega, rfl, hL2.out, hS2.out, hB2.out⟩
  case round =>
    clear hL2 hS2 hB2
    obtain ⟨k, hk, rfl, hL, hS, hB⟩ := hrel
    by_cases hkn : k < n
    · have hcl := hL.cell k (by rw [upI_length n k (by omega)]; exact hkn)
      have hfz := hL.frozen k
      have hgr := hL.lt
      have hwk : IntKind.u64.wrap (k : Int) = (k : Int) := (by rw [IntKind.wrap_u64]; omega)
      have HL := hid hL
      have HS := hid hS
      have HB := hid hB
      clear hL hS hB
      go_wp2
      go_roundw
      case rel =>
        have O := Only.setCell wr g k (.int .u64 (k : Nat))
        exact ⟨k + 1, by omega, by go_num, by rw [← upI_set n k hkn]; exact HL.out.set k k, HS.out.only O (by omega), below_only HB.out O (by omega)⟩
      case measure => simp [intOf]; omega
    · have hke : n = k := by omega
      subst hke
      have hL0 : Has wr g 22 .u64 (ordK s n 0) := by rw [ordK_zero, ← upI_all]; exact hL
      have HL := hid hL0
      have HS := hid hS
      have HB := hid hB
      clear hL0 hL hS hB
      go_wp2
      go_loopw [8, 24] (fun _ c wr => ∃ k : Nat, k ≤ 5 ∧ c = .int .u8 (k : Nat) ∧ Has wr g 22 .u64 (ordK s n k) ∧ Has wr w.heap.size 24 .u8 s ∧ Below w.heap.size w wr) (fun _ c _ => 5 - (intOf c).toNat)
      case atStart => exact ⟨0, by omega, rfl, HL.out, HS.out, HB.out⟩
      case round =>
        clear HL HS HB
        obtain ⟨k, hk, rfl, hL, hS, hB⟩ := hrel
        by_cases hk5 : k < 5
        · have HM := hid (moveAll_any g g n k (ordK s n k) s hs (by omega) (ordK_length s n k) hn (fun j hj => by rw [ordK_get s n k j hj]; exact ix_lt s k hj) wr (hTT.out.keep hB) hL (Nat.le_refl _))
          rw [ordK_succ] at HM
          have hsl := hS.lt
          have HS := hid hS
          have HB := hid hB
          clear hL hB
          go_wp2_with (first
            | (refine wpList_load_has rfl 24 (.tmp 3) rfl w.heap.size .u8 s rfl 24 HS.out _ _ Tryd.und24 (hs.size _ Tryd.size24) ?_)
            | (go_at_call 19; refine HM.out.mono ?_; rintro e w5 ⟨rfl, h5, b5⟩; have HL5 := hid h5; have HB5 := hid b5; clear h5 b5))
          go_roundw
          case rel => exact ⟨k + 1, by omega, by go_num, HL5.out, (HB5.out.block _ hgl).trans HS.out, ((HB.out.trans (HB5.out.mono (by omega)))  : Below w.heap.size w w5)⟩
          case measure => simp [intOf]; omega
        · have hke : k = 5 := by omega
          rw [hke, hZ.out] at hL
          subst hke
          have HL := hid hL
          have HB := hid hB
          clear hL hB hS
          go_wp2
          refine bodyPost_ret (results_tmp_tmp rfl _ _) rfl ?_
          exact ⟨g, by omega, rfl, HL.out, HB.out⟩
end Go.Proofs.YtibblghdemmkjaaDoor
