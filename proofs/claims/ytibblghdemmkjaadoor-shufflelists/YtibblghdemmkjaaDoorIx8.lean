/- The program’s Index and the document’s. -/
import Derived.Test.YtibblghdemmkjaaDoorMv8
namespace Go.Proofs.YtibblghdemmkjaaDoor
open Go.RowKit
set_option linter.unusedVariables false
set_option maxRecDepth 100000

set_option maxHeartbeats 1000000 in
theorem index_bad (i n : Nat) (s : List Nat) (hi : i < 18446744073709551616) (hn : n < 18446744073709551616) (h : n ≤ i ∨ 1099511627776 < n) (w : World) :
    Calls Tryd.prog 7 #[.int .u64 i, .int .u64 n, .agg (nums .u8 s)] w fun e w' => e = .returned (.tuple #[.int .u64 0, .int .i64 2]) ∧ Below w.heap.size w w' := by
  by_cases hin : n ≤ i
  all_goals
    have hx : i < n → 1099511627776 < n := fun q => by omega
    go_enter Tryd.func7, Tryd.ntmps7
    go_wp2_with (refine wpList_box_has rfl 5 rfl 24 (.tmp 2) rfl .u8 s rfl ?_; intro w1 H1 B1 S1)
    refine bodyPost_ret (results_tmp_tmp rfl _ _) rfl ?_
    exact ⟨rfl, B1⟩

set_option maxHeartbeats 1000000 in
theorem index_ok (i n : Nat) (s : List Nat) (hs : Rt s) (hi : i < n) (hn : n ≤ 1099511627776) (w : World) (hT : Tabs w) :
    Calls Tryd.prog 7 #[.int .u64 i, .int .u64 n, .agg (nums .u8 s)] w fun e w' => e = .returned (.tuple #[.int .u64 (ix s n 5 i : Nat), .int .i64 0]) ∧ Below w.heap.size w w' := by
  have HT := hid hT
  have hd1 : decide (n ≤ i) = false := by simpa using hi
  have hd2 : decide (1099511627776 < (n : Int)) = false := by simp; omega
  have hlx := fun k => ix_lt s k hi
  have HLX := hid hlx
  clear hT hlx
  obtain ⟨Z, hZ⟩ : ∃ Z, Same (ix s n 5 i) Z := ⟨_, ⟨rfl⟩⟩
  rw [hZ.out]
  go_enter Tryd.func7, Tryd.ntmps7
  go_wp2_with (refine wpList_box_has rfl 5 rfl 24 (.tmp 2) rfl .u8 s rfl ?_; intro w1 H1 B1 S1)
  have HG := hid H1
  have HB := hid B1
  have hlt := H1.lt
  clear H1 B1 S1
  go_loopw [0, 8, 16] (fun a _ c wr => ∃ k : Nat, k ≤ 5 ∧ a = .int .u64 (ix s n k i : Nat) ∧ c = .int .u8 (k : Nat) ∧ Below w1.heap.size w1 wr) (fun _ _ c _ => 5 - (intOf c).toNat)
  case atStart => exact ⟨0, by omega, rfl, rfl, Below.refl _ _⟩
  case round =>
    obtain ⟨k, hk, rfl, rfl, hb⟩ := hrel
    by_cases hlt5 : k < 5
    · have hx := HLX.out k
      have hix : ix s n (k + 1) i = mv s k n (ix s n k i) := rfl
      obtain ⟨x, hxe⟩ : ∃ x, Same (ix s n k i) x := ⟨_, ⟨rfl⟩⟩
      rw [hxe.out] at hx hix ⊢
      have HIX : Same _ _ := ⟨hix⟩
      clear hix
      have hGr := HG.out.keep hb
      have hTr := (HT.out.keep HB.out).keep hb
      have hb2 : Below w.heap.size w wr := below_more HB.out hb (Nat.le_refl _)
      have BW : Below wr.heap.size wr (wr.alloc (.cells #[.int .u8 (k : Nat)] 5)) := (Below.refl _ wr).alloc (Nat.le_refl _) _
      have HR : Has (wr.alloc (.cells #[.int .u8 (k : Nat)] 5)) wr.heap.size 5 .u8 [k] := heap_alloc_new wr _
      have hrc := HR.cell 0 (by simp)
      have HRW := hid HR
      have HPV := hid (pivot_any n k s hs (by omega) (by omega) (by omega) _ (hTr.keep BW))
      have HBW := hid BW
      have HGW := hid (hGr.keep BW)
      have HGr := hid hGr
      have HTr := hid hTr
      have HB2 := hid hb2
      have HB1 := hid hb
      have hgl := hGr.lt
      clear HR BW hGr hTr hb hb2
      obtain ⟨p, hp⟩ : ∃ p, Same (pv s k n) p := ⟨_, ⟨rfl⟩⟩
      rw [hp.out] at HPV
      go_wp2_with (first
        | (refine wpList_load_has rfl 24 (.tmp 5) rfl w.heap.size .u8 s rfl 24 HGW.out _ _ Tryd.und24 (hs.size _ Tryd.size24) ?_)
        | (go_at_call 12; refine HPV.out.mono ?_; rintro e w2 ⟨rfl, B2⟩; have HMV := hid (movedA_any x n k w.heap.size wr.heap.size s hs (by omega) hn hx w2 ((HTr.out.keep HBW.out).keep B2) (HGW.out.keep B2) (HRW.out.keep B2)); rw [hp.out] at HMV; have HB3 := hid (below_more HBW.out B2 (Nat.le_refl _)); clear B2)
        | (go_at_call 11; refine HMV.out.mono ?_; rintro e w3 ⟨rfl, B3⟩; have HB4 := hid (below_more HB3.out B3 (Nat.le_refl _)); clear B3))
      go_roundw
      case rel => exact ⟨k + 1, by omega, by rw [HIX.out], by go_num, below_more HB1.out HB4.out (Nat.le_refl _)⟩
      case measure => simp [intOf]; omega
    · have hke : k = 5 := by omega
      have hz : ix s n k i = Z := by rw [hke]; exact hZ.out
      rw [hz]
      have HB5 := hid (below_more HB.out hb (Nat.le_refl _))
      clear hb hz
      subst hke
      go_wp2
      refine bodyPost_ret (results_tmp_tmp rfl _ _) rfl ?_
      exact ⟨rfl, HB5.out⟩
end Go.Proofs.YtibblghdemmkjaaDoor
