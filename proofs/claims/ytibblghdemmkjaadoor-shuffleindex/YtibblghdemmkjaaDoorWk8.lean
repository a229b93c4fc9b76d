/- The walks of ShuffleIndex, ShuffleLists, ShuffleOnce. -/
import Derived.Test.YtibblghdemmkjaaDoorAw8
namespace Go.Proofs.YtibblghdemmkjaaDoor
open Go.RowKit
set_option linter.unusedVariables false
set_option maxRecDepth 100000

set_option maxHeartbeats 1000000 in
theorem shuffleIndex_walk (i n : Nat) (s : List Nat) (hs : Rt s) (hi : i < 18446744073709551616) (hn : n < 18446744073709551616) (w : World) (hT : Tabs w) :
    Calls Tryd.prog 3 #[.int .u64 i, .int .u64 n, .agg (nums .u8 s)] w fun e w' => e = .returned (.bool true) ∧ Below w.heap.size w w' := by
  have HIR : ∃ (z e : Int) (b : Bool), (∀ wq, Tabs wq → Calls Tryd.prog 7 #[.int .u64 i, .int .u64 n, .agg (nums .u8 s)] wq fun e' w' => e' = .returned (.tuple #[.int .u64 z, .int .i64 e]) ∧ Below wq.heap.size wq w') ∧ (∀ wq, Calls Tryd.prog 8 #[.int .u64 i, .int .u64 n, .agg (nums .u8 s)] wq fun e' w' => e' = .returned (.tuple #[.int .u64 z, .bool b]) ∧ Below wq.heap.size wq w') ∧ (e = 0 ∧ b = true ∨ e = 2 ∧ b = false) := by
    by_cases hok : i < n ∧ n ≤ 1099511627776
    · exact ⟨_, 0, true, fun wq hq => index_ok i n s hs hok.1 hok.2 wq hq, fun wq => rindex_ok i n s hs hok.1 hok.2 wq, .inl ⟨rfl, rfl⟩⟩
    · exact ⟨0, 2, false, fun wq _ => index_bad i n s hi hn (by omega) wq, fun wq => rindex_bad i n s hi hn (by omega) wq, .inr ⟨rfl, rfl⟩⟩
  obtain ⟨z, e, b, HI0, HR0, heb⟩ := HIR
  have HI := hid HI0
  have HR := hid HR0
  have HT := hid hT
  clear HI0 HR0 hT
  rcases heb with ⟨rfl, rfl⟩ | ⟨rfl, rfl⟩
  all_goals
    go_enter Tryd.func3, Tryd.ntmps3
    go_wp2_with (refine wpList_box_has rfl 5 rfl 24 (.tmp 2) rfl .u8 s rfl ?_; intro w1 H1 B1 S1)
    refine (awake_any w1 (HT.out.keep B1)).mono ?_
    rintro e w2 ⟨rfl, B2⟩
    have H2 := H1.keep B2
    have HB2 := below_more B1 B2 (Nat.le_refl _)
    clear H1 B1 B2
    go_wp2_with (refine wpList_load_has rfl 24 (.tmp 5) rfl w.heap.size .u8 s rfl 24 H2 _ _ Tryd.und24 (hs.size _ Tryd.size24) ?_)
    refine (HI.out w2 (HT.out.keep HB2)).mono ?_
    rintro e w3 ⟨rfl, B3⟩
    have H3 := H2.keep B3
    have HB3 := below_more HB2 B3 (Nat.le_refl _)
    clear H2 HB2 B3
    go_wp2_with (refine wpList_load_has rfl 24 (.tmp 5) rfl w.heap.size .u8 s rfl 24 H3 _ _ Tryd.und24 (hs.size _ Tryd.size24) ?_)
    refine (HR.out w3).mono ?_
    rintro e w4 ⟨rfl, B4⟩
    have HB4 := below_more HB3 B4 (Nat.le_refl _)
    clear H3 HB3 B4
    go_wp2
    go_ret
    exact ⟨rfl, HB4⟩

set_option maxHeartbeats 1000000 in
theorem shuffleLists_walk (n : Nat) (s : List Nat) (hs : Rt s) (hn : n < 18446744073709551616) (w : World) (hT : Tabs w) :
    Calls Tryd.prog 4 #[.int .u64 n, .agg (nums .u8 s)] w fun e w' => e = .returned (.bool true) ∧ Below w.heap.size w w' := by
  obtain ⟨m, hm⟩ : ∃ m, n % 700 = m := ⟨_, rfl⟩
  have hmI : (n : Int) % 700 = (m : Int) := by omega
  have hm7 : m < 700 := by omega
  clear hm
  have HT := hid hT
  have HLO := hid (fun wq hq => list_ok m s hs (by omega) wq hq)
  have hln := ordK_length s m 5
  have hlg := ordK_get s m 5
  have HRX := hid (fun (k : Nat) (hk : k < m) (wq : World) => rindex_ok k m s hs hk (by omega) wq)
  obtain ⟨l, hl⟩ : ∃ l, Same (ordK s m 5) l := ⟨_, ⟨rfl⟩⟩
  rw [hl.out] at HLO hln
  have HRL := hid (fun (k : Nat) (hk : k < m) (wq : World) => by
    have h := HRX.out k hk wq
    rw [← hlg k hk, hl.out] at h
    exact h)
  clear hT HRX hlg hl
  have HLN := hid hln
  clear hln
  go_enter Tryd.func4, Tryd.ntmps4
  go_wp2_with (refine wpList_box_has rfl 3 rfl 24 (.tmp 1) rfl .u8 s rfl ?_; intro w1 H1 B1 S1)
  refine (awake_any w1 (HT.out.keep B1)).mono ?_
  rintro e w2 ⟨rfl, B2⟩
  have H2 := H1.keep B2
  have HB2 := below_more B1 B2 (Nat.le_refl _)
  clear H1 B1 B2
  go_wp2_with (refine wpList_load_has rfl 24 (.tmp 3) rfl w.heap.size .u8 s rfl 24 H2 _ _ Tryd.und24 (hs.size _ Tryd.size24) ?_)
  refine (HLO.out w2 (HT.out.keep HB2)).mono ?_
  rintro e w3 ⟨g, hg, rfl, hL3, B3⟩
  have hS3 := hid (H2.keep B3)
  have hB3 := hid (below_more HB2 B3 (Nat.le_refl _))
  have HL3 := hid hL3
  clear H2 HB2 B3 hL3
  go_wp2
  go_loopw [7, 8, 9, 31] (fun _ _ _ c wr => ∃ k : Nat, k ≤ m ∧ c = .int .i64 (k : Nat) ∧ Has wr g 22 .u64 l ∧ Has wr w.heap.size 24 .u8 s ∧ Below w.heap.size w wr) (fun _ _ _ c _ => m - (intOf c).toNat)
  case atStart => exact ⟨0, by omega, rfl, HL3.out, hS3.out, hB3.out⟩
  case round =>
    clear HL3 hS3 hB3
    obtain ⟨k, hk, rfl, hL, hS, hB⟩ := hrel
    by_cases hkm : k < m
    · have hwk : IntKind.u64.wrap (k : Int) = (k : Int) := (by rw [IntKind.wrap_u64]; omega)
      have HR := hid (fun wq => HRL.out k hkm wq)
      obtain ⟨x, hx⟩ : ∃ x, l.getD k 0 = x := ⟨_, rfl⟩
      rw [hx] at HR
      have HX := hid hx
      have HL := hid hL
      have HS := hid hS
      have HB := hid hB
      clear hx hL hS hB
      go_wp2_with (first
        | (refine wpList_load_has rfl 24 (.tmp 3) rfl w.heap.size .u8 s rfl 24 HS.out _ _ Tryd.und24 (hs.size _ Tryd.size24) ?_)
        | (go_at_call 8; refine (HR.out _).mono ?_; rintro e w5 ⟨rfl, B5⟩; have HL5 := hid (HL.out.keep B5); have HS5 := hid (HS.out.keep B5); have HB5 := hid (below_more HB.out B5 (Nat.le_refl _)); have hc5 := HL5.out.cell k (by rw [HLN.out]; exact hkm); rw [HX.out] at hc5; clear B5))
      go_roundw
      case rel => exact ⟨k + 1, by omega, by go_num, HL5.out, HS5.out, HB5.out⟩
      case measure => simp [intOf]; omega
    · have hke : m = k := by omega
      subst hke
      have HB := hid hB
      clear hL hS hB
      go_wp2
      go_ret
      exact ⟨rfl, HB.out⟩
end Go.Proofs.YtibblghdemmkjaaDoor
