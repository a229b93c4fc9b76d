/- Numbers as bytes; digests of a slice of bytes. -/
import Derived.Test.YtibblghdemmkjaaDoorCat8
namespace Go.Proofs.YtibblghdemmkjaaDoor
open Go.RowKit
set_option linter.unusedVariables false
set_option maxRecDepth 100000
/-- The k lowest bytes of n, the lowest first. -/
def le (n k : Nat) : List Nat := (List.range k).map fun i => n / 256 ^ i % 256
theorem le_length (n k : Nat) : (le n k).length = k := by simp [le]
theorem le_byte (n k : Nat) : ∀ z ∈ le n k, z < 256 := fun z hz => by
  obtain ⟨i, _, rfl⟩ := List.mem_map.1 hz
  exact Nat.mod_lt _ (by decide)
theorem putL_le (n k : Nat) : (putL n k).map (Value.int .u8) = cellsB (le n k) := by
  simp [putL, cellsB, le, byteAt]
theorem put8_isB (n size : Nat) (hn : n < 18446744073709551616) (h0 : 0 < size) (hs : size ≤ 2147483647) (w : World) :
    Calls Tryd.prog 25 #[.int .u64 n, .int .i64 size] w fun e w' => ∃ cap, e = .returned (.slice (some ⟨w.heap.size, 0, none⟩) size cap) ∧ Row w' w.heap.size (.slice (some ⟨w.heap.size, 0, none⟩) size cap) (le n size) ∧ Below w.heap.size w w' := by
  refine (put_any n size hn h0 hs w).mono ?_
  rintro e w' ⟨cap, rfl, h1, h2⟩
  refine ⟨cap, rfl, ?_, h2⟩
  rw [putL_le] at h1
  unfold Row
  rw [le_length]
  exact h1
theorem refput_le (i : Int) (n : Nat) (size : Nat) (h : i = (n : Int)) (hn : n < 18446744073709551616) (hs : size ≤ 2147483647) (w : World) :
    Calls Tryd.prog 18 #[.int .u64 i, .int .i64 (size : Nat)] w fun e w' => ∃ v, e = .returned v ∧ Row w' w.heap.size v (le n size) ∧ Below w.heap.size w w' := by
  subst h
  refine (refPut_any n (size : Int) hn (by omega) w).mono ?_
  rintro e w' ⟨v, rfl, h1, h2⟩
  refine ⟨v, rfl, ?_, h2⟩
  rw [Int.toNat_natCast, putL_le] at h1
  unfold Row
  rw [le_length]
  exact h1

set_option maxHeartbeats 1000000 in
theorem refTake_any (ao : Option Addr) (len cap : Nat) (zs : List Int) (w : World) (hl : len ≤ maxLen) (hz : ReadsBytes w ao len zs) :
    Calls Tryd.prog 16 #[.slice ao len cap] w fun e w' => e = .returned (.int .u64 (takeV zs : Nat)) ∧ w' = w := by
  obtain ⟨hlen, hby, hcs⟩ := hz
  unfold maxLen at hl
  rcases hcs with h0 | ⟨b, off, rfl, hc⟩
  · subst h0
    have hnil : zs = [] := List.length_eq_zero_iff.1 hlen
    subst hnil
    clear hlen hby
    go_enter Tryd.func16, Tryd.ntmps16
    go_wp2
    refine wp_loop_rounds 1 ?_
    rw [rounds_succ]
    go_wp2
    go_ret
    exact ⟨rfl, rfl⟩
  · go_enter Tryd.func16, Tryd.ntmps16
    go_wp2
    go_loop [3, 4] (fun n i => ∃ k : Nat, k ≤ len ∧ i = .int .i64 ((k : Int) - 1) ∧ n = .int .u64 (takeL ((zs.take 8).drop k) : Nat)) (fun _ i => (intOf i + 1).toNat)
    case atStart => exact ⟨len, Nat.le_refl _, rfl, by rw [List.drop_of_length_le (by simp; omega)]; rfl⟩
    case round =>
      obtain ⟨k, hk, rfl, rfl⟩ := hrel
      cases k with
      | zero =>
        clear hc hby hlen
        go_wp2
        go_ret
        exact ⟨by simp [takeV], rfl⟩
      | succ k =>
        by_cases h8 : k < 8
        · have hst := drop_step (zs.take 8) k (by simp; omega)
          have hcl := hc k (by omega)
          rw [getD_get zs k (by omega)] at hcl
          have hx := hby (zs[k]'(by omega)) (List.getElem_mem (by omega))
          have htl := takeL_lt ((zs.take 8).drop k) (fun x hx => hby x (List.mem_of_mem_take (List.mem_of_mem_drop hx)))
          have hle : 256 ^ ((zs.take 8).drop k).length ≤ 256 ^ 8 := Nat.pow_le_pow_right (by omega) (by simp; omega)
          rw [List.getElem_take] at hst
          generalize zs[k]'(by omega) = x at *
          generalize takeL ((zs.take 8).drop (k + 1)) = t at *
          generalize ht' : takeL ((zs.take 8).drop k) = t' at *
          have hb : t' < 18446744073709551616 := by omega
          have HT : Hid _ := ht'
          have HS : Hid _ := hst
          have hb1 : (t : Int) * 256 + x < 18446744073709551616 := by omega
          clear ht' hst htl hle hc hby hlen
          go_wp2
          go_round
          case rel => exact ⟨k, by omega, rfl, by rw [HT.out, HS.out]; go_num⟩
          case measure => simp [intOf]
        · have hst : takeL ((zs.take 8).drop (k + 1)) = takeL ((zs.take 8).drop k) := by
            rw [List.drop_of_length_le (by simp; omega), List.drop_of_length_le (by simp; omega)]
          rw [hst]
          clear hst hc hby
          go_wp2
          go_round
          case rel => exact ⟨k, by omega, rfl, rfl⟩
          case measure => simp [intOf]
/-- The number that bytes make, the lowest first. -/
def tk (bs : List Nat) : Nat := takeV (bs.map fun n : Nat => (n : Int))
theorem tk_lt (bs : List Nat) (h : ∀ z ∈ bs, z < 256) : tk bs < 18446744073709551616 :=
  takeV_lt _ fun x hx => by obtain ⟨n, hn, rfl⟩ := List.mem_map.1 hx; have := h n hn; omega
theorem take_isB (v : Value) (bs : List Nat) (w : World) (h : IsB w v bs) :
    Calls Tryd.prog 23 #[v] w fun e w' => e = .returned (.int .u64 (tk bs : Nat)) ∧ w' = w := by
  obtain ⟨⟨ao, cap, rfl, h1, h2, h3, hR⟩, h8⟩ := h
  refine take_any ao bs.length cap (bs.map fun n : Nat => (n : Int)) w (by omega) ⟨by simp, fun z hz => ?_, ?_⟩
  · obtain ⟨n, hn, rfl⟩ := List.mem_map.1 hz; have := h8 n hn; omega
  · rcases hR with h | ⟨b, off, rfl, hc⟩
    · exact .inl h
    · refine .inr ⟨b, off, rfl, fun i hi => ?_⟩
      rw [hc i hi]
      simp [hi]
theorem rtake_isB (v : Value) (bs : List Nat) (w : World) (h : IsB w v bs) :
    Calls Tryd.prog 16 #[v] w fun e w' => e = .returned (.int .u64 (tk bs : Nat)) ∧ w' = w := by
  obtain ⟨⟨ao, cap, rfl, h1, h2, h3, hR⟩, h8⟩ := h
  refine refTake_any ao bs.length cap (bs.map fun n : Nat => (n : Int)) w (by omega) ⟨by simp, fun z hz => ?_, ?_⟩
  · obtain ⟨n, hn, rfl⟩ := List.mem_map.1 hz; have := h8 n hn; omega
  · rcases hR with h | ⟨b, off, rfl, hc⟩
    · exact .inl h
    · refine .inr ⟨b, off, rfl, fun i hi => ?_⟩
      rw [hc i hi]
      simp [hi]
theorem tk_take8 (bs : List Nat) : tk (bs.take 8) = tk bs := by
  unfold tk takeV
  rw [← List.map_take, ← List.map_take, List.take_take]
  simp
theorem of_isB (v : Value) (bs : List Nat) (w : World) (hT : Tabs w) (h : IsB w v bs) (hL : bs.length ≤ 140737488355328) :
    Calls Tryd.prog 22 #[v] w fun e w' => e = .returned (.agg (nums .u8 (sha bs))) ∧ Below w.heap.size w w' := by
  obtain ⟨⟨ao, cap, rfl, h1, h2, _, h⟩, h8⟩ := h
  exact of_any ao cap bs w hT h1 h2 (by omega) h8 h
theorem rof_isB (v : Value) (bs : List Nat) (w : World) (h : IsB w v bs) (hL : bs.length ≤ 140737488355328) :
    Calls Tryd.prog 26 #[v] w fun e w' => e = .returned (.agg (nums .u8 (sha bs))) ∧ Below w.heap.size w w' := by
  obtain ⟨⟨ao, cap, rfl, h1, h2, _, h⟩, h8⟩ := h
  exact rof_any ao cap bs w h1 h2 hL h8 h
end Go.Proofs.YtibblghdemmkjaaDoor
