/- Contracts of Put and Take of package num, and of the document's answers: bytes of a number, the lowest first. -/
import Derived.Test.YtckmdofmplkdfaaMem
import Derived.Test.YtckmdofmplkdfaaPureB
namespace Go.Proofs.Ytckmdofmplkdfaa
open Go.RowKit
set_option linter.unusedVariables false
set_option maxRecDepth 100000

theorem Try.info5 : (Try.prog.info? 5).map (fun i => (i.zero, i.size, i.bytes)) = some (some (.int .u8 0), 1, 1) := by kernel_rfl

theorem made_zero (size : Nat) (n : Nat) : (madeCells (Value.int .u8 0).cells (size * 1)).toList = (putUp n size 0).map (Value.int .u8) := by
  rw [putUp_zero, Nat.mul_one]
  exact (toList_madeCells_one (.int .u8 0) size).trans (by simp)

/-- What one round of num.Put does to the row. -/
theorem put_step {w wr : World} {size cap n k B : Nat} (hB : B = w.heap.size)
    (hown : wr.ownsRow B 5 1 (.slice (some ⟨B, 0, none⟩) size cap) size ((putUp n size k).map (Value.int .u8))) (hbel : Below B w wr) :
    (wr.setCell ⟨B, k, none⟩ (.int .u8 (byteAt n k))).ownsRow B 5 1 (.slice (some ⟨B, 0, none⟩) size cap) size ((putUp n size (k + 1)).map (Value.int .u8)) ∧
      Below B w (wr.setCell ⟨B, k, none⟩ (.int .u8 (byteAt n k))) := by
  have h := (hown.stored k (.int .u8 (byteAt n k))).1
  rw [← List.map_set, putUp_set] at h
  exact ⟨h, hbel.setCell (Nat.le_refl _) _⟩

set_option maxHeartbeats 1000000 in
theorem put_any (n : Nat) (size : Nat) (hn : n < 18446744073709551616) (h0 : 0 < size) (hs : size ≤ 2147483647) (w : World) :
    Calls Try.prog 25 #[.int .u64 n, .int .i64 size] w fun e w' => ∃ cap, e = .returned (.slice (some ⟨w.heap.size, 0, none⟩) size cap) ∧
      w'.ownsRow w.heap.size 5 1 (.slice (some ⟨w.heap.size, 0, none⟩) size cap) size ((putL n size).map (Value.int .u8)) ∧ Below w.heap.size w w' := by
  obtain ⟨i0, hi, hz0, hz1, hz2⟩ := info_parts Try.info5
  have hb2 : i0.bytes * size ≤ 281474976710656 := by rw [hz2]; omega
  have hml : size ≤ maxLen := by unfold maxLen; omega
  by_cases h8 : 8 < size
  · go_enter Try.func25, Try.ntmps25
    go_wp2_with (at_make; refine wpList_make_full _ rfl (.tmp 13) (.tmp 13) 24 rfl w.heap.size 5 i0 (.int .u8 0) 1 Try.underlying24 hi hz0 hz1 .i64 .i64 (size : Int) (size : Int) size rfl rfl rfl rfl hb2 hml (Nat.le_refl _) ?_; intro w1 hown hgrow)
    rw [made_zero size n] at hown
    have hbel : Below w.heap.size w w1 := (Below.refl _ _).grown hgrow (Nat.le_refl _) (by simp)
    clear hgrow
    go_loopw [6, 17] (fun _ i wr => ∃ k : Nat, k ≤ 8 ∧ i = .int .i64 k ∧ wr.ownsRow w.heap.size 5 1 (.slice (some ⟨w.heap.size, 0, none⟩) size size) size ((putUp n size k).map (Value.int .u8)) ∧ Below w.heap.size w wr) (fun _ i _ => 8 - (intOf i).toNat)
    case atStart => exact ⟨0, Nat.zero_le _, rfl, hown, hbel⟩
    case round =>
      clear hown hbel
      obtain ⟨k, hk, rfl, hown, hbel⟩ := hrel
      by_cases hlt : k < 8
      · have hfr := hown.frozenAt k
        have hcl := hown.cellAt k (by omega)
        have hget : ((putUp n size k).map (Value.int .u8))[k]? = some (.int .u8 ((putUp n size k).getD k 0)) := by
          rw [List.getElem?_map, List.getD_eq_getElem?_getD, List.getElem?_eq_getElem (by rw [putUp_length]; omega)]; rfl
        rw [hget] at hcl
        have R := put_step rfl hown hbel
        have hsh := byte_shift n k
        have HR : Hid _ := R
        clear hget hown hbel R
        go_wp2
        go_roundw
        case rel => exact ⟨k + 1, by omega, by go_num, HR.out.1, HR.out.2⟩
        case measure => simp [intOf]; omega
      · have hke : k = 8 := by omega
        have HE : Hid _ := putUp_all n size k hn (by omega)
        have HO : Hid _ := hown
        have HB : Hid _ := hbel
        clear hown hbel hke
        go_wp2
        go_ret
        exact ⟨size, rfl, by rw [← HE.out]; exact HO.out, HB.out⟩
  · go_enter Try.func25, Try.ntmps25
    go_wp2_with (at_make; refine wpList_make_full _ rfl (.tmp 13) (.tmp 13) 24 rfl w.heap.size 5 i0 (.int .u8 0) 1 Try.underlying24 hi hz0 hz1 .i64 .i64 (size : Int) (size : Int) size rfl rfl rfl rfl hb2 hml (Nat.le_refl _) ?_; intro w1 hown hgrow)
    rw [made_zero size n] at hown
    have hbel : Below w.heap.size w w1 := (Below.refl _ _).grown hgrow (Nat.le_refl _) (by simp)
    clear hgrow
    go_loopw [6, 17] (fun _ i wr => ∃ k : Nat, k ≤ size ∧ i = .int .i64 k ∧ wr.ownsRow w.heap.size 5 1 (.slice (some ⟨w.heap.size, 0, none⟩) size size) size ((putUp n size k).map (Value.int .u8)) ∧ Below w.heap.size w wr) (fun _ i _ => size - (intOf i).toNat)
    case atStart => exact ⟨0, Nat.zero_le _, rfl, hown, hbel⟩
    case round =>
      clear hown hbel
      obtain ⟨k, hk, rfl, hown, hbel⟩ := hrel
      by_cases hlt : k < size
      · have hfr := hown.frozenAt k
        have hcl := hown.cellAt k (by omega)
        have hget : ((putUp n size k).map (Value.int .u8))[k]? = some (.int .u8 ((putUp n size k).getD k 0)) := by
          rw [List.getElem?_map, List.getD_eq_getElem?_getD, List.getElem?_eq_getElem (by rw [putUp_length]; omega)]; rfl
        rw [hget] at hcl
        have R := put_step rfl hown hbel
        have hsh := byte_shift n k
        have HR : Hid _ := R
        clear hget hown hbel R
        go_wp2
        go_roundw
        case rel => exact ⟨k + 1, by omega, by go_num, HR.out.1, HR.out.2⟩
        case measure => simp [intOf]; omega
      · have hke : k = size := by omega
        have HE : Hid _ := putUp_all n size k hn (by omega)
        have HO : Hid _ := hown
        have HB : Hid _ := hbel
        clear hown hbel hke
        go_wp2
        go_ret
        exact ⟨size, rfl, by rw [← HE.out]; exact HO.out, HB.out⟩

set_option maxHeartbeats 400000 in
theorem put_none (n : Nat) (size : Int) (hs : size < 1) (w : World) :
    Calls Try.prog 25 #[.int .u64 n, .int .i64 size] w fun e w' => e = .returned (.slice none 0 0) ∧ w' = w := by
  go_enter Try.func25, Try.ntmps25
  go_wp2
  go_ret
  exact ⟨rfl, rfl⟩

/-- What one append of the document's Put does. -/
theorem putL_map_succ (n k : Nat) : (putL n k).map (Value.int .u8) ++ [.int .u8 (byteAt n k)] = (putL n (k + 1)).map (Value.int .u8) := by rw [putL_succ]; simp

/-- The slice value's first len bytes, read in the world w, are zs. -/
def ReadsBytes (w : World) (ao : Option Addr) (len : Nat) (zs : List Int) : Prop :=
  zs.length = len ∧ (∀ z ∈ zs, 0 ≤ z ∧ z < 256) ∧ (len = 0 ∨ ∃ b off, ao = some ⟨b, off, none⟩ ∧ ∀ i, i < len → w.cell? ⟨b, off + i, none⟩ = some (.int .u8 (zs.getD i 0)))

theorem getD_get (zs : List Int) (k : Nat) (h : k < zs.length) : zs.getD k 0 = zs[k] := by simp [List.getD_eq_getElem?_getD, h]

set_option maxHeartbeats 1000000 in
theorem take_any (ao : Option Addr) (len cap : Nat) (zs : List Int) (w : World) (hl : len ≤ maxLen) (hz : ReadsBytes w ao len zs) :
    Calls Try.prog 14 #[.slice ao len cap] w fun e w' => e = .returned (.int .u64 (takeV zs : Nat)) ∧ w' = w := by
  obtain ⟨hlen, hby, hcs⟩ := hz
  unfold maxLen at hl
  rcases hcs with h0 | ⟨b, off, rfl, hc⟩
  · subst h0
    have hnil : zs = [] := List.length_eq_zero_iff.1 hlen
    subst hnil
    clear hlen hby
    go_enter Try.func14, Try.ntmps14
    go_wp2
    refine wp_loop_rounds 1 ?_
    rw [rounds_succ]
    go_wp2
    go_ret
    exact ⟨rfl, rfl⟩
  · by_cases h8 : 8 < len
    · go_enter Try.func14, Try.ntmps14
      go_wp2
      go_loop [3, 4, 8] (fun n _ i => ∃ k : Nat, k ≤ 8 ∧ i = .int .i64 k ∧ n = .int .u64 (takeL (zs.take k) : Nat)) (fun _ _ i => 8 - (intOf i).toNat)
      case atStart => exact ⟨0, Nat.zero_le _, rfl, by simp [takeL]⟩
      case round =>
        obtain ⟨k, hk, rfl, rfl⟩ := hrel
        by_cases hlt : k < 8
        · have hor := take_or zs k (by omega) (by omega) hby
          have hcl := hc k (by omega)
          rw [getD_get zs k (by omega)] at hcl
          have hx := hby (zs[k]) (List.getElem_mem (by omega))
          generalize zs[k] = x at *
          generalize takeL (zs.take k) = t at *
          generalize ht' : takeL (zs.take (k + 1)) = t' at *
          have HT : Hid _ := ht'
          clear ht' hc hby hlen
          go_wp2
          go_round
          case rel => exact ⟨k + 1, by omega, by go_num, by rw [HT.out]⟩
          case measure => simp [intOf]; omega
        · have hke : takeL (zs.take k) = takeV zs := by
            unfold takeV
            first
              | rw [show k = 8 by omega]
              | rw [List.take_of_length_le (by omega), List.take_of_length_le (by omega)]
          rw [hke]
          clear hke hc hby
          go_wp2
          go_ret
          exact ⟨rfl, rfl⟩
    · go_enter Try.func14, Try.ntmps14
      go_wp2
      go_loop [3, 4, 8] (fun n _ i => ∃ k : Nat, k ≤ len ∧ i = .int .i64 k ∧ n = .int .u64 (takeL (zs.take k) : Nat)) (fun _ _ i => len - (intOf i).toNat)
      case atStart => exact ⟨0, Nat.zero_le _, rfl, by simp [takeL]⟩
      case round =>
        obtain ⟨k, hk, rfl, rfl⟩ := hrel
        by_cases hlt : k < len
        · have hor := take_or zs k (by omega) (by omega) hby
          have hcl := hc k (by omega)
          rw [getD_get zs k (by omega)] at hcl
          have hx := hby (zs[k]) (List.getElem_mem (by omega))
          generalize zs[k] = x at *
          generalize takeL (zs.take k) = t at *
          generalize ht' : takeL (zs.take (k + 1)) = t' at *
          have HT : Hid _ := ht'
          clear ht' hc hby hlen
          go_wp2
          go_round
          case rel => exact ⟨k + 1, by omega, by go_num, by rw [HT.out]⟩
          case measure => simp [intOf]; omega
        · have hke : takeL (zs.take k) = takeV zs := by
            unfold takeV
            first
              | rw [show k = 8 by omega]
              | rw [List.take_of_length_le (by omega), List.take_of_length_le (by omega)]
          rw [hke]
          clear hke hc hby
          go_wp2
          go_ret
          exact ⟨rfl, rfl⟩

end Go.Proofs.Ytckmdofmplkdfaa
