/- Contracts of Put of package num, and of the document's: bytes of a number, the lowest first. -/
import Derived.Test.YtpkelkipmldfeaaDoorPureB
namespace Go.Proofs.YtpkelkipmldfeaaDoor
set_option maxRecDepth 100000
open Go.RowKit
set_option linter.unusedVariables false

theorem Tryd.info5 : (Tryd.prog.info? 5).map (fun i => (i.zero, i.size, i.bytes)) = some (some (.int .u8 0), 1, 1) := by kernel_rfl

theorem made_zero (size : Nat) (n : Nat) : (madeCells (Value.int .u8 0).cells (size * 1)).toList = (putUp n size 0).map (Value.int .u8) := by
  rw [putUp_zero, Nat.mul_one]
  exact (toList_madeCells_one (.int .u8 0) size).trans (by simp)

/-- What one round of num.Put does to the row. -/
theorem put_step {w wr : World} {size cap n k B : Nat} (hB : B = w.heap.size)
    (hown : wr.ownsRow B 5 1 (.slice (some ⟨B, 0, none⟩) size cap) size ((putUp n size k).map (Value.int .u8))) (hbel : Below B w wr) :
    (wr.setCell ⟨B, k, none⟩ (.int .u8 (byteAt n k))).ownsRow B 5 1 (.slice (some ⟨B, 0, none⟩) size cap) size ((putUp n size (k + 1)).map (Value.int .u8)) ∧
      Below B w (wr.setCell ⟨B, k, none⟩ (.int .u8 (byteAt n k))) := by
  have h := (hown.stored k (.int .u8 (byteAt n k))).1
  rw [← List.map_set, putUp_set] at h
  exact ⟨h, hbel.setCell (Nat.le_refl _) _⟩

set_option maxHeartbeats 1000000 in
theorem put_any (n : Nat) (size : Nat) (hn : n < 18446744073709551616) (h0 : 0 < size) (hs : size ≤ 2147483647) (w : World) :
    Calls Tryd.prog 30 #[.int .u64 n, .int .i64 size] w fun e w' => ∃ cap, e = .returned (.slice (some ⟨w.heap.size, 0, none⟩) size cap) ∧
      w'.ownsRow w.heap.size 5 1 (.slice (some ⟨w.heap.size, 0, none⟩) size cap) size ((putL n size).map (Value.int .u8)) ∧ Below w.heap.size w w' := by
  obtain ⟨i0, hi, hz0, hz1, hz2⟩ := info_parts Tryd.info5
  have hb2 : i0.bytes * size ≤ 281474976710656 := by rw [hz2]; omega
  have hml : size ≤ maxLen := by unfold maxLen; omega
  by_cases h8 : 8 < size
  · go_enter Tryd.func30, Tryd.ntmps30
    go_wp2_with (at_make; refine wpList_make_full _ rfl (.tmp 13) (.tmp 13) 91 rfl w.heap.size 5 i0 (.int .u8 0) 1 Tryd.underlying91 hi hz0 hz1 .i64 .i64 (size : Int) (size : Int) size rfl rfl rfl rfl hb2 hml (Nat.le_refl _) ?_; intro w1 hown hgrow)
    rw [made_zero size n] at hown
    have hbel : Below w.heap.size w w1 := (Below.refl _ _).grown hgrow (Nat.le_refl _) (by simp)
    clear hgrow
    go_loopw [6, 17] (fun _ i wr => ∃ k : Nat, k ≤ 8 ∧ i = .int .i64 k ∧ wr.ownsRow w.heap.size 5 1 (.slice (some ⟨w.heap.size, 0, none⟩) size size) size ((putUp n size k).map (Value.int .u8)) ∧ Below w.heap.size w wr) (fun _ i _ => 8 - (intOf i).toNat)
    case atStart => exact ⟨0, Nat.zero_le _, rfl, hown, hbel⟩
    case round =>
      clear hown hbel
      obtain ⟨k, hk, rfl, hown, hbel⟩ := hrel
      by_cases hlt : k < 8
      · have hfr := hown.frozenAt k
        have hcl := hown.cellAt k (by omega)
        have hget : ((putUp n size k).map (Value.int .u8))[k]? = some (.int .u8 ((putUp n size k).getD k 0)) := by
          rw [List.getElem?_map, List.getD_eq_getElem?_getD, List.getElem?_eq_getElem (by rw [putUp_length]; omega)]; rfl
        rw [hget] at hcl
        have R := put_step rfl hown hbel
        have hsh := byte_shift n k
        have HR : Hid _ := R
        clear hget hown hbel R
        go_wp2
        go_roundw
        case rel => exact ⟨k + 1, by omega, by go_num, HR.out.1, HR.out.2⟩
        case measure => simp [intOf]; omega
      · have hke : k = 8 := by omega
        have HE : Hid _ := putUp_all n size k hn (by omega)
        have HO : Hid _ := hown
        have HB : Hid _ := hbel
        clear hown hbel hke
        go_wp2
        go_ret
        exact ⟨size, rfl, by rw [← HE.out]; exact HO.out, HB.out⟩
  · go_enter Tryd.func30, Tryd.ntmps30
    go_wp2_with (at_make; refine wpList_make_full _ rfl (.tmp 13) (.tmp 13) 91 rfl w.heap.size 5 i0 (.int .u8 0) 1 Tryd.underlying91 hi hz0 hz1 .i64 .i64 (size : Int) (size : Int) size rfl rfl rfl rfl hb2 hml (Nat.le_refl _) ?_; intro w1 hown hgrow)
    rw [made_zero size n] at hown
    have hbel : Below w.heap.size w w1 := (Below.refl _ _).grown hgrow (Nat.le_refl _) (by simp)
    clear hgrow
    go_loopw [6, 17] (fun _ i wr => ∃ k : Nat, k ≤ size ∧ i = .int .i64 k ∧ wr.ownsRow w.heap.size 5 1 (.slice (some ⟨w.heap.size, 0, none⟩) size size) size ((putUp n size k).map (Value.int .u8)) ∧ Below w.heap.size w wr) (fun _ i _ => size - (intOf i).toNat)
    case atStart => exact ⟨0, Nat.zero_le _, rfl, hown, hbel⟩
    case round =>
      clear hown hbel
      obtain ⟨k, hk, rfl, hown, hbel⟩ := hrel
      by_cases hlt : k < size
      · have hfr := hown.frozenAt k
        have hcl := hown.cellAt k (by omega)
        have hget : ((putUp n size k).map (Value.int .u8))[k]? = some (.int .u8 ((putUp n size k).getD k 0)) := by
          rw [List.getElem?_map, List.getD_eq_getElem?_getD, List.getElem?_eq_getElem (by rw [putUp_length]; omega)]; rfl
        rw [hget] at hcl
        have R := put_step rfl hown hbel
        have hsh := byte_shift n k
        have HR : Hid _ := R
        clear hget hown hbel R
        go_wp2
        go_roundw
        case rel => exact ⟨k + 1, by omega, by go_num, HR.out.1, HR.out.2⟩
        case measure => simp [intOf]; omega
      · have hke : k = size := by omega
        have HE : Hid _ := putUp_all n size k hn (by omega)
        have HO : Hid _ := hown
        have HB : Hid _ := hbel
        clear hown hbel hke
        go_wp2
        go_ret
        exact ⟨size, rfl, by rw [← HE.out]; exact HO.out, HB.out⟩

/-- What one append of the document's Put does. -/
theorem putL_map_succ (n k : Nat) : (putL n k).map (Value.int .u8) ++ [.int .u8 (byteAt n k)] = (putL n (k + 1)).map (Value.int .u8) := by rw [putL_succ]; simp

end Go.Proofs.YtpkelkipmldfeaaDoor
