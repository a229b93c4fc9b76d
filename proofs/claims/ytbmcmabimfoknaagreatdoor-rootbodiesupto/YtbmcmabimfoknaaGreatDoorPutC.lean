/- Contracts of Put of package num, and of the document's: bytes of a number, the lowest first. -/
import Derived.Test.YtbmcmabimfoknaaGreatDoorPureB
namespace Go.Proofs.YtbmcmabimfoknaaGreatDoor
set_option maxRecDepth 100000
open Go.RowKit
set_option linter.unusedVariables false

theorem Tryz.info5 : (Tryz.prog.info? 5).map (fun i => (i.zero, i.size, i.bytes)) = some (some (.int .u8 0), 1, 1) := by kernel_rfl

theorem made_zero (size : Nat) (n : Nat) : (madeCells (Value.int .u8 0).cells (size * 1)).toList = (putUp n size 0).map (Value.int .u8) := by
  rw [putUp_zero, Nat.mul_one]
  exact (toList_madeCells_one (.int .u8 0) size).trans (by simp)

/-- What one round of num.Put does to the row. -/
theorem put_step {w wr : World} {size cap n k B : Nat} (hB : B = w.heap.size)
    (hown : wr.ownsRow B 5 1 (.slice (some ⟨B, 0, none⟩) size cap) size ((putUp n size k).map (Value.int .u8))) (hbel : Below B w wr) :
    (wr.setCell ⟨B, k, none⟩ (.int .u8 (byteAt n k))).ownsRow B 5 1 (.slice (some ⟨B, 0, none⟩) size cap) size ((putUp n size (k + 1)).map (Value.int .u8)) ∧
      Below B w (wr.setCell ⟨B, k, none⟩ (.int .u8 (byteAt n k))) := by
  have h := (hown.stored k (.int .u8 (byteAt n k))).1
  rw [← List.map_set, putUp_set] at h
  exact ⟨h, hbel.setCell (Nat.le_refl _) _⟩

set_option maxHeartbeats 1000000 in
theorem put_any (n : Nat) (size : Nat) (hn : n < 18446744073709551616) (h0 : 0 < size) (hs : size ≤ 2147483647) (w : World) :
    Calls Tryz.prog 63 #[.int .u64 n, .int .i64 size] w fun e w' => ∃ cap, e = .returned (.slice (some ⟨w.heap.size, 0, none⟩) size cap) ∧
      w'.ownsRow w.heap.size 5 1 (.slice (some ⟨w.heap.size, 0, none⟩) size cap) size ((putL n size).map (Value.int .u8)) ∧ Below w.heap.size w w' := by
  obtain ⟨i0, hi, hz0, hz1, hz2⟩ := info_parts Tryz.info5
  have hb2 : i0.bytes * size ≤ 281474976710656 := by rw [hz2]; omega
  have hml : size ≤ maxLen := by unfold maxLen; omega
  by_cases h8 : 8 < size
  · go_enter Tryz.func63, Tryz.ntmps63
    go_wp2_with (at_make; refine wpList_make_full _ rfl (.tmp 13) (.tmp 13) 99 rfl w.heap.size 5 i0 (.int .u8 0) 1 Tryz.underlying99 hi hz0 hz1 .i64 .i64 (size : Int) (size : Int) size rfl rfl rfl rfl hb2 hml (Nat.le_refl _) ?_; intro w1 hown hgrow)
    rw [made_zero size n] at hown
    have hbel : Below w.heap.size w w1 := (Below.refl _ _).grown hgrow (Nat.le_refl _) (by simp)
    clear hgrow
    go_loopw [6, 17] (fun _ i wr => ∃ k : Nat, k ≤ 8 ∧ i = .int .i64 k ∧ wr.ownsRow w.heap.size 5 1 (.slice (some ⟨w.heap.size, 0, none⟩) size size) size ((putUp n size k).map (Value.int .u8)) ∧ Below w.heap.size w wr) (fun _ i _ => 8 - (intOf i).toNat)
    case atStart => exact ⟨0, Nat.zero_le _, rfl, hown, hbel⟩
    case round =>
      clear hown hbel
      obtain ⟨k, hk, rfl, hown, hbel⟩ := hrel
      by_cases hlt : k < 8
      · have hfr := hown.frozenAt k
        have hcl := hown.cellAt k (by omega)
        have hget : ((putUp n size k).map (Value.int .u8))[k]? = some (.int .u8 ((putUp n size k).getD k 0)) := by
          rw [List.getElem?_map, List.getD_eq_getElem?_getD, List.getElem?_eq_getElem (by rw [putUp_length]; omega)]; rfl
        rw [hget] at hcl
        have R := put_step rfl hown hbel
        have hsh := byte_shift n k
        have HR : Hid _ := R
        clear hget hown hbel R
        go_wp2
        go_roundw
        case rel => exact ⟨k + 1, by omega, by go_num, HR.out.1, HR.out.2⟩
        case measure => simp [intOf]; omega
      · have hke : k = 8 := by omega
        have HE : Hid _ := putUp_all n size k hn (by omega)
        have HO : Hid _ := hown
        have HB : Hid _ := hbel
        clear hown hbel hke
        go_wp2
        go_ret
        exact ⟨size, rfl, by rw [← HE.out]; exact HO.out, HB.out⟩
  · go_enter Tryz.func63, Tryz.ntmps63
    go_wp2_with (at_make; refine wpList_make_full _ rfl (.tmp 13) (.tmp 13) 99 rfl w.heap.size 5 i0 (.int .u8 0) 1 Tryz.underlying99 hi hz0 hz1 .i64 .i64 (size : Int) (size : Int) size rfl rfl rfl rfl hb2 hml (Nat.le_refl _) ?_; intro w1 hown hgrow)
    rw [made_zero size n] at hown
    have hbel : Below w.heap.size w w1 := (Below.refl _ _).grown hgrow (Nat.le_refl _) (by simp)
    clear hgrow
    go_loopw [6, 17] (fun _ i wr => ∃ k : Nat, k ≤ size ∧ i = .int .i64 k ∧ wr.ownsRow w.heap.size 5 1 (.slice (some ⟨w.heap.size, 0, none⟩) size size) size ((putUp n size k).map (Value.int .u8)) ∧ Below w.heap.size w wr) (fun _ i _ => size - (intOf i).toNat)
    case atStart => exact ⟨0, Nat.zero_le _, rfl, hown, hbel⟩
    case round =>
      clear hown hbel
      obtain ⟨k, hk, rfl, hown, hbel⟩ := hrel
      by_cases hlt : k < size
      · have hfr := hown.frozenAt k
        have hcl := hown.cellAt k (by omega)
        have hget : ((putUp n size k).map (Value.int .u8))[k]? = some (.int .u8 ((putUp n size k).getD k 0)) := by
          rw [List.getElem?_map, List.getD_eq_getElem?_getD, List.getElem?_eq_getElem (by rw [putUp_length]; omega)]; rfl
        rw [hget] at hcl
        have R := put_step rfl hown hbel
        have hsh := byte_shift n k
        have HR : Hid _ := R
        clear hget hown hbel R
        go_wp2
        go_roundw
        case rel => exact ⟨k + 1, by omega, by go_num, HR.out.1, HR.out.2⟩
        case measure => simp [intOf]; omega
      · have hke : k = size := by omega
        have HE : Hid _ := putUp_all n size k hn (by omega)
        have HO : Hid _ := hown
        have HB : Hid _ := hbel
        clear hown hbel hke
        go_wp2
        go_ret
        exact ⟨size, rfl, by rw [← HE.out]; exact HO.out, HB.out⟩

/-- What one append of the document's Put does. -/
theorem putL_map_succ (n k : Nat) : (putL n k).map (Value.int .u8) ++ [.int .u8 (byteAt n k)] = (putL n (k + 1)).map (Value.int .u8) := by rw [putL_succ]; simp

set_option maxHeartbeats 1000000 in
theorem refPut_any (n : Nat) (size : Int) (hn : n < 18446744073709551616) (hs : size ≤ 2147483647) (w : World) :
    Calls Tryz.prog 38 #[.int .u64 n, .int .i64 size] w fun e w' => ∃ v, e = .returned v ∧
      w'.ownsRow w.heap.size 5 1 v size.toNat ((putL n size.toNat).map (Value.int .u8)) ∧ Below w.heap.size w w' := by
  obtain ⟨i0, hi, hz0, hz1, hz2⟩ := info_parts Tryz.info5
  go_enter Tryz.func38, Tryz.ntmps38
  go_wp2
  go_loopw [0, 5, 6] (fun m v i wr => ∃ k : Nat, k ≤ size.toNat ∧ m = .int .u64 ((n / 256 ^ k : Nat) : Int) ∧ i = .int .i64 k ∧ wr.ownsRow w.heap.size 5 1 v k ((putL n k).map (Value.int .u8)) ∧ Below w.heap.size w wr) (fun _ _ i _ => size.toNat - (intOf i).toNat)
  case atStart => exact ⟨0, Nat.zero_le _, by simp, rfl, World.ownsRow_nil _ _ _ _, Below.refl _ _⟩
  case round =>
    obtain ⟨k, hk, rfl, rfl, hown, hbel⟩ := hrel
    by_cases hlt : (k : Int) < size
    · have hbm := byte_mod n k
      have hdv := div_step n k
      have hsz := hbel.size
      have hqn : n / 256 ^ k < 18446744073709551616 := Nat.lt_of_le_of_lt (Nat.div_le_self _ _) hn
      generalize hq : n / 256 ^ k = q at *
      have HDV : Hid _ := hdv
      clear hq hdv
      go_wp2_with (at_builtin; refine wpList_append_own _ rfl _ _ 99 rfl w.heap.size 5 i0 (.int .u8 0) 1 1 Tryz.underlying99 hi hz0 hz1 hz2 rfl (by decide) _ _ _ rfl (hown.alloc _) ⟨wr.heap.size, 0, none⟩ 1 1 [.int .u8 (byteAt n k)] rfl rfl ?c1 ?c2 ?c3 ?c4 ?c5 ?_)
      case c1 =>
        intro j u hj
        match j, hj with
        | 0, hj => simp at hj; subst hj; simp [Addr.add]
      case c2 => intro u hu; simp at hu; subst hu; rfl
      case c3 => unfold maxLen; omega
      case c4 => omega
      case c5 => simp; omega
      · intro v' w1 hown' hgrow _
        have hb1 : Below w.heap.size w w1 := (hbel.alloc (by omega) _).grown hgrow (by simp; omega) (fun j hj => (hown.lt j hj).1)
        rw [putL_map_succ] at hown'
        clear hgrow hown hbel
        go_wp2
        go_roundw
        case rel => exact ⟨k + 1, by omega, by rw [← HDV.out], by go_num, hown', hb1⟩
        case measure => simp [intOf]; omega
    · have hke : size.toNat = k := by omega
      rw [hke]
      go_wp2
      go_ret
      exact ⟨_, rfl, hown, hbel⟩

end Go.Proofs.YtbmcmabimfoknaaGreatDoor
