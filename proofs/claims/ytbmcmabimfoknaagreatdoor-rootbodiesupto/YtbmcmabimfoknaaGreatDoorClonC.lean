/- Contracts of the library's bytes.Clone and of merkle's Chunks: the iterator over a copy of the bytes. -/
import Derived.Test.YtbmcmabimfoknaaGreatDoorRefC
import Derived.Lib.SliceRun
namespace Go.Proofs.YtbmcmabimfoknaaGreatDoor
set_option maxRecDepth 100000
open Go.RowKit
set_option linter.unusedVariables false

/-- A slice of bytes that a call made. -/
def Bts (bs : List Nat) (v : Value) (w : World) : Prop := ∃ ao cap, v = .slice ao bs.length cap ∧ bs.length ≤ cap ∧ cap ≤ maxLen ∧ Reads w ao bs
theorem Bts.keep {bs : List Nat} {v : Value} {w w' : World} (h : Bts bs v w) (hb : Below w.heap.size w w') : Bts bs v w' := by
  obtain ⟨ao, cap, e, h1, h2, h3⟩ := h
  exact ⟨ao, cap, e, h1, h2, h3.keep hb⟩
theorem Bts.own {bs : List Nat} {v : Value} {w : World} {base n : Nat} {e : TypeId} (h : w.ownsRow base e 1 v n (bs.map fun n : Nat => Value.int .u8 (n : Int))) : Bts bs v w := by
  obtain ⟨hl, h⟩ := h
  rw [List.length_map, Nat.mul_one] at hl
  subst hl
  rcases h with ⟨rfl, h0⟩ | ⟨g, cap, cur, rfl, hb, hg, hnc, hm, hcs, htk⟩
  · rw [List.eq_nil_of_length_eq_zero h0]; exact ⟨none, 0, rfl, Nat.le_refl _, by decide, .inl rfl⟩
  · refine ⟨_, cap, rfl, hnc, hm, .inr ⟨g, 0, rfl, fun i hi => ?_⟩⟩
    rw [Nat.zero_add, cell_of_row w g i _ _ (0, 0) hg, ← Array.getElem?_toList]
    have : (cur.toList.take (bs.length * 1))[i]? = (bs.map fun n : Nat => Value.int .u8 (n : Int))[i]? := by rw [htk]
    rw [List.getElem?_take, if_pos (by omega)] at this
    rw [this, List.getElem?_map, List.getElem?_eq_getElem hi, List.getD_eq_getElem?_getD, List.getElem?_eq_getElem hi]
    rfl
theorem own_bytesA (w : World) : (w.alloc (.cells #[] 5)).ownsRow w.heap.size 5 1 (.slice (some ⟨w.heap.size, 0, none⟩) 0 0) 0 [] :=
  ⟨rfl, .inr ⟨w.heap.size, 0, #[], rfl, Nat.le_refl _, heap_alloc_new w _, Nat.le_refl _, Nat.zero_le _, rfl, rfl⟩⟩

set_option maxRecDepth 100000 in
set_option maxHeartbeats 1000000 in
theorem clone_anyA (ao : Option Addr) (cap : Nat) (bs : List Nat) (w : World) (hnil : ao = none → cap = 0) (hcap : bs.length ≤ cap) (hlen : bs.length ≤ 140737488355328) (hR : Reads w ao bs) :
    Calls Tryz.prog 114 #[.slice ao bs.length cap] w fun e w' => ∃ v, e = .returned v ∧ Bts bs v w' ∧ Below w.heap.size w w' := by
  have HB : Below w.heap.size w (w.alloc (.cells #[] 5)) := (Below.refl _ w).alloc (Nat.le_refl _) _
  have HRA := hR.keep HB
  have HO := own_bytesA w
  rcases ao with _ | ad
  · obtain rfl := hnil rfl
    obtain rfl : bs = [] := List.eq_nil_of_length_eq_zero (by omega)
    have heq := Lib.run_eql_slice_nil (P := Tryz.prog) w 99 5 none 0 0 0 0 Tryz.underlying99
    go_enter Tryz.func114, Tryz.ntmps114
    go_wp2_with fail
    go_ret
    exact ⟨_, rfl, ⟨none, 0, rfl, Nat.le_refl _, by decide, .inl rfl⟩, Below.refl _ w⟩
  · obtain ⟨i0, hi, hz0, hz1, hz2⟩ := info_parts Tryz.info5
    have HC : ∀ j, j < bs.length → (w.alloc (.cells #[] 5)).cell? (ad.add j) = some (.int .u8 (bs.getD j 0 : Nat)) := by
      intro j hj
      obtain ⟨ad', e1, hc⟩ := HRA.src (by omega)
      cases e1
      exact hc j hj
    have HCh := hid HC
    clear HC
    have heq := Lib.run_eql_slice_nil (P := Tryz.prog) w 99 5 (some ad) bs.length cap 0 0 Tryz.underlying99
    go_enter Tryz.func114, Tryz.ntmps114
    go_wp2_with (refine wpList_append_own _ rfl (.tmp 5) (.tmp 6) 99 rfl w.heap.size 5 i0 (.int .u8 0) 1 1 Tryz.underlying99 hi hz0 hz1 hz2 rfl (by decide) _ 0 [] rfl (by exact HO) ad bs.length cap (bs.map fun n : Nat => Value.int .u8 (n : Int)) rfl (by simp) (by intro j u hj; have hjl : j < bs.length := (by by_cases hjl : j < bs.length; exact hjl; rw [List.getElem?_eq_none (by simp; omega)] at hj; cases hj); rw [HCh.out j hjl]; simpa [hjl] using hj) (fun u hu => by obtain ⟨n, _, rfl⟩ := List.mem_map.1 hu; rfl) (by unfold maxLen; omega) (by omega) (by exact HB.size) ?_; intro v' w' own' grow' _)
    go_ret
    rw [List.nil_append] at own'
    exact ⟨v', rfl, Bts.own own', below_grownR HB HO (Nat.le_refl _) grow'⟩

set_option maxRecDepth 100000 in
set_option maxHeartbeats 1000000 in
theorem chunks_any (ao : Option Addr) (cap : Nat) (bs : List Nat) (w : World) (hnil : ao = none → cap = 0) (hcap : bs.length ≤ cap) (hlen : bs.length ≤ 140737488355328) (hR : Reads w ao bs) :
    Calls Tryz.prog 105 #[.slice ao bs.length cap] w fun e w' => ∃ c v, w.heap.size ≤ c ∧ e = .returned (.func (.func 115) #[] #[.pointer (some ⟨c, 0, none⟩)]) ∧ w'.cell? ⟨c, 0, none⟩ = some v ∧ Bts bs v w' ∧ Below w.heap.size w w' := by
  go_enter Tryz.func105, Tryz.ntmps105
  go_wp2_with fail
  refine (clone_anyA ao cap bs w hnil hcap hlen hR).mono ?_
  rintro e w1 ⟨v, rfl, Bv, B1⟩
  obtain ⟨ao1, cap1, rfl, k1, k2, R1⟩ := Bv
  go_wp2_with fail
  go_ret
  have BA : Below w1.heap.size w1 (w1.alloc (.cells #[.slice ao1 bs.length cap1] 99)) := (Below.refl _ w1).alloc (Nat.le_refl _) _
  exact ⟨w1.heap.size, .slice ao1 bs.length cap1, B1.size, rfl, by simp, ⟨ao1, cap1, rfl, k1, k2, R1.keep BA⟩, below_more B1 BA (Nat.le_refl _)⟩
end Go.Proofs.YtbmcmabimfoknaaGreatDoor
