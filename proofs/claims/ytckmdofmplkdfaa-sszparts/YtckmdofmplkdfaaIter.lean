/- slices.Backward over a slice of fields: the iterator's contract: places from the last to the first, whatever the fields hold meanwhile. -/
import Derived.Test.YtckmdofmplkdfaaBase
import Derived.RangeFuncNested
import Derived.RangeFuncBound
import Derived.RangeFuncCalls
import Derived.RangeFuncLeaves
import Derived.Shelf.Abstract
import Derived.Shelf.RegionOpen
import Derived.WalkKit
import Derived.OwnWalkIn
import Derived.TacticsInMore
import Derived.LoopNIn
import Derived.LoopIn
namespace Go.Proofs.Ytckmdofmplkdfaa
open Go.RowKit Go.Shelf
set_option linter.unusedVariables false
attribute [local go_sem] Oper.semAt_some

/-- Block g is a row of n fields, whatever they hold. -/
def Shape (t : TypeId) (s : Nat) (W : World) (g n : Nat) : Prop := ∃ c : Array Value, W.heap[g]? = some (.cells c t (0, 0)) ∧ c.size = n * s
/-- What a round keeps: the slice's variable, and the row's shape. -/
structure KeepsRow (t : TypeId) (s Bs g n : Nat) (W W' : World) : Prop where
  box : W'.cell? ⟨Bs, 0, none⟩ = W.cell? ⟨Bs, 0, none⟩
  shape : Shape t s W g n → Shape t s W' g n
theorem KeepsRow.refl {t : TypeId} {s Bs g n : Nat} (A : World) : KeepsRow t s Bs g n A A := ⟨rfl, id⟩
theorem KeepsRow.trans {t : TypeId} {s Bs g n : Nat} {A B C : World} (h : KeepsRow t s Bs g n A B) (k : KeepsRow t s Bs g n B C) : KeepsRow t s Bs g n A C := ⟨k.box.trans h.box, fun x => k.shape (h.shape x)⟩
/-- An index below n, and whatever value. -/
abbrev At (n : Nat) : Type := { x : Nat × Value // x.1 < n }
/-- The places n - 1, n - 2, ..: k of them. -/
def Down (n k : Nat) (xs : List (At n)) : Prop := xs.map (fun x => x.1.1) = (List.range k).map fun j => n - 1 - j
theorem Down.length {n k : Nat} {xs : List (At n)} (h : Down n k xs) : xs.length = k := by have := congrArg List.length h; simpa using this
theorem Down.snoc {n k : Nat} {xs : List (At n)} (h : Down n k xs) (x : At n) (hx : x.1.1 = n - 1 - k) : Down n (k + 1) (xs ++ [x]) := by
  unfold Down at *
  rw [List.map_append, h, List.range_succ, List.map_append]
  simp [hx]
theorem Shape.get {t : TypeId} {s : Nat} {W : World} {g n : Nat} (h : Shape t s W g n) (i : Nat) (hi : i < n * s) : ∃ v, W.cell? ⟨g, i, none⟩ = some v := by
  obtain ⟨c, hc, hs⟩ := h
  refine ⟨c[i]'(by omega), ?_⟩
  rw [cell_of_row W g i _ _ (0, 0) hc]
  exact Array.getElem?_eq_getElem _

set_option maxRecDepth 100000 in
set_option maxHeartbeats 2000000 in
theorem backF_in (F : Fence) (n : Nat) (h7 : F.fn 43) (hro : F.round = none) (hn : 1 ≤ n) (l Bs g len cap : Nat) (hlen : len ≤ 2147483647) (J Jx : List (At len) → World → Prop)
    (hY : ∀ pre x W, J pre W → pre.length < len → YieldAt F (n - 1) Try.prog l #[.int .i64 (x.1.1 : Nat), x.1.2] W fun e W' =>
      (e = .returned (.bool true) ∧ J (pre ++ [x]) W' ∧ KeepsRow 67 2 Bs g len W W') ∨ (e = .returned (.bool false) ∧ Jx (pre ++ [x]) W'))
    (W : World) (hBs : W.cell? ⟨Bs, 0, none⟩ = some (.slice (some ⟨g, 0, none⟩) len cap)) (hc : Shape 67 2 W g len) (h0 : J [] W) :
    CallsIn F n Try.prog 43 #[.func (.yield l) #[] #[], .pointer (some ⟨Bs, 0, none⟩)] W fun e W' => (∃ v, e = .returned v) ∧
      ((∃ ys, Down len len ys ∧ J ys W') ∨ (∃ pre, True ∧ Jx pre W')) := by
  refine callsIn_of_wp Try.func43 rfl h7 ?_ hro
  simp only [Try.ntmps43, List.size_toArray, List.length_cons, List.length_nil, Nat.reduceAdd, Nat.reduceSub, Array.replicate_succ, Array.replicate_zero, List.push_toArray, List.append_toArray, List.nil_append, List.cons_append]
  gi_wp2
  gi_loopw [3] (fun i wr => ∃ (k : Nat) (ys : List (At len)), k ≤ len ∧ i = .int .i64 ((len : Int) - 1 - k) ∧ Down len k ys ∧ J ys wr ∧ KeepsRow 67 2 Bs g len W wr)
    (fun i _ => (intOf i + 1).toNat)
  case atStart => exact ⟨0, [], Nat.zero_le _, by simp, rfl, h0, KeepsRow.refl _⟩
  case round =>
    obtain ⟨k, ys, hk, rfl, hd, hJs, hnx⟩ := hrel
    have hbx : wr.cell? ⟨Bs, 0, none⟩ = some (.slice (some ⟨g, 0, none⟩) len cap) := hnx.box.trans hBs
    have hsh := hnx.shape hc
    by_cases hlt : k < len
    · obtain ⟨i, hi⟩ : ∃ i : Nat, i + k + 1 = len := ⟨len - 1 - k, by omega⟩
      have hii : (len : Int) - 1 - k = (i : Int) := by omega
      obtain ⟨v0, hv0⟩ := hsh.get (i * 2) (by omega)
      obtain ⟨v1, hv1⟩ := hsh.get (i * 2 + 1) (by omega)
      obtain ⟨fn, tmps, assign, body, hy, hR⟩ := hY ys ⟨(i, .agg #[v0, v1]), by show i < len; omega⟩ wr hJs (by rw [hd.length]; exact hlt)
      dsimp only at hy
      have hii' := hid hii
      rw [hii]
      clear hii
      have hil : (i : Int) < len := by omega
      gi_wp2
      refine hR.mono ?_
      rintro e W3 (⟨rfl, hJ3, hk3⟩ | ⟨rfl, hJx3⟩)
      · gi_wp2
        go_roundw
        case rel => exact ⟨k + 1, _, by omega, by have := hii'.out; go_num, hd.snoc _ (by show i = len - 1 - k; omega), hJ3, hnx.trans hk3⟩
        case measure => simp [intOf]
      · gi_wp2
        refine bodyPost_ret (results_none rfl _ _ _) rfl ?_
        exact ⟨⟨_, rfl⟩, .inr ⟨_, trivial, hJx3⟩⟩
    · obtain rfl : k = len := by omega
      gi_wp2
      go_end0
      exact ⟨⟨_, rfl⟩, .inl ⟨_, hd, hJs⟩⟩
set_option maxRecDepth 100000 in
set_option maxHeartbeats 2000000 in
theorem backI_in (F : Fence) (n : Nat) (h7 : F.fn 44) (hro : F.round = none) (hn : 1 ≤ n) (l Bs g len cap : Nat) (hlen : len ≤ 2147483647) (J Jx : List (At len) → World → Prop)
    (hY : ∀ pre x W, J pre W → pre.length < len → YieldAt F (n - 1) Try.prog l #[.int .i64 (x.1.1 : Nat), x.1.2] W fun e W' =>
      (e = .returned (.bool true) ∧ J (pre ++ [x]) W' ∧ KeepsRow 3 1 Bs g len W W') ∨ (e = .returned (.bool false) ∧ Jx (pre ++ [x]) W'))
    (W : World) (hBs : W.cell? ⟨Bs, 0, none⟩ = some (.slice (some ⟨g, 0, none⟩) len cap)) (hc : Shape 3 1 W g len) (h0 : J [] W) :
    CallsIn F n Try.prog 44 #[.func (.yield l) #[] #[], .pointer (some ⟨Bs, 0, none⟩)] W fun e W' => (∃ v, e = .returned v) ∧
      ((∃ ys, Down len len ys ∧ J ys W') ∨ (∃ pre, True ∧ Jx pre W')) := by
  refine callsIn_of_wp Try.func44 rfl h7 ?_ hro
  simp only [Try.ntmps44, List.size_toArray, List.length_cons, List.length_nil, Nat.reduceAdd, Nat.reduceSub, Array.replicate_succ, Array.replicate_zero, List.push_toArray, List.append_toArray, List.nil_append, List.cons_append]
  gi_wp2
  gi_loopw [3] (fun i wr => ∃ (k : Nat) (ys : List (At len)), k ≤ len ∧ i = .int .i64 ((len : Int) - 1 - k) ∧ Down len k ys ∧ J ys wr ∧ KeepsRow 3 1 Bs g len W wr)
    (fun i _ => (intOf i + 1).toNat)
  case atStart => exact ⟨0, [], Nat.zero_le _, by simp, rfl, h0, KeepsRow.refl _⟩
  case round =>
    obtain ⟨k, ys, hk, rfl, hd, hJs, hnx⟩ := hrel
    have hbx : wr.cell? ⟨Bs, 0, none⟩ = some (.slice (some ⟨g, 0, none⟩) len cap) := hnx.box.trans hBs
    have hsh := hnx.shape hc
    by_cases hlt : k < len
    · obtain ⟨i, hi⟩ : ∃ i : Nat, i + k + 1 = len := ⟨len - 1 - k, by omega⟩
      have hii : (len : Int) - 1 - k = (i : Int) := by omega
      obtain ⟨v0, hv0⟩ := hsh.get i (by omega)
      obtain ⟨fn, tmps, assign, body, hy, hR⟩ := hY ys ⟨(i, v0), by show i < len; omega⟩ wr hJs (by rw [hd.length]; exact hlt)
      dsimp only at hy
      have hii' := hid hii
      rw [hii]
      clear hii
      have hil : (i : Int) < len := by omega
      gi_wp2
      refine hR.mono ?_
      rintro e W3 (⟨rfl, hJ3, hk3⟩ | ⟨rfl, hJx3⟩)
      · gi_wp2
        go_roundw
        case rel => exact ⟨k + 1, _, by omega, by have := hii'.out; go_num, hd.snoc _ (by show i = len - 1 - k; omega), hJ3, hnx.trans hk3⟩
        case measure => simp [intOf]
      · gi_wp2
        refine bodyPost_ret (results_none rfl _ _ _) rfl ?_
        exact ⟨⟨_, rfl⟩, .inr ⟨_, trivial, hJx3⟩⟩
    · obtain rfl : k = len := by omega
      gi_wp2
      go_end0
      exact ⟨⟨_, rfl⟩, .inl ⟨_, hd, hJs⟩⟩
end Go.Proofs.Ytckmdofmplkdfaa
