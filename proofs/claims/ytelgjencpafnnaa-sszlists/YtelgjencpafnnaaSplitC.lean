/- ssz's Split: its answer. -/
import Derived.Test.YtelgjencpafnnaaSplit4
namespace Go.Proofs.Ytelgjencpafnnaa
open Go.RowKit Go.Shelf
set_option linter.unusedVariables false

set_option maxRecDepth 100000 in
set_option maxHeartbeats 2000000 in
theorem split_ok (v : Value) (bs : List Nat) (size k : Nat) (limit : Int) (w : World) (hI : IsB w v bs) (hsz : 0 < size) (hk : bs.length = k * size) (hlen : bs.length ≤ 1099511627776) (hkl : (k : Int) ≤ limit) (hs : size ≤ 9223372036854775807) :
    Calls Try.prog 6 #[v, .int .i64 (size : Nat), .int .i64 limit] w fun x w' => ∃ u bo bz, x = .returned (.tuple #[.func (.func 23) #[] #[.pointer (some ⟨bo, 0, none⟩), .pointer (some ⟨bz, 0, none⟩)], .int .i64 0]) ∧ w.heap.size ≤ bo ∧ w.heap.size ≤ bz ∧
      w'.heap[bo]? = some (.cells #[u] 22 (0, 0)) ∧ w'.heap[bz]? = some (.cells #[.int .i64 (size : Nat)] 3 (0, 0)) ∧ IsB w' u bs ∧ Below w.heap.size w w' := by
  have HI := hid hI
  obtain ⟨⟨ao, cap, rfl, _⟩, h8⟩ := hI
  have h1 : ¬ (size : Int) < 1 := by omega
  have h0 : (size : Int) ≠ 0 := by omega
  have hq : ¬ limit < (k : Int) * (size : Int) / (size : Int) := by rw [Int.mul_ediv_cancel _ h0]; omega
  go_enter Try.func6, Try.ntmps6
  go_wp2_with fail
  have B1 : Below w.heap.size w (w.alloc (.cells #[.int .i64 (size : Nat)] 3)) := (Below.refl _ w).alloc (Nat.le_refl _) _
  have H1 := heap_alloc_new w (.cells #[.int .i64 (size : Nat)] 3)
  have S1 := World.size_alloc w (.cells #[.int .i64 (size : Nat)] 3)
  generalize w.alloc (.cells #[.int .i64 (size : Nat)] 3) = w1 at B1 H1 S1 ⊢
  have HC := hid (clone_any _ bs w1 (HI.out.keep B1) (by omega))
  rw [hk] at HC
  refine HC.out.mono ?_
  rintro e w2 ⟨u, rfl, R2, B2⟩
  have H2 := (B2.block _ (by omega)).trans H1
  have I2 : IsB w2 u bs := R2.isB h8
  obtain ⟨ao2, cap2, rfl⟩ : ∃ ao2 cap2, u = .slice ao2 bs.length cap2 := by obtain ⟨⟨a, c, e, _⟩, _⟩ := I2; exact ⟨a, c, e⟩
  rw [hk] at I2
  have HX := hid (And.intro H2 (And.intro I2 (below_more B1 B2 (Nat.le_refl _))))
  have s2 := B2.size
  clear H1 B1 R2 B2 H2 I2 HC
  go_wp2_with fail
  have BA : Below w2.heap.size w2 (w2.alloc (.cells #[.slice ao2 (k * size) cap2] 22)) := (Below.refl _ w2).alloc (Nat.le_refl _) _
  have HA := heap_alloc_new w2 (.cells #[.slice ao2 (k * size) cap2] 22)
  refine bodyPost_ret (v := .tuple #[.func (.func 23) #[] #[.pointer (some ⟨w2.heap.size, 0, none⟩), .pointer (some ⟨w.heap.size, 0, none⟩)], .int .i64 0]) (by simp [results, Try.results6, go_sem]) rfl ?_
  exact ⟨_, w2.heap.size, w.heap.size, rfl, by omega, Nat.le_refl _, HA, (BA.block _ (by omega)).trans HX.out.1, HX.out.2.1.keep BA, below_more HX.out.2.2 BA (by omega)⟩
set_option maxRecDepth 100000 in
set_option maxHeartbeats 2000000 in
theorem split_bad (v : Value) (bs : List Nat) (size limit : Int) (w : World) (hI : IsB w v bs) (hlen : bs.length ≤ 1099511627776) (h64 : -9223372036854775808 ≤ size ∧ size ≤ 9223372036854775807) (hbad : size < 1 ∨ ((bs.length : Int).tmod size ≠ 0) ∨ limit < (bs.length : Int).tdiv size) :
    Calls Try.prog 6 #[v, .int .i64 size, .int .i64 limit] w fun x w' => x = .returned (.tuple #[.nilFunc, .int .i64 3]) ∧ Below w.heap.size w w' := by
  obtain ⟨⟨ao, cap, rfl, _⟩, h8⟩ := hI
  by_cases h1 : size < 1
  · go_enter Try.func6, Try.ntmps6
    go_wp2_with fail
    refine bodyPost_ret (v := .tuple #[.nilFunc, .int .i64 3]) (by simp [results, Try.results6, go_sem]) rfl ?_
    exact ⟨rfl, (Below.refl _ w).alloc (Nat.le_refl _) _⟩
  · have h0 : size ≠ 0 := by omega
    obtain ⟨s, rfl⟩ : ∃ s : Nat, size = (s : Int) := ⟨size.toNat, by omega⟩
    by_cases h2 : ((bs.length : Int) % (s : Int)) = 0
    · have h3 : limit < (bs.length : Int) / (s : Int) := by
        rcases hbad with h | h | h
        · exact absurd h h1
        · rw [Int.tmod_eq_emod_of_nonneg (by omega)] at h; exact absurd h2 h
        · rwa [Int.tdiv_eq_ediv_of_nonneg (by omega)] at h
      have hb : 0 ≤ (bs.length : Int) / (s : Int) ∧ (bs.length : Int) / (s : Int) ≤ 1099511627776 := ⟨Int.ediv_nonneg (by omega) (by omega), Int.le_trans (Int.ediv_le_self _ (by omega)) (by omega)⟩
      go_enter Try.func6, Try.ntmps6
      go_wp2_with fail
      refine bodyPost_ret (v := .tuple #[.nilFunc, .int .i64 3]) (by simp [results, Try.results6, go_sem]) rfl ?_
      exact ⟨rfl, (Below.refl _ w).alloc (Nat.le_refl _) _⟩
    · go_enter Try.func6, Try.ntmps6
      go_wp2_with fail
      refine bodyPost_ret (v := .tuple #[.nilFunc, .int .i64 3]) (by simp [results, Try.results6, go_sem]) rfl ?_
      exact ⟨rfl, (Below.refl _ w).alloc (Nat.le_refl _) _⟩
end Go.Proofs.Ytelgjencpafnnaa
