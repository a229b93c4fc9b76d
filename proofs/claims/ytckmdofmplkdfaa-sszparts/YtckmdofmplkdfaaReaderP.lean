/- ssz's Reader: Num, Bool, Part. -/
import Derived.Test.YtckmdofmplkdfaaReader
namespace Go.Proofs.Ytckmdofmplkdfaa
open Go.RowKit Go.Shelf
set_option linter.unusedVariables false
set_option maxRecDepth 100000

/-- The number that bytes make, the lowest first. -/
def tk (bs : List Nat) : Nat := takeV (bs.map fun n : Nat => (n : Int))
theorem tk_lt (bs : List Nat) (h : ∀ z ∈ bs, z < 256) : tk bs < 18446744073709551616 :=
  takeV_lt _ fun x hx => by obtain ⟨n, hn, rfl⟩ := List.mem_map.1 hx; have := h n hn; omega
theorem take_isB (v : Value) (bs : List Nat) (w : World) (h : IsB w v bs) :
    Calls Try.prog 14 #[v] w fun e w' => e = .returned (.int .u64 (tk bs : Nat)) ∧ w' = w := by
  obtain ⟨⟨ao, cap, rfl, h1, h2, h3, hR⟩, h8⟩ := h
  refine take_any ao bs.length cap (bs.map fun n : Nat => (n : Int)) w (by omega) ⟨by simp, fun z hz => ?_, ?_⟩
  · obtain ⟨n, hn, rfl⟩ := List.mem_map.1 hz; have := h8 n hn; omega
  · rcases hR with h | ⟨b, off, rfl, hc⟩
    · exact .inl h
    · refine .inr ⟨b, off, rfl, fun i hi => ?_⟩
      rw [hc i hi]
      simp [hi]
theorem fixB_byte {bs : List Nat} (h : ∀ z ∈ bs, z < 256) (size taken n : Nat) (wrong : Bool) : ∀ z ∈ fixB bs size taken n wrong, z < 256 := by
  unfold fixB
  split
  · exact zeros_byte n
  · exact fun z hz => h z (List.mem_of_mem_drop (List.mem_of_mem_take hz))
theorem Rd.byte {w : World} {g : Nat} {S : Nat → Prop} {bs : List Nat} {size taken : Nat} {ps : List Nat} {wrong : Bool} (h : Rd w g S bs size taken ps wrong) : ∀ z ∈ bs, z < 256 := by
  obtain ⟨⟨v, q, _, h2, _⟩, _⟩ := h; exact h2.by8

/-- May the next field of any size begin at a place? -/
def folB (bs : List Nat) (size : Nat) (ps : List Nat) (place : Nat) : Bool :=
  match ps.reverse with
  | [] => decide (place = size)
  | l :: _ => decide (l ≤ place) && decide (place ≤ bs.length)

set_option maxHeartbeats 1000000 in
theorem follows_any {g : Nat} {S : Nat → Prop} {bs : List Nat} {size taken : Nat} {ps : List Nat} {wrong : Bool} (place : Nat) (w : World) (h : Rd w g S bs size taken ps wrong) (hp : ps.length ≤ 2147483647) :
    Calls Try.prog 35 #[.pointer (some ⟨g, 0, none⟩), .int .i64 (place : Nat)] w fun e w' => e = .returned (.bool (folB bs size ps place)) ∧ w' = w := by
  obtain ⟨ao, cap, q, c0, c1, c2, c3, c4, c5, _, _, _, hch, _⟩ := h.cells
  clear h c2 c5
  cases hr : ps.reverse with
  | nil =>
    have hz : ps.length = 0 := by rw [← List.length_reverse, hr]; rfl
    rw [hz] at c3
    have HE : Same (folB bs size ps place) (decide (place = size)) := ⟨by simp only [folB, hr]⟩
    clear hch hz
    go_enter Try.func35, Try.ntmps35
    go_wp2
    go_ret
    rw [HE.out]
    refine ⟨?_, rfl⟩
    by_cases e : place = size
    · subst e; simp
    · have : ((place : Int) == (size : Int)) = false := by rw [beq_eq_false_iff_ne]; omega
      simp [e, this]
  | cons l rs =>
    have hz : 0 < ps.length := by rw [← List.length_reverse, hr]; simp
    rw [hr] at hch
    obtain ⟨b, q', hqe, _, hb, _⟩ := hch
    cases hqe
    have hb1 : w.cell? ⟨b, 1, none⟩ = some (.int .i64 (l : Nat)) := cell_of_row w b 1 _ _ (0, 0) hb
    have HE : Same (folB bs size ps place) (decide (l ≤ place) && decide (place ≤ bs.length)) := ⟨by simp only [folB, hr]⟩
    have hne : (((ps.length : Nat) : Int) == 0) = false := by rw [beq_eq_false_iff_ne]; omega
    clear hb hr
    by_cases hle : l ≤ place
    · have h1 : (l : Int) ≤ (place : Int) := by omega
      go_enter Try.func35, Try.ntmps35
      go_wp2
      go_ret
      rw [HE.out, decide_eq_true hle, Bool.true_and]
      refine ⟨?_, rfl⟩
      simp
    · have h1 : ¬ (l : Int) ≤ (place : Int) := by omega
      go_enter Try.func35, Try.ntmps35
      go_wp2
      go_ret
      rw [HE.out, decide_eq_false hle, Bool.false_and]
      exact ⟨rfl, rfl⟩
end Go.Proofs.Ytckmdofmplkdfaa
