/- The statement's fields: how they lie; long, root; the Writer's Root. -/
import Derived.Test.YtidkjpfdclkccaaJoinPure
namespace Go.Proofs.Ytidkjpfdclkccaa
open Go.RowKit Go.Shelf
set_option linter.unusedVariables false
set_option maxRecDepth 100000

/-- A field of the statement. -/
structure FV where
  kind : Int
  n : Nat
  data : List Nat
/-- A field lies at a place. -/
structure FAt (w : World) (b o : Nat) (f : FV) (u : Value) : Prop where
  c0 : w.cell? ⟨b, o, none⟩ = some (.int .i64 f.kind)
  c1 : w.cell? ⟨b, o + 1, none⟩ = some (.int .u64 (f.n : Nat))
  c2 : w.cell? ⟨b, o + 2, none⟩ = some u
  isB : IsB w u f.data
  kb : -9223372036854775808 ≤ f.kind ∧ f.kind ≤ 9223372036854775807
  nb : f.n < 18446744073709551616
theorem FAt.keep {w w' : World} {b o : Nat} {f : FV} {u : Value} (h : FAt w b o f u) (hb : Below w.heap.size w w') : FAt w' b o f u :=
  ⟨(hb.cell (p := ⟨b, o, none⟩) (block_lt_of_cell h.c0)).trans h.c0, (hb.cell (p := ⟨b, o + 1, none⟩) (block_lt_of_cell h.c1)).trans h.c1, (hb.cell (p := ⟨b, o + 2, none⟩) (block_lt_of_cell h.c2)).trans h.c2, h.isB.keep hb, h.kb, h.nb⟩
/-- A slice of fields. -/
structure IsFs (w : World) (v : Value) (fs : List FV) : Prop where
  ex : ∃ ao cap, v = .slice ao fs.length cap ∧ fs.length ≤ cap ∧ cap ≤ maxLen ∧ (fs.length = 0 ∨ ∃ b off, ao = some ⟨b, off, none⟩ ∧ ∀ i f, fs[i]? = some f → ∃ u, FAt w b (off + i * 3) f u)
theorem IsFs.keep {w w' : World} {v : Value} {fs : List FV} (h : IsFs w v fs) (hb : Below w.heap.size w w') : IsFs w' v fs := by
  obtain ⟨ao, cap, rfl, h1, h2, h4⟩ := h
  refine ⟨ao, cap, rfl, h1, h2, ?_⟩
  rcases h4 with h4 | ⟨b, off, rfl, hc⟩
  · exact .inl h4
  · exact .inr ⟨b, off, rfl, fun i f hf => by obtain ⟨u, h⟩ := hc i f hf; exact ⟨u, h.keep hb⟩⟩
/-- What long adds up. -/
def minF (fs : List FV) : Nat := (fs.map fun f => min f.data.length 5000).sum
theorem minF_snoc (fs : List FV) (k : Nat) (f : FV) (h : fs[k]? = some f) : minF (fs.take (k + 1)) = minF (fs.take k) + min f.data.length 5000 := by
  have hi := (List.getElem?_eq_some_iff.1 h).1
  rw [List.getElem?_eq_getElem hi] at h
  cases h
  rw [List.take_succ_eq_append_getElem hi]
  have e : ∀ (a : List FV) (b : FV), minF (a ++ [b]) = minF a + min b.data.length 5000 := fun a b => by simp [minF]
  exact e _ _
theorem minF_le (fs : List FV) (k : Nat) : minF (fs.take k) ≤ 5000 * k := by
  induction k with
  | zero => simp [minF]
  | succ k ih =>
    by_cases h : k < fs.length
    · rw [minF_snoc fs k _ (List.getElem?_eq_getElem h)]; omega
    · rw [List.take_of_length_le (by omega)] at ih ⊢; omega
theorem minF_take (fs : List FV) (k : Nat) : minF (fs.take k) ≤ minF fs := by
  have h : minF fs = minF (fs.take k) + minF (fs.drop k) := by
    simp only [minF]
    rw [← List.sum_append, ← List.map_append, List.take_append_drop]
  omega
def longB (fs : List FV) : Bool := decide (60 < fs.length) || decide (4000 < minF fs)

set_option maxHeartbeats 1000000 in
theorem long_any (v : Value) (fs : List FV) (w : World) (h : IsFs w v fs) (hl : fs.length ≤ 3600000000000) :
    Calls Try.prog 10 #[v] w fun e w' => e = .returned (.bool (longB fs)) ∧ Below w.heap.size w w' := by
  obtain ⟨ao, cap, rfl, h1, h2, h4⟩ := h
  go_enter Try.func10, Try.ntmps10
  go_wp2
  go_loopw [3, 5, 8] (fun s _ i wr => ∃ k : Nat, k ≤ fs.length ∧ i = .int .i64 k ∧ s = .int .i64 ((minF (fs.take k) : Nat) : Int) ∧ Below w.heap.size w wr) (fun _ _ i _ => fs.length - (intOf i).toNat)
  case atStart => exact ⟨0, Nat.zero_le _, rfl, rfl, Below.refl _ _⟩
  case round =>
    obtain ⟨k, hk, rfl, rfl, hB⟩ := hrel
    by_cases hlt : k < fs.length
    · obtain ⟨b, off, rfl, hcc⟩ : ∃ b off, ao = some ⟨b, off, none⟩ ∧ ∀ i f, fs[i]? = some f → ∃ u, FAt w b (off + i * 3) f u := by
        rcases h4 with h4 | h4
        · omega
        · exact h4
      have hf := List.getElem?_eq_getElem hlt
      obtain ⟨u, hF⟩ := hcc k _ hf
      have hF' := hF.keep hB
      obtain ⟨k0, k1, k2, kI, _, _⟩ := hF'
      obtain ⟨⟨ao2, cap2, rfl, _⟩, _⟩ := kI
      have hms := minF_snoc fs k _ hf
      have hml := minF_le fs k
      have HS := hid hms
      have hBa := hid hB
      have sB := hB.size
      generalize fs[k].kind = kd at *
      generalize fs[k].n = fn at *
      generalize fs[k].data.length = dl at *
      clear hms hf hcc hF hB h4
      generalize minF (fs.take k) = s at *
      by_cases hd : dl ≤ 5000
      · go_wp2
        go_roundw
        case rel => exact ⟨k + 1, by omega, by go_num, by rw [HS.out, Nat.min_eq_left hd]; go_num, hBa.out.alloc (by omega) _⟩
        case measure => simp [intOf]; omega
      · go_wp2
        go_roundw
        case rel => exact ⟨k + 1, by omega, by go_num, by rw [HS.out, Nat.min_eq_right (by omega)]; go_num, hBa.out.alloc (by omega) _⟩
        case measure => simp [intOf]; omega
    · obtain rfl : k = fs.length := by omega
      rw [List.take_length]
      have HBw := hid hB
      clear hB
      by_cases h60 : 60 < fs.length
      · have h60' : (60 : Int) < ((fs.length : Nat) : Int) := by omega
        go_wp2
        go_ret
        exact ⟨by simp [longB, h60], HBw.out⟩
      · have h60' : ¬ (60 : Int) < ((fs.length : Nat) : Int) := by omega
        go_wp2
        go_ret
        refine ⟨?_, HBw.out⟩
        simp only [longB, decide_eq_false h60, Bool.false_or]
        by_cases h4' : 4000 < minF fs
        · have : (4000 : Int) < ((minF fs : Nat) : Int) := by omega
          simp [h4']; omega
        · have : ¬ (4000 : Int) < ((minF fs : Nat) : Int) := by omega
          simp [h4']; omega
end Go.Proofs.Ytidkjpfdclkccaa
