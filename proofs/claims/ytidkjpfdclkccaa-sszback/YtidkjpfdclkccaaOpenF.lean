/- Fields that came in. -/
import Derived.Test.YtidkjpfdclkccaaOpen
import Derived.Test.YtidkjpfdclkccaaFields
import Derived.Deep.Strs
namespace Go.Proofs.Ytidkjpfdclkccaa
open Go.RowKit Go.Deep Go.ChangeShapes Go.WideShapes Go.ChangeAt
set_option linter.unusedVariables false
set_option maxRecDepth 100000
instance : Inhabited FV := ⟨⟨0, 0, []⟩⟩

theorem cellsFd : Try.prog.cellsOf 33 = 3 := by kernel_rfl
theorem bytesFd : Try.prog.bytesOf 33 = 40 := by kernel_rfl
theorem cellsI : Try.prog.cellsOf 3 = 1 := by kernel_rfl
theorem cellsU : Try.prog.cellsOf 31 = 1 := by kernel_rfl
section
variable {H : Type} {enc : TypeId × Value → H} {W : World} {b0 : Nat} {sp : Nat → Bool} {held : Bool}
theorem field_at {fuel b off : Nat} {cs : List Value} {x : DataW H × List MemPlace} (hc : W.cells? b0 ⟨b, off, none⟩ 3 = some cs) (h : DataW.trod enc Try.prog W b0 sp held fuel 33 cs = some x) :
    ∃ (f : FV) (u : Value), FAt W b off f u := by
  obtain ⟨y0, y1, y2, n, _, hlen, h0, h1, h2⟩ := trod_struct3 Try.underlying33 h
  rw [cellsFd] at hlen
  match cs, hlen with
  | [x0, x1, x2], _ =>
    simp only [cellsI, cellsU, cells30, List.drop_zero, List.drop_succ_cons, List.take_succ_cons, List.take_zero] at h0 h1 h2
    obtain ⟨i0, e0, _, w0⟩ := DataW.trod_int Try.underlying3 h0
    obtain ⟨i1, e1, _, w1⟩ := DataW.trod_int Try.underlying31 h1
    obtain ⟨u, bs, e2, hI, _⟩ := b_of_trod h2
    simp only [List.cons.injEq, and_true] at e0 e1 e2
    subst e0 e1 e2
    have b0' := bounds_i64 w0
    have b1' := bounds_u64 w1
    have hcc := (World.cells?_some hc).2.2
    have c0 := hcc 0 (by decide)
    have c1 := hcc 1 (by decide)
    have c2 := hcc 2 (by decide)
    simp [Addr.add] at c0 c1 c2
    refine ⟨⟨i0, i1.toNat, bs⟩, _, c0, ?_, c2, hI, b0', ?_⟩
    · rw [c1]
      show _ = some (Value.int .u64 ((i1.toNat : Nat) : Int))
      rw [Int.toNat_of_nonneg b1'.1]
    · show i1.toNat < _
      omega
/-- Fields that came in; not more than the reach holds. -/
theorem open_f {v : Value} {d : DataW H} {p : List MemPlace} (hs : ∃ ao len cap, v = .slice ao len cap) (h : DataW.Trod enc Try.prog W b0 sp held 22 v d p) (hr : ∀ n ∈ d.weights Try.prog 22, n ≤ reachBytes) :
    ∃ fs, IsFs W v fs ∧ fs.length ≤ 3600000000000 := by
  obtain ⟨fuel, hf⟩ := h
  obtain ⟨ao, len, cap, rfl⟩ := hs
  rcases open_slice Try.underlying22 hf with ⟨hcs, _⟩ | ⟨a, len', cap', m, n, D, Pl, hcs, _, hl, hm, hmm, hd, hx⟩
  · simp [Value.cells] at hcs
    obtain ⟨rfl, rfl, rfl⟩ := hcs
    exact ⟨[], ⟨none, 0, rfl, Nat.le_refl _, by decide, .inl rfl⟩, Nat.zero_le _⟩
  · simp [Value.cells] at hcs
    obtain ⟨rfl, rfl, rfl⟩ := hcs
    rw [cellsFd] at hx
    have hlm : len ≤ m := by rw [hmm]; split <;> omega
    have hlen : len ≤ 3600000000000 := by
      have hd' : d = .slice ((List.range len).map D) ((List.range (m - len)).map fun j => D (len + j)) := congrArg Prod.fst hd
      have := hr (m * 40) (by
        rw [hd', DataW.weights, Try.underlying22]
        refine List.mem_cons.2 (.inl ?_)
        simp only [List.length_map, List.length_range, bytesFd]
        congr 1
        omega)
      have := reachBytes_lt
      omega
    by_cases h0 : len = 0
    · subst h0
      exact ⟨[], ⟨_, _, rfl, hl, hm, .inl rfl⟩, Nat.zero_le _⟩
    · obtain ⟨b, off, spot⟩ := a
      obtain rfl : spot = none := by
        obtain ⟨cs', hc, ht⟩ := hx 0 (by omega)
        obtain ⟨_, _, _, _, _, hlen, _⟩ := trod_struct3 Try.underlying33 ht
        rw [cellsFd] at hlen
        have := (World.cells?_some hc).2.2 0 (by decide)
        rw [List.getElem?_eq_getElem (by omega)] at this
        simpa [Addr.add] using World.cell?_spot this
      have each : ∀ i, i < len → ∃ f : FV, ∃ u, FAt W b (off + i * 3) f u := by
        intro i hi
        obtain ⟨cs', hc, ht⟩ := hx i (by omega)
        rw [Addr.add_lit] at hc
        exact field_at hc ht
      obtain ⟨f, hf⟩ := choose_lt each
      refine ⟨(List.range len).map f, ⟨_, cap, by simp, by simpa using hl, hm, .inr ⟨b, off, rfl, fun i x hx => ?_⟩⟩, by simpa using hlen⟩
      have hi : i < len := by have := (List.getElem?_eq_some_iff.1 hx).1; simpa using this
      have hx' : x = f i := by simp [hi] at hx; exact hx.symm
      subst hx'
      exact hf i hi
end
end Go.Proofs.Ytidkjpfdclkccaa
