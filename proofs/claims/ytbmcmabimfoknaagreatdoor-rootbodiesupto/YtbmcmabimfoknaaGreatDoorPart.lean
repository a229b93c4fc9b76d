/- A made row of roots, filled root by root: what it holds; results of two. -/
import Derived.Test.YtbmcmabimfoknaaGreatDoorClsTail
namespace Go.Proofs.YtbmcmabimfoknaaGreatDoor
set_option maxRecDepth 100000
open Go.RowKit
set_option linter.unusedVariables false

theorem setV_nums (k : IntKind) (l r : List Nat) (o : Nat) (h : o + r.length ≤ l.length) : setV (nums k l) o (nums k r).toList = nums k (over l o r) := by
  have hn : (nums k r).toList.length = r.length := by rw [Array.length_toList, nums_size]
  apply Array.ext_getElem?
  intro i
  rw [setV_get _ _ _ (by rw [hn, nums_size]; exact h), hn]
  unfold nums over
  simp only [List.getElem?_toArray, List.getElem?_map]
  have ht : (l.take o).length = o := by rw [List.length_take]; omega
  by_cases h1 : i < o
  · rw [if_neg (by omega), List.getElem?_append_left (by omega), List.getElem?_take, if_pos h1]
  · rw [List.getElem?_append_right (by omega), ht]
    by_cases h2 : i < o + r.length
    · rw [if_pos (by omega), List.getElem?_append_left (by omega)]
    · rw [if_neg (by omega), List.getElem?_append_right (by omega), List.getElem?_drop, show o + r.length + (i - o - r.length) = i by omega]
theorem Has.part {w : World} {g : Nat} {t : TypeId} {k : IntKind} {l : List Nat} (h : Has w g t k l) (o : Nat) (r : List Nat) (hf : o + r.length ≤ l.length) :
    w.there g o r.length ∧ Has (w.setCells g o (nums k r).toList) g t k (over l o r) ∧ Only g w (w.setCells g o (nums k r).toList) := by
  obtain ⟨h1, h2⟩ := heap_setCells (nums k r).toList w _ o h
  rw [setV_nums k l r o hf] at h1
  refine ⟨fun j hj => ⟨?_, h.frozen _⟩, h1, h2⟩
  rw [h.cell (o + j) (by omega)]; rfl
theorem HasR.at {w : World} {g : Nat} {t : TypeId} {rs : List (List Nat)} (hr : Rts rs) (h : Has w g t .u8 rs.flatten) : RootsAt w (some ⟨g, 0, none⟩) rs :=
  ⟨hr, .inr ⟨g, 0, rfl, fun i hi => by rw [Nat.zero_add]; exact h.cell i hi⟩⟩

theorem RootsAt.only {w w' : World} {b off k : Nat} {rs : List (List Nat)} (h : RootsAt w (some ⟨b, off, none⟩) rs) (ho : Only k w w') (hk : b ≠ k) : RootsAt w' (some ⟨b, off, none⟩) rs := by
  refine ⟨h.rts, ?_⟩
  rcases h.reads with e | ⟨b', off', e, hc⟩
  · exact .inl e
  · cases e
    exact .inr ⟨b, off, rfl, fun i hi => by rw [World.cell?_of_block (w := w) (a := ⟨b, off + i, none⟩) (ho.block b hk)]; exact hc i hi⟩

/-- The first t of xs, and zero roots behind, m in all. -/
def upTo (xs : List (List Nat)) (m t : Nat) : List (List Nat) := xs.take t ++ List.replicate (m - t) (zeros 32)
theorem upTo_zero (xs : List (List Nat)) (m : Nat) : (upTo xs m 0).flatten = zeros (32 * m) := by
  rw [upTo, List.take_zero, List.nil_append, Nat.sub_zero]
  unfold zeros
  rw [List.flatten_replicate_replicate, Nat.mul_comm]
theorem upTo_all (xs : List (List Nat)) (m : Nat) (h : xs.length = m) : upTo xs m m = xs := by
  rw [upTo, Nat.sub_self, List.replicate_zero, List.append_nil, List.take_of_length_le (by omega)]
theorem upTo_rts (xs : List (List Nat)) (m t : Nat) (h : Rts xs) : Rts (upTo xs m t) := by
  refine (h.take t).append ⟨fun r hr => ?_, fun r hr => ?_⟩
  · rw [(List.mem_replicate.1 hr).2]; exact zero_rt.len
  · rw [(List.mem_replicate.1 hr).2]; exact zero_rt.byte
theorem upTo_length (xs : List (List Nat)) (m t : Nat) (h : xs.length = m) (ht : t ≤ m) : (upTo xs m t).length = m := by
  rw [upTo, List.length_append, List.length_take, List.length_replicate]; omega
theorem upTo_next (xs : List (List Nat)) (m t : Nat) (hx : Rts xs) (h : xs.length = m) (ht : t < m) (r : List Nat) (e : r = xs.getD t []) : over (upTo xs m t).flatten (32 * t) r = (upTo xs m (t + 1)).flatten := by
  have hr : r.length = 32 := by rw [e]; exact (hx.at t (by omega)).1
  have hu := upTo_rts xs m t hx
  have hl := upTo_length xs m t h (by omega)
  have := flat_set (upTo xs m t) hu t (by omega) r hr
  rw [over, hr, ← List.append_assoc, this]
  congr 1
  rw [upTo, List.set_append, if_neg (by rw [List.length_take]; omega), List.length_take, show min t xs.length = t by omega, Nat.sub_self, show m - t = m - (t + 1) + 1 by omega, List.replicate_succ, List.set_cons_zero, upTo, List.take_add_one, List.append_assoc]
  rw [e]
  have : xs[t]? = some (xs.getD t []) := by simp [show t < xs.length by omega]
  rw [this]
  rfl
theorem upTo_flat (xs : List (List Nat)) (m t : Nat) (hx : Rts xs) (h : xs.length = m) (ht : t ≤ m) : (upTo xs m t).flatten.length = 32 * m := by
  rw [flat_length _ (upTo_rts xs m t hx), upTo_length xs m t h ht]

section
variable {P : Program} {w : World} {ops : Array Oper} {rest : List Oper} {o : Oper} {a : Act} {Q : Exit → Act → World → Prop}
theorem madeZ (n : Nat) : (madeCells (Value.agg (nums .u8 (zeros 32))).cells (n * 32)).toList = (zeros (32 * n)).map fun x : Nat => Value.int .u8 (x : Int) := by
  have e : (Value.agg (nums .u8 (zeros 32))).cells = nums .u8 (zeros 32) := rfl
  rw [e]
  apply List.ext_getElem?
  intro j
  unfold madeCells zeros
  rw [Array.toList_map, Array.toList_range, List.getElem?_map, List.getElem?_map, List.getElem?_replicate]
  by_cases hj : j < 32 * n
  · rw [if_pos hj, List.getElem?_range (by omega)]
    have h32 : j % 32 < 32 := Nat.mod_lt _ (by decide)
    have e2 : nums .u8 (List.replicate 32 0) = Array.replicate 32 (Value.int .u8 0) := rfl
    rw [e2]
    simp [h32]
  · rw [if_neg hj, List.getElem?_eq_none (by simp; omega)]
    rfl
/-- make: a new row of zero roots. -/
theorem wpList_make_roots (hgd : o.guard = none) (l c : Operand) (t : TypeId) (ho : o.op = Op.makeSlice t l c) (e : TypeId) (h1 : P.underlying t = some (.slice e))
    (hz : (P.info? e).map (fun i => (i.zero, i.size, i.bytes)) = some (some (.agg (nums .u8 (zeros 32))), 32, 32)) (kl kc : IntKind) (L C : Int) (n : Nat) (hl : a.eval l = .int kl L) (hc : a.eval c = .int kc C) (hL : L = (n : Int)) (hC : C = (n : Int)) (b2 : n ≤ 8796093022208)
    (h : ∀ w', Has w' w.heap.size e .u8 (zeros (32 * n)) → Below w.heap.size w w' → wpList P ops Q rest (a.put o.dst (.slice (some ⟨w.heap.size, 0, none⟩) n n)) w') : wpList P ops Q (o :: rest) a w := by
  obtain ⟨i0, hi, hz0, hz1, hz2⟩ : ∃ i, P.info? e = some i ∧ i.zero = some (.agg (nums .u8 (zeros 32))) ∧ i.size = 32 ∧ i.bytes = 32 := by
    cases hq : P.info? e with
    | none => simp [hq] at hz
    | some i => simp [hq] at hz; exact ⟨i, rfl, hz.1, hz.2.1, hz.2.2⟩
  refine wpList_make_full w hgd l c t ho w.heap.size e i0 (.agg (nums .u8 (zeros 32))) 32 h1 hi hz0 hz1 kl kc L C n hl hc hL hC (by rw [hz2]; omega) (by unfold maxLen; omega) (Nat.le_refl _) fun w' hown hgrow => ?_
  refine h w' ?_ ((Below.refl _ _).grown hgrow (Nat.le_refl _) (by simp))
  obtain ⟨hlen, ⟨hv, _⟩ | ⟨g, cap, cur, hv, hb, hg, hnc, hm, hcs, htk⟩⟩ := hown
  · cases hv
  · simp only [Value.slice.injEq, Option.some.injEq, Addr.mk.injEq] at hv
    obtain ⟨⟨hv1, _, _⟩, hv2, hv3⟩ := hv
    subst hv1
    subst hv3
    rw [List.take_of_length_le (by simp [hcs]), madeZ] at htk
    unfold Has
    rw [hg]
    have : cur = nums .u8 (zeros (32 * n)) := by
      apply Array.toList_inj.1
      rw [htk]
      simp [nums]
    rw [this]
/-- A root written into a row that was made. -/
theorem wpList_store_part (hgd : o.guard = none) (ty : TypeId) (x y : Operand) (ho : o.op = .store ty x y) (g i : Nat) (e : TypeId) (l r : List Nat) (hx : a.eval x = .pointer (some ⟨g, 32 * i, none⟩)) (hy : a.eval y = .agg (nums .u8 r))
    (hg : Has w g e .u8 l) (hr : r.length = 32) (hi : 32 * i + 32 ≤ l.length) (hs : (P.info? ty).map (·.size) = some 32)
    (h : ∀ w', Has w' g e .u8 (over l (32 * i) r) → Only g w w' → wpList P ops Q rest (a.put o.dst undef) w') : wpList P ops Q (o :: rest) a w := by
  obtain ⟨h1, h2, h3⟩ := hg.part (32 * i) r (by omega)
  exact wpList_store_mid hgd ty x y ho g (32 * i) (nums .u8 r) hx hy (by rw [nums_size]; exact h1) (by rw [hs, nums_size, hr]) (nums_one .u8 r) (h _ h2 h3)
end
/-- Two results, the first of them in an array of the call's own. -/
theorem results_cell_tmp {P : Program} {fn : Func} {p s : Tmp} {ty : TypeId} (h : fn.results = #[.cell p ty, .tmp s]) (tmps : Array Value) (w : World) (g : Nat) (t : TypeId) (k : IntKind) (l : List Nat) (n : Nat) (e : TypeId) (v : Value)
    (hp : tmps.getD p undef = .pointer (some ⟨g, 0, none⟩)) (hs : tmps.getD s undef = v) (hg : Has w g t k l) (hu : P.underlying ty = some (.array n e)) (hi : (P.info? ty).map (·.size) = some l.length) :
    (results fn tmps).run P w = .ok (.tuple #[.agg (nums k l), v]) w := by
  have hp' : tmps[p]?.getD undef = .pointer (some ⟨g, 0, none⟩) := by simpa using hp
  have hs' : tmps[s]?.getD undef = v := by simpa using hs
  simp [results, h, hp', hs', asAddr, run_loadVar_row w g t ty (nums k l) (0, 0) _ hg hu rfl (by rw [hi, nums_size])]
theorem results_tmp_cell {P : Program} {fn : Func} {p s : Tmp} {ty : TypeId} (h : fn.results = #[.tmp s, .cell p ty]) (tmps : Array Value) (w : World) (g : Nat) (t : TypeId) (k : IntKind) (l : List Nat) (n : Nat) (e : TypeId) (v : Value)
    (hp : tmps.getD p undef = .pointer (some ⟨g, 0, none⟩)) (hs : tmps.getD s undef = v) (hg : Has w g t k l) (hu : P.underlying ty = some (.array n e)) (hi : (P.info? ty).map (·.size) = some l.length) :
    (results fn tmps).run P w = .ok (.tuple #[v, .agg (nums k l)]) w := by
  have hp' : tmps[p]?.getD undef = .pointer (some ⟨g, 0, none⟩) := by simpa using hp
  have hs' : tmps[s]?.getD undef = v := by simpa using hs
  simp [results, h, hp', hs', asAddr, run_loadVar_row w g t ty (nums k l) (0, 0) _ hg hu rfl (by rw [hi, nums_size])]
theorem Tryz.rootInfo : (Tryz.prog.info? 23).map (fun i => (i.zero, i.size, i.bytes)) = some (some (.agg (nums .u8 (zeros 32))), 32, 32) := by kernel_rfl
end Go.Proofs.YtbmcmabimfoknaaGreatDoor
