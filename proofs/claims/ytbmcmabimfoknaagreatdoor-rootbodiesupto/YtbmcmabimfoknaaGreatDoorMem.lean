/- Rows of numbers in memory: what a local array holds, and what a step of the program does to it. -/
import Derived.Test.YtbmcmabimfoknaaGreatDoorRight
import Derived.Test.YtbmcmabimfoknaaGreatDoorRows
import Derived.WalkKit
import Derived.WalkLawsBesides
import Derived.Laws.Rows
import Derived.Laws.Tables
import Derived.Deep.QuietTactic
import Derived.Laws.CopyRow
import Derived.Laws.IdiomCopy
import Derived.Deep.RegionLaw
namespace Go.Proofs.YtbmcmabimfoknaaGreatDoor
set_option maxRecDepth 100000
open Go.RowKit
set_option linter.unusedVariables false

/-- Numbers of one kind, as cells. -/
def nums (k : IntKind) (l : List Nat) : Array Value := (l.map fun n : Nat => Value.int k (n : Int)).toArray
theorem nums_size (k : IntKind) (l : List Nat) : (nums k l).size = l.length := by simp [nums]
theorem nums_one (k : IntKind) (l : List Nat) : (nums k l).all (·.oneCell') = true := by simp [nums, Value.oneCell']
theorem nums_get (k : IntKind) (l : List Nat) (i : Nat) (h : i < l.length) : (nums k l)[i]? = some (.int k (l.getD i 0 : Nat)) := by
  simp [nums, h]
theorem nums_set (k : IntKind) (l : List Nat) (i n : Nat) : (nums k l).setIfInBounds i (.int k (n : Nat)) = nums k (l.set i n) := by
  simp [nums, List.map_set]
theorem nums_inj (k : IntKind) (l m : List Nat) (h : nums k l = nums k m) : l = m := by
  have := congrArg Array.toList h
  simp only [nums] at this
  clear h
  induction l generalizing m with
  | nil => cases m <;> simp_all
  | cons x l ih =>
    cases m with
    | nil => simp at this
    | cons y m =>
      simp only [List.map_cons, List.cons.injEq, Value.int.injEq, true_and] at this
      rw [ih m this.2, Int.ofNat_inj.1 this.1]

/-- The block b of the world w holds just these numbers. -/
def Has (w : World) (b : Nat) (t : TypeId) (k : IntKind) (l : List Nat) : Prop := w.heap[b]? = some (.cells (nums k l) t (0, 0))

/-- Nothing but the block g may have turned. -/
structure Only (g : Nat) (w w' : World) : Prop where
  os : w'.os = w.os
  tape : w'.tape = w.tape
  output : w'.output = w.output
  size : w'.heap.size = w.heap.size
  block : ∀ k, k ≠ g → w'.heap[k]? = w.heap[k]?

theorem Only.setCell (w : World) (g i : Nat) (v : Value) : Only g w (w.setCell ⟨g, i, none⟩ v) :=
  ⟨rfl, rfl, rfl, by simp [World.setCell], fun k hk => heap_setCell_other w ⟨g, i, none⟩ k v hk⟩
theorem Only.setRow (w : World) (g : Nat) (c : Array Value) : Only g w (w.setRow g c) :=
  ⟨rfl, rfl, rfl, by simp, fun k hk => setRow_other w g k c hk⟩
theorem Only.trans {g : Nat} {a b c : World} (h : Only g a b) (k : Only g b c) : Only g a c :=
  ⟨k.os.trans h.os, k.tape.trans h.tape, k.output.trans h.output, k.size.trans h.size, fun i hi => (k.block i hi).trans (h.block i hi)⟩
theorem below_only {B g : Nat} {a w w' : World} (h : Below B a w) (ho : Only g w w') (hg : B ≤ g) : Below B a w' :=
  h.trans ⟨ho.os, ho.tape, ho.output, by rw [ho.size]; exact Nat.le_refl _, fun k hk => ho.block k (by omega)⟩
theorem below_drewN {B : Nat} {a w : World} (h : Below B a w) (n : Nat) : Below B a (w.drewN n) :=
  h.trans ⟨rfl, rfl, rfl, Nat.le_refl _, fun _ _ => rfl⟩
theorem below_more {B : Nat} {a w w' : World} (h : Below B a w) (k : Below w.heap.size w w') (hB : B ≤ a.heap.size) : Below B a w' :=
  h.trans (k.mono (Nat.le_trans hB h.size))

theorem Has.lt {w : World} {b : Nat} {t : TypeId} {k : IntKind} {l : List Nat} (h : Has w b t k l) : b < w.heap.size := (Array.getElem?_eq_some_iff.1 h).1
theorem Has.cell {w : World} {b : Nat} {t : TypeId} {k : IntKind} {l : List Nat} (h : Has w b t k l) (i : Nat) (hi : i < l.length) : w.cell? ⟨b, i, none⟩ = some (.int k (l.getD i 0 : Nat)) := by
  rw [cell_of_row w b i _ t (0, 0) h]; exact nums_get k l i hi
theorem Has.frozen {w : World} {b : Nat} {t : TypeId} {k : IntKind} {l : List Nat} (h : Has w b t k l) (i : Nat) : w.frozen? ⟨b, i, none⟩ = false := frozen_of_row w b i _ t h
theorem Has.set {w : World} {b : Nat} {t : TypeId} {k : IntKind} {l : List Nat} (h : Has w b t k l) (i n : Nat) : Has (w.setCell ⟨b, i, none⟩ (.int k (n : Nat))) b t k (l.set i n) := by
  unfold Has; rw [heap_setCell_same w b i _ t _ h, nums_set]
theorem Has.keep {w w' : World} {b : Nat} {t : TypeId} {k : IntKind} {l : List Nat} (h : Has w b t k l) (hb : Below w.heap.size w w') : Has w' b t k l := by
  unfold Has; rw [hb.block b h.lt]; exact h
theorem Has.only {w w' : World} {b g : Nat} {t : TypeId} {k : IntKind} {l : List Nat} (h : Has w b t k l) (ho : Only g w w') (hg : b ≠ g) : Has w' b t k l := by
  unfold Has; rw [ho.block b hg]; exact h
theorem Has.drewN {w : World} {b : Nat} {t : TypeId} {k : IntKind} {l : List Nat} (h : Has w b t k l) (n : Nat) : Has (w.drewN n) b t k l := h
theorem Has.drew {w : World} {b : Nat} {t : TypeId} {k : IntKind} {l : List Nat} (h : Has w b t k l) : Has w.drew b t k l := h
theorem Has.back {w : World} {b n : Nat} {t : TypeId} {k : IntKind} {l : List Nat} (h : Has (w.drewN n) b t k l) : Has w b t k l := h

section
variable {P : Program} {w : World} {ops : Array Oper} {rest : List Oper} {o : Oper} {a : Act} {Q : Exit → Act → World → Prop}

/-- A new array, all zeros. -/
theorem wpList_alloc_has (hgd : o.guard = none) (d : Tmp) (hdst : o.dst = some d) (t : TypeId) (ho : o.op = .alloc t) (k : IntKind) (n : Nat)
    (hz : (P.info? t).map (fun i => (i.zero, i.size)) = some (some (.agg (nums k (zeros n))), n))
    (h : ∀ w', Has w' w.heap.size t k (zeros n) → Below w.heap.size w w' → w'.heap.size = w.heap.size + 1 → wpList P ops Q rest (a.put (some d) (.pointer (some ⟨w.heap.size, 0, none⟩))) w') :
    wpList P ops Q (o :: rest) a w := by
  refine wpList_plain hgd fun K hK => ?_
  have hzv : ∀ w, (zeroValue t).run P w = .ok (.agg (nums k (zeros n))) w := by
    intro w
    cases hq : P.info? t with
    | none => simp [hq] at hz
    | some i => simp [hq] at hz; simp [zeroValue, typeInfo, hq, hz.1]
  have := h (w.alloc (.cells (nums k (zeros n)) t)) (heap_alloc_new w _) ((Below.refl _ _).alloc (Nat.le_refl _) _) (by simp)
  unfold Oper.wp
  simp only [execOp, ho, Instr.alloc]
  simp [hzv, newVar, newRow, newObj, Value.cells, go_sem]
  rw [← hdst] at this
  exact hK _ _ this

/-- A copy of an array that came by value. -/
theorem wpList_box_has (hgd : o.guard = none) (d : Tmp) (hdst : o.dst = some d) (t : TypeId) (x : Operand) (ho : o.op = .box t x) (k : IntKind) (l : List Nat) (hx : a.eval x = .agg (nums k l))
    (h : ∀ w', Has w' w.heap.size t k l → Below w.heap.size w w' → w'.heap.size = w.heap.size + 1 → wpList P ops Q rest (a.put (some d) (.pointer (some ⟨w.heap.size, 0, none⟩))) w') :
    wpList P ops Q (o :: rest) a w := by
  refine wpList_plain hgd fun K hK => ?_
  have := h (w.alloc (.cells (nums k l) t)) (heap_alloc_new w _) ((Below.refl _ _).alloc (Nat.le_refl _) _) (by simp)
  unfold Oper.wp
  simp only [execOp, ho, hx, Instr.box]
  simp [newVar, newRow, newObj, Value.cells, go_sem]
  rw [← hdst] at this
  exact hK _ _ this

/-- A whole array stored over another. -/
theorem wpList_store_has (hgd : o.guard = none) (ty : TypeId) (x y : Operand) (ho : o.op = .store ty x y) (g : Nat) (k : IntKind) (l old : List Nat) (hx : a.eval x = .pointer (some ⟨g, 0, none⟩)) (hy : a.eval y = .agg (nums k l))
    (t : TypeId) (hg : Has w g t k old) (hi : (P.info? ty).map (·.size) = some l.length) (hl : old.length = l.length)
    (h : ∀ w', Has w' g t k l → Only g w w' → wpList P ops Q rest (a.put o.dst undef) w') : wpList P ops Q (o :: rest) a w := by
  refine wpList_store_row hgd ty x y ho g (nums k l) hx hy t (nums k old) hg (by rw [hi, nums_size]) (by rw [nums_size, nums_size, hl]) (nums_one k l) ?_
  exact h _ (setRow_heap w g _ _ t _ hg) (Only.setRow w g _)

/-- A whole array read. -/
theorem wpList_load_has (hgd : o.guard = none) (ty : TypeId) (x : Operand) (ho : o.op = .load ty x) (g : Nat) (k : IntKind) (l : List Nat) (hx : a.eval x = .pointer (some ⟨g, 0, none⟩))
    (t : TypeId) (hg : Has w g t k l) (n : Nat) (e : TypeId) (hu : P.underlying ty = some (.array n e)) (hi : (P.info? ty).map (·.size) = some l.length)
    (h : wpList P ops Q rest (a.put o.dst (.agg (nums k l))) w) : wpList P ops Q (o :: rest) a w :=
  wpList_load_row hgd ty x ho g hx t (nums k l) (0, 0) _ hg hu rfl (by rw [hi, nums_size]) h

/-- make: a new row of zeros. -/
theorem wpList_make_has (hgd : o.guard = none) (l c : Operand) (t : TypeId) (ho : o.op = Op.makeSlice t l c) (e : TypeId) (k : IntKind) (h1 : P.underlying t = some (.slice e))
    (hz : (P.info? e).map (fun i => (i.zero, i.size, i.bytes)) = some (some (.int k 0), 1, 1)) (kl kc : IntKind) (L C : Int) (n : Nat) (hl : a.eval l = .int kl L) (hc : a.eval c = .int kc C) (hL : L = (n : Int)) (hC : C = (n : Int)) (b2 : n ≤ 281474976710656)
    (h : ∀ w', Has w' w.heap.size e k (zeros n) → Below w.heap.size w w' → wpList P ops Q rest (a.put o.dst (.slice (some ⟨w.heap.size, 0, none⟩) n n)) w') : wpList P ops Q (o :: rest) a w := by
  obtain ⟨i0, hi, hz0, hz1, hz2⟩ : ∃ i, P.info? e = some i ∧ i.zero = some (.int k 0) ∧ i.size = 1 ∧ i.bytes = 1 := by
    cases hq : P.info? e with
    | none => simp [hq] at hz
    | some i => simp [hq] at hz; exact ⟨i, rfl, hz.1, hz.2.1, hz.2.2⟩
  refine wpList_make_full w hgd l c t ho w.heap.size e i0 (.int k 0) 1 h1 hi hz0 hz1 kl kc L C n hl hc hL hC (by rw [hz2]; omega) (by unfold maxLen; omega) (Nat.le_refl _) fun w' hown hgrow => ?_
  refine h w' ?_ ((Below.refl _ _).grown hgrow (Nat.le_refl _) (by simp))
  obtain ⟨hlen, ⟨hv, _⟩ | ⟨g, cap, cur, hv, hb, hg, hnc, hm, hcs, htk⟩⟩ := hown
  · cases hv
  · simp only [Value.slice.injEq, Option.some.injEq, Addr.mk.injEq] at hv
    obtain ⟨⟨hv1, _, _⟩, hv2, hv3⟩ := hv
    subst hv1
    subst hv3
    rw [Nat.mul_one, List.take_of_length_le (by simp [hcs])] at htk
    have e : (madeCells (Value.int k 0).cells n).toList = (zeros n).map fun x : Nat => Value.int k (x : Int) := by
      rw [show (Value.int k 0).cells = #[.int k 0] from rfl, toList_madeCells_one]
      unfold zeros
      rw [List.map_replicate]; rfl
    unfold Has
    rw [hg]
    have : cur = nums k (zeros n) := by
      apply Array.toList_inj.1
      rw [htk, e]
      simp [nums]
    rw [this]

/-- A whole array read, of which the cells alone are known. -/
theorem wpList_load_cells (hgd : o.guard = none) (ty : TypeId) (x : Operand) (ho : o.op = .load ty x) (g : Nat) (k : IntKind) (l : List Nat) (hx : a.eval x = .pointer (some ⟨g, 0, none⟩))
    (hc : ∀ i, i < l.length → w.cell? ⟨g, i, none⟩ = some (.int k (l.getD i 0 : Nat))) (n : Nat) (e : TypeId) (hu : P.underlying ty = some (.array n e)) (hi : (P.info? ty).map (·.size) = some l.length)
    (h : wpList P ops Q rest (a.put o.dst (.agg (nums k l))) w) : wpList P ops Q (o :: rest) a w := by
  refine wpList_plain hgd fun K hK => ?_
  have hl : (loadCells ⟨g, 0, none⟩ (nums k l).toList.length).run P w = .ok (nums k l).toList.toArray w :=
    run_loadCells_list (P := P) w ⟨g, 0, none⟩ (nums k l).toList (fun j v hv => by
      have hj : j < l.length := by
        by_cases hj : j < l.length
        · exact hj
        · rw [List.getElem?_eq_none (by simp [nums]; omega)] at hv; cases hv
      rw [Addr.add_lit, Nat.zero_add, hc j hj, ← nums_get k l j hj]
      simpa using hv)
  have hrun : (loadVar ty ⟨g, 0, none⟩).run P w = .ok (.agg (nums k l)) w := by
    cases hq : P.info? ty with
    | none => simp [hq] at hi
    | some i =>
      have hs : i.size = (nums k l).size := by rw [nums_size]; simpa [hq] using hi
      have hagg : (isAgg ty).run P w = .ok true w := by
        unfold isAgg
        rw [Sem.run_bind, run_underlying hu w]
        simp
      simp only [Array.length_toList, Array.toArray_toList] at hl
      simp [loadVar, Sem.run_bind, hagg, sizeOf, typeInfo, hq, hs, hl]
  unfold Oper.wp execOp
  simp only [ho, hx, Instr.loadAt, Instr.sureAddr, Sem.run_bind, Sem.run_pure, Result.andThen_ok, hrun]
  exact hK _ _ h

theorem run_copy_has (dT sT ty elem : TypeId) (hu : P.underlying dT = some (.slice elem)) (hsz : (P.info? elem).map (·.size) = some 1)
    (dp sp : Option Addr) (dLen dCap sLen sCap : Nat) (g off : Nat) (k : IntKind) (l : List Nat) (t : TypeId) (hg : Has w g t k l) (cs : List Nat) (hn : cs.length = Nat.min sLen dLen)
    (hpos : 0 < cs.length → dp = some ⟨g, off, none⟩ ∧ ∃ ad, sp = some ad ∧ ∀ j, j < cs.length → w.cell? (ad.add j) = some (.int k (cs.getD j 0 : Nat))) (hfit : off + cs.length ≤ l.length) :
    ∃ w', (Builtin.copy_ #[dT, sT] ty #[.slice dp dLen dCap, .slice sp sLen sCap]).run P w = .ok (goInt cs.length) w' ∧ Has w' g t k (over l off cs) ∧ Only g w w' := by
  by_cases h0 : cs.length = 0
  · obtain rfl : cs = [] := List.eq_nil_of_length_eq_zero h0
    exact ⟨w, run_copy_none (P := P) w dT sT ty elem dp sp dLen dCap sLen sCap hu hsz (by simpa using hn.symm), by simpa [over] using hg, ⟨rfl, rfl, rfl, rfl, fun _ _ => rfl⟩⟩
  · obtain ⟨rfl, ad, rfl, hsrc⟩ := hpos (by omega)
    have hrun := run_copy_row (P := P) w dT sT ty elem g off dLen dCap ad sLen sCap (nums k l) t (cs.map fun n : Nat => Value.int k (n : Int)) hu hsz hg (by simpa using hn) (fun j v hv => by
      have hj : j < cs.length := by
        by_cases hj : j < cs.length
        · exact hj
        · simp [hj] at hv
      rw [hsrc j hj]; simpa [hj] using hv) (by rw [nums_size]; simpa using hfit) (fun v hv => by simp at hv; obtain ⟨n, _, rfl⟩ := hv; rfl)
    have e : ((nums k l).toList.take off ++ ((cs.map fun n : Nat => Value.int k (n : Int)) ++ (nums k l).toList.drop (off + (cs.map fun n : Nat => Value.int k (n : Int)).length))).toArray = nums k (over l off cs) := by
      simp [nums, over, List.map_take, List.map_drop]
    rw [List.append_assoc, e] at hrun
    exact ⟨_, by simpa using hrun, setRow_heap w g _ _ t _ hg, Only.setRow w g _⟩

/-- copy, into an array of the call's own. -/
theorem wpList_copy_has (hgd : o.guard = none) (d s : Operand) (dT sT : TypeId) (ho : o.op = .call { callee := .builtin .copy, args := #[d, s], argTypes := #[dT, sT] })
    (elem : TypeId) (hu : P.underlying dT = some (.slice elem)) (hsz : (P.info? elem).map (·.size) = some 1)
    (dp sp : Option Addr) (dLen dCap sLen sCap : Nat) (hd : a.eval d = .slice dp dLen dCap) (hs : a.eval s = .slice sp sLen sCap) (g off : Nat) (k : IntKind) (l : List Nat) (t : TypeId) (hg : Has w g t k l) (cs : List Nat) (hn : cs.length = Nat.min sLen dLen)
    (hpos : 0 < cs.length → dp = some ⟨g, off, none⟩ ∧ ∃ ad, sp = some ad ∧ ∀ j, j < cs.length → w.cell? (ad.add j) = some (.int k (cs.getD j 0 : Nat))) (hfit : off + cs.length ≤ l.length)
    (h : ∀ w', Has w' g t k (over l off cs) → Only g w w' → wpList P ops Q rest (a.put o.dst (goInt cs.length)) w') : wpList P ops Q (o :: rest) a w := by
  refine wpList_plain hgd fun K hK => ?_
  obtain ⟨w', hrun, h1, h2⟩ := run_copy_has (P := P) (w := w) dT sT o.type elem hu hsz dp sp dLen dCap sLen sCap g off k l t hg cs hn hpos hfit
  unfold Oper.wp
  simp [execOp, ho, resolve, invoke, builtin, hd, hs, hrun, Result.andThen]
  exact hK _ _ (h w' h1 h2)
theorem step_copy_has {K : Act → World → Prop} {E : Prop} (hgd : o.guard = none) (d s : Operand) (dT sT : TypeId) (ho : o.op = .call { callee := .builtin .copy, args := #[d, s], argTypes := #[dT, sT] })
    (elem : TypeId) (hu : P.underlying dT = some (.slice elem)) (hsz : (P.info? elem).map (·.size) = some 1)
    (dp sp : Option Addr) (dLen dCap sLen sCap : Nat) (hd : a.eval d = .slice dp dLen dCap) (hs : a.eval s = .slice sp sLen sCap) (g off : Nat) (k : IntKind) (l : List Nat) (t : TypeId) (hg : Has w g t k l) (cs : List Nat) (hn : cs.length = Nat.min sLen dLen)
    (hpos : 0 < cs.length → dp = some ⟨g, off, none⟩ ∧ ∃ ad, sp = some ad ∧ ∀ j, j < cs.length → w.cell? (ad.add j) = some (.int k (cs.getD j 0 : Nat))) (hfit : off + cs.length ≤ l.length)
    (h : ∀ w', Has w' g t k (over l off cs) → Only g w w' → K (a.put o.dst (goInt cs.length)) w') :
    if Region.wanted o (yielded ops a.tmps) = true then Oper.wp P o a w K Q else E := by
  have hw : Region.wanted o (yielded ops a.tmps) = true := by simp [Region.wanted, hgd]
  rw [if_pos hw]
  obtain ⟨w', hrun, h1, h2⟩ := run_copy_has (P := P) (w := w) dT sT o.type elem hu hsz dp sp dLen dCap sLen sCap g off k l t hg cs hn hpos hfit
  unfold Oper.wp
  simp [execOp, ho, resolve, invoke, builtin, hd, hs, hrun, Result.andThen]
  exact h w' h1 h2
end

/-- A result that lies in an array of the call's own. -/
theorem results_has {P : Program} {fn : Func} {p : Tmp} {ty : TypeId} (h : fn.results = #[.cell p ty]) (tmps : Array Value) (w : World) (g : Nat) (t : TypeId) (k : IntKind) (l : List Nat) (n : Nat) (e : TypeId)
    (hp : tmps.getD p undef = .pointer (some ⟨g, 0, none⟩)) (hg : Has w g t k l) (hu : P.underlying ty = some (.array n e)) (hi : (P.info? ty).map (·.size) = some l.length) :
    (results fn tmps).run P w = .ok (.agg (nums k l)) w :=
  results_cell_row h tmps w g t (nums k l) (0, 0) _ hp hg hu rfl (by rw [hi, nums_size])
/-- A callee that draws nothing, met behind some draws. -/
theorem quiet_same {P : Program} {f : FuncId} {args : Array Value} {w : World} {q n : Nat} {v : Value}
    (h : Calls P f args (w.drewN (q + n)) fun e w' => e = .returned v ∧ w' = w.drewN (q + n)) : Calls P f args (w.drewN (q + n)) fun e w'' => e = .returned v ∧ ∃ m, w'' = w.drewN (q + m) :=
  h.mono fun _ _ ⟨he, hm⟩ => ⟨he, n, hm⟩
/-- A callee that draws. -/
theorem quiet_some {P : Program} {f : FuncId} {args : Array Value} {w : World} {q n : Nat} {v : Value}
    (h : Calls P f args (w.drewN (q + n)) fun e w' => e = .returned v ∧ ∃ m, w' = (w.drewN (q + n)).drewN m) : Calls P f args (w.drewN (q + n)) fun e w'' => e = .returned v ∧ ∃ m, w'' = w.drewN (q + m) :=
  h.mono fun _ _ ⟨he, m, hm⟩ => ⟨he, n + m, by rw [hm, World.drewN_drewN, Nat.add_assoc]⟩
end Go.Proofs.YtbmcmabimfoknaaGreatDoor
