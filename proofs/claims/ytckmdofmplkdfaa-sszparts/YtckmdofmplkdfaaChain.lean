/- ssz's chain of fields: a list that grows at its end, and all of it in order. -/
import Derived.Test.YtckmdofmplkdfaaIter
namespace Go.Proofs.Ytckmdofmplkdfaa
open Go.RowKit Go.Shelf
set_option linter.unusedVariables false

/-- A field: its bytes' slice, and whether it is of any size. -/
structure Fl where
  ao : Option Addr
  n : Nat
  cap : Nat
  any : Bool
abbrev Fl.cells (f : Fl) : List Value := [.slice f.ao f.n f.cap, .bool f.any]
/-- A chain from a link on, the last value first; its links lie in S. -/
def Chn (S : Nat → Prop) (w : World) : Value → List Fl → Prop
  | p, [] => p = .pointer none
  | p, f :: rs => ∃ b q, p = .pointer (some ⟨b, 0, none⟩) ∧ S b ∧ w.heap[b]? = some (.cells #[.pointer q, .slice f.ao f.n f.cap, .bool f.any] 91 (0, 0)) ∧ Chn S w (.pointer q) rs
theorem Chn.keepS {S : Nat → Prop} {w w' : World} (hk : ∀ k, S k → k < w.heap.size → w'.heap[k]? = w.heap[k]?) : ∀ {rs : List Fl} {p : Value}, Chn S w p rs → Chn S w' p rs
  | [], _, h => h
  | f :: rs, _, h => by
    obtain ⟨b, q, rfl, hS, hb, hr⟩ := h
    exact ⟨b, q, rfl, hS, (hk b hS (Array.getElem?_eq_some_iff.1 hb).1).trans hb, Chn.keepS hk hr⟩
theorem Chn.mono {S T : Nat → Prop} {w : World} (hST : ∀ k, S k → T k) : ∀ {rs : List Fl} {p : Value}, Chn S w p rs → Chn T w p rs
  | [], _, h => h
  | f :: rs, _, h => by
    obtain ⟨b, q, rfl, hS, hb, hr⟩ := h
    exact ⟨b, q, rfl, hST b hS, hb, Chn.mono hST hr⟩
theorem Chn.ptr {S : Nat → Prop} {w : World} : ∀ {rs : List Fl} {p : Value}, Chn S w p rs → ∃ q, p = .pointer q
  | [], _, h => ⟨none, h⟩
  | f :: rs, _, h => by obtain ⟨b, q, rfl, _⟩ := h; exact ⟨_, rfl⟩

/-- Rows of elements of s cells each. -/
theorem flat_get {α : Type} (enc : α → List Value) (s : Nat) (hs : ∀ x, (enc x).length = s) : ∀ (fs : List α) (i j : Nat), j < s → (fs.flatMap enc)[i * s + j]? = (fs[i]?).bind fun x => (enc x)[j]?
  | [], i, j, _ => by simp
  | f :: fs, 0, j, hj => by
    rw [List.flatMap_cons, Nat.zero_mul, Nat.zero_add, List.getElem?_append_left (by rw [hs]; exact hj)]
    simp
  | f :: fs, i + 1, j, hj => by
    rw [List.flatMap_cons, List.getElem?_append_right (by rw [hs, Nat.add_mul]; omega), hs, show (i + 1) * s + j - s = i * s + j by rw [Nat.add_mul]; omega, flat_get enc s hs fs i j hj]
    simp
theorem flat_len {α : Type} (enc : α → List Value) (s : Nat) (hs : ∀ x, (enc x).length = s) : ∀ fs : List α, (fs.flatMap enc).length = fs.length * s
  | [] => by simp
  | f :: fs => by rw [List.flatMap_cons, List.length_append, hs, flat_len enc s hs fs, List.length_cons, Nat.add_mul]; omega
theorem flat_ext {α : Type} (enc : α → List Value) (s : Nat) (h0 : 0 < s) (hs : ∀ x, (enc x).length = s) (fs : List α) (c : Array Value) (hc : c.size = fs.length * s) (h : ∀ i j, i < fs.length → j < s → c[i * s + j]? = (fs[i]?).bind fun x => (enc x)[j]?) : c = (fs.flatMap enc).toArray := by
  apply Array.ext_getElem?
  intro q
  have e : (fs.flatMap enc).toArray[q]? = (fs.flatMap enc)[q]? := by simp
  rw [e]
  by_cases hq : q < fs.length * s
  · have hd := Nat.div_add_mod q s
    rw [Nat.mul_comm] at hd
    have hm := Nat.mod_lt q h0
    have hi : q / s < fs.length := Nat.div_lt_of_lt_mul (by rw [Nat.mul_comm]; exact hq)
    have := h (q / s) (q % s) hi hm
    rw [← flat_get enc s hs fs _ _ hm, hd] at this
    exact this
  · rw [Array.getElem?_eq_none (by omega), List.getElem?_eq_none (by rw [flat_len enc s hs]; omega)]
def flds (fs : List Fl) : Array Value := (fs.flatMap Fl.cells).toArray

set_option maxRecDepth 100000 in
set_option maxHeartbeats 1000000 in
/-- chain.with: one more link, in new memory. -/
theorem withF_any (k : Nat) (q : Option Addr) (f : Fl) (w : World) (hk : k ≤ 2147483647) :
    Calls Try.prog 40 #[.agg #[.int .i64 (k : Nat), .pointer q], .agg #[.slice f.ao f.n f.cap, .bool f.any]] w fun e w' =>
      ∃ b, w.heap.size ≤ b ∧ e = .returned (.agg #[.int .i64 ((k + 1 : Nat) : Nat), .pointer (some ⟨b, 0, none⟩)]) ∧ w'.heap[b]? = some (.cells #[.pointer q, .slice f.ao f.n f.cap, .bool f.any] 91 (0, 0)) ∧ Below w.heap.size w w' := by
  obtain ⟨ao, n, cap, any⟩ := f
  go_enter Try.func40, Try.ntmps40
  go_wp2
  refine bodyPost_ret (v := .agg #[.int .i64 ((k : Int) + 1), .pointer (some ⟨w.heap.size + 1 + 1 + 1, 0, none⟩)]) (by simp [results, Try.results40, go_sem]) rfl ?_
  refine ⟨w.heap.size + 1 + 1 + 1, by omega, by go_num, ?_, ?_⟩
  rotate_left
  · exact ((((Below.refl _ w).alloc (Nat.le_refl _) _).alloc (Nat.le_of_lt (by simp)) _).alloc (by rw [World.size_alloc, World.size_alloc]; omega) _).alloc (by rw [World.size_alloc, World.size_alloc, World.size_alloc]; omega) _
  have := heap_alloc_new (((w.alloc (Obj.cells #[Value.int IntKind.i64 ↑k, Value.pointer q] 45)).alloc (Obj.cells #[Value.slice ao n cap, Value.bool any] 67)).alloc (Obj.cells #[Value.int IntKind.i64 (↑k + 1), Value.pointer (some { block := w.heap.size + 1 + 1 + 1, off := 0 })] 45)) (Obj.cells #[Value.pointer q, Value.slice ao n cap, Value.bool any] 91)
  simpa using this

section
attribute [local go_sem] Oper.semAt_some
theorem Try.info67 : (Try.prog.info? 67).map (fun i => (i.zero, i.size, i.bytes)) = some (some (.agg #[.slice none 0 0, .bool false]), 2, 32) := by kernel_rfl

/-- make, all cells told. -/
theorem wpListIn_make_at {F : Fence} {n : Nat} {P : Program} (w : World) {ops : Array Oper} {rest : List Oper} {o : Oper} {a : Act} {Q : Exit → Act → World → Prop}
    (hg : o.guard = none) (l c : Operand) (t : TypeId) (hop : o.op = Op.makeSlice t l c)
    (e : TypeId) (i : TypeInfo) (z : Value) (h1 : P.underlying t = some (.slice e)) (h2 : P.info? e = some i) (h3 : i.zero = some z)
    (kl kc : IntKind) (L C : Int) (m : Nat) (hl : a.eval l = .int kl L) (hc : a.eval c = .int kc C) (hL : L = (m : Int)) (hC : C = (m : Int)) (b2 : i.bytes * m ≤ 281474976710656) (b3 : m ≤ maxLen)
    (hK : ∀ c0 : Array Value, c0.size = m * i.size → wpListIn F n P ops Q rest (a.put o.dst (.slice (some ⟨w.heap.size, 0, none⟩) m m)) (w.alloc (.cells c0 e))) :
    wpListIn F n P ops Q (o :: rest) a w := by
  refine wpListIn_plain hg fun K hK' => ?_
  subst hL
  subst hC
  have hrun := run_make (P := P) w t e i z h1 h2 h3 kl kc (m : Int) (m : Int) (by omega) (by omega) (by have h := Int.ofNat_le.2 b2; rw [Int.natCast_mul] at h; exact h) (by unfold maxLen at b3; omega)
  simp only [Int.toNat_natCast] at hrun
  have := hK _ (size_madeCells z.cells (m * i.size))
  unfold Oper.wpIn
  refine ⟨?_, ?_⟩
  · simp [Oper.about, hop]
  · rw [Oper.semAt_plain F _ _ (by rw [hop]; intro c hc'; cases hc')]
    simp [execOp, hop, hl, hc, hrun, Result.andThen]
    exact hK' _ _ this
/-- A block of cells abides the turn of what is no cells. -/
theorem heap_kept {W W' : World} {row : Option Nat} {b : Nat} {c : Array Value} {t : TypeId} {z : Nat × Nat} (h : W.heap[b]? = some (.cells c t z)) (hg : W.grownBy W' row) (hr : ∀ r, row = some r → ∃ o : Obj, W.heap[r]? = some o ∧ o.isCells = false) : W'.heap[b]? = some (.cells c t z) := by
  refine (hg.block b (Array.getElem?_eq_some_iff.1 h).1 (fun e => ?_)).trans h
  obtain ⟨o, ho, hc⟩ := hr b e.symm
  rw [h] at ho
  cases ho
  cases hc

set_option maxRecDepth 100000 in
set_option maxHeartbeats 1000000 in
theorem backMakeF (n : Nat) (ao : Option Addr) (len cap : Nat) (w : World) :
    CallsIn Fence.wide n Try.prog 41 #[.slice ao len cap] w fun e w' => e = .returned (.func (.func 43) #[] #[.pointer (some ⟨w.heap.size, 0, none⟩)]) ∧ w' = w.alloc (.cells #[.slice ao len cap] 69) := by
  refine callsIn_of_wp Try.func41 rfl trivial ?_ rfl
  simp only [Try.ntmps41, List.size_toArray, List.length_cons, List.length_nil, Nat.reduceAdd, Nat.reduceSub, Array.replicate_succ, Array.replicate_zero, List.push_toArray, List.append_toArray, List.nil_append, List.cons_append]
  gi_wp2
  go_ret
  exact ⟨rfl, rfl⟩

/-- What the row of fields holds when some places have come. -/
def Put (rs : List Fl) (n : Nat) (pre : List (At n)) (c : Array Value) : Prop :=
  c.size = n * 2 ∧ (Down n pre.length pre → ∀ j, j < pre.length → ∀ q, q < 2 → c[(n - 1 - j) * 2 + q]? = (rs[j]?).bind fun f => f.cells[q]?)

theorem Down.last {n : Nat} {pre : List (At n)} {x : At n} (h : Down n (pre ++ [x]).length (pre ++ [x])) : Down n pre.length pre ∧ x.1.1 = n - 1 - pre.length := by
  unfold Down at h
  rw [List.map_append, List.length_append, List.length_singleton, List.range_succ, List.map_append] at h
  obtain ⟨h1, h2⟩ := List.append_inj' h rfl
  exact ⟨h1, by simpa using h2⟩
theorem Put.snoc {rs : List Fl} {n : Nat} {pre : List (At n)} {c : Array Value} (h : Put rs n pre c) (hlt : pre.length < n) (x : At n) (i : Nat) (hxi : x.1.1 = i) (f : Fl) (hf : rs[pre.length]? = some f) :
    Put rs n (pre ++ [x]) ((c.setIfInBounds (i * 2) (.slice f.ao f.n f.cap)).setIfInBounds (i * 2 + 1) (.bool f.any)) := by
  refine ⟨by simpa using h.1, fun hd j hj q hq => ?_⟩
  obtain ⟨h1, h2⟩ := hd.last
  have hs := h.1
  rw [List.length_append, List.length_singleton] at hj
  rw [Array.getElem?_setIfInBounds, Array.getElem?_setIfInBounds]
  simp only [Array.size_setIfInBounds]
  by_cases e : j = pre.length
  · subst e
    rw [hf]
    have hq' : q = 0 ∨ q = 1 := by omega
    rcases hq' with rfl | rfl
    · rw [if_neg (by omega), if_pos (by omega), if_pos (by omega)]; rfl
    · rw [if_pos (by omega), if_pos (by omega)]; rfl
  · rw [if_neg (by omega), if_neg (by omega)]
    exact h.2 h1 j (by omega) q hq
theorem Put.all {rs : List Fl} {ys : List (At rs.length)} {c : Array Value} (h : Put rs rs.length ys c) (hd : Down rs.length rs.length ys) : c = flds rs.reverse := by
  have hl := hd.length
  refine flat_ext Fl.cells 2 (by decide) (fun _ => rfl) rs.reverse c (by simpa using h.1) (fun i j hi hj => ?_)
  rw [List.length_reverse] at hi
  have := h.2 (by rw [hl]; exact hd) (rs.length - 1 - i) (by omega) j hj
  rw [show rs.length - 1 - (rs.length - 1 - i) = i by omega] at this
  rw [this, List.getElem?_reverse hi]

set_option maxRecDepth 100000 in
set_option maxHeartbeats 2000000 in
/-- chain.all: the values in the order in which they came. -/
theorem allF_in (rs : List Fl) (p : Option Addr) (w : World) (hl : rs.length ≤ 2147483647) (hC : Chn (fun _ => True) w (.pointer p) rs) :
    CallsIn Fence.wide 5 Try.prog 29 #[.agg #[.int .i64 (rs.length : Nat), .pointer p]] w fun e w' =>
      ∃ g, w.heap.size ≤ g ∧ e = .returned (.slice (some ⟨g, 0, none⟩) rs.length rs.length) ∧ w'.heap[g]? = some (.cells (flds rs.reverse) 67 (0, 0)) ∧ Below w.heap.size w w' := by
  obtain ⟨i0, hi, hz0, hz1, hz2⟩ := info_parts Try.info67
  have hn : rs.length ≤ maxLen := by unfold maxLen; omega
  have hn2 : i0.bytes * rs.length ≤ 281474976710656 := by rw [hz2]; omega
  refine callsIn_of_wp_marks Try.func29 rfl trivial ?_ rfl
  simp only [Try.ntmps29, List.size_toArray, List.length_cons, List.length_nil, Nat.reduceAdd, Nat.reduceSub, Array.replicate_succ, Array.replicate_zero, List.push_toArray, List.append_toArray, List.nil_append, List.cons_append]
  gi_wp2_with (first
    | (gi_at_make; refine wpListIn_make_at _ rfl _ _ 69 rfl 67 i0 _ Try.underlying69 hi hz0 .i64 .i64 _ _ rs.length rfl rfl rfl rfl hn2 hn ?_; intro c0 hc0)
    | (refine ⟨trivial, ?_⟩; gi_at_call 41; refine (backMakeF _ _ _ _ _).mono ?_; rintro e w' ⟨rfl, rfl⟩))
  have hc1 := hz1 ▸ hc0
  have S0 : (((((w.alloc (Obj.cells #[Value.int IntKind.i64 ↑rs.length, Value.pointer p] 45)).alloc (Obj.cells c0 67)).alloc (Obj.cells #[Value.slice (some { block := w.heap.size + 1, off := 0 }) rs.length rs.length] 69)).alloc (Obj.cells #[Value.pointer p] 43)).alloc (Obj.cells #[Value.slice (some { block := w.heap.size + 1, off := 0 }) rs.length rs.length] 69)).heap.size = w.heap.size + 5 := by simp
  have L0 : Below w.heap.size w (((((w.alloc (Obj.cells #[Value.int IntKind.i64 ↑rs.length, Value.pointer p] 45)).alloc (Obj.cells c0 67)).alloc (Obj.cells #[Value.slice (some { block := w.heap.size + 1, off := 0 }) rs.length rs.length] 69)).alloc (Obj.cells #[Value.pointer p] 43)).alloc (Obj.cells #[Value.slice (some { block := w.heap.size + 1, off := 0 }) rs.length rs.length] 69)) :=
    (((((Below.refl _ w).alloc (Nat.le_refl _) _).alloc (by rw [World.size_alloc]; omega) _).alloc (by rw [World.size_alloc, World.size_alloc]; omega) _).alloc (by rw [World.size_alloc, World.size_alloc, World.size_alloc]; omega) _).alloc (by rw [World.size_alloc, World.size_alloc, World.size_alloc, World.size_alloc]; omega) _
  have V0 : Boxed (((((w.alloc (Obj.cells #[Value.int IntKind.i64 ↑rs.length, Value.pointer p] 45)).alloc (Obj.cells c0 67)).alloc (Obj.cells #[Value.slice (some { block := w.heap.size + 1, off := 0 }) rs.length rs.length] 69)).alloc (Obj.cells #[Value.pointer p] 43)).alloc (Obj.cells #[Value.slice (some { block := w.heap.size + 1, off := 0 }) rs.length rs.length] 69)) (w.heap.size + 2) 69 (.slice (some ⟨w.heap.size + 1, 0, none⟩) rs.length rs.length) := by
    have := ((Boxed.new ((w.alloc (Obj.cells #[Value.int IntKind.i64 ↑rs.length, Value.pointer p] 45)).alloc (Obj.cells c0 67)) 69 (.slice (some ⟨w.heap.size + 1, 0, none⟩) rs.length rs.length)).alloc (Obj.cells #[Value.pointer p] 43)).alloc (Obj.cells #[Value.slice (some { block := w.heap.size + 1, off := 0 }) rs.length rs.length] 69)
    simpa using this
  have A0 : Boxed (((((w.alloc (Obj.cells #[Value.int IntKind.i64 ↑rs.length, Value.pointer p] 45)).alloc (Obj.cells c0 67)).alloc (Obj.cells #[Value.slice (some { block := w.heap.size + 1, off := 0 }) rs.length rs.length] 69)).alloc (Obj.cells #[Value.pointer p] 43)).alloc (Obj.cells #[Value.slice (some { block := w.heap.size + 1, off := 0 }) rs.length rs.length] 69)) (w.heap.size + 3) 43 (.pointer p) := by
    have := (Boxed.new (((w.alloc (Obj.cells #[Value.int IntKind.i64 ↑rs.length, Value.pointer p] 45)).alloc (Obj.cells c0 67)).alloc (Obj.cells #[Value.slice (some { block := w.heap.size + 1, off := 0 }) rs.length rs.length] 69)) 43 (.pointer p)).alloc (Obj.cells #[Value.slice (some { block := w.heap.size + 1, off := 0 }) rs.length rs.length] 69)
    simpa using this
  have B0 : Boxed (((((w.alloc (Obj.cells #[Value.int IntKind.i64 ↑rs.length, Value.pointer p] 45)).alloc (Obj.cells c0 67)).alloc (Obj.cells #[Value.slice (some { block := w.heap.size + 1, off := 0 }) rs.length rs.length] 69)).alloc (Obj.cells #[Value.pointer p] 43)).alloc (Obj.cells #[Value.slice (some { block := w.heap.size + 1, off := 0 }) rs.length rs.length] 69)) (w.heap.size + 4) 69 (.slice (some ⟨w.heap.size + 1, 0, none⟩) rs.length rs.length) := by
    have := Boxed.new ((((w.alloc (Obj.cells #[Value.int IntKind.i64 ↑rs.length, Value.pointer p] 45)).alloc (Obj.cells c0 67)).alloc (Obj.cells #[Value.slice (some { block := w.heap.size + 1, off := 0 }) rs.length rs.length] 69)).alloc (Obj.cells #[Value.pointer p] 43)) 69 (.slice (some ⟨w.heap.size + 1, 0, none⟩) rs.length rs.length)
    simpa using this
  have G0 : (((((w.alloc (Obj.cells #[Value.int IntKind.i64 ↑rs.length, Value.pointer p] 45)).alloc (Obj.cells c0 67)).alloc (Obj.cells #[Value.slice (some { block := w.heap.size + 1, off := 0 }) rs.length rs.length] 69)).alloc (Obj.cells #[Value.pointer p] 43)).alloc (Obj.cells #[Value.slice (some { block := w.heap.size + 1, off := 0 }) rs.length rs.length] 69)).heap[w.heap.size + 1]? = some (.cells c0 67 (0, 0)) := by
    have h1 : (w.alloc (Obj.cells #[Value.int IntKind.i64 ↑rs.length, Value.pointer p] 45)).heap.size = w.heap.size + 1 := by simp
    have h2 := heap_alloc_new (w.alloc (Obj.cells #[Value.int IntKind.i64 ↑rs.length, Value.pointer p] 45)) (Obj.cells c0 67)
    rw [h1] at h2
    rw [Below.heap_alloc _ _ _ (by simp), Below.heap_alloc _ _ _ (by simp), Below.heap_alloc _ _ _ (by simp)]
    exact h2
  simp only [Nat.add_assoc, Nat.reduceAdd] at S0 L0 V0 A0 B0 G0 ⊢
  generalize (((((w.alloc (Obj.cells #[Value.int IntKind.i64 ↑rs.length, Value.pointer p] 45)).alloc (Obj.cells c0 67)).alloc (Obj.cells #[Value.slice (some { block := w.heap.size + 1, off := 0 }) rs.length rs.length] 69)).alloc (Obj.cells #[Value.pointer p] 43)).alloc (Obj.cells #[Value.slice (some { block := w.heap.size + 1, off := 0 }) rs.length rs.length] 69)) = W0 at *
  refine wpIn_rangeFunc_ownF rfl (by decide) (gf := 43) (lb := #[.pointer (some ⟨w.heap.size + 4, 0, none⟩)]) rfl trivial (enters_of Try.func43 (by kernel_rfl) rfl)
    (encs := fun x : At rs.length => #[.int .i64 (x.1.1 : Nat), x.1.2]) (Kp := KeepsRow 67 2 (w.heap.size + 4) (w.heap.size + 1) rs.length) (S := fun ys => Down rs.length rs.length ys) (Sp := fun _ => True) (N := rs.length) (w0 := W0)
    (fun l J Jx W hW _ _ hY h0 => backF_in Fence.wide _ trivial rfl (by decide) l (w.heap.size + 4) (w.heap.size + 1) rs.length rs.length hl J Jx hY W ((hW.cell (p := ⟨w.heap.size + 4, 0, none⟩) B0.lt).trans B0.cell) ⟨c0, (hW.block _ (by rw [S0]; omega)).trans G0, hc1⟩ h0)
    KeepsRow.trans (fun W l o o' hl h hc _ => ⟨World.cell?_of_block (World.putObj_heap_other (fun e => by rw [S0] at hl; simp at e; omega)), fun ⟨c, h1, h2⟩ => ⟨c, (World.putObj_heap_other (fun e => by subst e; rw [h] at h1; cases h1; cases hc)).trans h1, h2⟩⟩) (Below.refl _ _) (fun _ => rfl)
    (fun pre W => (Boxed W (w.heap.size + 2) 69 (.slice (some ⟨w.heap.size + 1, 0, none⟩) rs.length rs.length) ∧ (∃ q, Boxed W (w.heap.size + 3) 43 (.pointer q) ∧ Chn (fun _ => True) w (.pointer q) (rs.drop pre.length)) ∧ (∃ c, W.heap[w.heap.size + 1]? = some (.cells c 67 (0, 0)) ∧ Put rs rs.length pre c)) ∧ Below w.heap.size w W)
    (fun _ _ _ => False)
    (OwnFrom.and (Own.from (fun s A B row hs hg hr => ⟨heap_kept hs.1 hg hr, by obtain ⟨q, h1, h2⟩ := hs.2.1; exact ⟨q, heap_kept h1 hg hr, h2⟩, by obtain ⟨c, h1, h2⟩ := hs.2.2; exact ⟨c, heap_kept h1 hg hr, h2⟩⟩) _) (ownFrom_below (Nat.le_refl _) (by rw [S0]; omega)))
    (fun _ _ _ _ _ hs _ _ => hs)
    ⟨⟨V0, ⟨p, A0, hC⟩, ⟨c0, G0, hc1, fun _ j hj => by simp at hj⟩⟩, L0⟩
    (fun x => { tmps := #[.agg #[.int .i64 (rs.length : Nat), .pointer p], .pointer (some ⟨w.heap.size, 0, none⟩), .slice none 0 0, .pointer (some ⟨w.heap.size + 2, 0, none⟩), .pointer (some ⟨w.heap.size + 3, 0, none⟩), .int .i64 (x.1.1 : Nat), .pointer (some ⟨w.heap.size, 0, none⟩), .int .i64 (rs.length : Nat), .slice (some ⟨w.heap.size + 1, 0, none⟩) rs.length rs.length, .pointer (some ⟨w.heap.size, 1, none⟩), .pointer p, .slice (some ⟨w.heap.size + 1, 0, none⟩) rs.length rs.length, .func (.func 43) #[] #[.pointer (some ⟨w.heap.size + 4, 0, none⟩)], .int .i64 (x.1.1 : Nat), x.1.2, undef, undef, undef, undef, undef, undef, undef, undef, undef, undef, undef, undef], defers := [] }) ?assign ?body ?done ?stop
  case assign =>
    intro l x W K hK
    gi_wp2
    exact hK
  case body =>
    rintro l pre x W ⟨⟨hv, ⟨q, hq, hch⟩, ⟨c, hc, hput⟩⟩, hB⟩ hlt
    obtain ⟨i, hxi⟩ : ∃ i, x.1.1 = i := ⟨_, rfl⟩
    have hi2 : i < rs.length := hxi ▸ x.2
    rw [hxi]
    rw [List.drop_eq_getElem_cons hlt] at hch
    obtain ⟨b, q', hqe, _, hb, hr⟩ := hch
    cases hqe
    have hbl : b < w.heap.size := (Array.getElem?_eq_some_iff.1 hb).1
    have hbW := (hB.block b hbl).trans hb
    obtain ⟨f, hf⟩ : ∃ f, rs[pre.length] = f := ⟨_, rfl⟩
    rw [hf] at hbW
    have HF := hid hf
    have HR := hid hr
    have hb0 : W.cell? ⟨b, 0, none⟩ = some (.pointer q') := cell_of_row W b 0 _ _ (0, 0) hbW
    have hb1 : W.cell? ⟨b, 1, none⟩ = some (.slice f.ao f.n f.cap) := cell_of_row W b 1 _ _ (0, 0) hbW
    have hb2 : W.cell? ⟨b, 2, none⟩ = some (.bool f.any) := cell_of_row W b 2 _ _ (0, 0) hbW
    have hvc := hv.cell
    have hqc := hq.cell
    have hqf := hq.frozen
    have hsh : Shape 67 2 W (w.heap.size + 1) rs.length := ⟨c, hc, hput.1⟩
    obtain ⟨u0, hg0⟩ := hsh.get (i * 2) (by omega)
    obtain ⟨u1, hg1⟩ := hsh.get (i * 2 + 1) (by omega)
    have hf0 := frozen_of_row W (w.heap.size + 1) (i * 2) _ _ hc
    have hf1 := frozen_of_row W (w.heap.size + 1) (i * 2 + 1) _ _ hc
    have hne : ¬ b = w.heap.size + 1 := by omega
    have HX := hid hxi
    clear hf hr hb hbW hxi L0 V0 A0 B0 G0
    gi_wp2
    refine wpIn_mono (Q := fun e a' w' => e = .normal ∧ a' = { tmps := #[.agg #[.int .i64 (rs.length : Nat), .pointer p], .pointer (some ⟨w.heap.size, 0, none⟩), .slice none 0 0, .pointer (some ⟨w.heap.size + 2, 0, none⟩), .pointer (some ⟨w.heap.size + 3, 0, none⟩), .int .i64 (i : Nat), .pointer (some ⟨w.heap.size, 0, none⟩), .int .i64 (rs.length : Nat), .slice (some ⟨w.heap.size + 1, 0, none⟩) rs.length rs.length, .pointer (some ⟨w.heap.size, 1, none⟩), .pointer p, .slice (some ⟨w.heap.size + 1, 0, none⟩) rs.length rs.length, .func (.func 43) #[] #[.pointer (some ⟨w.heap.size + 4, 0, none⟩)], .int .i64 (i : Nat), x.1.2,
        .slice (some ⟨w.heap.size + 1, 0, none⟩) rs.length rs.length, .int .i64 (i : Nat), .pointer (some ⟨b, 0, none⟩), .pointer (some ⟨b, 0, none⟩), .pointer (some ⟨b, 1, none⟩), .agg #[.slice f.ao f.n f.cap, .bool f.any], .pointer (some ⟨w.heap.size + 1, i * 2, none⟩), undef, undef, undef, undef, undef], defers := [] } ∧ w' = ((W.setCell ⟨w.heap.size + 1, i * 2, none⟩ (.slice f.ao f.n f.cap)).setCell ⟨w.heap.size + 1, i * 2 + 1, none⟩ (.bool f.any)).drew) ?_ ?_
    · gi_region
      all_goals exact ⟨rfl, rfl, rfl⟩
    · rintro _ _ _ ⟨rfl, rfl, rfl⟩
      gi_wp2
      have H1 : ((W.setCell ⟨w.heap.size + 1, i * 2, none⟩ (.slice f.ao f.n f.cap)).setCell ⟨w.heap.size + 1, i * 2 + 1, none⟩ (.bool f.any)).heap[w.heap.size + 1]? = some (.cells ((c.setIfInBounds (i * 2) (.slice f.ao f.n f.cap)).setIfInBounds (i * 2 + 1) (.bool f.any)) 67 (0, 0)) :=
        heap_setCell_same _ _ _ _ _ _ (heap_setCell_same _ _ _ _ _ _ hc)
      have H2 : (((W.setCell ⟨w.heap.size + 1, i * 2, none⟩ (.slice f.ao f.n f.cap)).setCell ⟨w.heap.size + 1, i * 2 + 1, none⟩ (.bool f.any)).setCell ⟨w.heap.size + 3, 0, none⟩ (.pointer q')).heap[w.heap.size + 1]? = some (.cells ((c.setIfInBounds (i * 2) (.slice f.ao f.n f.cap)).setIfInBounds (i * 2 + 1) (.bool f.any)) 67 (0, 0)) := (heap_setCell_other _ ⟨w.heap.size + 3, 0, none⟩ _ _ (by show ¬ _ = w.heap.size + 3; omega)).trans H1
      have HQ : Boxed ((W.setCell ⟨w.heap.size + 1, i * 2, none⟩ (.slice f.ao f.n f.cap)).setCell ⟨w.heap.size + 1, i * 2 + 1, none⟩ (.bool f.any)) (w.heap.size + 3) 43 (.pointer (some ⟨b, 0, none⟩)) :=
        (heap_setCell_other _ ⟨w.heap.size + 1, i * 2 + 1, none⟩ _ _ (by show ¬ _ = w.heap.size + 1; omega)).trans ((heap_setCell_other _ ⟨w.heap.size + 1, i * 2, none⟩ _ _ (by show ¬ _ = w.heap.size + 1; omega)).trans hq)
      have HV : Boxed ((W.setCell ⟨w.heap.size + 1, i * 2, none⟩ (.slice f.ao f.n f.cap)).setCell ⟨w.heap.size + 1, i * 2 + 1, none⟩ (.bool f.any)) (w.heap.size + 2) 69 (.slice (some ⟨w.heap.size + 1, 0, none⟩) rs.length rs.length) :=
        (heap_setCell_other _ ⟨w.heap.size + 1, i * 2 + 1, none⟩ _ _ (by show ¬ _ = w.heap.size + 1; omega)).trans ((heap_setCell_other _ ⟨w.heap.size + 1, i * 2, none⟩ _ _ (by show ¬ _ = w.heap.size + 1; omega)).trans hv)
      have HP := hput.snoc hlt x i HX.out f (by rw [List.getElem?_eq_getElem hlt, HF.out])
      refine ⟨(((KeepsOthers.setCell _ _ _).trans (KeepsOthers.setCell _ _ _)).trans (KeepsOthers.setCell _ _ _)).trans (KeepsOthers.drew _), ⟨?_, fun _ => ⟨_, H2, HP.1⟩⟩, ⟨HV.other (by omega) _, ⟨q', HQ.set _, ?_⟩, ⟨_, H2, HP⟩⟩, ?_⟩
      · show World.cell? (((W.setCell _ _).setCell _ _).setCell _ _) _ = _
        rw [World.cell?_of_block (heap_setCell_other _ _ _ _ (by show ¬ w.heap.size + 4 = w.heap.size + 3; omega)), World.cell?_of_block (heap_setCell_other _ _ _ _ (by show ¬ w.heap.size + 4 = w.heap.size + 1; omega)), World.cell?_of_block (heap_setCell_other _ _ _ _ (by show ¬ w.heap.size + 4 = w.heap.size + 1; omega))]
      · rw [List.length_append]; exact HR.out
      · exact (((hB.setCell (p := ⟨w.heap.size + 1, i * 2, none⟩) (by show w.heap.size ≤ w.heap.size + 1; omega) _).setCell (p := ⟨w.heap.size + 1, i * 2 + 1, none⟩) (by show w.heap.size ≤ w.heap.size + 1; omega) _).setCell (p := ⟨w.heap.size + 3, 0, none⟩) (by show w.heap.size ≤ w.heap.size + 3; omega) _).drew
  case done =>
    rintro D ys W hD hdn ⟨⟨hv, ⟨q, hq, hch⟩, ⟨c, hc, hput⟩⟩, hB⟩ hK
    have hvc := hv.cell
    have HC := hid (hput.all hdn)
    clear V0 A0 B0 G0 L0
    gi_wp2
    refine ⟨by simp, .inl ⟨_, _, rfl, run_takeDeferred hK, ?_⟩⟩
    refine ⟨_, results_tmp rfl _ _ _, w.heap.size + 1, by omega, rfl, ?_, hB.trans (belowK_b (w := w) (Nat.le_refl _) W D _ _ (by rw [S0] at hD; omega) hK rfl rfl)⟩
    rw [← HC.out]
    exact heap_kept hc (grownBy_putObj' W D (.deferred none)) (fun r e => by cases e; exact ⟨_, hK, rfl⟩)
  case stop =>
    rintro D c pre W _ _ h _
    exact h.elim
theorem allF_any (rs : List Fl) (p : Option Addr) (w : World) (hl : rs.length ≤ 2147483647) {S : Nat → Prop} (hC : Chn S w (.pointer p) rs) :
    Calls Try.prog 29 #[.agg #[.int .i64 (rs.length : Nat), .pointer p]] w fun e w' =>
      ∃ g, w.heap.size ≤ g ∧ e = .returned (.slice (some ⟨g, 0, none⟩) rs.length rs.length) ∧ w'.heap[g]? = some (.cells (flds rs.reverse) 67 (0, 0)) ∧ Below w.heap.size w w' :=
  callsIn_wide.1 (allF_in rs p w hl (hC.mono fun _ _ => trivial))
end
end Go.Proofs.Ytckmdofmplkdfaa
