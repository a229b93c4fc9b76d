/- ssz's chain of numbers. -/
import Derived.Test.YtckmdofmplkdfaaChain
namespace Go.Proofs.Ytckmdofmplkdfaa
open Go.RowKit Go.Shelf
set_option linter.unusedVariables false

/-- A chain of numbers from a link on, the last one first; its links lie in S. -/
def ChnI (S : Nat → Prop) (w : World) : Value → List Nat → Prop
  | p, [] => p = .pointer none
  | p, f :: rs => ∃ b q, p = .pointer (some ⟨b, 0, none⟩) ∧ S b ∧ w.heap[b]? = some (.cells #[.pointer q, .int .i64 (f : Nat)] 93 (0, 0)) ∧ ChnI S w (.pointer q) rs
theorem ChnI.keepS {S : Nat → Prop} {w w' : World} (hk : ∀ k, S k → k < w.heap.size → w'.heap[k]? = w.heap[k]?) : ∀ {rs : List Nat} {p : Value}, ChnI S w p rs → ChnI S w' p rs
  | [], _, h => h
  | f :: rs, _, h => by
    obtain ⟨b, q, rfl, hS, hb, hr⟩ := h
    exact ⟨b, q, rfl, hS, (hk b hS (Array.getElem?_eq_some_iff.1 hb).1).trans hb, ChnI.keepS hk hr⟩
theorem ChnI.mono {S T : Nat → Prop} {w : World} (hST : ∀ k, S k → T k) : ∀ {rs : List Nat} {p : Value}, ChnI S w p rs → ChnI T w p rs
  | [], _, h => h
  | f :: rs, _, h => by
    obtain ⟨b, q, rfl, hS, hb, hr⟩ := h
    exact ⟨b, q, rfl, hST b hS, hb, ChnI.mono hST hr⟩
abbrev cellI (x : Nat) : List Value := [.int .i64 (x : Nat)]
def intsA (fs : List Nat) : Array Value := (fs.flatMap cellI).toArray

set_option maxRecDepth 100000 in
set_option maxHeartbeats 1000000 in
theorem withI_any (k : Nat) (q : Option Addr) (f : Nat) (w : World) (hk : k ≤ 2147483647) :
    Calls Try.prog 37 #[.agg #[.int .i64 (k : Nat), .pointer q], .int .i64 (f : Nat)] w fun e w' =>
      ∃ b, w.heap.size ≤ b ∧ e = .returned (.agg #[.int .i64 ((k + 1 : Nat) : Nat), .pointer (some ⟨b, 0, none⟩)]) ∧ w'.heap[b]? = some (.cells #[.pointer q, .int .i64 (f : Nat)] 93 (0, 0)) ∧ Below w.heap.size w w' := by
  go_enter Try.func37, Try.ntmps37
  go_wp2
  refine bodyPost_ret (v := .agg #[.int .i64 ((k : Int) + 1), .pointer (some ⟨w.heap.size + 1 + 1, 0, none⟩)]) (by simp [results, Try.results37, go_sem]) rfl ?_
  refine ⟨w.heap.size + 1 + 1, by omega, by go_num, ?_, ?_⟩
  rotate_left
  · exact (((Below.refl _ w).alloc (Nat.le_refl _) _).alloc (Nat.le_of_lt (by simp)) _).alloc (by rw [World.size_alloc, World.size_alloc]; omega) _
  have := heap_alloc_new ((w.alloc (Obj.cells #[Value.int IntKind.i64 ↑k, Value.pointer q] 77)).alloc (Obj.cells #[Value.int IntKind.i64 (↑k + 1), Value.pointer (some { block := w.heap.size + 1 + 1, off := 0 })] 77)) (Obj.cells #[Value.pointer q, Value.int IntKind.i64 (f : Nat)] 93)
  simpa using this

section
attribute [local go_sem] Oper.semAt_some
theorem Try.info3 : (Try.prog.info? 3).map (fun i => (i.zero, i.size, i.bytes)) = some (some (.int .i64 0), 1, 8) := by kernel_rfl

set_option maxRecDepth 100000 in
set_option maxHeartbeats 1000000 in
theorem backMakeI (n : Nat) (ao : Option Addr) (len cap : Nat) (w : World) :
    CallsIn Fence.wide n Try.prog 42 #[.slice ao len cap] w fun e w' => e = .returned (.func (.func 44) #[] #[.pointer (some ⟨w.heap.size, 0, none⟩)]) ∧ w' = w.alloc (.cells #[.slice ao len cap] 84) := by
  refine callsIn_of_wp Try.func42 rfl trivial ?_ rfl
  simp only [Try.ntmps42, List.size_toArray, List.length_cons, List.length_nil, Nat.reduceAdd, Nat.reduceSub, Array.replicate_succ, Array.replicate_zero, List.push_toArray, List.append_toArray, List.nil_append, List.cons_append]
  gi_wp2
  go_ret
  exact ⟨rfl, rfl⟩

/-- What the row of fields holds when some places have come. -/
def PutI (rs : List Nat) (n : Nat) (pre : List (At n)) (c : Array Value) : Prop :=
  c.size = n * 1 ∧ (Down n pre.length pre → ∀ j, j < pre.length → ∀ q, q < 1 → c[(n - 1 - j) * 1 + q]? = (rs[j]?).bind fun f => (cellI f)[q]?)

theorem PutI.snoc {rs : List Nat} {n : Nat} {pre : List (At n)} {c : Array Value} (h : PutI rs n pre c) (hlt : pre.length < n) (x : At n) (i : Nat) (hxi : x.1.1 = i) (f : Nat) (hf : rs[pre.length]? = some f) :
    PutI rs n (pre ++ [x]) (c.setIfInBounds i (.int .i64 (f : Nat))) := by
  refine ⟨by simpa using h.1, fun hd j hj q hq => ?_⟩
  obtain ⟨h1, h2⟩ := hd.last
  have hs := h.1
  rw [List.length_append, List.length_singleton] at hj
  rw [Array.getElem?_setIfInBounds]
  by_cases e : j = pre.length
  · subst e
    rw [hf]
    obtain rfl : q = 0 := by omega
    rw [if_pos (by omega), if_pos (by omega)]; rfl
  · rw [if_neg (by omega)]
    exact h.2 h1 j (by omega) q hq
theorem PutI.all {rs : List Nat} {ys : List (At rs.length)} {c : Array Value} (h : PutI rs rs.length ys c) (hd : Down rs.length rs.length ys) : c = intsA rs.reverse := by
  have hl := hd.length
  refine flat_ext cellI 1 (by decide) (fun _ => rfl) rs.reverse c (by simpa using h.1) (fun i j hi hj => ?_)
  rw [List.length_reverse] at hi
  have := h.2 (by rw [hl]; exact hd) (rs.length - 1 - i) (by omega) j hj
  rw [show rs.length - 1 - (rs.length - 1 - i) = i by omega] at this
  rw [this, List.getElem?_reverse hi]

set_option maxRecDepth 100000 in
set_option maxHeartbeats 2000000 in
/-- chain.all: the values in the order in which they came. -/
theorem allI_in (rs : List Nat) (p : Option Addr) (w : World) (hl : rs.length ≤ 2147483647) (hC : ChnI (fun _ => True) w (.pointer p) rs) :
    CallsIn Fence.wide 5 Try.prog 39 #[.agg #[.int .i64 (rs.length : Nat), .pointer p]] w fun e w' =>
      ∃ g, w.heap.size ≤ g ∧ e = .returned (.slice (some ⟨g, 0, none⟩) rs.length rs.length) ∧ w'.heap[g]? = some (.cells (intsA rs.reverse) 3 (0, 0)) ∧ Below w.heap.size w w' := by
  obtain ⟨i0, hi, hz0, hz1, hz2⟩ := info_parts Try.info3
  have hn : rs.length ≤ maxLen := by unfold maxLen; omega
  have hn2 : i0.bytes * rs.length ≤ 281474976710656 := by rw [hz2]; omega
  refine callsIn_of_wp_marks Try.func39 rfl trivial ?_ rfl
  simp only [Try.ntmps39, List.size_toArray, List.length_cons, List.length_nil, Nat.reduceAdd, Nat.reduceSub, Array.replicate_succ, Array.replicate_zero, List.push_toArray, List.append_toArray, List.nil_append, List.cons_append]
  gi_wp2_with (first
    | (gi_at_make; refine wpListIn_make_at _ rfl _ _ 84 rfl 3 i0 _ Try.underlying84 hi hz0 .i64 .i64 _ _ rs.length rfl rfl rfl rfl hn2 hn ?_; intro c0 hc0)
    | (refine ⟨trivial, ?_⟩; gi_at_call 42; refine (backMakeI _ _ _ _ _).mono ?_; rintro e w' ⟨rfl, rfl⟩))
  have hc1 := hz1 ▸ hc0
  have S0 : (((((w.alloc (Obj.cells #[Value.int IntKind.i64 ↑rs.length, Value.pointer p] 77)).alloc (Obj.cells c0 3)).alloc (Obj.cells #[Value.slice (some { block := w.heap.size + 1, off := 0 }) rs.length rs.length] 84)).alloc (Obj.cells #[Value.pointer p] 75)).alloc (Obj.cells #[Value.slice (some { block := w.heap.size + 1, off := 0 }) rs.length rs.length] 84)).heap.size = w.heap.size + 5 := by simp
  have L0 : Below w.heap.size w (((((w.alloc (Obj.cells #[Value.int IntKind.i64 ↑rs.length, Value.pointer p] 77)).alloc (Obj.cells c0 3)).alloc (Obj.cells #[Value.slice (some { block := w.heap.size + 1, off := 0 }) rs.length rs.length] 84)).alloc (Obj.cells #[Value.pointer p] 75)).alloc (Obj.cells #[Value.slice (some { block := w.heap.size + 1, off := 0 }) rs.length rs.length] 84)) :=
    (((((Below.refl _ w).alloc (Nat.le_refl _) _).alloc (by rw [World.size_alloc]; omega) _).alloc (by rw [World.size_alloc, World.size_alloc]; omega) _).alloc (by rw [World.size_alloc, World.size_alloc, World.size_alloc]; omega) _).alloc (by rw [World.size_alloc, World.size_alloc, World.size_alloc, World.size_alloc]; omega) _
  have V0 : Boxed (((((w.alloc (Obj.cells #[Value.int IntKind.i64 ↑rs.length, Value.pointer p] 77)).alloc (Obj.cells c0 3)).alloc (Obj.cells #[Value.slice (some { block := w.heap.size + 1, off := 0 }) rs.length rs.length] 84)).alloc (Obj.cells #[Value.pointer p] 75)).alloc (Obj.cells #[Value.slice (some { block := w.heap.size + 1, off := 0 }) rs.length rs.length] 84)) (w.heap.size + 2) 84 (.slice (some ⟨w.heap.size + 1, 0, none⟩) rs.length rs.length) := by
    have := ((Boxed.new ((w.alloc (Obj.cells #[Value.int IntKind.i64 ↑rs.length, Value.pointer p] 77)).alloc (Obj.cells c0 3)) 84 (.slice (some ⟨w.heap.size + 1, 0, none⟩) rs.length rs.length)).alloc (Obj.cells #[Value.pointer p] 75)).alloc (Obj.cells #[Value.slice (some { block := w.heap.size + 1, off := 0 }) rs.length rs.length] 84)
    simpa using this
  have A0 : Boxed (((((w.alloc (Obj.cells #[Value.int IntKind.i64 ↑rs.length, Value.pointer p] 77)).alloc (Obj.cells c0 3)).alloc (Obj.cells #[Value.slice (some { block := w.heap.size + 1, off := 0 }) rs.length rs.length] 84)).alloc (Obj.cells #[Value.pointer p] 75)).alloc (Obj.cells #[Value.slice (some { block := w.heap.size + 1, off := 0 }) rs.length rs.length] 84)) (w.heap.size + 3) 75 (.pointer p) := by
    have := (Boxed.new (((w.alloc (Obj.cells #[Value.int IntKind.i64 ↑rs.length, Value.pointer p] 77)).alloc (Obj.cells c0 3)).alloc (Obj.cells #[Value.slice (some { block := w.heap.size + 1, off := 0 }) rs.length rs.length] 84)) 75 (.pointer p)).alloc (Obj.cells #[Value.slice (some { block := w.heap.size + 1, off := 0 }) rs.length rs.length] 84)
    simpa using this
  have B0 : Boxed (((((w.alloc (Obj.cells #[Value.int IntKind.i64 ↑rs.length, Value.pointer p] 77)).alloc (Obj.cells c0 3)).alloc (Obj.cells #[Value.slice (some { block := w.heap.size + 1, off := 0 }) rs.length rs.length] 84)).alloc (Obj.cells #[Value.pointer p] 75)).alloc (Obj.cells #[Value.slice (some { block := w.heap.size + 1, off := 0 }) rs.length rs.length] 84)) (w.heap.size + 4) 84 (.slice (some ⟨w.heap.size + 1, 0, none⟩) rs.length rs.length) := by
    have := Boxed.new ((((w.alloc (Obj.cells #[Value.int IntKind.i64 ↑rs.length, Value.pointer p] 77)).alloc (Obj.cells c0 3)).alloc (Obj.cells #[Value.slice (some { block := w.heap.size + 1, off := 0 }) rs.length rs.length] 84)).alloc (Obj.cells #[Value.pointer p] 75)) 84 (.slice (some ⟨w.heap.size + 1, 0, none⟩) rs.length rs.length)
    simpa using this
  have G0 : (((((w.alloc (Obj.cells #[Value.int IntKind.i64 ↑rs.length, Value.pointer p] 77)).alloc (Obj.cells c0 3)).alloc (Obj.cells #[Value.slice (some { block := w.heap.size + 1, off := 0 }) rs.length rs.length] 84)).alloc (Obj.cells #[Value.pointer p] 75)).alloc (Obj.cells #[Value.slice (some { block := w.heap.size + 1, off := 0 }) rs.length rs.length] 84)).heap[w.heap.size + 1]? = some (.cells c0 3 (0, 0)) := by
    have h1 : (w.alloc (Obj.cells #[Value.int IntKind.i64 ↑rs.length, Value.pointer p] 77)).heap.size = w.heap.size + 1 := by simp
    have h2 := heap_alloc_new (w.alloc (Obj.cells #[Value.int IntKind.i64 ↑rs.length, Value.pointer p] 77)) (Obj.cells c0 3)
    rw [h1] at h2
    rw [Below.heap_alloc _ _ _ (by simp), Below.heap_alloc _ _ _ (by simp), Below.heap_alloc _ _ _ (by simp)]
    exact h2
  simp only [Nat.add_assoc, Nat.reduceAdd] at S0 L0 V0 A0 B0 G0 ⊢
  generalize (((((w.alloc (Obj.cells #[Value.int IntKind.i64 ↑rs.length, Value.pointer p] 77)).alloc (Obj.cells c0 3)).alloc (Obj.cells #[Value.slice (some { block := w.heap.size + 1, off := 0 }) rs.length rs.length] 84)).alloc (Obj.cells #[Value.pointer p] 75)).alloc (Obj.cells #[Value.slice (some { block := w.heap.size + 1, off := 0 }) rs.length rs.length] 84)) = W0 at *
  refine wpIn_rangeFunc_ownF rfl (by decide) (gf := 44) (lb := #[.pointer (some ⟨w.heap.size + 4, 0, none⟩)]) rfl trivial (enters_of Try.func44 (by kernel_rfl) rfl)
    (encs := fun x : At rs.length => #[.int .i64 (x.1.1 : Nat), x.1.2]) (Kp := KeepsRow 3 1 (w.heap.size + 4) (w.heap.size + 1) rs.length) (S := fun ys => Down rs.length rs.length ys) (Sp := fun _ => True) (N := rs.length) (w0 := W0)
    (fun l J Jx W hW _ _ hY h0 => backI_in Fence.wide _ trivial rfl (by decide) l (w.heap.size + 4) (w.heap.size + 1) rs.length rs.length hl J Jx hY W ((hW.cell (p := ⟨w.heap.size + 4, 0, none⟩) B0.lt).trans B0.cell) ⟨c0, (hW.block _ (by rw [S0]; omega)).trans G0, hc1⟩ h0)
    KeepsRow.trans (fun W l o o' hl h hc _ => ⟨World.cell?_of_block (World.putObj_heap_other (fun e => by rw [S0] at hl; simp at e; omega)), fun ⟨c, h1, h2⟩ => ⟨c, (World.putObj_heap_other (fun e => by subst e; rw [h] at h1; cases h1; cases hc)).trans h1, h2⟩⟩) (Below.refl _ _) (fun _ => rfl)
    (fun pre W => (Boxed W (w.heap.size + 2) 84 (.slice (some ⟨w.heap.size + 1, 0, none⟩) rs.length rs.length) ∧ (∃ q, Boxed W (w.heap.size + 3) 75 (.pointer q) ∧ ChnI (fun _ => True) w (.pointer q) (rs.drop pre.length)) ∧ (∃ c, W.heap[w.heap.size + 1]? = some (.cells c 3 (0, 0)) ∧ PutI rs rs.length pre c)) ∧ Below w.heap.size w W)
    (fun _ _ _ => False)
    (OwnFrom.and (Own.from (fun s A B row hs hg hr => ⟨heap_kept hs.1 hg hr, by obtain ⟨q, h1, h2⟩ := hs.2.1; exact ⟨q, heap_kept h1 hg hr, h2⟩, by obtain ⟨c, h1, h2⟩ := hs.2.2; exact ⟨c, heap_kept h1 hg hr, h2⟩⟩) _) (ownFrom_below (Nat.le_refl _) (by rw [S0]; omega)))
    (fun _ _ _ _ _ hs _ _ => hs)
    ⟨⟨V0, ⟨p, A0, hC⟩, ⟨c0, G0, hc1, fun _ j hj => by simp at hj⟩⟩, L0⟩
    (fun x => { tmps := #[.agg #[.int .i64 (rs.length : Nat), .pointer p], .pointer (some ⟨w.heap.size, 0, none⟩), .slice none 0 0, .pointer (some ⟨w.heap.size + 2, 0, none⟩), .pointer (some ⟨w.heap.size + 3, 0, none⟩), .int .i64 (x.1.1 : Nat), .pointer (some ⟨w.heap.size, 0, none⟩), .int .i64 (rs.length : Nat), .slice (some ⟨w.heap.size + 1, 0, none⟩) rs.length rs.length, .pointer (some ⟨w.heap.size, 1, none⟩), .pointer p, .slice (some ⟨w.heap.size + 1, 0, none⟩) rs.length rs.length, .func (.func 44) #[] #[.pointer (some ⟨w.heap.size + 4, 0, none⟩)], .int .i64 (x.1.1 : Nat), x.1.2, undef, undef, undef, undef, undef, undef, undef, undef, undef, undef, undef, undef], defers := [] }) ?assign ?body ?done ?stop
  case assign =>
    intro l x W K hK
    gi_wp2
    exact hK
  case body =>
    rintro l pre x W ⟨⟨hv, ⟨q, hq, hch⟩, ⟨c, hc, hput⟩⟩, hB⟩ hlt
    obtain ⟨i, hxi⟩ : ∃ i, x.1.1 = i := ⟨_, rfl⟩
    have hi2 : i < rs.length := hxi ▸ x.2
    rw [hxi]
    rw [List.drop_eq_getElem_cons hlt] at hch
    obtain ⟨b, q', hqe, _, hb, hr⟩ := hch
    cases hqe
    have hbl : b < w.heap.size := (Array.getElem?_eq_some_iff.1 hb).1
    have hbW := (hB.block b hbl).trans hb
    obtain ⟨f, hf⟩ : ∃ f, rs[pre.length] = f := ⟨_, rfl⟩
    rw [hf] at hbW
    have HF := hid hf
    have HR := hid hr
    have hb0 : W.cell? ⟨b, 0, none⟩ = some (.pointer q') := cell_of_row W b 0 _ _ (0, 0) hbW
    have hb1 : W.cell? ⟨b, 1, none⟩ = some (.int .i64 (f : Nat)) := cell_of_row W b 1 _ _ (0, 0) hbW
    have hvc := hv.cell
    have hqc := hq.cell
    have hqf := hq.frozen
    have hsh : Shape 3 1 W (w.heap.size + 1) rs.length := ⟨c, hc, hput.1⟩
    obtain ⟨u0, hg0⟩ := hsh.get i (by omega)
    have hf0 := frozen_of_row W (w.heap.size + 1) i _ _ hc
    have hne : ¬ b = w.heap.size + 1 := by omega
    have HX := hid hxi
    clear hf hr hb hbW hxi L0 V0 A0 B0 G0
    gi_wp2
    refine wpIn_mono (Q := fun e a' w' => e = .normal ∧ a' = { tmps := #[.agg #[.int .i64 (rs.length : Nat), .pointer p], .pointer (some ⟨w.heap.size, 0, none⟩), .slice none 0 0, .pointer (some ⟨w.heap.size + 2, 0, none⟩), .pointer (some ⟨w.heap.size + 3, 0, none⟩), .int .i64 (i : Nat), .pointer (some ⟨w.heap.size, 0, none⟩), .int .i64 (rs.length : Nat), .slice (some ⟨w.heap.size + 1, 0, none⟩) rs.length rs.length, .pointer (some ⟨w.heap.size, 1, none⟩), .pointer p, .slice (some ⟨w.heap.size + 1, 0, none⟩) rs.length rs.length, .func (.func 44) #[] #[.pointer (some ⟨w.heap.size + 4, 0, none⟩)], .int .i64 (i : Nat), x.1.2,
        .slice (some ⟨w.heap.size + 1, 0, none⟩) rs.length rs.length, .int .i64 (i : Nat), .pointer (some ⟨b, 0, none⟩), .pointer (some ⟨b, 0, none⟩), .pointer (some ⟨b, 1, none⟩), .int .i64 (f : Nat), .pointer (some ⟨w.heap.size + 1, i, none⟩), undef, undef, undef, undef, undef], defers := [] } ∧ w' = (W.setCell ⟨w.heap.size + 1, i, none⟩ (.int .i64 (f : Nat))).drew) ?_ ?_
    · gi_region
      all_goals exact ⟨rfl, rfl, rfl⟩
    · rintro _ _ _ ⟨rfl, rfl, rfl⟩
      gi_wp2
      have H1 : (W.setCell ⟨w.heap.size + 1, i, none⟩ (.int .i64 (f : Nat))).heap[w.heap.size + 1]? = some (.cells (c.setIfInBounds i (.int .i64 (f : Nat))) 3 (0, 0)) :=
        heap_setCell_same _ _ _ _ _ _ hc
      have H2 : ((W.setCell ⟨w.heap.size + 1, i, none⟩ (.int .i64 (f : Nat))).setCell ⟨w.heap.size + 3, 0, none⟩ (.pointer q')).heap[w.heap.size + 1]? = some (.cells (c.setIfInBounds i (.int .i64 (f : Nat))) 3 (0, 0)) := (heap_setCell_other _ ⟨w.heap.size + 3, 0, none⟩ _ _ (by show ¬ _ = w.heap.size + 3; omega)).trans H1
      have HQ : Boxed (W.setCell ⟨w.heap.size + 1, i, none⟩ (.int .i64 (f : Nat))) (w.heap.size + 3) 75 (.pointer (some ⟨b, 0, none⟩)) :=
        (heap_setCell_other _ ⟨w.heap.size + 1, i, none⟩ _ _ (by show ¬ _ = w.heap.size + 1; omega)).trans hq
      have HV : Boxed (W.setCell ⟨w.heap.size + 1, i, none⟩ (.int .i64 (f : Nat))) (w.heap.size + 2) 84 (.slice (some ⟨w.heap.size + 1, 0, none⟩) rs.length rs.length) :=
        (heap_setCell_other _ ⟨w.heap.size + 1, i, none⟩ _ _ (by show ¬ _ = w.heap.size + 1; omega)).trans hv
      have HP := hput.snoc hlt x i HX.out f (by rw [List.getElem?_eq_getElem hlt, HF.out])
      refine ⟨((KeepsOthers.setCell _ _ _).trans (KeepsOthers.setCell _ _ _)).trans (KeepsOthers.drew _), ⟨?_, fun _ => ⟨_, H2, HP.1⟩⟩, ⟨HV.other (by omega) _, ⟨q', HQ.set _, ?_⟩, ⟨_, H2, HP⟩⟩, ?_⟩
      · show World.cell? ((W.setCell _ _).setCell _ _) _ = _
        rw [World.cell?_of_block (heap_setCell_other _ _ _ _ (by show ¬ w.heap.size + 4 = w.heap.size + 3; omega)), World.cell?_of_block (heap_setCell_other _ _ _ _ (by show ¬ w.heap.size + 4 = w.heap.size + 1; omega))]
      · rw [List.length_append]; exact HR.out
      · exact ((hB.setCell (p := ⟨w.heap.size + 1, i, none⟩) (by show w.heap.size ≤ w.heap.size + 1; omega) _).setCell (p := ⟨w.heap.size + 3, 0, none⟩) (by show w.heap.size ≤ w.heap.size + 3; omega) _).drew
  case done =>
    rintro D ys W hD hdn ⟨⟨hv, ⟨q, hq, hch⟩, ⟨c, hc, hput⟩⟩, hB⟩ hK
    have hvc := hv.cell
    have HC := hid (hput.all hdn)
    clear V0 A0 B0 G0 L0
    gi_wp2
    refine ⟨by simp, .inl ⟨_, _, rfl, run_takeDeferred hK, ?_⟩⟩
    refine ⟨_, results_tmp rfl _ _ _, w.heap.size + 1, by omega, rfl, ?_, hB.trans (belowK_b (w := w) (Nat.le_refl _) W D _ _ (by rw [S0] at hD; omega) hK rfl rfl)⟩
    rw [← HC.out]
    exact heap_kept hc (grownBy_putObj' W D (.deferred none)) (fun r e => by cases e; exact ⟨_, hK, rfl⟩)
  case stop =>
    rintro D c pre W _ _ h _
    exact h.elim
theorem allI_any (rs : List Nat) (p : Option Addr) (w : World) (hl : rs.length ≤ 2147483647) {S : Nat → Prop} (hC : ChnI S w (.pointer p) rs) :
    Calls Try.prog 39 #[.agg #[.int .i64 (rs.length : Nat), .pointer p]] w fun e w' =>
      ∃ g, w.heap.size ≤ g ∧ e = .returned (.slice (some ⟨g, 0, none⟩) rs.length rs.length) ∧ w'.heap[g]? = some (.cells (intsA rs.reverse) 3 (0, 0)) ∧ Below w.heap.size w w' :=
  callsIn_wide.1 (allI_in rs p w hl (hC.mono fun _ _ => trivial))
end
end Go.Proofs.Ytckmdofmplkdfaa
