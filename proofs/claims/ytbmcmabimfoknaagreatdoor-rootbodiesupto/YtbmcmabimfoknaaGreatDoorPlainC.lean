/- Contract of the statements' plain: roots as the document's, in a row of its own. -/
import Derived.Test.YtbmcmabimfoknaaGreatDoorRefF
import Derived.Great.BuildSlice
namespace Go.Proofs.YtbmcmabimfoknaaGreatDoor
set_option maxRecDepth 100000
open Go.RowKit
set_option linter.unusedVariables false

theorem fold_setV (vs : List Value) : ∀ (k : Nat) (c : Array Value), (vs.zipIdx k).foldl (fun (cs : Array Value) (x : Value × Nat) => cs.setIfInBounds (0 + x.2) x.1) c = setV c k vs := by
  induction vs with
  | nil => intro k c; rfl
  | cons v vs ih =>
    intro k c
    rw [List.zipIdx_cons, List.foldl_cons, ih, setV, Nat.zero_add]
theorem over_all (l r : List Nat) (h : l.length = r.length) : over l 0 r = r := by
  unfold over
  rw [List.take_zero, List.nil_append, List.drop_eq_nil_of_le (by omega), List.append_nil]
theorem own_keep {w w' : World} {base n s : Nat} {e : TypeId} {v : Value} {xs : List Value} (h : w.ownsRow base e s v n xs) (hb : Below w.heap.size w w') : w'.ownsRow base e s v n xs := by
  obtain ⟨h1, h2 | ⟨g, cap, cur, hv, hbg, hg, h3⟩⟩ := h
  · exact ⟨h1, .inl h2⟩
  · exact ⟨h1, .inr ⟨g, cap, cur, hv, hbg, by rw [hb.block g (Array.getElem?_eq_some_iff.1 hg).1]; exact hg, h3⟩⟩
theorem own_lt {w : World} {base n s : Nat} {e : TypeId} {v : Value} {xs : List Value} (h : w.ownsRow base e s v n xs) : ∀ g, v.ownBlock = some g → base ≤ g ∧ g < w.heap.size := fun g hg => h.lt g hg
theorem own_only {w w' : World} {base n s k : Nat} {e : TypeId} {v : Value} {xs : List Value} (h : w.ownsRow base e s v n xs) (ho : Only k w w') (hk : w.heap.size ≤ k + 1 → v.ownBlock ≠ some k) (hk2 : v.ownBlock ≠ some k) : w'.ownsRow base e s v n xs := by
  obtain ⟨h1, h2 | ⟨g, cap, cur, rfl, hbg, hg, h3⟩⟩ := h
  · exact ⟨h1, .inl h2⟩
  · exact ⟨h1, .inr ⟨g, cap, cur, rfl, hbg, by rw [ho.block g (fun e => hk2 (by simp [Value.ownBlock, e]))]; exact hg, h3⟩⟩

/-- A slice of one root, made. -/
theorem wpList_one_root {P : Program} {w : World} {ops : Array Oper} {rest : List Oper} {o : Oper} {a : Act} {Q : Exit → Act → World → Prop} (hgd : o.guard = none) (t e : TypeId) (x : Operand) (ho : o.op = .buildSlice t 1 #[(0, x)]) (hu : P.underlying t = some (.slice e))
    (hi : (P.info? e).map (fun i => (i.zero, i.size, i.bytes)) = some (some (.agg (nums .u8 (zeros 32))), 32, 32)) (r : List Nat) (hx : a.eval x = .agg (nums .u8 r)) (hr : r.length = 32)
    (h : ∀ w', Has w' w.heap.size e .u8 r → Below w.heap.size w w' → w'.heap.size = w.heap.size + 1 → wpList P ops Q rest (a.put o.dst (.slice (some ⟨w.heap.size, 0, none⟩) 1 1)) w') : wpList P ops Q (o :: rest) a w := by
  obtain ⟨i0, hi0, hz0, hz1, hz2⟩ : ∃ i, P.info? e = some i ∧ i.zero = some (.agg (nums .u8 (zeros 32))) ∧ i.size = 32 ∧ i.bytes = 32 := by
    cases hq : P.info? e with
    | none => simp [hq] at hi
    | some i => simp [hq] at hi; exact ⟨i, rfl, hi.1, hi.2.1, hi.2.2⟩
  refine wpList_buildSlice hgd t e 1 _ ho (nums .u8 r) i0 (.agg (nums .u8 (zeros 32))) hu hi0 hz0 (by rw [hz1]; omega) (by rw [hz1]; omega) ?_ (h _ (heap_alloc_new w _) ((Below.refl _ _).alloc (Nat.le_refl _) _) (by simp))
  rw [hz1]
  have e1 : ((Array.range (1 * 32)).map ((Value.agg (nums .u8 (zeros 32))).cells[· % (Value.agg (nums .u8 (zeros 32))).cells.size]!)) = nums .u8 (zeros 32) := by
    apply Array.toList_inj.1
    have := madeZ 1
    unfold madeCells at this
    rw [this]
    simp [nums]
  rw [e1]
  have e2 : (#[(0, x)] : Array (Nat × Operand)).map (fun (i, x) => (i, a.eval x)) = #[(0, .agg (nums .u8 r))] := by simp [hx]
  rw [e2]
  have hc : (Value.agg (nums .u8 r)).cells = nums .u8 r := rfl
  simp only [Instr.fill, hc, nums_size, hr, zeros_length]
  rw [if_neg (by simp)]
  congr 1
  rw [← Array.foldl_toList, Array.toList_zipIdx]
  have h3 := fold_setV (nums .u8 r).toList 0 (nums .u8 (zeros 32))
  have h4 := setV_nums .u8 (zeros 32) r 0 (by rw [zeros_length, hr]; omega)
  rw [over_all _ _ (by rw [zeros_length, hr])] at h4
  refine Eq.trans ?_ (h3.trans h4)
  simp

end Go.Proofs.YtbmcmabimfoknaaGreatDoor
