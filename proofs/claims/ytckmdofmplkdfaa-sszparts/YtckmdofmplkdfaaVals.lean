/- The document's values as trees: how they lie in memory; when two are the same. -/
import Derived.Test.YtckmdofmplkdfaaBitsP
import Derived.Deep.MidRow
namespace Go.Proofs.Ytckmdofmplkdfaa
open Go.RowKit
set_option linter.unusedVariables false
set_option maxRecDepth 100000

/-- A value. -/
inductive Vt where
  | mk (num : Nat) (root : List Nat) (bits : List Bool) (kids : List Vt)
def Vt.num : Vt → Nat | .mk n _ _ _ => n
def Vt.root : Vt → List Nat | .mk _ r _ _ => r
def Vt.bits : Vt → List Bool | .mk _ _ b _ => b
def Vt.kids : Vt → List Vt | .mk _ _ _ k => k
mutual
/-- How deep a value is. -/
def Vt.deep : Vt → Nat | .mk _ _ _ k => deepK k + 1
def deepK : List Vt → Nat | [] => 0 | x :: r => max x.deep (deepK r)
end
theorem deepK_get : ∀ {l : List Vt} {i : Nat} {x : Vt}, l[i]? = some x → x.deep ≤ deepK l
  | y :: r, 0, x, h => by simp at h; subst h; rw [deepK]; exact Nat.le_max_left _ _
  | y :: r, i + 1, x, h => by
    rw [List.getElem?_cons_succ] at h
    rw [deepK]
    exact Nat.le_trans (deepK_get h) (Nat.le_max_right _ _)
/-- The 35 cells of a value. -/
def valL (n : Nat) (r : List Nat) (sb sk : Value) : List Value := .int .u64 (n : Nat) :: (cellsB r ++ [sb, sk])
theorem valL_length (n : Nat) (r : List Nat) (sb sk : Value) (h : r.length = 32) : (valL n r sb sk).length = 35 := by simp [valL, cellsB_length, h]
theorem valL_0 (n : Nat) (r : List Nat) (sb sk : Value) : (valL n r sb sk)[0]? = some (.int .u64 (n : Nat)) := rfl
theorem valL_33 (n : Nat) (r : List Nat) (sb sk : Value) (h : r.length = 32) : (valL n r sb sk)[33]? = some sb := by
  rw [valL, List.getElem?_cons_succ, List.getElem?_append_right (by rw [cellsB_length]; omega), cellsB_length, h]; rfl
theorem valL_34 (n : Nat) (r : List Nat) (sb sk : Value) (h : r.length = 32) : (valL n r sb sk)[34]? = some sk := by
  rw [valL, List.getElem?_cons_succ, List.getElem?_append_right (by rw [cellsB_length]; omega), cellsB_length, h]; rfl
theorem valL_root (n : Nat) (r : List Nat) (sb sk : Value) (j : Nat) (v : Value) (hv : (cellsB r)[j]? = some v) : (valL n r sb sk)[1 + j]? = some v := by
  have hj : j < (cellsB r).length := (List.getElem?_eq_some_iff.1 hv).1
  rw [valL, Nat.add_comm, List.getElem?_cons_succ, List.getElem?_append_left hj]; exact hv

mutual
/-- What hangs on a value's two slices. -/
def VAt (w : World) : Vt → Value → Value → Prop
  | .mk n r bs ks, sb, sk => (n < 18446744073709551616 ∧ r.length = 32 ∧ ∀ z ∈ r, z < 256) ∧ IsT w sb bs ∧ ∃ ao cap, sk = .slice ao ks.length cap ∧ ks.length ≤ cap ∧ cap ≤ maxLen ∧ (ks.length = 0 ∨ ∃ b off, ao = some ⟨b, off, none⟩ ∧ KsAt w ks b off)
/-- Values, one behind the other. -/
def KsAt (w : World) : List Vt → Nat → Nat → Prop
  | [], _, _ => True
  | x :: rest, b, off => (∃ sb sk, w.rangeAt b off (valL x.num x.root sb sk) ∧ VAt w x sb sk) ∧ KsAt w rest b (off + 35)
end
theorem IsT.keep' {w w' : World} {v : Value} {l : List Bool} (h : IsT w v l) (hb : Below w.heap.size w w') : IsT w' v l := h.keep hb
theorem rangeAt_keep {w w' : World} {b o : Nat} {cs : List Value} (h : w.rangeAt b o cs) (hb : Below w.heap.size w w') : w'.rangeAt b o cs := fun j v hv =>
  (hb.cell (p := ⟨b, o + j, none⟩) (block_lt_of_cell (h j v hv))).trans (h j v hv)
mutual
theorem VAt.keep {w w' : World} (hb : Below w.heap.size w w') : ∀ (x : Vt) {sb sk : Value}, VAt w x sb sk → VAt w' x sb sk
  | .mk n r bs ks, sb, sk, h => by
    rw [VAt] at h ⊢
    obtain ⟨h0, h1, ao, cap, h2, h3, h4, h5⟩ := h
    refine ⟨h0, h1.keep hb, ao, cap, h2, h3, h4, ?_⟩
    rcases h5 with h5 | ⟨b, off, h6, h7⟩
    · exact .inl h5
    · exact .inr ⟨b, off, h6, KsAt.keep hb ks h7⟩
theorem KsAt.keep {w w' : World} (hb : Below w.heap.size w w') : ∀ (l : List Vt) {b off : Nat}, KsAt w l b off → KsAt w' l b off
  | [], b, off, _ => by rw [KsAt]; exact trivial
  | x :: rest, b, off, h => by
    rw [KsAt] at h ⊢
    obtain ⟨⟨sb, sk, h1, h2⟩, h3⟩ := h
    exact ⟨⟨sb, sk, rangeAt_keep h1 hb, VAt.keep hb x h2⟩, KsAt.keep hb rest h3⟩
end
theorem KsAt.get {w : World} : ∀ {l : List Vt} {b off i : Nat} {x : Vt}, KsAt w l b off → l[i]? = some x → ∃ sb sk, w.rangeAt b (off + 35 * i) (valL x.num x.root sb sk) ∧ VAt w x sb sk
  | y :: r, b, off, 0, x, h, hx => by
    rw [KsAt] at h
    simp at hx; subst hx
    exact h.1
  | y :: r, b, off, i + 1, x, h, hx => by
    rw [KsAt] at h
    rw [List.getElem?_cons_succ] at hx
    have := KsAt.get h.2 hx
    rwa [show off + 35 + 35 * i = off + 35 * (i + 1) by omega] at this
/-- A value of the program that is this tree. -/
structure IsV (w : World) (v : Value) (x : Vt) : Prop where
  ex : ∃ sb sk, v = .agg (valL x.num x.root sb sk).toArray ∧ VAt w x sb sk
theorem IsV.keep {w w' : World} {v : Value} {x : Vt} (h : IsV w v x) (hb : Below w.heap.size w w') : IsV w' v x := by
  obtain ⟨sb, sk, e, h⟩ := h
  exact ⟨sb, sk, e, VAt.keep hb x h⟩

mutual
def sameV : Vt → Vt → Bool
  | .mk n r b k, .mk n' r' b' k' => n == n' && r == r' && b == b' && sameK k k'
def sameK : List Vt → List Vt → Bool
  | [], [] => true
  | x :: xs, y :: ys => sameV x y && sameK xs ys
  | [], _ :: _ => false
  | _ :: _, [] => false
end
mutual
theorem sameV_iff : ∀ a b : Vt, sameV a b = true ↔ a = b
  | .mk n r b k, .mk n' r' b' k' => by
    rw [sameV]
    simp only [Bool.and_eq_true, beq_iff_eq, sameK_iff k k', Vt.mk.injEq, and_assoc]
theorem sameK_iff : ∀ a b : List Vt, sameK a b = true ↔ a = b
  | [], [] => by simp [sameK]
  | x :: xs, y :: ys => by rw [sameK]; simp only [Bool.and_eq_true, sameV_iff x y, sameK_iff xs ys, List.cons.injEq]
  | [], y :: ys => by simp [sameK]
  | x :: xs, [] => by simp [sameK]
end
theorem sameV_refl (a : Vt) : sameV a a = true := (sameV_iff a a).2 rfl
end Go.Proofs.Ytckmdofmplkdfaa
