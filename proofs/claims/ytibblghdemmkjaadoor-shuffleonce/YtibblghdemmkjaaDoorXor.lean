/- Roots joined by exclusive or: plain functions and their laws. -/
import Derived.Test.YtibblghdemmkjaaDoorWiderW
namespace Go.Proofs.YtibblghdemmkjaaDoor
set_option maxRecDepth 100000
set_option linter.unusedVariables false

def xorL (a b : List Nat) : List Nat := List.zipWith (fun x y => x ^^^ y) a b
/-- Roots joined. -/
def joinR (rs : List (List Nat)) : List Nat := rs.foldl xorL (zeros 32)
/-- The first t places joined. -/
def xorUp (a b : List Nat) : Nat → List Nat
  | 0 => a
  | t + 1 => (xorUp a b t).set t (a.getD t 0 ^^^ b.getD t 0)
theorem xor_byte (a b : Nat) (ha : a < 256) (hb : b < 256) : a ^^^ b < 256 := Nat.xor_lt_two_pow (n := 8) ha hb
theorem xorUp_length (a b : List Nat) (t : Nat) : (xorUp a b t).length = a.length := by
  induction t with
  | zero => rfl
  | succ t ih => rw [xorUp, List.length_set, ih]
theorem xorUp_getD (a b : List Nat) (t i : Nat) (hi : i < a.length) : (xorUp a b t).getD i 0 = if i < t then a.getD i 0 ^^^ b.getD i 0 else a.getD i 0 := by
  induction t with
  | zero => rfl
  | succ t ih =>
    rw [xorUp, List.getD_eq_getElem?_getD, List.getElem?_set]
    by_cases h : t = i
    · subst h
      rw [if_pos rfl, if_pos (by rw [xorUp_length]; exact hi), if_pos (by omega)]
      rfl
    · rw [if_neg h, ← List.getD_eq_getElem?_getD, ih]
      by_cases h2 : i < t
      · rw [if_pos h2, if_pos (by omega)]
      · rw [if_neg h2, if_neg (by omega)]
theorem xorL_length {a b : List Nat} (ha : a.length = 32) (hb : b.length = 32) : (xorL a b).length = 32 := by
  unfold xorL; rw [List.length_zipWith, ha, hb]; rfl
theorem xorL_getD (a b : List Nat) (i : Nat) (ha : a.length = 32) (hb : b.length = 32) : (xorL a b).getD i 0 = a.getD i 0 ^^^ b.getD i 0 := by
  unfold xorL
  simp only [List.getD_eq_getElem?_getD, List.getElem?_zipWith]
  by_cases h : i < 32
  · rw [List.getElem?_eq_getElem (by omega), List.getElem?_eq_getElem (by omega)]; rfl
  · rw [List.getElem?_eq_none (by omega), List.getElem?_eq_none (by omega)]; rfl
theorem list_ext32 {a b : List Nat} (ha : a.length = 32) (hb : b.length = 32) (h : ∀ i, i < 32 → a.getD i 0 = b.getD i 0) : a = b := by
  apply List.ext_getElem (by omega)
  intro i h1 h2
  have := h i (by omega)
  simpa [List.getD_eq_getElem?_getD, h1, h2] using this
theorem xorUp_all (a b : List Nat) (ha : a.length = 32) (hb : b.length = 32) : xorUp a b 32 = xorL a b := by
  refine list_ext32 (by rw [xorUp_length, ha]) (xorL_length ha hb) fun i hi => ?_
  rw [xorUp_getD a b 32 i (by omega), if_pos hi, xorL_getD a b i ha hb]
theorem set_byte {l : List Nat} {x i : Nat} (h : ∀ z ∈ l, z < 256) (hx : x < 256) : ∀ z ∈ l.set i x, z < 256 := fun z hz => (List.mem_or_eq_of_mem_set hz).elim (h z) (fun e => e ▸ hx)
theorem Rt.getD {a : List Nat} (h : Rt a) (i : Nat) : a.getD i 0 < 256 := by
  rw [List.getD_eq_getElem?_getD]
  by_cases hi : i < a.length
  · rw [List.getElem?_eq_getElem hi]; exact h.byte _ (List.getElem_mem hi)
  · rw [List.getElem?_eq_none (by omega)]; decide
theorem xorUp_rt {a b : List Nat} (ha : Rt a) (hb : Rt b) (t : Nat) : Rt (xorUp a b t) := by
  refine ⟨by rw [xorUp_length]; exact ha.len, ?_⟩
  induction t with
  | zero => exact ha.byte
  | succ t ih => rw [xorUp]; exact set_byte ih (xor_byte _ _ (ha.getD t) (hb.getD t))
theorem xorL_rt {a b : List Nat} (ha : Rt a) (hb : Rt b) : Rt (xorL a b) := by rw [← xorUp_all a b ha.len hb.len]; exact xorUp_rt ha hb 32
theorem xorL_comm (a b : List Nat) (ha : a.length = 32) (hb : b.length = 32) : xorL a b = xorL b a :=
  list_ext32 (xorL_length ha hb) (xorL_length hb ha) fun i _ => by rw [xorL_getD a b i ha hb, xorL_getD b a i hb ha, Nat.xor_comm]
theorem xorL_assoc (a b c : List Nat) (ha : a.length = 32) (hb : b.length = 32) (hc : c.length = 32) : xorL (xorL a b) c = xorL a (xorL b c) :=
  list_ext32 (xorL_length (xorL_length ha hb) hc) (xorL_length ha (xorL_length hb hc)) fun i _ => by
    rw [xorL_getD _ c i (xorL_length ha hb) hc, xorL_getD a b i ha hb, xorL_getD a _ i ha (xorL_length hb hc), xorL_getD b c i hb hc, Nat.xor_assoc]
theorem xorL_zero (a : List Nat) (ha : a.length = 32) : xorL (zeros 32) a = a :=
  list_ext32 (xorL_length (zeros_length 32) ha) ha fun i _ => by rw [xorL_getD _ a i (zeros_length 32) ha, zeros_getD, Nat.zero_xor]
theorem xorL_self (a : List Nat) (ha : a.length = 32) : xorL a a = zeros 32 :=
  list_ext32 (xorL_length ha ha) (zeros_length 32) fun i _ => by rw [xorL_getD a a i ha ha, zeros_getD, Nat.xor_self]
theorem fold_rt (rs : List (List Nat)) : ∀ z : List Nat, Rt z → Rts rs → Rt (rs.foldl xorL z) := by
  induction rs with
  | nil => intro z hz _; exact hz
  | cons r rs ih => intro z hz h; exact ih _ (xorL_rt hz ⟨h.len r (by simp), h.byte r (by simp)⟩) h.cons
theorem joinR_rt {rs : List (List Nat)} (h : Rts rs) : Rt (joinR rs) := fold_rt rs _ zero_rt h
theorem joinR_next {rs : List (List Nat)} (k : Nat) (hk : k < rs.length) : joinR (rs.take (k + 1)) = xorL (joinR (rs.take k)) (rs.getD k []) := by
  unfold joinR
  rw [List.take_add_one, List.getElem?_eq_getElem hk, List.foldl_append]
  simp [hk]
theorem joinR_snoc (rs : List (List Nat)) (r : List Nat) : joinR (rs ++ [r]) = xorL (joinR rs) r := by unfold joinR; rw [List.foldl_append]; rfl
theorem fold_join (rs : List (List Nat)) : ∀ z : List Nat, z.length = 32 → Rts rs → rs.foldl xorL z = xorL z (joinR rs) := by
  induction rs with
  | nil => intro z hz _; rw [joinR, List.foldl_nil, List.foldl_nil, xorL_comm _ _ hz (zeros_length 32), xorL_zero z hz]
  | cons r rs ih =>
    intro z hz h
    have hr := h.len r (by simp)
    have hj := (joinR_rt h.cons).len
    have e : joinR (r :: rs) = xorL r (joinR rs) := by show List.foldl xorL (xorL (zeros 32) r) rs = _; rw [ih _ (xorL_length (zeros_length 32) hr) h.cons, xorL_zero r hr]
    rw [List.foldl_cons, ih _ (xorL_length hz hr) h.cons, e, xorL_assoc z r _ hz hr hj]
theorem joinR_append {rs ss : List (List Nat)} (h : Rts rs) (k : Rts ss) : joinR (rs ++ ss) = xorL (joinR rs) (joinR ss) := by
  rw [joinR, List.foldl_append]; exact fold_join ss _ (joinR_rt h).len k
theorem joinR_turn {rs : List (List Nat)} (h : Rts rs) (c : Nat) : joinR (rs.drop c ++ rs.take c) = joinR rs := by
  rw [joinR_append (h.drop c) (h.take c), xorL_comm _ _ (joinR_rt (h.drop c)).len (joinR_rt (h.take c)).len, ← joinR_append (h.take c) (h.drop c), List.take_append_drop]
theorem joinR_two {a b : List Nat} (ha : a.length = 32) : joinR [a, b] = xorL a b := by
  rw [joinR, List.foldl_cons, List.foldl_cons, List.foldl_nil, xorL_zero a ha]
theorem joinR_parts {rs : List (List Nat)} (h : Rts rs) (c : Nat) : joinR [joinR (rs.take c), joinR (rs.drop c)] = joinR rs := by
  rw [joinR_two (joinR_rt (h.take c)).len, ← joinR_append (h.take c) (h.drop c), List.take_append_drop]
theorem joinR_twice {a : List Nat} (ha : a.length = 32) : joinR [a, a] = zeros 32 := by rw [joinR_two ha, xorL_self a ha]
theorem joinR_one {a : List Nat} (ha : a.length = 32) : joinR [a] = a := by rw [joinR, List.foldl_cons, List.foldl_nil, xorL_zero a ha]
end Go.Proofs.YtibblghdemmkjaaDoor
