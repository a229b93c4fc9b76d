/- make with room, append within it, and bytes as strings, over rows that are known whole. -/
import Derived.Test.YtbmcmabimfoknaaGreatDoorHex
import Derived.Deep.AppendSrc
namespace Go.Proofs.YtbmcmabimfoknaaGreatDoor
set_option maxRecDepth 100000
open Go.RowKit
set_option linter.unusedVariables false

/-- One by one from a place on. -/
def setMany (l : List Nat) : Nat → List Nat → List Nat
  | _, [] => l
  | o, c :: cs => setMany (l.set o c) (o + 1) cs
theorem setMany_length (cs : List Nat) : ∀ (l : List Nat) (o : Nat), (setMany l o cs).length = l.length := by
  induction cs with
  | nil => intro l o; rfl
  | cons c cs ih => intro l o; rw [setMany, ih, List.length_set]
theorem setMany_getD (cs : List Nat) : ∀ (l : List Nat) (o i : Nat), o + cs.length ≤ l.length → (setMany l o cs).getD i 0 = if o ≤ i ∧ i < o + cs.length then cs.getD (i - o) 0 else l.getD i 0 := by
  induction cs with
  | nil => intro l o i h; rw [setMany, if_neg (by simp)]
  | cons c cs ih =>
    intro l o i h
    simp only [List.length_cons] at h
    rw [setMany, ih _ _ _ (by rw [List.length_set]; omega), getD_set]
    by_cases h1 : o = i
    · subst h1
      rw [if_neg (by omega), if_pos ⟨rfl, by omega⟩, if_pos ⟨by omega, by simp⟩, Nat.sub_self]; rfl
    · by_cases h2 : o + 1 ≤ i ∧ i < o + 1 + cs.length
      · rw [if_pos h2, if_pos ⟨by omega, by simp; omega⟩, show i - o = (i - (o + 1)) + 1 by omega]; rfl
      · rw [if_neg h2, if_neg (by omega), if_neg (by simp; omega)]
theorem over_getD_at (l : List Nat) (o : Nat) (cs : List Nat) (i : Nat) (h : o + cs.length ≤ l.length) : (over l o cs).getD i 0 = if o ≤ i ∧ i < o + cs.length then cs.getD (i - o) 0 else l.getD i 0 := by
  unfold over
  have ht : (l.take o).length = o := by simp; omega
  rw [append_getD, append_getD, ht]
  by_cases h1 : i < o
  · rw [if_pos h1, if_neg (by omega), take_getD _ _ _ h1]
  · rw [if_neg h1]
    by_cases h2 : i - o < cs.length
    · rw [if_pos h2, if_pos (by omega)]
    · rw [if_neg h2, if_neg (by omega), drop_getD]; congr 1; omega
theorem setMany_over (l : List Nat) (o : Nat) (cs : List Nat) (h : o + cs.length ≤ l.length) : setMany l o cs = over l o cs := by
  apply ext_getD
  · rw [setMany_length, over_length _ _ _ h]
  · intro i hi
    rw [setMany_getD cs l o i h, over_getD_at l o cs i h]
theorem has_setCells {g : Nat} {t : TypeId} {k : IntKind} (cs : List Nat) : ∀ (w : World) (l : List Nat) (o : Nat), Has w g t k l → Has (w.setCells g o (cs.map fun n : Nat => Value.int k (n : Int))) g t k (setMany l o cs) ∧ Only g w (w.setCells g o (cs.map fun n : Nat => Value.int k (n : Int))) := by
  induction cs with
  | nil => intro w l o h; exact ⟨h, ⟨rfl, rfl, rfl, rfl, fun _ _ => rfl⟩⟩
  | cons c cs ih =>
    intro w l o h
    rw [List.map_cons, World.setCells, setMany]
    obtain ⟨h1, h2⟩ := ih _ _ (o + 1) (h.set o c)
    exact ⟨h1, (Only.setCell w g o _).trans h2⟩

section
variable {P : Program} {w : World} {ops : Array Oper} {rest : List Oper} {o : Oper} {a : Act} {Q : Exit → Act → World → Prop}
/-- make with room. -/
theorem wpList_make_cap (hgd : o.guard = none) (l c : Operand) (t : TypeId) (ho : o.op = Op.makeSlice t l c) (e : TypeId) (k : IntKind) (h1 : P.underlying t = some (.slice e))
    (hz : (P.info? e).map (fun i => (i.zero, i.size, i.bytes)) = some (some (.int k 0), 1, 1)) (kl kc : IntKind) (L C : Int) (n m : Nat) (hl : a.eval l = .int kl L) (hc : a.eval c = .int kc C) (hL : L = (n : Int)) (hC : C = (m : Int)) (hnm : n ≤ m) (b2 : m ≤ 281474976710656)
    (h : ∀ w', Has w' w.heap.size e k (zeros m) → Below w.heap.size w w' → w'.heap.size = w.heap.size + 1 → wpList P ops Q rest (a.put o.dst (.slice (some ⟨w.heap.size, 0, none⟩) n m)) w') : wpList P ops Q (o :: rest) a w := by
  obtain ⟨i0, hi, hz0, hz1, hz2⟩ : ∃ i, P.info? e = some i ∧ i.zero = some (.int k 0) ∧ i.size = 1 ∧ i.bytes = 1 := by
    cases hq : P.info? e with
    | none => simp [hq] at hz
    | some i => simp [hq] at hz; exact ⟨i, rfl, hz.1, hz.2.1, hz.2.2⟩
  refine wpList_plain hgd fun K hK => ?_
  have hrun := run_make (P := P) w t e i0 (.int k 0) h1 hi hz0 kl kc L C (by omega) (by omega) (by rw [hz2]; omega) (by omega)
  have hz : (madeCells (Value.int k 0).cells (C.toNat * i0.size)) = nums k (zeros m) := by
    apply Array.toList_inj.1
    rw [show (Value.int k 0).cells = #[.int k 0] from rfl, toList_madeCells_one, hz1, hC]
    unfold nums zeros
    rw [List.map_replicate]
    simp
  rw [hz] at hrun
  subst hL
  subst hC
  simp only [Int.toNat_natCast] at hrun
  have := h (w.alloc (.cells (nums k (zeros m)) e)) (heap_alloc_new w _) ((Below.refl _ _).alloc (Nat.le_refl _) _) (by simp)
  unfold Oper.wp
  simp [execOp, ho, hl, hc, hrun, Result.andThen]
  exact hK _ _ this

/-- append where there is room, onto a row of the call's own, from whatever source. -/
theorem wpList_append_has (hgd : o.guard = none) (s x : Operand) (t tx : TypeId) (ho : o.op = Op.call { callee := Callee.builtin Builtin.append, args := #[s, x], argTypes := #[t, tx] })
    (e : TypeId) (i : TypeInfo) (h1 : P.underlying t = some (.slice e)) (h2 : P.info? e = some i) (h3 : i.size = 1) (g n cap : Nat) (hs : a.eval s = .slice (some ⟨g, 0, none⟩) n cap) (v : Value) (hx : a.eval x = v)
    (k : IntKind) (l : List Nat) (t' : TypeId) (hg : Has w g t' k l) (cs : List Nat) (hsrc : Src P 1 tx v cs.length (cs.map fun n : Nat => Value.int k (n : Int)) w) (hcap : l.length = cap) (hroom : n + cs.length ≤ cap)
    (h : ∀ w', Has w' g t' k (over l n cs) → Only g w w' → wpList P ops Q rest (a.put o.dst (.slice (some ⟨g, 0, none⟩) (n + cs.length) cap)) w') : wpList P ops Q (o :: rest) a w := by
  refine wpList_plain hgd fun K hK => ?_
  have hlen : (cs.map fun n : Nat => Value.int k (n : Int)).length = cs.length := by simp
  have hrun := run_append_room_src (P := P) (w := w) t tx o.type e i h1 h2 g 0 n cap v cs.length (cs.map fun n : Nat => Value.int k (n : Int)) (by rw [h3]; exact hsrc) hroom
    (fun j hj => by rw [h3, hg.cell (0 + n * 1 + j) (by rw [hlen] at hj; omega)]; rfl) (fun j hj => hg.frozen _)
  obtain ⟨q1, q2⟩ := has_setCells cs w l (0 + n * i.size) hg
  rw [h3, Nat.zero_add, Nat.mul_one] at q1 q2
  rw [h3, Nat.zero_add, Nat.mul_one] at hrun
  rw [setMany_over l n cs (by omega)] at q1
  unfold Oper.wp
  simp [execOp, ho, resolve, invoke, builtin, hs, hx, hrun, Result.andThen]
  exact hK _ _ (h _ q1 q2)
end

/-- The first n of a row of bytes, turned into a string. -/
theorem conv_take {w : World} {b : Nat} {t : TypeId} {l : List Nat} (h : Has w b t .u8 l) (n cap : Nat) (hn : n ≤ l.length) :
    (convert 99 9 (.slice (some ⟨b, 0, none⟩) n cap)).run Tryz.prog w = .ok (.string (strOf (l.take n))) w := by
  rw [run_convert_bytes_string w 99 9 5 _ _ _ Tryz.underlying99 Tryz.underlying5 Tryz.underlying9]
  refine run_bytesToString w _ n cap ((l.take n).map fun n : Nat => (n : Int)) ?_
  have := run_loadCells_list (P := Tryz.prog) w ⟨b, 0, none⟩ ((l.take n).map fun n : Nat => Value.int .u8 (n : Int)) (fun j u hj => by
    have hjl : j < n := by
      by_cases hjl : j < n
      · exact hjl
      · rw [List.getElem?_eq_none (by simp; omega)] at hj; cases hj
    rw [Addr.add_lit, Nat.zero_add, h.cell j (by omega)]
    simpa [hjl, show j < l.length by omega] using hj)
  rw [List.length_map, List.length_take, Nat.min_eq_left hn] at this
  rw [List.map_map]
  exact this
/-- A slice that came in, turned into a string. -/
theorem conv_reads {w : World} {ao : Option Addr} {zs : List Nat} (h : Reads w ao zs) (cap : Nat) :
    (convert 99 9 (.slice ao zs.length cap)).run Tryz.prog w = .ok (.string (strOf zs)) w := by
  rw [run_convert_bytes_string w 99 9 5 _ _ _ Tryz.underlying99 Tryz.underlying5 Tryz.underlying9]
  rcases ao with _ | ad
  · rcases h with h | ⟨b, off, hb, _⟩
    · obtain rfl : zs = [] := List.eq_nil_of_length_eq_zero h
      unfold Conv.bytesToString strOf
      simp [Sem.run_pure]
    · cases hb
  · refine run_bytesToString w _ zs.length cap (zs.map fun n : Nat => (n : Int)) ?_
    have := run_loadCells_list (P := Tryz.prog) w ad (zs.map fun n : Nat => Value.int .u8 (n : Int)) (fun j u hj => by
      have hjl : j < zs.length := by
        by_cases hjl : j < zs.length
        · exact hjl
        · rw [List.getElem?_eq_none (by simp; omega)] at hj; cases hj
      obtain ⟨ad', e1, hc⟩ := h.src (by omega)
      cases e1
      rw [hc j hjl]
      simpa [hjl] using hj)
    rw [List.length_map] at this
    rw [List.map_map]
    exact this
end Go.Proofs.YtbmcmabimfoknaaGreatDoor
