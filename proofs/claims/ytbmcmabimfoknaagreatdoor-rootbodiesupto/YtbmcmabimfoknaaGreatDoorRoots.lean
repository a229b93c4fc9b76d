/- Rows of roots in memory: 32 cells each, one behind the other; how they are read, parted and appended to. -/
import Derived.Test.YtbmcmabimfoknaaGreatDoorTree
import Derived.Deep.MidRow
import Derived.Laws.AppendOwn
namespace Go.Proofs.YtbmcmabimfoknaaGreatDoor
set_option maxRecDepth 100000
open Go.RowKit
set_option linter.unusedVariables false

/-- Each of them has 32 bytes. -/
structure Rts (rs : List (List Nat)) : Prop where
  len : ∀ r ∈ rs, r.length = 32
  byte : ∀ r ∈ rs, ∀ z ∈ r, z < 256
theorem Rts.nil : Rts [] := ⟨fun _ h => absurd h List.not_mem_nil, fun _ h => absurd h List.not_mem_nil⟩
theorem Rts.cons {r : List Nat} {rs : List (List Nat)} (h : Rts (r :: rs)) : Rts rs := ⟨fun x hx => h.len x (by simp [hx]), fun x hx => h.byte x (by simp [hx])⟩
theorem Rts.append {rs ss : List (List Nat)} (h : Rts rs) (k : Rts ss) : Rts (rs ++ ss) :=
  ⟨fun x hx => (List.mem_append.1 hx).elim (h.len x) (k.len x), fun x hx => (List.mem_append.1 hx).elim (h.byte x) (k.byte x)⟩
theorem Rts.drop {rs : List (List Nat)} (h : Rts rs) (n : Nat) : Rts (rs.drop n) := ⟨fun x hx => h.len x (List.mem_of_mem_drop hx), fun x hx => h.byte x (List.mem_of_mem_drop hx)⟩
theorem Rts.take {rs : List (List Nat)} (h : Rts rs) (n : Nat) : Rts (rs.take n) := ⟨fun x hx => h.len x (List.mem_of_mem_take hx), fun x hx => h.byte x (List.mem_of_mem_take hx)⟩
theorem Rts.one {r : List Nat} (h : r.length = 32) (k : ∀ z ∈ r, z < 256) : Rts [r] := ⟨fun x hx => by simp at hx; subst hx; exact h, fun x hx => by simp at hx; subst hx; exact k⟩
theorem Rts.set {rs : List (List Nat)} (h : Rts rs) (i : Nat) {r : List Nat} (hl : r.length = 32) (hb : ∀ z ∈ r, z < 256) : Rts (rs.set i r) :=
  ⟨fun x hx => (List.mem_or_eq_of_mem_set hx).elim (h.len x) (fun e => e ▸ hl), fun x hx => (List.mem_or_eq_of_mem_set hx).elim (h.byte x) (fun e => e ▸ hb)⟩
theorem Rts.at {rs : List (List Nat)} (h : Rts rs) (i : Nat) (hi : i < rs.length) : (rs.getD i []).length = 32 ∧ ∀ z ∈ rs.getD i [], z < 256 := by
  have e : rs.getD i [] = rs[i] := by simp [hi]
  rw [e]
  exact ⟨h.len _ (List.getElem_mem hi), h.byte _ (List.getElem_mem hi)⟩
theorem Rts.bytes {rs : List (List Nat)} (h : Rts rs) : ∀ z ∈ rs.flatten, z < 256 := fun z hz => by
  obtain ⟨r, hr, hz⟩ := List.mem_flatten.1 hz
  exact h.byte r hr z hz

theorem flat_length (rs : List (List Nat)) (h : Rts rs) : rs.flatten.length = 32 * rs.length := by
  induction rs with
  | nil => rfl
  | cons r rs ih => rw [List.flatten_cons, List.length_append, ih h.cons, h.len r (by simp), List.length_cons]; omega
theorem flat_drop (rs : List (List Nat)) (h : Rts rs) (i : Nat) : rs.flatten.drop (32 * i) = (rs.drop i).flatten := by
  induction i generalizing rs with
  | zero => rfl
  | succ i ih =>
    cases rs with
    | nil => simp
    | cons r rs =>
      have hr := h.len r (by simp)
      rw [List.flatten_cons, show 32 * (i + 1) = r.length + 32 * i by omega, List.drop_append, List.drop_succ_cons, ← ih rs h.cons]
      simp
theorem flat_take (rs : List (List Nat)) (h : Rts rs) (i : Nat) : rs.flatten.take (32 * i) = (rs.take i).flatten := by
  induction i generalizing rs with
  | zero => simp
  | succ i ih =>
    cases rs with
    | nil => simp
    | cons r rs =>
      have hr := h.len r (by simp)
      rw [List.flatten_cons, show 32 * (i + 1) = r.length + 32 * i by omega, List.take_append, List.take_succ_cons, List.flatten_cons, ← ih rs h.cons, List.take_of_length_le (by omega)]
      simp
theorem flat_at (rs : List (List Nat)) (h : Rts rs) (i : Nat) (hi : i < rs.length) : (rs.flatten.drop (32 * i)).take 32 = rs.getD i [] := by
  rw [flat_drop rs h, show (32 : Nat) = 32 * 1 from rfl, flat_take _ (h.drop i)]
  rw [List.drop_eq_getElem_cons hi, List.take_succ_cons, List.take_zero, List.flatten_cons, List.flatten_nil, List.append_nil]
  simp [hi]
theorem flat_getD (rs : List (List Nat)) (h : Rts rs) (i j : Nat) (hi : i < rs.length) (hj : j < 32) : rs.flatten.getD (32 * i + j) 0 = (rs.getD i []).getD j 0 := by
  rw [← flat_at rs h i hi]
  simp only [List.getD_eq_getElem?_getD, List.getElem?_take, if_pos hj, List.getElem?_drop]
theorem flat_set (rs : List (List Nat)) (h : Rts rs) (i : Nat) (hi : i < rs.length) (r : List Nat) (hr : r.length = 32) : rs.flatten.take (32 * i) ++ r ++ rs.flatten.drop (32 * i + 32) = (rs.set i r).flatten := by
  rw [show 32 * i + 32 = 32 * (i + 1) by omega, flat_take rs h, flat_drop rs h, List.set_eq_take_append_cons_drop, if_pos hi, List.flatten_append, List.flatten_cons, List.append_assoc]
theorem flat_inj (rs ss : List (List Nat)) (h : Rts rs) (k : Rts ss) (e : rs.flatten = ss.flatten) : rs = ss := by
  induction rs generalizing ss with
  | nil =>
    cases ss with
    | nil => rfl
    | cons s ss =>
      have := congrArg List.length e
      have hs := k.len s (by simp)
      simp only [List.flatten_nil, List.flatten_cons, List.length_append, List.length_nil, hs] at this
      omega
  | cons r rs ih =>
    cases ss with
    | nil =>
      have := congrArg List.length e
      have hr := h.len r (by simp)
      simp only [List.flatten_nil, List.flatten_cons, List.length_append, List.length_nil, hr] at this
      omega
    | cons s ss =>
      have hr := h.len r (by simp)
      have hs := k.len s (by simp)
      rw [List.flatten_cons, List.flatten_cons] at e
      obtain ⟨e1, e2⟩ := List.append_inj e (by rw [hr, hs])
      rw [e1, ih ss h.cons k.cons e2]

/-- Roots, as cells. -/
def cellsOf (rs : List (List Nat)) : List Value := rs.flatten.map fun n : Nat => Value.int .u8 (n : Int)
theorem cellsOf_append (rs ss : List (List Nat)) : cellsOf (rs ++ ss) = cellsOf rs ++ cellsOf ss := by simp [cellsOf]
theorem cellsOf_length (rs : List (List Nat)) (h : Rts rs) : (cellsOf rs).length = rs.length * 32 := by rw [cellsOf, List.length_map, flat_length rs h, Nat.mul_comm]
theorem cellsOf_one (rs : List (List Nat)) : ∀ u ∈ cellsOf rs, u.oneCell' = true := fun u hu => by obtain ⟨n, _, rfl⟩ := List.mem_map.1 hu; rfl
theorem cellsOf_inj (rs ss : List (List Nat)) (h : Rts rs) (k : Rts ss) (e : cellsOf rs = cellsOf ss) : rs = ss := by
  refine flat_inj rs ss h k (nums_inj .u8 _ _ ?_)
  unfold nums
  exact congrArg List.toArray e

/-- The slice at that address reads as these roots. -/
structure RootsAt (w : World) (ao : Option Addr) (rs : List (List Nat)) : Prop where
  rts : Rts rs
  reads : Reads w ao rs.flatten
theorem RootsAt.nil (w : World) (ao : Option Addr) : RootsAt w ao [] := ⟨Rts.nil, .inl rfl⟩
theorem RootsAt.keep {w w' : World} {ao : Option Addr} {rs : List (List Nat)} (h : RootsAt w ao rs) (hb : Below w.heap.size w w') : RootsAt w' ao rs := ⟨h.rts, h.reads.keep hb⟩
theorem RootsAt.addr {w : World} {ao : Option Addr} {rs : List (List Nat)} (h : RootsAt w ao rs) (h0 : 0 < rs.length) : ∃ b off, ao = some ⟨b, off, none⟩ ∧ ∀ i, i < 32 * rs.length → w.cell? ⟨b, off + i, none⟩ = some (.int .u8 (rs.flatten.getD i 0 : Nat)) := by
  have hl := flat_length rs h.rts
  rcases h.reads with e | ⟨b, off, e, hc⟩
  · omega
  · exact ⟨b, off, e, fun i hi => hc i (by omega)⟩
/-- One root of a row. -/
theorem RootsAt.range {w : World} {b off : Nat} {rs : List (List Nat)} (h : RootsAt w (some ⟨b, off, none⟩) rs) (i : Nat) (hi : i < rs.length) : w.rangeAt b (off + 32 * i) (nums .u8 (rs.getD i [])).toList := by
  obtain ⟨b', off', e, hc⟩ := h.addr (by omega)
  cases e
  intro j v hv
  have hn := (h.rts.at i hi).1
  have hj : j < 32 := by
    by_cases hj : j < 32
    · exact hj
    · rw [List.getElem?_eq_none (by rw [Array.length_toList, nums_size]; omega)] at hv; cases hv
  rw [Nat.add_assoc, hc (32 * i + j) (by omega), flat_getD rs h.rts i j hi hj, ← nums_get .u8 _ j (by omega)]
  simpa using hv
/-- A part of a row. -/
theorem RootsAt.part {w : World} {b off : Nat} {rs : List (List Nat)} (h : RootsAt w (some ⟨b, off, none⟩) rs) (i n : Nat) : RootsAt w (some ⟨b, off + 32 * i, none⟩) ((rs.drop i).take n) := by
  refine ⟨(h.rts.drop i).take n, ?_⟩
  by_cases h0 : rs.length ≤ i
  · rw [List.drop_eq_nil_of_le h0]; exact .inl (by simp)
  · obtain ⟨b', off', e, hc⟩ := h.addr (by omega)
    cases e
    refine .inr ⟨b, off + 32 * i, rfl, fun j hj => ?_⟩
    have hl := flat_length _ ((h.rts.drop i).take n)
    rw [List.length_take, List.length_drop] at hl
    have hm1 : min n (rs.length - i) ≤ rs.length - i := Nat.min_le_right _ _
    have hm2 : min n (rs.length - i) ≤ n := Nat.min_le_left _ _
    rw [Nat.add_assoc, hc (32 * i + j) (by omega), ← flat_take _ (h.rts.drop i), ← flat_drop rs h.rts]
    simp only [List.getD_eq_getElem?_getD]
    rw [List.getElem?_take, if_pos (by omega), List.getElem?_drop]
theorem RootsAt.first {w : World} {ao : Option Addr} {rs : List (List Nat)} (h : RootsAt w ao rs) (n : Nat) : RootsAt w ao (rs.take n) := by
  rcases ao with _ | ⟨b, off, p⟩
  · refine ⟨h.rts.take n, ?_⟩
    rcases h.reads with e | ⟨b, off, e, _⟩
    · exact .inl (by rw [← flat_take rs h.rts, List.length_take]; omega)
    · cases e
  · by_cases h0 : rs.length = 0
    · rw [List.eq_nil_of_length_eq_zero h0, List.take_nil]; exact RootsAt.nil w _
    · obtain ⟨b', off', e, hc⟩ := h.addr (by omega)
      cases e
      have := h.part 0 n
      rwa [Nat.mul_zero, Nat.add_zero, List.drop_zero] at this
/-- A row of the call's own reads as its roots. -/
theorem RootsAt.own {w : World} {base n : Nat} {e : TypeId} {v : Value} {rs : List (List Nat)} (hr : Rts rs) (h : w.ownsRow base e 32 v n (cellsOf rs)) :
    n = rs.length ∧ ∃ ao cap, v = .slice ao rs.length cap ∧ rs.length ≤ cap ∧ cap ≤ maxLen ∧ RootsAt w ao rs := by
  obtain ⟨hlen, h⟩ := h
  rw [cellsOf_length rs hr] at hlen
  obtain rfl : n = rs.length := by omega
  refine ⟨rfl, ?_⟩
  rcases h with ⟨rfl, h0⟩ | ⟨g, cap, cur, rfl, hb, hg, hnc, hm, hcs, htk⟩
  · obtain rfl : rs = [] := List.eq_nil_of_length_eq_zero h0
    exact ⟨none, 0, rfl, Nat.le_refl _, by unfold maxLen; omega, RootsAt.nil w _⟩
  · refine ⟨_, cap, rfl, hnc, hm, hr, .inr ⟨g, 0, rfl, fun i hi => ?_⟩⟩
    have hl := flat_length rs hr
    rw [Nat.zero_add, cell_of_row w g i _ _ (0, 0) hg, ← Array.getElem?_toList]
    have : (cur.toList.take (rs.length * 32))[i]? = (cellsOf rs)[i]? := by rw [htk]
    rw [List.getElem?_take, if_pos (by omega)] at this
    rw [this, cellsOf, List.getElem?_map, List.getElem?_eq_getElem hi, List.getD_eq_getElem?_getD, List.getElem?_eq_getElem hi]
    rfl

/-- Cells put one by one from a place on. -/
def setV (c : Array Value) : Nat → List Value → Array Value
  | _, [] => c
  | o, v :: vs => setV (c.setIfInBounds o v) (o + 1) vs
theorem setV_size (vs : List Value) : ∀ (c : Array Value) (o : Nat), (setV c o vs).size = c.size := by
  induction vs with
  | nil => intro c o; rfl
  | cons v vs ih => intro c o; rw [setV, ih, Array.size_setIfInBounds]
theorem setV_get (vs : List Value) : ∀ (c : Array Value) (o : Nat), o + vs.length ≤ c.size → ∀ i, (setV c o vs)[i]? = if o ≤ i ∧ i < o + vs.length then vs[i - o]? else c[i]? := by
  induction vs with
  | nil => intro c o h i; rw [setV, if_neg (by simp)]
  | cons v vs ih =>
    intro c o h i
    rw [List.length_cons] at h ⊢
    rw [setV, ih _ _ (by rw [Array.size_setIfInBounds]; omega)]
    by_cases e : i = o
    · subst e
      rw [if_neg (by omega), if_pos (by omega), Array.getElem?_setIfInBounds, if_pos rfl, if_pos (by omega), Nat.sub_self]
      rfl
    · by_cases e2 : o + 1 ≤ i ∧ i < o + 1 + vs.length
      · rw [if_pos e2, if_pos (by omega), show i - o = i - (o + 1) + 1 by omega, List.getElem?_cons_succ]
      · rw [if_neg e2, if_neg (by omega), Array.getElem?_setIfInBounds, if_neg (by omega)]
theorem heap_setCells {g : Nat} {t : TypeId} (vs : List Value) : ∀ (w : World) (c : Array Value) (o : Nat), w.heap[g]? = some (.cells c t (0, 0)) → (w.setCells g o vs).heap[g]? = some (.cells (setV c o vs) t (0, 0)) ∧ Only g w (w.setCells g o vs) := by
  induction vs with
  | nil => intro w c o h; exact ⟨h, ⟨rfl, rfl, rfl, rfl, fun _ _ => rfl⟩⟩
  | cons v vs ih =>
    intro w c o h
    rw [World.setCells, setV]
    obtain ⟨h1, h2⟩ := ih (w.setCell ⟨g, o, none⟩ v) _ (o + 1) (heap_setCell_same w g o _ t v h)
    exact ⟨h1, (Only.setCell w g o _).trans h2⟩
/-- A root of a row of the call's own, written over. -/
theorem own_set {w : World} {base n cap g : Nat} {e : TypeId} {rs : List (List Nat)} (hr : Rts rs) (h : w.ownsRow base e 32 (.slice (some ⟨g, 0, none⟩) n cap) n (cellsOf rs)) (i : Nat) (hi : i < rs.length) (r : List Nat) (hl : r.length = 32) :
    w.there g (32 * i) 32 ∧ (w.setCells g (32 * i) (nums .u8 r).toList).ownsRow base e 32 (.slice (some ⟨g, 0, none⟩) n cap) n (cellsOf (rs.set i r)) ∧ Only g w (w.setCells g (32 * i) (nums .u8 r).toList) := by
  obtain ⟨hlen, h⟩ := h
  rw [cellsOf_length rs hr] at hlen
  obtain rfl : n = rs.length := by omega
  rcases h with ⟨hv, _⟩ | ⟨g', cap', cur, hv, hb, hg, hnc, hm, hcs, htk⟩
  · cases hv
  · simp only [Value.slice.injEq, Option.some.injEq, Addr.mk.injEq] at hv
    obtain ⟨⟨rfl, _, _⟩, _, rfl⟩ := hv
    have hnl : (nums .u8 r).toList.length = 32 := by rw [Array.length_toList, nums_size, hl]
    have hfit : 32 * i + 32 ≤ cur.size := by rw [hcs]; have : i + 1 ≤ cap := by omega
                                             omega
    obtain ⟨h1, h2⟩ := heap_setCells (nums .u8 r).toList w cur (32 * i) hg
    refine ⟨fun j hj => ⟨?_, frozen_of_row w g _ _ e hg⟩, ⟨?_, .inr ⟨g, cap, _, rfl, hb, h1, hnc, hm, by rw [setV_size, hcs], ?_⟩⟩, h2⟩
    · rw [cell_of_row w g _ _ e (0, 0) hg, Array.getElem?_eq_getElem (by omega)]; rfl
    · rw [cellsOf, ← flat_set rs hr i hi r hl, List.length_map]
      have hf := flat_length rs hr
      simp only [List.length_append, List.length_take, List.length_drop, hl, hf]
      omega
    · rw [cellsOf, ← flat_set rs hr i hi r hl]
      have hf := flat_length rs hr
      have htk' : ∀ j, j < 32 * rs.length → cur[j]? = (rs.flatten[j]?).map fun n : Nat => Value.int .u8 (n : Int) := by
        intro j hj
        have : (cur.toList.take (rs.length * 32))[j]? = (cellsOf rs)[j]? := by rw [htk]
        rw [List.getElem?_take, if_pos (by omega), cellsOf, List.getElem?_map, Array.getElem?_toList] at this
        exact this
      apply List.ext_getElem?
      intro j
      rw [List.getElem?_take, List.getElem?_map]
      by_cases hj : j < rs.length * 32
      · rw [if_pos hj, Array.getElem?_toList, setV_get _ _ _ (by rw [hnl]; exact hfit), hnl]
        have ht : (rs.flatten.take (32 * i)).length = 32 * i := by rw [List.length_take]; omega
        by_cases h3 : j < 32 * i
        · rw [if_neg (by omega), List.append_assoc, List.getElem?_append_left (by omega), List.getElem?_take, if_pos h3]
          exact htk' j (by omega)
        · by_cases h4 : j < 32 * i + 32
          · rw [if_pos (by omega), List.append_assoc, List.getElem?_append_right (by omega), ht, List.getElem?_append_left (by omega)]
            simp [nums]
          · rw [if_neg (by omega), List.getElem?_append_right (by rw [List.length_append]; omega), List.length_append, ht, hl, List.getElem?_drop, show 32 * i + 32 + (j - (32 * i + 32)) = j by omega]
            exact htk' j (by omega)
      · rw [if_neg hj, List.getElem?_eq_none (by simp only [List.length_append, List.length_take, List.length_drop, hl, hf]; omega)]
        rfl

section
variable {P : Program} {w : World} {ops : Array Oper} {rest : List Oper} {o : Oper} {a : Act} {Q : Exit → Act → World → Prop}
/-- A root read out of a row. -/
theorem wpList_load_root (hgd : o.guard = none) (ty : TypeId) (x : Operand) (ho : o.op = .load ty x) (b off i : Nat) (rs : List (List Nat)) (hx : a.eval x = .pointer (some ⟨b, off + 32 * i, none⟩)) (hr : RootsAt w (some ⟨b, off, none⟩) rs) (hi : i < rs.length)
    (n : Nat) (e : TypeId) (hu : P.underlying ty = some (.array n e)) (hs : (P.info? ty).map (·.size) = some 32)
    (h : wpList P ops Q rest (a.put o.dst (.agg (nums .u8 (rs.getD i [])))) w) : wpList P ops Q (o :: rest) a w :=
  wpList_load_mid hgd ty x ho b (off + 32 * i) hx (nums .u8 (rs.getD i [])).toList _ (hr.range i hi) hu rfl (by rw [hs, Array.length_toList, nums_size, (hr.rts.at i hi).1]) (by rwa [Array.toArray_toList])
/-- A root written into a row of the call's own. -/
theorem wpList_store_root (hgd : o.guard = none) (ty : TypeId) (x y : Operand) (ho : o.op = .store ty x y) (base n cap g i : Nat) (e : TypeId) (rs : List (List Nat)) (r : List Nat) (hx : a.eval x = .pointer (some ⟨g, 32 * i, none⟩)) (hy : a.eval y = .agg (nums .u8 r))
    (hr : Rts rs) (hown : w.ownsRow base e 32 (.slice (some ⟨g, 0, none⟩) n cap) n (cellsOf rs)) (hi : i < rs.length) (hl : r.length = 32) (hs : (P.info? ty).map (·.size) = some 32)
    (h : ∀ w', w'.ownsRow base e 32 (.slice (some ⟨g, 0, none⟩) n cap) n (cellsOf (rs.set i r)) → Only g w w' → wpList P ops Q rest (a.put o.dst undef) w') : wpList P ops Q (o :: rest) a w := by
  obtain ⟨h1, h2, h3⟩ := own_set hr hown i hi r hl
  exact wpList_store_mid hgd ty x y ho g (32 * i) (nums .u8 r) hx hy (by rw [nums_size, hl]; exact h1) (by rw [hs, nums_size, hl]) (nums_one .u8 r) (h _ h2 h3)
/-- Roots appended onto a row of the call's own. -/
theorem wpList_append_roots (hgd : o.guard = none) (s x : Operand) (t : TypeId) (ho : o.op = .call { callee := .builtin .append, args := #[s, x], argTypes := #[t, t] })
    (base : Nat) (e : TypeId) (ht : P.underlying t = some (.slice e)) (hi : (P.info? e).map (fun i => (i.zero, i.size, i.bytes)) = some (some (.agg (nums .u8 (zeros 32))), 32, 32))
    (v : Value) (n : Nat) (rs ss : List (List Nat)) (hs : a.eval s = v) (hown : w.ownsRow base e 32 v n (cellsOf rs)) (hss : Rts ss) (ad : Addr) (c : Nat) (hx : a.eval x = .slice (some ad) ss.length c)
    (hc : ∀ j, j < 32 * ss.length → w.cell? (ad.add j) = some (.int .u8 (ss.flatten.getD j 0 : Nat))) (hb : n + ss.length ≤ 4398046511104) (hbase : base ≤ w.heap.size)
    (h : ∀ v' w', w'.ownsRow base e 32 v' (n + ss.length) (cellsOf (rs ++ ss)) → w.grownBy w' v.ownBlock → wpList P ops Q rest (a.put o.dst v') w') : wpList P ops Q (o :: rest) a w := by
  obtain ⟨i0, hi, hz0, hz1, hz2⟩ : ∃ i, P.info? e = some i ∧ i.zero = some (.agg (nums .u8 (zeros 32))) ∧ i.size = 32 ∧ i.bytes = 32 := by
    cases hq : P.info? e with
    | none => simp [hq] at hi
    | some i => simp [hq] at hi; exact ⟨i, rfl, hi.1, hi.2.1, hi.2.2⟩
  have hl := flat_length ss hss
  refine wpList_append_own w hgd s x t ho base e i0 (.agg (nums .u8 (zeros 32))) 32 32 ht hi hz0 hz1 hz2 (by simp [Value.cells, nums_size, zeros_length]) (by decide) v n (cellsOf rs) hs hown ad ss.length c (cellsOf ss) hx (cellsOf_length ss hss) ?_ (cellsOf_one ss) (by unfold maxLen; omega) (by omega) hbase ?_
  · intro j u hu
    have hj : j < 32 * ss.length := by
      by_cases hj : j < 32 * ss.length
      · exact hj
      · rw [List.getElem?_eq_none (by rw [cellsOf_length ss hss]; omega)] at hu; cases hu
    rw [hc j hj]
    have : j < ss.flatten.length := by omega
    rw [cellsOf, List.getElem?_map, List.getElem?_eq_getElem this] at hu
    rw [List.getD_eq_getElem?_getD, List.getElem?_eq_getElem this]
    exact hu
  · intro v' w' h1 h2 _
    rw [← cellsOf_append] at h1
    exact h v' w' h1 h2
end
end Go.Proofs.YtbmcmabimfoknaaGreatDoor
