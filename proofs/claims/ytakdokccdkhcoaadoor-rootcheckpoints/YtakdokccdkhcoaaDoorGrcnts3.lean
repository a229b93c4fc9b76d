/- Own texts of the proof, joined: TreeR ClsTail Part Up Depth TreeC Flow FlowG. -/
import Derived.Test.YtakdokccdkhcoaaDoorGrcnts2
import Derived.Lib.BitFns
import Derived.Deep.Light
/- Trees of roots: the plain mathematics of trees at the digest of two roots; what comes out of it is a root. -/
namespace Go.Proofs.YtakdokccdkhcoaaDoor
set_option linter.unusedVariables false

/-- The digest of two roots. -/
def pr (a b : List Nat) : List Nat := sha (a ++ b)
/-- A root: 32 bytes. -/
structure Rt (r : List Nat) : Prop where
  len : r.length = 32
  byte : ∀ z ∈ r, z < 256
theorem pr_rt (a b : List Nat) : Rt (pr a b) := ⟨sha_length _, sha_bytes _⟩
theorem zero_rt : Rt (zeros 32) := ⟨zeros_length 32, fun z hz => by unfold zeros at hz; rw [(List.mem_replicate.1 hz).2]; decide⟩
theorem Rts.rt {rs : List (List Nat)} (h : Rts rs) (i : Nat) (hi : i < rs.length) : Rt (rs.getD i []) := ⟨(h.at i hi).1, (h.at i hi).2⟩
theorem Rts.rtz {rs : List (List Nat)} (h : Rts rs) {z : List Nat} (hz : Rt z) (i : Nat) : Rt (rs.getD i z) := by
  by_cases hi : i < rs.length
  · have e : rs.getD i z = rs[i] := by simp [hi]
    rw [e]
    exact ⟨h.len _ (List.getElem_mem hi), h.byte _ (List.getElem_mem hi)⟩
  · have e : rs.getD i z = z := by simp [List.getElem?_eq_none (show rs.length ≤ i by omega)]
    rw [e]; exact hz
theorem Rt.one {r : List Nat} (h : Rt r) : Rts [r] := Rts.one h.len h.byte
theorem zeroUp_rt (d : Nat) : Rt (zeroUp pr (zeros 32) d) := by
  cases d with
  | zero => exact zero_rt
  | succ d => exact pr_rt _ _
theorem full_rt (d : Nat) (rs : List (List Nat)) (h : Rts rs) : Rt (full pr (zeros 32) d rs) := by
  cases d with
  | zero => exact h.rtz zero_rt 0
  | succ d => exact pr_rt _ _
theorem level_rts (z : List Nat) : ∀ rs : List (List Nat), Rts (level pr z rs)
  | [] => Rts.nil
  | [a] => (pr_rt a z).one
  | a :: b :: t => (pr_rt a b).one.append (level_rts z t)
theorem levels_rts (rs : List (List Nat)) (h : Rts rs) (k : Nat) : Rts (levels pr (zeros 32) rs k) := by
  cases k with
  | zero => exact h
  | succ k => exact level_rts _ _
theorem beside_rt (rs : List (List Nat)) (h : Rts rs) (i k : Nat) : Rt (beside pr (zeros 32) rs i k) := full_rt _ _ (h.drop _)
theorem branch_rts (rs : List (List Nat)) (h : Rts rs) (i k : Nat) : Rts (branch pr (zeros 32) rs i k) := by
  induction k with
  | zero => exact Rts.nil
  | succ k ih => rw [branch_succ]; exact ih.append (beside_rt rs h i k).one
theorem climb_rt (t : List (List Nat)) : ∀ (x : List Nat) (i : Nat), Rt x → Rt (climb pr x t i) := by
  induction t with
  | nil => intro x i h; exact h
  | cons b t ih =>
    intro x i h
    rw [climb]
    refine ih _ _ ?_
    split <;> exact pr_rt _ _
theorem chunkAt_rt (b : List Nat) (h : ∀ z ∈ b, z < 256) (j : Nat) : Rt (chunkAt b j) :=
  ⟨chunkAt_length b j, fun z hz => by
    unfold chunkAt at hz
    rcases List.mem_append.1 hz with e | e
    · exact h z (List.mem_of_mem_drop (List.mem_of_mem_take e))
    · rw [(List.mem_replicate.1 e).2]; decide⟩
theorem chunks_rts (b : List Nat) (h : ∀ z ∈ b, z < 256) : Rts (chunks b) :=
  ⟨fun r hr => by obtain ⟨j, _, rfl⟩ := List.mem_map.1 hr; exact (chunkAt_rt b h j).len, fun r hr => by obtain ⟨j, _, rfl⟩ := List.mem_map.1 hr; exact (chunkAt_rt b h j).byte⟩
end Go.Proofs.YtakdokccdkhcoaaDoor

/- A region that draws its order, whose operations only read and whose callees only make memory, up to a tail that waits for them all (a store at the end). -/
namespace Go.Proofs.YtakdokccdkhcoaaDoor
open Go Go.RowKit
theorem wp_region_cls_tail {P : Program} {id : Nat} {Q : Exit → Act → World → Prop} {a : Act} {w : World} {l : List Oper} (n : Nat) (hm : P.follows .mixedOrders = true) (hB : Region.lexTailB .any l.toArray n = true)
    (h : wpQuiet P l.toArray (Cls w) (fun a' => ∀ w', Cls w w' → wpList P l.toArray Q (l.drop n) a' w') (l.take n) a) : (Code.region id l.toArray true).wp P Q a w := by
  simp only [Region.lexTailB, Bool.and_eq_true, decide_eq_true_eq] at hB
  obtain ⟨⟨⟨⟨hsel, hn⟩, hs⟩, hc⟩, hlex⟩ := hB
  have h1 : n < l.length := by simpa using hn
  have h2 : (l.take n).length = n := by simp; omega
  have h3 : (l.drop n).length = l.toArray.size - n := by simp
  have H := headQ_lex (g := l.toArray.size - n) hsel hs hc hn (l.take n) 0 (Array.replicate l.toArray.size false) a (fun j hj => by rw [h2] at hj; simp [hj]) (by omega)
    ⟨by simp, fun j oj _ hx => (by rw [getD_replicate_false] at hx; cases hx), fun t _ ht => getD_in (by simpa using ht) (getD_replicate_false _ _)⟩ (by rw [h2]; exact hlex) h
  have K := any_of_headQ (Q := Q) (g := l.toArray.size - n) (fun done a' w' hw' hL => by
    have := wpAny_of_seq (md := .any) (Q' := Q) (l.drop n) n done a' w' (fun j => by simp [List.getElem?_drop]) (by rw [h3]; exact hL.1) (hL.2 w' hw')
    rwa [h3] at this) _ _ _ _ (⟨(Below.refl _ w).drew⟩ : Cls w { w with drawn := w.drawn + 1 }) H
  rw [h2, show n + (l.toArray.size - n) = l.toArray.size by omega] at K
  exact wp_region_any hm K
end Go.Proofs.YtakdokccdkhcoaaDoor

/- A made row of roots, filled root by root: what it holds; results of two. -/
namespace Go.Proofs.YtakdokccdkhcoaaDoor
open Go.RowKit
set_option linter.unusedVariables false

theorem setV_nums (k : IntKind) (l r : List Nat) (o : Nat) (h : o + r.length ≤ l.length) : setV (nums k l) o (nums k r).toList = nums k (over l o r) := by
  have hn : (nums k r).toList.length = r.length := by rw [Array.length_toList, nums_size]
  apply Array.ext_getElem?
  intro i
  rw [setV_get _ _ _ (by rw [hn, nums_size]; exact h), hn]
  unfold nums over
  simp only [List.getElem?_toArray, List.getElem?_map]
  have ht : (l.take o).length = o := by rw [List.length_take]; omega
  by_cases h1 : i < o
  · rw [if_neg (by omega), List.getElem?_append_left (by omega), List.getElem?_take, if_pos h1]
  · rw [List.getElem?_append_right (by omega), ht]
    by_cases h2 : i < o + r.length
    · rw [if_pos (by omega), List.getElem?_append_left (by omega)]
    · rw [if_neg (by omega), List.getElem?_append_right (by omega), List.getElem?_drop, show o + r.length + (i - o - r.length) = i by omega]
theorem Has.part {w : World} {g : Nat} {t : TypeId} {k : IntKind} {l : List Nat} (h : Has w g t k l) (o : Nat) (r : List Nat) (hf : o + r.length ≤ l.length) :
    w.there g o r.length ∧ Has (w.setCells g o (nums k r).toList) g t k (over l o r) ∧ Only g w (w.setCells g o (nums k r).toList) := by
  obtain ⟨h1, h2⟩ := heap_setCells (nums k r).toList w _ o h
  rw [setV_nums k l r o hf] at h1
  refine ⟨fun j hj => ⟨?_, h.frozen _⟩, h1, h2⟩
  rw [h.cell (o + j) (by omega)]; rfl
theorem HasR.at {w : World} {g : Nat} {t : TypeId} {rs : List (List Nat)} (hr : Rts rs) (h : Has w g t .u8 rs.flatten) : RootsAt w (some ⟨g, 0, none⟩) rs :=
  ⟨hr, .inr ⟨g, 0, rfl, fun i hi => by rw [Nat.zero_add]; exact h.cell i hi⟩⟩

theorem RootsAt.only {w w' : World} {b off k : Nat} {rs : List (List Nat)} (h : RootsAt w (some ⟨b, off, none⟩) rs) (ho : Only k w w') (hk : b ≠ k) : RootsAt w' (some ⟨b, off, none⟩) rs := by
  refine ⟨h.rts, ?_⟩
  rcases h.reads with e | ⟨b', off', e, hc⟩
  · exact .inl e
  · cases e
    exact .inr ⟨b, off, rfl, fun i hi => by rw [World.cell?_of_block (w := w) (a := ⟨b, off + i, none⟩) (ho.block b hk)]; exact hc i hi⟩

/-- The first t of xs, and zero roots behind, m in all. -/
def upTo (xs : List (List Nat)) (m t : Nat) : List (List Nat) := xs.take t ++ List.replicate (m - t) (zeros 32)
theorem upTo_zero (xs : List (List Nat)) (m : Nat) : (upTo xs m 0).flatten = zeros (32 * m) := by
  rw [upTo, List.take_zero, List.nil_append, Nat.sub_zero]
  unfold zeros
  rw [List.flatten_replicate_replicate, Nat.mul_comm]
theorem upTo_all (xs : List (List Nat)) (m : Nat) (h : xs.length = m) : upTo xs m m = xs := by
  rw [upTo, Nat.sub_self, List.replicate_zero, List.append_nil, List.take_of_length_le (by omega)]
theorem upTo_rts (xs : List (List Nat)) (m t : Nat) (h : Rts xs) : Rts (upTo xs m t) := by
  refine (h.take t).append ⟨fun r hr => ?_, fun r hr => ?_⟩
  · rw [(List.mem_replicate.1 hr).2]; exact zero_rt.len
  · rw [(List.mem_replicate.1 hr).2]; exact zero_rt.byte
theorem upTo_length (xs : List (List Nat)) (m t : Nat) (h : xs.length = m) (ht : t ≤ m) : (upTo xs m t).length = m := by
  rw [upTo, List.length_append, List.length_take, List.length_replicate]; omega
theorem upTo_next (xs : List (List Nat)) (m t : Nat) (hx : Rts xs) (h : xs.length = m) (ht : t < m) (r : List Nat) (e : r = xs.getD t []) : over (upTo xs m t).flatten (32 * t) r = (upTo xs m (t + 1)).flatten := by
  have hr : r.length = 32 := by rw [e]; exact (hx.at t (by omega)).1
  have hu := upTo_rts xs m t hx
  have hl := upTo_length xs m t h (by omega)
  have := flat_set (upTo xs m t) hu t (by omega) r hr
  rw [over, hr, ← List.append_assoc, this]
  congr 1
  rw [upTo, List.set_append, if_neg (by rw [List.length_take]; omega), List.length_take, show min t xs.length = t by omega, Nat.sub_self, show m - t = m - (t + 1) + 1 by omega, List.replicate_succ, List.set_cons_zero, upTo, List.take_add_one, List.append_assoc]
  rw [e]
  have : xs[t]? = some (xs.getD t []) := by simp [show t < xs.length by omega]
  rw [this]
  rfl
theorem upTo_flat (xs : List (List Nat)) (m t : Nat) (hx : Rts xs) (h : xs.length = m) (ht : t ≤ m) : (upTo xs m t).flatten.length = 32 * m := by
  rw [flat_length _ (upTo_rts xs m t hx), upTo_length xs m t h ht]

section
variable {P : Program} {w : World} {ops : Array Oper} {rest : List Oper} {o : Oper} {a : Act} {Q : Exit → Act → World → Prop}
theorem madeZ (n : Nat) : (madeCells (Value.agg (nums .u8 (zeros 32))).cells (n * 32)).toList = (zeros (32 * n)).map fun x : Nat => Value.int .u8 (x : Int) := by
  have e : (Value.agg (nums .u8 (zeros 32))).cells = nums .u8 (zeros 32) := rfl
  rw [e]
  apply List.ext_getElem?
  intro j
  unfold madeCells zeros
  rw [Array.toList_map, Array.toList_range, List.getElem?_map, List.getElem?_map, List.getElem?_replicate]
  by_cases hj : j < 32 * n
  · rw [if_pos hj, List.getElem?_range (by omega)]
    have h32 : j % 32 < 32 := Nat.mod_lt _ (by decide)
    have e2 : nums .u8 (List.replicate 32 0) = Array.replicate 32 (Value.int .u8 0) := rfl
    rw [e2]
    simp [h32]
  · rw [if_neg hj, List.getElem?_eq_none (by simp; omega)]
    rfl
/-- make: a new row of zero roots. -/
theorem wpList_make_roots (hgd : o.guard = none) (l c : Operand) (t : TypeId) (ho : o.op = Op.makeSlice t l c) (e : TypeId) (h1 : P.underlying t = some (.slice e))
    (hz : (P.info? e).map (fun i => (i.zero, i.size, i.bytes)) = some (some (.agg (nums .u8 (zeros 32))), 32, 32)) (kl kc : IntKind) (L C : Int) (n : Nat) (hl : a.eval l = .int kl L) (hc : a.eval c = .int kc C) (hL : L = (n : Int)) (hC : C = (n : Int)) (b2 : n ≤ 8796093022208)
    (h : ∀ w', Has w' w.heap.size e .u8 (zeros (32 * n)) → Below w.heap.size w w' → wpList P ops Q rest (a.put o.dst (.slice (some ⟨w.heap.size, 0, none⟩) n n)) w') : wpList P ops Q (o :: rest) a w := by
  obtain ⟨i0, hi, hz0, hz1, hz2⟩ : ∃ i, P.info? e = some i ∧ i.zero = some (.agg (nums .u8 (zeros 32))) ∧ i.size = 32 ∧ i.bytes = 32 := by
    cases hq : P.info? e with
    | none => simp [hq] at hz
    | some i => simp [hq] at hz; exact ⟨i, rfl, hz.1, hz.2.1, hz.2.2⟩
  refine wpList_make_full w hgd l c t ho w.heap.size e i0 (.agg (nums .u8 (zeros 32))) 32 h1 hi hz0 hz1 kl kc L C n hl hc hL hC (by rw [hz2]; omega) (by unfold maxLen; omega) (Nat.le_refl _) fun w' hown hgrow => ?_
  refine h w' ?_ ((Below.refl _ _).grown hgrow (Nat.le_refl _) (by simp))
  obtain ⟨hlen, ⟨hv, _⟩ | ⟨g, cap, cur, hv, hb, hg, hnc, hm, hcs, htk⟩⟩ := hown
  · cases hv
  · simp only [Value.slice.injEq, Option.some.injEq, Addr.mk.injEq] at hv
    obtain ⟨⟨hv1, _, _⟩, hv2, hv3⟩ := hv
    subst hv1
    subst hv3
    rw [List.take_of_length_le (by simp [hcs]), madeZ] at htk
    unfold Has
    rw [hg]
    have : cur = nums .u8 (zeros (32 * n)) := by
      apply Array.toList_inj.1
      rw [htk]
      simp [nums]
    rw [this]
/-- A root written into a row that was made. -/
theorem wpList_store_part (hgd : o.guard = none) (ty : TypeId) (x y : Operand) (ho : o.op = .store ty x y) (g i : Nat) (e : TypeId) (l r : List Nat) (hx : a.eval x = .pointer (some ⟨g, 32 * i, none⟩)) (hy : a.eval y = .agg (nums .u8 r))
    (hg : Has w g e .u8 l) (hr : r.length = 32) (hi : 32 * i + 32 ≤ l.length) (hs : (P.info? ty).map (·.size) = some 32)
    (h : ∀ w', Has w' g e .u8 (over l (32 * i) r) → Only g w w' → wpList P ops Q rest (a.put o.dst undef) w') : wpList P ops Q (o :: rest) a w := by
  obtain ⟨h1, h2, h3⟩ := hg.part (32 * i) r (by omega)
  exact wpList_store_mid hgd ty x y ho g (32 * i) (nums .u8 r) hx hy (by rw [nums_size]; exact h1) (by rw [hs, nums_size, hr]) (nums_one .u8 r) (h _ h2 h3)
end
/-- Two results, the first of them in an array of the call's own. -/
theorem results_cell_tmp {P : Program} {fn : Func} {p s : Tmp} {ty : TypeId} (h : fn.results = #[.cell p ty, .tmp s]) (tmps : Array Value) (w : World) (g : Nat) (t : TypeId) (k : IntKind) (l : List Nat) (n : Nat) (e : TypeId) (v : Value)
    (hp : tmps.getD p undef = .pointer (some ⟨g, 0, none⟩)) (hs : tmps.getD s undef = v) (hg : Has w g t k l) (hu : P.underlying ty = some (.array n e)) (hi : (P.info? ty).map (·.size) = some l.length) :
    (results fn tmps).run P w = .ok (.tuple #[.agg (nums k l), v]) w := by
  have hp' : tmps[p]?.getD undef = .pointer (some ⟨g, 0, none⟩) := by simpa using hp
  have hs' : tmps[s]?.getD undef = v := by simpa using hs
  simp [results, h, hp', hs', asAddr, run_loadVar_row w g t ty (nums k l) (0, 0) _ hg hu rfl (by rw [hi, nums_size])]
theorem results_tmp_cell {P : Program} {fn : Func} {p s : Tmp} {ty : TypeId} (h : fn.results = #[.tmp s, .cell p ty]) (tmps : Array Value) (w : World) (g : Nat) (t : TypeId) (k : IntKind) (l : List Nat) (n : Nat) (e : TypeId) (v : Value)
    (hp : tmps.getD p undef = .pointer (some ⟨g, 0, none⟩)) (hs : tmps.getD s undef = v) (hg : Has w g t k l) (hu : P.underlying ty = some (.array n e)) (hi : (P.info? ty).map (·.size) = some l.length) :
    (results fn tmps).run P w = .ok (.tuple #[v, .agg (nums k l)]) w := by
  have hp' : tmps[p]?.getD undef = .pointer (some ⟨g, 0, none⟩) := by simpa using hp
  have hs' : tmps[s]?.getD undef = v := by simpa using hs
  simp [results, h, hp', hs', asAddr, run_loadVar_row w g t ty (nums k l) (0, 0) _ hg hu rfl (by rw [hi, nums_size])]
theorem Tryd.rootInfo : (Tryd.prog.info? 24).map (fun i => (i.zero, i.size, i.bytes)) = some (some (.agg (nums .u8 (zeros 32))), 32, 32) := by kernel_rfl
end Go.Proofs.YtakdokccdkhcoaaDoor

/- Contracts of merkle's pick and above: one root of a level; the level above. -/
namespace Go.Proofs.YtakdokccdkhcoaaDoor
open Go.RowKit
set_option linter.unusedVariables false

/-- A root read out of a row, under a name of its own. -/
theorem wpList_load_named {P : Program} {w : World} {ops : Array Oper} {rest : List Oper} {o : Oper} {a : Act} {Q : Exit → Act → World → Prop} (hgd : o.guard = none) (ty : TypeId) (x : Operand) (ho : o.op = .load ty x) (b off i : Nat) (rs : List (List Nat)) (r : List Nat) (hq : Hid (rs.getD i [] = r)) (hx : a.eval x = .pointer (some ⟨b, off + 32 * i, none⟩)) (hr : RootsAt w (some ⟨b, off, none⟩) rs) (hi : i < rs.length)
    (n : Nat) (e : TypeId) (hu : P.underlying ty = some (.array n e)) (hs : (P.info? ty).map (·.size) = some 32)
    (h : wpList P ops Q rest (a.put o.dst (.agg (nums .u8 r))) w) : wpList P ops Q (o :: rest) a w :=
  wpList_load_root hgd ty x ho b off i rs hx hr hi n e hu hs (by rw [hq.out]; exact h)
theorem Rt.size (P : Program) {r : List Nat} (h : Rt r) {t : TypeId} (k : (P.info? t).map (·.size) = some 32) : (P.info? t).map (·.size) = some r.length := by rw [h.len]; exact k

set_option maxRecDepth 100000 in
set_option maxHeartbeats 1000000 in
theorem pick_any (ao : Option Addr) (cap : Nat) (rs : List (List Nat)) (place : Nat) (z : List Nat) (w : World) (hcap : rs.length ≤ cap) (hm : cap ≤ maxLen) (hR : RootsAt w ao rs) (hz : Rt z) (hp : place < 9223372036854775808) :
    Calls Tryd.prog 69 #[.slice ao rs.length cap, .int .i64 place, .agg (nums .u8 z)] w fun e w' => e = .returned (.agg (nums .u8 (rs.getD place z))) ∧ Below w.heap.size w w' := by
  unfold maxLen at hm
  have hrt := hR.rts.rtz hz place
  by_cases hlt : place < rs.length
  · obtain ⟨b, off, rfl, _⟩ := hR.addr (by omega)
    have eg : rs.getD place z = rs.getD place [] := by simp [hlt]
    rw [eg] at hrt ⊢
    go_enter Tryd.func69, Tryd.ntmps69
    go_wp2_with (first
      | (refine wpList_box_has rfl 5 rfl 24 (.tmp 2) rfl .u8 z rfl ?_; intro w1 H1 B1 S1)
      | (refine wpList_alloc_has rfl 6 rfl 24 rfl .u8 32 Tryd.zero24 ?_; intro w2 H2 B2 S2; have HW2 := below_more B1 B2 (Nat.le_refl _); rw [S1] at H2; have HR2 := hR.keep HW2)
      | (refine wpList_load_root rfl 24 (.tmp 13) rfl b off place rs (by rw [Nat.mul_comm]; rfl) HR2 hlt _ _ Tryd.und24 Tryd.size24 ?_)
      | (refine wpList_store_has rfl 24 (.tmp 6) (.tmp 14) rfl (w.heap.size + 1) .u8 (rs.getD place []) (zeros 32) rfl rfl 24 H2 (hrt.size _ Tryd.size24) (by rw [hrt.len, zeros_length]) ?_; intro w9 H9 O9))
    refine bodyPost_ret (results_has rfl _ _ (w.heap.size + 1) 24 .u8 (rs.getD place []) _ _ rfl H9 Tryd.und24 (hrt.size _ Tryd.size24)) rfl ?_
    exact ⟨rfl, below_only HW2 O9 (by omega)⟩
  · have eg : rs.getD place z = z := by simp [List.getElem?_eq_none (show rs.length ≤ place by omega)]
    rw [eg]
    go_enter Tryd.func69, Tryd.ntmps69
    go_wp2_with (first
      | (refine wpList_box_has rfl 5 rfl 24 (.tmp 2) rfl .u8 z rfl ?_; intro w1 H1 B1 S1)
      | (refine wpList_alloc_has rfl 6 rfl 24 rfl .u8 32 Tryd.zero24 ?_; intro w2 H2 B2 S2; have HW2 := below_more B1 B2 (Nat.le_refl _); rw [S1] at H2; have HA2 := H1.keep B2)
      | (refine wpList_load_has rfl 24 (.tmp 5) rfl w.heap.size .u8 z rfl 24 HA2 _ _ Tryd.und24 (hz.size _ Tryd.size24) ?_)
      | (refine wpList_store_has rfl 24 (.tmp 6) (.tmp 15) rfl (w.heap.size + 1) .u8 z (zeros 32) rfl rfl 24 H2 (hz.size _ Tryd.size24) (by rw [hz.len, zeros_length]) ?_; intro w9 H9 O9))
    refine bodyPost_ret (results_has rfl _ _ (w.heap.size + 1) 24 .u8 z _ _ rfl H9 Tryd.und24 (hz.size _ Tryd.size24)) rfl ?_
    exact ⟨rfl, below_only HW2 O9 (by omega)⟩

section
variable {P : Program} {ops : Array Oper} {o : Oper} {a : Act} {C : World → Prop}
/-- A root read out of a row, in a region that draws its order. -/
theorem quiet_load_root {K : Act → Prop} (ty : TypeId) (x : Operand) (ho : o.op = .load ty x) (b off i : Nat) (rs : List (List Nat)) (hx : a.eval x = .pointer (some ⟨b, off + 32 * i, none⟩)) (hr : ∀ w, C w → RootsAt w (some ⟨b, off, none⟩) rs) (hi : i < rs.length)
    (n : Nat) (e : TypeId) (hu : P.underlying ty = some (.array n e)) (hs : (P.info? ty).map (·.size) = some 32) (hk : K (a.put o.dst (.agg (nums .u8 (rs.getD i []))))) : o.quiet P a C K := by
  refine quiet_run _ (fun w hw => ?_) hk
  have hl := run_loadVar_mid (P := P) w b (off + 32 * i) ty (nums .u8 (rs.getD i [])).toList _ ((hr w hw).range i hi) hu rfl (by rw [hs, Array.length_toList, nums_size, ((hr w hw).rts.at i hi).1])
  rw [Array.toArray_toList] at hl
  unfold execOp
  simp only [ho, hx, Instr.loadAt, Instr.sureAddr, Sem.run_bind, Sem.run_pure, Result.andThen_ok, hl]
end

theorem level_at (z : List Nat) (rs : List (List Nat)) (t : Nat) (h : t < (rs.length + 1) / 2) : (level pr z rs).getD t [] = pr (rs.getD (2 * t) []) (rs.getD (2 * t + 1) z) := by
  have h1 : t < (level pr z rs).length := by rw [level_length]; exact h
  have h2 := level_getD pr z t rs
  have e1 : (level pr z rs).getD t (pr z z) = (level pr z rs).getD t [] := by simp [h1]
  have e2 : rs.getD (2 * t) z = rs.getD (2 * t) [] := by simp [show 2 * t < rs.length by omega]
  rw [← e1, h2, e2]

set_option maxRecDepth 100000 in
set_option maxHeartbeats 2000000 in
theorem above_any (ao : Option Addr) (cap : Nat) (rs : List (List Nat)) (z : List Nat) (w : World) (hT : Tabs w) (hcap : rs.length ≤ cap) (hm : cap ≤ maxLen) (hlen : rs.length ≤ 8796093022208) (hR : RootsAt w ao rs) (hz : Rt z) :
    Calls Tryd.prog 68 #[.slice ao rs.length cap, .agg (nums .u8 z)] w fun e w' => ∃ g, w.heap.size ≤ g ∧ e = .returned (.tuple #[.slice (some ⟨g, 0, none⟩) ((rs.length + 1) / 2 : Nat) ((rs.length + 1) / 2 : Nat), .agg (nums .u8 (pr z z))]) ∧ RootsAt w' (some ⟨g, 0, none⟩) (level pr z rs) ∧ Below w.heap.size w w' := by
  have hm' := hm
  unfold maxLen at hm
  have hX : Rts (level pr z rs) := level_rts z rs
  have hXl : (level pr z rs).length = (rs.length + 1) / 2 := level_length pr z rs
  go_enter Tryd.func68, Tryd.ntmps68
  go_wp2_with (first
    | (refine wpList_box_has rfl 3 rfl 24 (.tmp 1) rfl .u8 z rfl ?_; intro w1 H1 B1 S1)
    | (refine wpList_alloc_has rfl 5 rfl 24 rfl .u8 32 Tryd.zero24 ?_; intro w2 H2 B2 S2; have HW2 := below_more B1 B2 (Nat.le_refl _); rw [S1] at H2; have HA2 := H1.keep B2)
    | (refine wpList_make_roots rfl (.tmp 11) (.tmp 11) 91 rfl 24 Tryd.underlying91 Tryd.rootInfo .i64 .i64 _ _ ((rs.length + 1) / 2) rfl rfl (by omega) (by omega) (by omega) ?_; intro w3 H3 B3; have HW3 := below_more HW2 B3 (Nat.le_refl _); have HA3 := HA2.keep B3; have HZ3 := H2.keep B3))
  rw [S2, S1] at H3
  have em : ((rs.length : Int) + 1) / 2 = (((rs.length + 1) / 2 : Nat) : Int) := by omega
  rw [em]
  have hm2 : 2 * ((rs.length + 1) / 2) ≤ rs.length + 1 := by omega
  have hlv : ∀ t, t < (rs.length + 1) / 2 → (level pr z rs).getD t [] = pr (rs.getD (2 * t) []) (rs.getD (2 * t + 1) z) := level_at z rs
  rw [← upTo_zero (level pr z rs) ((rs.length + 1) / 2)] at H3
  clear em H1 H2 B1 B2 B3 S1 S2 HA2 HW2
  generalize hgm : (rs.length + 1) / 2 = m at *
  replace hlv := hid hlv
  go_loopw [7, 15] (fun _ i wr => ∃ t : Nat, t ≤ m ∧ i = .int .i64 t ∧ Has wr (w.heap.size + 1 + 1) 24 .u8 (upTo (level pr z rs) m t).flatten ∧ Has wr w.heap.size 24 .u8 z ∧ Has wr (w.heap.size + 1) 24 .u8 (zeros 32) ∧ Below w.heap.size w wr) (fun _ i _ => m - (intOf i).toNat)
  case atStart => exact ⟨0, by omega, rfl, H3, HA3, HZ3, HW3⟩
  case round =>
    clear H3 HA3 HZ3 HW3
    obtain ⟨t, ht, rfl, HN, HA, HZ, HW⟩ := hrel
    by_cases hlt : t < m
    · obtain ⟨b, off, rfl, _⟩ := hR.addr (by omega)
      have h2t : 2 * t < rs.length := by omega
      have HRq := hid (fun wq (hq : Cls wr wq) => (hR.keep HW).keep hq.bel)
      have HAq := hid (fun wq (hq : Cls wr wq) => HA.keep hq.bel)
      have hr1 := hR.rts.rt (2 * t) h2t
      have hr2 := hR.rts.rtz hz (2 * t + 1)
      have HPk := hid (fun wq (hq : Cls wr wq) => pick_any (some ⟨b, off, none⟩) cap rs (2 * t + 1) z wq hcap hm' (HRq.out wq hq) hz (by omega))
      have HPr := hid (fun wq (hq : Cls wr wq) => pair_any (rs.getD (2 * t) []) (rs.getD (2 * t + 1) z) hr1.len hr2.len hr1.byte hr2.byte wq ((hT.keep HW).keep hq.bel))
      have hnx := hid (upTo_next (level pr z rs) m t hX hXl hlt _ (hlv.out t hlt).symm)
      have hfl := hid (upTo_flat (level pr z rs) m t hX hXl ht)
      have hpr := hid (pr_rt (rs.getD (2 * t) []) (rs.getD (2 * t + 1) z))
      go_wp2
      refine wp_region_cls_tail 15 (by kernel_rfl) (by kernel_rfl) ?_
      simp only [List.take_succ_cons, List.take_zero, List.drop_succ_cons, List.drop_zero]
      go_big_quiet_step (fail)
      go_big_quiet_step (fail)
      go_big_quiet_step (fail)
      go_big_quiet_step (fail)
      go_big_quiet_step (exact fun _ => rfl)
      go_big_quiet_step (exact fun _ => rfl)
      go_big_quiet_want
      refine quiet_load_root 24 (.tmp 23) rfl b off (2 * t) rs (by first | (rw [Nat.mul_comm]; rfl) | (simp [Act.eval]; omega)) HRq.out h2t _ _ Tryd.und24 Tryd.size24 ?_
      simp only [Act.put, List.setIfInBounds_toArray, List.set_cons_succ, List.set_cons_zero]
      go_big_quiet_on
      go_big_quiet_step (fail)
      go_big_quiet_step (fail)
      go_big_quiet_step (exact fun _ => rfl)
      go_big_quiet_step (exact fun _ => rfl)
      go_big_quiet_want
      refine quiet_load 24 (.tmp 3) rfl w.heap.size .u8 z rfl 24 HAq.out _ _ Tryd.und24 (hz.size _ Tryd.size24) ?_
      simp only [Act.put, List.setIfInBounds_toArray, List.set_cons_succ, List.set_cons_zero]
      go_big_quiet_on
      go_big_quiet_want
      refine quiet_call 69 #[.slice (some ⟨b, off, none⟩) rs.length cap, .int .i64 ((2 * t + 1 : Nat) : Int), .agg (nums .u8 z)] (.agg (nums .u8 (rs.getD (2 * t + 1) z))) (fun _ => by simp [go_sem]) (fun wq hq => (HPk.out wq hq).mono fun e w' h => ⟨h.1, hq.more h.2⟩) ?_
      simp only [Act.put, List.setIfInBounds_toArray, List.set_cons_succ, List.set_cons_zero]
      go_big_quiet_on
      go_big_quiet_want
      refine quiet_call 11 #[.agg (nums .u8 (rs.getD (2 * t) [])), .agg (nums .u8 (rs.getD (2 * t + 1) z))] (.agg (nums .u8 (pr (rs.getD (2 * t) []) (rs.getD (2 * t + 1) z)))) (fun _ => by simp [go_sem]) (fun wq hq => (HPr.out wq hq).mono fun e w' h => ⟨h.1, hq.more h.2⟩) ?_
      simp only [Act.put, List.setIfInBounds_toArray, List.set_cons_succ, List.set_cons_zero]
      go_big_quiet_on
      go_big_quiet_step (exact fun _ => rfl)
      refine wpQuiet_nil ?_
      intro w5 hq
      have HN5 := HN.keep hq.bel
      refine wpList_store_part rfl 24 (.tmp 32) (.tmp 31) rfl (w.heap.size + 1 + 1) t 24 _ (pr (rs.getD (2 * t) []) (rs.getD (2 * t + 1) z)) (by rw [Nat.mul_comm 32 t]; rfl) rfl HN5 hpr.out.len (by rw [hfl.out]; omega) Tryd.size24 ?_
      intro w6 H6 O6
      rw [hnx.out] at H6
      go_wp2
      go_roundw
      case rel =>
        exact ⟨t + 1, by omega, by go_num, H6, (HA.keep hq.bel).only O6 (by omega), (HZ.keep hq.bel).only O6 (by omega), below_only (below_more HW hq.bel (Nat.le_refl _)) O6 (by omega)⟩
      case measure => simp [intOf]; omega
    · have ht2 : t = m := by omega
      subst ht2
      rw [upTo_all _ _ hXl] at HN
      go_wp2_with (first
        | (refine wpList_load_has rfl 24 (.tmp 3) rfl w.heap.size .u8 z rfl 24 HA _ _ Tryd.und24 (hz.size _ Tryd.size24) ?_)
        | (go_at_call 11; refine (pair_any z z hz.len hz.len hz.byte hz.byte wr (hT.keep HW)).mono ?_; rintro e w7 ⟨rfl, B7⟩)
        | (refine wpList_store_has rfl 24 (.tmp 5) (.tmp 37) rfl (w.heap.size + 1) .u8 (pr z z) (zeros 32) rfl rfl 24 (HZ.keep B7) ((pr_rt z z).size _ Tryd.size24) (by rw [(pr_rt z z).len, zeros_length]) ?_; intro w9 H9 O9))
      refine bodyPost_ret (results_tmp_cell rfl _ _ (w.heap.size + 1) 24 .u8 (pr z z) _ _ _ rfl rfl H9 Tryd.und24 ((pr_rt z z).size _ Tryd.size24)) rfl ?_
      rw [hgm]
      exact ⟨w.heap.size + 1 + 1, by omega, rfl, HasR.at hX ((HN.keep B7).only O9 (by omega)), below_only (below_more HW B7 (Nat.le_refl _)) O9 (by omega)⟩
end Go.Proofs.YtakdokccdkhcoaaDoor

/- Contracts of the depth of a tree: merkle's, over the library's count of bits, and the document's. -/
namespace Go.Proofs.YtakdokccdkhcoaaDoor
open Go.RowKit
set_option linter.unusedVariables false

section
variable {P : Program} {w : World} {ops : Array Oper} {rest : List Oper} {o : Oper} {a : Act} {Q : Exit → Act → World → Prop}
theorem wpList_len8 (hgd : o.guard = none) (t : TypeId) (x y : Operand) (ho : o.op = .index t x y) (s : ByteArray) (hx : a.eval x = .string s) (hs : s = Lib.len8tab) (i : Int) (hy : a.eval y = .int .u8 (i % 256)) (hu : P.underlying t = some .string)
    (h : wpList P ops Q rest (a.put o.dst (.int .u8 (Lib.len8 (i % 256)))) w) : wpList P ops Q (o :: rest) a w := by
  refine wpList_plain hgd fun K hK => ?_
  subst hs
  have hr := Lib.run_index_len8tab_mod (P := P) (w := w) t .u8 i hu
  unfold Oper.wp execOp
  simp only [ho, hx, hy, hr, Sem.run_bind, Result.andThen_ok, Sem.run_pure]
  exact hK _ _ h
end
theorem tab_size : Lib.len8tab.size = 256 := by kernel_rfl
theorem tab_get (S : ByteArray) (HS : S = Lib.len8tab) (n : Nat) (h : n < S.size) : (S[n]'h).toNat = Lib.bitLen n := by
  have hn : n < 256 := by rw [HS, tab_size] at h; exact h
  have h1 := Lib.len8_eq ⟨n, hn⟩
  have e : ((S[n]'h).toNat : Int) = Lib.len8 (n : Int) := by
    unfold Lib.len8
    rw [← HS, Int.toNat_natCast, getElem?_pos S n h]
    rfl
  have := e.trans h1
  exact Int.ofNat_inj.1 this
/-- The last byte's count of bits, and the bits below. -/
theorem len_end (x q b k : Nat) (hb : b = Lib.bitLen q) (hq : q < 256) (h1 : x < 18446744073709551616) (e : q = x / 2 ^ k) (h2 : 2 ^ k ≤ x ∨ k = 0) : b ≤ 8 ∧ k + b = Lib.bitLen x := by
  subst hb
  refine ⟨Lib.bitLen_le8 ⟨q, hq⟩, ?_⟩
  rw [e]
  rcases h2 with h | rfl
  · exact (Lib.bitLen_shift k _ h h1).symm
  · simp
theorem wrap_end (k b : Nat) (hk : k ≤ 56) (hb : b ≤ 8) : wrap64 ((k : Int) + wrap64 (b : Int)) = ((k + b : Nat) : Int) := by
  unfold wrap64; omega

set_option maxRecDepth 100000 in
set_option maxHeartbeats 4000000 in
theorem len64_any (x : Int) (h0 : 0 ≤ x) (h1 : x ≤ 18446744073709551615) (w : World) :
    Calls Tryd.prog 82 #[.int .u64 x] w fun e w' => e = .returned (.int .i64 (Lib.bitLen x.toNat)) ∧ w' = w := by
  go_enter Tryd.func82, Tryd.ntmps82
  generalize hS : ByteArray.mk _ = S
  have HS : Hid (S = Lib.len8tab) := hid (by rw [← hS]; kernel_rfl)
  have hsz : S.size = 256 := by rw [HS.out]; exact tab_size
  clear hS
  go_wp2
  all_goals (try (go_ret; refine ⟨congrArg Ending.returned (congrArg (Value.int IntKind.i64) ?_), rfl⟩; go_light))
  · obtain ⟨b8, eb⟩ := len_end x.toNat (x / 4294967296 / 65536 / 256).toNat _ 56 (tab_get S HS.out _ (by omega)) (by omega) (by omega) (by omega) (.inl (by omega))
    rw [← eb]; exact wrap_end 56 _ (by decide) b8
  · obtain ⟨b8, eb⟩ := len_end x.toNat (x / 4294967296 / 65536).toNat _ 48 (tab_get S HS.out _ (by omega)) (by omega) (by omega) (by omega) (.inl (by omega))
    rw [← eb]; exact wrap_end 48 _ (by decide) b8
  · obtain ⟨b8, eb⟩ := len_end x.toNat (x / 4294967296 / 256).toNat _ 40 (tab_get S HS.out _ (by omega)) (by omega) (by omega) (by omega) (.inl (by omega))
    rw [← eb]; exact wrap_end 40 _ (by decide) b8
  · obtain ⟨b8, eb⟩ := len_end x.toNat (x / 4294967296).toNat _ 32 (tab_get S HS.out _ (by omega)) (by omega) (by omega) (by omega) (.inl (by omega))
    rw [← eb]; exact wrap_end 32 _ (by decide) b8
  · obtain ⟨b8, eb⟩ := len_end x.toNat (x / 65536 / 256).toNat _ 24 (tab_get S HS.out _ (by omega)) (by omega) (by omega) (by omega) (.inl (by omega))
    rw [← eb]; exact wrap_end 24 _ (by decide) b8
  · obtain ⟨b8, eb⟩ := len_end x.toNat (x / 65536).toNat _ 16 (tab_get S HS.out _ (by omega)) (by omega) (by omega) (by omega) (.inl (by omega))
    rw [← eb]; exact wrap_end 16 _ (by decide) b8
  · obtain ⟨b8, eb⟩ := len_end x.toNat (x / 256).toNat _ 8 (tab_get S HS.out _ (by omega)) (by omega) (by omega) (by omega) (.inl (by omega))
    rw [← eb]; exact wrap_end 8 _ (by decide) b8
  · obtain ⟨b8, eb⟩ := len_end x.toNat x.toNat _ 0 (tab_get S HS.out _ (by omega)) (by omega) (by omega) (by simp) (.inr rfl)
    rw [← eb]
    have := wrap_end 0 _ (by decide) b8
    simpa using this

theorem len_any (x : Int) (h0 : 0 ≤ x) (h1 : x ≤ 18446744073709551615) (w : World) :
    Calls Tryd.prog 77 #[.int .u64 x] w fun e w' => e = .returned (.int .i64 (Lib.bitLen x.toNat)) ∧ w' = w := by
  go_enter Tryd.func77, Tryd.ntmps77
  go_wp2_with fail
  refine (len64_any x h0 h1 w).mono ?_
  rintro e w' ⟨rfl, rfl⟩
  go_wp2
  go_ret
  exact ⟨rfl, rfl⟩

/-- A number's count of bits. -/
theorem bitLen_spec (x : Nat) (hx : x < 18446744073709551616) : x < 2 ^ Lib.bitLen x ∧ ∀ e, e < Lib.bitLen x → 2 ^ e ≤ x := by
  suffices H : ∀ f y, y < 2 ^ f → y < 2 ^ Lib.bitLenAux f y ∧ ∀ e, e < Lib.bitLenAux f y → 2 ^ e ≤ y from H 64 x (by omega)
  intro f
  induction f with
  | zero => intro y hy; exact ⟨by simpa [Lib.bitLenAux] using hy, fun e he => by simp [Lib.bitLenAux] at he⟩
  | succ f ih =>
    intro y hy
    rw [Lib.bitLenAux]
    split
    · rename_i h; subst h; exact ⟨by decide, fun e he => by omega⟩
    · rename_i h
      obtain ⟨i1, i2⟩ := ih (y / 2) (by rw [Nat.pow_succ] at hy; omega)
      refine ⟨by rw [Nat.add_comm, Nat.pow_succ]; omega, fun e he => ?_⟩
      cases e with
      | zero => simp; omega
      | succ e => have := i2 e (by omega); rw [Nat.pow_succ]; omega
theorem depth_len (m : Int) (h1 : 1 < m) (h2 : m ≤ 9223372036854775807) : depth m = min (Lib.bitLen (m - 1).toNat) 62 := by
  obtain ⟨i1, i2⟩ := bitLen_spec (m - 1).toNat (by omega)
  generalize Lib.bitLen (m - 1).toNat = L at *
  have cast : ∀ e : Nat, ((2 ^ e : Nat) : Int) = (2 : Int) ^ e := fun e => by simp
  refine depth_at m (min L 62) (Nat.min_le_right _ _) (fun e he => ?_) ?_
  · have := i2 e (by omega)
    rw [← cast]; omega
  · by_cases h : L ≤ 62
    · right
      rw [Nat.min_eq_left h, ← cast]; omega
    · left; omega
theorem depth_low (m : Int) (h : m ≤ 1) : depth m = 0 := depth_at m 0 (by decide) (fun e he => by omega) (.inr (by simpa using h))

set_option maxRecDepth 100000 in
theorem depth_any (m : Int) (h0 : -9223372036854775808 ≤ m) (h1 : m ≤ 9223372036854775807) (w : World) :
    Calls Tryd.prog 67 #[.int .i64 m] w fun e w' => e = .returned (.int .i64 (depth m)) ∧ w' = w := by
  by_cases hm : m ≤ 1
  · rw [depth_low m hm]
    go_enter Tryd.func67, Tryd.ntmps67
    go_wp2
    go_ret
    exact ⟨rfl, rfl⟩
  · have hd := depth_len m (by omega) h1
    have hb : Lib.bitLen (m - 1).toNat ≤ 64 := Lib.bitLen_le _ 64 (by omega) (by omega)
    have HL := hid (fun w => len_any (m - 1) (by omega) (by omega) w)
    rw [hd]
    clear hd
    generalize Lib.bitLen (m - 1).toNat = L at *
    by_cases hl : L ≤ 62
    · rw [Nat.min_eq_left hl]
      go_enter Tryd.func67, Tryd.ntmps67
      go_wp2_with fail
      refine (HL.out w).mono ?_
      rintro e w' ⟨rfl, rfl⟩
      go_wp2
      go_ret
      exact ⟨rfl, rfl⟩
    · rw [Nat.min_eq_right (by omega)]
      go_enter Tryd.func67, Tryd.ntmps67
      go_wp2_with fail
      refine (HL.out w).mono ?_
      rintro e w' ⟨rfl, rfl⟩
      go_wp2
      go_ret
      exact ⟨rfl, rfl⟩

theorem depth_next (m : Int) (d : Nat) (hd : d < 62) (hb : ∀ e, e < d → (2 ^ e : Int) < m) (h : (2 ^ d : Int) < m) : ∀ e, e < d + 1 → (2 ^ e : Int) < m := fun e he => by
  by_cases h2 : e < d
  · exact hb e h2
  · rw [show e = d by omega]; exact h
end Go.Proofs.YtakdokccdkhcoaaDoor

/- Contracts of merkle's Zero and Tree. -/
namespace Go.Proofs.YtakdokccdkhcoaaDoor
open Go.RowKit
set_option linter.unusedVariables false

/-- Zero roots above each other; full trees; levels: of the digest of two roots. -/
abbrev zUp (d : Nat) : List Nat := zeroUp pr (zeros 32) d
abbrev fullR (d : Nat) (rs : List (List Nat)) : List Nat := full pr (zeros 32) d rs
abbrev lvl (rs : List (List Nat)) (k : Nat) : List (List Nat) := levels pr (zeros 32) rs k
theorem zUp_succ (d : Nat) : zUp (d + 1) = pr (zUp d) (zUp d) := rfl
theorem lvl_le (rs : List (List Nat)) (k : Nat) : (lvl rs k).length ≤ rs.length := by
  induction k with
  | zero => exact Nat.le_refl _
  | succ k ih => have := levels_length pr (zeros 32) rs k; unfold lvl at *; omega

set_option maxRecDepth 100000 in
set_option maxHeartbeats 1000000 in
theorem zero_any (d : Int) (h0 : -9223372036854775808 ≤ d) (h1 : d ≤ 2147483647) (w : World) (hT : Tabs w) :
    Calls Tryd.prog 27 #[.int .i64 d] w fun e w' => e = .returned (.agg (nums .u8 (zUp d.toNat))) ∧ Below w.heap.size w w' := by
  go_enter Tryd.func27, Tryd.ntmps27
  go_wp2_with (first
    | (refine wpList_alloc_has rfl 2 rfl 24 rfl .u8 32 Tryd.zero24 ?_; intro w1 H1 B1 S1)
    | (refine wpList_alloc_has rfl 3 rfl 24 rfl .u8 32 Tryd.zero24 ?_; intro w2 H2 B2 S2; have HW2 := below_more B1 B2 (Nat.le_refl _); rw [S1] at H2; have HA2 := H1.keep B2))
  clear H1 B1 B2 S1 S2
  go_loopw [8] (fun i wr => ∃ t : Nat, t ≤ d.toNat ∧ i = .int .i64 t ∧ Has wr (w.heap.size + 1) 24 .u8 (zUp t) ∧ Has wr w.heap.size 24 .u8 (zeros 32) ∧ Below w.heap.size w wr) (fun i _ => d.toNat - (intOf i).toNat)
  case atStart => exact ⟨0, by omega, rfl, H2, HA2, HW2⟩
  case round =>
    clear H2 HA2 HW2
    obtain ⟨t, ht, rfl, HZ, HA, HW⟩ := hrel
    have hz := zeroUp_rt t
    by_cases hlt : (t : Int) < d
    · go_wp2_with (first
        | (refine wpList_load_has rfl 24 (.tmp 3) rfl (w.heap.size + 1) .u8 (zUp t) rfl 24 HZ _ _ Tryd.und24 (hz.size _ Tryd.size24) ?_)
        | (go_at_call 11; refine (pair_any (zUp t) (zUp t) hz.len hz.len hz.byte hz.byte wr (hT.keep HW)).mono ?_; rintro e w7 ⟨rfl, B7⟩)
        | (refine wpList_store_has rfl 24 (.tmp 3) (.tmp 12) rfl (w.heap.size + 1) .u8 (zUp (t + 1)) (zUp t) rfl rfl 24 (HZ.keep B7) ((zeroUp_rt (t + 1)).size _ Tryd.size24) (by rw [hz.len, (zeroUp_rt (t + 1)).len]) ?_; intro w9 H9 O9))
      go_roundw
      case rel =>
        exact ⟨t + 1, by omega, by go_num, H9, (HA.keep B7).only O9 (by omega), below_only (below_more HW B7 (Nat.le_refl _)) O9 (by omega)⟩
      case measure => simp [intOf]; omega
    · have ht2 : t = d.toNat := by omega
      go_wp2_with (first
        | (refine wpList_load_has rfl 24 (.tmp 3) rfl (w.heap.size + 1) .u8 (zUp t) rfl 24 HZ _ _ Tryd.und24 (hz.size _ Tryd.size24) ?_)
        | (refine wpList_store_has rfl 24 (.tmp 2) (.tmp 14) rfl w.heap.size .u8 (zUp t) (zeros 32) rfl rfl 24 HA (hz.size _ Tryd.size24) (by rw [hz.len, zeros_length]) ?_; intro w9 H9 O9))
      refine bodyPost_ret (results_has rfl _ _ w.heap.size 24 .u8 (zUp t) _ _ rfl H9 Tryd.und24 (hz.size _ Tryd.size24)) rfl ?_
      rw [← ht2]
      exact ⟨rfl, below_only HW O9 (by omega)⟩

set_option maxRecDepth 100000 in
set_option maxHeartbeats 1000000 in
theorem tree_bad (ao : Option Addr) (cap : Nat) (rs : List (List Nat)) (m : Int) (w : World) (hcap : rs.length ≤ cap) (hm : cap ≤ maxLen) (h0 : -9223372036854775808 ≤ m) (h1 : m ≤ 9223372036854775807) (hbad : m < 0 ∨ m < (rs.length : Int)) :
    Calls Tryd.prog 61 #[.slice ao rs.length cap, .int .i64 m] w fun e w' => e = .returned (.tuple #[.agg (nums .u8 (zeros 32)), .int .i64 4]) ∧ Below w.heap.size w w' := by
  unfold maxLen at hm
  have hzr := zero_rt
  by_cases hneg : m < 0
  · go_enter Tryd.func61, Tryd.ntmps61
    go_wp2_with (first
      | (refine wpList_alloc_has rfl 4 rfl 24 rfl .u8 32 Tryd.zero24 ?_; intro w1 H1 B1 S1)
      | (refine wpList_build_has rfl 24 _ rfl .u8 (zeros 32) (by kernel_rfl) ?_)
      | (refine wpList_store_has rfl 24 (.tmp 4) (.tmp 16) rfl w.heap.size .u8 (zeros 32) (zeros 32) rfl rfl 24 H1 (hzr.size _ Tryd.size24) rfl ?_; intro w9 H9 O9))
    refine bodyPost_ret (results_cell_tmp rfl _ _ w.heap.size 24 .u8 (zeros 32) _ _ _ rfl rfl H9 Tryd.und24 (hzr.size _ Tryd.size24)) rfl ?_
    exact ⟨rfl, below_only B1 O9 (Nat.le_refl _)⟩
  · have hlt : m < (rs.length : Int) := by omega
    go_enter Tryd.func61, Tryd.ntmps61
    go_wp2_with (first
      | (refine wpList_alloc_has rfl 4 rfl 24 rfl .u8 32 Tryd.zero24 ?_; intro w1 H1 B1 S1)
      | (refine wpList_build_has rfl 24 _ rfl .u8 (zeros 32) (by kernel_rfl) ?_)
      | (refine wpList_store_has rfl 24 (.tmp 4) (.tmp 16) rfl w.heap.size .u8 (zeros 32) (zeros 32) rfl rfl 24 H1 (hzr.size _ Tryd.size24) rfl ?_; intro w9 H9 O9))
    refine bodyPost_ret (results_cell_tmp rfl _ _ w.heap.size 24 .u8 (zeros 32) _ _ _ rfl rfl H9 Tryd.und24 (hzr.size _ Tryd.size24)) rfl ?_
    exact ⟨rfl, below_only B1 O9 (Nat.le_refl _)⟩

set_option maxRecDepth 100000 in
set_option maxHeartbeats 2000000 in
theorem tree_any (ao : Option Addr) (cap : Nat) (rs : List (List Nat)) (m : Int) (w : World) (hT : Tabs w) (hcap : rs.length ≤ cap) (hm : cap ≤ maxLen) (hlen : rs.length ≤ 8796093022208) (hR : RootsAt w ao rs) (h0 : (rs.length : Int) ≤ m) (h1 : m ≤ 9223372036854775807) :
    Calls Tryd.prog 61 #[.slice ao rs.length cap, .int .i64 m] w fun e w' => e = .returned (.tuple #[.agg (nums .u8 (fullR (depth m) rs)), .int .i64 0]) ∧ Below w.heap.size w w' := by
  have hm' := hm
  unfold maxLen at hm
  have hzr := zero_rt
  have hd62 := depth_le m
  have HD := hid (fun w => depth_any m (by omega) h1 w)
  have hfull : fullR (depth m) rs = (lvl rs (depth m)).getD 0 (zUp (depth m)) := full_top pr (zeros 32) rs (depth m)
  have hmn : ¬ m < 0 := by omega
  have hml : ¬ m < (rs.length : Int) := by omega
  rw [hfull]
  clear hfull
  generalize depth m = d at *
  go_enter Tryd.func61, Tryd.ntmps61
  go_wp2_with (first
    | (refine wpList_alloc_has rfl 4 rfl 24 rfl .u8 32 Tryd.zero24 ?_; intro w1 H1 B1 S1)
    | (refine wpList_build_has rfl 24 _ rfl .u8 (zeros 32) (by kernel_rfl) ?_)
    | (refine wpList_alloc_has rfl 7 rfl 24 rfl .u8 32 Tryd.zero24 ?_; intro w2 H2 B2 S2; rw [S1] at H2)
    | (refine wpList_store_has rfl 24 (.tmp 7) (.tmp 18) rfl (w.heap.size + 1) .u8 (zeros 32) (zeros 32) rfl rfl 24 H2 (hzr.size _ Tryd.size24) rfl ?_; intro w3 H3 O3)
    | (go_at_call 67; refine (HD.out _).mono ?_; rintro e w4 ⟨rfl, rfl⟩))
  have HW3 := below_only (below_more B1 B2 (Nat.le_refl _)) O3 (by omega)
  have HA3 := (H1.keep B2).only O3 (by omega)
  clear H1 B1 H2 B2 S1 S2 O3
  go_loopw [6, 21] (fun v i wr => ∃ t : Nat, t ≤ d ∧ i = .int .i64 t ∧ (∃ ap c, v = .slice ap (lvl rs t).length c ∧ (lvl rs t).length ≤ c ∧ c ≤ maxLen ∧ RootsAt wr ap (lvl rs t)) ∧ Has wr (w.heap.size + 1) 24 .u8 (zUp t) ∧ Has wr w.heap.size 24 .u8 (zeros 32) ∧ Below w.heap.size w wr) (fun _ i _ => d - (intOf i).toNat)
  case atStart => exact ⟨0, by omega, rfl, ⟨ao, cap, rfl, hcap, hm', hR.keep HW3⟩, H3, HA3, HW3⟩
  case round =>
    clear H3 HA3 HW3
    obtain ⟨t, ht, rfl, ⟨ap, c, rfl, hc1, hc2, HR⟩, HZ, HA, HW⟩ := hrel
    have hz := zeroUp_rt t
    have hll := lvl_le rs t
    have hlr := levels_rts rs hR.rts t
    by_cases hlt : t < d
    · have HAb := hid (above_any ap c (lvl rs t) (zUp t) wr (hT.keep HW) hc1 hc2 (by omega) HR hz)
      have hnx := hid (levels_length pr (zeros 32) rs t)
      go_wp2_with (first
        | (refine wpList_load_has rfl 24 (.tmp 7) rfl (w.heap.size + 1) .u8 (zUp t) rfl 24 HZ _ _ Tryd.und24 (hz.size _ Tryd.size24) ?_)
        | (go_at_call 68; refine HAb.out.mono ?_; rintro e w7 ⟨g, hg7, rfl, R7, B7⟩)
        | (refine wpList_store_has rfl 24 (.tmp 7) (.tmp 28) rfl (w.heap.size + 1) .u8 (zUp (t + 1)) (zUp t) rfl rfl 24 (HZ.keep B7) ((zeroUp_rt (t + 1)).size _ Tryd.size24) (by rw [hz.len, (zeroUp_rt (t + 1)).len]) ?_; intro w9 H9 O9))
      go_roundw
      case rel =>
        refine ⟨t + 1, by omega, by go_num, ⟨some ⟨g, 0, none⟩, ((lvl rs t).length + 1) / 2, ?_, ?_, ?_, ?_⟩, H9, (HA.keep B7).only O9 (by omega), below_only (below_more HW B7 (Nat.le_refl _)) O9 (by omega)⟩
        · rw [show (lvl rs (t + 1)).length = ((lvl rs t).length + 1) / 2 from hnx.out]
        · exact Nat.le_of_eq hnx.out
        · unfold maxLen; omega
        · exact RootsAt.only (rs := lvl rs (t + 1)) R7 O9 (by have := HZ.lt; omega)
      case measure => simp [intOf]; omega
    · have ht2 : t = d := by omega
      subst ht2
      have HPk := hid (pick_any ap c (lvl rs t) 0 (zUp t) wr hc1 hc2 HR hz (by omega))
      have hrt := hlr.rtz hz 0
      go_wp2_with (first
        | (refine wpList_load_has rfl 24 (.tmp 7) rfl (w.heap.size + 1) .u8 (zUp t) rfl 24 HZ _ _ Tryd.und24 (hz.size _ Tryd.size24) ?_)
        | (go_at_call 69; refine HPk.out.mono ?_; rintro e w7 ⟨rfl, B7⟩)
        | (refine wpList_store_has rfl 24 (.tmp 4) (.tmp 32) rfl w.heap.size .u8 ((lvl rs t).getD 0 (zUp t)) (zeros 32) rfl rfl 24 (HA.keep B7) (hrt.size _ Tryd.size24) (by rw [hrt.len, zeros_length]) ?_; intro w9 H9 O9))
      refine bodyPost_ret (results_cell_tmp rfl _ _ w.heap.size 24 .u8 ((lvl rs t).getD 0 (zUp t)) _ _ _ rfl rfl H9 Tryd.und24 (hrt.size _ Tryd.size24)) rfl ?_
      exact ⟨rfl, below_only (below_more HW B7 (Nat.le_refl _)) O9 (by omega)⟩
end Go.Proofs.YtakdokccdkhcoaaDoor

/- A region that draws its order, told as a flow: of each operation of its head (calls that make memory, new variables) it is said what its value is known to be, from what the operations that it waits for are known to yield; in whatever order they come, all that is known at the end; then the tail, one by one. -/
namespace Go.Proofs.YtakdokccdkhcoaaDoor
open Go Go.RowKit
section
variable {P : Program}

def dstOf (ops : Array Oper) (i : Nat) : Option Tmp := (ops[i]?).bind (·.dst)
/-- All of the head but one. -/
def doneBut (ops : Array Oper) (n late : Nat) : Array Bool := ((List.range ops.size).map fun i => decide (i < n) && decide (i ≠ late)).toArray
/-- t waits for i, by some steps at most. -/
def reachB (ops : Array Oper) : Nat → Nat → Nat → Bool
  | 0, t, i => Region.waitsFor .any ops t i
  | f + 1, t, i => Region.waitsFor .any ops t i || (List.range ops.size).any fun j => Region.waitsFor .any ops t j && reachB ops f j i
theorem waits_done {ops : Array Oper} {done : Array Bool} {t i : Nat} {o : Oper} (ho : ops[t]? = some o) (hall : ∀ e ∈ o.after, Region.binds .any e = true → done.getD e.on false = true) (hw : Region.waitsFor .any ops t i = true) : done.getD i false = true := by
  unfold Region.waitsFor at hw
  rw [ho] at hw
  obtain ⟨k, hk, hk2⟩ := Array.any_eq_true.1 hw
  simp only [Bool.and_eq_true, beq_iff_eq] at hk2
  have := hall _ (Array.getElem_mem hk) hk2.1
  rwa [hk2.2] at this
theorem reach_done {ops : Array Oper} {done : Array Bool} (hcl : ∀ j oj, ops[j]? = some oj → done.getD j false = true → ∀ e ∈ oj.after, Region.binds .any e = true → done.getD e.on false = true) (i : Nat) :
    ∀ f t o, ops[t]? = some o → (∀ e ∈ o.after, Region.binds .any e = true → done.getD e.on false = true) → reachB ops f t i = true → done.getD i false = true := by
  intro f
  induction f with
  | zero => intro t o ho hall h; exact waits_done ho hall h
  | succ f ih =>
    intro t o ho hall h
    simp only [reachB, Bool.or_eq_true, List.any_eq_true, Bool.and_eq_true, List.mem_range] at h
    rcases h with h | ⟨j, hj, h1, h2⟩
    · exact waits_done ho hall h
    · have hd := waits_done ho hall h1
      exact ih j _ (Array.getElem?_eq_getElem hj) (hcl j _ (Array.getElem?_eq_getElem hj) hd) h2
/-- What a flow asks of a region's text: its head has no guards, waits upwards alone, writes each slot once; its tail waits for all of the head, but for one operation that only reads slots and may come late (late: its place; n: there is none). -/
def flowB (ops : Array Oper) (n late sz : Nat) : Bool :=
  decide (n < ops.size) && Region.noSelect ops && ((List.range ops.size).all fun t => decide (t < n) || (List.range n).all fun i => decide (i = late) || reachB ops 4 t i) &&
  ((List.range n).all fun i => match ops[i]? with
    | some o => o.guard.isNone && (o.after.all fun e => !Region.binds .any e || decide (e.on < i)) && (match o.dst with
      | none => true
      | some d => decide (d < sz) && (List.range n).all fun j => decide (j = i) || decide (dstOf ops j ≠ some d))
    | none => false) && (decide (n ≤ late) || (Region.free .any ops (doneBut ops n late) late && (Region.ready .any ops (doneBut ops n late)).contains late)) &&
  Region.seqB .any ops (ops.size - n) n ((List.range ops.size).map fun i => decide (i < n)).toArray

/-- Values put one by one, in the order of the text. -/
def putAll (v : Nat → Value) : List Oper → Nat → Act → Act
  | [], _, a => a
  | o :: t, k, a => putAll v t (k + 1) (a.put o.dst (v k))
theorem put_defers (a : Act) (d : Option Tmp) (v : Value) : (a.put d v).defers = a.defers := by cases d <;> rfl
theorem put_size (a : Act) (d : Option Tmp) (v : Value) : (a.put d v).tmps.size = a.tmps.size := by cases d <;> simp [Act.put]
theorem put_get (a : Act) (d : Option Tmp) (v : Value) (s : Nat) : (a.put d v).tmps[s]? = if d = some s ∧ s < a.tmps.size then some v else a.tmps[s]? := by
  cases d with
  | none => simp [Act.put]
  | some d =>
    simp only [Act.put, Array.getElem?_setIfInBounds, Option.some.injEq]
    by_cases h : d = s
    · subst h
      by_cases h2 : d < a.tmps.size
      · simp [h2]
      · simp [h2]
    · simp [h]
theorem putAll_defers (v : Nat → Value) (t : List Oper) : ∀ (k : Nat) (a : Act), (putAll v t k a).defers = a.defers := by
  induction t with
  | nil => intro k a; rfl
  | cons o t ih => intro k a; rw [putAll, ih, put_defers]
theorem putAll_size (v : Nat → Value) (t : List Oper) : ∀ (k : Nat) (a : Act), (putAll v t k a).tmps.size = a.tmps.size := by
  induction t with
  | nil => intro k a; rfl
  | cons o t ih => intro k a; rw [putAll, ih, put_size]
theorem putAll_get (v : Nat → Value) (s : Nat) (x : Value) (t : List Oper) : ∀ (k : Nat) (a : Act), (∀ j o, t[j]? = some o → o.dst = some s → v (k + j) = x) →
    (putAll v t k a).tmps[s]? = if (∃ o ∈ t, o.dst = some s) ∧ s < a.tmps.size then some x else a.tmps[s]? := by
  induction t with
  | nil => intro k a _; simp [putAll]
  | cons o t ih =>
    intro k a hv
    rw [putAll, ih (k + 1) _ (fun j o' hj ho => by have := hv (j + 1) o' (by simpa using hj) ho; rwa [show k + 1 + j = k + (j + 1) by omega]), put_size, put_get]
    by_cases h1 : ∃ o' ∈ t, o'.dst = some s
    · by_cases h2 : s < a.tmps.size
      · rw [if_pos ⟨h1, h2⟩, if_pos ⟨by obtain ⟨o', ho', e⟩ := h1; exact ⟨o', by simp [ho'], e⟩, h2⟩]
      · rw [if_neg (fun h => h2 h.2), if_neg (fun h => h2 h.2), if_neg (fun h => h2 h.2)]
    · rw [if_neg (fun h => h1 h.1)]
      by_cases h3 : o.dst = some s
      · have e := hv 0 o rfl h3
        rw [Nat.add_zero] at e
        rw [e]
        by_cases h2 : s < a.tmps.size
        · rw [if_pos ⟨h3, h2⟩, if_pos ⟨⟨o, by simp, h3⟩, h2⟩]
        · rw [if_neg (fun h => h2 h.2), if_neg (fun h => h2 h.2)]
      · rw [if_neg (fun h => h3 h.1), if_neg (fun h => by
          obtain ⟨⟨o', ho', e⟩, _⟩ := h
          rcases List.mem_cons.1 ho' with rfl | ho'
          · exact h3 e
          · exact h1 ⟨o', ho', e⟩)]

theorem count_step (done : Array Bool) (i : Nat) (hii : i < done.size) (hun : done.getD i true = false) : ∀ n, i < n → (List.range n).countP (fun j => !done.getD j true) = (List.range n).countP (fun j => !(done.setIfInBounds i true).getD j true) + 1 := by
  have h1 : (done.setIfInBounds i true).getD i true = true := by simp [hii]
  intro n
  induction n with
  | zero => intro h; omega
  | succ m ihm =>
    intro hin
    rw [List.range_succ, List.countP_append, List.countP_append]
    by_cases him : i = m
    · subst him
      have same : (List.range i).countP (fun j => !done.getD j true) = (List.range i).countP (fun j => !(done.setIfInBounds i true).getD j true) := by
        apply List.countP_congr
        intro j hj
        rw [getD_set_ne true (by have := List.mem_range.1 hj; omega)]
      rw [same]
      simp only [List.countP_cons, List.countP_nil, hun, h1]
      rfl
    · rw [ihm (by omega)]
      have h2 : (done.setIfInBounds i true).getD m true = done.getD m true := getD_set_ne true him
      simp only [List.countP_cons, List.countP_nil, h2]
      omega

/-- What stands while the head goes on. -/
structure FlowInv (ops : Array Oper) (n : Nat) (I : Nat → Value → World → Prop) (w0 : World) (a0 : Act) (done : Array Bool) (a : Act) (w : World) : Prop where
  head : HeadInv .any ops n done
  cls : Cls w0 w
  defers : a.defers = a0.defers
  size : a.tmps.size = a0.tmps.size
  keep : ∀ s, (∀ i, i < n → dstOf ops i ≠ some s) → a.tmps[s]? = a0.tmps[s]?
  known : ∀ i, i < n → done.getD i false = true → ∀ d, dstOf ops i = some d → I i (a.tmps.getD d undef) w

theorem flow_any {ops : Array Oper} {n late : Nat} {I : Nat → Value → World → Prop} {w0 : World} {a0 : Act} {Q : Exit → Act → World → Prop} (hB : flowB ops n late a0.tmps.size = true)
    (hQ : ∀ c d v a w, Q (.panic c) (a.put d v) w → Q (.panic c) a w)
    (hI : ∀ i v w w', i < n → I i v w → Below w.heap.size w w' → I i v w')
    (hop : ∀ i o, i < n → ops[i]? = some o → ∀ a w, Cls w0 w → (∀ s, (∀ j, j < n → dstOf ops j ≠ some s) → a.tmps.getD s undef = a0.tmps.getD s undef) →
      (∀ j d, dstOf ops j = some d → (o.after.any fun e => Region.binds .any e && e.on == j) = true → I j (a.tmps.getD d undef) w) →
      o.wp P a w (fun a' w' => ∃ v, a' = a.put o.dst v ∧ I i v w' ∧ Below w.heap.size w w') Q)
    (hlate : ∀ o, late < n → ops[late]? = some o → ∀ (a : Act) w, Cls w0 w → (∀ s, (∀ j, j < n → dstOf ops j ≠ some s) → a.tmps.getD s undef = a0.tmps.getD s undef) →
      (∀ j d, dstOf ops j = some d → (o.after.any fun e => Region.binds .any e && e.on == j) = true → I j (a.tmps.getD d undef) w) → ∃ v, (∀ w, (execOp a.eval o).run P w = .ok (.value v) w) ∧ I late v w)
    (htail : ∀ v w, Cls w0 w → (∀ i d, i < n → dstOf ops i = some d → I i (v i) w) → wpAny P .any ops Q (ops.size - n) ((List.range ops.size).map fun i => decide (i < n)).toArray (putAll v (ops.toList.take n) 0 a0) w) :
    ∀ f (done : Array Bool) (a : Act) (w : World), (List.range n).countP (fun i => !done.getD i true) = f → FlowInv ops n I w0 a0 done a w → wpAny P .any ops Q (f + (ops.size - n)) done a w := by
  simp only [flowB, Bool.and_eq_true, decide_eq_true_eq, List.all_eq_true, List.mem_range, Bool.or_eq_true] at hB
  obtain ⟨⟨⟨⟨⟨hn, hsel⟩, hdir⟩, hall⟩, hlt8⟩, hseq⟩ := hB
  have hat : ∀ i, i < n → ∃ o, ops[i]? = some o := fun i hi => ⟨_, Array.getElem?_eq_getElem (by omega)⟩
  have hgd : ∀ i o, i < n → ops[i]? = some o → o.guard = none ∧ (∀ e ∈ o.after, Region.binds .any e = true → e.on < i) ∧ ∀ d, o.dst = some d → d < a0.tmps.size ∧ ∀ j, j < n → j ≠ i → dstOf ops j ≠ some d := by
    intro i o hi ho
    have := hall i hi
    rw [ho] at this
    simp only [Bool.and_eq_true, Option.isNone_iff_eq_none, Array.all_eq_true_iff_forall_mem, Bool.or_eq_true, Bool.not_eq_true', decide_eq_true_eq] at this
    obtain ⟨⟨h1, h2⟩, h3⟩ := this
    refine ⟨h1, fun e he hb => (h2 e he).resolve_left (by rw [hb]; decide), fun d hd => ?_⟩
    rw [hd] at h3
    simp only [Bool.and_eq_true, decide_eq_true_eq, List.all_eq_true, List.mem_range, Bool.or_eq_true] at h3
    exact ⟨h3.1, fun j hj hne => (h3.2 j hj).resolve_left hne⟩
  intro f
  induction f with
  | zero =>
    intro done a w hcount inv
    have hdone : ∀ i, i < n → done.getD i true = true := fun i hi => by
      have := List.countP_eq_zero.1 hcount i (List.mem_range.2 hi)
      simpa using this
    have hdn : done = ((List.range ops.size).map fun i => decide (i < n)).toArray := by
      apply Array.ext_getElem?
      intro i
      by_cases hi : i < ops.size
      · have hi' : i < done.size := by rw [inv.head.size]; exact hi
        have h1 : (((List.range ops.size).map fun i => decide (i < n)).toArray)[i]? = some (decide (i < n)) := by simp [hi]
        rw [h1, Array.getElem?_eq_getElem hi']
        by_cases hin : i < n
        · have := hdone i hin
          simp [hi'] at this
          simp [hin, this]
        · have := inv.head.tail i (by omega) hi
          simp [hi'] at this
          simp [hin, this]
      · rw [Array.getElem?_eq_none (by rw [inv.head.size]; omega), Array.getElem?_eq_none (by simp; omega)]
    have hk : ∀ i, i < n → done.getD i false = true := fun i hi => by
      have h1 := hdone i hi
      have hi' : i < done.size := by rw [inv.head.size]; omega
      simp [hi'] at h1 ⊢
      exact h1
    have ha : a = putAll (fun i => match dstOf ops i with | some d => a.tmps.getD d undef | none => undef) (ops.toList.take n) 0 a0 := by
      have hd1 := putAll_defers (fun i => match dstOf ops i with | some d => a.tmps.getD d undef | none => undef) (ops.toList.take n) 0 a0
      have hs1 := putAll_size (fun i => match dstOf ops i with | some d => a.tmps.getD d undef | none => undef) (ops.toList.take n) 0 a0
      have ht1 : ∀ s, a.tmps[s]? = (putAll (fun i => match dstOf ops i with | some d => a.tmps.getD d undef | none => undef) (ops.toList.take n) 0 a0).tmps[s]? := fun s => by
        rw [putAll_get _ s (a.tmps.getD s undef) _ 0 a0 (fun j o hj ho => by
          rw [List.getElem?_take] at hj
          split at hj
          · have : dstOf ops j = some s := by unfold dstOf; rw [Array.getElem?_toList] at hj; rw [hj]; exact ho
            rw [Nat.zero_add, this]
          · cases hj)]
        split
        · rename_i h
          rw [Array.getElem?_eq_getElem (by rw [inv.size]; exact h.2)]
          simp [inv.size, h.2]
        · rename_i h
          by_cases hsz : s < a0.tmps.size
          · refine inv.keep s fun i hi e => h ⟨?_, hsz⟩
            obtain ⟨o, ho⟩ := hat i hi
            refine ⟨o, ?_, by unfold dstOf at e; rw [ho] at e; exact e⟩
            rw [List.mem_take_iff_getElem]
            have := Array.getElem?_eq_some_iff.1 ho
            exact ⟨i, by simp; omega, by simpa using this.2⟩
          · rw [Array.getElem?_eq_none (by rw [inv.size]; omega), Array.getElem?_eq_none (by omega)]
      generalize putAll (fun i => match dstOf ops i with | some d => a.tmps.getD d undef | none => undef) (ops.toList.take n) 0 a0 = b at *
      obtain ⟨ta, da⟩ := a
      obtain ⟨tb, db⟩ := b
      have e1 : ta = tb := Array.ext_getElem? ht1
      have e2 : da = db := inv.defers.trans hd1.symm
      rw [e1, e2]
    rw [Nat.zero_add, ha, hdn]
    refine htail _ w inv.cls fun i d hi hd => ?_
    have := inv.known i hi (hk i hi) d hd
    simpa [hd] using this
  | succ f ih =>
    intro done a w hcount inv
    have hex : ∃ i, i < n ∧ done.getD i true = false := by
      have : 0 < (List.range n).countP (fun i => !done.getD i true) := by omega
      obtain ⟨i, hi, hd⟩ := List.countP_pos_iff.1 this
      exact ⟨i, List.mem_range.1 hi, by simpa using hd⟩
    have hready : ∃ i, i < n ∧ i ∈ Region.ready .any ops done := by
      obtain ⟨i0, hi0, hd0⟩ := hex
      have key : ∀ m, m < n → done.getD m true = false → ∃ i, i < n ∧ i ∈ Region.ready .any ops done := by
        intro m
        induction m using Nat.strongRecOn with
        | _ m ihm =>
          intro hm hd
          obtain ⟨o, ho⟩ := hat m hm
          by_cases hw : ∀ e ∈ o.after, Region.binds .any e = true → done.getD e.on false = true
          · exact ⟨m, hm, mem_ready.2 ⟨hd, o, ho, hw⟩⟩
          · simp only [Classical.not_forall] at hw
            obtain ⟨e, he, hb, hnd⟩ := hw
            have hlt := (hgd m o hm ho).2.1 e he hb
            refine ihm e.on hlt (by omega) ?_
            have hi' : e.on < done.size := by rw [inv.head.size]; omega
            simp [hi'] at hnd ⊢
            exact hnd
      exact key i0 hi0 hd0
    obtain ⟨r, hr, hrr⟩ := hready
    rw [Nat.succ_add]
    have hstep : ∀ i o v w', i < n → i ∈ Region.ready .any ops done → ops[i]? = some o → I i v w' → Below w.heap.size w w' →
        (List.range n).countP (fun j => !(done.setIfInBounds i true).getD j true) = f ∧ FlowInv ops n I w0 a0 (done.setIfInBounds i true) (a.put o.dst v) w' := by
      intro i o v w' hin hi ho hv hB
      obtain ⟨hun, o', ho', hwait⟩ := mem_ready.1 hi
      obtain ⟨g1, g2, g3⟩ := hgd i o hin ho
      refine ⟨?_, inv.head.set hi hin, inv.cls.more hB, by rw [put_defers]; exact inv.defers, by rw [put_size]; exact inv.size, fun s hs' => ?_, fun j hj hdj d hd => ?_⟩
      · have hii : i < done.size := by rw [inv.head.size]; omega
        have hcp := count_step done i hii hun n hin
        omega
      · rw [put_get, if_neg (fun h => hs' i hin (by unfold dstOf; rw [ho]; exact h.1))]
        exact inv.keep s hs'
      · by_cases e : j = i
        · subst e
          have hd' : o.dst = some d := by unfold dstOf at hd; rw [ho] at hd; exact hd
          have : (a.put o.dst v).tmps.getD d undef = v := by
            rw [Array.getD_eq_getD_getElem?, put_get, if_pos ⟨hd', by rw [inv.size]; exact (g3 d hd').1⟩]; rfl
          rw [this]; exact hv
        · have hdj' : done.getD j false = true := by rwa [getD_set_ne false (Ne.symm e)] at hdj
          have : (a.put o.dst v).tmps.getD d undef = a.tmps.getD d undef := by
            rw [Array.getD_eq_getD_getElem?, put_get, if_neg (fun h => (g3 d h.1).2 j hj e hd), ← Array.getD_eq_getD_getElem?]
          rw [this]
          exact hI j _ w w' hj (inv.known j hj hdj' d hd) hB
    have hdeps : ∀ i o, i < n → i ∈ Region.ready .any ops done → ops[i]? = some o → ∀ j d, dstOf ops j = some d → (o.after.any fun e => Region.binds .any e && e.on == j) = true → I j (a.tmps.getD d undef) w := by
      intro i o hin hi ho j d hd hj
      obtain ⟨hun, o', ho', hwait⟩ := mem_ready.1 hi
      obtain rfl : o' = o := Option.some.inj (ho'.symm.trans ho)
      obtain ⟨g1, g2, g3⟩ := hgd i o' hin ho
      obtain ⟨k, hk, hk2⟩ := Array.any_eq_true.1 hj
      simp only [Bool.and_eq_true, beq_iff_eq] at hk2
      have hmem := Array.getElem_mem hk
      have hl := hwait _ hmem hk2.1
      have hlt := g2 _ hmem hk2.1
      rw [hk2.2] at hl hlt
      exact inv.known j (by omega) hl d hd
    have hkeep : ∀ s, (∀ j, j < n → dstOf ops j ≠ some s) → a.tmps.getD s undef = a0.tmps.getD s undef := fun s hs' => by rw [Array.getD_eq_getD_getElem?, inv.keep s hs', ← Array.getD_eq_getD_getElem?]
    by_cases hbut : ∀ i, i < n → i ≠ late → done.getD i true = true
    · have hrl : r = late := Classical.byContradiction fun h => by
        have h1 := hbut r hr h
        rw [(mem_ready.1 hrr).1] at h1; cases h1
      subst hrl
      have hdn : done = doneBut ops n r := by
        apply Array.ext_getElem?
        intro i
        by_cases hi : i < ops.size
        · have hi' : i < done.size := by rw [inv.head.size]; exact hi
          have h1 : (doneBut ops n r)[i]? = some (decide (i < n) && decide (i ≠ r)) := by simp [doneBut, hi]
          rw [h1, Array.getElem?_eq_getElem hi']
          by_cases hin : i < n
          · by_cases hir : i = r
            · subst hir
              have := (mem_ready.1 hrr).1
              simp [hi'] at this
              simp [this]
            · have := hbut i hin hir
              simp [hi'] at this
              simp [hin, hir, this]
          · have := inv.head.tail i (by omega) hi
            simp [hi'] at this
            simp [hin, this]
        · rw [Array.getElem?_eq_none (by rw [inv.head.size]; omega), Array.getElem?_eq_none (by simp [doneBut]; omega)]
      obtain ⟨o, ho⟩ := hat r hr
      obtain ⟨v, hrun, hv⟩ := hlate o hr ho a w inv.cls hkeep (hdeps r o hr hrr ho)
      obtain ⟨q1, q2⟩ := hstep r o v w hr hrr ho hv (Below.refl _ w)
      have hw : Region.wanted o (yielded ops a.tmps) = true := by simp [Region.wanted, (hgd r o hr ho).1]
      have hfr := hlt8.resolve_left (by omega)
      rw [← hdn] at hfr
      exact wpAny_take ho hsel hfr.1 hfr.2 (fun c a w h => hQ c _ _ a w h) (.inl ⟨hw, hrun⟩) (ih _ _ _ q1 q2)
    · simp only [Classical.not_forall] at hbut
      obtain ⟨u, hu, hul, hud⟩ := hbut
      have hud' : done.getD u false = false := by
        have hi' : u < done.size := by rw [inv.head.size]; omega
        simp [hi'] at hud ⊢
        exact hud
      refine ⟨fun e => (by rw [e] at hrr; cases hrr), fun i hi => ?_⟩
      obtain ⟨hun, o, ho, hwait⟩ := mem_ready.1 hi
      have hin : i < n := Nat.lt_of_not_le fun h => by
        have his : i < ops.size := (Array.getElem?_eq_some_iff.1 ho).1
        have hw := ((hdir i his).resolve_left (by omega) u hu).resolve_left hul
        have := reach_done inv.head.closed u 4 i o ho hwait hw
        rw [hud'] at this
        cases this
      unfold wpOp
      rw [ho]
      have hw : Region.wanted o (yielded ops a.tmps) = true := by simp [Region.wanted, (hgd i o hin ho).1]
      simp only [hw, if_true]
      refine .inl (Oper.wp_mono ?_ (hop i o hin ho a w inv.cls hkeep (hdeps i o hin hi ho)))
      rintro a' w' ⟨v, rfl, hv, hB⟩
      obtain ⟨q1, q2⟩ := hstep i o v w' hin hi ho hv hB
      exact ih _ _ _ q1 q2

/-- The region, told as a flow. -/
theorem wp_region_flow {id : Nat} {Q : Exit → Act → World → Prop} {a : Act} {w : World} {l : List Oper} (n late : Nat) (I : Nat → Value → World → Prop) (hm : P.follows .mixedOrders = true) (hB : flowB l.toArray n late a.tmps.size = true)
    (hQ : ∀ c d v a w, Q (.panic c) (a.put d v) w → Q (.panic c) a w)
    (hI : ∀ i v w w', i < n → I i v w → Below w.heap.size w w' → I i v w')
    (hop : ∀ i o, i < n → l.toArray[i]? = some o → ∀ a' w', Cls w w' → (∀ s, (∀ j, j < n → dstOf l.toArray j ≠ some s) → a'.tmps.getD s undef = a.tmps.getD s undef) →
      (∀ j d, dstOf l.toArray j = some d → (o.after.any fun e => Region.binds .any e && e.on == j) = true → I j (a'.tmps.getD d undef) w') →
      o.wp P a' w' (fun a'' w'' => ∃ v, a'' = a'.put o.dst v ∧ I i v w'' ∧ Below w'.heap.size w' w'') Q)
    (hlate : ∀ o, late < n → l.toArray[late]? = some o → ∀ (a' : Act) w', Cls w w' → (∀ s, (∀ j, j < n → dstOf l.toArray j ≠ some s) → a'.tmps.getD s undef = a.tmps.getD s undef) →
      (∀ j d, dstOf l.toArray j = some d → (o.after.any fun e => Region.binds .any e && e.on == j) = true → I j (a'.tmps.getD d undef) w') → ∃ v, (∀ w, (execOp a'.eval o).run P w = .ok (.value v) w) ∧ I late v w')
    (htail : ∀ v w', Cls w w' → (∀ i d, i < n → dstOf l.toArray i = some d → I i (v i) w') → wpList P l.toArray Q (l.drop n) (putAll v (l.take n) 0 a) w') : (Code.region id l.toArray true).wp P Q a w := by
  have hB' := hB
  simp only [flowB, Bool.and_eq_true, decide_eq_true_eq] at hB'
  have hn : n < l.length := by simpa using hB'.1.1.1.1.1
  have h3 : (l.drop n).length = l.toArray.size - n := by simp
  refine wp_region_any hm ?_
  have hc0 : (List.range n).countP (fun i => !(Array.replicate l.toArray.size false).getD i true) = n := by
    have : (List.range n).countP (fun i => !(Array.replicate l.toArray.size false).getD i true) = (List.range n).length := List.countP_eq_length.2 fun i hi => by
      have := List.mem_range.1 hi
      simp [show i < l.length by omega]
    rw [this, List.length_range]
  have K := flow_any (P := P) (Q := Q) (w0 := w) (a0 := a) hB hQ hI hop hlate (fun v w' hc hv => by
    have := wpAny_of_seq (P := P) (md := .any) (Q' := Q) (l.drop n) n _ _ w' (fun j => by simp [List.getElem?_drop]) (by rw [h3]; exact hB'.2) (htail v w' hc hv)
    rw [h3] at this
    simpa using this) n (Array.replicate l.toArray.size false) a { w with drawn := w.drawn + 1 } hc0
    ⟨⟨by simp, fun j oj _ hx => (by rw [getD_replicate_false] at hx; cases hx), fun t _ ht => getD_in (by simpa using ht) (getD_replicate_false _ _)⟩, ⟨(Below.refl _ w).drew⟩, rfl, rfl, fun _ _ => rfl, fun i _ hx => (by rw [getD_replicate_false] at hx; cases hx)⟩
  rwa [show n + (l.toArray.size - n) = l.toArray.size by simp; omega] at K
section
variable {P : Program} {o : Oper} {a : Act} {w : World} {Q : Exit → Act → World → Prop} {I : Value → World → Prop}
theorem flow_value (v : Value) (hrun : (execOp a.eval o).run P w = .ok (.value v) w) (hI : I v w) : o.wp P a w (fun a' w' => ∃ v, a' = a.put o.dst v ∧ I v w' ∧ Below w.heap.size w w') Q := by
  unfold Oper.wp; rw [hrun]; exact ⟨v, rfl, hI, Below.refl _ w⟩
theorem flow_move (x : Operand) (ho : o.op = .move x) (hI : I (a.eval x) w) : o.wp P a w (fun a' w' => ∃ v, a' = a.put o.dst v ∧ I v w' ∧ Below w.heap.size w w') Q := by
  exact flow_value (a.eval x) (by unfold execOp; simp only [ho]; rfl) hI
theorem run_extract (x : Operand) (k : Nat) (vs : Array Value) (v : Value) (ho : o.op = .extract x k) (hx : a.eval x = .tuple vs) (hv : vs[k]? = some v) : (execOp a.eval o).run P w = .ok (.value v) w := by
  unfold execOp; simp only [ho, hx]; simp [hv, go_sem]
theorem flow_extract (x : Operand) (k : Nat) (vs : Array Value) (v : Value) (ho : o.op = .extract x k) (hx : a.eval x = .tuple vs) (hv : vs[k]? = some v) (hI : I v w) : o.wp P a w (fun a' w' => ∃ v, a' = a.put o.dst v ∧ I v w' ∧ Below w.heap.size w w') Q := by
  refine flow_value v ?_ hI
  unfold execOp; simp only [ho, hx]; simp [hv, go_sem]
theorem flow_call (f : FuncId) (args : Array Value) (hrun : (execOp a.eval o).run P w = .ok (.enter f args) w) (hc : Calls P f args w fun e w' => ∃ v, e = .returned v ∧ I v w' ∧ Below w.heap.size w w') : o.wp P a w (fun a' w' => ∃ v, a' = a.put o.dst v ∧ I v w' ∧ Below w.heap.size w w') Q := by
  unfold Oper.wp; rw [hrun, Oper.upon_enter]
  refine hc.mono ?_
  rintro e w' ⟨v, rfl, h1, h2⟩
  exact ⟨v, rfl, h1, h2⟩
theorem run_enter (f : FuncId) (xs : Array Operand) (ts : Array TypeId) (ho : o.op = .call { callee := .value (.func f), args := xs, argTypes := ts }) (hf : ∀ args w, (callFunc f args).run P w = .ok (.enter f args) w) : (execOp a.eval o).run P w = .ok (.enter f (xs.map a.eval)) w := by
  unfold execOp
  simp only [ho]
  simp [resolve, invoke, Act.eval, Deferred.ofValue, hf]
theorem flow_fun (f : FuncId) (xs : Array Operand) (ts : Array TypeId) (ho : o.op = .call { callee := .value (.func f), args := xs, argTypes := ts }) (hf : ∀ args w, (callFunc f args).run P w = .ok (.enter f args) w) (args : Array Value) (hargs : xs.map a.eval = args) (hc : Calls P f args w fun e w' => ∃ v, e = .returned v ∧ I v w' ∧ Below w.heap.size w w') : o.wp P a w (fun a' w' => ∃ v, a' = a.put o.dst v ∧ I v w' ∧ Below w.heap.size w w') Q :=
  flow_call f args (by rw [run_enter f xs ts ho hf, hargs]) hc
theorem flow_alloc (t : TypeId) (ho : o.op = .alloc t) (k : IntKind) (n : Nat) (hz : (P.info? t).map (fun i => (i.zero, i.size)) = some (some (.agg (nums k (zeros n))), n))
    (hI : ∀ w', Has w' w.heap.size t k (zeros n) → Below w.heap.size w w' → I (.pointer (some ⟨w.heap.size, 0, none⟩)) w') : o.wp P a w (fun a' w' => ∃ v, a' = a.put o.dst v ∧ I v w' ∧ Below w.heap.size w w') Q := by
  have hzv : ∀ w, (zeroValue t).run P w = .ok (.agg (nums k (zeros n))) w := by
    intro w
    cases hq : P.info? t with
    | none => simp [hq] at hz
    | some i => simp [hq] at hz; simp [zeroValue, typeInfo, hq, hz.1]
  have hB : Below w.heap.size w (w.alloc (.cells (nums k (zeros n)) t)) := (Below.refl _ _).alloc (Nat.le_refl _) _
  have := hI (w.alloc (.cells (nums k (zeros n)) t)) (heap_alloc_new w _) hB
  unfold Oper.wp
  simp only [execOp, ho, Instr.alloc]
  simp [hzv, newVar, newRow, newObj, Value.cells, go_sem]
  exact ⟨_, rfl, this, hB⟩
end
end
end Go.Proofs.YtakdokccdkhcoaaDoor

/- Flows (Flow) whose operations may bear guards that are known to hold. -/
namespace Go.Proofs.YtakdokccdkhcoaaDoor
open Go Go.RowKit
section
variable {P : Program}
/-- What a flow asks of a region's text: its head's guards are known, it waits upwards alone, writes each slot once; its tail waits for all of the head, but for one operation that only reads slots and may come late (late: its place; n: there is none). -/
def flowGB (ops : Array Oper) (n late sz : Nat) : Bool :=
  decide (n < ops.size) && Region.noSelect ops && ((List.range ops.size).all fun t => decide (t < n) || (List.range n).all fun i => decide (i = late) || reachB ops 4 t i) &&
  ((List.range n).all fun i => match ops[i]? with
    | some o => (match o.guard with | none => true | some (g, _) => decide (g < i) && Region.waitsFor .any ops i g && (dstOf ops g).isSome) && (o.after.all fun e => !Region.binds .any e || decide (e.on < i)) && (match o.dst with
      | none => true
      | some d => decide (d < sz) && (List.range n).all fun j => decide (j = i) || decide (dstOf ops j ≠ some d))
    | none => false) && (decide (n ≤ late) || (Region.free .any ops (doneBut ops n late) late && (Region.ready .any ops (doneBut ops n late)).contains late)) &&
  Region.seqB .any ops (ops.size - n) n ((List.range ops.size).map fun i => decide (i < n)).toArray

theorem flowG_any {ops : Array Oper} {n late : Nat} {I : Nat → Value → World → Prop} {w0 : World} {a0 : Act} {Q : Exit → Act → World → Prop} (hB : flowGB ops n late a0.tmps.size = true)
    (hQ : ∀ c d v a w, Q (.panic c) (a.put d v) w → Q (.panic c) a w)
    (hguard : ∀ i o g b, i < n → ops[i]? = some o → o.guard = some (g, b) → ∀ v w, I g v w → v = .bool b)
    (hI : ∀ i v w w', i < n → I i v w → Below w.heap.size w w' → I i v w')
    (hop : ∀ i o, i < n → ops[i]? = some o → ∀ a w, Cls w0 w → (∀ s, (∀ j, j < n → dstOf ops j ≠ some s) → a.tmps.getD s undef = a0.tmps.getD s undef) →
      (∀ j d, dstOf ops j = some d → (o.after.any fun e => Region.binds .any e && e.on == j) = true → I j (a.tmps.getD d undef) w) →
      o.wp P a w (fun a' w' => ∃ v, a' = a.put o.dst v ∧ I i v w' ∧ Below w.heap.size w w') Q)
    (hlate : ∀ o, late < n → ops[late]? = some o → ∀ (a : Act) w, Cls w0 w → (∀ s, (∀ j, j < n → dstOf ops j ≠ some s) → a.tmps.getD s undef = a0.tmps.getD s undef) →
      (∀ j d, dstOf ops j = some d → (o.after.any fun e => Region.binds .any e && e.on == j) = true → I j (a.tmps.getD d undef) w) → ∃ v, (∀ w, (execOp a.eval o).run P w = .ok (.value v) w) ∧ I late v w)
    (htail : ∀ v w, Cls w0 w → (∀ i d, i < n → dstOf ops i = some d → I i (v i) w) → wpAny P .any ops Q (ops.size - n) ((List.range ops.size).map fun i => decide (i < n)).toArray (putAll v (ops.toList.take n) 0 a0) w) :
    ∀ f (done : Array Bool) (a : Act) (w : World), (List.range n).countP (fun i => !done.getD i true) = f → FlowInv ops n I w0 a0 done a w → wpAny P .any ops Q (f + (ops.size - n)) done a w := by
  simp only [flowGB, Bool.and_eq_true, decide_eq_true_eq, List.all_eq_true, List.mem_range, Bool.or_eq_true] at hB
  obtain ⟨⟨⟨⟨⟨hn, hsel⟩, hdir⟩, hall⟩, hlt8⟩, hseq⟩ := hB
  have hat : ∀ i, i < n → ∃ o, ops[i]? = some o := fun i hi => ⟨_, Array.getElem?_eq_getElem (by omega)⟩
  have hgd : ∀ i o, i < n → ops[i]? = some o → (∀ g b, o.guard = some (g, b) → Region.waitsFor .any ops i g = true ∧ ∃ d, dstOf ops g = some d) ∧ (∀ e ∈ o.after, Region.binds .any e = true → e.on < i) ∧ ∀ d, o.dst = some d → d < a0.tmps.size ∧ ∀ j, j < n → j ≠ i → dstOf ops j ≠ some d := by
    intro i o hi ho
    have := hall i hi
    rw [ho] at this
    simp only [Bool.and_eq_true, Array.all_eq_true_iff_forall_mem, Bool.or_eq_true, Bool.not_eq_true', decide_eq_true_eq] at this
    obtain ⟨⟨h1, h2⟩, h3⟩ := this
    refine ⟨fun g b hg => by
      rw [hg] at h1
      simp only [Bool.and_eq_true] at h1
      exact ⟨h1.1.2, Option.isSome_iff_exists.1 h1.2⟩, fun e he hb => (h2 e he).resolve_left (by rw [hb]; decide), fun d hd => ?_⟩
    rw [hd] at h3
    simp only [Bool.and_eq_true, decide_eq_true_eq, List.all_eq_true, List.mem_range, Bool.or_eq_true] at h3
    exact ⟨h3.1, fun j hj hne => (h3.2 j hj).resolve_left hne⟩
  intro f
  induction f with
  | zero =>
    intro done a w hcount inv
    have hdone : ∀ i, i < n → done.getD i true = true := fun i hi => by
      have := List.countP_eq_zero.1 hcount i (List.mem_range.2 hi)
      simpa using this
    have hdn : done = ((List.range ops.size).map fun i => decide (i < n)).toArray := by
      apply Array.ext_getElem?
      intro i
      by_cases hi : i < ops.size
      · have hi' : i < done.size := by rw [inv.head.size]; exact hi
        have h1 : (((List.range ops.size).map fun i => decide (i < n)).toArray)[i]? = some (decide (i < n)) := by simp [hi]
        rw [h1, Array.getElem?_eq_getElem hi']
        by_cases hin : i < n
        · have := hdone i hin
          simp [hi'] at this
          simp [hin, this]
        · have := inv.head.tail i (by omega) hi
          simp [hi'] at this
          simp [hin, this]
      · rw [Array.getElem?_eq_none (by rw [inv.head.size]; omega), Array.getElem?_eq_none (by simp; omega)]
    have hk : ∀ i, i < n → done.getD i false = true := fun i hi => by
      have h1 := hdone i hi
      have hi' : i < done.size := by rw [inv.head.size]; omega
      simp [hi'] at h1 ⊢
      exact h1
    have ha : a = putAll (fun i => match dstOf ops i with | some d => a.tmps.getD d undef | none => undef) (ops.toList.take n) 0 a0 := by
      have hd1 := putAll_defers (fun i => match dstOf ops i with | some d => a.tmps.getD d undef | none => undef) (ops.toList.take n) 0 a0
      have hs1 := putAll_size (fun i => match dstOf ops i with | some d => a.tmps.getD d undef | none => undef) (ops.toList.take n) 0 a0
      have ht1 : ∀ s, a.tmps[s]? = (putAll (fun i => match dstOf ops i with | some d => a.tmps.getD d undef | none => undef) (ops.toList.take n) 0 a0).tmps[s]? := fun s => by
        rw [putAll_get _ s (a.tmps.getD s undef) _ 0 a0 (fun j o hj ho => by
          rw [List.getElem?_take] at hj
          split at hj
          · have : dstOf ops j = some s := by unfold dstOf; rw [Array.getElem?_toList] at hj; rw [hj]; exact ho
            rw [Nat.zero_add, this]
          · cases hj)]
        split
        · rename_i h
          rw [Array.getElem?_eq_getElem (by rw [inv.size]; exact h.2)]
          simp [inv.size, h.2]
        · rename_i h
          by_cases hsz : s < a0.tmps.size
          · refine inv.keep s fun i hi e => h ⟨?_, hsz⟩
            obtain ⟨o, ho⟩ := hat i hi
            refine ⟨o, ?_, by unfold dstOf at e; rw [ho] at e; exact e⟩
            rw [List.mem_take_iff_getElem]
            have := Array.getElem?_eq_some_iff.1 ho
            exact ⟨i, by simp; omega, by simpa using this.2⟩
          · rw [Array.getElem?_eq_none (by rw [inv.size]; omega), Array.getElem?_eq_none (by omega)]
      generalize putAll (fun i => match dstOf ops i with | some d => a.tmps.getD d undef | none => undef) (ops.toList.take n) 0 a0 = b at *
      obtain ⟨ta, da⟩ := a
      obtain ⟨tb, db⟩ := b
      have e1 : ta = tb := Array.ext_getElem? ht1
      have e2 : da = db := inv.defers.trans hd1.symm
      rw [e1, e2]
    rw [Nat.zero_add, ha, hdn]
    refine htail _ w inv.cls fun i d hi hd => ?_
    have := inv.known i hi (hk i hi) d hd
    simpa [hd] using this
  | succ f ih =>
    intro done a w hcount inv
    have hex : ∃ i, i < n ∧ done.getD i true = false := by
      have : 0 < (List.range n).countP (fun i => !done.getD i true) := by omega
      obtain ⟨i, hi, hd⟩ := List.countP_pos_iff.1 this
      exact ⟨i, List.mem_range.1 hi, by simpa using hd⟩
    have hready : ∃ i, i < n ∧ i ∈ Region.ready .any ops done := by
      obtain ⟨i0, hi0, hd0⟩ := hex
      have key : ∀ m, m < n → done.getD m true = false → ∃ i, i < n ∧ i ∈ Region.ready .any ops done := by
        intro m
        induction m using Nat.strongRecOn with
        | _ m ihm =>
          intro hm hd
          obtain ⟨o, ho⟩ := hat m hm
          by_cases hw : ∀ e ∈ o.after, Region.binds .any e = true → done.getD e.on false = true
          · exact ⟨m, hm, mem_ready.2 ⟨hd, o, ho, hw⟩⟩
          · simp only [Classical.not_forall] at hw
            obtain ⟨e, he, hb, hnd⟩ := hw
            have hlt := (hgd m o hm ho).2.1 e he hb
            refine ihm e.on hlt (by omega) ?_
            have hi' : e.on < done.size := by rw [inv.head.size]; omega
            simp [hi'] at hnd ⊢
            exact hnd
      exact key i0 hi0 hd0
    obtain ⟨r, hr, hrr⟩ := hready
    rw [Nat.succ_add]
    have hstep : ∀ i o v w', i < n → i ∈ Region.ready .any ops done → ops[i]? = some o → I i v w' → Below w.heap.size w w' →
        (List.range n).countP (fun j => !(done.setIfInBounds i true).getD j true) = f ∧ FlowInv ops n I w0 a0 (done.setIfInBounds i true) (a.put o.dst v) w' := by
      intro i o v w' hin hi ho hv hB
      obtain ⟨hun, o', ho', hwait⟩ := mem_ready.1 hi
      obtain ⟨g1, g2, g3⟩ := hgd i o hin ho
      refine ⟨?_, inv.head.set hi hin, inv.cls.more hB, by rw [put_defers]; exact inv.defers, by rw [put_size]; exact inv.size, fun s hs' => ?_, fun j hj hdj d hd => ?_⟩
      · have hii : i < done.size := by rw [inv.head.size]; omega
        have hcp := count_step done i hii hun n hin
        omega
      · rw [put_get, if_neg (fun h => hs' i hin (by unfold dstOf; rw [ho]; exact h.1))]
        exact inv.keep s hs'
      · by_cases e : j = i
        · subst e
          have hd' : o.dst = some d := by unfold dstOf at hd; rw [ho] at hd; exact hd
          have : (a.put o.dst v).tmps.getD d undef = v := by
            rw [Array.getD_eq_getD_getElem?, put_get, if_pos ⟨hd', by rw [inv.size]; exact (g3 d hd').1⟩]; rfl
          rw [this]; exact hv
        · have hdj' : done.getD j false = true := by rwa [getD_set_ne false (Ne.symm e)] at hdj
          have : (a.put o.dst v).tmps.getD d undef = a.tmps.getD d undef := by
            rw [Array.getD_eq_getD_getElem?, put_get, if_neg (fun h => (g3 d h.1).2 j hj e hd), ← Array.getD_eq_getD_getElem?]
          rw [this]
          exact hI j _ w w' hj (inv.known j hj hdj' d hd) hB
    have hdeps : ∀ i o, i < n → i ∈ Region.ready .any ops done → ops[i]? = some o → ∀ j d, dstOf ops j = some d → (o.after.any fun e => Region.binds .any e && e.on == j) = true → I j (a.tmps.getD d undef) w := by
      intro i o hin hi ho j d hd hj
      obtain ⟨hun, o', ho', hwait⟩ := mem_ready.1 hi
      obtain rfl : o' = o := Option.some.inj (ho'.symm.trans ho)
      obtain ⟨g1, g2, g3⟩ := hgd i o' hin ho
      obtain ⟨k, hk, hk2⟩ := Array.any_eq_true.1 hj
      simp only [Bool.and_eq_true, beq_iff_eq] at hk2
      have hmem := Array.getElem_mem hk
      have hl := hwait _ hmem hk2.1
      have hlt := g2 _ hmem hk2.1
      rw [hk2.2] at hl hlt
      exact inv.known j (by omega) hl d hd
    have hwant : ∀ i o, i < n → i ∈ Region.ready .any ops done → ops[i]? = some o → Region.wanted o (yielded ops a.tmps) = true := by
      intro i o hin hi ho
      unfold Region.wanted
      cases hg : o.guard with
      | none => rfl
      | some gb =>
        obtain ⟨g, b⟩ := gb
        obtain ⟨q2, d, hd⟩ := (hgd i o hin ho).1 g b hg
        unfold Region.waitsFor at q2
        rw [ho] at q2
        have hv := hguard i o g b hin ho hg _ _ (hdeps i o hin hi ho g d hd q2)
        have hv2 : a.tmps[d]? = some (.bool b) := by
          rw [Array.getD_eq_getD_getElem?] at hv
          cases hq : a.tmps[d]? with
          | none => rw [hq] at hv; cases hv
          | some u => rw [hq] at hv; exact congrArg some hv
        have hy : yielded ops a.tmps g = some b := by
          unfold dstOf at hd
          unfold yielded
          rw [hd]
          simp [hv2]
        simp [hy]
    have hkeep : ∀ s, (∀ j, j < n → dstOf ops j ≠ some s) → a.tmps.getD s undef = a0.tmps.getD s undef := fun s hs' => by rw [Array.getD_eq_getD_getElem?, inv.keep s hs', ← Array.getD_eq_getD_getElem?]
    by_cases hbut : ∀ i, i < n → i ≠ late → done.getD i true = true
    · have hrl : r = late := Classical.byContradiction fun h => by
        have h1 := hbut r hr h
        rw [(mem_ready.1 hrr).1] at h1; cases h1
      subst hrl
      have hdn : done = doneBut ops n r := by
        apply Array.ext_getElem?
        intro i
        by_cases hi : i < ops.size
        · have hi' : i < done.size := by rw [inv.head.size]; exact hi
          have h1 : (doneBut ops n r)[i]? = some (decide (i < n) && decide (i ≠ r)) := by simp [doneBut, hi]
          rw [h1, Array.getElem?_eq_getElem hi']
          by_cases hin : i < n
          · by_cases hir : i = r
            · subst hir
              have := (mem_ready.1 hrr).1
              simp [hi'] at this
              simp [this]
            · have := hbut i hin hir
              simp [hi'] at this
              simp [hin, hir, this]
          · have := inv.head.tail i (by omega) hi
            simp [hi'] at this
            simp [hin, this]
        · rw [Array.getElem?_eq_none (by rw [inv.head.size]; omega), Array.getElem?_eq_none (by simp [doneBut]; omega)]
      obtain ⟨o, ho⟩ := hat r hr
      obtain ⟨v, hrun, hv⟩ := hlate o hr ho a w inv.cls hkeep (hdeps r o hr hrr ho)
      obtain ⟨q1, q2⟩ := hstep r o v w hr hrr ho hv (Below.refl _ w)
      have hw := hwant r o hr hrr ho
      have hfr := hlt8.resolve_left (by omega)
      rw [← hdn] at hfr
      exact wpAny_take ho hsel hfr.1 hfr.2 (fun c a w h => hQ c _ _ a w h) (.inl ⟨hw, hrun⟩) (ih _ _ _ q1 q2)
    · simp only [Classical.not_forall] at hbut
      obtain ⟨u, hu, hul, hud⟩ := hbut
      have hud' : done.getD u false = false := by
        have hi' : u < done.size := by rw [inv.head.size]; omega
        simp [hi'] at hud ⊢
        exact hud
      refine ⟨fun e => (by rw [e] at hrr; cases hrr), fun i hi => ?_⟩
      obtain ⟨hun, o, ho, hwait⟩ := mem_ready.1 hi
      have hin : i < n := Nat.lt_of_not_le fun h => by
        have his : i < ops.size := (Array.getElem?_eq_some_iff.1 ho).1
        have hw := ((hdir i his).resolve_left (by omega) u hu).resolve_left hul
        have := reach_done inv.head.closed u 4 i o ho hwait hw
        rw [hud'] at this
        cases this
      unfold wpOp
      rw [ho]
      have hw := hwant i o hin hi ho
      simp only [hw, if_true]
      refine .inl (Oper.wp_mono ?_ (hop i o hin ho a w inv.cls hkeep (hdeps i o hin hi ho)))
      rintro a' w' ⟨v, rfl, hv, hB⟩
      obtain ⟨q1, q2⟩ := hstep i o v w' hin hi ho hv hB
      exact ih _ _ _ q1 q2

/-- The region, told as a flow. -/
theorem wp_region_flow_guarded {id : Nat} {Q : Exit → Act → World → Prop} {a : Act} {w : World} {l : List Oper} (n late : Nat) (I : Nat → Value → World → Prop) (hm : P.follows .mixedOrders = true) (hB : flowGB l.toArray n late a.tmps.size = true)
    (hQ : ∀ c d v a w, Q (.panic c) (a.put d v) w → Q (.panic c) a w)
    (hguard : ∀ i o g b, i < n → l.toArray[i]? = some o → o.guard = some (g, b) → ∀ v w, I g v w → v = .bool b)
    (hI : ∀ i v w w', i < n → I i v w → Below w.heap.size w w' → I i v w')
    (hop : ∀ i o, i < n → l.toArray[i]? = some o → ∀ a' w', Cls w w' → (∀ s, (∀ j, j < n → dstOf l.toArray j ≠ some s) → a'.tmps.getD s undef = a.tmps.getD s undef) →
      (∀ j d, dstOf l.toArray j = some d → (o.after.any fun e => Region.binds .any e && e.on == j) = true → I j (a'.tmps.getD d undef) w') →
      o.wp P a' w' (fun a'' w'' => ∃ v, a'' = a'.put o.dst v ∧ I i v w'' ∧ Below w'.heap.size w' w'') Q)
    (hlate : ∀ o, late < n → l.toArray[late]? = some o → ∀ (a' : Act) w', Cls w w' → (∀ s, (∀ j, j < n → dstOf l.toArray j ≠ some s) → a'.tmps.getD s undef = a.tmps.getD s undef) →
      (∀ j d, dstOf l.toArray j = some d → (o.after.any fun e => Region.binds .any e && e.on == j) = true → I j (a'.tmps.getD d undef) w') → ∃ v, (∀ w, (execOp a'.eval o).run P w = .ok (.value v) w) ∧ I late v w')
    (htail : ∀ v w', Cls w w' → (∀ i d, i < n → dstOf l.toArray i = some d → I i (v i) w') → wpList P l.toArray Q (l.drop n) (putAll v (l.take n) 0 a) w') : (Code.region id l.toArray true).wp P Q a w := by
  have hB' := hB
  simp only [flowGB, Bool.and_eq_true, decide_eq_true_eq] at hB'
  have hn : n < l.length := by simpa using hB'.1.1.1.1.1
  have h3 : (l.drop n).length = l.toArray.size - n := by simp
  refine wp_region_any hm ?_
  have hc0 : (List.range n).countP (fun i => !(Array.replicate l.toArray.size false).getD i true) = n := by
    have : (List.range n).countP (fun i => !(Array.replicate l.toArray.size false).getD i true) = (List.range n).length := List.countP_eq_length.2 fun i hi => by
      have := List.mem_range.1 hi
      simp [show i < l.length by omega]
    rw [this, List.length_range]
  have K := flowG_any (P := P) (Q := Q) (w0 := w) (a0 := a) hB hQ hguard hI hop hlate (fun v w' hc hv => by
    have := wpAny_of_seq (P := P) (md := .any) (Q' := Q) (l.drop n) n _ _ w' (fun j => by simp [List.getElem?_drop]) (by rw [h3]; exact hB'.2) (htail v w' hc hv)
    rw [h3] at this
    simpa using this) n (Array.replicate l.toArray.size false) a { w with drawn := w.drawn + 1 } hc0
    ⟨⟨by simp, fun j oj _ hx => (by rw [getD_replicate_false] at hx; cases hx), fun t _ ht => getD_in (by simpa using ht) (getD_replicate_false _ _)⟩, ⟨(Below.refl _ w).drew⟩, rfl, rfl, fun _ _ => rfl, fun i _ hx => (by rw [getD_replicate_false] at hx; cases hx)⟩
  rwa [show n + (l.toArray.size - n) = l.toArray.size by simp; omega] at K
end
end Go.Proofs.YtakdokccdkhcoaaDoor

