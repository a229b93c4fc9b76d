/- Own texts of the proof, joined: LisC LisD TkLe DecIx PutIx PutAs AnsAs AsP DecAs FlowV. -/
import Derived.Test.YtpaamhmighgjeaaGreatH3
import Derived.OwnWalkIn
import Derived.RangeFuncLeaves
import Derived.RangeFuncCalls
import Derived.Deep.MidRow
/- Structs in memory, inside a fence; how List[uint64].Decode's variables stand. -/
namespace Go.Proofs.YtpaamhmighgjeaaGreat
open Go.RowKit Go.Shelf
set_option linter.unusedVariables false
set_option linter.unusedSimpArgs false
set_option maxRecDepth 100000

section
variable {F : Fence} {n : Nat} {P : Program} {w : World} {ops : Array Oper} {rest : List Oper} {o : Oper} {a : Act} {Q : Exit → Act → World → Prop} {t : TypeId} {zs : List Value}
theorem wpListIn_run {w' : World} (hgd : o.guard = none) (ha : o.about P w a.eval = none) (hd : ∀ c, o.op ≠ .defer c) (v : Value) (hrun : (execOp a.eval o).run P w = .ok (.value v) w') (h : wpListIn F n P ops Q rest (a.put o.dst v) w') :
    wpListIn F n P ops Q (o :: rest) a w := by
  refine wpListIn_plain hgd fun K hK => ?_
  unfold Oper.wpIn
  refine ⟨fun f hf => (by rw [ha] at hf; cases hf), ?_⟩
  rw [Oper.semAt_plain F _ _ hd, hrun]
  exact hK _ _ h
theorem wpListIn_box_c (hgd : o.guard = none) (d : Tmp) (hdst : o.dst = some d) (x : Operand) (ho : o.op = .box t x) (cs : List Value) (hx : a.eval x = .agg cs.toArray)
    (h : ∀ w', HasC w' w.heap.size t cs → Below w.heap.size w w' → w'.heap.size = w.heap.size + 1 → wpListIn F n P ops Q rest (a.put (some d) (.pointer (some ⟨w.heap.size, 0, none⟩))) w') :
    wpListIn F n P ops Q (o :: rest) a w := by
  refine wpListIn_run hgd (by simp [Oper.about, ho]) (by rw [ho]; intro c hc; cases hc) (.pointer (some ⟨w.heap.size, 0, none⟩)) (w' := w.alloc (.cells cs.toArray t)) ?_ ?_
  · simp only [execOp, ho, hx, Instr.box]
    simp [newVar, newRow, newObj, Value.cells, go_sem]
    rfl
  · rw [hdst]
    exact h _ (heap_alloc_new w _) ((Below.refl _ _).alloc (Nat.le_refl _) _) (by simp)
theorem wpListIn_load_c (hT : Ty P t zs) (hgd : o.guard = none) (x : Operand) (ho : o.op = .load t x) (g : Nat) (cs : List Value) (hx : a.eval x = .pointer (some ⟨g, 0, none⟩)) (hl : cs.length = zs.length) (hg : HasC w g t cs)
    (h : wpListIn F n P ops Q rest (a.put o.dst (.agg cs.toArray)) w) : wpListIn F n P ops Q (o :: rest) a w := by
  obtain ⟨d, hu, hd⟩ := hT.row
  have hr := run_loadVar_mid (P := P) w g 0 t cs d (hg.range 0 cs (fun j v hv => by rw [Nat.zero_add]; exact hv)) hu hd (by rw [hT.size, hl])
  refine wpListIn_run hgd (by simp [Oper.about, ho]) (by rw [ho]; intro c hc; cases hc) (.agg cs.toArray) (w' := w) ?_ h
  unfold execOp
  simp only [ho, hx, Instr.loadAt, Instr.sureAddr, Sem.run_bind, Sem.run_pure, Result.andThen_ok, hr]
end
theorem row_kept {W W' : World} {row : Option Nat} {b : Nat} {c : Array Value} {t : TypeId} {z : Nat × Nat} (h : W.heap[b]? = some (.cells c t z)) (hg : W.grownBy W' row) (hr : ∀ r, row = some r → ∃ o : Obj, W.heap[r]? = some o ∧ o.isCells = false) : W'.heap[b]? = some (.cells c t z) := by
  refine (hg.block b (Array.getElem?_eq_some_iff.1 h).1 (fun e => ?_)).trans h
  obtain ⟨o, ho, hc⟩ := hr b e.symm
  rw [h] at ho
  cases ho
  cases hc
theorem keepsF_only {B g : Nat} {W V : World} {c : Array Value} {t : TypeId} {f : Nat × Nat} (h : W.heap[g]? = some (.cells c t f)) (ho : Only g W V) : KeepsFrom B W V :=
  ⟨by rw [ho.size]; exact Nat.le_refl _, fun k o _ hk hc => by
    by_cases e : k = g
    · subst e; rw [h] at hk; cases hk; cases hc
    · exact (ho.block k e).trans hk⟩
theorem keepsF_below {B : Nat} {W V : World} (h : Below W.heap.size W V) : KeepsFrom B W V := ⟨h.size, fun k o _ hk _ => (h.block k (Array.getElem?_eq_some_iff.1 hk).1).trans hk⟩
theorem keepsF_grown {B : Nat} {W V : World} {row : Option Nat} (h : W.grownBy V row) (hr : ∀ r, row = some r → ∃ c t f, W.heap[r]? = some (.cells c t f)) : KeepsFrom B W V :=
  ⟨h.size, fun k o _ hk ho => (h.block k (Array.getElem?_eq_some_iff.1 hk).1 (fun e => by
    obtain ⟨c, t, f, hc⟩ := hr k e.symm
    rw [hk] at hc
    cases hc
    cases ho)).trans hk⟩
theorem own_cells {W : World} {base : Nat} {e : TypeId} {size n : Nat} {v : Value} {xs : List Value} (h : W.ownsRow base e size v n xs) : ∀ r, v.ownBlock = some r → base ≤ r ∧ ∃ c, W.heap[r]? = some (.cells c e (0, 0)) := by
  intro r hr
  rcases h.2 with ⟨rfl, _⟩ | ⟨g, cap, cur, rfl, hb, hc, _⟩
  · cases hr
  · cases hr
    exact ⟨hb, cur, hc⟩
theorem own_kept {W V : World} {base : Nat} {e : TypeId} {size n : Nat} {v : Value} {xs : List Value} (h : W.ownsRow base e size v n xs) (k : ∀ r, v.ownBlock = some r → V.heap[r]? = W.heap[r]?) : V.ownsRow base e size v n xs := by
  refine ⟨h.1, ?_⟩
  rcases h.2 with h2 | ⟨g, cap, cur, rfl, hb, hc, h3⟩
  · exact .inl h2
  · exact .inr ⟨g, cap, cur, rfl, hb, (k g rfl).trans hc, h3⟩
/-- The numbers as cells. -/
def n64 (ns : List Nat) : List Value := ns.map fun n : Nat => Value.int .u64 (n : Int)
/-- How the variables of Decode stand. -/
structure DI (w : World) (A B : Nat) (limit : Int) (u : Value) (ns : List Nat) (V : World) : Prop where
  ls : HasC V w.heap.size 89 (lsN limit)
  r4 : HasC V (w.heap.size + 1) 22 [.slice none 0 0]
  r5 : HasC V (w.heap.size + 2) 41 [.int .i64 0]
  al : HasC V A 22 [u]
  ow : V.ownsRow B 23 1 u ns.length (n64 ns)
  be : Below w.heap.size w V
  ha : w.heap.size + 2 < A
  hb : A < B
theorem DI.same {w : World} {A B : Nat} {limit : Int} {u : Value} {ns : List Nat} {V V' : World} (h : DI w A B limit u ns V) (hb : Below w.heap.size w V')
    (k : ∀ b, (b = w.heap.size ∨ b = w.heap.size + 1 ∨ b = w.heap.size + 2 ∨ b = A) → V'.heap[b]? = V.heap[b]?) (ko : ∀ r, u.ownBlock = some r → V'.heap[r]? = V.heap[r]?) : DI w A B limit u ns V' :=
  ⟨(k _ (by simp)).trans h.ls, (k _ (by simp)).trans h.r4, (k _ (by simp)).trans h.r5, (k _ (by simp)).trans h.al, own_kept h.ow ko, hb, h.ha, h.hb⟩
theorem DI.keep {w : World} {A B : Nat} {limit : Int} {u : Value} {ns : List Nat} {V V' : World} (h : DI w A B limit u ns V) (hb : Below V.heap.size V V') : DI w A B limit u ns V' :=
  h.same (below_more h.be hb (Nat.le_refl _)) (fun b k => hb.block b (by
    rcases k with rfl | rfl | rfl | rfl
    · exact h.ls.lt
    · exact h.r4.lt
    · exact h.r5.lt
    · exact h.al.lt)) (fun r hr => hb.block r (by obtain ⟨_, c, hc⟩ := own_cells h.ow r hr; exact (Array.getElem?_eq_some_iff.1 hc).1))
theorem DI.own {w : World} {A B : Nat} {limit : Int} {u : Value} {ns : List Nat} {V V' : World} {row : Option Nat} (h : DI w A B limit u ns V) (hg : V.grownBy V' row) (hr : ∀ r, row = some r → w.heap.size ≤ r ∧ ∃ o : Obj, V.heap[r]? = some o ∧ o.isCells = false) : DI w A B limit u ns V' := by
  have hk : ∀ (b : Nat) (c : Array Value) (t : TypeId) (f : Nat × Nat), V.heap[b]? = some (Obj.cells c t f) → V'.heap[b]? = V.heap[b]? := fun b c t f hc => (row_kept (c := c) (t := t) (z := f) hc hg (fun r e => (hr r e).2)).trans hc.symm
  refine h.same (h.be.grown hg (by have := h.be.size; omega) (fun k e => (hr k e).1)) (fun b k => ?_) (fun r e => ?_)
  · rcases k with rfl | rfl | rfl | rfl
    · exact hk _ _ _ _ h.ls
    · exact hk _ _ _ _ h.r4
    · exact hk _ _ _ _ h.r5
    · exact hk _ _ _ _ h.al
  · obtain ⟨_, c, hc⟩ := own_cells h.ow r e
    exact hk _ _ _ _ hc
/-- A number more, and the variable set. -/
theorem DI.step {w : World} {A B : Nat} {limit : Int} {u v : Value} {ns : List Nat} {x : Nat} {V V' : World} (h : DI w A B limit u ns V) (hg : V.grownBy V' u.ownBlock) (hn : V'.ownsRow B 23 1 v (ns.length + 1) (n64 ns ++ [.int .u64 (x : Nat)])) :
    DI w A B limit v (ns ++ [x]) (V'.setCell ⟨A, 0, none⟩ v) := by
  have hA := h.ha
  have hB := h.hb
  have hu : ∀ b, b ≤ A → b < V.heap.size → V'.heap[b]? = V.heap[b]? := fun b hb hl => hg.block b hl (fun e => by have := (own_cells h.ow b e.symm).1; omega)
  have o : ∀ b, b ≠ A → (V'.setCell ⟨A, 0, none⟩ v).heap[b]? = V'.heap[b]? := fun b hb => heap_setCell_other V' ⟨A, 0, none⟩ b v hb
  have ha : HasC V' A 22 [u] := (hu A (Nat.le_refl _) h.al.lt).trans h.al
  refine ⟨(o _ (by omega)).trans ((hu _ (by omega) h.ls.lt).trans h.ls), (o _ (by omega)).trans ((hu _ (by omega) h.r4.lt).trans h.r4), (o _ (by omega)).trans ((hu _ (by omega) h.r5.lt).trans h.r5), ?_, ?_, ?_, hA, hB⟩
  · unfold HasC at ha ⊢
    simp [World.setCell, Array.getElem?_modify, ha]
  · have e : n64 (ns ++ [x]) = n64 ns ++ [.int .u64 (x : Nat)] := by simp [n64]
    rw [e, List.length_append, List.length_singleton]
    exact own_kept hn (fun r hr => o r (fun e => by have := (own_cells hn r hr).1; omega))
  · have hb1 : Below w.heap.size w V' := h.be.grown hg (by have := h.be.size; omega) (fun k e => by have := (own_cells h.ow k e).1; omega)
    exact hb1.setCell (p := ⟨A, 0, none⟩) (by show w.heap.size ≤ A; omega) v
/-- What a round keeps besides. -/
theorem DI.kp {w : World} {A B bo bz : Nat} {limit : Int} {u v : Value} {ns : List Nat} {V0 V V' : World} {x : Value × List Nat} (h : DI w A B limit u ns V) (h0 : Below V0.heap.size V0 V) (hg : V.grownBy V' u.ownBlock) (hbo : bo < A) (hbz : bz < A) (hA0 : A < V0.heap.size)
    (hu0 : ∀ r, u.ownBlock = some r → r < V0.heap.size) :
    KeepsFrom B V0 (V'.setCell ⟨A, 0, none⟩ v) ∧ KP 8 bo bz x V0 (V'.setCell ⟨A, 0, none⟩ v) := by
  have hA := h.ha
  have hB := h.hb
  have ha : HasC V' A 22 [u] := (hg.block A h.al.lt (fun e => by have := (own_cells h.ow A e.symm).1; omega)).trans h.al
  have o : ∀ b, b ≠ A → (V'.setCell ⟨A, 0, none⟩ v).heap[b]? = V'.heap[b]? := fun b hb => heap_setCell_other V' ⟨A, 0, none⟩ b v hb
  refine ⟨((keepsF_below h0).trans (keepsF_grown hg (fun r e => by obtain ⟨_, c, hc⟩ := own_cells h.ow r e; exact ⟨c, _, _, hc⟩))).trans (keepsF_only ha (Only.setCell V' A 0 v)), fun b hb cs t f e => ?_, fun g off e cur hc => ⟨cur, ?_, rfl, fun _ _ => rfl⟩⟩
  · have hlt : b < A := by rcases hb with rfl | rfl <;> assumption
    have hl := (Array.getElem?_eq_some_iff.1 e).1
    rw [o b (by omega), hg.block b (by have := h0.size; omega) (fun e' => by have := (own_cells h.ow b e'.symm).1; omega), h0.block b hl]
    exact e
  · have hl := (Array.getElem?_eq_some_iff.1 hc).1
    have hcV : V.heap[g]? = some (.cells cur 5 (0, 0)) := (h0.block g hl).trans hc
    have n1 : g ≠ A := fun e => by
      subst e
      have h2 := h.al
      unfold HasC at h2
      rw [hcV] at h2
      cases h2
    have n2 : u.ownBlock ≠ some g := fun e => by
      obtain ⟨_, c, h2⟩ := own_cells h.ow g e
      rw [hcV] at h2
      cases h2
    rw [o g n1, hg.block g (by have := h0.size; omega) (fun e' => n2 e'.symm)]
    exact hcV
theorem own_base {W : World} {base b' : Nat} {e : TypeId} {size n : Nat} {v : Value} {xs : List Value} (h : W.ownsRow base e size v n xs) (hb : b' ≤ base) : W.ownsRow b' e size v n xs := by
  refine ⟨h.1, ?_⟩
  rcases h.2 with h2 | ⟨g, cap, cur, rfl, hg, hc, h3⟩
  · exact .inl h2
  · exact .inr ⟨g, cap, cur, rfl, Nat.le_trans hb hg, hc, h3⟩
/-- The end: the results are set, the mark is taken. -/
theorem DI.fin {w : World} {A B : Nat} {limit : Int} {u : Value} {ns : List Nat} {V : World} (h : DI w A B limit u ns V) (hK : V.heap[B]? = some (.deferred (some []))) :
    ((V.setCell ⟨w.heap.size + 1, 0, none⟩ u).setCell ⟨w.heap.size + 2, 0, none⟩ (.int .i64 0)).heap[B]? = some (.deferred (some [])) ∧
    HasC (((V.setCell ⟨w.heap.size + 1, 0, none⟩ u).setCell ⟨w.heap.size + 2, 0, none⟩ (.int .i64 0)).putObj B (.deferred none)) (w.heap.size + 1) 22 [u] ∧
    HasC (((V.setCell ⟨w.heap.size + 1, 0, none⟩ u).setCell ⟨w.heap.size + 2, 0, none⟩ (.int .i64 0)).putObj B (.deferred none)) (w.heap.size + 2) 41 [.int .i64 0] ∧
    (((V.setCell ⟨w.heap.size + 1, 0, none⟩ u).setCell ⟨w.heap.size + 2, 0, none⟩ (.int .i64 0)).putObj B (.deferred none)).ownsRow w.heap.size 23 1 u ns.length (n64 ns) ∧
    Below w.heap.size w (((V.setCell ⟨w.heap.size + 1, 0, none⟩ u).setCell ⟨w.heap.size + 2, 0, none⟩ (.int .i64 0)).putObj B (.deferred none)) := by
  have hA := h.ha
  have hB := h.hb
  have o1 : ∀ b, b ≠ w.heap.size + 1 → (V.setCell ⟨w.heap.size + 1, 0, none⟩ u).heap[b]? = V.heap[b]? := fun b hb => heap_setCell_other V ⟨w.heap.size + 1, 0, none⟩ b u hb
  have c1 : HasC (V.setCell ⟨w.heap.size + 1, 0, none⟩ u) (w.heap.size + 1) 22 [u] := by
    have := h.r4
    unfold HasC at this ⊢
    simp [World.setCell, Array.getElem?_modify, this]
  have c5 : HasC (V.setCell ⟨w.heap.size + 1, 0, none⟩ u) (w.heap.size + 2) 41 [.int .i64 0] := (o1 _ (by omega)).trans h.r5
  have b1 : Below w.heap.size w (V.setCell ⟨w.heap.size + 1, 0, none⟩ u) := h.be.setCell (p := ⟨w.heap.size + 1, 0, none⟩) (by show w.heap.size ≤ w.heap.size + 1; omega) u
  have w1 : (V.setCell ⟨w.heap.size + 1, 0, none⟩ u).ownsRow B 23 1 u ns.length (n64 ns) := own_kept h.ow (fun r hr => o1 r (fun e => by have := (own_cells h.ow r hr).1; omega))
  have k1 := (o1 B (by omega)).trans hK
  generalize V.setCell ⟨w.heap.size + 1, 0, none⟩ u = V1 at *
  have o2 : ∀ b, b ≠ w.heap.size + 2 → (V1.setCell ⟨w.heap.size + 2, 0, none⟩ (.int .i64 0)).heap[b]? = V1.heap[b]? := fun b hb => heap_setCell_other V1 ⟨w.heap.size + 2, 0, none⟩ b _ hb
  have c4' : HasC (V1.setCell ⟨w.heap.size + 2, 0, none⟩ (.int .i64 0)) (w.heap.size + 1) 22 [u] := (o2 _ (by omega)).trans c1
  have c5' : HasC (V1.setCell ⟨w.heap.size + 2, 0, none⟩ (.int .i64 0)) (w.heap.size + 2) 41 [.int .i64 0] := by
    unfold HasC at c5 ⊢
    simp [World.setCell, Array.getElem?_modify, c5]
  have b2 : Below w.heap.size w (V1.setCell ⟨w.heap.size + 2, 0, none⟩ (.int .i64 0)) := b1.setCell (p := ⟨w.heap.size + 2, 0, none⟩) (by show w.heap.size ≤ w.heap.size + 2; omega) _
  have w2 : (V1.setCell ⟨w.heap.size + 2, 0, none⟩ (.int .i64 0)).ownsRow B 23 1 u ns.length (n64 ns) := own_kept w1 (fun r hr => o2 r (fun e => by have := (own_cells w1 r hr).1; omega))
  have k2 := (o2 B (by omega)).trans k1
  generalize V1.setCell ⟨w.heap.size + 2, 0, none⟩ (.int .i64 0) = V2 at *
  have o3 : ∀ b, b ≠ B → (V2.putObj B (.deferred none)).heap[b]? = V2.heap[b]? := fun b hb => World.putObj_heap_other hb
  refine ⟨k2, (o3 _ (by omega)).trans c4', (o3 _ (by omega)).trans c5', own_base (own_kept w2 (fun r hr => o3 r (fun e => ?_))) (by omega), b2.trans (belowK_b (w := w) (Nat.le_refl _) _ B _ (.deferred none) (by omega) k2 rfl rfl)⟩
  obtain ⟨_, c, hc⟩ := own_cells w2 r hr
  rw [e, k2] at hc
  cases hc
theorem results_cc {fn : Func} {p q : Tmp} (hf : fn.results = #[.cell p 22, .cell q 41]) (tmps : Array Value) (w : World) (g h : Nat) (u v : Value) (hp : tmps.getD p undef = .pointer (some ⟨g, 0, none⟩)) (hq : tmps.getD q undef = .pointer (some ⟨h, 0, none⟩)) (h1 : HasC w g 22 [u]) (h2 : HasC w h 41 [v]) :
    (results fn tmps).run Tryz.prog w = .ok (.tuple #[u, v]) w := by
  have hp' : tmps[p]?.getD undef = .pointer (some ⟨g, 0, none⟩) := by simpa using hp
  have hq' : tmps[q]?.getD undef = .pointer (some ⟨h, 0, none⟩) := by simpa using hq
  have hc1 := h1.cell (j := 0) (v := u) rfl
  have hc2 := h2.cell (j := 0) (v := v) rfl
  simp only [results, hf]
  simp [hp', hq', asAddr, go_sem, hc1, hc2]
end Go.Proofs.YtpaamhmighgjeaaGreat

/- Lists of numbers: Decode. -/
namespace Go.Proofs.YtpaamhmighgjeaaGreat
open Go.RowKit Go.Shelf
set_option linter.unusedVariables false
set_option linter.unusedSimpArgs false
set_option maxRecDepth 100000
attribute [local go_sem] Oper.semAt_some

theorem inf64 : ∃ i, Tryz.prog.info? 23 = some i ∧ i.zero = some (.int .u64 0) ∧ i.size = 1 ∧ i.bytes = 8 := by
  have hz : (Tryz.prog.info? 23).map (fun i => (i.zero, i.size, i.bytes)) = some (some (.int .u64 0), 1, 8) := by kernel_rfl
  cases hq : Tryz.prog.info? 23 with
  | none => simp [hq] at hz
  | some i => simp [hq] at hz; exact ⟨i, rfl, hz.1, hz.2.1, hz.2.2⟩
theorem own_slice {W : World} {base : Nat} {e : TypeId} {size n : Nat} {v : Value} {xs : List Value} (h : W.ownsRow base e size v n xs) : ∃ a m c, v = .slice a m c := by
  rcases h.2 with ⟨rfl, _⟩ | ⟨g, cap, cur, rfl, _⟩
  · exact ⟨_, _, _, rfl⟩
  · exact ⟨_, _, _, rfl⟩
set_option maxHeartbeats 4000000 in
theorem ldec_in (ao : Option Addr) (cap : Nat) (bs : List Nat) (k : Nat) (limit : Int) (w : World) (hI : IsB w (.slice ao bs.length cap) bs) (hk : bs.length = k * 8) (hlen : bs.length ≤ 1099511627776) (hkl : (k : Int) ≤ limit) :
    CallsIn Fence.wide 5 Tryz.prog 37 #[.agg (lsN limit).toArray, .slice ao bs.length cap] w fun e w' => ∃ u, e = .returned (.tuple #[u, .int .i64 0]) ∧ w'.ownsRow w.heap.size 23 1 u k (n64 ((pcs bs 8 k).map tk)) ∧ Below w.heap.size w w' := by
  have HD := hid (fun w' (hb : Below w.heap.size w w') => pieces_ok (.slice ao bs.length cap) bs k limit w' (hI.keep hb) hk hlen hkl)
  have HK := hid (And.intro hk (And.intro hlen hkl))
  clear hk hlen hkl
  refine callsIn_of_wp_marks Tryz.func37 rfl trivial ?_ rfl
  simp only [Tryz.ntmps37, List.size_toArray, List.length_cons, List.length_nil, Nat.reduceAdd, Nat.reduceSub, Array.replicate_succ, Array.replicate_zero, List.push_toArray, List.append_toArray, List.nil_append, List.cons_append]
  gi_wp2_with (first
    | (refine wpListIn_box_c rfl 2 rfl (.tmp 0) rfl (lsN limit) rfl ?_; intro w1 H1 B1 S1)
    | (refine wpListIn_load_c Tryz.ty89 rfl (.tmp 2) rfl w.heap.size (lsN limit) rfl rfl (H1.keep (((Below.refl _ w1).alloc (Nat.le_refl _) _).alloc (by simp) _)) ?_))
  have BA : Below w.heap.size w ((w1.alloc (.cells #[.slice none 0 0] 22)).alloc (.cells #[.int .i64 0] 41)) := (B1.alloc (by omega) _).alloc (by simp; omega) _
  have H4 : HasC ((w1.alloc (.cells #[.slice none 0 0] 22)).alloc (.cells #[.int .i64 0] 41)) (w.heap.size + 1) 22 [.slice none 0 0] := by
    have h := heap_alloc_new w1 (.cells #[.slice none 0 0] 22)
    rw [S1] at h
    exact HasC.keep (t := 22) (cs := [.slice none 0 0]) h ((Below.refl _ _).alloc (Nat.le_refl _) _)
  have H5 : HasC ((w1.alloc (.cells #[.slice none 0 0] 22)).alloc (.cells #[.int .i64 0] 41)) (w.heap.size + 2) 41 [.int .i64 0] := by
    have h := heap_alloc_new (w1.alloc (.cells #[.slice none 0 0] 22)) (.cells #[.int .i64 0] 41)
    rw [World.size_alloc, S1] at h
    exact h
  have H0 := H1.keep (((Below.refl _ w1).alloc (Nat.le_refl _) (.cells #[.slice none 0 0] 22)).alloc (by simp) (.cells #[.int .i64 0] 41))
  have S3 : ((w1.alloc (.cells #[.slice none 0 0] 22)).alloc (.cells #[.int .i64 0] 41)).heap.size = w.heap.size + 3 := by simp [S1]
  clear H1 B1 S1
  generalize (w1.alloc (.cells #[.slice none 0 0] 22)).alloc (.cells #[.int .i64 0] 41) = w2 at BA H4 H5 H0 S3 ⊢
  simp only [Nat.add_assoc, Nat.reduceAdd]
  have HP := hid (HD.out w2 BA)
  have HX := hid (And.intro H0 (And.intro H4 (And.intro H5 BA)))
  clear H0 H4 H5 BA HD
  refine ⟨trivial, ?_⟩
  refine (callsIn_wide.2 HP.out).mono ?_
  rintro e w3 ⟨u, bo, bz, rfl, q1, q2, q3, q4, q5, B3⟩
  have s3 := B3.size
  have HQ := hid (And.intro q3 (And.intro q4 q5))
  have HX3 := hid (And.intro (HX.out.1.keep B3) (And.intro (HX.out.2.1.keep B3) (And.intro (HX.out.2.2.1.keep B3) (below_more HX.out.2.2.2 B3 (Nat.le_refl _)))))
  clear q3 q4 q5 B3 HP HX
  gi_wp2_with fail
  have hA := heap_alloc_new w3 (.cells #[.slice none 0 0] 22)
  have BA : Below w3.heap.size w3 (w3.alloc (.cells #[.slice none 0 0] 22)) := (Below.refl _ _).alloc (Nat.le_refl _) _
  have SA : (w3.alloc (.cells #[.slice none 0 0] 22)).heap.size = w3.heap.size + 1 := World.size_alloc _ _
  generalize w3.alloc (.cells #[.slice none 0 0] 22) = wA at hA BA SA ⊢
  have D0 : DI w w3.heap.size wA.heap.size limit (.slice none 0 0) [] wA := ⟨HX3.out.1.keep BA, HX3.out.2.1.keep BA, HX3.out.2.2.1.keep BA, hA, World.ownsRow_nil _ _ _ _, below_more HX3.out.2.2.2 BA (Nat.le_refl _), by omega, by omega⟩
  have lbo : bo < w3.heap.size := (Array.getElem?_eq_some_iff.1 HQ.out.1).1
  have lbz : bz < w3.heap.size := (Array.getElem?_eq_some_iff.1 HQ.out.2.1).1
  have HV := hid (And.intro ((BA.block _ lbo).trans HQ.out.1) (And.intro ((BA.block _ lbz).trans HQ.out.2.1) (HQ.out.2.2.keep BA)))
  have HP := hid (fun l J Jx V (hV : Below wA.heap.size wA V) hJ hY h0 => splitIt_in 4 (by decide) l bo bz bs 8 k (by decide) HK.out.1 HK.out.2.1 u J Jx V ((hV.block _ (by omega)).trans HV.out.1) ((hV.block _ (by omega)).trans HV.out.2.1) (HV.out.2.2.keep hV) hJ hY h0)
  have HD0 := hid D0
  clear D0 hA BA HX3 HQ
  refine wpIn_rangeM (F := Fence.wide) rfl (by decide) (gf := 120) (lb := #[.pointer (some ⟨bo, 0, none⟩), .pointer (some ⟨bz, 0, none⟩)]) rfl trivial (enters_of Tryz.func120 (by kernel_rfl) rfl)
    (encs := fun x : Value × List Nat => #[x.1]) (M := MP 8) (Kp := KP 8 bo bz) (S := fun xs => xs.map (·.2) = pcs bs 8 k) (Sp := fun pre => pre.map (·.2) = pcs bs 8 pre.length ∧ 0 < pre.length ∧ pre.length ≤ k) (N := k) (w0 := wA)
    (fun l J Jx V hV hJ _ hY h0 => HP.out l J Jx V hV hJ hY h0) (Below.refl _ _) KP.trans KP.put (fun _ => rfl) (fun B x V l o o' h hl ho => MP.put B x V l o o' h hl ho)
    (fun pre V => ∃ u, DI w w3.heap.size wA.heap.size limit u (pre.map fun x => tk x.2) V) (fun cd pre V => False) ?fi ?fx ⟨_, HD0.out⟩
    (fun x => { tmps := #[.agg (lsN limit).toArray, .slice ao bs.length cap, .pointer (some ⟨w.heap.size, 0, none⟩), undef, .pointer (some ⟨w.heap.size + 1, 0, none⟩), .pointer (some ⟨w.heap.size + 2, 0, none⟩), .func (.func 120) #[] #[.pointer (some ⟨bo, 0, none⟩), .pointer (some ⟨bz, 0, none⟩)], .int .i64 0, .pointer (some ⟨w3.heap.size, 0, none⟩), x.1, undef, undef, .tuple #[.func (.func 120) #[] #[.pointer (some ⟨bo, 0, none⟩), .pointer (some ⟨bz, 0, none⟩)], .int .i64 0], .agg (lsN limit).toArray, .slice ao bs.length cap, .tuple #[.func (.func 120) #[] #[.pointer (some ⟨bo, 0, none⟩), .pointer (some ⟨bz, 0, none⟩)], .int .i64 0], .func (.func 120) #[] #[.pointer (some ⟨bo, 0, none⟩), .pointer (some ⟨bz, 0, none⟩)], .int .i64 0, .int .i64 0, .bool false, undef, .func (.func 120) #[] #[.pointer (some ⟨bo, 0, none⟩), .pointer (some ⟨bz, 0, none⟩)], x.1, undef, undef, undef, undef, undef, undef, undef, undef, undef, undef, undef, undef, undef, undef], defers := [] }) ?assign ?body ?done ?stop
  case fi =>
    intro pre A B row hs hg hr
    obtain ⟨u, hs⟩ := hs
    exact ⟨u, hs.own hg (fun r e => ⟨by have := (hr r e).1; have := hs.hb; have := hs.ha; omega, (hr r e).2⟩)⟩
  case fx =>
    intro cd pre A B row hs hg hr
    exact hs.elim
  case assign =>
    intro l x V K hK
    gi_wp2
    exact hK
  case body =>
    rintro l pre ⟨xv, xb⟩ V hl ⟨u, hD⟩ hM hlt
    have hIX := hM.isB (by decide)
    have hxl : xb.length = 8 := by obtain ⟨_, _, _, _, _, _, _, h, _⟩ := hM; exact h
    obtain ⟨g, off, cur, hx1, hgB, hgc, _⟩ := hM
    have hgl := (Array.getElem?_eq_some_iff.1 hgc).1
    clear hgc
    dsimp only at hx1 hIX
    subst hx1
    have HT := hid (ltake_any limit _ xb V hIX hxl)
    obtain ⟨ns, hns⟩ : ∃ ns, (pre.map fun x => tk x.2) = ns := ⟨_, rfl⟩
    have HNS := hid hns
    have hnl : ns.length = pre.length := by rw [← hns, List.length_map]
    rw [hns] at hD
    clear hns
    have HD1 := hid hD
    have hls := hD.ls
    have hVs : w3.heap.size < V.heap.size := hD.al.lt
    have hou := hD.ow.lt
    clear hD hIX
    obtain ⟨n, hn⟩ : ∃ n, tk xb = n := ⟨_, rfl⟩
    have HN := hid hn
    rw [hn] at HT
    clear hn
    gi_wp2_with (first
      | (refine wpListIn_load_c Tryz.ty89 rfl (.tmp 2) rfl w.heap.size (lsN limit) rfl rfl hls ?_))
    refine ⟨trivial, ?_⟩
    refine (CallsIn.inRound l (callsIn_wide.2 HT.out)).mono ?_
    rintro e V1 ⟨rfl, B1⟩
    have D1 := HD1.out.keep B1
    have s1 := B1.size
    have B2 : Below V1.heap.size V1 (V1.alloc (.cells #[.int .u64 (n : Nat)] 23)) := (Below.refl _ _).alloc (Nat.le_refl _) _
    have hcn := heap_alloc_new V1 (.cells #[.int .u64 (n : Nat)] 23)
    have HD2 := hid (And.intro (D1.keep B2) (And.intro (B1.trans (B2.mono s1)) (cell_of_row _ V1.heap.size 0 _ _ (0, 0) hcn)))
    have hac := D1.al.cell (j := 0) (v := u) rfl
    obtain ⟨i0, hi, hz0, hz1, hz2⟩ := inf64
    have hk8 := HK.out.1
    have hk9 := HK.out.2.1
    have hnb : ns.length + 1 ≤ 137438953472 := by omega
    clear D1 B1 B2 HT HD1 hls hcn hk8 hk9
    gi_wp2_with (first
      | (refine wpListIn_append_own _ rfl (.tmp 32) (.tmp 34) 22 rfl wA.heap.size 23 i0 (.int .u64 0) 1 8 Tryz.underlying22 hi hz0 hz1 hz2 rfl (by decide) u ns.length (n64 ns) rfl HD2.out.1.ow ⟨V1.heap.size, 0, none⟩ 1 1 [.int .u64 (n : Nat)] rfl rfl ?c1 ?c2 ?c3 ?c4 ?c5 ?_))
    case c1 =>
      intro j u hj
      match j, hj with
      | 0, hj => cases hj; exact HD2.out.2.2
    case c2 => intro u hu; simp at hu; subst hu; rfl
    case c3 => unfold maxLen; omega
    case c4 => omega
    case c5 => simp; omega
    · intro v' w4 r1 r2 r3
      rw [← SA, ← hnl] at r1
      obtain ⟨va, vn, vc, rfl⟩ := own_slice r1
      have hg := HD2.out.1
      have ha4 : HasC w4 w3.heap.size 22 [u] := (r2.block _ hg.al.lt (fun e => by have := (own_cells hg.ow _ e.symm).1; omega)).trans hg.al
      have hac4 := ha4.cell (j := 0) (v := u) rfl
      have hfr4 := frozen_of_row w4 w3.heap.size 0 _ _ ha4
      have HF := hid (And.intro (hg.step r2 r1) (hg.kp (x := (.slice (some ⟨g, off, none⟩) 8 8, xb)) (v := .slice va vn vc) HD2.out.2.1 r2 lbo lbz hVs (fun r hr => (hou r hr).2)))
      clear r1 r2 r3 hg ha4 hac
      gi_wp2
      have e : List.map (fun x : Value × List Nat => tk x.2) (pre ++ [(.slice (some ⟨g, off, none⟩) 8 8, xb)]) = ns ++ [n] := by rw [List.map_append, HNS.out, ← HN.out]; rfl
      refine ⟨HF.out.2.1, HF.out.2.2, .slice va vn vc, ?_⟩
      rw [e]
      exact HF.out.1
  case done =>
    rintro xs V hS ⟨u, hD⟩ hK
    have hns : (xs.map fun x => tk x.2) = (pcs bs 8 k).map tk := by rw [← hS, List.map_map]; rfl
    rw [hns] at hD
    obtain ⟨va, vn, vc, rfl⟩ := own_slice hD.ow
    have HF := hid (hD.fin hK)
    rw [SA] at HF
    have ha := hD.al.cell (j := 0) (v := .slice va vn vc) rfl
    have h4c := hD.r4.cell (j := 0) (v := .slice none 0 0) rfl
    have h4f : V.frozen? ⟨w.heap.size + 1, 0, none⟩ = false := frozen_of_row V (w.heap.size + 1) 0 _ _ hD.r4
    have h5c := hD.r5.cell (j := 0) (v := .int .i64 0) rfl
    have h5f : V.frozen? ⟨w.heap.size + 2, 0, none⟩ = false := frozen_of_row V (w.heap.size + 2) 0 _ _ hD.r5
    clear hD hK hS hns
    gi_wp2
    refine ⟨by simp, .inl ⟨_, _, rfl, run_takeDeferred HF.out.1, ?_⟩⟩
    have how := HF.out.2.2.2.1
    rw [List.length_map, pcs_length] at how
    exact ⟨_, results_cc rfl _ _ (w.heap.size + 1) (w.heap.size + 2) _ _ rfl rfl HF.out.2.1 HF.out.2.2.1, _, rfl, how, HF.out.2.2.2.2⟩
  case stop =>
    intro c pre V hSp hf
    exact hf.elim
theorem ldec_ok (v : Value) (bs : List Nat) (k : Nat) (limit : Int) (w : World) (hI : IsB w v bs) (hk : bs.length = k * 8) (hlen : bs.length ≤ 1099511627776) (hkl : (k : Int) ≤ limit) :
    Calls Tryz.prog 37 #[.agg (lsN limit).toArray, v] w fun e w' => ∃ u, e = .returned (.tuple #[u, .int .i64 0]) ∧ w'.ownsRow w.heap.size 23 1 u k (n64 ((pcs bs 8 k).map tk)) ∧ Below w.heap.size w w' := by
  obtain ⟨⟨ao, cap, rfl, h1⟩, h2⟩ := hI
  exact callsIn_wide.1 (ldec_in ao cap bs k limit w ⟨⟨ao, cap, rfl, h1⟩, h2⟩ hk hlen hkl)
set_option maxHeartbeats 2000000 in
theorem ldec_bad (v : Value) (bs : List Nat) (limit : Int) (w : World) (hI : IsB w v bs) (hlen : bs.length ≤ 1099511627776) (hbad : ((bs.length : Int).tmod 8 ≠ 0) ∨ limit < (bs.length : Int).tdiv 8) :
    Calls Tryz.prog 37 #[.agg (lsN limit).toArray, v] w fun e w' => e = .returned (.tuple #[.slice none 0 0, .int .i64 3]) ∧ Below w.heap.size w w' := by
  obtain ⟨⟨ao, cap, rfl, h1⟩, h2⟩ := hI
  have HD := hid (fun w' (hb : Below w.heap.size w w') => pieces_bad (.slice ao bs.length cap) bs limit w' (IsB.keep ⟨⟨ao, cap, rfl, h1⟩, h2⟩ hb) hlen hbad)
  clear hlen hbad h1 h2
  refine (callsIn_wide (n := 5)).1 ?_
  refine callsIn_of_wp_marks Tryz.func37 rfl trivial ?_ rfl
  simp only [Tryz.ntmps37, List.size_toArray, List.length_cons, List.length_nil, Nat.reduceAdd, Nat.reduceSub, Array.replicate_succ, Array.replicate_zero, List.push_toArray, List.append_toArray, List.nil_append, List.cons_append]
  gi_wp2_with (first
    | (refine wpListIn_box_c rfl 2 rfl (.tmp 0) rfl (lsN limit) rfl ?_; intro w1 H1 B1 S1)
    | (refine wpListIn_load_c Tryz.ty89 rfl (.tmp 2) rfl w.heap.size (lsN limit) rfl rfl (H1.keep (((Below.refl _ w1).alloc (Nat.le_refl _) _).alloc (by simp) _)) ?_))
  have BA : Below w.heap.size w ((w1.alloc (.cells #[.slice none 0 0] 22)).alloc (.cells #[.int .i64 0] 41)) := (B1.alloc (by omega) _).alloc (by simp; omega) _
  have H4 : HasC ((w1.alloc (.cells #[.slice none 0 0] 22)).alloc (.cells #[.int .i64 0] 41)) (w.heap.size + 1) 22 [.slice none 0 0] := by
    have h := heap_alloc_new w1 (.cells #[.slice none 0 0] 22)
    rw [S1] at h
    exact HasC.keep (t := 22) (cs := [.slice none 0 0]) h ((Below.refl _ _).alloc (Nat.le_refl _) _)
  have H5 : HasC ((w1.alloc (.cells #[.slice none 0 0] 22)).alloc (.cells #[.int .i64 0] 41)) (w.heap.size + 2) 41 [.int .i64 0] := by
    have h := heap_alloc_new (w1.alloc (.cells #[.slice none 0 0] 22)) (.cells #[.int .i64 0] 41)
    rw [World.size_alloc, S1] at h
    exact h
  have S3 : ((w1.alloc (.cells #[.slice none 0 0] 22)).alloc (.cells #[.int .i64 0] 41)).heap.size = w.heap.size + 3 := by simp [S1]
  clear H1 B1 S1
  generalize (w1.alloc (.cells #[.slice none 0 0] 22)).alloc (.cells #[.int .i64 0] 41) = w2 at BA H4 H5 S3 ⊢
  simp only [Nat.add_assoc, Nat.reduceAdd]
  have HP := hid (HD.out w2 BA)
  have HX := hid (And.intro H4 (And.intro H5 BA))
  clear H4 H5 BA HD
  refine ⟨trivial, ?_⟩
  refine (callsIn_wide.2 HP.out).mono ?_
  rintro e w3 ⟨rfl, B3⟩
  have H4 := HX.out.1.keep B3
  have H5 := HX.out.2.1.keep B3
  have h4c := H4.cell (j := 0) (v := .slice none 0 0) rfl
  have h4f : w3.frozen? ⟨w.heap.size + 1, 0, none⟩ = false := frozen_of_row w3 (w.heap.size + 1) 0 _ _ H4
  have h5c := H5.cell (j := 0) (v := .int .i64 0) rfl
  have h5f : w3.frozen? ⟨w.heap.size + 2, 0, none⟩ = false := frozen_of_row w3 (w.heap.size + 2) 0 _ _ H5
  have o1 : ∀ b, b ≠ w.heap.size + 1 → (w3.setCell ⟨w.heap.size + 1, 0, none⟩ (.slice none 0 0)).heap[b]? = w3.heap[b]? := fun b hb => heap_setCell_other w3 ⟨w.heap.size + 1, 0, none⟩ b _ hb
  have c1 : HasC (w3.setCell ⟨w.heap.size + 1, 0, none⟩ (.slice none 0 0)) (w.heap.size + 1) 22 [.slice none 0 0] := by
    unfold HasC at H4 ⊢
    simp [World.setCell, Array.getElem?_modify, H4]
  have c5 : HasC (w3.setCell ⟨w.heap.size + 1, 0, none⟩ (.slice none 0 0)) (w.heap.size + 2) 41 [.int .i64 0] := (o1 _ (by omega)).trans H5
  have b1 : Below w.heap.size w (w3.setCell ⟨w.heap.size + 1, 0, none⟩ (.slice none 0 0)) := (below_more HX.out.2.2 B3 (Nat.le_refl _)).setCell (p := ⟨w.heap.size + 1, 0, none⟩) (by show w.heap.size ≤ w.heap.size + 1; omega) _
  have o2 : ∀ b, b ≠ w.heap.size + 2 → ((w3.setCell ⟨w.heap.size + 1, 0, none⟩ (.slice none 0 0)).setCell ⟨w.heap.size + 2, 0, none⟩ (.int .i64 3)).heap[b]? = (w3.setCell ⟨w.heap.size + 1, 0, none⟩ (.slice none 0 0)).heap[b]? := fun b hb => heap_setCell_other _ ⟨w.heap.size + 2, 0, none⟩ b _ hb
  have e4 : HasC ((w3.setCell ⟨w.heap.size + 1, 0, none⟩ (.slice none 0 0)).setCell ⟨w.heap.size + 2, 0, none⟩ (.int .i64 3)) (w.heap.size + 1) 22 [.slice none 0 0] := (o2 _ (by omega)).trans c1
  have e5 : HasC ((w3.setCell ⟨w.heap.size + 1, 0, none⟩ (.slice none 0 0)).setCell ⟨w.heap.size + 2, 0, none⟩ (.int .i64 3)) (w.heap.size + 2) 41 [.int .i64 3] := by
    unfold HasC at c5 ⊢
    simp [World.setCell, Array.getElem?_modify] at c5 ⊢
    simp [c5]
  have HE := hid (And.intro e4 (And.intro e5 (b1.setCell (p := ⟨w.heap.size + 2, 0, none⟩) (by show w.heap.size ≤ w.heap.size + 2; omega) (.int .i64 3))))
  clear B3 HP HX H4 H5 o1 c1 c5 b1 o2 e4 e5
  gi_wp2
  exact ⟨_, results_cc rfl _ _ (w.heap.size + 1) (w.heap.size + 2) _ _ rfl rfl HE.out.1 HE.out.2.1, rfl, HE.out.2.2⟩
end Go.Proofs.YtpaamhmighgjeaaGreat

/- Numbers as eight bytes, there and back. -/
namespace Go.Proofs.YtpaamhmighgjeaaGreat
open Go.RowKit
set_option maxRecDepth 100000

theorem tk_le8 (n : Nat) (h : n < 18446744073709551616) : tk (le n 8) = n := by
  unfold tk
  rw [le_putL]
  exact takeV_put8 n h
end Go.Proofs.YtpaamhmighgjeaaGreat

/- Indexed taken: ToIndexed. -/
namespace Go.Proofs.YtpaamhmighgjeaaGreat
open Go.RowKit Go.Shelf
set_option linter.unusedVariables false
set_option linter.unusedSimpArgs false
set_option maxRecDepth 100000

theorem bytesN_drop (L : List Nat) (i : Nat) : (bytesN L).drop (i * 8) = bytesN (L.drop i) := by
  induction i generalizing L with
  | zero => simp
  | succ i ih =>
    cases L with
    | nil => simp [bytesN]
    | cons n L =>
      have e : bytesN (n :: L) = le n 8 ++ bytesN L := rfl
      rw [e, show (i + 1) * 8 = 8 + i * 8 by omega, ← List.drop_drop, List.drop_left' (le_length n 8), ih]
      rfl
theorem pcs_bytesN (L : List Nat) (h64 : ∀ n ∈ L, n < 18446744073709551616) : (pcs (bytesN L) 8 L.length).map tk = L := by
  apply List.ext_getElem
  · simp [pcs]
  · intro i h1 h2
    simp only [pcs, List.getElem_map, List.getElem_range]
    rw [bytesN_drop]
    have e : L.drop i = L[i] :: L.drop (i + 1) := List.drop_eq_getElem_cons h2
    rw [e]
    have e2 : bytesN (L[i] :: L.drop (i + 1)) = le L[i] 8 ++ bytesN (L.drop (i + 1)) := rfl
    rw [e2, List.take_left' (le_length _ 8)]
    exact tk_le8 _ (h64 _ (List.getElem_mem h2))
theorem isN_own {w : World} {base : Nat} {v : Value} {ns : List Nat} (h : w.ownsRow base 23 1 v ns.length (n64 ns)) (h64 : ∀ n ∈ ns, n < 18446744073709551616) : IsN w v ns := by
  refine ⟨?_, h64⟩
  obtain ⟨_, ⟨rfl, hz⟩ | ⟨g, cap, cur, rfl, _, hg, hnc, hm, hcs, htk⟩⟩ := h
  · exact ⟨none, 0, by rw [hz], by omega, by unfold maxLen; omega, .inl hz⟩
  · refine ⟨some ⟨g, 0, none⟩, cap, rfl, hnc, hm, .inr ⟨g, 0, rfl, fun i hi => ?_⟩⟩
    have h1 := congrArg (·[i]?) htk
    simp only [List.getElem?_take] at h1
    rw [if_pos (by omega)] at h1
    rw [Nat.zero_add, cell_of_row w g i _ _ (0, 0) hg, ← Array.getElem?_toList, h1, n64, List.getElem?_map, List.getElem?_eq_getElem hi, List.getD_eq_getElem?_getD, List.getElem?_eq_getElem hi]
    rfl
theorem ixBuild (V : List Value) (sig : List Nat) (hV : V.length = 100) (hs : sig.length = 32) (w : World) : (Instr.build 31 #[(1, .agg V.toArray), (2, .agg (nums .u8 sig))]).run Tryz.prog w = .ok (.agg (atC (.slice none 0 0) V sig).toArray) w := by
  have ho : outC #[(1, Value.agg V.toArray), (2, Value.agg (nums .u8 sig))].toList = V ++ (cellsB sig ++ []) := rfl
  have hl : (V ++ (cellsB sig ++ [])).length = 132 := by simp [cellsB_length, hV, hs]
  have h := build_from Tryz.ty31 _ Tryz.underlying31 #[(0, 1), (1, 100), (101, 32)] (fun w => by kernel_rfl) #[(1, .agg V.toArray), (2, .agg (nums .u8 sig))] 1
    (by
      have e1 : (Value.agg V.toArray).cells.size = 100 := hV
      have e2 : (Value.agg (nums .u8 sig)).cells.size = 32 := (nums_size _ _).trans hs
      refine ⟨?_, ?_, trivial⟩ <;> (try rw [e2]) <;> rw [e1] <;> rfl) (by rw [ho, hl]; decide) w
  rw [ho, hl] at h
  have ht : ix0.take 1 = [.slice none 0 0] := rfl
  have hd : ix0.drop (1 + 132) = [] := by kernel_rfl
  rw [ht, hd, List.append_nil] at h
  exact h
theorem ixA_false (C : List Value) : ixA false C = .tuple #[.agg ix0.toArray, .int .i64 3] := rfl
theorem ixA_true (C : List Value) : ixA true C = .tuple #[.agg C.toArray, .int .i64 0] := rfl

set_option maxHeartbeats 2000000 in
theorem toIx_own (v : Value) (bs : List Nat) (L : List Nat) (w : World) (hB : IsB w v bs) (hl : bs.length ≤ 100000000000) (hG : atG bs = true) (hT : bs.drop 164 = bytesN L) (hL : L.length ≤ 32) (h64 : ∀ n ∈ L, n < 18446744073709551616) :
    Calls Tryz.prog 9 #[v] w fun x w' => (∃ u, x = .returned (ixA true (atC u (atV bs) (atR bs))) ∧ w'.ownsRow w.heap.size 23 1 u L.length (n64 L)) ∧ Below w.heap.size w w' := by
  have HTB := hid hT
  have HGB := hid hG
  have HLL := hid (And.intro hL h64)
  clear hG hT hL h64
  have HI := hid hB
  obtain ⟨⟨ao, cap, rfl, _⟩, _⟩ := hB
  go_enter Tryz.func9, Tryz.ntmps9
  go_wp2_with ((with_reducible refine at_list' ?_); first
    | (refine wpList_alloc_c Tryz.ty31 rfl 2 rfl rfl ?_; intro w1 H1 B1 S1))
  have HC := hid (read_any _ bs 164 w1 (HI.out.keep B1) (by decide) (by omega))
  have HH1 := hid H1
  have HB1 := hid B1
  have s1 := S1
  clear H1 B1 S1 HI
  refine HC.out.mono ?_
  rintro e w2 ⟨g, S, hg, rfl, q1, q2, q3⟩
  have HP := hid (rpart_any w2 q1 (by decide) (by omega) (by simp))
  have HH2 := hid (HH1.out.keep q3)
  have HB2 := hid (HB1.out.trans (q3.mono (by omega)))
  have s2 := q3.size
  have hgl := q1.gt
  clear q1 q2 q3 HC HH1 HB1
  go_wp2_with fail
  refine HP.out.mono ?_
  rintro e w3 ⟨⟨u3, rfl⟩, q1, q2⟩
  have HT := hid (takeVt_any w3 q1 (by decide) (by omega))
  have HH3 := hid (HH2.out.grown q2 (by omega))
  have s3 := q2.size
  have HB3 : Hid (Below w.heap.size w w3) := hid ⟨q2.os.trans HB2.out.os, q2.tape.trans HB2.out.tape, q2.output.trans HB2.out.output, by omega, fun j hj => (q2.block j (by omega) (fun h => by have := Option.some.inj h; omega)).trans (HB2.out.block j hj)⟩
  clear q1 q2 HP HH2 HB2
  go_wp2_with fail
  refine HT.out.mono ?_
  rintro e w4 ⟨rfl, hV, q1, q2⟩
  have HR := hid (rroot_any w4 q1 (by decide) (by omega))
  have hr : (atR bs).length = 32 := fixB_length q1.ts q1.ok
  have HH4 := hid (HH3.out.grown q2 (by omega))
  have s4 := q2.size
  have HB4 : Hid (Below w.heap.size w w4) := hid ⟨q2.os.trans HB3.out.os, q2.tape.trans HB3.out.tape, q2.output.trans HB3.out.output, by omega, fun j hj => (q2.block j (by omega) (fun h => by have := Option.some.inj h; omega)).trans (HB3.out.block j hj)⟩
  have HV : Hid ((atV bs).length = 100) := hid hV
  have HRl := hid hr
  clear q1 q2 HT HH3 HB3 hV hr
  go_wp2_with fail
  refine HR.out.mono ?_
  rintro e w5 ⟨rfl, q1, q2⟩
  have HH5 := hid (HH4.out.grown q2 (by omega))
  have s5 := q2.size
  have HB5 : Hid (Below w.heap.size w w5) := hid ⟨q2.os.trans HB4.out.os, q2.tape.trans HB4.out.tape, q2.output.trans HB4.out.output, by omega, fun j hj => (q2.block j (by omega) (fun h => by have := Option.some.inj h; omega)).trans (HB4.out.block j hj)⟩
  have HRd : Hid (Rd w5 g (more S w2 w3) bs 164 (atS bs).1 (atP bs) (atS bs).2) := hid q1
  have HBd := hid (ixBuild (atV bs) (atR bs) HV.out HRl.out w5)
  have HL := hid (atC_length (sb := .slice none 0 0) HV.out HRl.out)
  have HO : Hid ((atC (.slice none 0 0) (atV bs) (atR bs)).toArray.all (·.oneCell') = true) := hid (atC_one rfl (vtTake_one _ _ _))
  clear q1 q2 HR HH4 HB4
  go_wp2_with ((with_reducible refine at_list' ?_); first
    | (refine wpList_build_c rfl _ rfl #[(1, .agg (atV bs).toArray), (2, .agg (nums .u8 (atR bs)))] (by simp only [Act.eval, List.map_toArray, List.map_cons, List.map_nil]; rfl) _ HBd.out ?_)
    | (refine wpList_alloc_c Tryz.ty31 rfl 5 rfl rfl ?_; intro w6 H6 B6 S6)
    | (refine wpList_store_c Tryz.ty31 rfl (.tmp 5) (.tmp 18) rfl w5.heap.size (atC (.slice none 0 0) (atV bs) (atR bs)) rfl rfl (by rw [HL.out]; rfl) HO.out _ H6 rfl ?_; intro w7 H7 O7))
  have s7 := O7.size
  have B57 : Below w5.heap.size w5 w7 := below_only B6 O7 (Nat.le_refl _)
  have HR7 := hid (HRd.out.below B57)
  have HB7 := hid (HB5.out.trans (B57.mono (by omega)))
  have HH7 := hid (HH5.out.keep B57)
  have HX7 := hid H7
  clear H6 B6 O7 H7 B57 HRd HB5 HH5 HBd
  have hG := HGB.out
  have HG := hid hG
  obtain ⟨eS, eP, e164⟩ := atGood hG
  have hR : Rd w7 g (more S w2 w3) bs 164 164 [164] false := by have := HR7.out; rw [eS, eP] at this; exact this
  have HPo := hid (parts_ok w7 hR (fun e => by cases e) (fun i hi => by
    have : i = 0 := by simpa using hi
    subst this
    simp only [toI]
    simp
    exact e164) (by decide) (by omega) (by simp))
  clear hR HR7 eS eP hG
  refine HPo.out.mono ?_
  rintro e w8 ⟨u, rfl, q1, B8⟩
  obtain ⟨b0, o0, c0, v0, rfl, hcell, hI0⟩ := isBs_one bs 164 q1
  obtain ⟨D, hD⟩ : ∃ D, bs.drop 164 = D := ⟨_, rfl⟩
  have hDl : D.length ≤ 100000000000 := by rw [← hD, List.length_drop]; omega
  rw [hD] at hI0
  have HD := hid hD
  clear hD
  have HB8 := hid (HB7.out.trans (B8.mono (by omega)))
  have HH8 := hid (HH7.out.keep B8)
  have HX8 := hid (HX7.out.keep B8)
  have s8 := B8.size
  have hI0' := hI0
  obtain ⟨⟨a0, p0, rfl, _⟩, _⟩ := hI0'
  have HI0 := hid (And.intro hcell hI0)
  clear q1 B8 HPo HB7 HH7 HX7 hI0 hcell
  go_wp2_with fail
  refine wp_region_flowM 8 7 (fun i v wq => match i with
    | 0 => v = .agg (lsN 32).toArray
    | 1 => v = .slice (some ⟨b0, o0, none⟩) 1 c0
    | 2 => v = .pointer (some ⟨b0, o0, none⟩)
    | 3 => v = .slice a0 D.length p0
    | 4 => ∃ u, v = .tuple #[u, .int .i64 0] ∧ wq.ownsRow w8.heap.size 23 1 u L.length (n64 L)
    | 5 => ∃ u, v = .tuple #[u, .int .i64 0] ∧ wq.ownsRow w8.heap.size 23 1 u L.length (n64 L)
    | 6 => wq.ownsRow w8.heap.size 23 1 v L.length (n64 L)
    | _ => v = .int .i64 0) (by kernel_rfl) (by kernel_rfl) (fun _ d _ _ _ h => by cases d <;> exact h) ?_ ?_ ?_ ?_ ?_
  · intro i o g b hi ho hg v wq hv
    match i, hi with
    | 0, _ => cases ho; cases hg
    | 1, _ => cases ho; cases hg
    | 2, _ => cases ho; cases hg
    | 3, _ => cases ho; cases hg
    | 4, _ => cases ho; cases hg
    | 5, _ => cases ho; cases hg
    | 6, _ => cases ho; cases hg
    | 7, _ => cases ho; cases hg
    | (k + 8), hk => exact absurd hk (by omega)
  · intro i v wq wq' hi hv hb
    match i, hi with
    | 0, _ => exact hv
    | 1, _ => exact hv
    | 2, _ => exact hv
    | 3, _ => exact hv
    | 4, _ => obtain ⟨u, e, h⟩ := hv; exact ⟨u, e, own_keep h hb⟩
    | 5, _ => obtain ⟨u, e, h⟩ := hv; exact ⟨u, e, own_keep h hb⟩
    | 6, _ => exact own_keep hv hb
    | 7, _ => exact hv
    | (k + 8), hk => exact absurd hk (by omega)
  · intro i o hi ho aq wq hc hk hdep
    match i, hi with
    | 0, _ =>
      cases ho
      refine flow_fun 26 _ _ rfl (fun _ _ => by simp [go_sem]) #[.int .i64 32] (by simp [Act.eval]) ?_
      refine (lsN_any 32 wq).mono ?_
      rintro e w' ⟨rfl, B⟩
      exact ⟨_, rfl, rfl, B⟩
    | 1, _ =>
      cases ho
      exact flow_move (.tmp 6) rfl (hk 6 (by decide))
    | 2, _ =>
      cases ho
      have e0 : aq.tmps.getD 32 undef = .slice (some ⟨b0, o0, none⟩) 1 c0 := hdep 1 32 rfl (by kernel_rfl)
      exact flow_value _ (run_indexAt 100 (.tmp 32) (.const (.int .i64 0)) rfl _ (.int .i64 0) (.pointer (some ⟨b0, o0, none⟩)) e0 (by simp [Act.eval]) (by kernel_rfl)) rfl
    | 3, _ =>
      cases ho
      have e0 : aq.tmps.getD 33 undef = .pointer (some ⟨b0, o0, none⟩) := hdep 2 33 rfl (by kernel_rfl)
      exact flow_value _ (run_cell 39 (.tmp 33) rfl _ e0 _ (cell_keep hc.bel HI0.out.1) _ Tryz.underlying39 rfl) rfl
    | 4, _ =>
      cases ho
      have e0 : aq.tmps.getD 31 undef = .agg (lsN 32).toArray := hdep 0 31 rfl (by kernel_rfl)
      have e1 : aq.tmps.getD 34 undef = .slice a0 D.length p0 := hdep 3 34 rfl (by kernel_rfl)
      refine flow_fun 37 _ _ rfl (fun _ _ => by simp [go_sem]) #[.agg (lsN 32).toArray, .slice a0 D.length p0] (by rw [show (#[Operand.tmp 31, Operand.tmp 34] : Array Operand).map aq.eval = #[aq.tmps.getD 31 undef, aq.tmps.getD 34 undef] from by simp [Act.eval], e0, e1]) ?_
      refine (ldec_ok _ D L.length 32 wq (HI0.out.2.keep hc.bel) (by rw [← HD.out, HTB.out, bytesN_length]; omega) (by omega) (by have := HLL.out.1; omega)).mono ?_
      rintro e w' ⟨u, rfl, how, B⟩
      rw [show D = bytesN L from HD.out.symm.trans HTB.out, pcs_bytesN L HLL.out.2] at how
      exact ⟨_, rfl, ⟨u, rfl, own_base how hc.bel.size⟩, B⟩
    | 5, _ =>
      cases ho
      exact flow_move (.tmp 35) rfl (hdep 4 35 rfl (by kernel_rfl))
    | 6, _ =>
      cases ho
      obtain ⟨u, e, h⟩ : ∃ u, aq.tmps.getD 30 undef = .tuple #[u, .int .i64 0] ∧ wq.ownsRow w8.heap.size 23 1 u L.length (n64 L) := hdep 5 30 rfl (by kernel_rfl)
      exact flow_extract (.tmp 30) 0 _ _ rfl (by simpa [Act.eval] using e) rfl h
    | 7, _ =>
      cases ho
      obtain ⟨u, e, h⟩ : ∃ u, aq.tmps.getD 30 undef = .tuple #[u, .int .i64 0] ∧ wq.ownsRow w8.heap.size 23 1 u L.length (n64 L) := hdep 5 30 rfl (by kernel_rfl)
      exact flow_extract (.tmp 30) 1 _ _ rfl (by simpa [Act.eval] using e) rfl rfl
    | (k + 8), hk => exact absurd hk (by omega)
  · intro o h7 ho aq wq hc hk hdep
    cases ho
    obtain ⟨u, e, h⟩ : ∃ u, aq.tmps.getD 30 undef = .tuple #[u, .int .i64 0] ∧ wq.ownsRow w8.heap.size 23 1 u L.length (n64 L) := hdep 5 30 rfl (by kernel_rfl)
    exact ⟨_, fun w => run_extract (.tmp 30) 1 _ _ rfl (by simpa [Act.eval] using e) rfl, rfl⟩
  intro vf w9 hc hv
  have e6 : w9.ownsRow w8.heap.size 23 1 (vf 6) L.length (n64 L) := hv 6 36 (by decide) rfl
  have e7 : vf 7 = _ := hv 7 37 (by decide) rfl
  clear hv
  simp only [List.take_succ_cons, List.take_zero, List.drop_succ_cons, List.drop_zero, putAll, Act.put, List.setIfInBounds_toArray, List.set_cons_succ, List.set_cons_zero]
  obtain ⟨u6, hu6⟩ : ∃ u6, vf 6 = u6 := ⟨_, rfl⟩
  rw [hu6] at e6 ⊢
  rw [e7]
  clear hu6 e7
  obtain ⟨ao9, n9, c9, rfl⟩ := own_slice e6
  have B9 := hc.bel
  have HOW := hid e6

  have HB9 := hid (HB8.out.trans (B9.mono (by omega)))
  have HH9 := hid (HH8.out.keep B9)
  have HX9 := HX8.out.keep B9
  have hx0 := HX9.cell (j := 0) (v := .slice none 0 0) rfl
  have hfz : w9.frozen? ⟨w5.heap.size, 0, none⟩ = false := frozen_of_row w9 w5.heap.size 0 _ _ HX9
  have s9 := B9.size
  clear B9 HB8 HH8 HX8 e6 hc
  have HXs := hid (HX9.setCell 0 (.slice ao9 n9 c9))
  have HXO := hid (Only.setCell w9 w5.heap.size 0 (.slice ao9 n9 c9))
  have HTs := hid (own_kept HOW.out (fun r hr => HXO.out.block r (by have := (own_cells HOW.out r hr).1; omega)))
  have HU : Hid ((Value.slice ao9 n9 c9).oneCell' = true) := hid rfl
  have hset : (atC (.slice none 0 0) (atV bs) (atR bs)).set 0 (.slice ao9 n9 c9) = atC (.slice ao9 n9 c9) (atV bs) (atR bs) := rfl
  rw [hset] at HXs
  have HLu := hid (atC_length (sb := (.slice ao9 n9 c9)) HV.out HRl.out)
  have HOu : Hid ((atC (.slice ao9 n9 c9) (atV bs) (atR bs)).toArray.all (·.oneCell') = true) := hid (atC_one HU.out (vtTake_one _ _ _))
  clear hset
  go_wp2_with ((with_reducible refine at_list' ?_); first
    | (refine wpList_load_c Tryz.ty31 rfl (.tmp 5) rfl w5.heap.size (atC (.slice ao9 n9 c9) (atV bs) (atR bs)) rfl (by rw [HLu.out]; rfl) (by exact HXs.out) ?_))
  have HN := hid (answerIx_any (atC (.slice ao9 n9 c9) (atV bs) (atR bs)) true (w9.setCell ⟨w5.heap.size, 0, none⟩ (.slice ao9 n9 c9)) HLu.out HOu.out)
  rw [ixA_true] at HN
  have HHs := hid (HH9.out.only HXO.out (by omega))
  have HBs := hid (below_only HB9.out HXO.out (by omega))
  have ss := HXO.out.size
  clear HX9 hx0 hfz
  refine HN.out.mono ?_
  rintro e wa ⟨rfl, Ba⟩
  have HBa := hid (HBs.out.trans (Ba.mono (by omega)))
  have HHa := hid (HHs.out.keep Ba)
  have HTa := hid (own_keep HTs.out Ba)
  clear Ba HN
  go_wp2_with ((with_reducible refine at_list' ?_); first
    | (refine wpList_store_c Tryz.ty31 rfl (.tmp 2) (.tmp 44) rfl w.heap.size (atC (.slice ao9 n9 c9) (atV bs) (atR bs)) rfl rfl (by rw [HLu.out]; rfl) HOu.out _ HHa.out rfl ?_; intro wb Hb Ob))
  refine bodyPost_ret (results_c Tryz.ty31 rfl _ wb w.heap.size (atC (.slice ao9 n9 c9) (atV bs) (atR bs)) (.int .i64 0) rfl rfl Hb (by rw [HLu.out]; rfl)) rfl ⟨⟨(.slice ao9 n9 c9), rfl, ?_⟩, below_only HBa.out Ob (Nat.le_refl _)⟩
  exact own_base (own_kept HTa.out (fun r hr => Ob.block r (by have := (own_cells HTa.out r hr).1; omega))) (by omega)
theorem toIx_good (v : Value) (bs : List Nat) (L : List Nat) (w : World) (hB : IsB w v bs) (hl : bs.length ≤ 100000000000) (hG : atG bs = true) (hT : bs.drop 164 = bytesN L) (hL : L.length ≤ 32) (h64 : ∀ n ∈ L, n < 18446744073709551616) :
    Calls Tryz.prog 9 #[v] w fun x w' => (∃ u, x = .returned (ixA true (atC u (atV bs) (atR bs))) ∧ IsN w' u L) ∧ Below w.heap.size w w' := by
  refine (toIx_own v bs L w hB hl hG hT hL h64).mono ?_
  rintro e w' ⟨⟨u, h1, h2⟩, B⟩
  exact ⟨⟨u, h1, isN_own h2 h64⟩, B⟩
set_option maxHeartbeats 2000000 in
theorem toIx_bad (v : Value) (bs : List Nat) (L : List Nat) (w : World) (hB : IsB w v bs) (hl : bs.length ≤ 100000000000) (hG : atG bs = true) (hT : bs.drop 164 = bytesN L) (hL : 32 < L.length) :
    Calls Tryz.prog 9 #[v] w fun x w' => x = .returned (ixA false []) ∧ Below w.heap.size w w' := by
  have HTB := hid hT
  have HGB := hid hG
  have HLL := hid hL
  clear hG hT hL
  have HI := hid hB
  obtain ⟨⟨ao, cap, rfl, _⟩, _⟩ := hB
  go_enter Tryz.func9, Tryz.ntmps9
  go_wp2_with ((with_reducible refine at_list' ?_); first
    | (refine wpList_alloc_c Tryz.ty31 rfl 2 rfl rfl ?_; intro w1 H1 B1 S1))
  have HC := hid (read_any _ bs 164 w1 (HI.out.keep B1) (by decide) (by omega))
  have HH1 := hid H1
  have HB1 := hid B1
  have s1 := S1
  clear H1 B1 S1 HI
  refine HC.out.mono ?_
  rintro e w2 ⟨g, S, hg, rfl, q1, q2, q3⟩
  have HP := hid (rpart_any w2 q1 (by decide) (by omega) (by simp))
  have HH2 := hid (HH1.out.keep q3)
  have HB2 := hid (HB1.out.trans (q3.mono (by omega)))
  have s2 := q3.size
  have hgl := q1.gt
  clear q1 q2 q3 HC HH1 HB1
  go_wp2_with fail
  refine HP.out.mono ?_
  rintro e w3 ⟨⟨u3, rfl⟩, q1, q2⟩
  have HT := hid (takeVt_any w3 q1 (by decide) (by omega))
  have HH3 := hid (HH2.out.grown q2 (by omega))
  have s3 := q2.size
  have HB3 : Hid (Below w.heap.size w w3) := hid ⟨q2.os.trans HB2.out.os, q2.tape.trans HB2.out.tape, q2.output.trans HB2.out.output, by omega, fun j hj => (q2.block j (by omega) (fun h => by have := Option.some.inj h; omega)).trans (HB2.out.block j hj)⟩
  clear q1 q2 HP HH2 HB2
  go_wp2_with fail
  refine HT.out.mono ?_
  rintro e w4 ⟨rfl, hV, q1, q2⟩
  have HR := hid (rroot_any w4 q1 (by decide) (by omega))
  have hr : (atR bs).length = 32 := fixB_length q1.ts q1.ok
  have HH4 := hid (HH3.out.grown q2 (by omega))
  have s4 := q2.size
  have HB4 : Hid (Below w.heap.size w w4) := hid ⟨q2.os.trans HB3.out.os, q2.tape.trans HB3.out.tape, q2.output.trans HB3.out.output, by omega, fun j hj => (q2.block j (by omega) (fun h => by have := Option.some.inj h; omega)).trans (HB3.out.block j hj)⟩
  have HV : Hid ((atV bs).length = 100) := hid hV
  have HRl := hid hr
  clear q1 q2 HT HH3 HB3 hV hr
  go_wp2_with fail
  refine HR.out.mono ?_
  rintro e w5 ⟨rfl, q1, q2⟩
  have HH5 := hid (HH4.out.grown q2 (by omega))
  have s5 := q2.size
  have HB5 : Hid (Below w.heap.size w w5) := hid ⟨q2.os.trans HB4.out.os, q2.tape.trans HB4.out.tape, q2.output.trans HB4.out.output, by omega, fun j hj => (q2.block j (by omega) (fun h => by have := Option.some.inj h; omega)).trans (HB4.out.block j hj)⟩
  have HRd : Hid (Rd w5 g (more S w2 w3) bs 164 (atS bs).1 (atP bs) (atS bs).2) := hid q1
  have HBd := hid (ixBuild (atV bs) (atR bs) HV.out HRl.out w5)
  have HL := hid (atC_length (sb := .slice none 0 0) HV.out HRl.out)
  have HO : Hid ((atC (.slice none 0 0) (atV bs) (atR bs)).toArray.all (·.oneCell') = true) := hid (atC_one rfl (vtTake_one _ _ _))
  clear q1 q2 HR HH4 HB4
  go_wp2_with ((with_reducible refine at_list' ?_); first
    | (refine wpList_build_c rfl _ rfl #[(1, .agg (atV bs).toArray), (2, .agg (nums .u8 (atR bs)))] (by simp only [Act.eval, List.map_toArray, List.map_cons, List.map_nil]; rfl) _ HBd.out ?_)
    | (refine wpList_alloc_c Tryz.ty31 rfl 5 rfl rfl ?_; intro w6 H6 B6 S6)
    | (refine wpList_store_c Tryz.ty31 rfl (.tmp 5) (.tmp 18) rfl w5.heap.size (atC (.slice none 0 0) (atV bs) (atR bs)) rfl rfl (by rw [HL.out]; rfl) HO.out _ H6 rfl ?_; intro w7 H7 O7))
  have s7 := O7.size
  have B57 : Below w5.heap.size w5 w7 := below_only B6 O7 (Nat.le_refl _)
  have HR7 := hid (HRd.out.below B57)
  have HB7 := hid (HB5.out.trans (B57.mono (by omega)))
  have HH7 := hid (HH5.out.keep B57)
  have HX7 := hid H7
  clear H6 B6 O7 H7 B57 HRd HB5 HH5 HBd
  have hG := HGB.out
  have HG := hid hG
  obtain ⟨eS, eP, e164⟩ := atGood hG
  have hR : Rd w7 g (more S w2 w3) bs 164 164 [164] false := by have := HR7.out; rw [eS, eP] at this; exact this
  have HPo := hid (parts_ok w7 hR (fun e => by cases e) (fun i hi => by
    have : i = 0 := by simpa using hi
    subst this
    simp only [toI]
    simp
    exact e164) (by decide) (by omega) (by simp))
  clear hR HR7 eS eP hG
  refine HPo.out.mono ?_
  rintro e w8 ⟨u, rfl, q1, B8⟩
  obtain ⟨b0, o0, c0, v0, rfl, hcell, hI0⟩ := isBs_one bs 164 q1
  obtain ⟨D, hD⟩ : ∃ D, bs.drop 164 = D := ⟨_, rfl⟩
  have hDl : D.length ≤ 100000000000 := by rw [← hD, List.length_drop]; omega
  rw [hD] at hI0
  have HD := hid hD
  clear hD
  have HB8 := hid (HB7.out.trans (B8.mono (by omega)))
  have HH8 := hid (HH7.out.keep B8)
  have HX8 := hid (HX7.out.keep B8)
  have s8 := B8.size
  have hI0' := hI0
  obtain ⟨⟨a0, p0, rfl, _⟩, _⟩ := hI0'
  have HI0 := hid (And.intro hcell hI0)
  clear q1 B8 HPo HB7 HH7 HX7 hI0 hcell
  go_wp2_with fail
  refine wp_region_flowM 8 7 (fun i v wq => match i with
    | 0 => v = .agg (lsN 32).toArray
    | 1 => v = .slice (some ⟨b0, o0, none⟩) 1 c0
    | 2 => v = .pointer (some ⟨b0, o0, none⟩)
    | 3 => v = .slice a0 D.length p0
    | 4 => v = .tuple #[.slice none 0 0, .int .i64 3]
    | 5 => v = .tuple #[.slice none 0 0, .int .i64 3]
    | 6 => v = .slice none 0 0
    | _ => v = .int .i64 3) (by kernel_rfl) (by kernel_rfl) (fun _ d _ _ _ h => by cases d <;> exact h) ?_ ?_ ?_ ?_ ?_
  · intro i o g b hi ho hg v wq hv
    match i, hi with
    | 0, _ => cases ho; cases hg
    | 1, _ => cases ho; cases hg
    | 2, _ => cases ho; cases hg
    | 3, _ => cases ho; cases hg
    | 4, _ => cases ho; cases hg
    | 5, _ => cases ho; cases hg
    | 6, _ => cases ho; cases hg
    | 7, _ => cases ho; cases hg
    | (k + 8), hk => exact absurd hk (by omega)
  · intro i v wq wq' hi hv hb
    match i, hi with
    | 0, _ => exact hv
    | 1, _ => exact hv
    | 2, _ => exact hv
    | 3, _ => exact hv
    | 4, _ => exact hv
    | 5, _ => exact hv
    | 6, _ => exact hv
    | 7, _ => exact hv
    | (k + 8), hk => exact absurd hk (by omega)
  · intro i o hi ho aq wq hc hk hdep
    match i, hi with
    | 0, _ =>
      cases ho
      refine flow_fun 26 _ _ rfl (fun _ _ => by simp [go_sem]) #[.int .i64 32] (by simp [Act.eval]) ?_
      refine (lsN_any 32 wq).mono ?_
      rintro e w' ⟨rfl, B⟩
      exact ⟨_, rfl, rfl, B⟩
    | 1, _ =>
      cases ho
      exact flow_move (.tmp 6) rfl (hk 6 (by decide))
    | 2, _ =>
      cases ho
      have e0 : aq.tmps.getD 32 undef = .slice (some ⟨b0, o0, none⟩) 1 c0 := hdep 1 32 rfl (by kernel_rfl)
      exact flow_value _ (run_indexAt 100 (.tmp 32) (.const (.int .i64 0)) rfl _ (.int .i64 0) (.pointer (some ⟨b0, o0, none⟩)) e0 (by simp [Act.eval]) (by kernel_rfl)) rfl
    | 3, _ =>
      cases ho
      have e0 : aq.tmps.getD 33 undef = .pointer (some ⟨b0, o0, none⟩) := hdep 2 33 rfl (by kernel_rfl)
      exact flow_value _ (run_cell 39 (.tmp 33) rfl _ e0 _ (cell_keep hc.bel HI0.out.1) _ Tryz.underlying39 rfl) rfl
    | 4, _ =>
      cases ho
      have e0 : aq.tmps.getD 31 undef = .agg (lsN 32).toArray := hdep 0 31 rfl (by kernel_rfl)
      have e1 : aq.tmps.getD 34 undef = .slice a0 D.length p0 := hdep 3 34 rfl (by kernel_rfl)
      refine flow_fun 37 _ _ rfl (fun _ _ => by simp [go_sem]) #[.agg (lsN 32).toArray, .slice a0 D.length p0] (by rw [show (#[Operand.tmp 31, Operand.tmp 34] : Array Operand).map aq.eval = #[aq.tmps.getD 31 undef, aq.tmps.getD 34 undef] from by simp [Act.eval], e0, e1]) ?_
      have hDl8 : D.length = 8 * L.length := by rw [show D = bytesN L from HD.out.symm.trans HTB.out, bytesN_length]
      have hLL := HLL.out
      refine (ldec_bad _ D 32 wq (HI0.out.2.keep hc.bel) (by omega) (.inr (by rw [Int.tdiv_eq_ediv_of_nonneg (by omega)]; omega))).mono ?_
      rintro e w' ⟨rfl, B⟩
      exact ⟨_, rfl, rfl, B⟩
    | 5, _ =>
      cases ho
      exact flow_move (.tmp 35) rfl (hdep 4 35 rfl (by kernel_rfl))
    | 6, _ =>
      cases ho
      have e : aq.tmps.getD 30 undef = .tuple #[.slice none 0 0, .int .i64 3] := hdep 5 30 rfl (by kernel_rfl)
      exact flow_extract (.tmp 30) 0 _ _ rfl (by simpa [Act.eval] using e) rfl rfl
    | 7, _ =>
      cases ho
      have e : aq.tmps.getD 30 undef = .tuple #[.slice none 0 0, .int .i64 3] := hdep 5 30 rfl (by kernel_rfl)
      exact flow_extract (.tmp 30) 1 _ _ rfl (by simpa [Act.eval] using e) rfl rfl
    | (k + 8), hk => exact absurd hk (by omega)
  · intro o h7 ho aq wq hc hk hdep
    cases ho
    have e : aq.tmps.getD 30 undef = .tuple #[.slice none 0 0, .int .i64 3] := hdep 5 30 rfl (by kernel_rfl)
    exact ⟨_, fun w => run_extract (.tmp 30) 1 _ _ rfl (by simpa [Act.eval] using e) rfl, rfl⟩
  intro vf w9 hc hv
  have e6 : vf 6 = _ := hv 6 36 (by decide) rfl
  have e7 : vf 7 = _ := hv 7 37 (by decide) rfl
  clear hv
  simp only [List.take_succ_cons, List.take_zero, List.drop_succ_cons, List.drop_zero, putAll, Act.put, List.setIfInBounds_toArray, List.set_cons_succ, List.set_cons_zero]
  rw [e6, e7]
  clear e6 e7
  have B9 := hc.bel

  have HB9 := hid (HB8.out.trans (B9.mono (by omega)))
  have HH9 := hid (HH8.out.keep B9)
  have HX9 := HX8.out.keep B9
  have hx0 := HX9.cell (j := 0) (v := .slice none 0 0) rfl
  have hfz : w9.frozen? ⟨w5.heap.size, 0, none⟩ = false := frozen_of_row w9 w5.heap.size 0 _ _ HX9
  have s9 := B9.size
  clear B9 HB8 HH8 HX8 hc
  have HXs := hid (HX9.setCell 0 (.slice none 0 0))
  have HXO := hid (Only.setCell w9 w5.heap.size 0 (.slice none 0 0))
  go_wp2_with ((with_reducible refine at_list' ?_); first
    | (refine wpList_load_c Tryz.ty31 rfl (.tmp 5) rfl w5.heap.size (atC (.slice none 0 0) (atV bs) (atR bs)) rfl (by rw [HL.out]; rfl) (by exact HXs.out) ?_))
  have HN := hid (answerIx_any (atC (.slice none 0 0) (atV bs) (atR bs)) false (w9.setCell ⟨w5.heap.size, 0, none⟩ (.slice none 0 0)) HL.out HO.out)
  rw [ixA_false] at HN
  have HHs := hid (HH9.out.only HXO.out (by omega))
  have HBs := hid (below_only HB9.out HXO.out (by omega))
  have ss := HXO.out.size
  clear HX9 hx0 hfz
  refine HN.out.mono ?_
  rintro e wa ⟨rfl, Ba⟩
  have HBa := hid (HBs.out.trans (Ba.mono (by omega)))
  have HHa := hid (HHs.out.keep Ba)
  clear Ba HN
  go_wp2_with ((with_reducible refine at_list' ?_); first
    | (refine wpList_store_c Tryz.ty31 rfl (.tmp 2) (.tmp 44) rfl w.heap.size ix0 rfl rfl rfl ix0_one _ HHa.out rfl ?_; intro wb Hb Ob))
  exact bodyPost_ret (results_c Tryz.ty31 rfl _ wb w.heap.size ix0 (.int .i64 3) rfl rfl Hb rfl) rfl ⟨rfl, below_only HBa.out Ob (Nat.le_refl _)⟩
end Go.Proofs.YtpaamhmighgjeaaGreat

/- The put of an Indexed. -/
namespace Go.Proofs.YtpaamhmighgjeaaGreat
open Go.RowKit Go.Shelf
set_option linter.unusedVariables false
set_option linter.unusedSimpArgs false
set_option maxRecDepth 100000

set_option maxHeartbeats 1000000 in
/-- codec.Indexed: its cells are the slice of numbers, a Vote's cells, a root. -/
theorem indexed_any (ao : Option Addr) (bl cap : Nat) (ns : List Nat) (sl ix : Nat) (b : List Nat) (es : Nat) (rs : List Nat) (et : Nat) (rt : List Nat) (sig : List Nat) (w : World) (hT : IsN w (.slice ao bl cap) ns) (hbl : ns.length ≤ 100000000) (h1 : sl < 18446744073709551616) (h2 : ix < 18446744073709551616) (hb : b.length = 32) (hb8 : ∀ z ∈ b, z < 256)
    (hes : es < 18446744073709551616) (hrs : rs.length = 32) (hrs8 : ∀ z ∈ rs, z < 256) (het : et < 18446744073709551616) (hrt : rt.length = 32) (hrt8 : ∀ z ∈ rt, z < 256) (hsg : sig.length = 32) (hsg8 : ∀ z ∈ sig, z < 256) :
    Calls Tryz.prog 8 #[.agg ([Value.slice ao bl cap] ++ (vtC sl ix b es rs et rt ++ (cellsB sig ++ []))).toArray] w fun x w' => ∃ v, x = .returned v ∧ Row w' w.heap.size v (cont ([(bytesN ns, true)] ++ (vtF sl ix b es rs et rt ++ rootF [sig]))) ∧ Below w.heap.size w w' := by
  have HT := hid hT
  have HBB := hid (And.intro hb hb8)
  have HRS := hid (And.intro hrs hrs8)
  have HRT := hid (And.intro hrt hrt8)
  have HSG := hid (And.intro hsg hsg8)
  have HE : Hid (([Value.slice ao bl cap] ++ (vtC sl ix b es rs et rt ++ (cellsB sig ++ [])) : List Value) = ([Value.slice ao bl cap] ++ vtC sl ix b es rs et rt) ++ (cellsB sig ++ [])) := hid (by simp)
  obtain ⟨C, hC⟩ : ∃ C : List Value, [Value.slice ao bl cap] ++ (vtC sl ix b es rs et rt ++ (cellsB sig ++ [])) = C := ⟨_, rfl⟩
  have HC0 : Hid (C[0]? = some (.slice ao bl cap)) := hid (by rw [← hC]; rfl)
  have HC1 : Hid (∀ (j : Nat) v, (vtC sl ix b es rs et rt)[j]? = some v → C[1 + j]? = some v) := hid (fun j v hv => by rw [← hC]; exact get_mid rfl hv)
  have HC2 : Hid (∀ (j : Nat) v, (cellsB sig)[j]? = some v → C[101 + j]? = some v) := hid (fun j v hv => by rw [← hC, HE.out]; exact get_mid (by simp [vtC_length hb hrs hrt]) hv)
  rw [hC]
  clear hC HE hT hb hb8 hrs hrs8 hrt hrt8 hsg hsg8
  go_enter Tryz.func8, Tryz.ntmps8
  go_wp2_with (first
    | (refine wpList_box_c rfl 1 rfl (.tmp 0) rfl C rfl ?_; intro w1 H1 B1 S1))
  have W1 := wr_new w1
  have B2 : Below w1.heap.size w1 (w1.alloc (.cells #[.int .i64 0, .pointer none] 84)) := (Below.refl _ w1).alloc (Nat.le_refl _) _
  have S2 := World.size_alloc w1 (.cells #[.int .i64 0, .pointer none] 84)
  rw [S1] at W1
  have X2 := hid (H1.keep B2)
  generalize w1.alloc (.cells #[.int .i64 0, .pointer none] 84) = w2 at W1 B2 S2 X2 ⊢
  have B12 := hid (B1.trans (B2.mono (by omega)))
  have s2 : w2.heap.size = w.heap.size + 2 := by omega
  have HW := hid W1
  clear B1 B2 S1 S2 H1 W1
  refine wp_region_flow 4 4 (fun i v wq => match i with
    | 0 => v = .agg (lsN 32).toArray
    | 1 => v = .pointer (some ⟨w.heap.size, 0, none⟩)
    | 2 => v = .slice ao bl cap
    | _ => IsB wq v (bytesN ns)) (by kernel_rfl) (by kernel_rfl) (fun _ d _ _ _ h => by cases d <;> exact h) ?_ ?_ ?_ ?_
  · intro i v wq wq' hi hv hb
    match i, hi with
    | 0, _ => exact hv
    | 1, _ => exact hv
    | 2, _ => exact hv
    | 3, _ => exact hv.keep hb
    | (k + 4), hk => exact absurd hk (by omega)
  · intro i o hi ho aq wq hc hk hdep
    match i, hi with
    | 0, _ =>
      cases ho
      refine flow_fun 26 _ _ rfl (fun _ _ => by simp [go_sem]) #[.int .i64 32] (by simp [Act.eval]) ?_
      refine (lsN_any 32 wq).mono ?_
      rintro e w' ⟨rfl, B⟩
      exact ⟨_, rfl, rfl, B⟩
    | 1, _ =>
      cases ho
      have e1 : aq.tmps.getD 1 undef = .pointer (some ⟨w.heap.size, 0, none⟩) := hk 1 (by decide)
      exact flow_value _ (run_fieldAt 31 (.tmp 1) 0 rfl _ _ e1 (by kernel_rfl)) rfl
    | 2, _ =>
      cases ho
      have e0 : aq.tmps.getD 5 undef = .pointer (some ⟨w.heap.size, 0, none⟩) := hdep 1 5 rfl (by kernel_rfl)
      exact flow_value _ (run_cell 22 (.tmp 5) rfl _ e0 _ ((X2.out.keep hc.bel).cell (j := 0) HC0.out) _ Tryz.underlying22 rfl) rfl
    | 3, _ =>
      cases ho
      have e0 : aq.tmps.getD 4 undef = .agg (lsN 32).toArray := hdep 0 4 rfl (by kernel_rfl)
      have e1 : aq.tmps.getD 6 undef = .slice ao bl cap := hdep 2 6 rfl (by kernel_rfl)
      refine flow_fun 27 _ _ rfl (fun _ _ => by simp [go_sem]) #[.agg (lsN 32).toArray, .slice ao bl cap] (by rw [show (#[Operand.tmp 4, Operand.tmp 6] : Array Operand).map aq.eval = #[aq.tmps.getD 4 undef, aq.tmps.getD 6 undef] from by simp [Act.eval], e0, e1]) ?_
      refine (lenc_any 32 _ ns wq ((HT.out.keep B12.out).keep hc.bel) hbl).mono ?_
      rintro e w' ⟨u, rfl, R, B⟩
      exact ⟨_, rfl, R.isB (bytesN_byte ns), B⟩
    | (k + 4), hk => exact absurd hk (by omega)
  · intro o h4 ho
    exact absurd h4 (by decide)
  intro vf w3 hc hv
  have I3 : IsB w3 (vf 3) (bytesN ns) := hv 3 7 (by decide) rfl
  clear hv
  simp only [List.take_succ_cons, List.take_zero, List.drop_succ_cons, List.drop_zero, putAll, Act.put, List.setIfInBounds_toArray, List.set_cons_succ, List.set_cons_zero]
  obtain ⟨v3, hv3⟩ : ∃ v3, vf 3 = v3 := ⟨_, rfl⟩
  rw [hv3] at I3 ⊢
  clear hv3
  obtain ⟨pa, pc, hsl⟩ : ∃ pa pc, v3 = .slice pa (bytesN ns).length pc := by obtain ⟨⟨x, y, e, _⟩, _⟩ := I3; exact ⟨x, y, e⟩
  subst hsl
  have q2 := hc.bel
  have s3 := q2.size
  have B13 := hid (B12.out.trans (q2.mono (by omega)))
  have X3 := hid (X2.out.keep q2)
  have HQ := hid (part_wr (w.heap.size + 1) _ [] _ (bytesN ns) w3 (HW.out.below q2) I3 (by simp) (by rw [bytesN_length]; omega))
  clear hc q2 I3 HW X2 B12
  go_wp2_with fail
  refine HQ.out.mono ?_
  rintro x w4 ⟨⟨u4, rfl⟩, q1, q2⟩
  have s4 := q2.size
  have X4 := hid (X3.out.grown q2 (by omega))
  have W4 := hid q1
  have B4 : Hid (Below w.heap.size w w4) := hid ⟨q2.os.trans B13.out.os, q2.tape.trans B13.out.tape, q2.output.trans B13.out.output, by omega, fun j hj => (q2.block j (by omega) (fun h => by have := Option.some.inj h; omega)).trans (B13.out.block j hj)⟩
  clear q1 q2 HQ X3 B13
  go_wp2_with (first
    | (refine wpList_load_mid rfl 29 (.tmp 9) rfl w.heap.size 1 (by exact rfl) (vtC sl ix b es rs et rt) _ (X4.out.range 1 _ HC1.out) Tryz.underlying29 rfl (by rw [vtC_length HBB.out.1 HRS.out.1 HRT.out.1]; exact Tryz.ty29.size) ?_))
  have HQ := hid (putVt_any (w.heap.size + 1) _ _ sl ix b es rs et rt w4 W4.out (by simp) h1 h2 HBB.out.1 HBB.out.2 hes HRS.out.1 HRS.out.2 het HRT.out.1 HRT.out.2)
  refine HQ.out.mono ?_
  rintro x w5 ⟨⟨u5, rfl⟩, q1, q2⟩
  have s5 := q2.size
  have X5 := hid (X4.out.grown q2 (by omega))
  have W5 := hid q1
  have B5 : Hid (Below w.heap.size w w5) := hid ⟨q2.os.trans B4.out.os, q2.tape.trans B4.out.tape, q2.output.trans B4.out.output, by omega, fun j hj => (q2.block j (by omega) (fun h => by have := Option.some.inj h; omega)).trans (B4.out.block j hj)⟩
  clear q1 q2 HQ X4 W4 B4
  go_wp2_with (first
    | (refine wpList_load_mid rfl 25 (.tmp 12) rfl w.heap.size 101 (by exact rfl) (cellsB sig) _ (X5.out.range 101 _ HC2.out) Tryz.und25 rfl (by rw [cellsB_length, HSG.out.1]; exact Tryz.size25) ?_)
    | (refine wpList_roots rfl 121 25 1 _ rfl Tryz.underlying121 Tryz.rootInfo [sig] [.tmp 13] rfl rfl (by simpa using HSG.out.1) rfl (by omega) (by omega) ?_; intro w6 H6 B6 S6))
  have HQ := hid (roots_wr (w.heap.size + 1) _ _ [sig] w5.heap.size 0 1 w6 (W5.out.below B6) (by omega) (by simp [vtF, numF, rootF, cpF]) (by simpa using HSG.out.1) (by simpa using HSG.out.2) (H6.rsAt (by simpa using HSG.out.1)) (by simp))
  have B56 := hid (B5.out.trans (B6.mono (by omega)))
  have s6 := B6.size
  clear H6 B6 S6 W5 X5
  refine HQ.out.mono ?_
  rintro x w7 ⟨⟨u7, rfl⟩, q1, q2⟩
  have s7 := q2.size
  have B7 : Hid (Below w.heap.size w w7) := hid ⟨q2.os.trans B56.out.os, q2.tape.trans B56.out.tape, q2.output.trans B56.out.output, by omega, fun j hj => (q2.block j (by omega) (fun h => by have := Option.some.inj h; omega)).trans (B56.out.block j hj)⟩
  have HY := hid (bytes_any (w.heap.size + 1) _ _ w7 q1 (by simp [vtF, numF, rootF, cpF]) (by simp [vtF, numF, rootF, cpF, lenF, le_length, bytesN_length, HBB.out.1, HRS.out.1, HRT.out.1, HSG.out.1]; omega))
  clear q1 q2 HQ B56 B5
  go_wp2_with fail
  refine HY.out.mono ?_
  rintro x w8 ⟨v, rfl, q1, q2⟩
  have X := hid (And.intro q1 q2)
  clear q1 q2
  go_wp2
  go_ret
  refine ⟨v, rfl, ?_, B7.out.trans (X.out.2.mono (by omega))⟩
  have := X.out.1.base (b' := w.heap.size) (by omega)
  simp only [List.append_assoc, List.nil_append] at this
  exact this
end Go.Proofs.YtpaamhmighgjeaaGreat

/- The put of an AttesterSlashing: two parts. -/
namespace Go.Proofs.YtpaamhmighgjeaaGreat
open Go.RowKit Go.Shelf
set_option linter.unusedVariables false
set_option linter.unusedSimpArgs false
set_option maxRecDepth 100000

/-- Its cells: an Indexed's, twice. -/
def asK (A B : List Value) : List Value := A ++ (B ++ [])
theorem asK_at (A B : List Value) (hA : A.length = 133) : (∀ (j : Nat) v, A[j]? = some v → (asK A B)[0 + j]? = some v) ∧ (∀ (j : Nat) v, B[j]? = some v → (asK A B)[133 + j]? = some v) := by
  refine ⟨fun j v hv => ?_, fun j v hv => get_mid hA hv⟩
  rw [Nat.zero_add]
  unfold asK
  rw [List.getElem?_append_left (List.getElem?_eq_some_iff.1 hv).1]
  exact hv
set_option maxHeartbeats 1000000 in
theorem attSl_any (A B : List Value) (zi : List Value) (BA BB : List Nat) (w : World) (hTy : Ty Tryz.prog 31 zi) (hA : A.length = 133) (hB : B.length = 133) (hz : zi.length = 133) (hBA : BA.length ≤ 100000000000) (hBB : BB.length ≤ 100000000000) (h8A : ∀ z ∈ BA, z < 256) (h8B : ∀ z ∈ BB, z < 256)
    (eA : ∀ wq, Below w.heap.size w wq → Calls Tryz.prog 8 #[.agg A.toArray] wq fun x w' => ∃ v, x = .returned v ∧ Row w' wq.heap.size v BA ∧ Below wq.heap.size wq w')
    (eB : ∀ wq, Below w.heap.size w wq → Calls Tryz.prog 8 #[.agg B.toArray] wq fun x w' => ∃ v, x = .returned v ∧ Row w' wq.heap.size v BB ∧ Below wq.heap.size wq w') :
    Calls Tryz.prog 14 #[.agg (asK A B).toArray] w fun x w' => ∃ v, x = .returned v ∧ Row w' w.heap.size v (cont [(BA, true), (BB, true)]) ∧ Below w.heap.size w w' := by
  have HT := hid hTy
  have HE := hid (And.intro eA eB)
  have HL := hid (And.intro hA (And.intro hB hz))
  have H8 := hid (And.intro h8A h8B)
  obtain ⟨c1, c2⟩ := asK_at A B hA
  obtain ⟨C, hC⟩ : ∃ C, asK A B = C := ⟨_, rfl⟩
  rw [hC] at c1 c2 ⊢
  have HC := hid (And.intro c1 c2)
  clear hTy eA eB hA hB hz h8A h8B c1 c2 hC
  go_enter Tryz.func14, Tryz.ntmps14
  go_wp2_with ((with_reducible refine at_list' ?_); first
    | (refine wpList_box_c rfl 1 rfl (.tmp 0) rfl C rfl ?_; intro w1 H1 B1 S1)
    | (refine wpList_load_mid rfl 31 (.tmp 4) rfl w.heap.size 0 (by exact rfl) A _ ((H1.keep ((Below.refl _ w1).alloc (Nat.le_refl _) _)).range 0 _ HC.out.1) Tryz.underlying31 rfl (by rw [HL.out.1, ← HL.out.2.2]; exact HT.out.size) ?_))
  have W1 := wr_new w1
  have B2 : Below w1.heap.size w1 (w1.alloc (.cells #[.int .i64 0, .pointer none] 84)) := (Below.refl _ w1).alloc (Nat.le_refl _) _
  have S2 := World.size_alloc w1 (.cells #[.int .i64 0, .pointer none] 84)
  rw [S1] at W1
  have X2 := hid (H1.keep B2)
  generalize w1.alloc (.cells #[.int .i64 0, .pointer none] 84) = w2 at W1 B2 S2 X2 ⊢
  have B12 := hid (B1.trans (B2.mono (by omega)))
  have s2 : w2.heap.size = w.heap.size + 2 := by omega
  have HP := hid (HE.out.1 w2 B12.out)
  have HW := hid W1
  clear B1 B2 S1 S2 H1 W1
  refine HP.out.mono ?_
  rintro x w3 ⟨v3, rfl, q1, q2⟩
  have I3 := q1.isB H8.out.1
  have s3 := q2.size
  obtain ⟨pa, pc, hsl⟩ : ∃ pa pc, v3 = .slice pa BA.length pc := by obtain ⟨⟨x, y, e, _⟩, _⟩ := I3; exact ⟨x, y, e⟩
  subst hsl
  have B13 := hid (B12.out.trans (q2.mono (by omega)))
  have X3 := hid (X2.out.keep q2)
  have HQ := hid (part_wr (w.heap.size + 1) _ [] _ BA w3 (HW.out.below q2) I3 (by simp) (by omega))
  clear q1 q2 I3 HP HW X2 B12
  go_wp2_with fail
  refine HQ.out.mono ?_
  rintro x w4 ⟨⟨u4, rfl⟩, q1, q2⟩
  have s4 := q2.size
  have X4 := hid (X3.out.grown q2 (by omega))
  have W4 := hid q1
  have B4 : Hid (Below w.heap.size w w4) := hid ⟨q2.os.trans B13.out.os, q2.tape.trans B13.out.tape, q2.output.trans B13.out.output, by omega, fun j hj => (q2.block j (by omega) (fun h => by have := Option.some.inj h; omega)).trans (B13.out.block j hj)⟩
  clear q1 q2 HQ X3 B13
  go_wp2_with ((with_reducible refine at_list' ?_); first
    | (refine wpList_load_mid rfl 31 (.tmp 8) rfl w.heap.size 133 (by exact rfl) B _ (X4.out.range 133 _ HC.out.2) Tryz.underlying31 rfl (by rw [HL.out.2.1, ← HL.out.2.2]; exact HT.out.size) ?_))
  have HP := hid (HE.out.2 w4 B4.out)
  refine HP.out.mono ?_
  rintro x w5 ⟨v5, rfl, q1, q2⟩
  have I5 := q1.isB H8.out.2
  have s5 := q2.size
  obtain ⟨pa5, pc5, hsl⟩ : ∃ pa pc, v5 = .slice pa BB.length pc := by obtain ⟨⟨x, y, e, _⟩, _⟩ := I5; exact ⟨x, y, e⟩
  subst hsl
  have B15 := hid (B4.out.trans (q2.mono (by omega)))
  have HQ := hid (part_wr (w.heap.size + 1) _ _ _ BB w5 (W4.out.below q2) I5 (by simp) (by omega))
  clear q1 q2 I5 HP W4 X4 B4
  go_wp2_with fail
  refine HQ.out.mono ?_
  rintro x w7 ⟨⟨u7, rfl⟩, q1, q2⟩
  have s7 := q2.size
  have B7 : Hid (Below w.heap.size w w7) := hid ⟨q2.os.trans B15.out.os, q2.tape.trans B15.out.tape, q2.output.trans B15.out.output, by omega, fun j hj => (q2.block j (by omega) (fun h => by have := Option.some.inj h; omega)).trans (B15.out.block j hj)⟩
  have HY := hid (bytes_any (w.heap.size + 1) _ _ w7 q1 (by simp) (by simp [lenF]; omega))
  clear q1 q2 HQ B15
  go_wp2_with fail
  refine HY.out.mono ?_
  rintro x w8 ⟨v, rfl, q1, q2⟩
  have X := hid (And.intro q1 q2)
  clear q1 q2
  go_wp2
  go_ret
  exact ⟨v, rfl, X.out.1.base (by omega), B7.out.trans (X.out.2.mono (by omega))⟩
end Go.Proofs.YtpaamhmighgjeaaGreat

/- Attestations taken: answer. -/
namespace Go.Proofs.YtpaamhmighgjeaaGreat
open Go.RowKit Go.Shelf
set_option linter.unusedVariables false
set_option maxRecDepth 100000

/-- The zero one. -/
abbrev as0 : List Value := asK ix0 ix0
theorem Tryz.ty50 : Ty Tryz.prog 50 as0 := ⟨by kernel_rfl, _, Tryz.underlying50, rfl⟩
theorem as0_one : as0.toArray.all (·.oneCell') = true := by kernel_rfl
/-- What a good or a bad AttesterSlashing answers. -/
def asA (t : Bool) (C : List Value) : Value := .tuple #[.agg (if t then C else as0).toArray, .int .i64 (if t then 0 else 3)]

set_option maxHeartbeats 1000000 in
theorem answerAs_any (C : List Value) (t : Bool) (w : World) (hl : C.length = 266) (h1 : C.toArray.all (·.oneCell') = true) :
    Calls Tryz.prog 46 #[.agg C.toArray, .bool t] w fun x w' => x = .returned (asA t C) ∧ Below w.heap.size w w' := by
  have HL := hid hl
  have HO := hid h1
  clear hl h1
  cases t with
  | true =>
    go_enter Tryz.func46, Tryz.ntmps46
    go_wp2_with (first
      | (refine wpList_box_c rfl 2 rfl (.tmp 0) rfl C rfl ?_; intro w1 H1 B1 S1)
      | (refine wpList_alloc_c Tryz.ty50 rfl 4 rfl rfl ?_; intro w2 H2 B2 S2; rw [S1] at H2 S2; rw [S1])
      | (refine wpList_load_c Tryz.ty50 rfl (.tmp 2) rfl w.heap.size C rfl (by rw [HL.out]; rfl) (H1.keep B2) ?_)
      | (refine wpList_store_c Tryz.ty50 rfl (.tmp 4) (.tmp 10) rfl (w.heap.size + 1) C rfl rfl (by rw [HL.out]; rfl) HO.out _ H2 rfl ?_; intro w3 H3 O3))
    refine bodyPost_ret (results_c Tryz.ty50 rfl _ w3 (w.heap.size + 1) C (.int .i64 0) rfl rfl H3 (by rw [HL.out]; rfl)) rfl ⟨rfl, ?_⟩
    exact below_only (B1.trans (B2.mono (by omega))) O3 (by omega)
  | false =>
    go_enter Tryz.func46, Tryz.ntmps46
    go_wp2_with (first
      | (refine wpList_box_c rfl 2 rfl (.tmp 0) rfl C rfl ?_; intro w1 H1 B1 S1)
      | (refine wpList_alloc_c Tryz.ty50 rfl 4 rfl rfl ?_; intro w2 H2 B2 S2; rw [S1] at H2 S2; rw [S1])
      | (refine wpList_alloc_c Tryz.ty50 rfl 6 rfl rfl ?_; intro w4 H4 B4 S4; rw [S2] at H4 S4; rw [S2])
      | (refine wpList_load_c Tryz.ty50 rfl (.tmp 6) rfl (w.heap.size + 1 + 1) as0 rfl rfl H4 ?_)
      | (refine wpList_store_c Tryz.ty50 rfl (.tmp 4) (.tmp 9) rfl (w.heap.size + 1) as0 rfl rfl rfl as0_one _ (H2.keep B4) rfl ?_; intro w3 H3 O3))
    refine bodyPost_ret (results_c Tryz.ty50 rfl _ w3 (w.heap.size + 1) as0 (.int .i64 3) rfl rfl H3 rfl) rfl ⟨rfl, ?_⟩
    exact below_only (B1.trans ((B2.mono (by omega)).trans (B4.mono (by omega)))) O3 (by omega)
end Go.Proofs.YtpaamhmighgjeaaGreat

/- An AttesterSlashing's bytes: its two places; what a side answers. -/
namespace Go.Proofs.YtpaamhmighgjeaaGreat
open Go.RowKit Go.Shelf
set_option linter.unusedVariables false
set_option linter.unusedSimpArgs false
set_option maxRecDepth 100000

/-- The bytes of two parts. -/
def asBS (BA BB : List Nat) : List Nat := le 8 4 ++ (le (8 + BA.length) 4 ++ (BA ++ BB))
theorem asB_cont (BA BB : List Nat) : cont [(BA, true), (BB, true)] = asBS BA BB := by
  have h : szF [(BA, true), (BB, true)] = 8 := by simp [szF, sz1]
  unfold cont
  rw [h]
  simp [asBS, frontB, backB]
theorem asBS_len (BA BB : List Nat) : (asBS BA BB).length = 8 + (BA.length + BB.length) := by simp [asBS, le_length]; omega
theorem as_drop4 (BA BB : List Nat) : (asBS BA BB).drop 4 = le (8 + BA.length) 4 ++ (BA ++ BB) := List.drop_left' (le_length 8 4)
theorem as_drop8 (BA BB : List Nat) : (asBS BA BB).drop 8 = BA ++ BB := by
  rw [show (8 : Nat) = 4 + 4 from rfl, ← List.drop_drop, as_drop4]
  exact List.drop_left' (le_length _ 4)
theorem as_part1 (BA BB : List Nat) : partP (asBS BA BB) 8 0 false = 8 ∧ partW (asBS BA BB) 8 0 [] false = false ∧ partS (asBS BA BB) 8 0 [] false = [8] := by
  have h : partP (asBS BA BB) 8 0 false = 8 := by
    unfold partP fixB fixW
    simp only [List.drop_zero, Bool.false_or]
    rw [if_neg (by decide)]
    show tk ((le 8 4 ++ _).take 4) = 8
    rw [List.take_left' (le_length 8 4)]
    exact tk_le4 8 (by decide)
  have h2 : partW (asBS BA BB) 8 0 [] false = false := by
    unfold partW
    rw [h]
    rfl
  refine ⟨h, h2, ?_⟩
  unfold partS
  rw [h2, h]
  rfl
theorem as_part2 (BA BB : List Nat) (hl : 8 + BA.length < 4294967296) : partW (asBS BA BB) 8 4 [8] false = false ∧ partS (asBS BA BB) 8 4 [8] false = [8, 8 + BA.length] := by
  have h : partP (asBS BA BB) 8 4 false = 8 + BA.length := by
    unfold partP fixB fixW
    simp only [Bool.false_or]
    rw [if_neg (by decide), as_drop4, List.take_left' (le_length _ 4)]
    exact tk_le4 _ hl
  have h2 : partW (asBS BA BB) 8 4 [8] false = false := by
    unfold partW folB
    rw [h, asBS_len]
    simp [fixW]
  refine ⟨h2, ?_⟩
  unfold partS
  rw [h2, h]
  rfl
theorem as_cut (BA BB : List Nat) : cutL (asBS BA BB) [8, 8 + BA.length] = [BA, BB] := by
  have e1 : ((asBS BA BB).drop 8).take (8 + BA.length - 8) = BA := by
    rw [as_drop8, show 8 + BA.length - 8 = BA.length by omega]
    exact List.take_left' rfl
  have e2 : ((asBS BA BB).drop (8 + BA.length)).take ((asBS BA BB).length - (8 + BA.length)) = BB := by
    rw [← List.drop_drop, as_drop8, List.drop_left' rfl, asBS_len]
    exact List.take_of_length_le (by omega)
  rw [show 8 + BA.length - 8 = BA.length by omega] at e1
  simp [cutL, toI, List.range_succ, e1, e2]
theorem as_cuts (BA BB : List Nat) : Cuts (asBS BA BB) [8, 8 + BA.length] := by
  intro i hi
  have hb := asBS_len BA BB
  have : i = 0 ∨ i = 1 := by simp at hi; omega
  rcases this with rfl | rfl
  · simp [toI]; omega
  · simp [toI]; omega
theorem isBs_two {w : World} {u : Value} {BA BB : List Nat} (h : IsBs w u [BA, BB]) : ∃ b o c v0 v1, u = .slice (some ⟨b, o, none⟩) 2 c ∧ w.cell? ⟨b, o, none⟩ = some v0 ∧ IsB w v0 BA ∧ w.cell? ⟨b, o + 1, none⟩ = some v1 ∧ IsB w v1 BB := by
  obtain ⟨ao, cap, rfl, h1, h2, h3, h4⟩ := h
  rcases h4 with h4 | ⟨b, off, rfl, hc⟩
  · simp at h4
  · obtain ⟨v0, e0, i0⟩ := hc 0 _ rfl
    obtain ⟨v1, e1, i1⟩ := hc 1 _ rfl
    exact ⟨b, off, cap, v0, v1, rfl, e0, i0, e1, i1⟩
theorem HasC.part {w : World} {g : Nat} {t : TypeId} {A O B N : List Value} {o : Nat} (h : HasC w g t (A ++ (O ++ B))) (ho : A.length = o) (hn : N.length = O.length) :
    w.there g o N.toArray.size ∧ HasC (w.setCells g o N) g t (A ++ (N ++ B)) ∧ Only g w (w.setCells g o N) := by
  subst ho
  obtain ⟨h1, h2⟩ := heap_setCells N w _ A.length h
  have hs : (A ++ (O ++ B)).toArray.size = A.length + (O.length + B.length) := by simp
  refine ⟨fun j hj => ⟨?_, frozen_of_row w g _ _ _ h⟩, ?_, h2⟩
  · rw [List.size_toArray] at hj
    rw [cell_of_row w g _ _ _ (0, 0) h, Array.getElem?_eq_getElem (by omega)]
    rfl
  · unfold HasC
    rw [h1]
    congr 2
    apply Array.ext_getElem?
    intro i
    rw [setV_get N _ A.length (by omega) i]
    simp only [List.getElem?_toArray]
    by_cases ha : i < A.length
    · rw [if_neg (by omega), List.getElem?_append_left ha, List.getElem?_append_left ha]
    · by_cases hb : i < A.length + N.length
      · rw [if_pos (by omega), List.getElem?_append_right (by omega), List.getElem?_append_left (by omega)]
      · rw [if_neg (by omega), List.getElem?_append_right (by omega), List.getElem?_append_right (by omega), List.getElem?_append_right (by omega), List.getElem?_append_right (by omega), hn]
/-- What a side's ToIndexed answers: good, its cells; where its numbers lie. -/
structure SideR (base : Nat) (t : Bool) (V : List Value) (sg L : List Nat) (D : List Value) (w : World) : Prop where
  good : t = true → ∃ u, D = atC u V sg ∧ w.ownsRow base 23 1 u L.length (n64 L)
  len : D.length = 133
  one : D.toArray.all (·.oneCell') = true
theorem SideR.kept {base : Nat} {t : Bool} {V : List Value} {sg L : List Nat} {D : List Value} {w w' : World} (h : SideR base t V sg L D w) (k : ∀ r, base ≤ r → r < w.heap.size → w'.heap[r]? = w.heap[r]?) : SideR base t V sg L D w' :=
  ⟨fun e => by
    obtain ⟨u, h1, h2⟩ := h.good e
    exact ⟨u, h1, own_kept h2 (fun r hr => by obtain ⟨a, c, hc⟩ := own_cells h2 r hr; exact k r a (Array.getElem?_eq_some_iff.1 hc).1)⟩, h.len, h.one⟩
theorem SideR.keep {base : Nat} {t : Bool} {V : List Value} {sg L : List Nat} {D : List Value} {w w' : World} (h : SideR base t V sg L D w) (hb : Below w.heap.size w w') : SideR base t V sg L D w' := h.kept (fun r _ hr => hb.block r hr)
theorem SideR.only {base g : Nat} {t : Bool} {V : List Value} {sg L : List Nat} {D : List Value} {w w' : World} (h : SideR base t V sg L D w) (ho : Only g w w') (hg : g < base) : SideR base t V sg L D w' := h.kept (fun r hr _ => ho.block r (by omega))
theorem SideR.low {base b' : Nat} {t : Bool} {V : List Value} {sg L : List Nat} {D : List Value} {w : World} (h : SideR base t V sg L D w) (hb : b' ≤ base) : SideR b' t V sg L D w :=
  ⟨fun e => by obtain ⟨u, h1, h2⟩ := h.good e; exact ⟨u, h1, own_base h2 hb⟩, h.len, h.one⟩
theorem isB_only {w w' : World} {g : Nat} {v : Value} {bs : List Nat} (h : IsB w v bs) (ho : Only g w w') (h0 : 0 < bs.length) (hn : ∀ j, w.cell? ⟨g, j, none⟩ ≠ some (.int .u8 (bs.getD 0 0 : Nat))) : IsB w' v bs := by
  obtain ⟨⟨ao, cap, rfl, h1, h2, h3, h4⟩, h8⟩ := h
  refine ⟨⟨ao, cap, rfl, h1, h2, h3, ?_⟩, h8⟩
  rcases h4 with h4 | ⟨b, off, rfl, hc⟩
  · exact .inl h4
  · have hne : b ≠ g := fun e => by
      subst e
      exact hn _ (hc 0 h0)
    exact .inr ⟨b, off, rfl, fun i hi => (World.cell?_of_block (ho.block b hne)).trans (hc i hi)⟩
def plainV : Value → Bool
  | .slice none 0 0 => true
  | .int .u8 z => z == 0
  | .int .u64 z => z == 0
  | _ => false
theorem as0_plain : ∀ v ∈ as0, plainV v = true := by
  have h : as0.all plainV = true := by kernel_rfl
  exact fun v hv => List.all_eq_true.1 h v hv
theorem as0_cell {w : World} {g j : Nat} {t : TypeId} {v : Value} (h : HasC w g t as0) (hc : w.cell? ⟨g, j, none⟩ = some v) : plainV v = true := by
  rw [cell_of_row w g j _ _ (0, 0) h] at hc
  exact as0_plain v (List.mem_of_getElem? (by simpa using hc))
theorem Tryz.ty115 : Ty Tryz.prog 115 [.int .i64 0, .int .i64 0] := ⟨by kernel_rfl, _, Tryz.underlying115, rfl⟩
/-- The errors of both. -/
def errT (t : Bool) : Int := if t then 0 else 3
theorem eqErrs (ta tb : Bool) (w : World) : (binOp .eql 115 (.agg #[.int .i64 (errT ta), .int .i64 (errT tb)]) (.agg #[.int .i64 0, .int .i64 0])).run Tryz.prog w = .ok (.bool (ta && tb)) w := by
  cases ta <;> cases tb <;> kernel_rfl
end Go.Proofs.YtpaamhmighgjeaaGreat

/- AttesterSlashings taken: ToAttesterSlashing. -/
namespace Go.Proofs.YtpaamhmighgjeaaGreat
open Go.RowKit Go.Shelf
set_option linter.unusedVariables false
set_option linter.unusedSimpArgs false
set_option maxRecDepth 100000

theorem asA_eq (t : Bool) (C : List Value) : asA t C = .tuple #[.agg (if t then C else as0).toArray, .int .i64 (if t then 0 else 3)] := rfl
theorem run_binV {P : Program} {o : Oper} {a : Act} {w : World} {b : BinOp} {t t2 : TypeId} (x y : Operand) (ho : o.op = .binOp b t x y t2) {u v r : Value} (hx : a.eval x = u) (hy : a.eval y = v) (hg : (eqGuard b t x y u v).run P w = .ok () w) (h : (binOp b t u v).run P w = .ok r w) : (execOp a.eval o).run P w = .ok (.value r) w := by
  unfold execOp
  simp only [ho, hx, hy, Sem.run_bind, hg, h, Result.andThen_ok, Sem.run_pure]
set_option maxHeartbeats 4000000 in
theorem toAs_any (v : Value) (BA BB : List Nat) (ta tb : Bool) (VA VB : List Value) (sa sb LA LB : List Nat) (w : World) (hI : IsB w v (asBS BA BB)) (hl : 8 + (BA.length + BB.length) ≤ 4000000000) (hA0 : 0 < BA.length) (hB0 : 0 < BB.length) (hB1 : BB.getD 0 0 ≠ 0)
    (hA : ∀ v wq, IsB wq v BA → Calls Tryz.prog 9 #[v] wq fun x w' => ∃ D, x = .returned (.tuple #[.agg D.toArray, .int .i64 (errT ta)]) ∧ SideR wq.heap.size ta VA sa LA D w' ∧ Below wq.heap.size wq w')
    (hB : ∀ v wq, IsB wq v BB → Calls Tryz.prog 9 #[v] wq fun x w' => ∃ D, x = .returned (.tuple #[.agg D.toArray, .int .i64 (errT tb)]) ∧ SideR wq.heap.size tb VB sb LB D w' ∧ Below wq.heap.size wq w') :
    Calls Tryz.prog 15 #[v] w fun x w' => ∃ DA DB, x = .returned (asA (ta && tb) (asK DA DB)) ∧ SideR w.heap.size ta VA sa LA DA w' ∧ SideR w.heap.size tb VB sb LB DB w' ∧ Below w.heap.size w w' := by
  have HA := hid hA
  have HB := hid hB
  have HBL := hid (asBS_len BA BB)
  obtain ⟨p1a, p1b, p1c⟩ := as_part1 BA BB
  obtain ⟨p2a, p2b⟩ := as_part2 BA BB (by omega)
  have HP1 := hid (And.intro p1b p1c)
  have HP2 := hid (And.intro p2a p2b)
  have HCU := hid (And.intro (as_cut BA BB) (as_cuts BA BB))
  have HLL := hid hl
  have HZ := hid (And.intro hA0 (And.intro hB0 hB1))
  clear hA0 hB0 hB1 hA hB p1a p1b p1c p2a p2b hl
  obtain ⟨bs, hbs⟩ : ∃ bs, asBS BA BB = bs := ⟨_, rfl⟩
  rw [hbs] at hI HBL HP1 HP2 HCU
  clear hbs
  have HI := hid hI
  obtain ⟨⟨ao, cap, rfl, _⟩, _⟩ := hI
  go_enter Tryz.func15, Tryz.ntmps15
  go_wp2_with ((with_reducible refine at_list' ?_); first
    | (refine wpList_alloc_c Tryz.ty50 rfl 2 rfl rfl ?_; intro w1 H1 B1 S1))
  have HC := hid (read_any _ bs 8 w1 (HI.out.keep B1) (by decide) (by have h1 := HBL.out; have h2 := HLL.out; omega))
  have HH1 := hid H1
  have HB1 := hid B1
  have s1 := S1
  clear H1 B1 S1 HI
  refine HC.out.mono ?_
  rintro e w2 ⟨g, S, hg, rfl, q1, q2, q3⟩
  rw [show decide (bs.length < 8) = false by have h1 := HBL.out; simp; omega] at q1
  have HP := hid (rpart_any w2 q1 (by decide) (by have h1 := HBL.out; have h2 := HLL.out; omega) (by simp))
  have HH2 := hid (HH1.out.keep q3)
  have HB2 := hid (HB1.out.trans (q3.mono (by omega)))
  have s2 := q3.size
  have hgl := q1.gt
  clear q1 q2 q3 HC HH1 HB1
  go_wp2_with fail
  refine HP.out.mono ?_
  rintro e w3 ⟨⟨u3, rfl⟩, q1, q2⟩
  rw [HP1.out.1, HP1.out.2, show fixT 8 0 4 false = 4 from rfl] at q1
  have HP := hid (rpart_any w3 q1 (by decide) (by have h1 := HBL.out; have h2 := HLL.out; omega) (by simp))
  have HH3 := hid (HH2.out.grown q2 (by omega))
  have s3 := q2.size
  have HB3 : Hid (Below w.heap.size w w3) := hid ⟨q2.os.trans HB2.out.os, q2.tape.trans HB2.out.tape, q2.output.trans HB2.out.output, by omega, fun j hj => (q2.block j (by omega) (fun h => by have := Option.some.inj h; omega)).trans (HB2.out.block j hj)⟩
  clear q1 q2 HH2 HB2
  go_wp2_with fail
  refine HP.out.mono ?_
  rintro e w4 ⟨⟨u4, rfl⟩, q1, q2⟩
  rw [HP2.out.1, HP2.out.2, show fixT 8 4 4 false = 8 from rfl] at q1
  have HRd := hid q1
  have HH4 := hid (HH3.out.grown q2 (by omega))
  have s4 := q2.size
  have HB4 : Hid (Below w.heap.size w w4) := hid ⟨q2.os.trans HB3.out.os, q2.tape.trans HB3.out.tape, q2.output.trans HB3.out.output, by omega, fun j hj => (q2.block j (by omega) (fun h => by have := Option.some.inj h; omega)).trans (HB3.out.block j hj)⟩
  clear q1 q2 HP HH3 HB3
  go_wp2_with ((with_reducible refine at_list' ?_); first
    | (refine wpList_alloc_c Tryz.ty50 rfl 5 rfl rfl ?_; intro w5 H5 B5 S5))
  have HPo := hid (parts_ok w5 (HRd.out.below B5) (fun e => by cases e) HCU.out.2 (by decide) (by have h1 := HBL.out; have h2 := HLL.out; omega) (by simp))
  have HH5 := hid (HH4.out.keep B5)
  have HX5 := hid H5
  have HB5 := hid (HB4.out.trans (B5.mono (by omega)))
  have s5 := S5
  clear H5 B5 S5 HH4 HB4 HRd
  refine HPo.out.mono ?_
  rintro e w8 ⟨u, rfl, q1, B8⟩
  rw [HCU.out.1] at q1
  obtain ⟨b0, o0, c0, v0, v1, rfl, hc0, hI0, hc1, hI1⟩ := isBs_two q1
  have s8 := B8.size
  have HH8 := hid (HH5.out.keep B8)
  have HX8 := hid (HX5.out.keep B8)
  have HB8 := hid (HB5.out.trans (B8.mono (by omega)))
  obtain ⟨x5, hx5⟩ : ∃ x5, w4.heap.size = x5 := ⟨_, rfl⟩
  rw [hx5] at HX8
  simp only [hx5]
  have hx5w : w.heap.size < x5 := by omega
  have hx58 : x5 < w8.heap.size := HX8.out.lt
  have hb5 : b0 ≠ x5 := fun e => by
    subst e
    have h := as0_cell HX8.out hc0
    obtain ⟨⟨aq, cq, hq, _⟩, _⟩ := hI0
    rw [hq] at h
    have h0 := HZ.out.1
    cases aq with
    | some y => simp [plainV] at h
    | none =>
      have hb : BA.length = 0 := by
        obtain ⟨n, hn⟩ : ∃ n, BA.length = n := ⟨_, rfl⟩
        rw [hn] at h h0
        cases n with
        | zero => omega
        | succ n => simp [plainV] at h
      omega
  have hb8 : b0 < w8.heap.size := block_lt_of_cell hc0
  have HI2 := hid (And.intro hc0 (And.intro hI0 (And.intro hc1 hI1)))
  obtain ⟨⟨aq, cq, hq, _⟩, _⟩ := id hI0
  obtain ⟨⟨ar, cr, hr, _⟩, _⟩ := id hI1
  clear q1 B8 HPo HH5 HX5 HB5 HCU HP1 HP2 hI0 hI1 hc1 hx5
  subst hq
  subst hr
  go_wp2_with ((with_reducible refine at_list' ?_); first
    | (refine wpList_alloc_c Tryz.ty115 rfl 8 rfl rfl ?_; intro w9 H9 B9 S9; have hc0' := cell_keep B9 hc0))
  have HC := hid (HA.out _ w9 (HI2.out.2.1.keep B9))
  have HE9 := hid H9
  have HH9 := hid (HH8.out.keep B9)
  have HX9 := hid (HX8.out.keep B9)
  have HB9 := hid (HB8.out.trans (B9.mono (by omega)))
  have HI9 := hid (And.intro (cell_keep B9 HI2.out.2.2.1) (HI2.out.2.2.2.keep B9))
  obtain ⟨x8, hx8⟩ : ∃ x8, w8.heap.size = x8 := ⟨_, rfl⟩
  rw [hx8] at HE9 S9 hx58 hb8
  simp only [hx8]
  clear H9 B9 hc0 hc0' HH8 HX8 HB8 HI2 HA s8 hx8
  refine HC.out.mono ?_
  rintro e w10 ⟨D, rfl, hS, B10⟩
  have s10 := B10.size
  have h5 := HX9.out.keep B10
  obtain ⟨p1, p2, p3⟩ := HasC.part (A := []) (O := ix0) (B := ix0 ++ []) (N := D) (o := 0) h5 rfl hS.len
  have h8 := HE9.out.keep B10
  have n58 : x8 ≠ x5 := by omega
  have h8s := h8.only p3 (by omega)
  have h8c := h8s.cell (j := 0) (v := .int .i64 0) rfl
  have h8f : (w10.setCells x5 0 D).frozen? ⟨x8, 0, none⟩ = false := frozen_of_row _ x8 0 _ _ h8s
  have hc1' := (World.cell?_of_block (p3.block b0 hb5)).trans (cell_keep B10 HI9.out.1)
  have hI1' := isB_only (HI9.out.2.keep B10) p3 HZ.out.2.1 (fun j hc => by
    have h := as0_cell h5 hc
    have hz := HZ.out.2.2
    obtain ⟨n, hn⟩ : ∃ n, BB.getD 0 0 = n := ⟨_, rfl⟩
    rw [hn] at h hz
    have h' : (n : Int) = 0 := by simpa [plainV] using h
    omega)
  have HTS := hid (show (Tryz.prog.info? 31).map (·.size) = some D.toArray.size by rw [Tryz.ty31.size, List.size_toArray, hS.len]; rfl)
  have P := hid (And.intro p1 (And.intro p2 (And.intro p3 (And.intro hS.one hS.len))))
  have HS1 := hid (hS.only p3 (by omega))
  have HH10 := hid ((HH9.out.keep B10).only p3 (by omega))
  have HB10 := hid (below_only (HB9.out.trans (B10.mono (by omega))) p3 (by omega))
  have HE10 := hid h8s
  have HI10 := hid (And.intro hc1' hI1')
  have hsz10 := p3.size
  have oC : ∀ b, b ≠ x8 → ((w10.setCells x5 0 D).setCell ⟨x8, 0, none⟩ (.int .i64 (errT ta))).heap[b]? = (w10.setCells x5 0 D).heap[b]? := fun b hb => heap_setCell_other _ ⟨x8, 0, none⟩ b _ hb
  have OC : Only x8 (w10.setCells x5 0 D) ((w10.setCells x5 0 D).setCell ⟨x8, 0, none⟩ (.int .i64 (errT ta))) := Only.setCell _ x8 0 _
  have hcC := (World.cell?_of_block (oC b0 (by omega))).trans hc1'
  have hIC := isB_only hI1' OC HZ.out.2.1 (fun j hc => by
    rw [cell_of_row _ x8 j _ _ (0, 0) h8s] at hc
    have hm := List.mem_of_getElem? (show ([.int .i64 0, .int .i64 0] : List Value)[j]? = _ by simpa using hc)
    simp at hm)
  have hEC : HasC ((w10.setCells x5 0 D).setCell ⟨x8, 0, none⟩ (.int .i64 (errT ta))) x8 115 [.int .i64 (errT ta), .int .i64 0] := h8s.setCell 0 (.int .i64 (errT ta))
  have hXC : HasC ((w10.setCells x5 0 D).setCell ⟨x8, 0, none⟩ (.int .i64 (errT ta))) x5 50 (D ++ (ix0 ++ [])) := p2.only OC (by omega)
  have HKC := hid (And.intro hIC (And.intro hEC (And.intro hXC (And.intro (HS1.out.only OC (by omega)) (And.intro (HH10.out.only OC (by omega)) (below_only HB10.out OC (by omega)))))))
  have szC := OC.size
  clear p1 p2 p3 h5 h8 h8s hS B10 HC HE9 HH9 HX9 HB9 HI9 hc1' hI1' oC OC hIC hEC hXC
  go_wp2_with ((with_reducible refine at_list' ?_); first
    | (refine wpList_store_mid rfl 31 (.tmp 33) (.tmp 31) rfl x5 0 D.toArray rfl rfl P.out.1 HTS.out P.out.2.2.2.1 ?_))
  generalize (w10.setCells x5 0 D).setCell ⟨x8, 0, none⟩ (.int .i64 (errT ta)) = wC at hcC HKC szC ⊢
  have HC := hid (HB.out _ wC HKC.out.1)
  clear HI10 HE10 HS1 HH10 HB10 h8c h8f hcC HB
  refine HC.out.mono ?_
  rintro e w13 ⟨D2, rfl, hS, B13⟩
  have s13 := B13.size
  obtain ⟨p1, p2, p3⟩ := HasC.part (A := D) (O := ix0) (B := []) (N := D2) (o := 133) (HKC.out.2.2.1.keep B13) P.out.2.2.2.2 hS.len
  have h8s := (HKC.out.2.1.keep B13).only p3 (by omega)
  have h8c := h8s.cell (j := 1) (v := .int .i64 0) rfl
  have h8f : (w13.setCells x5 133 D2).frozen? ⟨x8, 1, none⟩ = false := frozen_of_row _ x8 1 _ _ h8s
  have OC : Only x8 (w13.setCells x5 133 D2) ((w13.setCells x5 133 D2).setCell ⟨x8, 1, none⟩ (.int .i64 (errT tb))) := Only.setCell _ x8 1 _
  have hEC : HasC ((w13.setCells x5 133 D2).setCell ⟨x8, 1, none⟩ (.int .i64 (errT tb))) x8 115 [.int .i64 (errT ta), .int .i64 (errT tb)] := h8s.setCell 1 (.int .i64 (errT tb))
  have hXC : HasC ((w13.setCells x5 133 D2).setCell ⟨x8, 1, none⟩ (.int .i64 (errT tb))) x5 50 (asK D D2) := p2.only OC (by omega)
  have HTS2 := hid (show (Tryz.prog.info? 31).map (·.size) = some D2.toArray.size by rw [Tryz.ty31.size, List.size_toArray, hS.len]; rfl)
  have P2 := hid (And.intro p1 (And.intro hS.one hS.len))
  have b1 := below_only (below_only (HKC.out.2.2.2.2.2.trans (B13.mono (by omega))) p3 (by omega)) OC (by omega)
  have HF := hid (And.intro hEC (And.intro hXC (And.intro (((HKC.out.2.2.2.1.keep B13).only p3 (by omega)).only OC (by omega)) (And.intro ((hS.only p3 (by omega)).only OC (by omega)) (And.intro (((HKC.out.2.2.2.2.1.keep B13).only p3 (by omega)).only OC (by omega)) b1)))))
  have szp := p3.size
  have szO := OC.size
  clear p1 p2 p3 h8s hS B13 HC HKC OC hEC hXC b1
  go_wp2_with ((with_reducible refine at_list' ?_); first
    | (refine wpList_store_mid rfl 31 (.tmp 42) (.tmp 40) rfl x5 133 D2.toArray rfl rfl P2.out.1 HTS2.out P2.out.2.1 ?_))
  generalize (w13.setCells x5 133 D2).setCell ⟨x8, 1, none⟩ (.int .i64 (errT tb)) = wF at HF szO ⊢
  clear h8c h8f
  have HCl := hid (show (asK D D2).length = 266 by simp [asK, P.out.2.2.2.2, P2.out.2.2])
  have HC1 : Hid ((asK D D2).toArray.all (·.oneCell') = true) := hid (by
    have a := P.out.2.2.2.1
    have b := P2.out.2.1
    simp only [List.all_toArray, List.all_eq_true] at a b ⊢
    intro v hv
    unfold asK at hv
    simp only [List.mem_append, List.not_mem_nil, or_false] at hv
    rcases hv with hv | hv
    · exact a v hv
    · exact b v hv)
  obtain ⟨C, hC⟩ : ∃ C, asK D D2 = C := ⟨_, rfl⟩
  have HCC := hid hC
  rw [hC] at HF HCl HC1
  clear hC
  refine wp_region_flow 7 7 (fun i v wq => match i with
    | 0 => v = .agg C.toArray
    | 1 => v = .agg #[.int .i64 (errT ta), .int .i64 (errT tb)]
    | 2 => v = .agg #[.int .i64 0, .int .i64 0]
    | 3 => v = .bool (ta && tb)
    | 4 => v = asA (ta && tb) C
    | 5 => v = .agg (if (ta && tb) then C else as0).toArray
    | _ => v = .int .i64 (if (ta && tb) then 0 else 3)) (by kernel_rfl) (by kernel_rfl) (fun _ d _ _ _ h => by cases d <;> exact h) ?_ ?_ ?_ ?_
  · intro i v wq wq' hi hv hb
    match i, hi with
    | 0, _ => exact hv
    | 1, _ => exact hv
    | 2, _ => exact hv
    | 3, _ => exact hv
    | 4, _ => exact hv
    | 5, _ => exact hv
    | 6, _ => exact hv
    | (k + 7), hk => exact absurd hk (by omega)
  · intro i o hi ho aq wq hc hk hdep
    match i, hi with
    | 0, _ =>
      cases ho
      have e1 : aq.tmps.getD 5 undef = .pointer (some ⟨x5, 0, none⟩) := hk 5 (by decide)
      exact flow_value _ (run_mid 50 (.tmp 5) rfl x5 0 e1 C ((HF.out.2.1.keep hc.bel).range 0 C (fun j v hv => by rw [Nat.zero_add]; exact hv)) _ Tryz.underlying50 rfl (by rw [HCl.out]; exact Tryz.ty50.size)) rfl
    | 1, _ =>
      cases ho
      have e1 : aq.tmps.getD 8 undef = .pointer (some ⟨x8, 0, none⟩) := hk 8 (by decide)
      exact flow_value _ (run_mid 115 (.tmp 8) rfl x8 0 e1 [.int .i64 (errT ta), .int .i64 (errT tb)] ((HF.out.1.keep hc.bel).range 0 _ (fun j v hv => by rw [Nat.zero_add]; exact hv)) _ Tryz.underlying115 rfl (by exact Tryz.ty115.size)) rfl
    | 2, _ =>
      cases ho
      exact flow_value _ (run_buildOp 115 _ rfl #[] (by simp) _ (by kernel_rfl)) rfl
    | 3, _ =>
      cases ho
      have e1 : aq.tmps.getD 45 undef = .agg #[.int .i64 (errT ta), .int .i64 (errT tb)] := hdep 1 45 rfl (by kernel_rfl)
      have e2 : aq.tmps.getD 46 undef = .agg #[.int .i64 0, .int .i64 0] := hdep 2 46 rfl (by kernel_rfl)
      exact flow_value (.bool (ta && tb)) (run_binV (.tmp 45) (.tmp 46) rfl (by simpa [Act.eval] using e1) (by simpa [Act.eval] using e2) (by kernel_rfl) (eqErrs ta tb wq)) rfl
    | 4, _ =>
      cases ho
      have e0 : aq.tmps.getD 44 undef = .agg C.toArray := hdep 0 44 rfl (by kernel_rfl)
      have e1 : aq.tmps.getD 47 undef = .bool (ta && tb) := hdep 3 47 rfl (by kernel_rfl)
      refine flow_fun 46 _ _ rfl (fun _ _ => by simp [go_sem]) #[.agg C.toArray, .bool (ta && tb)] (by rw [show (#[Operand.tmp 44, Operand.tmp 47] : Array Operand).map aq.eval = #[aq.tmps.getD 44 undef, aq.tmps.getD 47 undef] from by simp [Act.eval], e0, e1]) ?_
      refine (answerAs_any C (ta && tb) wq HCl.out HC1.out).mono ?_
      rintro e w' ⟨rfl, B⟩
      exact ⟨_, rfl, rfl, B⟩
    | 5, _ =>
      cases ho
      have e : aq.tmps.getD 48 undef = .tuple #[.agg (if (ta && tb) then C else as0).toArray, .int .i64 (if (ta && tb) then 0 else 3)] := hdep 4 48 rfl (by kernel_rfl)
      exact flow_extract (.tmp 48) 0 _ _ rfl (show aq.eval (.tmp 48) = _ from e) rfl rfl
    | 6, _ =>
      cases ho
      have e : aq.tmps.getD 48 undef = .tuple #[.agg (if (ta && tb) then C else as0).toArray, .int .i64 (if (ta && tb) then 0 else 3)] := hdep 4 48 rfl (by kernel_rfl)
      exact flow_extract (.tmp 48) 1 _ _ rfl (show aq.eval (.tmp 48) = _ from e) rfl rfl
    | (k + 7), hk => exact absurd hk (by omega)
  · intro o h7 ho
    exact absurd h7 (by decide)
  intro vf wG hc hv
  have e5 : vf 5 = _ := hv 5 49 (by decide) rfl
  have e6 : vf 6 = _ := hv 6 50 (by decide) rfl
  clear hv
  simp only [List.take_succ_cons, List.take_zero, List.drop_succ_cons, List.drop_zero, putAll, Act.put, List.setIfInBounds_toArray, List.set_cons_succ, List.set_cons_zero]
  rw [e5, e6]
  clear e5 e6
  obtain ⟨E, hE⟩ : ∃ E, (if (ta && tb) = true then C else as0) = E := ⟨_, rfl⟩
  obtain ⟨ee, hee⟩ : ∃ ee : Int, (if (ta && tb) = true then (0 : Int) else 3) = ee := ⟨_, rfl⟩
  rw [hE, hee]
  have HEl := hid (show E.length = 266 by rw [← hE]; split; exact HCl.out; kernel_rfl)
  have HE1 := hid (show E.toArray.all (·.oneCell') = true by rw [← hE]; split; exact HC1.out; exact as0_one)
  have HEE := hid (And.intro hE hee)
  have HG := hid (And.intro (HF.out.2.2.1.keep hc.bel) (And.intro (HF.out.2.2.2.1.keep hc.bel) (And.intro (HF.out.2.2.2.2.1.keep hc.bel) (HF.out.2.2.2.2.2.trans (hc.bel.mono HF.out.2.2.2.2.2.size)))))
  clear hc hE hee HF
  go_wp2_with ((with_reducible refine at_list' ?_); first
    | (refine wpList_store_c Tryz.ty50 rfl (.tmp 2) (.tmp 49) rfl w.heap.size E rfl rfl (by rw [HEl.out]; kernel_rfl) HE1.out _ HG.out.2.2.1 rfl ?_; intro wb Hb Ob))
  refine bodyPost_ret (results_c Tryz.ty50 rfl _ wb w.heap.size E (.int .i64 ee) rfl rfl Hb (by rw [HEl.out]; kernel_rfl)) rfl ⟨D, D2, ?_, ?_, ?_, below_only HG.out.2.2.2 Ob (Nat.le_refl _)⟩
  · rw [HCC.out, asA_eq, HEE.out.1, HEE.out.2]
  · exact (HG.out.1.only Ob (by omega)).low (by omega)
  · exact (HG.out.2.1.only Ob (by omega)).low (by omega)
end Go.Proofs.YtpaamhmighgjeaaGreat

/- Steps of a flow over the document's values. -/
namespace Go.Proofs.YtpaamhmighgjeaaGreat
open Go.RowKit
set_option linter.unusedVariables false
set_option maxRecDepth 100000
theorem fieldV (k off : Nat) (h : (k = 0 ∧ off = 0) ∨ (k = 1 ∧ off = 1) ∨ (k = 2 ∧ off = 33) ∨ (k = 3 ∧ off = 34)) (g : Nat) (w : World) : (Instr.fieldAt 37 (.pointer (some ⟨g, 0, none⟩)) k).run Tryz.prog w = .ok (.pointer (some ⟨g, off, none⟩)) w := by
  rcases h with ⟨rfl, rfl⟩ | ⟨rfl, rfl⟩ | ⟨rfl, rfl⟩ | ⟨rfl, rfl⟩ <;> kernel_rfl
end Go.Proofs.YtpaamhmighgjeaaGreat

