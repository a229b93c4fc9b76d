/- The walk of MerkleChunks. -/
import Derived.Test.YthmcgebnfdgniaaDoorQuietR
namespace Go.Proofs.YthmcgebnfdgniaaDoor
open Go.RowKit Go.Shelf
set_option linter.unusedVariables false
set_option maxRecDepth 100000
attribute [local go_sem] Oper.semAt_some

theorem not_cells {W : World} {p : Addr} {v : Value} {o : Obj} (h : W.cell? p = some v) (ho : W.heap[p.block]? = some o) (hc : o.isCells = false) : False := by
  simp only [World.cell?, ho] at h
  cases o <;> simp [Obj.isCells] at hc h
theorem heap_kept {W W' : World} {row : Option Nat} {b : Nat} {c : Array Value} {t : TypeId} {z : Nat × Nat} (h : W.heap[b]? = some (.cells c t z)) (hg : W.grownBy W' row) (hr : ∀ r, row = some r → ∃ o : Obj, W.heap[r]? = some o ∧ o.isCells = false) : W'.heap[b]? = some (.cells c t z) := by
  refine (hg.block b (Array.getElem?_eq_some_iff.1 h).1 (fun e => ?_)).trans h
  obtain ⟨o, ho, hc⟩ := hr b e.symm
  rw [h] at ho
  cases ho
  cases hc
theorem Reads.kept {W W' : World} {row : Option Nat} {ao : Option Addr} {zs : List Nat} (h : Reads W ao zs) (hg : W.grownBy W' row) (hr : ∀ r, row = some r → ∃ o : Obj, W.heap[r]? = some o ∧ o.isCells = false) : Reads W' ao zs := by
  rcases h with h | ⟨b, off, rfl, hc⟩
  · exact .inl h
  · refine .inr ⟨b, off, rfl, fun i hi => hg.cell (hc i hi) (fun e => ?_)⟩
    obtain ⟨o, ho, hk⟩ := hr b e.symm
    exact not_cells (hc i hi) ho hk
theorem Reads.setC {W : World} {ao : Option Addr} {zs : List Nat} (h : Reads W ao zs) (g : Nat) (v : Value) (hne : ∀ b off, 0 < zs.length → ao = some ⟨b, off, none⟩ → b ≠ g) : Reads (W.setCell ⟨g, 0, none⟩ v) ao zs := by
  rcases h with h | ⟨b, off, rfl, hc⟩
  · exact .inl h
  · exact .inr ⟨b, off, rfl, fun i hi => (World.cell?_of_block (heap_setCell_other W ⟨g, 0, none⟩ b v (hne b off (by omega) rfl))).trans (hc i hi)⟩
theorem Reads.lt {W : World} {ao : Option Addr} {zs : List Nat} (h : Reads W ao zs) : ∀ b off, 0 < zs.length → ao = some ⟨b, off, none⟩ → b < W.heap.size := by
  intro b off h0 e
  rcases h with h | ⟨b', off', e', hc⟩
  · omega
  · rw [e] at e'
    cases e'
    exact block_lt_of_cell (hc 0 h0)
theorem wpListIn_runS {F : Fence} {n : Nat} {P : Program} {w : World} {ops : Array Oper} {rest : List Oper} {o : Oper} {a : Act} {Q : Exit → Act → World → Prop} (hgd : o.guard = none) (hab : o.about P w a.eval = none) (hdf : ∀ c, o.op ≠ .defer c)
    (w' : World) (hrun : (execOp a.eval o).run P w = .ok .skip w') (h : wpListIn F n P ops Q rest (a.put o.dst undef) w') : wpListIn F n P ops Q (o :: rest) a w := by
  refine wpListIn_plain hgd fun K hK => ?_
  unfold Oper.wpIn
  refine ⟨fun f hf => ?_, ?_⟩
  · rw [hab] at hf; cases hf
  · rw [Oper.semAt_plain F _ _ hdf, hrun, Oper.uponIn_skip]; exact hK _ _ h
theorem run_store_has {P : Program} {w : World} {o : Oper} {a : Act} (ty : TypeId) (x y : Operand) (ho : o.op = .store ty x y) (g : Nat) (k : IntKind) (l old : List Nat) (hx : a.eval x = .pointer (some ⟨g, 0, none⟩)) (hy : a.eval y = .agg (nums k l)) (t : TypeId) (hg : Has w g t k old)
    (hi : (P.info? ty).map (·.size) = some l.length) (hl : old.length = l.length) : (execOp a.eval o).run P w = .ok .skip (w.setRow g (nums k l)) := by
  unfold execOp
  simp only [ho, hx, hy, Instr.storeAt, Instr.sureAddr, Sem.run_bind, Sem.run_pure, Result.andThen_ok, run_storeVar_row w g t ty (nums k old) (nums k l) hg (by rw [hi, nums_size]) (by rw [nums_size, nums_size, hl]) (nums_one k l)]

theorem run_neq_roots {o : Oper} {a : Act} (x y : Operand) (ho : o.op = .binOp .neq 30 x y 30) (l m : List Nat) (hl : Rt l) (hm : Rt m) (hx : a.eval x = .agg (nums .u8 l)) (hy : a.eval y = .agg (nums .u8 m)) (w : World) :
    (execOp a.eval o).run Tryd.prog w = .ok (.value (.bool (!decide (l = m)))) w := by
  have h := eql_roots l m hl.len hm.len hl.byte hm.byte w
  unfold execOp
  simp only [ho, hx, hy]
  simp [go_sem, h]
theorem run_load_mid {o : Oper} {a : Act} (x : Operand) (ho : o.op = .load 30 x) (b off k : Nat) (rs : List (List Nat)) (q : List Nat) (hq : rs.getD k [] = q) (hx : a.eval x = .pointer (some ⟨b, off + k * 32, none⟩)) (w : World) (hR : RootsAt w (some ⟨b, off, none⟩) rs) (hk : k < rs.length) :
    (execOp a.eval o).run Tryd.prog w = .ok (.value (.agg (nums .u8 q))) w := by
  have hqr : Rt q := by rw [← hq]; exact hR.rts.rt k hk
  have h := run_loadVar_mid (P := Tryd.prog) w b (off + k * 32) 30 (nums .u8 q).toList _ (by rw [Nat.mul_comm, ← hq]; exact hR.range k hk) Tryd.underlying30 rfl (by rw [Array.length_toList, nums_size, hqr.len]; exact Tryd.size30)
  rw [Array.toArray_toList] at h
  unfold execOp
  simp only [ho, hx, Instr.loadAt, Instr.sureAddr, Sem.run_bind, Sem.run_pure, Result.andThen_ok, h]
theorem run_call_append {P : Program} {w w' : World} {o : Oper} {a : Act} (x y : Operand) (t tx : TypeId) (ho : o.op = .call { callee := .builtin .append, args := #[x, y], argTypes := #[t, tx] }) (u v v' : Value) (hx : a.eval x = u) (hy : a.eval y = v)
    (hr : (Builtin.append_ #[t, tx] o.type #[u, v]).run P w = .ok v' w') : (execOp a.eval o).run P w = .ok (.value v') w' := by
  unfold execOp
  simp only [ho, resolve, invoke, builtin, Sem.run_bind, Sem.run_pure, Result.andThen_ok, List.map_toArray, List.map_cons, List.map_nil, hx, hy, hr]
theorem results_box {fn : Func} {p : Tmp} (h : fn.results = #[.cell p 4]) (tmps : Array Value) (w : World) (g : Nat) (t : TypeId) (b : Bool) (hp : tmps.getD p undef = .pointer (some ⟨g, 0, none⟩)) (hB : Boxed w g t (.bool b)) :
    (results fn tmps).run Tryd.prog w = .ok (.bool b) w := by
  have hp' : tmps[p]?.getD undef = .pointer (some ⟨g, 0, none⟩) := by simpa using hp
  have hc := hB.cell
  simp only [results, h]
  simp [hp', asAddr, go_sem, hc]

/-- The variables of the statement: stop's block, the result's, want's, n's; what they hold. -/
structure MC where
  A : Nat
  B : Nat
  C : Nat
  D : Nat
  s : Nat
  N : Nat
  cap2 : Nat
  cap6 : Nat
  c : Nat
  ao2 : Option Addr
  ao6 : Option Addr
  bs : List Nat
structure MI (m : MC) (k : Nat) (W : World) : Prop where
  x : Boxed W m.A 3 (.int .i64 (m.s : Nat))
  y : Boxed W m.B 4 (.bool false)
  z : Boxed W m.C 24 (.slice m.ao2 m.N m.cap2)
  n : Boxed W m.D 3 (.int .i64 (k : Nat))
  r : RootsAt W m.ao2 (chunks m.bs)
  d : Reads W m.ao6 m.bs
  q : W.cell? ⟨m.c, 0, none⟩ = some (.slice m.ao6 m.bs.length m.cap6)
theorem MI.own {m : MC} {k : Nat} {W W' : World} {row : Option Nat} (h : MI m k W) (hg : W.grownBy W' row) (hr : ∀ r, row = some r → ∃ o : Obj, W.heap[r]? = some o ∧ o.isCells = false) : MI m k W' :=
  ⟨heap_kept h.x hg hr, heap_kept h.y hg hr, heap_kept h.z hg hr, heap_kept h.n hg hr, ⟨h.r.rts, h.r.reads.kept hg hr⟩, h.d.kept hg hr, hg.cell h.q (fun e => by
    obtain ⟨o, ho, hk⟩ := hr _ e.symm
    exact not_cells h.q ho hk)⟩
theorem MI.keep {m : MC} {k : Nat} {W W' : World} (h : MI m k W) (hb : Below W.heap.size W W') : MI m k W' :=
  h.own (row := none) ⟨hb.os, hb.tape, hb.output, hb.size, fun j hj _ => hb.block j hj⟩ (fun r e => by cases e)
theorem reads_ne {W : World} {ao : Option Addr} {zs : List Nat} {D : Nat} {k : Int} {t : TypeId} (h : Reads W ao zs) (hD : Boxed W D t (.int .i64 k)) : ∀ b off, 0 < zs.length → ao = some ⟨b, off, none⟩ → b ≠ D := by
  intro b off h0 e eb
  subst eb
  rcases h with h | ⟨b', off', e', hc⟩
  · omega
  · rw [e] at e'
    cases e'
    have h1 := hc 0 h0
    rw [cell_of_row W b _ _ _ (0, 0) hD] at h1
    have h2 := (Array.getElem?_eq_some_iff.1 h1).1
    simp at h2
    subst h2
    simp at h1
theorem MI.setN {m : MC} {k : Nat} {W : World} (h : MI m k W) (hA : m.A ≠ m.D) (hB : m.B ≠ m.D) (hC : m.C ≠ m.D) (k' : Nat) : MI m k' (W.setCell ⟨m.D, 0, none⟩ (.int .i64 (k' : Nat))) := by
  refine ⟨h.x.other (B' := m.D) hA _, h.y.other (B' := m.D) hB _, h.z.other (B' := m.D) hC _, h.n.set _, ⟨h.r.rts, h.r.reads.setC m.D _ (reads_ne h.r.reads h.n)⟩, h.d.setC m.D _ (reads_ne h.d h.n), ?_⟩
  refine (World.cell?_of_block (a := ⟨m.c, 0, none⟩) (heap_setCell_other W ⟨m.D, 0, none⟩ m.c _ (fun e => ?_))).trans h.q
  have h1 := h.q
  rw [e, h.n.cell] at h1
  cases h1
theorem keeps_set {B g n : Nat} {W : World} {t : TypeId} {u : Value} (v : Value) (h : Boxed W g t u) : KeepsFrom B W ((W.drewN n).setCell ⟨g, 0, none⟩ v) := by
  refine ⟨by simp, fun k o _ hk ho => ?_⟩
  by_cases e : k = g
  · subst e
    rw [show W.heap[k]? = _ from h] at hk
    cases hk
    cases ho
  · exact (heap_setCell_other (W.drewN n) ⟨g, 0, none⟩ k v e).trans hk
theorem prefix_ne {bs : List Nat} {pre : List RtV} {x : List Nat} {hx : Rt x} {k : Nat} (hk : pre.length = k) (hl : k < (chunks bs).length) (hne : x ≠ (chunks bs).getD k []) : (pre ++ [(⟨x, hx⟩ : RtV)]).map Subtype.val ≠ (chunks bs).take (pre ++ [(⟨x, hx⟩ : RtV)]).length := by
  intro e
  have h := congrArg (fun l => l[k]?) e
  simp only [List.map_append, List.length_append, List.length_cons, List.length_nil, List.getElem?_take] at h
  rw [List.getElem?_append_right (by rw [List.length_map]; omega), List.length_map, hk, if_pos (by omega), List.getElem?_eq_getElem hl] at h
  simp at h
  apply hne
  rw [h, List.getD_eq_getElem?_getD, List.getElem?_eq_getElem hl]
  rfl
theorem MI.drew {m : MC} {k : Nat} {W : World} (h : MI m k W) (n : Nat) : MI m k (W.drewN n) := h.keep ⟨rfl, rfl, rfl, Nat.le_refl _, fun _ _ => rfl⟩
theorem mi_from (m : MC) (B : Nat) : OwnFrom B (fun (pre : List RtV) W => MI m pre.length W) := fun s A B' row hs hg hr => hs.own hg (fun r e => (hr r e).2)
end Go.Proofs.YthmcgebnfdgniaaDoor
