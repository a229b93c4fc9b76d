/- How the variables of SszSplits stand. -/
import Derived.Test.YtelgjencpafnnaaQuietR
import Derived.Test.YtelgjencpafnnaaAppB0
import Derived.Test.YtelgjencpafnnaaAwake4
namespace Go.Proofs.Ytelgjencpafnnaa
open Go.RowKit Go.Shelf
set_option linter.unusedVariables false
set_option maxRecDepth 100000

theorem not_cells {W : World} {p : Addr} {v : Value} {o : Obj} (h : W.cell? p = some v) (ho : W.heap[p.block]? = some o) (hc : o.isCells = false) : False := by
  simp only [World.cell?, ho] at h
  cases o <;> simp [Obj.isCells] at hc h
theorem row_kept {W W' : World} {row : Option Nat} {b : Nat} {c : Array Value} {t : TypeId} {z : Nat × Nat} (h : W.heap[b]? = some (.cells c t z)) (hg : W.grownBy W' row) (hr : ∀ r, row = some r → ∃ o : Obj, W.heap[r]? = some o ∧ o.isCells = false) : W'.heap[b]? = some (.cells c t z) := by
  refine (hg.block b (Array.getElem?_eq_some_iff.1 h).1 (fun e => ?_)).trans h
  obtain ⟨o, ho, hc⟩ := hr b e.symm
  rw [h] at ho
  cases ho
  cases hc
theorem Reads.kept {W W' : World} {row : Option Nat} {ao : Option Addr} {zs : List Nat} (h : Reads W ao zs) (hg : W.grownBy W' row) (hr : ∀ r, row = some r → ∃ o : Obj, W.heap[r]? = some o ∧ o.isCells = false) : Reads W' ao zs := by
  rcases h with h | ⟨b, off, rfl, hc⟩
  · exact .inl h
  · refine .inr ⟨b, off, rfl, fun i hi => hg.cell (hc i hi) (fun e => ?_)⟩
    obtain ⟨o, ho, hk⟩ := hr b e.symm
    exact not_cells (hc i hi) ho hk
theorem Reads.offB {W W' : World} {ao : Option Addr} {zs : List Nat} (h : Reads W ao zs) (hk : ∀ b off, 0 < zs.length → ao = some ⟨b, off, none⟩ → W'.heap[b]? = W.heap[b]?) : Reads W' ao zs := by
  rcases h with h | ⟨b, off, rfl, hc⟩
  · exact .inl h
  · exact .inr ⟨b, off, rfl, fun i hi => (World.cell?_of_block (hk b off (by omega) rfl)).trans (hc i hi)⟩
theorem Reads.ltB {W : World} {ao : Option Addr} {zs : List Nat} (h : Reads W ao zs) : ∀ b off, 0 < zs.length → ao = some ⟨b, off, none⟩ → b < W.heap.size := by
  intro b off h0 e
  rcases h with h | ⟨b', off', e', hc⟩
  · omega
  · rw [e] at e'
    cases e'
    exact block_lt_of_cell (hc 0 h0)
/-- Bytes don't lie in a variable that holds no byte. -/
theorem Reads.neB {W : World} {ao : Option Addr} {zs : List Nat} {g : Nat} {t : TypeId} {v : Value} (h : Reads W ao zs) (hb : Boxed W g t v) (hv : ∀ n, v ≠ .int .u8 n) : ∀ b off, 0 < zs.length → ao = some ⟨b, off, none⟩ → b ≠ g := by
  intro b off h0 e hbg
  subst hbg
  rcases h with h | ⟨b', off', e', hc⟩
  · omega
  · rw [e] at e'
    cases e'
    have h1 := hc 0 h0
    rw [cell_of_row W b _ _ _ _ hb] at h1
    cases off with
    | zero => simp at h1; exact hv _ h1
    | succ n => simp at h1
structure SC where
  A : Nat
  D : Nat
  bo : Nat
  bz : Nat
  k : Nat
  s : Nat
  size : Nat
  cap : Nat
  ao : Option Addr
  cu : Nat
  au : Option Addr
  bs : List Nat
/-- The variables: T is the turn. -/
structure SH (m : SC) (T bt : Nat) (W : World) : Prop where
  xb : Boxed W m.A 22 (.slice m.ao m.bs.length m.cap)
  xz : Boxed W (m.A + 1) 3 (.int .i64 (m.size : Nat))
  xs : Boxed W (m.A + 2) 3 (.int .i64 (m.s : Nat))
  xr : Boxed W (m.A + 3) 4 (.bool false)
  xn : Boxed W m.D 3 (.int .i64 (m.k : Nat))
  xt : Boxed W bt 3 (.int .i64 (T : Nat))
  vb : Boxed W m.bo 22 (.slice m.au m.bs.length m.cu)
  vz : Boxed W m.bz 3 (.int .i64 (m.size : Nat))
  rd : Reads W m.ao m.bs
  ro : Reads W m.au m.bs
theorem SH.same {m : SC} {T bt : Nat} {W V : World} (h : SH m T bt W) (k : ∀ b, b = m.A ∨ b = m.A + 1 ∨ b = m.A + 2 ∨ b = m.A + 3 ∨ b = m.D ∨ b = bt ∨ b = m.bo ∨ b = m.bz → V.heap[b]? = W.heap[b]?)
    (kd : ∀ b off, 0 < m.bs.length → m.ao = some ⟨b, off, none⟩ → V.heap[b]? = W.heap[b]?) (ko : ∀ b off, 0 < m.bs.length → m.au = some ⟨b, off, none⟩ → V.heap[b]? = W.heap[b]?) : SH m T bt V :=
  ⟨(k _ (by simp)).trans h.xb, (k _ (by simp)).trans h.xz, (k _ (by simp)).trans h.xs, (k _ (by simp)).trans h.xr, (k _ (by simp)).trans h.xn, (k _ (by simp)).trans h.xt, (k _ (by simp)).trans h.vb, (k _ (by simp)).trans h.vz, h.rd.offB kd, h.ro.offB ko⟩
theorem SH.own {m : SC} {T bt : Nat} {W V : World} {row : Option Nat} (h : SH m T bt W) (hg : W.grownBy V row) (hr : ∀ r, row = some r → ∃ o : Obj, W.heap[r]? = some o ∧ o.isCells = false) : SH m T bt V :=
  ⟨row_kept h.xb hg hr, row_kept h.xz hg hr, row_kept h.xs hg hr, row_kept h.xr hg hr, row_kept h.xn hg hr, row_kept h.xt hg hr, row_kept h.vb hg hr, row_kept h.vz hg hr, h.rd.kept hg hr, h.ro.kept hg hr⟩
/-- All of it lies below H. -/
structure SHlt (m : SC) (bt H : Nat) : Prop where
  box : ∀ b, b = m.A ∨ b = m.A + 1 ∨ b = m.A + 2 ∨ b = m.A + 3 ∨ b = m.D ∨ b = bt ∨ b = m.bo ∨ b = m.bz → b < H
  rd : ∀ b off, 0 < m.bs.length → m.ao = some ⟨b, off, none⟩ → b < H
  ro : ∀ b off, 0 < m.bs.length → m.au = some ⟨b, off, none⟩ → b < H
theorem SH.lt {m : SC} {T bt : Nat} {W : World} (h : SH m T bt W) : SHlt m bt W.heap.size :=
  ⟨fun b hb => by
    rcases hb with rfl | rfl | rfl | rfl | rfl | rfl | rfl | rfl
    · exact h.xb.lt
    · exact h.xz.lt
    · exact h.xs.lt
    · exact h.xr.lt
    · exact h.xn.lt
    · exact h.xt.lt
    · exact h.vb.lt
    · exact h.vz.lt, h.rd.ltB, h.ro.ltB⟩
theorem SHlt.mono {m : SC} {bt H H' : Nat} (h : SHlt m bt H) (k : H ≤ H') : SHlt m bt H' := ⟨fun b hb => Nat.lt_of_lt_of_le (h.box b hb) k, fun b o h0 e => Nat.lt_of_lt_of_le (h.rd b o h0 e) k, fun b o h0 e => Nat.lt_of_lt_of_le (h.ro b o h0 e) k⟩
/-- A block at or beyond H turns. -/
theorem SH.only {m : SC} {T bt H g : Nat} {W V : World} (h : SH m T bt W) (l : SHlt m bt H) (hg : H ≤ g) (ho : Only g W V) : SH m T bt V :=
  h.same (fun b hb => ho.block b (fun e => by have := l.box b hb; omega)) (fun b o h0 e => ho.block b (fun e' => by have := l.rd b o h0 e; omega)) (fun b o h0 e => ho.block b (fun e' => by have := l.ro b o h0 e; omega))
theorem SH.keep {m : SC} {T bt : Nat} {W V : World} (h : SH m T bt W) (hb : Below W.heap.size W V) : SH m T bt V :=
  h.same (fun b k => hb.block b (h.lt.box b k)) (fun b o h0 e => hb.block b (h.lt.rd b o h0 e)) (fun b o h0 e => hb.block b (h.lt.ro b o h0 e))
/-- The turn stands in a new variable. -/
theorem SH.turn {m : SC} {T bt bt' T' : Nat} {W : World} (h : SH m T bt W) (hb : Boxed W bt' 3 (.int .i64 (T' : Nat))) : SH m T' bt' W := ⟨h.xb, h.xz, h.xs, h.xr, h.xn, hb, h.vb, h.vz, h.rd, h.ro⟩
theorem SH.next {m : SC} {T bt : Nat} {W : World} (h : SH m T bt W) (hne : ∀ b, b = m.A ∨ b = m.A + 1 ∨ b = m.A + 2 ∨ b = m.A + 3 ∨ b = m.D ∨ b = m.bo ∨ b = m.bz → b ≠ bt) (T' : Nat) : SH m T' bt (W.setCell ⟨bt, 0, none⟩ (.int .i64 (T' : Nat))) := by
  have o : ∀ b, b ≠ bt → (W.setCell ⟨bt, 0, none⟩ (.int .i64 (T' : Nat))).heap[b]? = W.heap[b]? := fun b hb => heap_setCell_other W ⟨bt, 0, none⟩ b _ hb
  have k : ∀ b, b = m.A ∨ b = m.A + 1 ∨ b = m.A + 2 ∨ b = m.A + 3 ∨ b = m.D ∨ b = m.bo ∨ b = m.bz → (W.setCell ⟨bt, 0, none⟩ (.int .i64 (T' : Nat))).heap[b]? = W.heap[b]? := fun b hb => o b (hne b hb)
  exact ⟨(k _ (by simp)).trans h.xb, (k _ (by simp)).trans h.xz, (k _ (by simp)).trans h.xs, (k _ (by simp)).trans h.xr, (k _ (by simp)).trans h.xn, h.xt.set _, (k _ (by simp)).trans h.vb, (k _ (by simp)).trans h.vz,
    h.rd.offB (fun b off h0 e => o b (h.rd.neB h.xt (fun n e => by cases e) b off h0 e)), h.ro.offB (fun b off h0 e => o b (h.ro.neB h.xt (fun n e => by cases e) b off h0 e))⟩
/-- A variable apart from all of it is set. -/
theorem SH.aside {m : SC} {T bt c : Nat} {t : TypeId} {u : Value} {W : World} (h : SH m T bt W) (hc : Boxed W c t u) (hu : ∀ n, u ≠ .int .u8 n) (hne : ∀ b, b = m.A ∨ b = m.A + 1 ∨ b = m.A + 2 ∨ b = m.A + 3 ∨ b = m.D ∨ b = bt ∨ b = m.bo ∨ b = m.bz → b ≠ c) (v : Value) : SH m T bt (W.setCell ⟨c, 0, none⟩ v) :=
  h.same (fun b hb => heap_setCell_other W ⟨c, 0, none⟩ b _ (hne b hb)) (fun b off h0 e => heap_setCell_other W ⟨c, 0, none⟩ b _ (h.rd.neB hc hu b off h0 e)) (fun b off h0 e => heap_setCell_other W ⟨c, 0, none⟩ b _ (h.ro.neB hc hu b off h0 e))
/-- The marks of the ranges that were left. -/
def MK (ds : List Nat) (W : World) : Prop := ∀ d ∈ ds, W.heap[d]? = some (.deferred (some []))
theorem MK.same {ds : List Nat} {W V : World} (h : MK ds W) (k : ∀ d ∈ ds, V.heap[d]? = W.heap[d]?) : MK ds V := fun d hd => (k d hd).trans (h d hd)
theorem MK.ne {ds : List Nat} {W : World} (h : MK ds W) {b : Nat} {c : Array Value} {t : TypeId} {f : Nat × Nat} (hb : W.heap[b]? = some (.cells c t f)) : ∀ d ∈ ds, d ≠ b := fun d hd e => by subst e; rw [h d hd] at hb; cases hb
theorem MK.set {ds : List Nat} {W : World} (h : MK ds W) {b : Nat} {t : TypeId} {u : Value} (hb : Boxed W b t u) (v : Value) : MK ds (W.setCell ⟨b, 0, none⟩ v) := h.same fun d hd => heap_setCell_other W ⟨b, 0, none⟩ d v (h.ne hb d hd)
theorem MK.keep {ds : List Nat} {W V : World} (h : MK ds W) (hb : Below W.heap.size W V) : MK ds V := h.same fun d hd => hb.block d (Array.getElem?_eq_some_iff.1 (h d hd)).1
theorem MK.only {ds : List Nat} {W V : World} {g : Nat} {c : Array Value} {t : TypeId} {f : Nat × Nat} (h : MK ds W) (hb : W.heap[g]? = some (.cells c t f)) (ho : Only g W V) : MK ds V := h.same fun d hd => ho.block d (h.ne hb d hd)
def marks (ds : List Nat) : List Deferred := ds.map fun d => { target := .collected d, args := #[] }
end Go.Proofs.Ytelgjencpafnnaa
