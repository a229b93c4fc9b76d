/- A range over an iterator that yields memory: each round is told a word about what is yielded and the world in which it is. -/
import Derived.Test.YtelgjencpafnnaaProg
import Derived.RangeFuncNested
namespace Go.Proofs.Ytelgjencpafnnaa
open Go.RowKit
set_option linter.unusedVariables false

section
variable {F : Fence} {n : Nat} {P : Program}
/-- The word of an iterator that lies in world w: at the yield of whatever loop, with whatever it is that the caller keeps, M is said of each thing yielded (B: where the heap ended when the iterator began); what a round keeps (Kp) is asked by the thing that it was given. -/
def SeqM {α : Type} (F : Fence) (n : Nat) (P : Program) (f : Nat) (lb : Array Value) (encs : α → Array Value) (M : Nat → α → World → Prop) (Kp : α → World → World → Prop) (S Sp : List α → Prop) (N : Nat) (w : World) : Prop :=
  ∀ (l : Nat) (J Jx : List α → World → Prop) (W : World), Below w.heap.size w W → AbidesFrom W.heap.size J → AbidesFrom W.heap.size Jx →
    (∀ pre x V, J pre V → M W.heap.size x V → pre.length < N → YieldAt F (n - 1) P l (encs x) V fun e V' =>
      (e = .returned (.bool true) ∧ J (pre ++ [x]) V' ∧ Kp x V V') ∨ (e = .returned (.bool false) ∧ Jx (pre ++ [x]) V')) →
    J [] W →
    CallsIn F n P f (#[.func (.yield l) #[] #[]] ++ lb) W fun e W' => (∃ v, e = .returned v) ∧ ((∃ xs, S xs ∧ J xs W') ∨ (∃ pre, Sp pre ∧ Jx pre W'))
/-- How the body of a round may be left. -/
def leftM {α : Type} (B : Nat) (K : World → World → Prop) (I : List α → World → Prop) (Ix : Code → List α → World → Prop) (xs : List α) (W : World) : Exit → Act → World → Prop
  | .normal, _, V => KeepsFrom B W V ∧ K W V ∧ I xs V
  | .ret, _, V => KeepsFrom B W V ∧ Ix .ret xs V
  | .exit id, _, V => KeepsFrom B W V ∧ Ix (.exit id) xs V
  | .goto t, _, V => KeepsFrom B W V ∧ Ix (.goto t) xs V
  | _, _, _ => False
/-- The loop's two blocks: where the rounds' deferred calls go, and its record. -/
structure TwoB (h : Nat) (r : Loop) (W : World) : Prop where
  defs : W.heap[h]? = some (.deferred (some []))
  loop : W.heap[h + 1]? = some (.loop r)
theorem TwoB.lt {h : Nat} {r : Loop} {W : World} (b : TwoB h r W) : h + 1 < W.heap.size := (Array.getElem?_eq_some_iff.1 b.loop).1
theorem TwoB.keep {h : Nat} {r : Loop} {W V : World} (b : TwoB h r W) (k : KeepsFrom h W V) : TwoB h r V := ⟨k.same _ _ (Nat.le_refl _) b.defs rfl, k.same _ _ (by omega) b.loop rfl⟩
theorem TwoB.put {h : Nat} {r : Loop} {W : World} (b : TwoB h r W) (r' : Loop) : TwoB h r' (W.putObj (h + 1) (.loop r')) := ⟨(World.putObj_heap_other (by omega)).trans b.defs, World.putObj_heap_same b.lt⟩
theorem TwoB.abides {h : Nat} {r : Loop} {A V : World} {row : Option Nat} (b : TwoB h r A) (hg : A.grownBy V row) (hr : ∀ x, row = some x → ∃ o : Obj, A.heap[x]? = some o ∧ o.isWalk = true) : TwoB h r V :=
  ⟨(grownBy_keeps hg hr b.defs rfl).trans b.defs, (grownBy_keeps hg hr b.loop rfl).trans b.loop⟩
theorem wpIn_rangeM {α : Type} {g : Operand} {ps : Array Tmp} {assign body : Code} {Q : Exit → Act → World → Prop} {a : Act} {w w0 : World}
    (hro : F.round = none) (h1 : 1 ≤ n) {gf : Nat} {lb : Array Value} (hg : a.eval g = .func (.func gf) #[] lb) (hFg : F.fn gf) (eg : ∀ args w, (callFunc gf args).run P w = .ok (.enter gf args) w)
    {encs : α → Array Value} {M : Nat → α → World → Prop} {Kp : α → World → World → Prop} {S Sp : List α → Prop} {N : Nat} (hseq : SeqM F (n - 1) P gf lb encs M Kp S Sp N w0) (hb0 : Below w0.heap.size w0 w)
    (hKt : ∀ {x A B C}, Kp x A B → Kp x B C → Kp x A C) (hKb : ∀ x (W : World) (l : Nat) (o o' : Obj), W.heap[l]? = some o → o.isCells = false → Kp x W (W.putObj l o')) (hps : ∀ x, (encs x).size = ps.size)
    (hM : ∀ B x (W : World) (l : Nat) (o o' : Obj), M B x W → W.heap[l]? = some o → o.isCells = false → M B x (W.putObj l o'))
    (I : List α → World → Prop) (Ix : Code → List α → World → Prop) (hI : OwnFrom w.heap.size I) (hIx : ∀ c, OwnFrom w.heap.size (Ix c)) (h0 : I [] w) (a₁ : α → Act)
    (hassign : ∀ (l : Nat) (x : α) (W : World) (K : Act → World → Prop), K (a₁ x) W → assign.wpIn (F.inRound l) (n - 1 - 1) P (Exit.then K (fun _ _ _ => False)) { tmps := (ps.zip (encs x)).foldl (fun t (p, v) => t.setIfInBounds p v) a.tmps, defers := [] } W)
    (hbody : ∀ (l : Nat) (pre : List α) (x : α) (W : World), w.heap.size ≤ l → I pre W → M (w.heap.size + 2) x W → pre.length < N → body.wpIn (F.inRound l) (n - 1 - 1) P (leftM w.heap.size (Kp x) I Ix (pre ++ [x]) W) (a₁ x) W)
    (hdone : ∀ (xs : List α) (W : World), S xs → I xs W → W.heap[w.heap.size]? = some (.deferred (some [])) → Q .normal { a with defers := { target := .collected w.heap.size, args := #[] } :: a.defers } W)
    (hstop : ∀ (c : Code) (pre : List α) (W : World), Sp pre → Ix c pre W → W.heap[w.heap.size]? = some (.deferred (some [])) → c.wpIn F n P Q { a with defers := { target := .collected w.heap.size, args := #[] } :: a.defers } W) :
    (Code.rangeFunc g ps assign body).wpIn F n P Q a w := by
  refine wpIn_rangeFunc fun fn hfn => ?_
  rw [hro]
  obtain ⟨rc, hrc⟩ : ∃ rc : LoopState → Option Code → Loop, rc = fun st pe => { state := st, pending := pe, fn, tmps := a.tmps, params := ps, assign, body, defers := w.heap.size } := ⟨_, rfl⟩
  have hent := run_enterLoop_outer (P := P) (w := w) fn a.tmps ps assign body
  have hT1 : TwoB w.heap.size (rc .ready none) ((w.alloc (.deferred (some []))).alloc (.loop (rc .ready none))) := by
    constructor
    · exact (Below.heap_alloc _ _ _ (by simp)).trans (World.alloc_heap_new w _)
    · have h := World.alloc_heap_new (w.alloc (.deferred (some []))) (.loop (rc .ready none))
      rwa [World.size_alloc] at h
  have hs1 : ((w.alloc (.deferred (some []))).alloc (.loop (rc .ready none))).heap.size = w.heap.size + 2 := by simp
  have hB1 : Below w0.heap.size w0 ((w.alloc (.deferred (some []))).alloc (.loop (rc .ready none))) := hb0.trans ((((Below.refl _ w).alloc (Nat.le_refl _) _).alloc (by simp) _).mono hb0.size)
  have hI1 : I [] ((w.alloc (.deferred (some []))).alloc (.loop (rc .ready none))) := hI.alloc _ (hI.alloc _ h0)
  rw [show ({ state := .ready, pending := none, fn, tmps := a.tmps, params := ps, assign, body, defers := w.heap.size } : Loop) = rc .ready none by rw [hrc]] at hent
  generalize (w.alloc (.deferred (some []))).alloc (.loop (rc .ready none)) = W1 at *
  refine ⟨_, _, W1, { target := .fn (.func gf) lb, args := #[.func (.yield (w.heap.size + 1)) #[] #[]] }, W1, gf, #[.func (.yield (w.heap.size + 1)) #[] #[]] ++ lb, W1, hent, ?_, ?_, ?_, fun _ => h1, ?_⟩
  · simp only [resolve, hg]
    simp [go_sem]
  · intro f' hf'
    simp [Target.leads] at hf'
    subst hf'
    exact hFg
  · simp [invoke, go_sem, eg]
  have hrow : ∀ {A : World} {row : Option Nat}, (∀ r, row = some r → W1.heap.size ≤ r ∧ ∃ o : Obj, A.heap[r]? = some o ∧ o.isWalk = true) → ∀ r, row = some r → w.heap.size ≤ r ∧ ∃ o : Obj, A.heap[r]? = some o ∧ o.isCells = false :=
    fun h r e => by
      obtain ⟨h1, o, ho, hw⟩ := h r e
      exact ⟨by omega, o, ho, Obj.not_cells_of_walk hw⟩
  refine (hseq (w.heap.size + 1) (fun pre W => I pre W ∧ TwoB w.heap.size (rc .ready none) W) (fun pre W => ∃ c, Ix c pre W ∧ TwoB w.heap.size (rc .done (some c)) W) W1 hB1
    (fun s A B row hs hg' hr => ⟨hI s A B row hs.1 hg' (hrow hr), hs.2.abides hg' (fun r e => (hr r e).2)⟩)
    (fun s A B row hs hg' hr => by
      obtain ⟨c, hc, ht⟩ := hs
      exact ⟨c, hIx c s A B row hc hg' (hrow hr), ht.abides hg' (fun r e => (hr r e).2)⟩) ?_ ⟨hI1, hT1⟩).mono ?_
  · rintro pre x V ⟨hi, ht⟩ hm hlen
    have hy := run_yield (P := P) (args := encs x) ht.loop (by rw [hrc]; exact hps x)
    refine ⟨_, _, _, _, hy, ?_⟩
    rw [hrc]
    refine roundIn_of_wpIn hfn (hassign _ x V _ ⟨_, run_beginRound ht.loop (by rw [hrc]), ?_⟩)
    have tb := ht.put { rc .ready none with state := .busy }
    rw [hs1] at hm
    have hm2 := hM _ _ _ _ _ (.loop { rc .ready none with state := .busy }) hm ht.loop rfl
    have hi2 := hI.putObj (.loop { rc .ready none with state := .busy }) hi (show w.heap.size ≤ w.heap.size + 1 by omega) ht.loop rfl
    have hk2 := hKb x _ _ _ (.loop { rc .ready none with state := .busy }) ht.loop rfl
    generalize V.putObj (w.heap.size + 1) (.loop { rc .ready none with state := .busy }) = V2 at *
    refine wpIn_mono (hbody _ pre x V2 (by omega) hi2 hm2 hlen) ?_
    have fin : ∀ (j : Option Code) (X : World), KeepsFrom w.heap.size V2 X → ∃ Y, (Instr.endRound (w.heap.size + 1) j).run P X = .ok (.bool j.isNone) Y ∧ TwoB w.heap.size (rc (if j.isNone then .ready else .done) j) Y ∧ (∀ K : World → Prop, (∀ o', K (X.putObj (w.heap.size + 1) o')) → K Y) := by
      intro j X hk
      have tx := tb.keep hk
      have hr := run_endRound (P := P) j tx.loop
      rw [hrc] at hr tx ⊢
      exact ⟨_, hr, tx.put _, fun K h => h _⟩
    rintro e a3 X hp
    cases e with
    | normal =>
      obtain ⟨hk, hkp, hi3⟩ := hp
      obtain ⟨Y, hr, ht3, hY⟩ := fin none X hk
      have tx := tb.keep hk
      exact ⟨_, _, hr, .inl ⟨rfl, ⟨hY (I _) (fun o' => hI.putObj o' hi3 (by omega) tx.loop rfl), by rw [hrc] at ht3; exact ht3⟩, hY (Kp x V) (fun o' => hKt (hKt hk2 hkp) (hKb x _ _ _ o' tx.loop rfl))⟩⟩
    | ret =>
      obtain ⟨hk, hi3⟩ := hp
      obtain ⟨Y, hr, ht3, hY⟩ := fin (some .ret) X hk
      exact ⟨_, _, hr, .inr ⟨rfl, .ret, hY (Ix .ret _) (fun o' => (hIx _).putObj o' hi3 (by omega) (tb.keep hk).loop rfl), by rw [hrc] at ht3; exact ht3⟩⟩
    | exit id =>
      obtain ⟨hk, hi3⟩ := hp
      obtain ⟨Y, hr, ht3, hY⟩ := fin (some (.exit id)) X hk
      exact ⟨_, _, hr, .inr ⟨rfl, .exit id, hY (Ix (.exit id) _) (fun o' => (hIx _).putObj o' hi3 (by omega) (tb.keep hk).loop rfl), by rw [hrc] at ht3; exact ht3⟩⟩
    | goto t =>
      obtain ⟨hk, hi3⟩ := hp
      obtain ⟨Y, hr, ht3, hY⟩ := fin (some (.goto t)) X hk
      exact ⟨_, _, hr, .inr ⟨rfl, .goto t, hY (Ix (.goto t) _) (fun o' => (hIx _).putObj o' hi3 (by omega) (tb.keep hk).loop rfl), by rw [hrc] at ht3; exact ht3⟩⟩
    | panic ch => exact hp.elim
    | outgrown => exact hp.elim
  · rintro e W2 ⟨⟨v, rfl⟩, (⟨xs, hS, hi, ht⟩ | ⟨pre, hSp, c, hi, ht⟩)⟩
    · have hr := run_endLoop (P := P) ht.loop (by rw [hrc]; simp)
      exact ⟨_, _, hr, by rw [hrc]; exact hdone xs _ hS (hI.putObj _ hi (by omega) ht.loop rfl) ((World.putObj_heap_other (by omega)).trans ht.defs)⟩
    · have hr := run_endLoop (P := P) ht.loop (by rw [hrc]; simp)
      exact ⟨_, _, hr, by rw [hrc]; exact hstop c pre _ hSp ((hIx c).putObj _ hi (by omega) ht.loop rfl) ((World.putObj_heap_other (by omega)).trans ht.defs)⟩
end
end Go.Proofs.Ytelgjencpafnnaa
