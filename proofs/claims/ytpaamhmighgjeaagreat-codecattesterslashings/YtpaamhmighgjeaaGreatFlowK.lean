/- Regions that draw their order, with calls that hang on one another: a state by the count of calls done. -/
import Derived.Test.YtpaamhmighgjeaaGreatRootR
namespace Go.Proofs.YtpaamhmighgjeaaGreat
open Go.RowKit Go.Shelf
set_option linter.unusedVariables false
set_option maxRecDepth 100000
/-- The calls cs come one behind another; A k holds behind k of them. -/
def JK (cs : List Nat) (A : Nat → World → Prop) (done : Array Bool) (w : World) : Prop := ∃ k, k ≤ cs.length ∧ (∀ i c, cs[i]? = some c → done.getD c true = decide (i < k)) ∧ A k w
section
variable {P : Program} {o : Oper} {a : Act} {w : World} {Q : Exit → Act → World → Prop} {I : Value → World → Prop} {A : Nat → World → Prop} {cs : List Nat}
theorem JK.start {n : Nat} (hn : ∀ c ∈ cs, c < n) (h : A 0 w) : JK cs A (Array.replicate n false) w :=
  ⟨0, Nat.zero_le _, fun i c hc => by
    have := hn c (List.mem_of_getElem? hc)
    simp [this], h⟩
theorem JK.last {done : Array Bool} (h : JK cs A done w) (hd : ∀ c ∈ cs, done.getD c true = true) : A cs.length w := by
  obtain ⟨k, hk, hc, hA⟩ := h
  by_cases e : k = cs.length
  · rw [← e]; exact hA
  · have hlt : k < cs.length := by omega
    have h1 := hc k cs[k] (List.getElem?_eq_getElem hlt)
    rw [hd _ (List.getElem_mem hlt)] at h1
    simp at h1
theorem flowK_of {g i : Nat} {done : Array Bool} (hci : i ∉ cs) (hA : ∀ k w', Below w.heap.size w w' → A k w → A k w') (hJ : JK cs A done w)
    (h : o.wp P a w (fun a' w' => ∃ v, a' = a.put o.dst v ∧ I v w' ∧ Below w.heap.size w w') Q) : o.wp P a w (fun a' w' => ∃ v, a' = a.put o.dst v ∧ I v w' ∧ w.grownBy w' (some g) ∧ JK cs A (done.setIfInBounds i true) w') Q :=
  Oper.wp_mono (by
    rintro a' w' ⟨v, h1, h2, h3⟩
    obtain ⟨k, hk, hc, hAk⟩ := hJ
    refine ⟨v, h1, h2, grownBelow h3, k, hk, fun j c hj => ?_, hA k w' h3 hAk⟩
    have hne : i ≠ c := fun e => hci (by rw [e]; exact List.mem_of_getElem? hj)
    rw [getD_set_ne true hne]
    exact hc j c hj) h
theorem flowK_fun {g c j : Nat} {done : Array Bool} (hcs : c < done.size) (hnd : cs.Nodup) (hj : cs[j]? = some c) (hun : done.getD c true = false) (hpre : ∀ c', 0 < j → cs[j - 1]? = some c' → done.getD c' true = true) (hJ : JK cs A done w)
    (f : FuncId) (xs : Array Operand) (ts : Array TypeId) (ho : o.op = .call { callee := .value (.func f), args := xs, argTypes := ts }) (hf : ∀ args w, (callFunc f args).run P w = .ok (.enter f args) w) (args : Array Value) (hargs : xs.map a.eval = args)
    (hc : A j w → Calls P f args w fun e w' => ∃ v, e = .returned v ∧ I v w' ∧ w.grownBy w' (some g) ∧ A (j + 1) w') : o.wp P a w (fun a' w' => ∃ v, a' = a.put o.dst v ∧ I v w' ∧ w.grownBy w' (some g) ∧ JK cs A (done.setIfInBounds c true) w') Q := by
  obtain ⟨k, hk, hd, hA⟩ := hJ
  have hjl : j < cs.length := (List.getElem?_eq_some_iff.1 hj).1
  have hkj : k = j := by
    have h1 := hd j c hj
    rw [hun] at h1
    have h2 : k ≤ j := by simpa using h1.symm
    by_cases h0 : j = 0
    · omega
    · have hl : j - 1 < cs.length := by omega
      have h3 := hd (j - 1) _ (List.getElem?_eq_getElem hl)
      rw [hpre _ (by omega) (List.getElem?_eq_getElem hl)] at h3
      have : j - 1 < k := by simpa using h3.symm
      omega
  subst hkj
  unfold Oper.wp
  rw [run_enter f xs ts ho hf, hargs, Oper.upon_enter]
  refine (hc hA).mono ?_
  rintro e w' ⟨v, rfl, h1, h2, h3⟩
  refine ⟨v, rfl, h1, h2, k + 1, hjl, fun i c' hi => ?_, h3⟩
  by_cases e : c' = c
  · subst e
    have : i = k := (List.getElem?_inj (List.getElem?_eq_some_iff.1 hi).1 hnd).1 (hi.trans hj.symm)
    subst this
    simp [hcs]
  · rw [getD_set_ne true (Ne.symm e), hd i c' hi]
    have : i ≠ k := fun e2 => e (by rw [e2] at hi; exact Option.some.inj (hi.symm.trans hj))
    simp only [decide_eq_decide]
    omega
theorem done_true {done : Array Bool} {j : Nat} (h : done.getD j false = true) : done.getD j true = true := by
  by_cases hj : j < done.size
  · simp [hj] at h ⊢; exact h
  · simp [hj] at h
end
end Go.Proofs.YtpaamhmighgjeaaGreat
