/- append onto an empty literal: a copy in new memory, nothing old turned; as a step of a flow. -/
import Derived.Test.YtidkjpfdclkccabFlowV
import Derived.Deep.AppendSrc
namespace Go.Proofs.Ytidkjpfdclkccab
open Go.RowKit Go.Shelf
set_option linter.unusedVariables false
set_option maxRecDepth 100000
section
variable {P : Program} (w : World)
theorem run_append_fresh (t tx ty e : TypeId) (i : TypeInfo) (z : Value) (size bytes : Nat) (ht : P.underlying t = some (.slice e)) (hi : P.info? e = some i) (hz : i.zero = some z)
    (hsize : i.size = size) (hby : i.bytes = bytes) (hzs : z.cells.size = size) (hsz : 0 < size) (g : Nat) (x : Value) (m : Nat) (news : List Value) (hs : Src P size tx x m news w) (h63 : m ≤ maxLen) (hbytes : m * bytes ≤ 140737488355328) :
    ∃ v' w', (Builtin.append_ #[t, tx] ty #[.slice (some ⟨g, 0, none⟩) 0 0, x]).run P w = .ok v' w' ∧ ((m = 0 ∧ v' = .slice (some ⟨g, 0, none⟩) 0 0) ∨ w'.ownsRow w.heap.size e size v' m news) ∧ Below w.heap.size w w' := by
  subst hsize
  subst hby
  have hsmall : m ≤ 9223372036854775807 := by simp only [maxLen] at h63; omega
  have hl := hs.newsLen
  by_cases hm : m = 0
  · subst hm
    obtain rfl : news = [] := List.eq_nil_of_length_eq_zero (by simpa using hl)
    have hr := run_append_room_src (P := P) w t tx ty e i ht hi g 0 0 0 x 0 [] hs (Nat.le_refl _) (fun j hj => absurd hj (by simp)) (fun j hj => absurd hj (by simp))
    exact ⟨_, _, hr, .inl ⟨rfl, rfl⟩, Below.refl _ _⟩
  · have hr := run_append_grow_src (P := P) w t tx ty e i z ht hi hz (some ⟨g, 0, none⟩) 0 0 [] (run_firstCells_some w.drew _ _ _ _ _ [] (by simp) (fun j v hv => by simp at hv)) x m news hs (by omega) (by omega) (growslice_fits (by omega) (by rw [Nat.zero_add]; exact hbytes))
    rw [Nat.zero_add] at hr
    refine ⟨_, _, hr, .inr ?_, ((Below.refl _ w).drew).alloc (Nat.le_refl _) _⟩
    have hge := grownCap_ge w m 0 e
    have hcm : grownCap w m 0 e ≤ maxLen := grownCap_le_maxLen w m 0 e h63
    refine ⟨hl, .inr ⟨w.heap.size, _, _, rfl, Nat.le_refl _, heap_alloc_new w.drew _, hge, hcm, ?_, ?_⟩⟩
    · simp only [List.nil_append, Array.size_append, List.size_toArray, size_zeroCells, hzs, hl, ← Nat.add_mul]
      congr 1
      omega
    · simp only [List.nil_append, Array.toList_append]
      rw [← hl]
      exact List.take_left
end
theorem IsT.src {w : World} {v : Value} {l : List Bool} (h : IsT w v l) : Src Try.prog 1 22 v l.length (l.map Value.bool) w := by
  obtain ⟨ao, cap, rfl, h1, h2, h3⟩ := h
  rcases ao with _ | ad
  · rcases h3 with h3 | ⟨b, off, e, _⟩
    · obtain rfl : l = [] := List.eq_nil_of_length_eq_zero h3
      exact Src.ofNil w Try.underlying22 cap
    · cases e
  · refine Src.ofSlice w Try.underlying22 ad l.length cap _ (by rw [List.length_map, Nat.mul_one]) (fun j u hj => ?_) (fun u hu => by obtain ⟨n, _, rfl⟩ := List.mem_map.1 hu; rfl)
    have hjl : j < l.length := by
      by_cases hjl : j < l.length
      · exact hjl
      · rw [List.getElem?_eq_none (by rw [List.length_map]; omega)] at hj; cases hj
    rcases h3 with h3 | ⟨b, off, e, hc⟩
    · omega
    · cases e
      rw [Addr.add_lit, hc j hjl]
      simpa [hjl] using hj
/-- A copy of truths. -/
theorem flow_copyT {o : Oper} {a : Act} {w : World} {Q : Exit → Act → World → Prop} {I : Value → World → Prop} (s x : Operand) (ho : o.op = .call { callee := .builtin .append, args := #[s, x], argTypes := #[22, 22] })
    (g : Nat) (u : Value) (l : List Bool) (hsl : a.eval s = .slice (some ⟨g, 0, none⟩) 0 0) (hx : a.eval x = u) (hT : IsT w u l) (hl : l.length ≤ 1099511627776) (hI : ∀ v w', IsT w' v l → I v w') :
    o.wp Try.prog a w (fun a' w' => ∃ v, a' = a.put o.dst v ∧ I v w' ∧ Below w.heap.size w w') Q := by
  obtain ⟨i0, hi, hz0, hz1, hz2⟩ := info_partsT Try.info4
  obtain ⟨v', w', hr, h1, h2⟩ := run_append_fresh (P := Try.prog) w 22 22 o.type 4 i0 (.bool false) 1 1 Try.underlying22 hi hz0 hz1 hz2 rfl (by decide) g u l.length _ hT.src (by unfold maxLen; omega) (by omega)
  have hT' : IsT w' v' l := by
    rcases h1 with ⟨h0, rfl⟩ | h1
    · obtain rfl : l = [] := List.eq_nil_of_length_eq_zero h0
      exact ⟨_, 0, rfl, Nat.le_refl _, by decide, .inl rfl⟩
    · exact RowT.isT (base := w.heap.size) h1
  unfold Oper.wp execOp
  simp only [ho, resolve, invoke, builtin, Sem.run_bind, Sem.run_pure, Result.andThen_ok, List.map_toArray, List.map_cons, List.map_nil, hsl, hx, hr]
  exact ⟨v', rfl, hI v' w' hT', h2⟩
/-- An empty literal of truths. -/
theorem flow_emptyT {o : Oper} {a : Act} {w : World} {Q : Exit → Act → World → Prop} {I : Value → World → Prop} (ho : o.op = .buildSlice 22 0 #[]) (hI : ∀ g w', I (.slice (some ⟨g, 0, none⟩) 0 0) w') :
    o.wp Try.prog a w (fun a' w' => ∃ v, a' = a.put o.dst v ∧ I v w' ∧ Below w.heap.size w w') Q := by
  have hr : (Instr.buildSlice 22 0 #[]).run Try.prog w = .ok (.slice (some ⟨w.heap.size, 0, none⟩) 0 0) (w.alloc (.cells #[] 4)) := by kernel_rfl
  unfold Oper.wp execOp
  simp only [ho]
  simp [hr]
  exact ⟨_, rfl, hI _ _, (Below.refl _ w).alloc (Nat.le_refl _) _⟩
end Go.Proofs.Ytidkjpfdclkccab
