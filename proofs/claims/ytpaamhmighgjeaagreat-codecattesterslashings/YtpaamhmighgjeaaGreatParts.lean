/- ssz's Reader: Parts. -/
import Derived.Test.YtpaamhmighgjeaaGreatCut
namespace Go.Proofs.YtpaamhmighgjeaaGreat
open Go.RowKit Go.Shelf
set_option linter.unusedVariables false
set_option maxRecDepth 100000

theorem below_drew0 {w w' : World} (h : Below w.heap.size w w') (n : Nat) : Below w.heap.size w (w'.drewN n) := ⟨h.os, h.tape, h.output, h.size, h.block⟩

set_option maxHeartbeats 4000000 in
/-- Parts, where nothing was wrong. -/
theorem parts_ok {g : Nat} {S : Nat → Prop} {bs : List Nat} {size : Nat} {ps : List Nat} (w : World) (h : Rd w g S bs size size ps false) (hb : ps = [] → bs.length = size) (hC : Cuts bs ps) (hs : size ≤ 4611686018427387904) (hl : bs.length ≤ 140737488355328) (hp : ps.length ≤ 2147483647) :
    Calls Tryz.prog 35 #[.pointer (some ⟨g, 0, none⟩)] w fun e w' => ∃ u, e = .returned (.tuple #[u, .bool true]) ∧ IsBs w' u (cutL bs ps) ∧ Below w.heap.size w w' := by
  obtain ⟨ao, cap, q, c0, c1, c2, c3, c4, c5, _, hIs, _, hch, _⟩ := h.cells
  have hgl := h.gt
  have HA : Hid (∀ W : World, Below w.heap.size w W → Calls Tryz.prog 84 #[.agg #[.int .i64 (ps.length : Nat), .pointer q]] W fun e w' =>
      ∃ gi, w.heap.size ≤ gi ∧ e = .returned (.slice (some ⟨gi, 0, none⟩) ps.length ps.length) ∧ w'.heap[gi]? = some (.cells (intsA ps) 3 (0, 0)) ∧ Below w.heap.size w w') := by
    intro W hW
    have h1 := allI_any ps.reverse q W (by rw [List.length_reverse]; exact hp) (S := S) (ChnI.keepS (w := w) (w' := W) (fun k _ hk => hW.block k hk) hch)
    rw [List.length_reverse, List.reverse_reverse] at h1
    refine h1.mono ?_
    rintro e w' ⟨gi, r1, r2, r3, r4⟩
    exact ⟨gi, Nat.le_trans hW.size r1, r2, r3, below_more hW r4 (Nat.le_refl _)⟩
  have HCt : Hid (∀ gi (W : World), Below w.heap.size w W → W.heap[gi]? = some (.cells (intsA ps) 3 (0, 0)) → Calls Tryz.prog 83 #[.slice ao bs.length cap, .slice (some ⟨gi, 0, none⟩) ps.length ps.length] W fun e w' => ∃ u, e = .returned u ∧ IsBs w' u (cutL bs ps) ∧ Below w.heap.size w w') := by
    intro gi W hW hg
    refine (cut_any _ bs ps gi W (hIs.keep hW) hl hg hC hp).mono ?_
    rintro e w' ⟨u, r1, r2, r3⟩
    exact ⟨u, r1, r2, below_more hW r3 (Nat.le_refl _)⟩
  have key : ∀ (W : World), (∃ n, W = w.drewN n) → ∀ a : Act, True := fun _ _ _ => trivial
  clear h hIs hch key
  by_cases hp0 : ps.length = 0
  · have hbl := hb (List.eq_nil_of_length_eq_zero hp0)
    rw [hbl] at c0 HCt hl
    have hq : (((size : Nat) : Int) != ((size : Nat) : Int)) = false := by simp
    have c3' : w.cell? ⟨g, 3, none⟩ = some (.int .i64 0) := by rw [c3, hp0]; rfl
    rw [hp0] at HA HCt
    clear c3 hb hC hbl
    have HP0 := hid hp0
    clear hp0
    go_enter Tryz.func35, Tryz.ntmps35
    go_wp2_with fail
    go_quiet (fail)
    go_wp2_with fail
    go_quiet (fail)
    go_wp2_with fail
    refine wp_mono (Q := fun e a' w' => match e with | .normal => a'.defers = [] ∧ ∃ u, a'.tmps.getD 2 undef = u ∧ a'.tmps.getD 3 undef = .bool true ∧ IsBs w' u (cutL bs ps) ∧ Below w.heap.size w w' | _ => False) ?_ ?_
    · go_region_law (first
        | (go_simp; go_at_call 84; refine (HA.out _ (by exact ⟨rfl, rfl, rfl, Nat.le_refl _, fun _ _ => rfl⟩)).mono ?_; rintro e w3 ⟨gi, hgi, rfl, hG3, B3⟩; have k0 := (B3.cell (p := ⟨g, 0, none⟩) hgl).trans c0; replace hG3 := hid hG3; replace B3 := hid B3)
        | (go_simp; go_at_call 83; refine (HCt.out _ _ B3.out hG3.out).mono ?_; rintro e w4 ⟨u, rfl, hI4, B4⟩; replace hI4 := hid hI4; replace B4 := hid B4))
      all_goals exact ⟨rfl, u, rfl, rfl, hI4.out, B4.out⟩
    · rintro (_ | _ | _ | _ | _ | _) a' w' hq <;> try exact hq.elim
      obtain ⟨hd, u, h2, h3, hI4, B4⟩ := hq
      have Y := hid (And.intro hd (And.intro h2 (And.intro h3 (And.intro hI4 B4))))
      clear hd h2 h3 hI4 B4
      go_wp2
      obtain ⟨hd, h2, h3, hI4, B4⟩ := Y.out
      refine bodyPost_ret (v := .tuple #[u, .bool true]) ?_ hd ⟨u, rfl, hI4, B4⟩
      rw [← h2, ← h3]
      exact results_tmp2 rfl _ _ _
  · have hne : (((ps.length : Nat) : Int) == 0) = false := by rw [beq_eq_false_iff_ne]; omega
    have hq : (((size : Nat) : Int) != ((size : Nat) : Int)) = false := by simp
    clear hb hC
    go_enter Tryz.func35, Tryz.ntmps35
    go_wp2_with fail
    go_quiet (fail)
    go_wp2_with fail
    go_quiet (fail)
    go_wp2_with fail
    refine wp_mono (Q := fun e a' w' => match e with | .normal => a'.defers = [] ∧ ∃ u, a'.tmps.getD 2 undef = u ∧ a'.tmps.getD 3 undef = .bool true ∧ IsBs w' u (cutL bs ps) ∧ Below w.heap.size w w' | _ => False) ?_ ?_
    · go_region_law (first
        | (go_simp; go_at_call 84; refine (HA.out _ (by exact ⟨rfl, rfl, rfl, Nat.le_refl _, fun _ _ => rfl⟩)).mono ?_; rintro e w3 ⟨gi, hgi, rfl, hG3, B3⟩; have k0 := (B3.cell (p := ⟨g, 0, none⟩) hgl).trans c0; replace hG3 := hid hG3; replace B3 := hid B3)
        | (go_simp; go_at_call 83; refine (HCt.out _ _ B3.out hG3.out).mono ?_; rintro e w4 ⟨u, rfl, hI4, B4⟩; replace hI4 := hid hI4; replace B4 := hid B4))
      all_goals exact ⟨rfl, u, rfl, rfl, hI4.out, B4.out⟩
    · rintro (_ | _ | _ | _ | _ | _) a' w' hq <;> try exact hq.elim
      obtain ⟨hd, u, h2, h3, hI4, B4⟩ := hq
      have Y := hid (And.intro hd (And.intro h2 (And.intro h3 (And.intro hI4 B4))))
      clear hd h2 h3 hI4 B4
      go_wp2
      obtain ⟨hd, h2, h3, hI4, B4⟩ := Y.out
      refine bodyPost_ret (v := .tuple #[u, .bool true]) ?_ hd ⟨u, rfl, hI4, B4⟩
      rw [← h2, ← h3]
      exact results_tmp2 rfl _ _ _
end Go.Proofs.YtpaamhmighgjeaaGreat
