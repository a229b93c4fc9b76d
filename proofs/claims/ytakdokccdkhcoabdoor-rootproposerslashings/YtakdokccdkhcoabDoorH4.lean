/- Own texts of the proof, joined: Flow9 RootB Kinds6 RowsB CoSignedHeader CoProposerSlashing VaHeader VaSignedHeader VaProposerSlashing RunEq LwProposerSlashing. -/
import Derived.Test.YtakdokccdkhcoabDoorH3
/- The flow of a region whose operations hang together in long chains. -/
namespace Go.Proofs.YtakdokccdkhcoabDoor
open Go.RowKit
set_option linter.unusedVariables false
set_option maxRecDepth 100000

def flowB9 (ops : Array Oper) (n late sz : Nat) : Bool :=
  decide (n < ops.size) && Region.noSelect ops && ((List.range ops.size).all fun t => decide (t < n) || (List.range n).all fun i => decide (i = late) || reachB ops 9 t i) &&
  ((List.range n).all fun i => match ops[i]? with
    | some o => o.guard.isNone && (o.after.all fun e => !Region.binds .any e || decide (e.on < i)) && (match o.dst with
      | none => true
      | some d => decide (d < sz) && (List.range n).all fun j => decide (j = i) || decide (dstOf ops j ≠ some d))
    | none => false) && (decide (n ≤ late) || (Region.free .any ops (doneBut ops n late) late && (Region.ready .any ops (doneBut ops n late)).contains late)) &&
  Region.seqB .any ops (ops.size - n) n ((List.range ops.size).map fun i => decide (i < n)).toArray

section
variable {P : Program}
theorem flow_any9 {ops : Array Oper} {n late : Nat} {I : Nat → Value → World → Prop} {w0 : World} {a0 : Act} {Q : Exit → Act → World → Prop} (hB : flowB9 ops n late a0.tmps.size = true)
    (hQ : ∀ c d v a w, Q (.panic c) (a.put d v) w → Q (.panic c) a w)
    (hI : ∀ i v w w', i < n → I i v w → Below w.heap.size w w' → I i v w')
    (hop : ∀ i o, i < n → ops[i]? = some o → ∀ a w, Cls w0 w → (∀ s, (∀ j, j < n → dstOf ops j ≠ some s) → a.tmps.getD s undef = a0.tmps.getD s undef) →
      (∀ j d, dstOf ops j = some d → (o.after.any fun e => Region.binds .any e && e.on == j) = true → I j (a.tmps.getD d undef) w) →
      o.wp P a w (fun a' w' => ∃ v, a' = a.put o.dst v ∧ I i v w' ∧ Below w.heap.size w w') Q)
    (hlate : ∀ o, late < n → ops[late]? = some o → ∀ (a : Act) w, Cls w0 w → (∀ s, (∀ j, j < n → dstOf ops j ≠ some s) → a.tmps.getD s undef = a0.tmps.getD s undef) →
      (∀ j d, dstOf ops j = some d → (o.after.any fun e => Region.binds .any e && e.on == j) = true → I j (a.tmps.getD d undef) w) → ∃ v, (∀ w, (execOp a.eval o).run P w = .ok (.value v) w) ∧ I late v w)
    (htail : ∀ v w, Cls w0 w → (∀ i d, i < n → dstOf ops i = some d → I i (v i) w) → wpAny P .any ops Q (ops.size - n) ((List.range ops.size).map fun i => decide (i < n)).toArray (putAll v (ops.toList.take n) 0 a0) w) :
    ∀ f (done : Array Bool) (a : Act) (w : World), (List.range n).countP (fun i => !done.getD i true) = f → FlowInv ops n I w0 a0 done a w → wpAny P .any ops Q (f + (ops.size - n)) done a w := by
  simp only [flowB9, Bool.and_eq_true, decide_eq_true_eq, List.all_eq_true, List.mem_range, Bool.or_eq_true] at hB
  obtain ⟨⟨⟨⟨⟨hn, hsel⟩, hdir⟩, hall⟩, hlt8⟩, hseq⟩ := hB
  have hat : ∀ i, i < n → ∃ o, ops[i]? = some o := fun i hi => ⟨_, Array.getElem?_eq_getElem (by omega)⟩
  have hgd : ∀ i o, i < n → ops[i]? = some o → o.guard = none ∧ (∀ e ∈ o.after, Region.binds .any e = true → e.on < i) ∧ ∀ d, o.dst = some d → d < a0.tmps.size ∧ ∀ j, j < n → j ≠ i → dstOf ops j ≠ some d := by
    intro i o hi ho
    have := hall i hi
    rw [ho] at this
    simp only [Bool.and_eq_true, Option.isNone_iff_eq_none, Array.all_eq_true_iff_forall_mem, Bool.or_eq_true, Bool.not_eq_true', decide_eq_true_eq] at this
    obtain ⟨⟨h1, h2⟩, h3⟩ := this
    refine ⟨h1, fun e he hb => (h2 e he).resolve_left (by rw [hb]; decide), fun d hd => ?_⟩
    rw [hd] at h3
    simp only [Bool.and_eq_true, decide_eq_true_eq, List.all_eq_true, List.mem_range, Bool.or_eq_true] at h3
    exact ⟨h3.1, fun j hj hne => (h3.2 j hj).resolve_left hne⟩
  intro f
  induction f with
  | zero =>
    intro done a w hcount inv
    have hdone : ∀ i, i < n → done.getD i true = true := fun i hi => by
      have := List.countP_eq_zero.1 hcount i (List.mem_range.2 hi)
      simpa using this
    have hdn : done = ((List.range ops.size).map fun i => decide (i < n)).toArray := by
      apply Array.ext_getElem?
      intro i
      by_cases hi : i < ops.size
      · have hi' : i < done.size := by rw [inv.head.size]; exact hi
        have h1 : (((List.range ops.size).map fun i => decide (i < n)).toArray)[i]? = some (decide (i < n)) := by simp [hi]
        rw [h1, Array.getElem?_eq_getElem hi']
        by_cases hin : i < n
        · have := hdone i hin
          simp [hi'] at this
          simp [hin, this]
        · have := inv.head.tail i (by omega) hi
          simp [hi'] at this
          simp [hin, this]
      · rw [Array.getElem?_eq_none (by rw [inv.head.size]; omega), Array.getElem?_eq_none (by simp; omega)]
    have hk : ∀ i, i < n → done.getD i false = true := fun i hi => by
      have h1 := hdone i hi
      have hi' : i < done.size := by rw [inv.head.size]; omega
      simp [hi'] at h1 ⊢
      exact h1
    have ha : a = putAll (fun i => match dstOf ops i with | some d => a.tmps.getD d undef | none => undef) (ops.toList.take n) 0 a0 := by
      have hd1 := putAll_defers (fun i => match dstOf ops i with | some d => a.tmps.getD d undef | none => undef) (ops.toList.take n) 0 a0
      have hs1 := putAll_size (fun i => match dstOf ops i with | some d => a.tmps.getD d undef | none => undef) (ops.toList.take n) 0 a0
      have ht1 : ∀ s, a.tmps[s]? = (putAll (fun i => match dstOf ops i with | some d => a.tmps.getD d undef | none => undef) (ops.toList.take n) 0 a0).tmps[s]? := fun s => by
        rw [putAll_get _ s (a.tmps.getD s undef) _ 0 a0 (fun j o hj ho => by
          rw [List.getElem?_take] at hj
          split at hj
          · have : dstOf ops j = some s := by unfold dstOf; rw [Array.getElem?_toList] at hj; rw [hj]; exact ho
            rw [Nat.zero_add, this]
          · cases hj)]
        split
        · rename_i h
          rw [Array.getElem?_eq_getElem (by rw [inv.size]; exact h.2)]
          simp [inv.size, h.2]
        · rename_i h
          by_cases hsz : s < a0.tmps.size
          · refine inv.keep s fun i hi e => h ⟨?_, hsz⟩
            obtain ⟨o, ho⟩ := hat i hi
            refine ⟨o, ?_, by unfold dstOf at e; rw [ho] at e; exact e⟩
            rw [List.mem_take_iff_getElem]
            have := Array.getElem?_eq_some_iff.1 ho
            exact ⟨i, by simp; omega, by simpa using this.2⟩
          · rw [Array.getElem?_eq_none (by rw [inv.size]; omega), Array.getElem?_eq_none (by omega)]
      generalize putAll (fun i => match dstOf ops i with | some d => a.tmps.getD d undef | none => undef) (ops.toList.take n) 0 a0 = b at *
      obtain ⟨ta, da⟩ := a
      obtain ⟨tb, db⟩ := b
      have e1 : ta = tb := Array.ext_getElem? ht1
      have e2 : da = db := inv.defers.trans hd1.symm
      rw [e1, e2]
    rw [Nat.zero_add, ha, hdn]
    refine htail _ w inv.cls fun i d hi hd => ?_
    have := inv.known i hi (hk i hi) d hd
    simpa [hd] using this
  | succ f ih =>
    intro done a w hcount inv
    have hex : ∃ i, i < n ∧ done.getD i true = false := by
      have : 0 < (List.range n).countP (fun i => !done.getD i true) := by omega
      obtain ⟨i, hi, hd⟩ := List.countP_pos_iff.1 this
      exact ⟨i, List.mem_range.1 hi, by simpa using hd⟩
    have hready : ∃ i, i < n ∧ i ∈ Region.ready .any ops done := by
      obtain ⟨i0, hi0, hd0⟩ := hex
      have key : ∀ m, m < n → done.getD m true = false → ∃ i, i < n ∧ i ∈ Region.ready .any ops done := by
        intro m
        induction m using Nat.strongRecOn with
        | _ m ihm =>
          intro hm hd
          obtain ⟨o, ho⟩ := hat m hm
          by_cases hw : ∀ e ∈ o.after, Region.binds .any e = true → done.getD e.on false = true
          · exact ⟨m, hm, mem_ready.2 ⟨hd, o, ho, hw⟩⟩
          · simp only [Classical.not_forall] at hw
            obtain ⟨e, he, hb, hnd⟩ := hw
            have hlt := (hgd m o hm ho).2.1 e he hb
            refine ihm e.on hlt (by omega) ?_
            have hi' : e.on < done.size := by rw [inv.head.size]; omega
            simp [hi'] at hnd ⊢
            exact hnd
      exact key i0 hi0 hd0
    obtain ⟨r, hr, hrr⟩ := hready
    rw [Nat.succ_add]
    have hstep : ∀ i o v w', i < n → i ∈ Region.ready .any ops done → ops[i]? = some o → I i v w' → Below w.heap.size w w' →
        (List.range n).countP (fun j => !(done.setIfInBounds i true).getD j true) = f ∧ FlowInv ops n I w0 a0 (done.setIfInBounds i true) (a.put o.dst v) w' := by
      intro i o v w' hin hi ho hv hB
      obtain ⟨hun, o', ho', hwait⟩ := mem_ready.1 hi
      obtain ⟨g1, g2, g3⟩ := hgd i o hin ho
      refine ⟨?_, inv.head.set hi hin, inv.cls.more hB, by rw [put_defers]; exact inv.defers, by rw [put_size]; exact inv.size, fun s hs' => ?_, fun j hj hdj d hd => ?_⟩
      · have hii : i < done.size := by rw [inv.head.size]; omega
        have hcp := count_step done i hii hun n hin
        omega
      · rw [put_get, if_neg (fun h => hs' i hin (by unfold dstOf; rw [ho]; exact h.1))]
        exact inv.keep s hs'
      · by_cases e : j = i
        · subst e
          have hd' : o.dst = some d := by unfold dstOf at hd; rw [ho] at hd; exact hd
          have : (a.put o.dst v).tmps.getD d undef = v := by
            rw [Array.getD_eq_getD_getElem?, put_get, if_pos ⟨hd', by rw [inv.size]; exact (g3 d hd').1⟩]; rfl
          rw [this]; exact hv
        · have hdj' : done.getD j false = true := by rwa [getD_set_ne false (Ne.symm e)] at hdj
          have : (a.put o.dst v).tmps.getD d undef = a.tmps.getD d undef := by
            rw [Array.getD_eq_getD_getElem?, put_get, if_neg (fun h => (g3 d h.1).2 j hj e hd), ← Array.getD_eq_getD_getElem?]
          rw [this]
          exact hI j _ w w' hj (inv.known j hj hdj' d hd) hB
    have hdeps : ∀ i o, i < n → i ∈ Region.ready .any ops done → ops[i]? = some o → ∀ j d, dstOf ops j = some d → (o.after.any fun e => Region.binds .any e && e.on == j) = true → I j (a.tmps.getD d undef) w := by
      intro i o hin hi ho j d hd hj
      obtain ⟨hun, o', ho', hwait⟩ := mem_ready.1 hi
      obtain rfl : o' = o := Option.some.inj (ho'.symm.trans ho)
      obtain ⟨g1, g2, g3⟩ := hgd i o' hin ho
      obtain ⟨k, hk, hk2⟩ := Array.any_eq_true.1 hj
      simp only [Bool.and_eq_true, beq_iff_eq] at hk2
      have hmem := Array.getElem_mem hk
      have hl := hwait _ hmem hk2.1
      have hlt := g2 _ hmem hk2.1
      rw [hk2.2] at hl hlt
      exact inv.known j (by omega) hl d hd
    have hkeep : ∀ s, (∀ j, j < n → dstOf ops j ≠ some s) → a.tmps.getD s undef = a0.tmps.getD s undef := fun s hs' => by rw [Array.getD_eq_getD_getElem?, inv.keep s hs', ← Array.getD_eq_getD_getElem?]
    by_cases hbut : ∀ i, i < n → i ≠ late → done.getD i true = true
    · have hrl : r = late := Classical.byContradiction fun h => by
        have h1 := hbut r hr h
        rw [(mem_ready.1 hrr).1] at h1; cases h1
      subst hrl
      have hdn : done = doneBut ops n r := by
        apply Array.ext_getElem?
        intro i
        by_cases hi : i < ops.size
        · have hi' : i < done.size := by rw [inv.head.size]; exact hi
          have h1 : (doneBut ops n r)[i]? = some (decide (i < n) && decide (i ≠ r)) := by simp [doneBut, hi]
          rw [h1, Array.getElem?_eq_getElem hi']
          by_cases hin : i < n
          · by_cases hir : i = r
            · subst hir
              have := (mem_ready.1 hrr).1
              simp [hi'] at this
              simp [this]
            · have := hbut i hin hir
              simp [hi'] at this
              simp [hin, hir, this]
          · have := inv.head.tail i (by omega) hi
            simp [hi'] at this
            simp [hin, this]
        · rw [Array.getElem?_eq_none (by rw [inv.head.size]; omega), Array.getElem?_eq_none (by simp [doneBut]; omega)]
      obtain ⟨o, ho⟩ := hat r hr
      obtain ⟨v, hrun, hv⟩ := hlate o hr ho a w inv.cls hkeep (hdeps r o hr hrr ho)
      obtain ⟨q1, q2⟩ := hstep r o v w hr hrr ho hv (Below.refl _ w)
      have hw : Region.wanted o (yielded ops a.tmps) = true := by simp [Region.wanted, (hgd r o hr ho).1]
      have hfr := hlt8.resolve_left (by omega)
      rw [← hdn] at hfr
      exact wpAny_take ho hsel hfr.1 hfr.2 (fun c a w h => hQ c _ _ a w h) (.inl ⟨hw, hrun⟩) (ih _ _ _ q1 q2)
    · simp only [Classical.not_forall] at hbut
      obtain ⟨u, hu, hul, hud⟩ := hbut
      have hud' : done.getD u false = false := by
        have hi' : u < done.size := by rw [inv.head.size]; omega
        simp [hi'] at hud ⊢
        exact hud
      refine ⟨fun e => (by rw [e] at hrr; cases hrr), fun i hi => ?_⟩
      obtain ⟨hun, o, ho, hwait⟩ := mem_ready.1 hi
      have hin : i < n := Nat.lt_of_not_le fun h => by
        have his : i < ops.size := (Array.getElem?_eq_some_iff.1 ho).1
        have hw := ((hdir i his).resolve_left (by omega) u hu).resolve_left hul
        have := reach_done inv.head.closed u 9 i o ho hwait hw
        rw [hud'] at this
        cases this
      unfold wpOp
      rw [ho]
      have hw : Region.wanted o (yielded ops a.tmps) = true := by simp [Region.wanted, (hgd i o hin ho).1]
      simp only [hw, if_true]
      refine .inl (Oper.wp_mono ?_ (hop i o hin ho a w inv.cls hkeep (hdeps i o hin hi ho)))
      rintro a' w' ⟨v, rfl, hv, hB⟩
      obtain ⟨q1, q2⟩ := hstep i o v w' hin hi ho hv hB
      exact ih _ _ _ q1 q2

/-- The region, told as a flow. -/
theorem wp_region_flow9 {id : Nat} {Q : Exit → Act → World → Prop} {a : Act} {w : World} {l : List Oper} (n late : Nat) (I : Nat → Value → World → Prop) (hm : P.follows .mixedOrders = true) (hB : flowB9 l.toArray n late a.tmps.size = true)
    (hQ : ∀ c d v a w, Q (.panic c) (a.put d v) w → Q (.panic c) a w)
    (hI : ∀ i v w w', i < n → I i v w → Below w.heap.size w w' → I i v w')
    (hop : ∀ i o, i < n → l.toArray[i]? = some o → ∀ a' w', Cls w w' → (∀ s, (∀ j, j < n → dstOf l.toArray j ≠ some s) → a'.tmps.getD s undef = a.tmps.getD s undef) →
      (∀ j d, dstOf l.toArray j = some d → (o.after.any fun e => Region.binds .any e && e.on == j) = true → I j (a'.tmps.getD d undef) w') →
      o.wp P a' w' (fun a'' w'' => ∃ v, a'' = a'.put o.dst v ∧ I i v w'' ∧ Below w'.heap.size w' w'') Q)
    (hlate : ∀ o, late < n → l.toArray[late]? = some o → ∀ (a' : Act) w', Cls w w' → (∀ s, (∀ j, j < n → dstOf l.toArray j ≠ some s) → a'.tmps.getD s undef = a.tmps.getD s undef) →
      (∀ j d, dstOf l.toArray j = some d → (o.after.any fun e => Region.binds .any e && e.on == j) = true → I j (a'.tmps.getD d undef) w') → ∃ v, (∀ w, (execOp a'.eval o).run P w = .ok (.value v) w) ∧ I late v w')
    (htail : ∀ v w', Cls w w' → (∀ i d, i < n → dstOf l.toArray i = some d → I i (v i) w') → wpList P l.toArray Q (l.drop n) (putAll v (l.take n) 0 a) w') : (Code.region id l.toArray true).wp P Q a w := by
  have hB' := hB
  simp only [flowB9, Bool.and_eq_true, decide_eq_true_eq] at hB'
  have hn : n < l.length := by simpa using hB'.1.1.1.1.1
  have h3 : (l.drop n).length = l.toArray.size - n := by simp
  refine wp_region_any hm ?_
  have hc0 : (List.range n).countP (fun i => !(Array.replicate l.toArray.size false).getD i true) = n := by
    have : (List.range n).countP (fun i => !(Array.replicate l.toArray.size false).getD i true) = (List.range n).length := List.countP_eq_length.2 fun i hi => by
      have := List.mem_range.1 hi
      simp [show i < l.length by omega]
    rw [this, List.length_range]
  have K := flow_any9 (P := P) (Q := Q) (w0 := w) (a0 := a) hB hQ hI hop hlate (fun v w' hc hv => by
    have := wpAny_of_seq (P := P) (md := .any) (Q' := Q) (l.drop n) n _ _ w' (fun j => by simp [List.getElem?_drop]) (by rw [h3]; exact hB'.2) (htail v w' hc hv)
    rw [h3] at this
    simpa using this) n (Array.replicate l.toArray.size false) a { w with drawn := w.drawn + 1 } hc0
    ⟨⟨by simp, fun j oj _ hx => (by rw [getD_replicate_false] at hx; cases hx), fun t _ ht => getD_in (by simpa using ht) (getD_replicate_false _ _)⟩, ⟨(Below.refl _ w).drew⟩, rfl, rfl, fun _ _ => rfl, fun i _ hx => (by rw [getD_replicate_false] at hx; cases hx)⟩
  rwa [show n + (l.toArray.size - n) = l.toArray.size by simp; omega] at K
end
end Go.Proofs.YtakdokccdkhcoabDoor

/- The document's Root at containers, then at every kind that RootD speaks of. -/
namespace Go.Proofs.YtakdokccdkhcoabDoor
open Go.RowKit Go.Shelf
set_option linter.unusedVariables false
set_option maxRecDepth 100000

theorem run_move {P : Program} {o : Oper} {a : Act} {w : World} (x : Operand) (ho : o.op = .move x) (v : Value) (hx : a.eval x = v) : (execOp a.eval o).run P w = .ok (.value v) w := by unfold execOp; simp only [ho, hx]; rfl
set_option maxHeartbeats 1000000 in
theorem root_box (N : Nat) (IH : ∀ (d : Dt) (x : Vt) (p : Nat) (v : Value) (w : World), d.deep ≤ N → okR d x → DAt w d p → IsV w v x →
      Calls Tryd.prog 7 #[.pointer (some ⟨p, 0, none⟩), v] w fun e w' => e = .returned (.agg (nums .u8 (rootV d x))) ∧ Below w.heap.size w w')
    (n num : Nat) (ds : List Dt) (ks : List Vt) (r : List Nat) (bs : List Bool) (sb sk : Value) (p : Nat) (w : World) (hdp : deepD ds ≤ N) (hl : ds.length = ks.length) (hm : ds.length ≤ 1048576) (hok : okRs ds ks)
    (hD : DAt w (.mk 8 n ds) p) (hV : VAt w (.mk num r bs ks) sb sk) :
    Calls Tryd.prog 7 #[.pointer (some ⟨p, 0, none⟩), .agg (valL num r sb sk).toArray] w fun e w' => e = .returned (.agg (nums .u8 (fullR (depth (ds.length : Nat)) (rootsV ds ks)))) ∧ Below w.heap.size w w' := by
  rw [DAt] at hD
  obtain ⟨hd0, hd1, dao, dcap, hd2, hdc, hdm, hds⟩ := hD
  rw [VAt] at hV
  obtain ⟨⟨hn0, hrl, hr8⟩, _, kao, kcap, rfl, hkc, hkm, hks⟩ := hV
  have hzr := zero_rt
  have hrts : Rts (rootsV ds ks) := by
    rcases hks with hk | ⟨b, off, _, hk⟩
    · rw [List.length_eq_zero_iff.1 (hl.trans hk), rootsV]; exact Rts.nil
    · exact rootsV_rts ds ks hok hk
  have hrln := rootsV_length hl
  have hfr : Rt (fullR (depth (ds.length : Nat)) (rootsV ds ks)) := full_rt _ _ hrts
  have HR := hid (And.intro hrts hrln)
  have HS := hid (And.intro hds hks)
  have HL := hid hl
  have HO := hid (And.intro hok (And.intro hdp hrl))
  have hlk : ks.length ≤ 1048576 := hl ▸ hm
  clear hrts hrln hds hks hok hdp hrl hr8 hdc hkc hl
  obtain ⟨Z, HZ⟩ : ∃ Z, Hid (fullR (depth (ds.length : Nat)) (rootsV ds ks) = Z) := ⟨_, hid rfl⟩
  rw [HZ.out] at hfr ⊢
  go_enter Tryd.func7, Tryd.ntmps7
  go_wp2_with ((with_reducible refine at_list' ?_); first
    | (refine wpList_box_c rfl 3 rfl (.tmp 1) rfl (valL num r sb (.slice kao ks.length kcap)) rfl ?_; intro w1 H1 B1 S1)
    | (refine wpList_alloc_has rfl 4 rfl 23 rfl .u8 32 Tryd.zero23 ?_; intro w2 H2 B2 S2; rw [S1] at H2 S2; rw [S1]; have hd02 := cell_keep B2 (cell_keep B1 hd0); have hd12 := cell_keep B2 (cell_keep B1 hd1); have hd22 := cell_keep B2 (cell_keep B1 hd2); have HX := hid (H1.keep B2)))
  have L2 := below_more B1 B2 (Nat.le_refl _)
  clear H1 B1 B2 hd02 hd12 hd22
  go_loopw [8, 12, 13] (fun l i _ wr => ∃ t : Nat, t ≤ ks.length ∧ i = .int .i64 t ∧ wr.ownsRow (w.heap.size + 2) 23 32 l t (cellsOf ((rootsV ds ks).take t)) ∧ HasC wr w.heap.size 39 (valL num r sb (.slice kao ks.length kcap)) ∧ Has wr (w.heap.size + 1) 23 .u8 (zeros 32) ∧ Below w.heap.size w wr) (fun _ i _ _ => ks.length - (intOf i).toNat)
  case atStart => exact ⟨0, Nat.zero_le _, rfl, World.ownsRow_nil _ _ _ _, HX.out, H2, L2⟩
  case round =>
    clear HX H2 L2 S1 S2
    obtain ⟨t, ht, rfl, hown, hX, hA, hW⟩ := hrel
    have hd0r := cell_keep hW hd0
    have hk34 := hX.cell (valL_34 num r sb (.slice kao ks.length kcap) HO.out.2.2)
    have hwl := hW.size
    have hal := hA.lt
    by_cases hlt : t < ks.length
    · obtain ⟨db, doff, rfl, hDs⟩ := HS.out.1.resolve_left (by have := HL.out; omega)
      obtain ⟨kb, koff, rfl, hKs⟩ := HS.out.2.resolve_left (by omega)
      have hx := List.getElem?_eq_getElem hlt
      have hdl : t < ds.length := by have := HL.out; omega
      have hdx := List.getElem?_eq_getElem hdl
      generalize ks[t] = x at hx
      generalize ds[t] = d at hdx
      obtain ⟨q, hq, hDq⟩ := DsAt.get hDs hdx
      obtain ⟨sb1, sk1, hr1, hV1⟩ := KsAt.get hKs hx
      have hxl : x.root.length = 32 := by
        have h2 := hV1
        cases x
        rw [VAt] at h2
        exact h2.1.2.1
      have hokx := okRs_get HO.out.1 hdx hx
      have hqr := rootV_rt d x hokx hV1
      have hget := rootsV_get hdx hx
      have hnx : (rootsV ds ks).take t ++ [rootV d x] = (rootsV ds ks).take (t + 1) := by rw [List.take_add_one, hget]; rfl
      have hsh : Rts ((rootsV ds ks).take t) := HR.out.1.take t
      have HI := hid (fun wq (hb : Below wr.heap.size wr wq) => IH d x q (.agg (valL x.num x.root sb1 sk1).toArray) wq (Nat.le_trans (deepD_get hdx) HO.out.2.1) hokx (DAt.keep (hW.trans (hb.mono hW.size)) d hDq) ⟨sb1, sk1, rfl, VAt.keep (hW.trans (hb.mono hW.size)) x hV1⟩)
      obtain ⟨Q, HQ⟩ : ∃ Q, Hid (rootV d x = Q) := ⟨_, hid rfl⟩
      rw [HQ.out] at hqr hnx HI
      have HF := hid (And.intro (cell_keep hW hd2) (And.intro hdl (And.intro (show wr.cell? ⟨db, doff + t * 1, none⟩ = some (.pointer (some ⟨q, 0, none⟩)) by rw [Nat.mul_one]; exact cell_keep hW hq) (And.intro hk34 (And.intro hlt (And.intro (show wr.rangeAt kb (koff + t * 35) (valL x.num x.root sb1 sk1) by rw [Nat.mul_comm t 35]; exact rangeAt_keep hr1 hW) hxl))))))
      have HN := hid (And.intro hnx hsh)
      have HXA := hid (And.intro hX (And.intro hA hW))
      have HOW := hid hown
      clear hq hDq hr1 hV1 hxl hokx hget hnx hsh hDs hKs hdx hx hX hA hW hown
      go_wp2_with fail
      try simp only [Act.put, List.setIfInBounds_toArray, List.set_cons_succ, List.set_cons_zero]
      refine wp_region_flow9 14 0 (fun i v wq => match i with
        | 0 => v = u8
        | 1 => v = .pointer (some ⟨p, 0, none⟩)
        | 2 => v = .pointer (some ⟨p, 0, none⟩)
        | 3 => v = .pointer (some ⟨p, 2, none⟩)
        | 4 => v = .slice (some ⟨db, doff, none⟩) ds.length dcap
        | 5 => v = .int .i64 (t : Nat)
        | 6 => v = .pointer (some ⟨db, doff + t * 1, none⟩)
        | 7 => v = .pointer (some ⟨q, 0, none⟩)
        | 8 => v = .pointer (some ⟨w.heap.size, 34, none⟩)
        | 9 => v = .slice (some ⟨kb, koff, none⟩) ks.length kcap
        | 10 => v = .int .i64 (t : Nat)
        | 11 => v = .pointer (some ⟨kb, koff + t * 35, none⟩)
        | 12 => v = .agg (valL x.num x.root sb1 sk1).toArray
        | _ => v = .agg (nums .u8 Q)) (by kernel_rfl) (by kernel_rfl) (fun _ d _ _ _ h => by cases d <;> exact h) ?_ ?_ ?_ ?_
      · intro i v wq wq' hi hv hb
        match i, hi with
        | 0, _ => exact hv
        | 1, _ => exact hv
        | 2, _ => exact hv
        | 3, _ => exact hv
        | 4, _ => exact hv
        | 5, _ => exact hv
        | 6, _ => exact hv
        | 7, _ => exact hv
        | 8, _ => exact hv
        | 9, _ => exact hv
        | 10, _ => exact hv
        | 11, _ => exact hv
        | 12, _ => exact hv
        | 13, _ => exact hv
        | (k + 14), hk => exact absurd hk (by omega)
      · intro i o hi ho aq wq hc hk hdep
        match i, hi with
        | 0, _ =>
          cases ho
          exact flow_move (.tmp 8) rfl (hk 8 (by decide))
        | 1, _ =>
          cases ho
          exact flow_move (.tmp 0) rfl (hk 0 (by decide))
        | 2, _ =>
          cases ho
          have e0 : aq.tmps.getD 137 undef = .pointer (some ⟨p, 0, none⟩) := hdep 1 137 rfl (by kernel_rfl)
          exact flow_value _ (run_nilOk (.tmp 137) rfl _ e0) rfl
        | 3, _ =>
          cases ho
          have e0 : aq.tmps.getD 138 undef = .pointer (some ⟨p, 0, none⟩) := hdep 2 138 rfl (by kernel_rfl)
          exact flow_value _ (run_fieldAt 61 (.tmp 138) 2 rfl _ _ e0 (by kernel_rfl)) rfl
        | 4, _ =>
          cases ho
          have e0 : aq.tmps.getD 139 undef = .pointer (some ⟨p, 2, none⟩) := hdep 3 139 rfl (by kernel_rfl)
          exact flow_value _ (run_cell 59 (.tmp 139) rfl _ e0 _ (cell_keep (hcB hc) HF.out.1) _ Tryd.underlying59 rfl) rfl
        | 5, _ =>
          cases ho
          exact flow_move (.tmp 13) rfl (hk 13 (by decide))
        | 6, _ =>
          cases ho
          have e0 : aq.tmps.getD 140 undef = .slice (some ⟨db, doff, none⟩) ds.length dcap := hdep 4 140 rfl (by kernel_rfl)
          have e1 : aq.tmps.getD 141 undef = .int .i64 (t : Nat) := hdep 5 141 rfl (by kernel_rfl)
          exact flow_value _ (run_atG 59 34 1 (.tmp 140) (.tmp 141) rfl Tryd.underlying59 sizeD1 db doff ds.length dcap t e0 e1 HF.out.2.1) rfl
        | 7, _ =>
          cases ho
          have e0 : aq.tmps.getD 142 undef = .pointer (some ⟨db, doff + t * 1, none⟩) := hdep 6 142 rfl (by kernel_rfl)
          exact flow_value _ (run_cell 34 (.tmp 142) rfl _ e0 _ (cell_keep (hcB hc) HF.out.2.2.1) _ Tryd.underlying34 rfl) rfl
        | 8, _ =>
          cases ho
          have e1 : aq.tmps.getD 3 undef = .pointer (some ⟨w.heap.size, 0, none⟩) := hk 3 (by decide)
          exact flow_value _ (run_fieldAt 39 (.tmp 3) 3 rfl _ _ e1 (by kernel_rfl)) rfl
        | 9, _ =>
          cases ho
          have e0 : aq.tmps.getD 144 undef = .pointer (some ⟨w.heap.size, 34, none⟩) := hdep 8 144 rfl (by kernel_rfl)
          exact flow_value _ (run_cell 37 (.tmp 144) rfl _ e0 _ (cell_keep (hcB hc) HF.out.2.2.2.1) _ Tryd.underlying37 rfl) rfl
        | 10, _ =>
          cases ho
          exact flow_move (.tmp 12) rfl (hk 12 (by decide))
        | 11, _ =>
          cases ho
          have e0 : aq.tmps.getD 145 undef = .slice (some ⟨kb, koff, none⟩) ks.length kcap := hdep 9 145 rfl (by kernel_rfl)
          have e1 : aq.tmps.getD 146 undef = .int .i64 (t : Nat) := hdep 10 146 rfl (by kernel_rfl)
          exact flow_value _ (run_atG 37 39 35 (.tmp 145) (.tmp 146) rfl Tryd.underlying37 sizeV35 kb koff ks.length kcap t e0 e1 HF.out.2.2.2.2.1) rfl
        | 12, _ =>
          cases ho
          have e0 : aq.tmps.getD 147 undef = .pointer (some ⟨kb, koff + t * 35, none⟩) := hdep 11 147 rfl (by kernel_rfl)
          exact flow_value _ (run_mid 39 (.tmp 147) rfl kb (koff + t * 35) e0 (valL x.num x.root sb1 sk1) (rangeAt_keep HF.out.2.2.2.2.2.1 (hcB hc)) _ Tryd.underlying39 rfl (by rw [valL_length _ _ _ _ HF.out.2.2.2.2.2.2]; exact sizeV35)) rfl
        | 13, _ =>
          cases ho
          have e0 : aq.tmps.getD 143 undef = .pointer (some ⟨q, 0, none⟩) := hdep 7 143 rfl (by kernel_rfl)
          have e1 : aq.tmps.getD 148 undef = .agg (valL x.num x.root sb1 sk1).toArray := hdep 12 148 rfl (by kernel_rfl)
          refine flow_fun 7 _ _ rfl (fun _ _ => by simp [go_sem]) #[.pointer (some ⟨q, 0, none⟩), .agg (valL x.num x.root sb1 sk1).toArray] (by rw [show (#[Operand.tmp 143, Operand.tmp 148] : Array Operand).map aq.eval = #[aq.tmps.getD 143 undef, aq.tmps.getD 148 undef] from by simp [Act.eval], e0, e1]) ?_
          refine (HI.out wq (hcB hc)).mono ?_
          rintro e w' ⟨rfl, q⟩
          exact ⟨_, rfl, rfl, q⟩
        | (k + 14), hk => exact absurd hk (by omega)
      · intro o _ ho a' w' hc hk hdep
        cases ho
        have e8 : a'.tmps.getD 8 undef = u8 := hk 8 (by decide)
        exact ⟨u8, fun w => run_move (.tmp 8) rfl _ e8, rfl⟩
      intro vf w8 hc hv
      have e0 : vf 0 = _ := hv 0 136 (by decide) rfl
      have e13 : vf 13 = _ := hv 13 149 (by decide) rfl
      have B8 := hcB hc
      clear hv hc
      simp only [List.take_succ_cons, List.take_zero, List.drop_succ_cons, List.drop_zero, putAll, Act.put, List.setIfInBounds_toArray, List.set_cons_succ, List.set_cons_zero]
      rw [e0, e13]
      have own8 := own_keep HOW.out B8
      have hX8 := HXA.out.1.keep B8
      have hA8 := HXA.out.2.1.keep B8
      have L8 := HXA.out.2.2.trans (B8.mono HXA.out.2.2.size)
      have hwl8 := L8.size
      have hal8 := hA8.lt
      clear e0 e13 HI HF HXA HOW B8
      go_wp2_with ((with_reducible refine at_list' ?_); first
        | (refine wpList_one_root rfl 63 23 (.tmp 149) rfl Tryd.underlying63 Tryd.root26 Q rfl hqr.len ?_; intro w3 H3 B3 S3; have own3 := own_keep own8 B3; have L3 := below_more L8 B3 (Nat.le_refl _))
        | (refine wpList_append_roots rfl (.tmp 136) (.tmp 150) 63 rfl (w.heap.size + 2) 23 Tryd.underlying63 Tryd.root26 _ t ((rootsV ds ks).take t) [Q] rfl own3 hqr.one ⟨w8.heap.size, 0, none⟩ 1 rfl (by intro j hj; rw [Addr.add_lit, Nat.zero_add, H3.cell j (by rw [hqr.len]; simpa using hj)]; simp) (by simp; omega) (by omega) ?_; intro v' w4 own4 grow4))
      have L4 := below_grownR L3 own3 (by omega) grow4
      have hX4 : HasC w4 w.heap.size 39 _ := (grow4.block _ (hX8.keep B3).lt (fun e => by have := (own3.lt _ e.symm).1; omega)).trans (hX8.keep B3)
      have hA4 : Has w4 (w.heap.size + 1) 23 .u8 (zeros 32) := (grow4.block _ (hA8.keep B3).lt (fun e => by have := (own3.lt _ e.symm).1; omega)).trans (hA8.keep B3)
      go_roundw
      case rel =>
        rw [HN.out.1] at own4
        exact ⟨t + 1, by omega, by go_num, own4, hX4, hA4, L4⟩
      case measure => simp [intOf]; omega
    · have ht2 : t = ks.length := by omega
      subst ht2
      rw [List.take_of_length_le (by rw [HR.out.2, HL.out]; exact Nat.le_refl _)] at hown
      obtain ⟨hn1, ao1, cap1, rfl, hc1, hm1, hRA⟩ := RootsAt.own HR.out.1 hown
      have HC := hid (rtree_any ao1 cap1 (rootsV ds ks) (ds.length : Nat) wr hc1 hm1 hRA (by rw [HR.out.2]; exact Int.le_refl _) (by omega))
      rw [HZ.out] at HC
      have HXA := hid (And.intro hX (And.intro hA hW))
      clear hX hA hW hown hRA hc1 hm1 hn1
      go_wp2_with fail
      refine HC.out.mono ?_
      rintro e w3 ⟨rfl, B3⟩
      have hd03 := cell_keep B3 hd0r
      have hA3 := HXA.out.2.1.keep B3
      have L3 := HXA.out.2.2.trans (B3.mono HXA.out.2.2.size)
      have hs3 := B3.size
      clear HC HXA B3 hk34
      go_wp2_with ((with_reducible refine at_list' ?_); first
        | (refine wpList_alloc_has rfl 14 rfl 23 rfl .u8 32 Tryd.zero23 ?_; intro w4 H4 B4 S4)
        | (refine wpList_store_has rfl 23 (.tmp 14) (.tmp 156) rfl w3.heap.size .u8 Z (zeros 32) rfl rfl 23 H4 (hfr.size _ Tryd.size23) (by rw [hfr.len, zeros_length]) ?_; intro w5 H5 O5; have hd05 := (World.cell?_of_block (a := ⟨p, 0, none⟩) (O5.block p (by have := block_lt_of_cell hd03; show ¬ p = w3.heap.size; simp at this; omega))).trans (cell_keep B4 hd03))
        | (refine wpList_load_has rfl 23 (.tmp 14) rfl w3.heap.size .u8 Z rfl 23 H5 _ _ Tryd.underlying23 (hfr.size _ Tryd.size23) ?_)
        | (refine wpList_store_has rfl 23 (.tmp 4) (.tmp 169) rfl (w.heap.size + 1) .u8 Z (zeros 32) rfl rfl 23 ((hA3.keep B4).only O5 (by have := hA3.lt; omega)) (hfr.size _ Tryd.size23) (by rw [hfr.len, zeros_length]) ?_; intro w6 H6 O6))
      refine bodyPost_ret (results_has rfl _ _ (w.heap.size + 1) 23 .u8 Z _ _ rfl H6 Tryd.underlying23 (hfr.size _ Tryd.size23)) rfl ?_
      exact ⟨rfl, below_only (below_only (below_more L3 B4 (Nat.le_refl _)) O5 (by omega)) O6 (by omega)⟩

theorem root_deep : ∀ (N : Nat) (d : Dt) (x : Vt) (p : Nat) (v : Value) (w : World), d.deep ≤ N → okR d x → DAt w d p → IsV w v x →
      Calls Tryd.prog 7 #[.pointer (some ⟨p, 0, none⟩), v] w fun e w' => e = .returned (.agg (nums .u8 (rootV d x))) ∧ Below w.heap.size w w'
  | 0, .mk f n ds, x, p, v, w, hN, ho, hD, hV => by rw [Dt.deep] at hN; omega
  | N + 1, .mk f n ds, .mk num r bs ks, p, v, w, hN, ho, hD, hV => by
    rw [Dt.deep] at hN
    obtain ⟨sb, sk, rfl, hV⟩ := hV
    have hV' := hV
    rw [VAt] at hV'
    rw [okR] at ho
    rw [rootV]
    rcases ho with ho | ho | ho | ⟨rfl, hl, hm, ho⟩
    · rw [if_pos (.inl ho)]
      exact root_num f n num ds r sb sk p w (.inl ho) hD hV'.1.1
    · rw [if_pos (.inr ho)]
      exact root_num f n num ds r sb sk p w (.inr ho) hD hV'.1.1
    · subst ho
      rw [if_neg (by decide), if_pos rfl]
      exact root_root n num ds r sb sk p w hD ⟨hV'.1.2.1, hV'.1.2.2⟩
    · rw [if_neg (by decide), if_neg (by decide)]
      exact root_box N (root_deep N) n num ds ks r bs sb sk p w (by omega) hl hm ho hD hV
/-- The document's Root. -/
theorem rroot_any (d : Dt) (x : Vt) (p : Nat) (v : Value) (w : World) (ho : okR d x) (hD : DAt w d p) (hV : IsV w v x) :
    Calls Tryd.prog 7 #[.pointer (some ⟨p, 0, none⟩), v] w fun e w' => e = .returned (.agg (nums .u8 (rootV d x))) ∧ Below w.heap.size w w' := root_deep d.deep d x p v w (Nat.le_refl _) ho hD hV
end Go.Proofs.YtakdokccdkhcoabDoor

/- The document's kinds of structs. -/
namespace Go.Proofs.YtakdokccdkhcoabDoor
open Go.RowKit Go.Shelf
set_option linter.unusedVariables false
set_option linter.unusedSimpArgs false
set_option maxRecDepth 100000

def dTruth : Dt := .mk 2 0 []
def dBits : Dt := .mk 7 32 []
theorem dAt_leaf2 {w : World} {p f n : Nat} (h : w.heap[p]? = some (.cells #[.int .i64 (f : Nat), .int .i64 (n : Nat), .slice none 0 0] 61 (0, 0))) : DAt w (.mk f n []) p := by
  rw [DAt]
  exact ⟨cell_of_row w p 0 _ _ (0, 0) h, cell_of_row w p 1 _ _ (0, 0) h, none, 0, cell_of_row w p 2 _ _ (0, 0) h, by simp, by simp, .inl rfl⟩
def hdD : Dt := dBox [dNum, dNum, dRoot, dRoot, dRoot]
set_option maxHeartbeats 1000000 in
theorem hdD_any (w : World) : Calls Tryd.prog 45 #[] w fun x w' => ∃ p, x = .returned (.pointer (some ⟨p, 0, none⟩)) ∧ DAt w' hdD p ∧ Below w.heap.size w w' := by
  go_enter Tryd.func45, Tryd.ntmps45
  go_wp2_with fail
  refine (num_any' w).mono ?_
  rintro e w1 ⟨rfl, q1, q2⟩
  have K0_0 := hid q1
  have L0 := hid (q2)
  clear q1 q2
  go_wp2_with fail
  refine (num_any' w1).mono ?_
  rintro e w2 ⟨rfl, q1, q2⟩
  have K1_0 := hid (DAt.keep q2 _ K0_0.out)
  have K1_1 := hid q1
  have L1 := hid (L0.out.trans (q2.mono L0.out.size))
  clear q1 q2 K0_0
  clear L0
  go_wp2_with fail
  refine (root_any' w2).mono ?_
  rintro e w3 ⟨rfl, q1, q2⟩
  have K2_0 := hid (DAt.keep q2 _ K1_0.out)
  have K2_1 := hid (DAt.keep q2 _ K1_1.out)
  have K2_2 := hid q1
  have L2 := hid (L1.out.trans (q2.mono L1.out.size))
  clear q1 q2 K1_0 K1_1
  clear L1
  go_wp2_with fail
  refine (root_any' w3).mono ?_
  rintro e w4 ⟨rfl, q1, q2⟩
  have K3_0 := hid (DAt.keep q2 _ K2_0.out)
  have K3_1 := hid (DAt.keep q2 _ K2_1.out)
  have K3_2 := hid (DAt.keep q2 _ K2_2.out)
  have K3_3 := hid q1
  have L3 := hid (L2.out.trans (q2.mono L2.out.size))
  clear q1 q2 K2_0 K2_1 K2_2
  clear L2
  go_wp2_with fail
  refine (root_any' w4).mono ?_
  rintro e w5 ⟨rfl, q1, q2⟩
  have K4_0 := hid (DAt.keep q2 _ K3_0.out)
  have K4_1 := hid (DAt.keep q2 _ K3_1.out)
  have K4_2 := hid (DAt.keep q2 _ K3_2.out)
  have K4_3 := hid (DAt.keep q2 _ K3_3.out)
  have K4_4 := hid q1
  have L4 := hid (L3.out.trans (q2.mono L3.out.size))
  clear q1 q2 K3_0 K3_1 K3_2 K3_3
  clear L3
  go_wp2_with fail
  have hB : Below w5.heap.size w5 (w5.alloc (.cells #[.pointer (some ⟨w.heap.size, 0, none⟩), .pointer (some ⟨w1.heap.size, 0, none⟩), .pointer (some ⟨w2.heap.size, 0, none⟩), .pointer (some ⟨w3.heap.size, 0, none⟩), .pointer (some ⟨w4.heap.size, 0, none⟩)] 34)) := (Below.refl _ w5).alloc (Nat.le_refl _) _
  have h := heap_alloc_new w5 (.cells #[.pointer (some ⟨w.heap.size, 0, none⟩), .pointer (some ⟨w1.heap.size, 0, none⟩), .pointer (some ⟨w2.heap.size, 0, none⟩), .pointer (some ⟨w3.heap.size, 0, none⟩), .pointer (some ⟨w4.heap.size, 0, none⟩)] 34)
  generalize w5.alloc (.cells #[.pointer (some ⟨w.heap.size, 0, none⟩), .pointer (some ⟨w1.heap.size, 0, none⟩), .pointer (some ⟨w2.heap.size, 0, none⟩), .pointer (some ⟨w3.heap.size, 0, none⟩), .pointer (some ⟨w4.heap.size, 0, none⟩)] 34) = wz at hB h ⊢
  have hD : DsAt wz [dNum, dNum, dRoot, dRoot, dRoot] w5.heap.size 0 := by
    rw [DsAt, DsAt, DsAt, DsAt, DsAt, DsAt]
    exact ⟨⟨_, cell_of_row _ _ 0 _ _ (0, 0) h, DAt.keep hB _ K4_0.out⟩, ⟨_, cell_of_row _ _ 1 _ _ (0, 0) h, DAt.keep hB _ K4_1.out⟩, ⟨_, cell_of_row _ _ 2 _ _ (0, 0) h, DAt.keep hB _ K4_2.out⟩, ⟨_, cell_of_row _ _ 3 _ _ (0, 0) h, DAt.keep hB _ K4_3.out⟩, ⟨_, cell_of_row _ _ 4 _ _ (0, 0) h, DAt.keep hB _ K4_4.out⟩, trivial⟩
  have HC := hid (box_any w5.heap.size 5 [dNum, dNum, dRoot, dRoot, dRoot] wz rfl (by decide) hD)
  have HZ := hid (L4.out.trans (hB.mono L4.out.size))
  clear hB h hD
  refine HC.out.mono ?_
  rintro e wy ⟨rfl, q1, q2⟩
  have X := hid (And.intro q1 q2)
  clear q1 q2 HC
  go_wp2
  go_ret
  exact ⟨_, rfl, X.out.1, HZ.out.trans (X.out.2.mono HZ.out.size)⟩
def shD : Dt := dBox [hdD, dRoot]
set_option maxHeartbeats 1000000 in
theorem shD_any (w : World) : Calls Tryd.prog 29 #[] w fun x w' => ∃ p, x = .returned (.pointer (some ⟨p, 0, none⟩)) ∧ DAt w' shD p ∧ Below w.heap.size w w' := by
  go_enter Tryd.func29, Tryd.ntmps29
  go_wp2_with fail
  refine (hdD_any w).mono ?_
  rintro e w1 ⟨p0, rfl, q1, q2⟩
  have K0_0 := hid q1
  have L0 := hid (q2)
  clear q1 q2
  go_wp2_with fail
  refine (root_any' w1).mono ?_
  rintro e w2 ⟨rfl, q1, q2⟩
  have K1_0 := hid (DAt.keep q2 _ K0_0.out)
  have K1_1 := hid q1
  have L1 := hid (L0.out.trans (q2.mono L0.out.size))
  clear q1 q2 K0_0
  clear L0
  go_wp2_with fail
  have hB : Below w2.heap.size w2 (w2.alloc (.cells #[.pointer (some ⟨p0, 0, none⟩), .pointer (some ⟨w1.heap.size, 0, none⟩)] 34)) := (Below.refl _ w2).alloc (Nat.le_refl _) _
  have h := heap_alloc_new w2 (.cells #[.pointer (some ⟨p0, 0, none⟩), .pointer (some ⟨w1.heap.size, 0, none⟩)] 34)
  generalize w2.alloc (.cells #[.pointer (some ⟨p0, 0, none⟩), .pointer (some ⟨w1.heap.size, 0, none⟩)] 34) = wz at hB h ⊢
  have hD : DsAt wz [hdD, dRoot] w2.heap.size 0 := by
    rw [DsAt, DsAt, DsAt]
    exact ⟨⟨_, cell_of_row _ _ 0 _ _ (0, 0) h, DAt.keep hB _ K1_0.out⟩, ⟨_, cell_of_row _ _ 1 _ _ (0, 0) h, DAt.keep hB _ K1_1.out⟩, trivial⟩
  have HC := hid (box_any w2.heap.size 2 [hdD, dRoot] wz rfl (by decide) hD)
  have HZ := hid (L1.out.trans (hB.mono L1.out.size))
  clear hB h hD
  refine HC.out.mono ?_
  rintro e wy ⟨rfl, q1, q2⟩
  have X := hid (And.intro q1 q2)
  clear q1 q2 HC
  go_wp2
  go_ret
  exact ⟨_, rfl, X.out.1, HZ.out.trans (X.out.2.mono HZ.out.size)⟩
def psD : Dt := dBox [shD, shD]
set_option maxHeartbeats 1000000 in
theorem psD_any (w : World) : Calls Tryd.prog 8 #[] w fun x w' => ∃ p, x = .returned (.pointer (some ⟨p, 0, none⟩)) ∧ DAt w' psD p ∧ Below w.heap.size w w' := by
  go_enter Tryd.func8, Tryd.ntmps8
  go_wp2_with fail
  refine (shD_any w).mono ?_
  rintro e w1 ⟨p0, rfl, q1, q2⟩
  have K0_0 := hid q1
  have L0 := hid (q2)
  clear q1 q2
  go_wp2_with fail
  refine (shD_any w1).mono ?_
  rintro e w2 ⟨p1, rfl, q1, q2⟩
  have K1_0 := hid (DAt.keep q2 _ K0_0.out)
  have K1_1 := hid q1
  have L1 := hid (L0.out.trans (q2.mono L0.out.size))
  clear q1 q2 K0_0
  clear L0
  go_wp2_with fail
  have hB : Below w2.heap.size w2 (w2.alloc (.cells #[.pointer (some ⟨p0, 0, none⟩), .pointer (some ⟨p1, 0, none⟩)] 34)) := (Below.refl _ w2).alloc (Nat.le_refl _) _
  have h := heap_alloc_new w2 (.cells #[.pointer (some ⟨p0, 0, none⟩), .pointer (some ⟨p1, 0, none⟩)] 34)
  generalize w2.alloc (.cells #[.pointer (some ⟨p0, 0, none⟩), .pointer (some ⟨p1, 0, none⟩)] 34) = wz at hB h ⊢
  have hD : DsAt wz [shD, shD] w2.heap.size 0 := by
    rw [DsAt, DsAt, DsAt]
    exact ⟨⟨_, cell_of_row _ _ 0 _ _ (0, 0) h, DAt.keep hB _ K1_0.out⟩, ⟨_, cell_of_row _ _ 1 _ _ (0, 0) h, DAt.keep hB _ K1_1.out⟩, trivial⟩
  have HC := hid (box_any w2.heap.size 2 [shD, shD] wz rfl (by decide) hD)
  have HZ := hid (L1.out.trans (hB.mono L1.out.size))
  clear hB h hD
  refine HC.out.mono ?_
  rintro e wy ⟨rfl, q1, q2⟩
  have X := hid (And.intro q1 q2)
  clear q1 q2 HC
  go_wp2
  go_ret
  exact ⟨_, rfl, X.out.1, HZ.out.trans (X.out.2.mono HZ.out.size)⟩
def ddD : Dt := dBox [dRoot, dRoot, dNum, dRoot]
set_option maxHeartbeats 1000000 in
theorem ddD_any (w : World) : Calls Tryd.prog 36 #[] w fun x w' => ∃ p, x = .returned (.pointer (some ⟨p, 0, none⟩)) ∧ DAt w' ddD p ∧ Below w.heap.size w w' := by
  go_enter Tryd.func36, Tryd.ntmps36
  go_wp2_with fail
  refine (root_any' w).mono ?_
  rintro e w1 ⟨rfl, q1, q2⟩
  have K0_0 := hid q1
  have L0 := hid (q2)
  clear q1 q2
  go_wp2_with fail
  refine (root_any' w1).mono ?_
  rintro e w2 ⟨rfl, q1, q2⟩
  have K1_0 := hid (DAt.keep q2 _ K0_0.out)
  have K1_1 := hid q1
  have L1 := hid (L0.out.trans (q2.mono L0.out.size))
  clear q1 q2 K0_0
  clear L0
  go_wp2_with fail
  refine (num_any' w2).mono ?_
  rintro e w3 ⟨rfl, q1, q2⟩
  have K2_0 := hid (DAt.keep q2 _ K1_0.out)
  have K2_1 := hid (DAt.keep q2 _ K1_1.out)
  have K2_2 := hid q1
  have L2 := hid (L1.out.trans (q2.mono L1.out.size))
  clear q1 q2 K1_0 K1_1
  clear L1
  go_wp2_with fail
  refine (root_any' w3).mono ?_
  rintro e w4 ⟨rfl, q1, q2⟩
  have K3_0 := hid (DAt.keep q2 _ K2_0.out)
  have K3_1 := hid (DAt.keep q2 _ K2_1.out)
  have K3_2 := hid (DAt.keep q2 _ K2_2.out)
  have K3_3 := hid q1
  have L3 := hid (L2.out.trans (q2.mono L2.out.size))
  clear q1 q2 K2_0 K2_1 K2_2
  clear L2
  go_wp2_with fail
  have hB : Below w4.heap.size w4 (w4.alloc (.cells #[.pointer (some ⟨w.heap.size, 0, none⟩), .pointer (some ⟨w1.heap.size, 0, none⟩), .pointer (some ⟨w2.heap.size, 0, none⟩), .pointer (some ⟨w3.heap.size, 0, none⟩)] 34)) := (Below.refl _ w4).alloc (Nat.le_refl _) _
  have h := heap_alloc_new w4 (.cells #[.pointer (some ⟨w.heap.size, 0, none⟩), .pointer (some ⟨w1.heap.size, 0, none⟩), .pointer (some ⟨w2.heap.size, 0, none⟩), .pointer (some ⟨w3.heap.size, 0, none⟩)] 34)
  generalize w4.alloc (.cells #[.pointer (some ⟨w.heap.size, 0, none⟩), .pointer (some ⟨w1.heap.size, 0, none⟩), .pointer (some ⟨w2.heap.size, 0, none⟩), .pointer (some ⟨w3.heap.size, 0, none⟩)] 34) = wz at hB h ⊢
  have hD : DsAt wz [dRoot, dRoot, dNum, dRoot] w4.heap.size 0 := by
    rw [DsAt, DsAt, DsAt, DsAt, DsAt]
    exact ⟨⟨_, cell_of_row _ _ 0 _ _ (0, 0) h, DAt.keep hB _ K3_0.out⟩, ⟨_, cell_of_row _ _ 1 _ _ (0, 0) h, DAt.keep hB _ K3_1.out⟩, ⟨_, cell_of_row _ _ 2 _ _ (0, 0) h, DAt.keep hB _ K3_2.out⟩, ⟨_, cell_of_row _ _ 3 _ _ (0, 0) h, DAt.keep hB _ K3_3.out⟩, trivial⟩
  have HC := hid (box_any w4.heap.size 4 [dRoot, dRoot, dNum, dRoot] wz rfl (by decide) hD)
  have HZ := hid (L3.out.trans (hB.mono L3.out.size))
  clear hB h hD
  refine HC.out.mono ?_
  rintro e wy ⟨rfl, q1, q2⟩
  have X := hid (And.intro q1 q2)
  clear q1 q2 HC
  go_wp2
  go_ret
  exact ⟨_, rfl, X.out.1, HZ.out.trans (X.out.2.mono HZ.out.size)⟩
end Go.Proofs.YtakdokccdkhcoabDoor

/- A row of structs made in a flow, with what stayed. -/
namespace Go.Proofs.YtakdokccdkhcoabDoor
open Go.RowKit Go.Shelf
set_option linter.unusedVariables false
set_option linter.unusedSimpArgs false
set_option maxRecDepth 100000

/-- A slice of structs, made, in a flow. -/
theorem flow_rowsB {P : Program} {o : Oper} {a : Act} {w : World} {Q : Exit → Act → World → Prop} {I : Value → World → Prop} (t e : TypeId) (n sz : Nat) (ps : Array (Nat × Operand)) (ho : o.op = .buildSlice t n ps) (hu : P.underlying t = some (.slice e)) (hi : (P.info? e).map (fun i => (i.zero.isSome, i.size)) = some (true, sz))
    (vs : List (List Value)) (xs : List Operand) (hps : ps.toList = (xs.zipIdx 0).map fun p => (p.2, p.1)) (hx0 : xs.map a.eval = vs.map fun c => Value.agg c.toArray) (hc : ∀ c ∈ vs, c.length = sz) (hn : vs.length = n) (hn0 : 0 < n) (hs0 : 0 < sz) (hn1 : n * sz ≤ 16777216)
    (h : ∀ w', HasC w' w.heap.size e vs.flatten → Below w.heap.size w w' → I (.slice (some ⟨w.heap.size, 0, none⟩) n n) w') : o.wp P a w (fun a' w' => ∃ v, a' = a.put o.dst v ∧ I v w' ∧ Below w.heap.size w w') Q := by
  have hx : (ps.map fun (i, x) => (i, a.eval x)).toList = (vs.zipIdx 0).map fun p => (p.2, Value.agg p.1.toArray) := by
    have e1 : ((xs.map a.eval).zipIdx 0).map (fun p => (p.2, p.1)) = ((vs.map fun c => Value.agg c.toArray).zipIdx 0).map (fun p => (p.2, p.1)) := by rw [hx0]
    rw [List.zipIdx_map, List.zipIdx_map, List.map_map, List.map_map] at e1
    rw [Array.toList_map, hps, List.map_map]
    exact e1
  cases hq : P.info? e with
  | none => rw [hq] at hi; cases hi
  | some ie =>
    rw [hq] at hi
    simp only [Option.map_some, Option.some.injEq, Prod.mk.injEq] at hi
    obtain ⟨z, hz⟩ := Option.isSome_iff_exists.1 hi.1
    refine wp_buildSlice t e n ps ho vs.flatten.toArray ie z hu hq hz (by rw [hi.2]; omega) (by rw [hi.2]; have := Nat.mul_pos hn0 hs0; omega) ?_ ⟨_, rfl, h _ (heap_alloc_new w _) ((Below.refl _ w).alloc (Nat.le_refl _) _), (Below.refl _ w).alloc (Nat.le_refl _) _⟩
    rw [hx, hi.2]
    have hfl := flatten_rows sz vs hc
    have hf := fill_out (fun i => some (i * sz, sz)) ((vs.zipIdx 0).map fun p => (p.2, Value.agg p.1.toArray)) 0 ((Array.range (n * sz)).map (z.cells[· % z.cells.size]!)).toList (by have := partsAt_rows sz vs 0 hc; rw [Nat.zero_mul] at this; exact this) (by rw [outC_rows, hfl, hn]; simp)
    rw [outC_rows, List.take_zero, List.nil_append, Nat.zero_add, List.drop_of_length_le (by rw [hfl, hn]; simp), List.append_nil] at hf
    exact hf
/-- A part of a part. -/
theorem seg2 {ps qs : List (List Value)} {i k : Nat} {c : List Value} {off o2 tot : Nat} (hc : ps[i]? = some qs.flatten) (ho : (ps.take i).flatten.length = off) (hc2 : qs[k]? = some c) (ho2 : (qs.take k).flatten.length = o2) (ht : off + o2 = tot) (j : Nat) (v : Value) (h : c[j]? = some v) : ps.flatten[tot + j]? = some v := by
  have := seg hc ho (o2 + j) v (seg hc2 ho2 j v h)
  rw [← Nat.add_assoc, ht] at this
  exact this
end Go.Proofs.YtakdokccdkhcoabDoor

/- The root of a struct (SignedHeader), by the program. -/
namespace Go.Proofs.YtakdokccdkhcoabDoor
open Go.RowKit Go.Shelf
set_option linter.unusedVariables false
set_option linter.unusedSimpArgs false
set_option maxRecDepth 100000

def shP (zhzs : Nat) (zhzp : Nat) (zhzpa : List Nat) (zhzst : List Nat) (zhzbo : List Nat) (zsg : List Nat) : List (List Value) := [hdC zhzs zhzp zhzpa zhzst zhzbo, cellsB zsg]
def shC (zhzs : Nat) (zhzp : Nat) (zhzpa : List Nat) (zhzst : List Nat) (zhzbo : List Nat) (zsg : List Nat) : List Value := (shP zhzs zhzp zhzpa zhzst zhzbo zsg).flatten
theorem shC_length (zhzs : Nat) (zhzp : Nat) (zhzpa : List Nat) (zhzst : List Nat) (zhzbo : List Nat) (zsg : List Nat) (hzhzpa : zhzpa.length = 32) (hzhzst : zhzst.length = 32) (hzhzbo : zhzbo.length = 32) (hzsg : zsg.length = 32) : (shC zhzs zhzp zhzpa zhzst zhzbo zsg).length = 130 := by simp [shC, shP, cellsB_length, hzhzpa, hzhzst, hzhzbo, hzsg, hdC_length zhzs zhzp zhzpa zhzst zhzbo hzhzpa hzhzst hzhzbo]
def shR (zhzs : Nat) (zhzp : Nat) (zhzpa : List Nat) (zhzst : List Nat) (zhzbo : List Nat) (zsg : List Nat) : List Nat := fullR (depth (([hdR zhzs zhzp zhzpa zhzst zhzbo, zsg] : List (List Nat)).length : Nat)) [hdR zhzs zhzp zhzpa zhzst zhzbo, zsg]
theorem shR_rt (zhzs : Nat) (zhzp : Nat) (zhzpa : List Nat) (zhzst : List Nat) (zhzbo : List Nat) (zsg : List Nat) (hzhzpa : Rt zhzpa) (hzhzst : Rt zhzst) (hzhzbo : Rt zhzbo) (hzsg : Rt zsg) : Rt (shR zhzs zhzp zhzpa zhzst zhzbo zsg) := full_rt _ _ (Rts.more (hdR_rt zhzs zhzp zhzpa zhzst zhzbo hzhzpa hzhzst hzhzbo) (Rts.more hzsg Rts.nil))
set_option maxHeartbeats 2000000 in
theorem shR_any (zhzs : Nat) (zhzp : Nat) (zhzpa : List Nat) (zhzst : List Nat) (zhzbo : List Nat) (zsg : List Nat) (hzhzs : zhzs < 18446744073709551616) (hzhzp : zhzp < 18446744073709551616) (hzhzpa : Rt zhzpa) (hzhzst : Rt zhzst) (hzhzbo : Rt zhzbo) (hzsg : Rt zsg) (w : World) (hT : Tabs w) :
    Calls Tryd.prog 19 #[.agg (shC zhzs zhzp zhzpa zhzst zhzbo zsg).toArray] w fun x w' => x = .returned (.agg (nums .u8 (shR zhzs zhzp zhzpa zhzst zhzbo zsg))) ∧ Below w.heap.size w w' := by
  have hfr := shR_rt zhzs zhzp zhzpa zhzst zhzbo zsg hzhzpa hzhzst hzhzbo hzsg
  obtain ⟨W, HW⟩ : ∃ W, Hid (shR zhzs zhzp zhzpa zhzst zhzbo zsg = W) := ⟨_, hid rfl⟩
  rw [HW.out] at hfr ⊢
  go_enter Tryd.func19, Tryd.ntmps19
  go_wp2_with ((with_reducible refine at_list' ?_); first
    | (refine wpList_box_c rfl 1 rfl (.tmp 0) rfl (shC zhzs zhzp zhzpa zhzst zhzbo zsg) rfl ?_; intro w1 H1 B1 S1)
    | (refine wpList_alloc_has rfl 2 rfl 24 rfl .u8 32 Tryd.zero24 ?_; intro w2 H2 B2 S2; rw [S1] at H2 S2; rw [S1]))
  have HX := hid (H1.keep B2)
  have HY := hid H2
  have HB := hid (B1.trans (B2.mono (by omega)))
  have HT := hid (hT.keep HB.out)
  have s2 : w2.heap.size = w.heap.size + 2 := by omega
  clear H1 B1 S1 H2 B2 S2
  try simp only [Act.put, List.setIfInBounds_toArray, List.set_cons_succ, List.set_cons_zero]
  refine wp_region_flow 7 7 (fun i v wq => match i with
    | 0 => v = .pointer (some ⟨w.heap.size, 0, none⟩)
    | 1 => v = .agg (hdC zhzs zhzp zhzpa zhzst zhzbo).toArray
    | 2 => v = .agg (nums .u8 (hdR zhzs zhzp zhzpa zhzst zhzbo))
    | 3 => v = .pointer (some ⟨w.heap.size, 98, none⟩)
    | 4 => v = .agg (nums .u8 zsg)
    | 5 => ∃ b, v = .slice (some ⟨b, 0, none⟩) 2 2 ∧ RootsAt wq (some ⟨b, 0, none⟩) [hdR zhzs zhzp zhzpa zhzst zhzbo, zsg]
    | _ => v = .agg (nums .u8 W)) (by kernel_rfl) (by kernel_rfl) (fun _ d _ _ _ h => by cases d <;> exact h) ?_ ?_ ?_ ?_
  · intro i v wq wq' hi hv hb
    match i, hi with
    | 0, _ => exact hv
    | 1, _ => exact hv
    | 2, _ => exact hv
    | 3, _ => exact hv
    | 4, _ => exact hv
    | 5, _ => obtain ⟨b, h1, h2⟩ := hv; exact ⟨b, h1, h2.keep hb⟩
    | 6, _ => exact hv
    | (k + 7), hk => exact absurd hk (by omega)
  · intro i o hi ho aq wq hc hk hdep
    match i, hi with
    | 0, _ =>
      cases ho
      have e1 : aq.tmps.getD 1 undef = .pointer (some ⟨w.heap.size, 0, none⟩) := hk 1 (by decide)
      exact flow_value _ (run_fieldAt 28 (.tmp 1) 0 rfl _ _ e1 (by kernel_rfl)) rfl
    | 1, _ =>
      cases ho
      have e0 : aq.tmps.getD 3 undef = .pointer (some ⟨w.heap.size, 0, none⟩) := hdep 0 3 rfl (by kernel_rfl)
      exact flow_value _ (run_mid 26 (.tmp 3) rfl w.heap.size 0 e0 (hdC zhzs zhzp zhzpa zhzst zhzbo) ((HX.out.keep (hcB hc)).range 0 (hdC zhzs zhzp zhzpa zhzst zhzbo) (seg (ps := shP zhzs zhzp zhzpa zhzst zhzbo zsg) (i := 0) (off := 0) rfl (by simp [shP, cellsB_length, hzhzpa.len, hzhzst.len, hzhzbo.len, hzsg.len, hdC_length zhzs zhzp zhzpa zhzst zhzbo hzhzpa.len hzhzst.len hzhzbo.len]))) _ Tryd.underlying26 rfl (by rw [hdC_length zhzs zhzp zhzpa zhzst zhzbo hzhzpa.len hzhzst.len hzhzbo.len]; kernel_rfl)) rfl
    | 2, _ =>
      cases ho
      have e0 : aq.tmps.getD 4 undef = .agg (hdC zhzs zhzp zhzpa zhzst zhzbo).toArray := hdep 1 4 rfl (by kernel_rfl)
      refine flow_fun 13 _ _ rfl (fun _ _ => by simp [go_sem]) #[.agg (hdC zhzs zhzp zhzpa zhzst zhzbo).toArray] (by rw [show (#[Operand.tmp 4] : Array Operand).map aq.eval = #[aq.tmps.getD 4 undef] from by simp [Act.eval], e0]) ?_
      refine (hdR_any zhzs zhzp zhzpa zhzst zhzbo hzhzs hzhzp hzhzpa hzhzst hzhzbo wq (HT.out.keep (hcB hc))).mono ?_
      rintro x w' ⟨rfl, q⟩
      exact ⟨_, rfl, rfl, q⟩
    | 3, _ =>
      cases ho
      have e1 : aq.tmps.getD 1 undef = .pointer (some ⟨w.heap.size, 0, none⟩) := hk 1 (by decide)
      exact flow_value _ (run_fieldAt 28 (.tmp 1) 1 rfl _ _ e1 (by kernel_rfl)) rfl
    | 4, _ =>
      cases ho
      have e0 : aq.tmps.getD 6 undef = .pointer (some ⟨w.heap.size, 98, none⟩) := hdep 3 6 rfl (by kernel_rfl)
      exact flow_value _ (run_mid 24 (.tmp 6) rfl w.heap.size 98 e0 (cellsB zsg) ((HX.out.keep (hcB hc)).range 98 (cellsB zsg) (seg (ps := shP zhzs zhzp zhzpa zhzst zhzbo zsg) (i := 1) (off := 98) rfl (by simp [shP, cellsB_length, hzhzpa.len, hzhzst.len, hzhzbo.len, hzsg.len, hdC_length zhzs zhzp zhzpa zhzst zhzbo hzhzpa.len hzhzst.len hzhzbo.len]))) _ Tryd.und24 rfl (by rw [cellsB_length, hzsg.len]; exact Tryd.size24)) rfl
    | 5, _ =>
      cases ho
      have e0 : aq.tmps.getD 5 undef = .agg (nums .u8 (hdR zhzs zhzp zhzpa zhzst zhzbo)) := hdep 2 5 rfl (by kernel_rfl)
      have e1 : aq.tmps.getD 7 undef = .agg (nums .u8 zsg) := hdep 4 7 rfl (by kernel_rfl)
      exact flow_rows 77 24 2 32 _ rfl Tryd.underlying77 rootInfo6 [cellsB (hdR zhzs zhzp zhzpa zhzst zhzbo), cellsB (zsg)] [.tmp 5, .tmp 7] rfl (by rw [show [Operand.tmp 5, Operand.tmp 7].map aq.eval = [aq.tmps.getD 5 undef, aq.tmps.getD 7 undef] from rfl, e0, e1]; rfl) (by simp [cellsB_length, ((hdR_rt zhzs zhzp zhzpa zhzst zhzbo hzhzpa hzhzst hzhzbo)).len, (hzsg).len]) rfl (by decide) (by decide) (by decide) (fun w' h => ⟨_, rfl, hasC_roots (rs := [hdR zhzs zhzp zhzpa zhzst zhzbo, zsg]) h (Rts.more (hdR_rt zhzs zhzp zhzpa zhzst zhzbo hzhzpa hzhzst hzhzbo) (Rts.more hzsg Rts.nil))⟩)
    | 6, _ =>
      cases ho
      obtain ⟨b, e6, h6⟩ := hdep 5 8 rfl (by kernel_rfl)
      refine flow_fun 18 _ _ rfl (fun _ _ => by simp [go_sem]) #[.slice (some ⟨b, 0, none⟩) 2 2] (by rw [show (#[Operand.tmp 8] : Array Operand).map aq.eval = #[aq.tmps.getD 8 undef] from by simp [Act.eval], e6]) ?_
      refine (cont_any (some ⟨b, 0, none⟩) 2 [hdR zhzs zhzp zhzpa zhzst zhzbo, zsg] wq (HT.out.keep (hcB hc)) (Nat.le_refl _) (by decide) (by show 2 ≤ 1048576; decide) h6).mono ?_
      rintro x w' ⟨rfl, q⟩
      exact ⟨_, rfl, (by rw [← HW.out]; rfl), q⟩
    | (k + 7), hk => exact absurd hk (by omega)
  · intro o h7 ho
    omega
  intro vf w8 hc hv
  have e7 : vf 6 = _ := hv 6 9 (by decide) rfl
  have B8 := HB.out.trans ((hcB hc).mono (by omega))
  have H8v := HY.out.keep (hcB hc)
  have s8 := (hcB hc).size
  clear hv hc
  simp only [List.take_succ_cons, List.take_zero, List.drop_succ_cons, List.drop_zero, putAll, Act.put, List.setIfInBounds_toArray, List.set_cons_succ, List.set_cons_zero]
  rw [e7]
  have HB8 := hid B8
  clear B8 e7 HB
  go_wp2_with ((with_reducible refine at_list' ?_); first
    | (refine wpList_store_has rfl 24 (.tmp 2) (.tmp 9) rfl (w.heap.size + 1) .u8 W (zeros 32) rfl rfl 24 H8v (hfr.size _ Tryd.size24) (by rw [hfr.len, zeros_length]) ?_; intro w9 H9 O9))
  refine bodyPost_ret (results_has rfl _ _ (w.heap.size + 1) 24 .u8 W _ _ rfl H9 Tryd.und24 (hfr.size _ Tryd.size24)) rfl ?_
  exact ⟨rfl, below_only HB8.out O9 (by omega)⟩
end Go.Proofs.YtakdokccdkhcoabDoor

/- The root of a struct (ProposerSlashing), by the program. -/
namespace Go.Proofs.YtakdokccdkhcoabDoor
open Go.RowKit Go.Shelf
set_option linter.unusedVariables false
set_option linter.unusedSimpArgs false
set_option maxRecDepth 100000

def psP (zazhzs : Nat) (zazhzp : Nat) (zazhzpa : List Nat) (zazhzst : List Nat) (zazhzbo : List Nat) (zazsg : List Nat) (zzzhzs : Nat) (zzzhzp : Nat) (zzzhzpa : List Nat) (zzzhzst : List Nat) (zzzhzbo : List Nat) (zzzsg : List Nat) : List (List Value) := [shC zazhzs zazhzp zazhzpa zazhzst zazhzbo zazsg, shC zzzhzs zzzhzp zzzhzpa zzzhzst zzzhzbo zzzsg]
def psC (zazhzs : Nat) (zazhzp : Nat) (zazhzpa : List Nat) (zazhzst : List Nat) (zazhzbo : List Nat) (zazsg : List Nat) (zzzhzs : Nat) (zzzhzp : Nat) (zzzhzpa : List Nat) (zzzhzst : List Nat) (zzzhzbo : List Nat) (zzzsg : List Nat) : List Value := (psP zazhzs zazhzp zazhzpa zazhzst zazhzbo zazsg zzzhzs zzzhzp zzzhzpa zzzhzst zzzhzbo zzzsg).flatten
theorem psC_length (zazhzs : Nat) (zazhzp : Nat) (zazhzpa : List Nat) (zazhzst : List Nat) (zazhzbo : List Nat) (zazsg : List Nat) (zzzhzs : Nat) (zzzhzp : Nat) (zzzhzpa : List Nat) (zzzhzst : List Nat) (zzzhzbo : List Nat) (zzzsg : List Nat) (hzazhzpa : zazhzpa.length = 32) (hzazhzst : zazhzst.length = 32) (hzazhzbo : zazhzbo.length = 32) (hzazsg : zazsg.length = 32) (hzzzhzpa : zzzhzpa.length = 32) (hzzzhzst : zzzhzst.length = 32) (hzzzhzbo : zzzhzbo.length = 32) (hzzzsg : zzzsg.length = 32) : (psC zazhzs zazhzp zazhzpa zazhzst zazhzbo zazsg zzzhzs zzzhzp zzzhzpa zzzhzst zzzhzbo zzzsg).length = 260 := by simp [psC, psP, cellsB_length, hzazhzpa, hzazhzst, hzazhzbo, hzazsg, hzzzhzpa, hzzzhzst, hzzzhzbo, hzzzsg, shC_length zazhzs zazhzp zazhzpa zazhzst zazhzbo zazsg hzazhzpa hzazhzst hzazhzbo hzazsg, shC_length zzzhzs zzzhzp zzzhzpa zzzhzst zzzhzbo zzzsg hzzzhzpa hzzzhzst hzzzhzbo hzzzsg]
def psR (zazhzs : Nat) (zazhzp : Nat) (zazhzpa : List Nat) (zazhzst : List Nat) (zazhzbo : List Nat) (zazsg : List Nat) (zzzhzs : Nat) (zzzhzp : Nat) (zzzhzpa : List Nat) (zzzhzst : List Nat) (zzzhzbo : List Nat) (zzzsg : List Nat) : List Nat := fullR (depth (([shR zazhzs zazhzp zazhzpa zazhzst zazhzbo zazsg, shR zzzhzs zzzhzp zzzhzpa zzzhzst zzzhzbo zzzsg] : List (List Nat)).length : Nat)) [shR zazhzs zazhzp zazhzpa zazhzst zazhzbo zazsg, shR zzzhzs zzzhzp zzzhzpa zzzhzst zzzhzbo zzzsg]
theorem psR_rt (zazhzs : Nat) (zazhzp : Nat) (zazhzpa : List Nat) (zazhzst : List Nat) (zazhzbo : List Nat) (zazsg : List Nat) (zzzhzs : Nat) (zzzhzp : Nat) (zzzhzpa : List Nat) (zzzhzst : List Nat) (zzzhzbo : List Nat) (zzzsg : List Nat) (hzazhzpa : Rt zazhzpa) (hzazhzst : Rt zazhzst) (hzazhzbo : Rt zazhzbo) (hzazsg : Rt zazsg) (hzzzhzpa : Rt zzzhzpa) (hzzzhzst : Rt zzzhzst) (hzzzhzbo : Rt zzzhzbo) (hzzzsg : Rt zzzsg) : Rt (psR zazhzs zazhzp zazhzpa zazhzst zazhzbo zazsg zzzhzs zzzhzp zzzhzpa zzzhzst zzzhzbo zzzsg) := full_rt _ _ (Rts.more (shR_rt zazhzs zazhzp zazhzpa zazhzst zazhzbo zazsg hzazhzpa hzazhzst hzazhzbo hzazsg) (Rts.more (shR_rt zzzhzs zzzhzp zzzhzpa zzzhzst zzzhzbo zzzsg hzzzhzpa hzzzhzst hzzzhzbo hzzzsg) Rts.nil))
set_option maxHeartbeats 2000000 in
theorem psR_any (zazhzs : Nat) (zazhzp : Nat) (zazhzpa : List Nat) (zazhzst : List Nat) (zazhzbo : List Nat) (zazsg : List Nat) (zzzhzs : Nat) (zzzhzp : Nat) (zzzhzpa : List Nat) (zzzhzst : List Nat) (zzzhzbo : List Nat) (zzzsg : List Nat) (hzazhzs : zazhzs < 18446744073709551616) (hzazhzp : zazhzp < 18446744073709551616) (hzazhzpa : Rt zazhzpa) (hzazhzst : Rt zazhzst) (hzazhzbo : Rt zazhzbo) (hzazsg : Rt zazsg) (hzzzhzs : zzzhzs < 18446744073709551616) (hzzzhzp : zzzhzp < 18446744073709551616) (hzzzhzpa : Rt zzzhzpa) (hzzzhzst : Rt zzzhzst) (hzzzhzbo : Rt zzzhzbo) (hzzzsg : Rt zzzsg) (w : World) (hT : Tabs w) :
    Calls Tryd.prog 6 #[.agg (psC zazhzs zazhzp zazhzpa zazhzst zazhzbo zazsg zzzhzs zzzhzp zzzhzpa zzzhzst zzzhzbo zzzsg).toArray] w fun x w' => x = .returned (.agg (nums .u8 (psR zazhzs zazhzp zazhzpa zazhzst zazhzbo zazsg zzzhzs zzzhzp zzzhzpa zzzhzst zzzhzbo zzzsg))) ∧ Below w.heap.size w w' := by
  have hfr := psR_rt zazhzs zazhzp zazhzpa zazhzst zazhzbo zazsg zzzhzs zzzhzp zzzhzpa zzzhzst zzzhzbo zzzsg hzazhzpa hzazhzst hzazhzbo hzazsg hzzzhzpa hzzzhzst hzzzhzbo hzzzsg
  obtain ⟨W, HW⟩ : ∃ W, Hid (psR zazhzs zazhzp zazhzpa zazhzst zazhzbo zazsg zzzhzs zzzhzp zzzhzpa zzzhzst zzzhzbo zzzsg = W) := ⟨_, hid rfl⟩
  rw [HW.out] at hfr ⊢
  go_enter Tryd.func6, Tryd.ntmps6
  go_wp2_with ((with_reducible refine at_list' ?_); first
    | (refine wpList_box_c rfl 1 rfl (.tmp 0) rfl (psC zazhzs zazhzp zazhzpa zazhzst zazhzbo zazsg zzzhzs zzzhzp zzzhzpa zzzhzst zzzhzbo zzzsg) rfl ?_; intro w1 H1 B1 S1)
    | (refine wpList_alloc_has rfl 2 rfl 24 rfl .u8 32 Tryd.zero24 ?_; intro w2 H2 B2 S2; rw [S1] at H2 S2; rw [S1]))
  have HX := hid (H1.keep B2)
  have HY := hid H2
  have HB := hid (B1.trans (B2.mono (by omega)))
  have HT := hid (hT.keep HB.out)
  have s2 : w2.heap.size = w.heap.size + 2 := by omega
  clear H1 B1 S1 H2 B2 S2
  try simp only [Act.put, List.setIfInBounds_toArray, List.set_cons_succ, List.set_cons_zero]
  refine wp_region_flow 8 8 (fun i v wq => match i with
    | 0 => v = .pointer (some ⟨w.heap.size, 0, none⟩)
    | 1 => v = .agg (shC zazhzs zazhzp zazhzpa zazhzst zazhzbo zazsg).toArray
    | 2 => v = .agg (nums .u8 (shR zazhzs zazhzp zazhzpa zazhzst zazhzbo zazsg))
    | 3 => v = .pointer (some ⟨w.heap.size, 130, none⟩)
    | 4 => v = .agg (shC zzzhzs zzzhzp zzzhzpa zzzhzst zzzhzbo zzzsg).toArray
    | 5 => v = .agg (nums .u8 (shR zzzhzs zzzhzp zzzhzpa zzzhzst zzzhzbo zzzsg))
    | 6 => ∃ b, v = .slice (some ⟨b, 0, none⟩) 2 2 ∧ RootsAt wq (some ⟨b, 0, none⟩) [shR zazhzs zazhzp zazhzpa zazhzst zazhzbo zazsg, shR zzzhzs zzzhzp zzzhzpa zzzhzst zzzhzbo zzzsg]
    | _ => v = .agg (nums .u8 W)) (by kernel_rfl) (by kernel_rfl) (fun _ d _ _ _ h => by cases d <;> exact h) ?_ ?_ ?_ ?_
  · intro i v wq wq' hi hv hb
    match i, hi with
    | 0, _ => exact hv
    | 1, _ => exact hv
    | 2, _ => exact hv
    | 3, _ => exact hv
    | 4, _ => exact hv
    | 5, _ => exact hv
    | 6, _ => obtain ⟨b, h1, h2⟩ := hv; exact ⟨b, h1, h2.keep hb⟩
    | 7, _ => exact hv
    | (k + 8), hk => exact absurd hk (by omega)
  · intro i o hi ho aq wq hc hk hdep
    match i, hi with
    | 0, _ =>
      cases ho
      have e1 : aq.tmps.getD 1 undef = .pointer (some ⟨w.heap.size, 0, none⟩) := hk 1 (by decide)
      exact flow_value _ (run_fieldAt 30 (.tmp 1) 0 rfl _ _ e1 (by kernel_rfl)) rfl
    | 1, _ =>
      cases ho
      have e0 : aq.tmps.getD 3 undef = .pointer (some ⟨w.heap.size, 0, none⟩) := hdep 0 3 rfl (by kernel_rfl)
      exact flow_value _ (run_mid 28 (.tmp 3) rfl w.heap.size 0 e0 (shC zazhzs zazhzp zazhzpa zazhzst zazhzbo zazsg) ((HX.out.keep (hcB hc)).range 0 (shC zazhzs zazhzp zazhzpa zazhzst zazhzbo zazsg) (seg (ps := psP zazhzs zazhzp zazhzpa zazhzst zazhzbo zazsg zzzhzs zzzhzp zzzhzpa zzzhzst zzzhzbo zzzsg) (i := 0) (off := 0) rfl (by simp [psP, cellsB_length, hzazhzpa.len, hzazhzst.len, hzazhzbo.len, hzazsg.len, hzzzhzpa.len, hzzzhzst.len, hzzzhzbo.len, hzzzsg.len, shC_length zazhzs zazhzp zazhzpa zazhzst zazhzbo zazsg hzazhzpa.len hzazhzst.len hzazhzbo.len hzazsg.len, shC_length zzzhzs zzzhzp zzzhzpa zzzhzst zzzhzbo zzzsg hzzzhzpa.len hzzzhzst.len hzzzhzbo.len hzzzsg.len]))) _ Tryd.underlying28 rfl (by rw [shC_length zazhzs zazhzp zazhzpa zazhzst zazhzbo zazsg hzazhzpa.len hzazhzst.len hzazhzbo.len hzazsg.len]; kernel_rfl)) rfl
    | 2, _ =>
      cases ho
      have e0 : aq.tmps.getD 4 undef = .agg (shC zazhzs zazhzp zazhzpa zazhzst zazhzbo zazsg).toArray := hdep 1 4 rfl (by kernel_rfl)
      refine flow_fun 19 _ _ rfl (fun _ _ => by simp [go_sem]) #[.agg (shC zazhzs zazhzp zazhzpa zazhzst zazhzbo zazsg).toArray] (by rw [show (#[Operand.tmp 4] : Array Operand).map aq.eval = #[aq.tmps.getD 4 undef] from by simp [Act.eval], e0]) ?_
      refine (shR_any zazhzs zazhzp zazhzpa zazhzst zazhzbo zazsg hzazhzs hzazhzp hzazhzpa hzazhzst hzazhzbo hzazsg wq (HT.out.keep (hcB hc))).mono ?_
      rintro x w' ⟨rfl, q⟩
      exact ⟨_, rfl, rfl, q⟩
    | 3, _ =>
      cases ho
      have e1 : aq.tmps.getD 1 undef = .pointer (some ⟨w.heap.size, 0, none⟩) := hk 1 (by decide)
      exact flow_value _ (run_fieldAt 30 (.tmp 1) 1 rfl _ _ e1 (by kernel_rfl)) rfl
    | 4, _ =>
      cases ho
      have e0 : aq.tmps.getD 6 undef = .pointer (some ⟨w.heap.size, 130, none⟩) := hdep 3 6 rfl (by kernel_rfl)
      exact flow_value _ (run_mid 28 (.tmp 6) rfl w.heap.size 130 e0 (shC zzzhzs zzzhzp zzzhzpa zzzhzst zzzhzbo zzzsg) ((HX.out.keep (hcB hc)).range 130 (shC zzzhzs zzzhzp zzzhzpa zzzhzst zzzhzbo zzzsg) (seg (ps := psP zazhzs zazhzp zazhzpa zazhzst zazhzbo zazsg zzzhzs zzzhzp zzzhzpa zzzhzst zzzhzbo zzzsg) (i := 1) (off := 130) rfl (by simp [psP, cellsB_length, hzazhzpa.len, hzazhzst.len, hzazhzbo.len, hzazsg.len, hzzzhzpa.len, hzzzhzst.len, hzzzhzbo.len, hzzzsg.len, shC_length zazhzs zazhzp zazhzpa zazhzst zazhzbo zazsg hzazhzpa.len hzazhzst.len hzazhzbo.len hzazsg.len, shC_length zzzhzs zzzhzp zzzhzpa zzzhzst zzzhzbo zzzsg hzzzhzpa.len hzzzhzst.len hzzzhzbo.len hzzzsg.len]))) _ Tryd.underlying28 rfl (by rw [shC_length zzzhzs zzzhzp zzzhzpa zzzhzst zzzhzbo zzzsg hzzzhzpa.len hzzzhzst.len hzzzhzbo.len hzzzsg.len]; kernel_rfl)) rfl
    | 5, _ =>
      cases ho
      have e0 : aq.tmps.getD 7 undef = .agg (shC zzzhzs zzzhzp zzzhzpa zzzhzst zzzhzbo zzzsg).toArray := hdep 4 7 rfl (by kernel_rfl)
      refine flow_fun 19 _ _ rfl (fun _ _ => by simp [go_sem]) #[.agg (shC zzzhzs zzzhzp zzzhzpa zzzhzst zzzhzbo zzzsg).toArray] (by rw [show (#[Operand.tmp 7] : Array Operand).map aq.eval = #[aq.tmps.getD 7 undef] from by simp [Act.eval], e0]) ?_
      refine (shR_any zzzhzs zzzhzp zzzhzpa zzzhzst zzzhzbo zzzsg hzzzhzs hzzzhzp hzzzhzpa hzzzhzst hzzzhzbo hzzzsg wq (HT.out.keep (hcB hc))).mono ?_
      rintro x w' ⟨rfl, q⟩
      exact ⟨_, rfl, rfl, q⟩
    | 6, _ =>
      cases ho
      have e0 : aq.tmps.getD 5 undef = .agg (nums .u8 (shR zazhzs zazhzp zazhzpa zazhzst zazhzbo zazsg)) := hdep 2 5 rfl (by kernel_rfl)
      have e1 : aq.tmps.getD 8 undef = .agg (nums .u8 (shR zzzhzs zzzhzp zzzhzpa zzzhzst zzzhzbo zzzsg)) := hdep 5 8 rfl (by kernel_rfl)
      exact flow_rows 77 24 2 32 _ rfl Tryd.underlying77 rootInfo6 [cellsB (shR zazhzs zazhzp zazhzpa zazhzst zazhzbo zazsg), cellsB (shR zzzhzs zzzhzp zzzhzpa zzzhzst zzzhzbo zzzsg)] [.tmp 5, .tmp 8] rfl (by rw [show [Operand.tmp 5, Operand.tmp 8].map aq.eval = [aq.tmps.getD 5 undef, aq.tmps.getD 8 undef] from rfl, e0, e1]; rfl) (by simp [cellsB_length, ((shR_rt zazhzs zazhzp zazhzpa zazhzst zazhzbo zazsg hzazhzpa hzazhzst hzazhzbo hzazsg)).len, ((shR_rt zzzhzs zzzhzp zzzhzpa zzzhzst zzzhzbo zzzsg hzzzhzpa hzzzhzst hzzzhzbo hzzzsg)).len]) rfl (by decide) (by decide) (by decide) (fun w' h => ⟨_, rfl, hasC_roots (rs := [shR zazhzs zazhzp zazhzpa zazhzst zazhzbo zazsg, shR zzzhzs zzzhzp zzzhzpa zzzhzst zzzhzbo zzzsg]) h (Rts.more (shR_rt zazhzs zazhzp zazhzpa zazhzst zazhzbo zazsg hzazhzpa hzazhzst hzazhzbo hzazsg) (Rts.more (shR_rt zzzhzs zzzhzp zzzhzpa zzzhzst zzzhzbo zzzsg hzzzhzpa hzzzhzst hzzzhzbo hzzzsg) Rts.nil))⟩)
    | 7, _ =>
      cases ho
      obtain ⟨b, e6, h6⟩ := hdep 6 9 rfl (by kernel_rfl)
      refine flow_fun 18 _ _ rfl (fun _ _ => by simp [go_sem]) #[.slice (some ⟨b, 0, none⟩) 2 2] (by rw [show (#[Operand.tmp 9] : Array Operand).map aq.eval = #[aq.tmps.getD 9 undef] from by simp [Act.eval], e6]) ?_
      refine (cont_any (some ⟨b, 0, none⟩) 2 [shR zazhzs zazhzp zazhzpa zazhzst zazhzbo zazsg, shR zzzhzs zzzhzp zzzhzpa zzzhzst zzzhzbo zzzsg] wq (HT.out.keep (hcB hc)) (Nat.le_refl _) (by decide) (by show 2 ≤ 1048576; decide) h6).mono ?_
      rintro x w' ⟨rfl, q⟩
      exact ⟨_, rfl, (by rw [← HW.out]; rfl), q⟩
    | (k + 8), hk => exact absurd hk (by omega)
  · intro o h8 ho
    omega
  intro vf w8 hc hv
  have e7 : vf 7 = _ := hv 7 10 (by decide) rfl
  have B8 := HB.out.trans ((hcB hc).mono (by omega))
  have H8v := HY.out.keep (hcB hc)
  have s8 := (hcB hc).size
  clear hv hc
  simp only [List.take_succ_cons, List.take_zero, List.drop_succ_cons, List.drop_zero, putAll, Act.put, List.setIfInBounds_toArray, List.set_cons_succ, List.set_cons_zero]
  rw [e7]
  have HB8 := hid B8
  clear B8 e7 HB
  go_wp2_with ((with_reducible refine at_list' ?_); first
    | (refine wpList_store_has rfl 24 (.tmp 2) (.tmp 10) rfl (w.heap.size + 1) .u8 W (zeros 32) rfl rfl 24 H8v (hfr.size _ Tryd.size24) (by rw [hfr.len, zeros_length]) ?_; intro w9 H9 O9))
  refine bodyPost_ret (results_has rfl _ _ (w.heap.size + 1) 24 .u8 W _ _ rfl H9 Tryd.und24 (hfr.size _ Tryd.size24)) rfl ?_
  exact ⟨rfl, below_only HB8.out O9 (by omega)⟩
end Go.Proofs.YtakdokccdkhcoabDoor

/- The document's value of a struct (Header). -/
namespace Go.Proofs.YtakdokccdkhcoabDoor
open Go.RowKit Go.Shelf
set_option linter.unusedVariables false
set_option linter.unusedSimpArgs false
set_option maxRecDepth 100000

def hdV (zs : Nat) (zp : Nat) (zpa : List Nat) (zst : List Nat) (zbo : List Nat) : Vt := .mk 0 (zeros 32) [] [.mk zs (zeros 32) [] [], .mk zp (zeros 32) [] [], .mk 0 zpa [] [], .mk 0 zst [] [], .mk 0 zbo [] []]
theorem hdV_wide (zs : Nat) (zp : Nat) (zpa : List Nat) (zst : List Nat) (zbo : List Nat) : wide (hdV zs zp zpa zst zbo) := by simp [hdV, wide, wideK]
set_option maxHeartbeats 2000000 in
theorem hdV_any (zs : Nat) (zp : Nat) (zpa : List Nat) (zst : List Nat) (zbo : List Nat) (hzs : zs < 18446744073709551616) (hzp : zp < 18446744073709551616) (hzpa : Rt zpa) (hzst : Rt zst) (hzbo : Rt zbo) (w : World) : Calls Tryd.prog 31 #[.agg (hdC zs zp zpa zst zbo).toArray] w fun x w' => ∃ v, x = .returned v ∧ IsV w' v (hdV zs zp zpa zst zbo) ∧ Below w.heap.size w w' := by
  go_enter Tryd.func31, Tryd.ntmps31
  go_wp2_with ((with_reducible refine at_list' ?_); first
    | (refine wpList_box_c rfl 1 rfl (.tmp 0) rfl (hdC zs zp zpa zst zbo) rfl ?_; intro w1 H1 B1 S1)
    | (refine wpList_alloc_c Tryd.ty39 rfl 2 rfl rfl ?_; intro w2 H2 B2 S2; rw [S1] at H2 S2; rw [S1]))
  have HX := hid (H1.keep B2)
  have HY := hid H2
  have HB := hid (B1.trans (B2.mono (by omega)))
  have s2 : w2.heap.size = w.heap.size + 2 := by omega
  clear H1 B1 S1 H2 B2 S2
  try simp only [Act.put, List.setIfInBounds_toArray, List.set_cons_succ, List.set_cons_zero]
  refine wp_region_flow 17 17 (fun i v wq => match i with
    | 0 => v = .pointer (some ⟨w.heap.size, 0, none⟩)
    | 1 => v = .int .u64 (zs : Nat)
    | 2 => IsV wq v (.mk zs (zeros 32) [] [])
    | 3 => v = .pointer (some ⟨w.heap.size, 1, none⟩)
    | 4 => v = .int .u64 (zp : Nat)
    | 5 => IsV wq v (.mk zp (zeros 32) [] [])
    | 6 => v = .pointer (some ⟨w.heap.size, 2, none⟩)
    | 7 => v = .agg (nums .u8 zpa)
    | 8 => IsV wq v (.mk 0 zpa [] [])
    | 9 => v = .pointer (some ⟨w.heap.size, 34, none⟩)
    | 10 => v = .agg (nums .u8 zst)
    | 11 => IsV wq v (.mk 0 zst [] [])
    | 12 => v = .pointer (some ⟨w.heap.size, 66, none⟩)
    | 13 => v = .agg (nums .u8 zbo)
    | 14 => IsV wq v (.mk 0 zbo [] [])
    | 15 => ∃ b, v = .slice (some ⟨b, 0, none⟩) 5 5 ∧ KsAt wq [.mk zs (zeros 32) [] [], .mk zp (zeros 32) [] [], .mk 0 zpa [] [], .mk 0 zst [] [], .mk 0 zbo [] []] b 0
    | _ => ∃ b, v = .agg (valL 0 (zeros 32) nilS (.slice (some ⟨b, 0, none⟩) 5 5)).toArray ∧ KsAt wq [.mk zs (zeros 32) [] [], .mk zp (zeros 32) [] [], .mk 0 zpa [] [], .mk 0 zst [] [], .mk 0 zbo [] []] b 0) (by kernel_rfl) (by kernel_rfl) (fun _ d _ _ _ h => by cases d <;> exact h) ?_ ?_ ?_ ?_
  · intro i v wq wq' hi hv hb
    match i, hi with
    | 0, _ => exact hv
    | 1, _ => exact hv
    | 2, _ => exact hv.keep hb
    | 3, _ => exact hv
    | 4, _ => exact hv
    | 5, _ => exact hv.keep hb
    | 6, _ => exact hv
    | 7, _ => exact hv
    | 8, _ => exact hv.keep hb
    | 9, _ => exact hv
    | 10, _ => exact hv
    | 11, _ => exact hv.keep hb
    | 12, _ => exact hv
    | 13, _ => exact hv
    | 14, _ => exact hv.keep hb
    | 15, _ => obtain ⟨b, h1, h2⟩ := hv; exact ⟨b, h1, KsAt.keep hb _ h2⟩
    | 16, _ => obtain ⟨b, h1, h2⟩ := hv; exact ⟨b, h1, KsAt.keep hb _ h2⟩
    | (k + 17), hk => exact absurd hk (by omega)
  · intro i o hi ho aq wq hc hk hdep
    match i, hi with
    | 0, _ =>
      cases ho
      have e1 : aq.tmps.getD 1 undef = .pointer (some ⟨w.heap.size, 0, none⟩) := hk 1 (by decide)
      exact flow_value _ (run_fieldAt 26 (.tmp 1) 0 rfl _ _ e1 (by kernel_rfl)) rfl
    | 1, _ =>
      cases ho
      have e0 : aq.tmps.getD 3 undef = .pointer (some ⟨w.heap.size, 0, none⟩) := hdep 0 3 rfl (by kernel_rfl)
      exact flow_value _ (run_cell 22 (.tmp 3) rfl _ e0 _ ((HX.out.keep (hcB hc)).cell (seg (ps := hdP zs zp zpa zst zbo) (i := 0) (off := 0) rfl (by simp [hdP, cellsB_length, hzpa.len, hzst.len, hzbo.len]) 0 _ rfl)) _ Tryd.underlying22 rfl) rfl
    | 2, _ =>
      cases ho
      have e0 : aq.tmps.getD 4 undef = .int .u64 (zs : Nat) := hdep 1 4 rfl (by kernel_rfl)
      refine flow_fun 46 _ _ rfl (fun _ _ => by simp [go_sem]) #[.int .u64 (zs : Nat)] (by rw [show (#[Operand.tmp 4] : Array Operand).map aq.eval = #[aq.tmps.getD 4 undef] from by simp [Act.eval], e0]) ?_
      refine (n_any zs wq).mono ?_
      rintro x w' ⟨rfl, q⟩
      exact ⟨_, rfl, IsV.leaf w' hzs zeros32 (zeros_byte 32), q⟩
    | 3, _ =>
      cases ho
      have e1 : aq.tmps.getD 1 undef = .pointer (some ⟨w.heap.size, 0, none⟩) := hk 1 (by decide)
      exact flow_value _ (run_fieldAt 26 (.tmp 1) 1 rfl _ _ e1 (by kernel_rfl)) rfl
    | 4, _ =>
      cases ho
      have e0 : aq.tmps.getD 6 undef = .pointer (some ⟨w.heap.size, 1, none⟩) := hdep 3 6 rfl (by kernel_rfl)
      exact flow_value _ (run_cell 22 (.tmp 6) rfl _ e0 _ ((HX.out.keep (hcB hc)).cell (seg (ps := hdP zs zp zpa zst zbo) (i := 1) (off := 1) rfl (by simp [hdP, cellsB_length, hzpa.len, hzst.len, hzbo.len]) 0 _ rfl)) _ Tryd.underlying22 rfl) rfl
    | 5, _ =>
      cases ho
      have e0 : aq.tmps.getD 7 undef = .int .u64 (zp : Nat) := hdep 4 7 rfl (by kernel_rfl)
      refine flow_fun 46 _ _ rfl (fun _ _ => by simp [go_sem]) #[.int .u64 (zp : Nat)] (by rw [show (#[Operand.tmp 7] : Array Operand).map aq.eval = #[aq.tmps.getD 7 undef] from by simp [Act.eval], e0]) ?_
      refine (n_any zp wq).mono ?_
      rintro x w' ⟨rfl, q⟩
      exact ⟨_, rfl, IsV.leaf w' hzp zeros32 (zeros_byte 32), q⟩
    | 6, _ =>
      cases ho
      have e1 : aq.tmps.getD 1 undef = .pointer (some ⟨w.heap.size, 0, none⟩) := hk 1 (by decide)
      exact flow_value _ (run_fieldAt 26 (.tmp 1) 2 rfl _ _ e1 (by kernel_rfl)) rfl
    | 7, _ =>
      cases ho
      have e0 : aq.tmps.getD 9 undef = .pointer (some ⟨w.heap.size, 2, none⟩) := hdep 6 9 rfl (by kernel_rfl)
      exact flow_value _ (run_mid 24 (.tmp 9) rfl w.heap.size 2 e0 (cellsB zpa) ((HX.out.keep (hcB hc)).range 2 (cellsB zpa) (seg (ps := hdP zs zp zpa zst zbo) (i := 2) (off := 2) rfl (by simp [hdP, cellsB_length, hzpa.len, hzst.len, hzbo.len]))) _ Tryd.und24 rfl (by rw [cellsB_length, hzpa.len]; exact Tryd.size24)) rfl
    | 8, _ =>
      cases ho
      have e0 : aq.tmps.getD 10 undef = .agg (nums .u8 zpa) := hdep 7 10 rfl (by kernel_rfl)
      refine flow_fun 32 _ _ rfl (fun _ _ => by simp [go_sem]) #[.agg (nums .u8 zpa)] (by rw [show (#[Operand.tmp 10] : Array Operand).map aq.eval = #[aq.tmps.getD 10 undef] from by simp [Act.eval], e0]) ?_
      refine (r_any zpa hzpa.len wq).mono ?_
      rintro x w' ⟨rfl, q⟩
      exact ⟨_, rfl, IsV.leaf w' (by decide) hzpa.len hzpa.byte, q⟩
    | 9, _ =>
      cases ho
      have e1 : aq.tmps.getD 1 undef = .pointer (some ⟨w.heap.size, 0, none⟩) := hk 1 (by decide)
      exact flow_value _ (run_fieldAt 26 (.tmp 1) 3 rfl _ _ e1 (by kernel_rfl)) rfl
    | 10, _ =>
      cases ho
      have e0 : aq.tmps.getD 12 undef = .pointer (some ⟨w.heap.size, 34, none⟩) := hdep 9 12 rfl (by kernel_rfl)
      exact flow_value _ (run_mid 24 (.tmp 12) rfl w.heap.size 34 e0 (cellsB zst) ((HX.out.keep (hcB hc)).range 34 (cellsB zst) (seg (ps := hdP zs zp zpa zst zbo) (i := 3) (off := 34) rfl (by simp [hdP, cellsB_length, hzpa.len, hzst.len, hzbo.len]))) _ Tryd.und24 rfl (by rw [cellsB_length, hzst.len]; exact Tryd.size24)) rfl
    | 11, _ =>
      cases ho
      have e0 : aq.tmps.getD 13 undef = .agg (nums .u8 zst) := hdep 10 13 rfl (by kernel_rfl)
      refine flow_fun 32 _ _ rfl (fun _ _ => by simp [go_sem]) #[.agg (nums .u8 zst)] (by rw [show (#[Operand.tmp 13] : Array Operand).map aq.eval = #[aq.tmps.getD 13 undef] from by simp [Act.eval], e0]) ?_
      refine (r_any zst hzst.len wq).mono ?_
      rintro x w' ⟨rfl, q⟩
      exact ⟨_, rfl, IsV.leaf w' (by decide) hzst.len hzst.byte, q⟩
    | 12, _ =>
      cases ho
      have e1 : aq.tmps.getD 1 undef = .pointer (some ⟨w.heap.size, 0, none⟩) := hk 1 (by decide)
      exact flow_value _ (run_fieldAt 26 (.tmp 1) 4 rfl _ _ e1 (by kernel_rfl)) rfl
    | 13, _ =>
      cases ho
      have e0 : aq.tmps.getD 15 undef = .pointer (some ⟨w.heap.size, 66, none⟩) := hdep 12 15 rfl (by kernel_rfl)
      exact flow_value _ (run_mid 24 (.tmp 15) rfl w.heap.size 66 e0 (cellsB zbo) ((HX.out.keep (hcB hc)).range 66 (cellsB zbo) (seg (ps := hdP zs zp zpa zst zbo) (i := 4) (off := 66) rfl (by simp [hdP, cellsB_length, hzpa.len, hzst.len, hzbo.len]))) _ Tryd.und24 rfl (by rw [cellsB_length, hzbo.len]; exact Tryd.size24)) rfl
    | 14, _ =>
      cases ho
      have e0 : aq.tmps.getD 16 undef = .agg (nums .u8 zbo) := hdep 13 16 rfl (by kernel_rfl)
      refine flow_fun 32 _ _ rfl (fun _ _ => by simp [go_sem]) #[.agg (nums .u8 zbo)] (by rw [show (#[Operand.tmp 16] : Array Operand).map aq.eval = #[aq.tmps.getD 16 undef] from by simp [Act.eval], e0]) ?_
      refine (r_any zbo hzbo.len wq).mono ?_
      rintro x w' ⟨rfl, q⟩
      exact ⟨_, rfl, IsV.leaf w' (by decide) hzbo.len hzbo.byte, q⟩
    | 15, _ =>
      cases ho
      obtain ⟨sb0, sk0, e0, h0_⟩ := hdep 2 5 rfl (by kernel_rfl)
      obtain ⟨sb1, sk1, e1, h1_⟩ := hdep 5 8 rfl (by kernel_rfl)
      obtain ⟨sb2, sk2, e2, h2_⟩ := hdep 8 11 rfl (by kernel_rfl)
      obtain ⟨sb3, sk3, e3, h3_⟩ := hdep 11 14 rfl (by kernel_rfl)
      obtain ⟨sb4, sk4, e4, h4_⟩ := hdep 14 17 rfl (by kernel_rfl)
      refine flow_rowsB 37 39 5 35 _ rfl Tryd.underlying37 valInfo [valL zs (zeros 32) sb0 sk0, valL zp (zeros 32) sb1 sk1, valL 0 zpa sb2 sk2, valL 0 zst sb3 sk3, valL 0 zbo sb4 sk4] [.tmp 5, .tmp 8, .tmp 11, .tmp 14, .tmp 17] rfl (by rw [show [Operand.tmp 5, Operand.tmp 8, Operand.tmp 11, Operand.tmp 14, Operand.tmp 17].map aq.eval = [aq.tmps.getD 5 undef, aq.tmps.getD 8 undef, aq.tmps.getD 11 undef, aq.tmps.getD 14 undef, aq.tmps.getD 17 undef] from rfl, e0, e1, e2, e3, e4]; rfl) (by simp [valL_length, zeros32, hzpa.len, hzst.len, hzbo.len]) rfl (by decide) (by decide) (by decide) (fun w' h hb => ⟨_, rfl, ksAt_of h [(.mk zs (zeros 32) [] [], sb0, sk0), (.mk zp (zeros 32) [] [], sb1, sk1), (.mk 0 zpa [] [], sb2, sk2), (.mk 0 zst [] [], sb3, sk3), (.mk 0 zbo [] [], sb4, sk4)] 0 (fun j v hj => by rw [Nat.zero_add]; exact hj) (fun x hx => ?_)⟩)
      simp only [List.mem_cons, List.not_mem_nil, or_false] at hx
      rcases hx with rfl | rfl | rfl | rfl | rfl
      · exact VAt.keep hb _ h0_
      · exact VAt.keep hb _ h1_
      · exact VAt.keep hb _ h2_
      · exact VAt.keep hb _ h3_
      · exact VAt.keep hb _ h4_
    | 16, _ =>
      cases ho
      obtain ⟨b, e6, h6⟩ := hdep 15 18 rfl (by kernel_rfl)
      refine flow_fun 30 _ _ rfl (fun _ _ => by simp [go_sem]) #[.slice (some ⟨b, 0, none⟩) 5 5] (by rw [show (#[Operand.tmp 18] : Array Operand).map aq.eval = #[aq.tmps.getD 18 undef] from by simp [Act.eval], e6]) ?_
      refine (all_any (some ⟨b, 0, none⟩) 5 5 wq).mono ?_
      rintro x w' ⟨rfl, q⟩
      exact ⟨_, rfl, ⟨b, rfl, KsAt.keep q _ h6⟩, q⟩
    | (k + 17), hk => exact absurd hk (by omega)
  · intro o h17 ho
    omega
  intro vf w8 hc hv
  have e7 : ∃ b, vf 16 = _ ∧ KsAt w8 _ b 0 := hv 16 19 (by decide) rfl
  obtain ⟨b, e7, h7⟩ := e7
  have B8 := HB.out.trans ((hcB hc).mono (by omega))
  have H8v := HY.out.keep (hcB hc)
  have s8 := (hcB hc).size
  clear hv hc
  simp only [List.take_succ_cons, List.take_zero, List.drop_succ_cons, List.drop_zero, putAll, Act.put, List.setIfInBounds_toArray, List.set_cons_succ, List.set_cons_zero]
  rw [e7]
  have HB8 := hid B8
  have HK := hid h7
  clear B8 h7 e7 HB
  go_wp2_with ((with_reducible refine at_list' ?_); first
    | (refine wpList_store_c Tryd.ty39 rfl (.tmp 2) (.tmp 19) rfl (w.heap.size + 1) (valL 0 (zeros 32) nilS (.slice (some ⟨b, 0, none⟩) 5 5)) rfl rfl rfl (valL_oneC _ _ _ _ trivial trivial) _ H8v rfl ?_; intro w9 H9 O9))
  refine bodyPost_ret (results_c1 Tryd.ty39 rfl _ w9 (w.heap.size + 1) _ rfl H9 rfl) rfl ⟨_, rfl, ⟨nilS, _, rfl, ?_⟩, below_only HB8.out O9 (by omega)⟩
  exact VAt.aside H8v rfl O9 (hdV zs zp zpa zst zbo) (hdV_wide zs zp zpa zst zbo) (isV_all (ks := [.mk zs (zeros 32) [] [], .mk zp (zeros 32) [] [], .mk 0 zpa [] [], .mk 0 zst [] [], .mk 0 zbo [] []]) rfl (by decide) HK.out)
end Go.Proofs.YtakdokccdkhcoabDoor

/- The document's value of a struct (SignedHeader). -/
namespace Go.Proofs.YtakdokccdkhcoabDoor
open Go.RowKit Go.Shelf
set_option linter.unusedVariables false
set_option linter.unusedSimpArgs false
set_option maxRecDepth 100000

def shV (zhzs : Nat) (zhzp : Nat) (zhzpa : List Nat) (zhzst : List Nat) (zhzbo : List Nat) (zsg : List Nat) : Vt := .mk 0 (zeros 32) [] [hdV zhzs zhzp zhzpa zhzst zhzbo, .mk 0 zsg [] []]
theorem shV_wide (zhzs : Nat) (zhzp : Nat) (zhzpa : List Nat) (zhzst : List Nat) (zhzbo : List Nat) (zsg : List Nat) : wide (shV zhzs zhzp zhzpa zhzst zhzbo zsg) := by simp [shV, wide, wideK, hdV_wide]
end Go.Proofs.YtakdokccdkhcoabDoor

/- The document's value of a struct (ProposerSlashing). -/
namespace Go.Proofs.YtakdokccdkhcoabDoor
open Go.RowKit Go.Shelf
set_option linter.unusedVariables false
set_option linter.unusedSimpArgs false
set_option maxRecDepth 100000

def psV (zazhzs : Nat) (zazhzp : Nat) (zazhzpa : List Nat) (zazhzst : List Nat) (zazhzbo : List Nat) (zazsg : List Nat) (zzzhzs : Nat) (zzzhzp : Nat) (zzzhzpa : List Nat) (zzzhzst : List Nat) (zzzhzbo : List Nat) (zzzsg : List Nat) : Vt := .mk 0 (zeros 32) [] [shV zazhzs zazhzp zazhzpa zazhzst zazhzbo zazsg, shV zzzhzs zzzhzp zzzhzpa zzzhzst zzzhzbo zzzsg]
theorem psV_wide (zazhzs : Nat) (zazhzp : Nat) (zazhzpa : List Nat) (zazhzst : List Nat) (zazhzbo : List Nat) (zazsg : List Nat) (zzzhzs : Nat) (zzzhzp : Nat) (zzzhzpa : List Nat) (zzzhzst : List Nat) (zzzhzbo : List Nat) (zzzsg : List Nat) : wide (psV zazhzs zazhzp zazhzpa zazhzst zazhzbo zazsg zzzhzs zzzhzp zzzhzpa zzzhzst zzzhzbo zzzsg) := by simp [psV, wide, wideK, shV_wide, shV_wide]
set_option maxHeartbeats 2000000 in
theorem psV_any (zazhzs : Nat) (zazhzp : Nat) (zazhzpa : List Nat) (zazhzst : List Nat) (zazhzbo : List Nat) (zazsg : List Nat) (zzzhzs : Nat) (zzzhzp : Nat) (zzzhzpa : List Nat) (zzzhzst : List Nat) (zzzhzbo : List Nat) (zzzsg : List Nat) (hzazhzs : zazhzs < 18446744073709551616) (hzazhzp : zazhzp < 18446744073709551616) (hzazhzpa : Rt zazhzpa) (hzazhzst : Rt zazhzst) (hzazhzbo : Rt zazhzbo) (hzazsg : Rt zazsg) (hzzzhzs : zzzhzs < 18446744073709551616) (hzzzhzp : zzzhzp < 18446744073709551616) (hzzzhzpa : Rt zzzhzpa) (hzzzhzst : Rt zzzhzst) (hzzzhzbo : Rt zzzhzbo) (hzzzsg : Rt zzzsg) (w : World) : Calls Tryd.prog 9 #[.agg (psC zazhzs zazhzp zazhzpa zazhzst zazhzbo zazsg zzzhzs zzzhzp zzzhzpa zzzhzst zzzhzbo zzzsg).toArray] w fun x w' => ∃ v, x = .returned v ∧ IsV w' v (psV zazhzs zazhzp zazhzpa zazhzst zazhzbo zazsg zzzhzs zzzhzp zzzhzpa zzzhzst zzzhzbo zzzsg) ∧ Below w.heap.size w w' := by
  go_enter Tryd.func9, Tryd.ntmps9
  go_wp2_with ((with_reducible refine at_list' ?_); first
    | (refine wpList_box_c rfl 1 rfl (.tmp 0) rfl (psC zazhzs zazhzp zazhzpa zazhzst zazhzbo zazsg zzzhzs zzzhzp zzzhzpa zzzhzst zzzhzbo zzzsg) rfl ?_; intro w1 H1 B1 S1)
    | (refine wpList_alloc_c Tryd.ty39 rfl 2 rfl rfl ?_; intro w2 H2 B2 S2; rw [S1] at H2 S2; rw [S1]))
  have HX := hid (H1.keep B2)
  have HY := hid H2
  have HB := hid (B1.trans (B2.mono (by omega)))
  have s2 : w2.heap.size = w.heap.size + 2 := by omega
  clear H1 B1 S1 H2 B2 S2
  try simp only [Act.put, List.setIfInBounds_toArray, List.set_cons_succ, List.set_cons_zero]
  refine wp_region_flow 22 22 (fun i v wq => match i with
    | 0 => v = .pointer (some ⟨w.heap.size, 0, none⟩)
    | 1 => v = .pointer (some ⟨w.heap.size, 0, none⟩)
    | 2 => v = .agg (hdC zazhzs zazhzp zazhzpa zazhzst zazhzbo).toArray
    | 3 => IsV wq v (hdV zazhzs zazhzp zazhzpa zazhzst zazhzbo)
    | 4 => v = .pointer (some ⟨w.heap.size, 0, none⟩)
    | 5 => v = .pointer (some ⟨w.heap.size, 98, none⟩)
    | 6 => v = .agg (nums .u8 zazsg)
    | 7 => IsV wq v (.mk 0 zazsg [] [])
    | 8 => ∃ b, v = .slice (some ⟨b, 0, none⟩) 2 2 ∧ KsAt wq [hdV zazhzs zazhzp zazhzpa zazhzst zazhzbo, .mk 0 zazsg [] []] b 0
    | 9 => IsV wq v (shV zazhzs zazhzp zazhzpa zazhzst zazhzbo zazsg)
    | 10 => v = .pointer (some ⟨w.heap.size, 130, none⟩)
    | 11 => v = .pointer (some ⟨w.heap.size, 130, none⟩)
    | 12 => v = .agg (hdC zzzhzs zzzhzp zzzhzpa zzzhzst zzzhzbo).toArray
    | 13 => IsV wq v (hdV zzzhzs zzzhzp zzzhzpa zzzhzst zzzhzbo)
    | 14 => v = .pointer (some ⟨w.heap.size, 130, none⟩)
    | 15 => v = .pointer (some ⟨w.heap.size, 228, none⟩)
    | 16 => v = .agg (nums .u8 zzzsg)
    | 17 => IsV wq v (.mk 0 zzzsg [] [])
    | 18 => ∃ b, v = .slice (some ⟨b, 0, none⟩) 2 2 ∧ KsAt wq [hdV zzzhzs zzzhzp zzzhzpa zzzhzst zzzhzbo, .mk 0 zzzsg [] []] b 0
    | 19 => IsV wq v (shV zzzhzs zzzhzp zzzhzpa zzzhzst zzzhzbo zzzsg)
    | 20 => ∃ b, v = .slice (some ⟨b, 0, none⟩) 2 2 ∧ KsAt wq [shV zazhzs zazhzp zazhzpa zazhzst zazhzbo zazsg, shV zzzhzs zzzhzp zzzhzpa zzzhzst zzzhzbo zzzsg] b 0
    | _ => ∃ b, v = .agg (valL 0 (zeros 32) nilS (.slice (some ⟨b, 0, none⟩) 2 2)).toArray ∧ KsAt wq [shV zazhzs zazhzp zazhzpa zazhzst zazhzbo zazsg, shV zzzhzs zzzhzp zzzhzpa zzzhzst zzzhzbo zzzsg] b 0) (by kernel_rfl) (by kernel_rfl) (fun _ d _ _ _ h => by cases d <;> exact h) ?_ ?_ ?_ ?_
  · intro i v wq wq' hi hv hb
    match i, hi with
    | 0, _ => exact hv
    | 1, _ => exact hv
    | 2, _ => exact hv
    | 3, _ => exact hv.keep hb
    | 4, _ => exact hv
    | 5, _ => exact hv
    | 6, _ => exact hv
    | 7, _ => exact hv.keep hb
    | 8, _ => obtain ⟨b, h1, h2⟩ := hv; exact ⟨b, h1, KsAt.keep hb _ h2⟩
    | 9, _ => exact hv.keep hb
    | 10, _ => exact hv
    | 11, _ => exact hv
    | 12, _ => exact hv
    | 13, _ => exact hv.keep hb
    | 14, _ => exact hv
    | 15, _ => exact hv
    | 16, _ => exact hv
    | 17, _ => exact hv.keep hb
    | 18, _ => obtain ⟨b, h1, h2⟩ := hv; exact ⟨b, h1, KsAt.keep hb _ h2⟩
    | 19, _ => exact hv.keep hb
    | 20, _ => obtain ⟨b, h1, h2⟩ := hv; exact ⟨b, h1, KsAt.keep hb _ h2⟩
    | 21, _ => obtain ⟨b, h1, h2⟩ := hv; exact ⟨b, h1, KsAt.keep hb _ h2⟩
    | (k + 22), hk => exact absurd hk (by omega)
  · intro i o hi ho aq wq hc hk hdep
    match i, hi with
    | 0, _ =>
      cases ho
      have e1 : aq.tmps.getD 1 undef = .pointer (some ⟨w.heap.size, 0, none⟩) := hk 1 (by decide)
      exact flow_value _ (run_fieldAt 30 (.tmp 1) 0 rfl _ _ e1 (by kernel_rfl)) rfl
    | 1, _ =>
      cases ho
      have e1 : aq.tmps.getD 3 undef = .pointer (some ⟨w.heap.size, 0, none⟩) := hdep 0 3 rfl (by kernel_rfl)
      exact flow_value _ (run_fieldAt 28 (.tmp 3) 0 rfl _ _ e1 (by kernel_rfl)) rfl
    | 2, _ =>
      cases ho
      have e0 : aq.tmps.getD 4 undef = .pointer (some ⟨w.heap.size, 0, none⟩) := hdep 1 4 rfl (by kernel_rfl)
      exact flow_value _ (run_mid 26 (.tmp 4) rfl w.heap.size 0 e0 (hdC zazhzs zazhzp zazhzpa zazhzst zazhzbo) ((HX.out.keep (hcB hc)).range 0 (hdC zazhzs zazhzp zazhzpa zazhzst zazhzbo) (seg2 (ps := psP zazhzs zazhzp zazhzpa zazhzst zazhzbo zazsg zzzhzs zzzhzp zzzhzpa zzzhzst zzzhzbo zzzsg) (qs := shP zazhzs zazhzp zazhzpa zazhzst zazhzbo zazsg) (i := 0) (k := 0) (off := 0) (o2 := 0) (tot := 0) rfl (by simp [psP, cellsB_length, hzazhzpa.len, hzazhzst.len, hzazhzbo.len, hzazsg.len, hzzzhzpa.len, hzzzhzst.len, hzzzhzbo.len, hzzzsg.len, shC_length zazhzs zazhzp zazhzpa zazhzst zazhzbo zazsg hzazhzpa.len hzazhzst.len hzazhzbo.len hzazsg.len, shC_length zzzhzs zzzhzp zzzhzpa zzzhzst zzzhzbo zzzsg hzzzhzpa.len hzzzhzst.len hzzzhzbo.len hzzzsg.len]) rfl (by simp [shP, cellsB_length, hzazhzpa.len, hzazhzst.len, hzazhzbo.len, hzazsg.len, hdC_length zazhzs zazhzp zazhzpa zazhzst zazhzbo hzazhzpa.len hzazhzst.len hzazhzbo.len]) rfl)) _ Tryd.underlying26 rfl (by rw [hdC_length zazhzs zazhzp zazhzpa zazhzst zazhzbo hzazhzpa.len hzazhzst.len hzazhzbo.len]; kernel_rfl)) rfl
    | 3, _ =>
      cases ho
      have e0 : aq.tmps.getD 5 undef = .agg (hdC zazhzs zazhzp zazhzpa zazhzst zazhzbo).toArray := hdep 2 5 rfl (by kernel_rfl)
      refine flow_fun 31 _ _ rfl (fun _ _ => by simp [go_sem]) #[.agg (hdC zazhzs zazhzp zazhzpa zazhzst zazhzbo).toArray] (by rw [show (#[Operand.tmp 5] : Array Operand).map aq.eval = #[aq.tmps.getD 5 undef] from by simp [Act.eval], e0]) ?_
      refine (hdV_any zazhzs zazhzp zazhzpa zazhzst zazhzbo hzazhzs hzazhzp hzazhzpa hzazhzst hzazhzbo wq).mono ?_
      rintro x w' ⟨v, rfl, hv, q⟩
      exact ⟨v, rfl, hv, q⟩
    | 4, _ =>
      cases ho
      have e1 : aq.tmps.getD 1 undef = .pointer (some ⟨w.heap.size, 0, none⟩) := hk 1 (by decide)
      exact flow_value _ (run_fieldAt 30 (.tmp 1) 0 rfl _ _ e1 (by kernel_rfl)) rfl
    | 5, _ =>
      cases ho
      have e1 : aq.tmps.getD 7 undef = .pointer (some ⟨w.heap.size, 0, none⟩) := hdep 4 7 rfl (by kernel_rfl)
      exact flow_value _ (run_fieldAt 28 (.tmp 7) 1 rfl _ _ e1 (by kernel_rfl)) rfl
    | 6, _ =>
      cases ho
      have e0 : aq.tmps.getD 8 undef = .pointer (some ⟨w.heap.size, 98, none⟩) := hdep 5 8 rfl (by kernel_rfl)
      exact flow_value _ (run_mid 24 (.tmp 8) rfl w.heap.size 98 e0 (cellsB zazsg) ((HX.out.keep (hcB hc)).range 98 (cellsB zazsg) (seg2 (ps := psP zazhzs zazhzp zazhzpa zazhzst zazhzbo zazsg zzzhzs zzzhzp zzzhzpa zzzhzst zzzhzbo zzzsg) (qs := shP zazhzs zazhzp zazhzpa zazhzst zazhzbo zazsg) (i := 0) (k := 1) (off := 0) (o2 := 98) (tot := 98) rfl (by simp [psP, cellsB_length, hzazhzpa.len, hzazhzst.len, hzazhzbo.len, hzazsg.len, hzzzhzpa.len, hzzzhzst.len, hzzzhzbo.len, hzzzsg.len, shC_length zazhzs zazhzp zazhzpa zazhzst zazhzbo zazsg hzazhzpa.len hzazhzst.len hzazhzbo.len hzazsg.len, shC_length zzzhzs zzzhzp zzzhzpa zzzhzst zzzhzbo zzzsg hzzzhzpa.len hzzzhzst.len hzzzhzbo.len hzzzsg.len]) rfl (by simp [shP, cellsB_length, hzazhzpa.len, hzazhzst.len, hzazhzbo.len, hzazsg.len, hdC_length zazhzs zazhzp zazhzpa zazhzst zazhzbo hzazhzpa.len hzazhzst.len hzazhzbo.len]) rfl)) _ Tryd.und24 rfl (by rw [cellsB_length, hzazsg.len]; exact Tryd.size24)) rfl
    | 7, _ =>
      cases ho
      have e0 : aq.tmps.getD 9 undef = .agg (nums .u8 zazsg) := hdep 6 9 rfl (by kernel_rfl)
      refine flow_fun 32 _ _ rfl (fun _ _ => by simp [go_sem]) #[.agg (nums .u8 zazsg)] (by rw [show (#[Operand.tmp 9] : Array Operand).map aq.eval = #[aq.tmps.getD 9 undef] from by simp [Act.eval], e0]) ?_
      refine (r_any zazsg hzazsg.len wq).mono ?_
      rintro x w' ⟨rfl, q⟩
      exact ⟨_, rfl, IsV.leaf w' (by decide) hzazsg.len hzazsg.byte, q⟩
    | 8, _ =>
      cases ho
      obtain ⟨sb0, sk0, e0, h0_⟩ := hdep 3 6 rfl (by kernel_rfl)
      obtain ⟨sb1, sk1, e1, h1_⟩ := hdep 7 10 rfl (by kernel_rfl)
      refine flow_rowsB 37 39 2 35 _ rfl Tryd.underlying37 valInfo [valL 0 (zeros 32) sb0 sk0, valL 0 zazsg sb1 sk1] [.tmp 6, .tmp 10] rfl (by rw [show [Operand.tmp 6, Operand.tmp 10].map aq.eval = [aq.tmps.getD 6 undef, aq.tmps.getD 10 undef] from rfl, e0, e1]; rfl) (by simp [valL_length, zeros32, hzazsg.len]) rfl (by decide) (by decide) (by decide) (fun w' h hb => ⟨_, rfl, ksAt_of h [(hdV zazhzs zazhzp zazhzpa zazhzst zazhzbo, sb0, sk0), (.mk 0 zazsg [] [], sb1, sk1)] 0 (fun j v hj => by rw [Nat.zero_add]; exact hj) (fun x hx => ?_)⟩)
      simp only [List.mem_cons, List.not_mem_nil, or_false] at hx
      rcases hx with rfl | rfl
      · exact VAt.keep hb _ h0_
      · exact VAt.keep hb _ h1_
    | 9, _ =>
      cases ho
      obtain ⟨b, e6, h6⟩ := hdep 8 11 rfl (by kernel_rfl)
      refine flow_fun 30 _ _ rfl (fun _ _ => by simp [go_sem]) #[.slice (some ⟨b, 0, none⟩) 2 2] (by rw [show (#[Operand.tmp 11] : Array Operand).map aq.eval = #[aq.tmps.getD 11 undef] from by simp [Act.eval], e6]) ?_
      refine (all_any (some ⟨b, 0, none⟩) 2 2 wq).mono ?_
      rintro x w' ⟨rfl, q⟩
      exact ⟨_, rfl, ⟨nilS, _, rfl, isV_all (ks := [hdV zazhzs zazhzp zazhzpa zazhzst zazhzbo, .mk 0 zazsg [] []]) rfl (by decide) (KsAt.keep q _ h6)⟩, q⟩
    | 10, _ =>
      cases ho
      have e1 : aq.tmps.getD 1 undef = .pointer (some ⟨w.heap.size, 0, none⟩) := hk 1 (by decide)
      exact flow_value _ (run_fieldAt 30 (.tmp 1) 1 rfl _ _ e1 (by kernel_rfl)) rfl
    | 11, _ =>
      cases ho
      have e1 : aq.tmps.getD 13 undef = .pointer (some ⟨w.heap.size, 130, none⟩) := hdep 10 13 rfl (by kernel_rfl)
      exact flow_value _ (run_fieldAt 28 (.tmp 13) 0 rfl _ _ e1 (by kernel_rfl)) rfl
    | 12, _ =>
      cases ho
      have e0 : aq.tmps.getD 14 undef = .pointer (some ⟨w.heap.size, 130, none⟩) := hdep 11 14 rfl (by kernel_rfl)
      exact flow_value _ (run_mid 26 (.tmp 14) rfl w.heap.size 130 e0 (hdC zzzhzs zzzhzp zzzhzpa zzzhzst zzzhzbo) ((HX.out.keep (hcB hc)).range 130 (hdC zzzhzs zzzhzp zzzhzpa zzzhzst zzzhzbo) (seg2 (ps := psP zazhzs zazhzp zazhzpa zazhzst zazhzbo zazsg zzzhzs zzzhzp zzzhzpa zzzhzst zzzhzbo zzzsg) (qs := shP zzzhzs zzzhzp zzzhzpa zzzhzst zzzhzbo zzzsg) (i := 1) (k := 0) (off := 130) (o2 := 0) (tot := 130) rfl (by simp [psP, cellsB_length, hzazhzpa.len, hzazhzst.len, hzazhzbo.len, hzazsg.len, hzzzhzpa.len, hzzzhzst.len, hzzzhzbo.len, hzzzsg.len, shC_length zazhzs zazhzp zazhzpa zazhzst zazhzbo zazsg hzazhzpa.len hzazhzst.len hzazhzbo.len hzazsg.len, shC_length zzzhzs zzzhzp zzzhzpa zzzhzst zzzhzbo zzzsg hzzzhzpa.len hzzzhzst.len hzzzhzbo.len hzzzsg.len]) rfl (by simp [shP, cellsB_length, hzzzhzpa.len, hzzzhzst.len, hzzzhzbo.len, hzzzsg.len, hdC_length zzzhzs zzzhzp zzzhzpa zzzhzst zzzhzbo hzzzhzpa.len hzzzhzst.len hzzzhzbo.len]) rfl)) _ Tryd.underlying26 rfl (by rw [hdC_length zzzhzs zzzhzp zzzhzpa zzzhzst zzzhzbo hzzzhzpa.len hzzzhzst.len hzzzhzbo.len]; kernel_rfl)) rfl
    | 13, _ =>
      cases ho
      have e0 : aq.tmps.getD 15 undef = .agg (hdC zzzhzs zzzhzp zzzhzpa zzzhzst zzzhzbo).toArray := hdep 12 15 rfl (by kernel_rfl)
      refine flow_fun 31 _ _ rfl (fun _ _ => by simp [go_sem]) #[.agg (hdC zzzhzs zzzhzp zzzhzpa zzzhzst zzzhzbo).toArray] (by rw [show (#[Operand.tmp 15] : Array Operand).map aq.eval = #[aq.tmps.getD 15 undef] from by simp [Act.eval], e0]) ?_
      refine (hdV_any zzzhzs zzzhzp zzzhzpa zzzhzst zzzhzbo hzzzhzs hzzzhzp hzzzhzpa hzzzhzst hzzzhzbo wq).mono ?_
      rintro x w' ⟨v, rfl, hv, q⟩
      exact ⟨v, rfl, hv, q⟩
    | 14, _ =>
      cases ho
      have e1 : aq.tmps.getD 1 undef = .pointer (some ⟨w.heap.size, 0, none⟩) := hk 1 (by decide)
      exact flow_value _ (run_fieldAt 30 (.tmp 1) 1 rfl _ _ e1 (by kernel_rfl)) rfl
    | 15, _ =>
      cases ho
      have e1 : aq.tmps.getD 17 undef = .pointer (some ⟨w.heap.size, 130, none⟩) := hdep 14 17 rfl (by kernel_rfl)
      exact flow_value _ (run_fieldAt 28 (.tmp 17) 1 rfl _ _ e1 (by kernel_rfl)) rfl
    | 16, _ =>
      cases ho
      have e0 : aq.tmps.getD 18 undef = .pointer (some ⟨w.heap.size, 228, none⟩) := hdep 15 18 rfl (by kernel_rfl)
      exact flow_value _ (run_mid 24 (.tmp 18) rfl w.heap.size 228 e0 (cellsB zzzsg) ((HX.out.keep (hcB hc)).range 228 (cellsB zzzsg) (seg2 (ps := psP zazhzs zazhzp zazhzpa zazhzst zazhzbo zazsg zzzhzs zzzhzp zzzhzpa zzzhzst zzzhzbo zzzsg) (qs := shP zzzhzs zzzhzp zzzhzpa zzzhzst zzzhzbo zzzsg) (i := 1) (k := 1) (off := 130) (o2 := 98) (tot := 228) rfl (by simp [psP, cellsB_length, hzazhzpa.len, hzazhzst.len, hzazhzbo.len, hzazsg.len, hzzzhzpa.len, hzzzhzst.len, hzzzhzbo.len, hzzzsg.len, shC_length zazhzs zazhzp zazhzpa zazhzst zazhzbo zazsg hzazhzpa.len hzazhzst.len hzazhzbo.len hzazsg.len, shC_length zzzhzs zzzhzp zzzhzpa zzzhzst zzzhzbo zzzsg hzzzhzpa.len hzzzhzst.len hzzzhzbo.len hzzzsg.len]) rfl (by simp [shP, cellsB_length, hzzzhzpa.len, hzzzhzst.len, hzzzhzbo.len, hzzzsg.len, hdC_length zzzhzs zzzhzp zzzhzpa zzzhzst zzzhzbo hzzzhzpa.len hzzzhzst.len hzzzhzbo.len]) rfl)) _ Tryd.und24 rfl (by rw [cellsB_length, hzzzsg.len]; exact Tryd.size24)) rfl
    | 17, _ =>
      cases ho
      have e0 : aq.tmps.getD 19 undef = .agg (nums .u8 zzzsg) := hdep 16 19 rfl (by kernel_rfl)
      refine flow_fun 32 _ _ rfl (fun _ _ => by simp [go_sem]) #[.agg (nums .u8 zzzsg)] (by rw [show (#[Operand.tmp 19] : Array Operand).map aq.eval = #[aq.tmps.getD 19 undef] from by simp [Act.eval], e0]) ?_
      refine (r_any zzzsg hzzzsg.len wq).mono ?_
      rintro x w' ⟨rfl, q⟩
      exact ⟨_, rfl, IsV.leaf w' (by decide) hzzzsg.len hzzzsg.byte, q⟩
    | 18, _ =>
      cases ho
      obtain ⟨sb0, sk0, e0, h0_⟩ := hdep 13 16 rfl (by kernel_rfl)
      obtain ⟨sb1, sk1, e1, h1_⟩ := hdep 17 20 rfl (by kernel_rfl)
      refine flow_rowsB 37 39 2 35 _ rfl Tryd.underlying37 valInfo [valL 0 (zeros 32) sb0 sk0, valL 0 zzzsg sb1 sk1] [.tmp 16, .tmp 20] rfl (by rw [show [Operand.tmp 16, Operand.tmp 20].map aq.eval = [aq.tmps.getD 16 undef, aq.tmps.getD 20 undef] from rfl, e0, e1]; rfl) (by simp [valL_length, zeros32, hzzzsg.len]) rfl (by decide) (by decide) (by decide) (fun w' h hb => ⟨_, rfl, ksAt_of h [(hdV zzzhzs zzzhzp zzzhzpa zzzhzst zzzhzbo, sb0, sk0), (.mk 0 zzzsg [] [], sb1, sk1)] 0 (fun j v hj => by rw [Nat.zero_add]; exact hj) (fun x hx => ?_)⟩)
      simp only [List.mem_cons, List.not_mem_nil, or_false] at hx
      rcases hx with rfl | rfl
      · exact VAt.keep hb _ h0_
      · exact VAt.keep hb _ h1_
    | 19, _ =>
      cases ho
      obtain ⟨b, e6, h6⟩ := hdep 18 21 rfl (by kernel_rfl)
      refine flow_fun 30 _ _ rfl (fun _ _ => by simp [go_sem]) #[.slice (some ⟨b, 0, none⟩) 2 2] (by rw [show (#[Operand.tmp 21] : Array Operand).map aq.eval = #[aq.tmps.getD 21 undef] from by simp [Act.eval], e6]) ?_
      refine (all_any (some ⟨b, 0, none⟩) 2 2 wq).mono ?_
      rintro x w' ⟨rfl, q⟩
      exact ⟨_, rfl, ⟨nilS, _, rfl, isV_all (ks := [hdV zzzhzs zzzhzp zzzhzpa zzzhzst zzzhzbo, .mk 0 zzzsg [] []]) rfl (by decide) (KsAt.keep q _ h6)⟩, q⟩
    | 20, _ =>
      cases ho
      obtain ⟨sb0, sk0, e0, h0_⟩ := hdep 9 12 rfl (by kernel_rfl)
      obtain ⟨sb1, sk1, e1, h1_⟩ := hdep 19 22 rfl (by kernel_rfl)
      refine flow_rowsB 37 39 2 35 _ rfl Tryd.underlying37 valInfo [valL 0 (zeros 32) sb0 sk0, valL 0 (zeros 32) sb1 sk1] [.tmp 12, .tmp 22] rfl (by rw [show [Operand.tmp 12, Operand.tmp 22].map aq.eval = [aq.tmps.getD 12 undef, aq.tmps.getD 22 undef] from rfl, e0, e1]; rfl) (by simp [valL_length, zeros32]) rfl (by decide) (by decide) (by decide) (fun w' h hb => ⟨_, rfl, ksAt_of h [(shV zazhzs zazhzp zazhzpa zazhzst zazhzbo zazsg, sb0, sk0), (shV zzzhzs zzzhzp zzzhzpa zzzhzst zzzhzbo zzzsg, sb1, sk1)] 0 (fun j v hj => by rw [Nat.zero_add]; exact hj) (fun x hx => ?_)⟩)
      simp only [List.mem_cons, List.not_mem_nil, or_false] at hx
      rcases hx with rfl | rfl
      · exact VAt.keep hb _ h0_
      · exact VAt.keep hb _ h1_
    | 21, _ =>
      cases ho
      obtain ⟨b, e6, h6⟩ := hdep 20 23 rfl (by kernel_rfl)
      refine flow_fun 30 _ _ rfl (fun _ _ => by simp [go_sem]) #[.slice (some ⟨b, 0, none⟩) 2 2] (by rw [show (#[Operand.tmp 23] : Array Operand).map aq.eval = #[aq.tmps.getD 23 undef] from by simp [Act.eval], e6]) ?_
      refine (all_any (some ⟨b, 0, none⟩) 2 2 wq).mono ?_
      rintro x w' ⟨rfl, q⟩
      exact ⟨_, rfl, ⟨b, rfl, KsAt.keep q _ h6⟩, q⟩
    | (k + 22), hk => exact absurd hk (by omega)
  · intro o h22 ho
    omega
  intro vf w8 hc hv
  have e7 : ∃ b, vf 21 = _ ∧ KsAt w8 _ b 0 := hv 21 24 (by decide) rfl
  obtain ⟨b, e7, h7⟩ := e7
  have B8 := HB.out.trans ((hcB hc).mono (by omega))
  have H8v := HY.out.keep (hcB hc)
  have s8 := (hcB hc).size
  clear hv hc
  simp only [List.take_succ_cons, List.take_zero, List.drop_succ_cons, List.drop_zero, putAll, Act.put, List.setIfInBounds_toArray, List.set_cons_succ, List.set_cons_zero]
  rw [e7]
  have HB8 := hid B8
  have HK := hid h7
  clear B8 h7 e7 HB
  go_wp2_with ((with_reducible refine at_list' ?_); first
    | (refine wpList_store_c Tryd.ty39 rfl (.tmp 2) (.tmp 24) rfl (w.heap.size + 1) (valL 0 (zeros 32) nilS (.slice (some ⟨b, 0, none⟩) 2 2)) rfl rfl rfl (valL_oneC _ _ _ _ trivial trivial) _ H8v rfl ?_; intro w9 H9 O9))
  refine bodyPost_ret (results_c1 Tryd.ty39 rfl _ w9 (w.heap.size + 1) _ rfl H9 rfl) rfl ⟨_, rfl, ⟨nilS, _, rfl, ?_⟩, below_only HB8.out O9 (by omega)⟩
  exact VAt.aside H8v rfl O9 (psV zazhzs zazhzp zazhzpa zazhzst zazhzbo zazsg zzzhzs zzzhzp zzzhzpa zzzhzst zzzhzbo zzzsg) (psV_wide zazhzs zazhzp zazhzpa zazhzst zazhzbo zazsg zzzhzs zzzhzp zzzhzpa zzzhzst zzzhzbo zzzsg) (isV_all (ks := [shV zazhzs zazhzp zazhzpa zazhzst zazhzbo zazsg, shV zzzhzs zzzhzp zzzhzpa zzzhzst zzzhzbo zzzsg]) rfl (by decide) HK.out)
end Go.Proofs.YtakdokccdkhcoabDoor

/- Two roots compared. -/
namespace Go.Proofs.YtakdokccdkhcoabDoor
open Go.RowKit
set_option linter.unusedVariables false
set_option linter.unusedSimpArgs false
set_option maxRecDepth 100000

theorem run_same_root {o : Oper} {a : Act} {w : World} (x y : Operand) (ho : o.op = .binOp .eql 24 x y 24) (r : List Nat) (hr : Rt r) (hx : a.eval x = .agg (nums .u8 r)) (hy : a.eval y = .agg (nums .u8 r)) : (execOp a.eval o).run Tryd.prog w = .ok (.value (.bool true)) w := by
  have h := eql_api r r hr.len hr.len hr.byte hr.byte w
  simp only [decide_true] at h
  unfold execOp
  simp only [ho, hx, hy]
  simp [go_sem, h]
end Go.Proofs.YtakdokccdkhcoabDoor

/- RootProposerSlashings answers true for every value. -/
namespace Go.Proofs.YtakdokccdkhcoabDoor
open Go.RowKit Go.Shelf
set_option linter.unusedVariables false
set_option linter.unusedSimpArgs false
set_option maxRecDepth 100000

theorem psD_root (zazhzs : Nat) (zazhzp : Nat) (zazhzpa : List Nat) (zazhzst : List Nat) (zazhzbo : List Nat) (zazsg : List Nat) (zzzhzs : Nat) (zzzhzp : Nat) (zzzhzpa : List Nat) (zzzhzst : List Nat) (zzzhzbo : List Nat) (zzzsg : List Nat) : rootV psD (psV zazhzs zazhzp zazhzpa zazhzst zazhzbo zazsg zzzhzs zzzhzp zzzhzpa zzzhzst zzzhzbo zzzsg) = psR zazhzs zazhzp zazhzpa zazhzst zazhzbo zazsg zzzhzs zzzhzp zzzhzpa zzzhzst zzzhzbo zzzsg := by
  simp only [hdD, shD, psD, hdV, shV, psV, dBox, dNum, dRoot, dTruth, hdR, shR, psR, rootV, rootsV]
  simp
theorem psD_ok (zazhzs : Nat) (zazhzp : Nat) (zazhzpa : List Nat) (zazhzst : List Nat) (zazhzbo : List Nat) (zazsg : List Nat) (zzzhzs : Nat) (zzzhzp : Nat) (zzzhzpa : List Nat) (zzzhzst : List Nat) (zzzhzbo : List Nat) (zzzsg : List Nat) : okR psD (psV zazhzs zazhzp zazhzpa zazhzst zazhzbo zazsg zzzhzs zzzhzp zzzhzpa zzzhzst zzzhzbo zzzsg) := by
  simp [hdD, shD, psD, hdV, shV, psV, dBox, dNum, dRoot, dTruth, okR, okRs]
set_option maxHeartbeats 2000000 in
theorem ps_walk (zazhzs : Nat) (zazhzp : Nat) (zazhzpa : List Nat) (zazhzst : List Nat) (zazhzbo : List Nat) (zazsg : List Nat) (zzzhzs : Nat) (zzzhzp : Nat) (zzzhzpa : List Nat) (zzzhzst : List Nat) (zzzhzbo : List Nat) (zzzsg : List Nat) (hzazhzs : zazhzs < 18446744073709551616) (hzazhzp : zazhzp < 18446744073709551616) (hzazhzpa : Rt zazhzpa) (hzazhzst : Rt zazhzst) (hzazhzbo : Rt zazhzbo) (hzazsg : Rt zazsg) (hzzzhzs : zzzhzs < 18446744073709551616) (hzzzhzp : zzzhzp < 18446744073709551616) (hzzzhzpa : Rt zzzhzpa) (hzzzhzst : Rt zzzhzst) (hzzzhzbo : Rt zzzhzbo) (hzzzsg : Rt zzzsg) (w : World) (hT : Tabs w) : Calls Tryd.prog 3 #[.agg (psC zazhzs zazhzp zazhzpa zazhzst zazhzbo zazsg zzzhzs zzzhzp zzzhzpa zzzhzst zzzhzbo zzzsg).toArray] w fun e w' => e = .returned (.bool true) ∧ Below w.heap.size w w' := by
  have hR1 := psR_rt zazhzs zazhzp zazhzpa zazhzst zazhzbo zazsg zzzhzs zzzhzp zzzhzpa zzzhzst zzzhzbo zzzsg hzazhzpa hzazhzst hzazhzbo hzazsg hzzzhzpa hzzzhzst hzzzhzbo hzzzsg
  have HE := hid (psD_root zazhzs zazhzp zazhzpa zazhzst zazhzbo zazsg zzzhzs zzzhzp zzzhzpa zzzhzst zzzhzbo zzzsg)
  have HO := hid (psD_ok zazhzs zazhzp zazhzpa zazhzst zazhzbo zazsg zzzhzs zzzhzp zzzhzpa zzzhzst zzzhzbo zzzsg)
  obtain ⟨R1, HR⟩ : ∃ R, Hid (psR zazhzs zazhzp zazhzpa zazhzst zazhzbo zazsg zzzhzs zzzhzp zzzhzpa zzzhzst zzzhzbo zzzsg = R) := ⟨_, hid rfl⟩
  rw [HR.out] at hR1 HE
  go_enter Tryd.func3, Tryd.ntmps3
  go_wp2_with ((with_reducible refine at_list' ?_); first
    | (refine wpList_box_c rfl 1 rfl (.tmp 0) rfl (psC zazhzs zazhzp zazhzpa zazhzst zazhzbo zazsg zzzhzs zzzhzp zzzhzpa zzzhzst zzzhzbo zzzsg) rfl ?_; intro w1 H1 B1 S1))
  refine (awake_any w1 (hT.keep B1)).mono ?_
  rintro e w2 ⟨rfl, B2⟩
  have HX := hid (H1.keep B2)
  have HB := hid (B1.trans (B2.mono B1.size))
  have HT := hid (hT.keep HB.out)
  clear H1 B1 S1 B2
  go_wp2_with fail
  try simp only [Act.put, List.setIfInBounds_toArray, List.set_cons_succ, List.set_cons_zero]
  refine wp_region_flow 7 7 (fun i v wq => match i with
    | 0 => v = .agg (psC zazhzs zazhzp zazhzpa zazhzst zazhzbo zazsg zzzhzs zzzhzp zzzhzpa zzzhzst zzzhzbo zzzsg).toArray
    | 1 => v = .agg (nums .u8 R1)
    | 2 => ∃ p, v = .pointer (some ⟨p, 0, none⟩) ∧ DAt wq psD p
    | 3 => v = .agg (psC zazhzs zazhzp zazhzpa zazhzst zazhzbo zazsg zzzhzs zzzhzp zzzhzpa zzzhzst zzzhzbo zzzsg).toArray
    | 4 => IsV wq v (psV zazhzs zazhzp zazhzpa zazhzst zazhzbo zazsg zzzhzs zzzhzp zzzhzpa zzzhzst zzzhzbo zzzsg)
    | 5 => v = .agg (nums .u8 R1)
    | _ => v = .bool true) (by kernel_rfl) (by kernel_rfl) (fun _ d _ _ _ h => by cases d <;> exact h) ?_ ?_ ?_ ?_
  · intro i v wq wq' hi hv hb
    match i, hi with
    | 0, _ => exact hv
    | 1, _ => exact hv
    | 2, _ => obtain ⟨p, h1, h2⟩ := hv; exact ⟨p, h1, DAt.keep hb _ h2⟩
    | 3, _ => exact hv
    | 4, _ => exact hv.keep hb
    | 5, _ => exact hv
    | 6, _ => exact hv
    | (k + 7), hk => exact absurd hk (by omega)
  · intro i o hi ho aq wq hc hk hdep
    match i, hi with
    | 0, _ =>
      cases ho
      have e1 : aq.tmps.getD 1 undef = .pointer (some ⟨w.heap.size, 0, none⟩) := hk 1 (by decide)
      exact flow_value _ (run_mid 30 (.tmp 1) rfl w.heap.size 0 e1 (psC zazhzs zazhzp zazhzpa zazhzst zazhzbo zazsg zzzhzs zzzhzp zzzhzpa zzzhzst zzzhzbo zzzsg) ((HX.out.keep (hcB hc)).range 0 (psC zazhzs zazhzp zazhzpa zazhzst zazhzbo zazsg zzzhzs zzzhzp zzzhzpa zzzhzst zzzhzbo zzzsg) (fun j v hv => by rw [Nat.zero_add]; exact hv)) _ Tryd.underlying30 rfl (by rw [psC_length zazhzs zazhzp zazhzpa zazhzst zazhzbo zazsg zzzhzs zzzhzp zzzhzpa zzzhzst zzzhzbo zzzsg hzazhzpa.len hzazhzst.len hzazhzbo.len hzazsg.len hzzzhzpa.len hzzzhzst.len hzzzhzbo.len hzzzsg.len]; kernel_rfl)) rfl
    | 1, _ =>
      cases ho
      have e0 : aq.tmps.getD 5 undef = .agg (psC zazhzs zazhzp zazhzpa zazhzst zazhzbo zazsg zzzhzs zzzhzp zzzhzpa zzzhzst zzzhzbo zzzsg).toArray := hdep 0 5 rfl (by kernel_rfl)
      refine flow_fun 6 _ _ rfl (fun _ _ => by simp [go_sem]) #[.agg (psC zazhzs zazhzp zazhzpa zazhzst zazhzbo zazsg zzzhzs zzzhzp zzzhzpa zzzhzst zzzhzbo zzzsg).toArray] (by rw [show (#[Operand.tmp 5] : Array Operand).map aq.eval = #[aq.tmps.getD 5 undef] from by simp [Act.eval], e0]) ?_
      refine (psR_any zazhzs zazhzp zazhzpa zazhzst zazhzbo zazsg zzzhzs zzzhzp zzzhzpa zzzhzst zzzhzbo zzzsg hzazhzs hzazhzp hzazhzpa hzazhzst hzazhzbo hzazsg hzzzhzs hzzzhzp hzzzhzpa hzzzhzst hzzzhzbo hzzzsg wq (HT.out.keep (hcB hc))).mono ?_
      rintro x w' ⟨rfl, q⟩
      exact ⟨_, rfl, (by rw [← HR.out]; rfl), q⟩
    | 2, _ =>
      cases ho
      refine flow_fun 8 _ _ rfl (fun _ _ => by simp [go_sem]) #[] (by simp) ?_
      refine (psD_any wq).mono ?_
      rintro x w' ⟨p, rfl, h1, q⟩
      exact ⟨_, rfl, ⟨p, rfl, h1⟩, q⟩
    | 3, _ =>
      cases ho
      have e1 : aq.tmps.getD 1 undef = .pointer (some ⟨w.heap.size, 0, none⟩) := hk 1 (by decide)
      exact flow_value _ (run_mid 30 (.tmp 1) rfl w.heap.size 0 e1 (psC zazhzs zazhzp zazhzpa zazhzst zazhzbo zazsg zzzhzs zzzhzp zzzhzpa zzzhzst zzzhzbo zzzsg) ((HX.out.keep (hcB hc)).range 0 (psC zazhzs zazhzp zazhzpa zazhzst zazhzbo zazsg zzzhzs zzzhzp zzzhzpa zzzhzst zzzhzbo zzzsg) (fun j v hv => by rw [Nat.zero_add]; exact hv)) _ Tryd.underlying30 rfl (by rw [psC_length zazhzs zazhzp zazhzpa zazhzst zazhzbo zazsg zzzhzs zzzhzp zzzhzpa zzzhzst zzzhzbo zzzsg hzazhzpa.len hzazhzst.len hzazhzbo.len hzazsg.len hzzzhzpa.len hzzzhzst.len hzzzhzbo.len hzzzsg.len]; kernel_rfl)) rfl
    | 4, _ =>
      cases ho
      have e0 : aq.tmps.getD 8 undef = .agg (psC zazhzs zazhzp zazhzpa zazhzst zazhzbo zazsg zzzhzs zzzhzp zzzhzpa zzzhzst zzzhzbo zzzsg).toArray := hdep 3 8 rfl (by kernel_rfl)
      refine flow_fun 9 _ _ rfl (fun _ _ => by simp [go_sem]) #[.agg (psC zazhzs zazhzp zazhzpa zazhzst zazhzbo zazsg zzzhzs zzzhzp zzzhzpa zzzhzst zzzhzbo zzzsg).toArray] (by rw [show (#[Operand.tmp 8] : Array Operand).map aq.eval = #[aq.tmps.getD 8 undef] from by simp [Act.eval], e0]) ?_
      refine (psV_any zazhzs zazhzp zazhzpa zazhzst zazhzbo zazsg zzzhzs zzzhzp zzzhzpa zzzhzst zzzhzbo zzzsg hzazhzs hzazhzp hzazhzpa hzazhzst hzazhzbo hzazsg hzzzhzs hzzzhzp hzzzhzpa hzzzhzst hzzzhzbo hzzzsg wq).mono ?_
      rintro x w' ⟨v, rfl, h1, q⟩
      exact ⟨v, rfl, h1, q⟩
    | 5, _ =>
      cases ho
      obtain ⟨p, e0, h0⟩ := hdep 2 7 rfl (by kernel_rfl)
      have h1 : IsV wq (aq.tmps.getD 9 undef) (psV zazhzs zazhzp zazhzpa zazhzst zazhzbo zazsg zzzhzs zzzhzp zzzhzpa zzzhzst zzzhzbo zzzsg) := hdep 4 9 rfl (by kernel_rfl)
      refine flow_fun 7 _ _ rfl (fun _ _ => by simp [go_sem]) #[.pointer (some ⟨p, 0, none⟩), aq.tmps.getD 9 undef] (by rw [show (#[Operand.tmp 7, Operand.tmp 9] : Array Operand).map aq.eval = #[aq.tmps.getD 7 undef, aq.tmps.getD 9 undef] from by simp [Act.eval], e0]) ?_
      refine (rroot_any psD (psV zazhzs zazhzp zazhzpa zazhzst zazhzbo zazsg zzzhzs zzzhzp zzzhzpa zzzhzst zzzhzbo zzzsg) p _ wq HO.out h0 h1).mono ?_
      rintro x w' ⟨rfl, q⟩
      exact ⟨_, rfl, (by rw [HE.out]; rfl), q⟩
    | 6, _ =>
      cases ho
      have e0 : aq.tmps.getD 6 undef = .agg (nums .u8 R1) := hdep 1 6 rfl (by kernel_rfl)
      have e1 : aq.tmps.getD 10 undef = .agg (nums .u8 R1) := hdep 5 10 rfl (by kernel_rfl)
      exact flow_value _ (run_same_root (.tmp 6) (.tmp 10) rfl R1 hR1 e0 e1) rfl
    | (k + 7), hk => exact absurd hk (by omega)
  · intro o h7 ho
    omega
  intro vf w8 hc hv
  have e7 : vf 6 = _ := hv 6 11 (by decide) rfl
  have B8 := HB.out.trans ((hcB hc).mono HB.out.size)
  clear hv hc
  simp only [List.take_succ_cons, List.take_zero, List.drop_succ_cons, List.drop_zero, putAll, Act.put, List.setIfInBounds_toArray, List.set_cons_succ, List.set_cons_zero]
  rw [e7]
  have HB8 := hid B8
  clear B8 e7 HB HX HT
  go_wp2
  go_ret
  exact ⟨rfl, HB8.out⟩
end Go.Proofs.YtakdokccdkhcoabDoor

