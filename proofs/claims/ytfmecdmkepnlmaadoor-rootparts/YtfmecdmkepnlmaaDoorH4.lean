/- Own texts of the proof, joined: Flow9 RootL TreZ CollG ChunkG Pack6 RootN RootB Kinds6 Many6 KindIx KDNumbers KDEth KDDepositMessage FlowV. -/
import Derived.Test.YtfmecdmkepnlmaaDoorH3
/- The flow of a region whose operations hang together in long chains. -/
namespace Go.Proofs.YtfmecdmkepnlmaaDoor
open Go.RowKit
set_option linter.unusedVariables false
set_option maxRecDepth 100000

def flowB9 (ops : Array Oper) (n late sz : Nat) : Bool :=
  decide (n < ops.size) && Region.noSelect ops && ((List.range ops.size).all fun t => decide (t < n) || (List.range n).all fun i => decide (i = late) || reachB ops 9 t i) &&
  ((List.range n).all fun i => match ops[i]? with
    | some o => o.guard.isNone && (o.after.all fun e => !Region.binds .any e || decide (e.on < i)) && (match o.dst with
      | none => true
      | some d => decide (d < sz) && (List.range n).all fun j => decide (j = i) || decide (dstOf ops j ≠ some d))
    | none => false) && (decide (n ≤ late) || (Region.free .any ops (doneBut ops n late) late && (Region.ready .any ops (doneBut ops n late)).contains late)) &&
  Region.seqB .any ops (ops.size - n) n ((List.range ops.size).map fun i => decide (i < n)).toArray

section
variable {P : Program}
theorem flow_any9 {ops : Array Oper} {n late : Nat} {I : Nat → Value → World → Prop} {w0 : World} {a0 : Act} {Q : Exit → Act → World → Prop} (hB : flowB9 ops n late a0.tmps.size = true)
    (hQ : ∀ c d v a w, Q (.panic c) (a.put d v) w → Q (.panic c) a w)
    (hI : ∀ i v w w', i < n → I i v w → Below w.heap.size w w' → I i v w')
    (hop : ∀ i o, i < n → ops[i]? = some o → ∀ a w, Cls w0 w → (∀ s, (∀ j, j < n → dstOf ops j ≠ some s) → a.tmps.getD s undef = a0.tmps.getD s undef) →
      (∀ j d, dstOf ops j = some d → (o.after.any fun e => Region.binds .any e && e.on == j) = true → I j (a.tmps.getD d undef) w) →
      o.wp P a w (fun a' w' => ∃ v, a' = a.put o.dst v ∧ I i v w' ∧ Below w.heap.size w w') Q)
    (hlate : ∀ o, late < n → ops[late]? = some o → ∀ (a : Act) w, Cls w0 w → (∀ s, (∀ j, j < n → dstOf ops j ≠ some s) → a.tmps.getD s undef = a0.tmps.getD s undef) →
      (∀ j d, dstOf ops j = some d → (o.after.any fun e => Region.binds .any e && e.on == j) = true → I j (a.tmps.getD d undef) w) → ∃ v, (∀ w, (execOp a.eval o).run P w = .ok (.value v) w) ∧ I late v w)
    (htail : ∀ v w, Cls w0 w → (∀ i d, i < n → dstOf ops i = some d → I i (v i) w) → wpAny P .any ops Q (ops.size - n) ((List.range ops.size).map fun i => decide (i < n)).toArray (putAll v (ops.toList.take n) 0 a0) w) :
    ∀ f (done : Array Bool) (a : Act) (w : World), (List.range n).countP (fun i => !done.getD i true) = f → FlowInv ops n I w0 a0 done a w → wpAny P .any ops Q (f + (ops.size - n)) done a w := by
  simp only [flowB9, Bool.and_eq_true, decide_eq_true_eq, List.all_eq_true, List.mem_range, Bool.or_eq_true] at hB
  obtain ⟨⟨⟨⟨⟨hn, hsel⟩, hdir⟩, hall⟩, hlt8⟩, hseq⟩ := hB
  have hat : ∀ i, i < n → ∃ o, ops[i]? = some o := fun i hi => ⟨_, Array.getElem?_eq_getElem (by omega)⟩
  have hgd : ∀ i o, i < n → ops[i]? = some o → o.guard = none ∧ (∀ e ∈ o.after, Region.binds .any e = true → e.on < i) ∧ ∀ d, o.dst = some d → d < a0.tmps.size ∧ ∀ j, j < n → j ≠ i → dstOf ops j ≠ some d := by
    intro i o hi ho
    have := hall i hi
    rw [ho] at this
    simp only [Bool.and_eq_true, Option.isNone_iff_eq_none, Array.all_eq_true_iff_forall_mem, Bool.or_eq_true, Bool.not_eq_true', decide_eq_true_eq] at this
    obtain ⟨⟨h1, h2⟩, h3⟩ := this
    refine ⟨h1, fun e he hb => (h2 e he).resolve_left (by rw [hb]; decide), fun d hd => ?_⟩
    rw [hd] at h3
    simp only [Bool.and_eq_true, decide_eq_true_eq, List.all_eq_true, List.mem_range, Bool.or_eq_true] at h3
    exact ⟨h3.1, fun j hj hne => (h3.2 j hj).resolve_left hne⟩
  intro f
  induction f with
  | zero =>
    intro done a w hcount inv
    have hdone : ∀ i, i < n → done.getD i true = true := fun i hi => by
      have := List.countP_eq_zero.1 hcount i (List.mem_range.2 hi)
      simpa using this
    have hdn : done = ((List.range ops.size).map fun i => decide (i < n)).toArray := by
      apply Array.ext_getElem?
      intro i
      by_cases hi : i < ops.size
      · have hi' : i < done.size := by rw [inv.head.size]; exact hi
        have h1 : (((List.range ops.size).map fun i => decide (i < n)).toArray)[i]? = some (decide (i < n)) := by simp [hi]
        rw [h1, Array.getElem?_eq_getElem hi']
        by_cases hin : i < n
        · have := hdone i hin
          simp [hi'] at this
          simp [hin, this]
        · have := inv.head.tail i (by omega) hi
          simp [hi'] at this
          simp [hin, this]
      · rw [Array.getElem?_eq_none (by rw [inv.head.size]; omega), Array.getElem?_eq_none (by simp; omega)]
    have hk : ∀ i, i < n → done.getD i false = true := fun i hi => by
      have h1 := hdone i hi
      have hi' : i < done.size := by rw [inv.head.size]; omega
      simp [hi'] at h1 ⊢
      exact h1
    have ha : a = putAll (fun i => match dstOf ops i with | some d => a.tmps.getD d undef | none => undef) (ops.toList.take n) 0 a0 := by
      have hd1 := putAll_defers (fun i => match dstOf ops i with | some d => a.tmps.getD d undef | none => undef) (ops.toList.take n) 0 a0
      have hs1 := putAll_size (fun i => match dstOf ops i with | some d => a.tmps.getD d undef | none => undef) (ops.toList.take n) 0 a0
      have ht1 : ∀ s, a.tmps[s]? = (putAll (fun i => match dstOf ops i with | some d => a.tmps.getD d undef | none => undef) (ops.toList.take n) 0 a0).tmps[s]? := fun s => by
        rw [putAll_get _ s (a.tmps.getD s undef) _ 0 a0 (fun j o hj ho => by
          rw [List.getElem?_take] at hj
          split at hj
          · have : dstOf ops j = some s := by unfold dstOf; rw [Array.getElem?_toList] at hj; rw [hj]; exact ho
            rw [Nat.zero_add, this]
          · cases hj)]
        split
        · rename_i h
          rw [Array.getElem?_eq_getElem (by rw [inv.size]; exact h.2)]
          simp [inv.size, h.2]
        · rename_i h
          by_cases hsz : s < a0.tmps.size
          · refine inv.keep s fun i hi e => h ⟨?_, hsz⟩
            obtain ⟨o, ho⟩ := hat i hi
            refine ⟨o, ?_, by unfold dstOf at e; rw [ho] at e; exact e⟩
            rw [List.mem_take_iff_getElem]
            have := Array.getElem?_eq_some_iff.1 ho
            exact ⟨i, by simp; omega, by simpa using this.2⟩
          · rw [Array.getElem?_eq_none (by rw [inv.size]; omega), Array.getElem?_eq_none (by omega)]
      generalize putAll (fun i => match dstOf ops i with | some d => a.tmps.getD d undef | none => undef) (ops.toList.take n) 0 a0 = b at *
      obtain ⟨ta, da⟩ := a
      obtain ⟨tb, db⟩ := b
      have e1 : ta = tb := Array.ext_getElem? ht1
      have e2 : da = db := inv.defers.trans hd1.symm
      rw [e1, e2]
    rw [Nat.zero_add, ha, hdn]
    refine htail _ w inv.cls fun i d hi hd => ?_
    have := inv.known i hi (hk i hi) d hd
    simpa [hd] using this
  | succ f ih =>
    intro done a w hcount inv
    have hex : ∃ i, i < n ∧ done.getD i true = false := by
      have : 0 < (List.range n).countP (fun i => !done.getD i true) := by omega
      obtain ⟨i, hi, hd⟩ := List.countP_pos_iff.1 this
      exact ⟨i, List.mem_range.1 hi, by simpa using hd⟩
    have hready : ∃ i, i < n ∧ i ∈ Region.ready .any ops done := by
      obtain ⟨i0, hi0, hd0⟩ := hex
      have key : ∀ m, m < n → done.getD m true = false → ∃ i, i < n ∧ i ∈ Region.ready .any ops done := by
        intro m
        induction m using Nat.strongRecOn with
        | _ m ihm =>
          intro hm hd
          obtain ⟨o, ho⟩ := hat m hm
          by_cases hw : ∀ e ∈ o.after, Region.binds .any e = true → done.getD e.on false = true
          · exact ⟨m, hm, mem_ready.2 ⟨hd, o, ho, hw⟩⟩
          · simp only [Classical.not_forall] at hw
            obtain ⟨e, he, hb, hnd⟩ := hw
            have hlt := (hgd m o hm ho).2.1 e he hb
            refine ihm e.on hlt (by omega) ?_
            have hi' : e.on < done.size := by rw [inv.head.size]; omega
            simp [hi'] at hnd ⊢
            exact hnd
      exact key i0 hi0 hd0
    obtain ⟨r, hr, hrr⟩ := hready
    rw [Nat.succ_add]
    have hstep : ∀ i o v w', i < n → i ∈ Region.ready .any ops done → ops[i]? = some o → I i v w' → Below w.heap.size w w' →
        (List.range n).countP (fun j => !(done.setIfInBounds i true).getD j true) = f ∧ FlowInv ops n I w0 a0 (done.setIfInBounds i true) (a.put o.dst v) w' := by
      intro i o v w' hin hi ho hv hB
      obtain ⟨hun, o', ho', hwait⟩ := mem_ready.1 hi
      obtain ⟨g1, g2, g3⟩ := hgd i o hin ho
      refine ⟨?_, inv.head.set hi hin, inv.cls.more hB, by rw [put_defers]; exact inv.defers, by rw [put_size]; exact inv.size, fun s hs' => ?_, fun j hj hdj d hd => ?_⟩
      · have hii : i < done.size := by rw [inv.head.size]; omega
        have hcp := count_step done i hii hun n hin
        omega
      · rw [put_get, if_neg (fun h => hs' i hin (by unfold dstOf; rw [ho]; exact h.1))]
        exact inv.keep s hs'
      · by_cases e : j = i
        · subst e
          have hd' : o.dst = some d := by unfold dstOf at hd; rw [ho] at hd; exact hd
          have : (a.put o.dst v).tmps.getD d undef = v := by
            rw [Array.getD_eq_getD_getElem?, put_get, if_pos ⟨hd', by rw [inv.size]; exact (g3 d hd').1⟩]; rfl
          rw [this]; exact hv
        · have hdj' : done.getD j false = true := by rwa [getD_set_ne false (Ne.symm e)] at hdj
          have : (a.put o.dst v).tmps.getD d undef = a.tmps.getD d undef := by
            rw [Array.getD_eq_getD_getElem?, put_get, if_neg (fun h => (g3 d h.1).2 j hj e hd), ← Array.getD_eq_getD_getElem?]
          rw [this]
          exact hI j _ w w' hj (inv.known j hj hdj' d hd) hB
    have hdeps : ∀ i o, i < n → i ∈ Region.ready .any ops done → ops[i]? = some o → ∀ j d, dstOf ops j = some d → (o.after.any fun e => Region.binds .any e && e.on == j) = true → I j (a.tmps.getD d undef) w := by
      intro i o hin hi ho j d hd hj
      obtain ⟨hun, o', ho', hwait⟩ := mem_ready.1 hi
      obtain rfl : o' = o := Option.some.inj (ho'.symm.trans ho)
      obtain ⟨g1, g2, g3⟩ := hgd i o' hin ho
      obtain ⟨k, hk, hk2⟩ := Array.any_eq_true.1 hj
      simp only [Bool.and_eq_true, beq_iff_eq] at hk2
      have hmem := Array.getElem_mem hk
      have hl := hwait _ hmem hk2.1
      have hlt := g2 _ hmem hk2.1
      rw [hk2.2] at hl hlt
      exact inv.known j (by omega) hl d hd
    have hkeep : ∀ s, (∀ j, j < n → dstOf ops j ≠ some s) → a.tmps.getD s undef = a0.tmps.getD s undef := fun s hs' => by rw [Array.getD_eq_getD_getElem?, inv.keep s hs', ← Array.getD_eq_getD_getElem?]
    by_cases hbut : ∀ i, i < n → i ≠ late → done.getD i true = true
    · have hrl : r = late := Classical.byContradiction fun h => by
        have h1 := hbut r hr h
        rw [(mem_ready.1 hrr).1] at h1; cases h1
      subst hrl
      have hdn : done = doneBut ops n r := by
        apply Array.ext_getElem?
        intro i
        by_cases hi : i < ops.size
        · have hi' : i < done.size := by rw [inv.head.size]; exact hi
          have h1 : (doneBut ops n r)[i]? = some (decide (i < n) && decide (i ≠ r)) := by simp [doneBut, hi]
          rw [h1, Array.getElem?_eq_getElem hi']
          by_cases hin : i < n
          · by_cases hir : i = r
            · subst hir
              have := (mem_ready.1 hrr).1
              simp [hi'] at this
              simp [this]
            · have := hbut i hin hir
              simp [hi'] at this
              simp [hin, hir, this]
          · have := inv.head.tail i (by omega) hi
            simp [hi'] at this
            simp [hin, this]
        · rw [Array.getElem?_eq_none (by rw [inv.head.size]; omega), Array.getElem?_eq_none (by simp [doneBut]; omega)]
      obtain ⟨o, ho⟩ := hat r hr
      obtain ⟨v, hrun, hv⟩ := hlate o hr ho a w inv.cls hkeep (hdeps r o hr hrr ho)
      obtain ⟨q1, q2⟩ := hstep r o v w hr hrr ho hv (Below.refl _ w)
      have hw : Region.wanted o (yielded ops a.tmps) = true := by simp [Region.wanted, (hgd r o hr ho).1]
      have hfr := hlt8.resolve_left (by omega)
      rw [← hdn] at hfr
      exact wpAny_take ho hsel hfr.1 hfr.2 (fun c a w h => hQ c _ _ a w h) (.inl ⟨hw, hrun⟩) (ih _ _ _ q1 q2)
    · simp only [Classical.not_forall] at hbut
      obtain ⟨u, hu, hul, hud⟩ := hbut
      have hud' : done.getD u false = false := by
        have hi' : u < done.size := by rw [inv.head.size]; omega
        simp [hi'] at hud ⊢
        exact hud
      refine ⟨fun e => (by rw [e] at hrr; cases hrr), fun i hi => ?_⟩
      obtain ⟨hun, o, ho, hwait⟩ := mem_ready.1 hi
      have hin : i < n := Nat.lt_of_not_le fun h => by
        have his : i < ops.size := (Array.getElem?_eq_some_iff.1 ho).1
        have hw := ((hdir i his).resolve_left (by omega) u hu).resolve_left hul
        have := reach_done inv.head.closed u 9 i o ho hwait hw
        rw [hud'] at this
        cases this
      unfold wpOp
      rw [ho]
      have hw : Region.wanted o (yielded ops a.tmps) = true := by simp [Region.wanted, (hgd i o hin ho).1]
      simp only [hw, if_true]
      refine .inl (Oper.wp_mono ?_ (hop i o hin ho a w inv.cls hkeep (hdeps i o hin hi ho)))
      rintro a' w' ⟨v, rfl, hv, hB⟩
      obtain ⟨q1, q2⟩ := hstep i o v w' hin hi ho hv hB
      exact ih _ _ _ q1 q2

/-- The region, told as a flow. -/
theorem wp_region_flow9 {id : Nat} {Q : Exit → Act → World → Prop} {a : Act} {w : World} {l : List Oper} (n late : Nat) (I : Nat → Value → World → Prop) (hm : P.follows .mixedOrders = true) (hB : flowB9 l.toArray n late a.tmps.size = true)
    (hQ : ∀ c d v a w, Q (.panic c) (a.put d v) w → Q (.panic c) a w)
    (hI : ∀ i v w w', i < n → I i v w → Below w.heap.size w w' → I i v w')
    (hop : ∀ i o, i < n → l.toArray[i]? = some o → ∀ a' w', Cls w w' → (∀ s, (∀ j, j < n → dstOf l.toArray j ≠ some s) → a'.tmps.getD s undef = a.tmps.getD s undef) →
      (∀ j d, dstOf l.toArray j = some d → (o.after.any fun e => Region.binds .any e && e.on == j) = true → I j (a'.tmps.getD d undef) w') →
      o.wp P a' w' (fun a'' w'' => ∃ v, a'' = a'.put o.dst v ∧ I i v w'' ∧ Below w'.heap.size w' w'') Q)
    (hlate : ∀ o, late < n → l.toArray[late]? = some o → ∀ (a' : Act) w', Cls w w' → (∀ s, (∀ j, j < n → dstOf l.toArray j ≠ some s) → a'.tmps.getD s undef = a.tmps.getD s undef) →
      (∀ j d, dstOf l.toArray j = some d → (o.after.any fun e => Region.binds .any e && e.on == j) = true → I j (a'.tmps.getD d undef) w') → ∃ v, (∀ w, (execOp a'.eval o).run P w = .ok (.value v) w) ∧ I late v w')
    (htail : ∀ v w', Cls w w' → (∀ i d, i < n → dstOf l.toArray i = some d → I i (v i) w') → wpList P l.toArray Q (l.drop n) (putAll v (l.take n) 0 a) w') : (Code.region id l.toArray true).wp P Q a w := by
  have hB' := hB
  simp only [flowB9, Bool.and_eq_true, decide_eq_true_eq] at hB'
  have hn : n < l.length := by simpa using hB'.1.1.1.1.1
  have h3 : (l.drop n).length = l.toArray.size - n := by simp
  refine wp_region_any hm ?_
  have hc0 : (List.range n).countP (fun i => !(Array.replicate l.toArray.size false).getD i true) = n := by
    have : (List.range n).countP (fun i => !(Array.replicate l.toArray.size false).getD i true) = (List.range n).length := List.countP_eq_length.2 fun i hi => by
      have := List.mem_range.1 hi
      simp [show i < l.length by omega]
    rw [this, List.length_range]
  have K := flow_any9 (P := P) (Q := Q) (w0 := w) (a0 := a) hB hQ hI hop hlate (fun v w' hc hv => by
    have := wpAny_of_seq (P := P) (md := .any) (Q' := Q) (l.drop n) n _ _ w' (fun j => by simp [List.getElem?_drop]) (by rw [h3]; exact hB'.2) (htail v w' hc hv)
    rw [h3] at this
    simpa using this) n (Array.replicate l.toArray.size false) a { w with drawn := w.drawn + 1 } hc0
    ⟨⟨by simp, fun j oj _ hx => (by rw [getD_replicate_false] at hx; cases hx), fun t _ ht => getD_in (by simpa using ht) (getD_replicate_false _ _)⟩, ⟨(Below.refl _ w).drew⟩, rfl, rfl, fun _ _ => rfl, fun i _ hx => (by rw [getD_replicate_false] at hx; cases hx)⟩
  rwa [show n + (l.toArray.size - n) = l.toArray.size by simp; omega] at K
end
end Go.Proofs.YtfmecdmkepnlmaaDoor

/- The document's Root at lists of bits. -/
namespace Go.Proofs.YtfmecdmkepnlmaaDoor
open Go.RowKit Go.Shelf
set_option linter.unusedVariables false
set_option maxRecDepth 100000

theorem run_addc {P : Program} {o : Oper} {a : Act} {w : World} (t : TypeId) (x : Operand) (c : Nat) (ho : o.op = .binOp .add t x (.const (.int .i64 (c : Nat))) t) (n : Nat) (hx : a.eval x = .int .i64 (n : Nat)) (hn : n + c < 4611686018427387904) :
    (execOp a.eval o).run P w = .ok (.value (.int .i64 ((n + c : Nat) : Int))) w := by
  have hw : IntKind.i64.wrap ((n : Int) + (c : Int)) = (n : Int) + (c : Int) := by rw [IntKind.wrap_i64]; omega
  unfold execOp
  simp only [ho, hx, show a.eval (.const (.int .i64 (c : Nat))) = .int .i64 (c : Nat) from rfl]
  simp [go_sem, hw]
theorem run_quoc {P : Program} {o : Oper} {a : Act} {w : World} (t : TypeId) (x : Operand) (c : Nat) (ho : o.op = .binOp .quo t x (.const (.int .i64 (c : Nat))) t) (n : Nat) (hx : a.eval x = .int .i64 (n : Nat)) (hn : n < 4611686018427387904) (hc : 0 < c) :
    (execOp a.eval o).run P w = .ok (.value (.int .i64 ((n / c : Nat) : Int))) w := by
  have hq : n / c ≤ n := Nat.div_le_self _ _
  have hw : IntKind.i64.wrap (((n / c : Nat) : Int)) = ((n / c : Nat) : Int) := by generalize n / c = q at hq ⊢; rw [IntKind.wrap_i64]; omega
  have hc0 : ¬ c = 0 := by omega
  rw [Int.natCast_ediv] at hw
  unfold execOp
  simp only [ho, hx, show a.eval (.const (.int .i64 (c : Nat))) = .int .i64 (c : Nat) from rfl]
  simp [go_sem, hc0, hw]
set_option maxHeartbeats 1000000 in
theorem root_bits (n num : Nat) (ds : List Dt) (bs : List Bool) (r : List Nat) (sb sk : Value) (p : Nat) (w : World) (hD0 : DAt w (.mk 7 n ds) p) (hn : n ≤ 1048576) (hr : r.length = 32) (hI : IsT w sb bs) (hbl : bs.length ≤ 20000) :
    Calls Tryd.prog 9 #[.pointer (some ⟨p, 0, none⟩), .agg (valL num r sb sk).toArray] w fun e w' => e = .returned (.agg (nums .u8 (bitsR n bs))) ∧ Below w.heap.size w w' := by
  rw [DAt] at hD0
  obtain ⟨hd0, hd1, _⟩ := hD0
  have hTr := treeZ_rt ((n + 255) / 256) (chunks (putB bs false)) (chunks_rts _ (putB_byte bs false))
  obtain ⟨m, HM⟩ : ∃ m, Hid ((n + 255) / 256 = m) := ⟨_, hid rfl⟩
  obtain ⟨C, HC⟩ : ∃ C, Hid (chunks (putB bs false) = C) := ⟨_, hid rfl⟩
  have hmb : m ≤ 4096 := by rw [← HM.out]; omega
  have HT := hid (fun ao cap wq (h1 : C.length ≤ cap) (h2 : cap ≤ maxLen) (h3 : RootsAt wq ao C) => (show Calls Tryd.prog 43 #[.slice ao C.length cap, .int .i64 ((m : Nat) : Int)] wq fun e w' => e = .returned (.tuple #[.agg (nums .u8 (treeZ m C)), .bool (decide (C.length ≤ m))]) ∧ Below wq.heap.size wq w' by
    by_cases hle : C.length ≤ m
    · rw [treeZ, if_pos hle, decide_eq_true hle]
      exact rtree_any ao cap C (m : Nat) wq h1 h2 h3 (by omega) (by omega)
    · rw [treeZ, if_neg hle, decide_eq_false hle]
      exact rtree_bad ao cap C (m : Nat) wq h1 h2 (by omega) (by omega) (.inr (by omega))))
  unfold bitsR
  rw [HM.out, HC.out] at hTr ⊢
  obtain ⟨T, HTT⟩ : ∃ T, Hid (treeZ m C = T) := ⟨_, hid rfl⟩
  obtain ⟨ok, HOK⟩ : ∃ b, Hid (decide (C.length ≤ m) = b) := ⟨_, hid rfl⟩
  rw [HTT.out] at hTr ⊢
  rw [HTT.out, HOK.out] at HT
  have hpr := pr_rt T (wUp bs.length 8)
  have HMX := hid (fun w => rmix_any T bs.length hTr (by omega) w)
  obtain ⟨Z, HZ⟩ : ∃ Z, Hid (pr T (wUp bs.length 8) = Z) := ⟨_, hid rfl⟩
  rw [HZ.out] at hpr HMX ⊢
  obtain ⟨bao, bcap, hsb, hbc1, hbc2, _⟩ := hI.ex
  have HI := hid hI
  have HSB := hid hsb
  clear hI hsb hbc1 hbc2
  go_enter Tryd.func9, Tryd.ntmps9
  go_wp2_with ((with_reducible refine at_list' ?_); first
    | (refine wpList_box_c rfl 3 rfl (.tmp 1) rfl (valL num r sb sk) rfl ?_; intro w1 H1 B1 S1)
    | (refine wpList_alloc_has rfl 4 rfl 24 rfl .u8 32 Tryd.zero24 ?_; intro w2 H2 B2 S2; rw [S1] at H2 S2; rw [S1]; have hd02 := cell_keep B2 (cell_keep B1 hd0)))
  have L2 := hid (below_more B1 B2 (Nat.le_refl _))
  have HF := hid (And.intro (H1.keep B2) (And.intro hr (And.intro (HI.out.keep L2.out) (And.intro H2 hbl))))
  have HD := hid (cell_keep B2 (cell_keep B1 hd1))
  have s2 : w2.heap.size = w.heap.size + 2 := by omega
  clear H1 B1 B2 S1 S2 H2 hd0 hd1 hd02
  try simp only [Act.put, List.setIfInBounds_toArray, List.set_cons_succ, List.set_cons_zero]
  refine wp_region_flow 15 13 (fun i v wq => match i with
    | 0 => v = .pointer (some ⟨w.heap.size, 33, none⟩)
    | 1 => v = sb
    | 2 => IsB wq v (putB bs false)
    | 3 => ∃ ao cap, v = .slice ao C.length cap ∧ C.length ≤ cap ∧ cap ≤ maxLen ∧ RootsAt wq ao C
    | 4 => v = .pointer (some ⟨p, 0, none⟩)
    | 5 => v = .pointer (some ⟨p, 0, none⟩)
    | 6 => v = .pointer (some ⟨p, 1, none⟩)
    | 7 => v = .int .i64 (n : Nat)
    | 8 => v = .int .i64 ((n + 255 : Nat) : Int)
    | 9 => v = .int .i64 ((m : Nat) : Int)
    | 10 => v = .tuple #[.agg (nums .u8 T), .bool ok]
    | 11 => v = .tuple #[.agg (nums .u8 T), .bool ok]
    | 12 => v = .agg (nums .u8 T)
    | 13 => v = .bool ok
    | _ => ∃ g, w2.heap.size ≤ g ∧ v = .pointer (some ⟨g, 0, none⟩) ∧ Has wq g 24 .u8 (zeros 32)) (by kernel_rfl) (by kernel_rfl) (fun _ d _ _ _ h => by cases d <;> exact h) ?_ ?_ ?_ ?_
  · intro i v wq wq' hi hv hb
    match i, hi with
    | 0, _ => exact hv
    | 1, _ => exact hv
    | 2, _ => exact hv.keep hb
    | 3, _ => obtain ⟨ao, cap, h1, h2, h3, h4⟩ := hv; exact ⟨ao, cap, h1, h2, h3, h4.keep hb⟩
    | 4, _ => exact hv
    | 5, _ => exact hv
    | 6, _ => exact hv
    | 7, _ => exact hv
    | 8, _ => exact hv
    | 9, _ => exact hv
    | 10, _ => exact hv
    | 11, _ => exact hv
    | 12, _ => exact hv
    | 13, _ => exact hv
    | 14, _ => obtain ⟨g, h1, h2, h3⟩ := hv; exact ⟨g, h1, h2, h3.keep hb⟩
    | (k + 15), hk => exact absurd hk (by omega)
  · intro i o hi ho aq wq hc hk hdep
    match i, hi with
    | 0, _ =>
      cases ho
      have e1 : aq.tmps.getD 3 undef = .pointer (some ⟨w.heap.size, 0, none⟩) := hk 3 (by decide)
      exact flow_value _ (run_fieldAt 40 (.tmp 3) 2 rfl _ _ e1 (by kernel_rfl)) rfl
    | 1, _ =>
      cases ho
      have e0 : aq.tmps.getD 48 undef = .pointer (some ⟨w.heap.size, 33, none⟩) := hdep 0 48 rfl (by kernel_rfl)
      exact flow_value _ (run_cell 37 (.tmp 48) rfl _ e0 _ ((HF.out.1.keep (hcB hc)).cell (valL_33 num r sb sk HF.out.2.1)) _ Tryd.underlying37 rfl) rfl
    | 2, _ =>
      cases ho
      have e0 : aq.tmps.getD 49 undef = sb := hdep 1 49 rfl (by kernel_rfl)
      refine flow_fun 40 _ _ rfl (fun _ _ => by simp [go_sem]) #[sb, .bool false] (by rw [show (#[Operand.tmp 49, Operand.const (.bool false)] : Array Operand).map aq.eval = #[aq.tmps.getD 49 undef, .bool false] from by simp [Act.eval], e0]) ?_
      refine (rputBits_any sb bs false wq (HF.out.2.2.1.keep (hcB hc)) (by have := HF.out.2.2.2.2; omega)).mono ?_
      rintro x w' ⟨v, rfl, h1, q⟩
      exact ⟨v, rfl, h1.isB (putB_byte bs false), q⟩
    | 3, _ =>
      cases ho
      have hB : IsB wq (aq.tmps.getD 50 undef) (putB bs false) := hdep 2 50 rfl (by kernel_rfl)
      obtain ⟨⟨ao, cap, e0, h1, h2, h3, h4⟩, h5⟩ := hB
      refine flow_fun 39 _ _ rfl (fun _ _ => by simp [go_sem]) #[.slice ao (putB bs false).length cap] (by rw [show (#[Operand.tmp 50] : Array Operand).map aq.eval = #[aq.tmps.getD 50 undef] from by simp [Act.eval], e0]) ?_
      refine (rchunks_any ao cap (putB bs false) wq h1 h2 (by have := HF.out.2.2.2.2; rw [putB_length]; simp; omega) h5 h4).mono ?_
      rintro x w' ⟨v, rfl, h6, q⟩
      obtain ⟨_, ao2, cap2, e2, h7, h8, h9⟩ := RootsAt.own (chunks_rts _ h5) h6
      rw [HC.out] at e2 h7 h9
      exact ⟨v, rfl, ⟨ao2, cap2, e2, h7, h8, h9⟩, q⟩
    | 4, _ =>
      cases ho
      exact flow_move (.tmp 0) rfl (hk 0 (by decide))
    | 5, _ =>
      cases ho
      have e0 : aq.tmps.getD 52 undef = .pointer (some ⟨p, 0, none⟩) := hdep 4 52 rfl (by kernel_rfl)
      exact flow_value _ (run_nilOk (.tmp 52) rfl _ e0) rfl
    | 6, _ =>
      cases ho
      have e0 : aq.tmps.getD 53 undef = .pointer (some ⟨p, 0, none⟩) := hdep 5 53 rfl (by kernel_rfl)
      exact flow_value _ (run_fieldAt 79 (.tmp 53) 1 rfl _ _ e0 (by kernel_rfl)) rfl
    | 7, _ =>
      cases ho
      have e0 : aq.tmps.getD 54 undef = .pointer (some ⟨p, 1, none⟩) := hdep 6 54 rfl (by kernel_rfl)
      exact flow_value _ (run_cell 3 (.tmp 54) rfl _ e0 _ (cell_keep (hcB hc) HD.out) _ Tryd.underlying3 rfl) rfl
    | 8, _ =>
      cases ho
      have e0 : aq.tmps.getD 55 undef = .int .i64 (n : Nat) := hdep 7 55 rfl (by kernel_rfl)
      exact flow_value _ (run_addc 3 (.tmp 55) 255 rfl n e0 (by omega)) rfl
    | 9, _ =>
      cases ho
      have e0 : aq.tmps.getD 56 undef = .int .i64 ((n + 255 : Nat) : Int) := hdep 8 56 rfl (by kernel_rfl)
      refine flow_value _ (run_quoc 3 (.tmp 56) 256 rfl (n + 255) e0 (by omega) (by decide)) ?_
      rw [HM.out]
      rfl
    | 10, _ =>
      cases ho
      obtain ⟨ao, cap, e0, h1, h2, h3⟩ := hdep 3 51 rfl (by kernel_rfl)
      have e1 : aq.tmps.getD 57 undef = .int .i64 ((m : Nat) : Int) := hdep 9 57 rfl (by kernel_rfl)
      refine flow_fun 43 _ _ rfl (fun _ _ => by simp [go_sem]) #[.slice ao C.length cap, .int .i64 ((m : Nat) : Int)] (by rw [show (#[Operand.tmp 51, Operand.tmp 57] : Array Operand).map aq.eval = #[aq.tmps.getD 51 undef, aq.tmps.getD 57 undef] from by simp [Act.eval], e0, e1]) ?_
      refine (HT.out ao cap wq h1 h2 h3).mono ?_
      rintro x w' ⟨rfl, q⟩
      exact ⟨_, rfl, rfl, q⟩
    | 11, _ =>
      cases ho
      have e0 : aq.tmps.getD 58 undef = .tuple #[.agg (nums .u8 T), .bool ok] := hdep 10 58 rfl (by kernel_rfl)
      exact flow_move (.tmp 58) rfl e0
    | 12, _ =>
      cases ho
      have e0 : aq.tmps.getD 47 undef = .tuple #[.agg (nums .u8 T), .bool ok] := hdep 11 47 rfl (by kernel_rfl)
      exact flow_extract (.tmp 47) 0 _ _ rfl e0 rfl rfl
    | 13, _ =>
      cases ho
      have e0 : aq.tmps.getD 47 undef = .tuple #[.agg (nums .u8 T), .bool ok] := hdep 11 47 rfl (by kernel_rfl)
      exact flow_extract (.tmp 47) 1 _ _ rfl e0 rfl rfl
    | 14, _ =>
      cases ho
      exact flow_alloc 24 rfl .u8 32 Tryd.zero24 (fun w' h1 h2 => ⟨wq.heap.size, (hcB hc).size, rfl, h1⟩)
    | (k + 15), hk => exact absurd hk (by omega)
  · intro o _ ho a' w' hc hk hdep
    cases ho
    have e0 : a'.tmps.getD 47 undef = .tuple #[.agg (nums .u8 T), .bool ok] := hdep 11 47 rfl (by kernel_rfl)
    exact ⟨.bool ok, fun w => run_extract (.tmp 47) 1 _ _ rfl e0 rfl, rfl⟩
  intro vf w8 hc hv
  have e12 : vf 12 = _ := hv 12 59 (by decide) rfl
  have e13 : vf 13 = _ := hv 13 60 (by decide) rfl
  obtain ⟨g, hg, e14, hG⟩ : ∃ g, w2.heap.size ≤ g ∧ vf 14 = .pointer (some ⟨g, 0, none⟩) ∧ Has w8 g 24 .u8 (zeros 32) := hv 14 6 (by decide) rfl
  have B8 := hcB hc
  have hX8 := HF.out.1.keep B8
  have hA8 := HF.out.2.2.2.1.keep B8
  have L8 := L2.out.trans (B8.mono L2.out.size)
  have hL8 := B8.size
  clear hv hc
  simp only [List.take_succ_cons, List.take_zero, List.drop_succ_cons, List.drop_zero, putAll, Act.put, List.setIfInBounds_toArray, List.set_cons_succ, List.set_cons_zero]
  rw [e12, e13, e14]
  have hgne : ¬ w.heap.size = g := by omega
  clear e12 e13 e14 B8
  go_wp2_with ((with_reducible refine at_list' ?_); first
    | (refine wpList_store_has rfl 24 (.tmp 6) (.tmp 59) rfl g .u8 T (zeros 32) rfl rfl 24 hG (hTr.size _ Tryd.size24) (by rw [hTr.len, zeros_length]) ?_; intro w9 H9 O9; have hk33 := (hX8.only O9 hgne).cell (valL_33 num r sb sk hr); rw [HSB.out] at hk33)
    | (refine wpList_load_has rfl 24 (.tmp 6) rfl g .u8 T rfl 24 H9 _ _ Tryd.underlying24 (hTr.size _ Tryd.size24) ?_))
  refine (HMX.out w9).mono ?_
  rintro e w10 ⟨rfl, B10⟩
  have hA10 := (hA8.only O9 (by omega)).keep B10
  have L9 := below_only L8 O9 (by omega)
  have L10 := hid (L9.trans (B10.mono L9.size))
  clear hX8 hA8 L8 L9 B10 O9 H9 hG hk33
  go_wp2_with ((with_reducible refine at_list' ?_); first
    | (refine wpList_store_has rfl 24 (.tmp 4) (.tmp 66) rfl (w.heap.size + 1) .u8 Z (zeros 32) rfl rfl 24 hA10 (hpr.size _ Tryd.size24) (by rw [hpr.len, zeros_length]) ?_; intro w11 H11 O11))
  refine bodyPost_ret (results_has rfl _ _ (w.heap.size + 1) 24 .u8 Z _ _ rfl H11 Tryd.underlying24 (hpr.size _ Tryd.size24)) rfl ?_
  exact ⟨rfl, below_only L10.out O11 (by omega)⟩
end Go.Proofs.YtfmecdmkepnlmaaDoor

/- The tree of leaves, beyond their limit too, by the program. -/
namespace Go.Proofs.YtfmecdmkepnlmaaDoor
open Go.RowKit
set_option linter.unusedVariables false
set_option maxRecDepth 100000

set_option maxHeartbeats 1000000 in
theorem tre_of (v : Value) (m : Int) (W : List Nat) (en : Int) (w : World) (hW : Rt W) (h : ∀ w1, Below w.heap.size w w1 → Calls Tryd.prog 65 #[v, .int .i64 m] w1 fun e w' => e = .returned (.tuple #[.agg (nums .u8 W), .int .i64 en]) ∧ Below w1.heap.size w1 w') :
    Calls Tryd.prog 55 #[v, .int .i64 m] w fun e w' => e = .returned (.agg (nums .u8 W)) ∧ Below w.heap.size w w' := by
  have HC := hid h
  clear h
  go_enter Tryd.func55, Tryd.ntmps55
  go_wp2_with ((with_reducible refine at_list' ?_); first
    | (refine wpList_alloc_has rfl 4 rfl 25 rfl .u8 32 Tryd.zero25 ?_; intro w1 H1 B1 S1))
  refine (HC.out w1 B1).mono ?_
  rintro e w2 ⟨rfl, B2⟩
  have H2 := H1.keep B2
  have HW2 := below_more B1 B2 (Nat.le_refl _)
  have s2 := H2.lt
  clear HC H1 B1 S1 B2
  go_wp2_with ((with_reducible refine at_list' ?_); first
    | (refine wpList_alloc_has rfl 5 rfl 25 rfl .u8 32 Tryd.zero25 ?_; intro w3 H3 B3 S3)
    | (refine wpList_store_has rfl 25 (.tmp 5) (.tmp 11) rfl w2.heap.size .u8 W (zeros 32) rfl rfl 25 H3 (hW.size _ Tryd.size25) (by rw [hW.len, zeros_length]) ?_; intro w4 H4 O4)
    | (refine wpList_load_has rfl 25 (.tmp 5) rfl w2.heap.size .u8 W rfl 25 H4 _ _ Tryd.und25 (hW.size _ Tryd.size25) ?_)
    | (refine wpList_store_has rfl 25 (.tmp 4) (.tmp 13) rfl w.heap.size .u8 W (zeros 32) rfl rfl 25 ((H2.keep B3).only O4 (by omega)) (hW.size _ Tryd.size25) (by rw [hW.len, zeros_length]) ?_; intro w5 H5 O5))
  refine bodyPost_ret (results_has rfl _ _ w.heap.size 25 .u8 W _ _ rfl H5 Tryd.und25 (hW.size _ Tryd.size25)) rfl ?_
  exact ⟨rfl, below_only (below_only (below_more HW2 B3 (Nat.le_refl _)) O4 (by omega)) O5 (by omega)⟩
theorem treZ_any (ao : Option Addr) (cap : Nat) (rs : List (List Nat)) (m : Nat) (w : World) (hT : Tabs w) (hcap : rs.length ≤ cap) (hm : cap ≤ maxLen) (hlen : rs.length ≤ 1048576) (hmm : m ≤ 1048576) (hR : RootsAt w ao rs) :
    Calls Tryd.prog 55 #[.slice ao rs.length cap, .int .i64 (m : Nat)] w fun e w' => e = .returned (.agg (nums .u8 (treeZ m rs))) ∧ Below w.heap.size w w' := by
  by_cases hle : rs.length ≤ m
  · rw [treeZ, if_pos hle]
    exact tre_of _ _ _ 0 w (full_rt _ _ hR.rts) (fun w1 hb => tree_any ao cap rs (m : Nat) w1 (hT.keep hb) hcap hm (by omega) (hR.keep hb) (by omega) (by omega))
  · rw [treeZ, if_neg hle]
    exact tre_of _ _ _ 4 w zero_rt (fun w1 hb => tree_bad ao cap rs (m : Nat) w1 hcap hm (by omega) (by omega) (.inr (by omega)))
end Go.Proofs.YtfmecdmkepnlmaaDoor

/- slices.Collect of the chunks of any bytes; the chunks of bytes, by the program. -/
namespace Go.Proofs.YtfmecdmkepnlmaaDoor
open Go.RowKit Go.Shelf
set_option linter.unusedVariables false
set_option maxRecDepth 100000
attribute [local go_sem] Oper.semAt_some

theorem run_one_root {P : Program} {w : World} {o : Oper} {a : Act} (t e : TypeId) (x : Operand) (ho : o.op = .buildSlice t 1 #[(0, x)]) (hu : P.underlying t = some (.slice e))
    (hi : (P.info? e).map (fun i => (i.zero, i.size, i.bytes)) = some (some (.agg (nums .u8 (zeros 32))), 32, 32)) (r : List Nat) (hx : a.eval x = .agg (nums .u8 r)) (hr : r.length = 32) :
    (execOp a.eval o).run P w = .ok (.value (.slice (some ⟨w.heap.size, 0, none⟩) 1 1)) (w.alloc (.cells (nums .u8 r) e)) := by
  obtain ⟨i0, hi0, hz0, hz1, hz2⟩ : ∃ i, P.info? e = some i ∧ i.zero = some (.agg (nums .u8 (zeros 32))) ∧ i.size = 32 ∧ i.bytes = 32 := by
    cases hq : P.info? e with
    | none => simp [hq] at hi
    | some i => simp [hq] at hi; exact ⟨i, rfl, hi.1, hi.2.1, hi.2.2⟩
  have h := run_buildSlice (P := P) w t e 1 ((#[(0, x)] : Array (Nat × Operand)).map fun (i, x) => (i, a.eval x)) (nums .u8 r) i0 (.agg (nums .u8 (zeros 32))) hu hi0 hz0 (by rw [hz1]; omega) (by rw [hz1]; omega) ?_
  · unfold execOp
    simp only [ho]
    simp only [Sem.run_bind, h, Result.andThen_ok, Sem.run_pure]
  rw [hz1]
  have e1 : ((Array.range (1 * 32)).map ((Value.agg (nums .u8 (zeros 32))).cells[· % (Value.agg (nums .u8 (zeros 32))).cells.size]!)) = nums .u8 (zeros 32) := by
    apply Array.toList_inj.1
    have := madeZ 1
    unfold madeCells at this
    rw [this]
    simp [nums]
  rw [e1]
  have e2 : (#[(0, x)] : Array (Nat × Operand)).map (fun (i, x) => (i, a.eval x)) = #[(0, .agg (nums .u8 r))] := by simp [hx]
  rw [e2]
  have hc : (Value.agg (nums .u8 r)).cells = nums .u8 r := rfl
  simp only [Instr.fill, hc, nums_size, hr, zeros_length]
  rw [if_neg (by simp)]
  congr 1
  rw [← Array.foldl_toList, Array.toList_zipIdx]
  have h3 := fold_setV (nums .u8 r).toList 0 (nums .u8 (zeros 32))
  have h4 := setV_nums .u8 (zeros 32) r 0 (by rw [zeros_length, hr]; omega)
  rw [over_all _ _ (by rw [zeros_length, hr])] at h4
  refine Eq.trans ?_ (h3.trans h4)
  simp
theorem run_call_append {P : Program} {w w' : World} {o : Oper} {a : Act} (x y : Operand) (t tx : TypeId) (ho : o.op = .call { callee := .builtin .append, args := #[x, y], argTypes := #[t, tx] }) (u v v' : Value) (hx : a.eval x = u) (hy : a.eval y = v)
    (hr : (Builtin.append_ #[t, tx] o.type #[u, v]).run P w = .ok v' w') : (execOp a.eval o).run P w = .ok (.value v') w' := by
  unfold execOp
  simp only [ho, resolve, invoke, builtin, Sem.run_bind, Sem.run_pure, Result.andThen_ok, List.map_toArray, List.map_cons, List.map_nil, hx, hy, hr]
theorem root_src {w : World} {g : Nat} {x : List Nat} (h : Has w g 25 .u8 x) (hx : x.length = 32) : Src Tryd.prog 32 96 (.slice (some ⟨g, 0, none⟩) 1 1) 1 (cellsOf [x]) w := by
  refine Src.ofSlice w Tryd.underlying96 ⟨g, 0, none⟩ 1 1 _ (by simp [cellsOf, hx]) (fun j u hj => ?_) (cellsOf_one [x])
  have hjl : j < x.length := by
    by_cases hjl : j < x.length
    · exact hjl
    · rw [List.getElem?_eq_none (by simp [cellsOf]; omega)] at hj; cases hj
  rw [Addr.add_lit, Nat.zero_add, h.cell j hjl]
  simpa [cellsOf, hjl] using hj

theorem not_cells {W : World} {p : Addr} {v : Value} {o : Obj} (h : W.cell? p = some v) (ho : W.heap[p.block]? = some o) (hc : o.isCells = false) : False := by
  simp only [World.cell?, ho] at h
  cases o <;> simp [Obj.isCells] at hc h
theorem Reads.kept {W W' : World} {row : Option Nat} {ao : Option Addr} {zs : List Nat} (h : Reads W ao zs) (hg : W.grownBy W' row) (hr : ∀ r, row = some r → ∃ o : Obj, W.heap[r]? = some o ∧ o.isCells = false) : Reads W' ao zs := by
  rcases h with h | ⟨b, off, rfl, hc⟩
  · exact .inl h
  · refine .inr ⟨b, off, rfl, fun i hi => hg.cell (hc i hi) (fun e => ?_)⟩
    obtain ⟨o, ho, hk⟩ := hr b e.symm
    exact not_cells (hc i hi) ho hk
set_option maxHeartbeats 1000000 in
theorem appSeq_any (c cap : Nat) (ao : Option Addr) (bs : List Nat) (w : World) (h8 : ∀ z ∈ bs, z < 256) (hlen : bs.length ≤ 1048576) (hcap : bs.length ≤ cap) (hm : cap ≤ maxLen) (hc : w.cell? ⟨c, 0, none⟩ = some (.slice ao bs.length cap)) (hR : Reads w ao bs) :
    CallsIn Fence.wide 5 Tryd.prog 81 #[.slice none 0 0, .func (.func 83) #[] #[.pointer (some ⟨c, 0, none⟩)]] w fun e w' => ∃ v, e = .returned v ∧ w'.ownsRow w.heap.size 25 32 v (chunks bs).length (cellsOf (chunks bs)) ∧ Below w.heap.size w w' := by
  refine callsIn_of_wp_marks Tryd.func81 rfl trivial ?_ rfl
  simp only [Tryd.ntmps81, List.size_toArray, List.length_cons, List.length_nil, Nat.reduceAdd, Nat.reduceSub, Array.replicate_succ, Array.replicate_zero, List.push_toArray, List.append_toArray, List.nil_append, List.cons_append]
  gi_wp2_with fail
  have BA : Below w.heap.size w (w.alloc (.cells #[.slice none 0 0] 96)) := (Below.refl _ w).alloc (Nat.le_refl _) _
  have X0 : Go.Boxed (w.alloc (.cells #[.slice none 0 0] 96)) w.heap.size 96 (.slice none 0 0) := Go.Boxed.new w _ _
  have S0 : (w.alloc (.cells #[.slice none 0 0] 96)).heap.size = w.heap.size + 1 := by simp
  have C0 := (BA.cell (p := ⟨c, 0, none⟩) (block_lt_of_cell hc)).trans hc
  have R0 := hR.keep BA
  have hcl : c < w.heap.size := block_lt_of_cell hc
  have hchl := chunks_length bs
  generalize w.alloc (.cells #[.slice none 0 0] 96) = w0 at *
  refine wpIn_rangeFunc_ownH rfl (by decide) (gf := 83) (lb := #[.pointer (some ⟨c, 0, none⟩)]) rfl trivial (enters_of Tryd.func83 (by kernel_rfl) rfl)
    (encs := fun x : RtV => #[.agg (nums .u8 x.1)]) (Kp := KeepsOwn c ao bs) (S := fun ys => ys.map Subtype.val = chunks bs) (Sp := fun pre => pre.map Subtype.val = (chunks bs).take pre.length) (N := (chunks bs).length) (w0 := w0)
    (fun l J Jx W hW hJ _ hY h0 => chunkI_in Fence.wide _ trivial rfl (by decide) l c cap ao bs h8 (by omega) hcap hm W J Jx hJ hY ((hW.cell (p := ⟨c, 0, none⟩) (block_lt_of_cell C0)).trans C0) (R0.keep hW) h0)
    KeepsOwn.trans ?kb (Below.refl _ _) (fun _ => rfl)
    (fun pre W => (∃ v, Go.Boxed W w.heap.size 96 v ∧ W.ownsRow w.heap.size 25 32 v pre.length (cellsOf (pre.map Subtype.val)) ∧ True) ∧ Below w.heap.size w W)
    (fun _ _ _ => False)
    (OwnFrom.and (Own.from (holdsRow_own w.heap.size w.heap.size 96 25 32 (fun s : List RtV => s.length) (fun s => cellsOf (s.map Subtype.val)) (fun _ _ => True)) _) (ownFrom_below (Nat.le_refl _) (by omega)))
    (fun _ _ _ _ _ hs _ _ => hs) ⟨⟨_, X0, World.ownsRow_nil _ _ _ _, trivial⟩, BA⟩
    (fun x a' W => ∃ g, w.heap.size ≤ g ∧ Has W g 25 .u8 x.1 ∧ a' = { tmps := #[.slice none 0 0, .func (.func 83) #[] #[.pointer (some ⟨c, 0, none⟩)], .pointer (some ⟨w.heap.size, 0, none⟩), undef, .slice none 0 0, .pointer (some ⟨g, 0, none⟩), .func (.func 83) #[] #[.pointer (some ⟨c, 0, none⟩)], .agg (nums .u8 x.1), undef, undef, undef, undef, undef], defers := [] })
    (fun x a' => Own.from (fun s A B row ⟨g, h1, h2, h3⟩ hg hr => ⟨g, h1, heap_kept h2 hg hr, h3⟩) _) ?assign ?body ?done ?stop
  case kb =>
    intro W l o o' hl h hk _
    exact ⟨World.cell?_of_block (World.putObj_heap_other (fun e => by simp at e; omega)), fun hh => hh.kept (grownBy_putObj' W l o') (fun r e => by cases e; exact ⟨o, h, hk⟩)⟩
  case assign =>
    rintro l pre x W K ⟨⟨v, hX, hown, _⟩, hB⟩ hK
    have hrt := x.2
    have B1 : Below W.heap.size W (W.alloc (.cells (nums .u8 (zeros 32)) 25)) := (Below.refl _ _).alloc (Nat.le_refl _) _
    have H1 : Has (W.alloc (.cells (nums .u8 (zeros 32)) 25)) W.heap.size 25 .u8 (zeros 32) := heap_alloc_new W _
    have hs32 : (nums .u8 x.1).size = 32 := by rw [nums_size, hrt.len]
    have ksc := run_storeCells_from (P := Tryd.prog) W.heap.size 25 (nums .u8 x.1).toList 0 (nums .u8 (zeros 32)) (W.alloc (.cells (nums .u8 (zeros 32)) 25)) H1 (by rw [Array.length_toList, hs32, nums_size, zeros_length]) (fun v hv => (Array.all_eq_true_iff_forall_mem.1 (nums_one .u8 x.1)) v (by simpa using hv))
    rw [List.take_zero, List.nil_append, Array.toArray_toList] at ksc
    have B2 : Below W.heap.size W ((W.alloc (.cells (nums .u8 (zeros 32)) 25)).setRow W.heap.size (nums .u8 x.1)) := below_only B1 (Only.setRow _ _ _) (Nat.le_refl _)
    have H2 : Has ((W.alloc (.cells (nums .u8 (zeros 32)) 25)).setRow W.heap.size (nums .u8 x.1)) W.heap.size 25 .u8 x.1 := setRow_heap _ _ _ _ _ _ H1
    gi_wp2
    rename_i K2 hK2
    erw [ksc]
    simp only [Result.andThen_ok, Oper.uponIn_skip]
    refine hK2 _ _ ?_
    gi_wp2
    have hBB := hB.trans (B2.mono hB.size)
    exact hK _ _ ⟨B2.size, fun k o _ hk ho => (B2.block k (Array.getElem?_eq_some_iff.1 hk).1).trans hk⟩ ⟨B2.cell (p := ⟨c, 0, none⟩) (by show c < W.heap.size; have := hB.size; omega), fun h => h.keep B2⟩ ⟨⟨v, (B2.block _ hX.lt).trans hX, own_keep hown B2, trivial⟩, hBB⟩ ⟨W.heap.size, hB.size, H2, rfl⟩
  case body =>
    rintro l pre x a' W hl ⟨r, hr⟩ ⟨⟨v, hX, hown, _⟩, hB⟩ ⟨g, hg, hH, rfl⟩ hlt
    have hvc := hX.cell
    have hrt := x.2
    have HB1 : Has (W.alloc (.cells (nums .u8 x.1) 25)) W.heap.size 25 .u8 x.1 := heap_alloc_new W _
    have hown1 := hown.alloc (.cells (nums .u8 x.1) 25)
    obtain ⟨i0, hi, hz0, hz1, hz2⟩ := info_parts Tryd.rootInfo
    obtain ⟨v', w1, hrun, hown', hgrow, hmov⟩ := run_append_any (P := Tryd.prog) (W.alloc (.cells (nums .u8 x.1) 25)) w.heap.size 96 96 96 25 i0 (.agg (nums .u8 (zeros 32))) 32 32 Tryd.underlying96 hi hz0 hz1 hz2 (by rw [show (Value.agg (nums .u8 (zeros 32))).cells = nums .u8 (zeros 32) from rfl, nums_size, zeros_length]) (by decide) v pre.length _ hown1 (.slice (some ⟨W.heap.size, 0, none⟩) 1 1) 1 (cellsOf [x.1]) (root_src HB1 hrt.len) (by unfold maxLen; omega) (by omega) (by have := hB.size; simp; omega)
    obtain ⟨q1, q2, q3, q4, q5⟩ := Go.Boxed.appended hX (by decide) hown hB.size (Nat.le_refl _) hown' hgrow
    obtain ⟨g1, cap1, rfl⟩ := ownsRow_succ hown'
    have h1c := q1.cell
    have h1f := q1.frozen
    have hLL := hB.trans q5
    have hcs : cellsOf (pre.map Subtype.val) ++ cellsOf [x.1] = cellsOf ((pre ++ [x]).map Subtype.val) := by rw [← cellsOf_append, List.map_append]; rfl
    rw [hcs] at q3
    have hln : (pre ++ [x]).length = pre.length + 1 := by simp
    have HQ := hid (And.intro q2 (And.intro q3 (And.intro q4 (And.intro q5 (And.intro hLL hln)))))
    have HRN := hid hrun
    clear q2 q3 q4 q5 hLL hcs hln hgrow hown' hown1 hown hmov
    gi_wp2_with (first
      | (refine wpListIn_run rfl rfl (fun _ h => by cases h) _ _ (run_load_has 25 (.tmp 5) rfl g .u8 x.1 rfl 25 hH _ _ Tryd.und25 (by rw [hrt.len]; exact Tryd.size25)) ?_)
      | (refine wpListIn_run rfl rfl (fun _ h => by cases h) _ _ (run_one_root 96 25 (.tmp 9) rfl Tryd.underlying96 Tryd.rootInfo x.1 rfl hrt.len) ?_)
      | (refine wpListIn_run rfl rfl (fun _ h => by cases h) _ _ (run_call_append (.tmp 8) (.tmp 10) 96 96 rfl _ _ _ rfl rfl HRN.out) ?_))
    refine ⟨HQ.out.2.2.1.from _, ⟨HQ.out.2.2.2.1.cell (p := ⟨c, 0, none⟩) hcl, fun _ => hR.keep HQ.out.2.2.2.2.1⟩, ⟨⟨_, HQ.out.1, ?_, trivial⟩, HQ.out.2.2.2.2.1⟩⟩
    rw [HQ.out.2.2.2.2.2]
    exact HQ.out.2.1
  case done =>
    rintro D ys W hD hdn ⟨⟨v, hX, hown, _⟩, hB⟩ hK
    have hvc := hX.cell
    gi_wp2
    refine ⟨by simp, .inl ⟨_, _, rfl, run_takeDeferred hK, ?_⟩⟩
    refine ⟨_, results_tmp rfl _ _ _, v, rfl, ?_, hB.trans (belowK_b (w := w) (Nat.le_refl _) W D _ _ (by omega) hK rfl rfl)⟩
    have h := ownsRow_putObj hown (.deferred none) hK rfl
    rw [hdn] at h
    rw [← hdn, List.length_map]
    rw [← hdn] at h
    exact h
  case stop =>
    rintro D c pre W _ _ h _
    exact h.elim
end Go.Proofs.YtfmecdmkepnlmaaDoor

/- Bytes as roots, by the program: Collect, chunks. -/
namespace Go.Proofs.YtfmecdmkepnlmaaDoor
open Go.RowKit
set_option linter.unusedVariables false
set_option maxRecDepth 100000

set_option maxHeartbeats 1000000 in
theorem collect_any (c cap : Nat) (ao : Option Addr) (bs : List Nat) (w : World) (h8 : ∀ z ∈ bs, z < 256) (hlen : bs.length ≤ 1048576) (hcap : bs.length ≤ cap) (hm : cap ≤ maxLen) (hc : w.cell? ⟨c, 0, none⟩ = some (.slice ao bs.length cap)) (hR : Reads w ao bs) :
    Calls Tryd.prog 73 #[.func (.func 83) #[] #[.pointer (some ⟨c, 0, none⟩)]] w fun e w' => ∃ v, e = .returned v ∧ w'.ownsRow w.heap.size 25 32 v (chunks bs).length (cellsOf (chunks bs)) ∧ Below w.heap.size w w' := by
  have HC := hid (callsIn_wide.1 (appSeq_any c cap ao bs w h8 hlen hcap hm hc hR))
  clear hm hc hR h8 hcap hlen
  go_enter Tryd.func73, Tryd.ntmps73
  go_wp2_with fail
  refine HC.out.mono ?_
  rintro e w1 ⟨v, rfl, h1, B1⟩
  have X := hid (And.intro h1 B1)
  clear h1 B1
  go_wp2
  go_ret
  exact ⟨_, rfl, X.out.1, X.out.2⟩
set_option maxHeartbeats 1000000 in
theorem chunksR_any (v : Value) (bs : List Nat) (w : World) (hB : IsB w v bs) (hlen : bs.length ≤ 1048576) : Calls Tryd.prog 66 #[v] w fun e w' => ∃ v', e = .returned v' ∧ w'.ownsRow w.heap.size 25 32 v' (chunks bs).length (cellsOf (chunks bs)) ∧ Below w.heap.size w w' := by
  obtain ⟨⟨ao, cap, rfl, hcap, hmx, hnil, hR⟩, h8⟩ := hB
  have HC := hid (chunks_any ao cap bs w hnil hcap (by omega) hR)
  have H8 := hid h8
  have HL := hid hlen
  clear hR h8 hlen
  go_enter Tryd.func66, Tryd.ntmps66
  go_wp2_with fail
  refine HC.out.mono ?_
  rintro e w1 ⟨c, v, hc, rfl, hv, ⟨ao1, cap1, rfl, h1, h2, h3⟩, B1⟩
  have HD := hid (collect_any c cap1 ao1 bs w1 H8.out HL.out h1 h2 hv h3)
  clear HC hv h1 h2 h3
  go_wp2_with fail
  refine HD.out.mono ?_
  rintro e w2 ⟨v2, rfl, h4, B2⟩
  have X := hid (And.intro h4 (B1.trans (B2.mono B1.size)))
  have hs := B1.size
  clear h4 B2 HD
  go_wp2
  go_ret
  refine ⟨_, rfl, ⟨X.out.1.1, ?_⟩, X.out.2⟩
  rcases X.out.1.2 with h | ⟨g, cap, cur, e, hb, rest⟩
  · exact .inl h
  · exact .inr ⟨g, cap, cur, e, Nat.le_trans hs hb, rest⟩
end Go.Proofs.YtfmecdmkepnlmaaDoor

/- The root of a list of numbers, by the program. -/
namespace Go.Proofs.YtfmecdmkepnlmaaDoor
open Go.RowKit
set_option linter.unusedVariables false
set_option maxRecDepth 100000

/-- A slice of numbers. -/
structure IsN (w : World) (v : Value) (ns : List Nat) : Prop where
  ex : ∃ ao cap, v = .slice ao ns.length cap ∧ ns.length ≤ cap ∧ cap ≤ maxLen ∧ (ns.length = 0 ∨ ∃ b off, ao = some ⟨b, off, none⟩ ∧ ∀ i, i < ns.length → w.cell? ⟨b, off + i, none⟩ = some (.int .u64 (ns.getD i 0 : Nat)))
  by64 : ∀ n ∈ ns, n < 18446744073709551616
theorem IsN.keep {w w' : World} {v : Value} {ns : List Nat} (h : IsN w v ns) (hb : Below w.heap.size w w') : IsN w' v ns := by
  obtain ⟨⟨ao, cap, e, h1, h2, h3⟩, h4⟩ := h
  refine ⟨⟨ao, cap, e, h1, h2, ?_⟩, h4⟩
  rcases h3 with h3 | ⟨b, off, e2, hc⟩
  · exact .inl h3
  · exact .inr ⟨b, off, e2, fun i hi => cell_keep hb (hc i hi)⟩
set_option maxHeartbeats 1000000 in
theorem packed_any (v : Value) (ns : List Nat) (w : World) (hN : IsN w v ns) (hl : ns.length ≤ 2000) :
    Calls Tryd.prog 56 #[v] w fun e w' => ∃ v', e = .returned v' ∧ w'.ownsRow w.heap.size 25 32 v' (chunks (numB ns)).length (cellsOf (chunks (numB ns))) ∧ Below w.heap.size w w' := by
  obtain ⟨⟨ao, cap, rfl, hcap, hmx, hc⟩, h64⟩ := hN
  have HC := hid hc
  have H64 := hid h64
  clear hc h64
  go_enter Tryd.func56, Tryd.ntmps56
  go_wp2_with fail
  go_loopw [3, 5, 8] (fun b _ i wr => ∃ t : Nat, t ≤ ns.length ∧ i = .int .i64 t ∧ Row wr w.heap.size b (numB (ns.take t)) ∧ Below w.heap.size w wr) (fun _ _ i _ => ns.length - (intOf i).toNat)
  case atStart => exact ⟨0, Nat.zero_le _, rfl, Row.nil _ _, Below.refl _ _⟩
  case round =>
    obtain ⟨t, ht, rfl, hown, HL⟩ := hrel
    by_cases hlt : t < ns.length
    · obtain ⟨b, off, rfl, hcc⟩ := HC.out.resolve_left (by omega)
      have hct := cell_keep HL (hcc t hlt)
      have hn64 : ns.getD t 0 < 18446744073709551616 := by
        rw [List.getD_eq_getElem?_getD, List.getElem?_eq_getElem hlt]
        exact H64.out _ (List.getElem_mem hlt)
      have hnx := numB_succ ns t hlt
      have hlB := numB_length (ns.take t)
      rw [List.length_take, Nat.min_eq_left (by omega)] at hlB
      obtain ⟨x, HX⟩ : ∃ x, Hid (ns.getD t 0 = x) := ⟨_, hid rfl⟩
      rw [HX.out] at hct hn64 hnx
      have HP := hid (put_any x 8 hn64 (by decide) (by decide) wr)
      have HO := hid (And.intro hown (And.intro HL hnx))
      have hsz := HL.size
      have hlB' := hid hlB
      clear hcc hown HL hnx hn64 hlB
      go_wp2_with fail
      refine HP.out.mono ?_
      rintro e w2 ⟨cap2, rfl, own2, B2⟩
      have hI := hid (put8_isB' own2)
      have R2 := hid (Row.below HO.out.1 B2)
      have L2 := hid (HO.out.2.1.trans (B2.mono HO.out.2.1.size))
      have s2 := B2.size
      clear own2 B2 HP hct
      go_wp2_with ((with_reducible refine at_list' ?_); first
        | (refine wpList_append_b rfl (.tmp 12) (.tmp 14) 83 rfl w.heap.size _ (numB (ns.take t)) rfl R2.out _ (byte8 x) rfl hI.out.src (by rw [hlB'.out, byte8_length]; omega) (by omega) ?_; intro v4 w4 r1 r2 r3))
      have L4 := below_grownR L2.out R2.out (Nat.le_refl _) r2
      rw [HO.out.2.2] at r1
      have X4 := hid (And.intro r1 L4)
      clear r1 r2 r3 L4
      go_roundw
      case rel => exact ⟨t + 1, by omega, by go_num, X4.out.1, X4.out.2⟩
      case measure => simp [intOf]; omega
    · have ht2 : t = ns.length := by omega
      subst ht2
      rw [List.take_of_length_le (Nat.le_refl _)] at hown
      have HD := hid (chunksR_any _ (numB ns) wr (hown.isB (numB_byte ns)) (by rw [numB_length]; omega))
      have HLL := hid HL
      clear hown HL
      go_wp2_with fail
      refine HD.out.mono ?_
      rintro e w2 ⟨v2, rfl, h2, B2⟩
      have X := hid (And.intro h2 (HLL.out.trans (B2.mono HLL.out.size)))
      have hs := HLL.out.size
      clear h2 B2 HD
      go_wp2
      go_ret
      refine ⟨_, rfl, ⟨X.out.1.1, ?_⟩, X.out.2⟩
      rcases X.out.1.2 with h | ⟨g, cap, cur, e, hb, rest⟩
      · exact .inl h
      · exact .inr ⟨g, cap, cur, e, Nat.le_trans hs hb, rest⟩
/-- The root of a list of numbers. -/
def numR (ns : List Nat) : List Nat := pr (treeZ 8 (chunks (numB ns))) (wUp ns.length 8)
theorem numR_rt (ns : List Nat) : Rt (numR ns) := pr_rt _ _
set_option maxHeartbeats 1000000 in
theorem numbersR_any (v : Value) (ns : List Nat) (w : World) (hT : Tabs w) (hN : IsN w v ns) (hl : ns.length ≤ 2000) :
    Calls Tryd.prog 18 #[v] w fun e w' => e = .returned (.agg (nums .u8 (numR ns))) ∧ Below w.heap.size w w' := by
  obtain ⟨T, HTT⟩ : ∃ T, Hid (treeZ 8 (chunks (numB ns)) = T) := ⟨_, hid rfl⟩
  have hTr := treeZ_rt 8 (chunks (numB ns)) (chunks_rts _ (numB_byte ns))
  rw [HTT.out] at hTr
  have hpr := pr_rt T (wUp ns.length 8)
  obtain ⟨Z, HZ⟩ : ∃ Z, Hid (pr T (wUp ns.length 8) = Z) := ⟨_, hid rfl⟩
  rw [show numR ns = pr (treeZ 8 (chunks (numB ns))) (wUp ns.length 8) from rfl, HTT.out, HZ.out]
  have HMX := hid (fun w (hT : Tabs w) => mix_any' T ns.length hTr (by omega) w hT)
  rw [HZ.out] at hpr HMX
  have HP := hid (fun w1 (hb : Below w.heap.size w w1) => packed_any v ns w1 (hN.keep hb) hl)
  have hcl : (chunks (numB ns)).length ≤ 1048576 := by rw [chunks_length, numB_length]; omega
  have HTz := hid (fun ao cap w1 (hT : Tabs w1) (h1 : (chunks (numB ns)).length ≤ cap) (h2 : cap ≤ maxLen) (h3 : RootsAt w1 ao (chunks (numB ns))) => treZ_any ao cap (chunks (numB ns)) 8 w1 hT h1 h2 hcl (by decide) h3)
  rw [HTT.out] at HTz
  obtain ⟨C, HC⟩ : ∃ C, Hid (chunks (numB ns) = C) := ⟨_, hid rfl⟩
  have hCr := chunks_rts _ (numB_byte ns)
  rw [HC.out] at HTz HP hCr
  obtain ⟨bao, bcap, rfl, _, _, _⟩ := hN.ex
  have HT := hid hT
  clear hN hT hcl
  go_enter Tryd.func18, Tryd.ntmps18
  go_wp2_with ((with_reducible refine at_list' ?_); first
    | (refine wpList_alloc_has rfl 2 rfl 25 rfl .u8 32 Tryd.zero25 ?_; intro w1 H1 B1 S1))
  refine (HP.out w1 B1).mono ?_
  rintro e w3 ⟨v3, rfl, h3, B3⟩
  obtain ⟨_, ao3, cap3, rfl, k1, k2, k3⟩ := RootsAt.own hCr h3
  have L3 := hid (below_more B1 B3 (Nat.le_refl _))
  have H3 := H1.keep B3
  have HT3 := hid (HTz.out ao3 cap3 w3 (HT.out.keep L3.out) k1 k2 k3)
  clear HP h3 k1 k2 k3 H1 B1 S1 B3 HTz
  go_wp2_with fail
  refine HT3.out.mono ?_
  rintro e w4 ⟨rfl, B4⟩
  have L4 := hid (below_more L3.out B4 (Nat.le_refl _))
  have H4 := H3.keep B4
  clear HT3 L3 H3 B4
  go_wp2_with fail
  refine (HMX.out w4 (HT.out.keep L4.out)).mono ?_
  rintro e w5 ⟨rfl, B5⟩
  have L5 := hid (below_more L4.out B5 (Nat.le_refl _))
  have H5 := H4.keep B5
  clear L4 H4 B5 HMX
  go_wp2_with ((with_reducible refine at_list' ?_); first
    | (refine wpList_store_has rfl 25 (.tmp 2) (.tmp 9) rfl w.heap.size .u8 Z (zeros 32) rfl rfl 25 H5 (hpr.size _ Tryd.size25) (by rw [hpr.len, zeros_length]) ?_; intro w6 H6 O6))
  refine bodyPost_ret (results_has rfl _ _ w.heap.size 25 .u8 Z _ _ rfl H6 Tryd.und25 (hpr.size _ Tryd.size25)) rfl ?_
  exact ⟨rfl, below_only L5.out O6 (Nat.le_refl _)⟩
end Go.Proofs.YtfmecdmkepnlmaaDoor

/- The document's Root at lists of numbers. -/
namespace Go.Proofs.YtfmecdmkepnlmaaDoor
open Go.RowKit Go.Shelf
set_option linter.unusedVariables false
set_option maxRecDepth 100000

set_option maxHeartbeats 1000000 in
theorem root_nums (n num m0 : Nat) (ds0 : List Dt) (ks : List Vt) (bs : List Bool) (r : List Nat) (sb sk : Value) (p : Nat) (w : World) (hD0 : DAt w (.mk 5 n [.mk 1 m0 ds0]) p) (hn : n ≤ 1048576) (hV : VAt w (.mk num r bs ks) sb sk) (hkl : ks.length ≤ 2000) :
    Calls Tryd.prog 9 #[.pointer (some ⟨p, 0, none⟩), .agg (valL num r sb sk).toArray] w fun e w' => e = .returned (.agg (nums .u8 (listR n (ks.map Vt.num)))) ∧ Below w.heap.size w w' := by
  rw [DAt] at hD0
  obtain ⟨hd0, hd1, dao, dcap, hd2, hdc, hdm, hds⟩ := hD0
  obtain ⟨db, doff, rfl, hDs⟩ := hds.resolve_left (by simp)
  rw [DsAt] at hDs
  obtain ⟨⟨q, hq, hDq⟩, _⟩ := hDs
  rw [DAt] at hDq
  obtain ⟨hq0, _⟩ := hDq
  rw [VAt] at hV
  obtain ⟨⟨hn0, hrl, hr8⟩, _, kao, kcap, rfl, hkc, hkm, hks⟩ := hV
  have hnl : (ks.map Vt.num).length = ks.length := List.length_map ..
  have hTr := treeZ_rt ((8 * n + 31) / 32) (chunks (numB (ks.map Vt.num))) (chunks_rts _ (numB_byte _))
  obtain ⟨m, HM⟩ : ∃ m, Hid ((8 * n + 31) / 32 = m) := ⟨_, hid rfl⟩
  have hmb : m ≤ 1048576 := by rw [← HM.out]; omega
  obtain ⟨ns, HNS⟩ : ∃ ns, Same (ks.map Vt.num) ns := ⟨_, ⟨rfl⟩⟩
  rw [HNS.out] at hTr hnl
  unfold listR
  rw [HNS.out, hnl]
  have hBl := numB_length ns
  rw [hnl] at hBl
  have hCr := chunks_rts _ (numB_byte ns)
  have hCl := chunks_length (numB ns)
  obtain ⟨C, HC⟩ : ∃ C, Same (chunks (numB ns)) C := ⟨_, ⟨rfl⟩⟩
  rw [HC.out] at hTr hCr hCl ⊢
  rw [HM.out] at hTr ⊢
  have HT := hid (fun ao cap wq (h1 : C.length ≤ cap) (h2 : cap ≤ maxLen) (h3 : RootsAt wq ao C) => (show Calls Tryd.prog 43 #[.slice ao C.length cap, .int .i64 ((m : Nat) : Int)] wq fun e w' => e = .returned (.tuple #[.agg (nums .u8 (treeZ m C)), .bool (decide (C.length ≤ m))]) ∧ Below wq.heap.size wq w' by
    by_cases hle : C.length ≤ m
    · rw [treeZ, if_pos hle, decide_eq_true hle]
      exact rtree_any ao cap C (m : Nat) wq h1 h2 h3 (by omega) (by omega)
    · rw [treeZ, if_neg hle, decide_eq_false hle]
      exact rtree_bad ao cap C (m : Nat) wq h1 h2 (by omega) (by omega) (.inr (by omega))))
  obtain ⟨T, HTT⟩ : ∃ T, Same (treeZ m C) T := ⟨_, ⟨rfl⟩⟩
  obtain ⟨ok, HOK⟩ : ∃ b, Hid (decide (C.length ≤ m) = b) := ⟨_, hid rfl⟩
  rw [HTT.out] at hTr ⊢
  rw [HTT.out, HOK.out] at HT
  have hpr := pr_rt T (wUp ks.length 8)
  have HMX := hid (fun w => rmix_any T ks.length hTr (by omega) w)
  obtain ⟨Z, HZ⟩ : ∃ Z, Same (pr T (wUp ks.length 8)) Z := ⟨_, ⟨rfl⟩⟩
  rw [HZ.out] at hpr HMX ⊢
  have HKS := hid hks
  have HB := hid (And.intro hBl (And.intro hnl (And.intro hCr hCl)))
  have hmI : ((8 * n + 31) / 32 : Nat) = m := HM.out
  have hm8 : ((8 : Int) * (n : Int) + 31) / 32 = (m : Int) := by omega
  have hHR := hid hrl
  clear hBl hnl hCr hCl hks hr8 hrl hdc hkc HM hmI
  go_enter Tryd.func9, Tryd.ntmps9
  go_wp2_with ((with_reducible refine at_list' ?_); first
    | (refine wpList_box_c rfl 3 rfl (.tmp 1) rfl (valL num r sb (.slice kao ks.length kcap)) rfl ?_; intro w1 H1 B1 S1)
    | (refine wpList_alloc_has rfl 4 rfl 24 rfl .u8 32 Tryd.zero24 ?_; intro w2 H2 B2 S2; rw [S1] at H2 S2; rw [S1]; have hd02 := cell_keep B2 (cell_keep B1 hd0); have hd12 := cell_keep B2 (cell_keep B1 hd1); have hd22 := cell_keep B2 (cell_keep B1 hd2); have hq2 := cell_keep B2 (cell_keep B1 hq); have hq02 := cell_keep B2 (cell_keep B1 hq0); have HX := hid (H1.keep B2)))
  have L2 := below_more B1 B2 (Nat.le_refl _)
  clear H1 B1 B2 hd02 hd12 hd22 hq2 hq02
  go_loopw [10, 11] (fun l i wr => ∃ t : Nat, t ≤ ks.length ∧ i = .int .i64 t ∧ Row wr (w.heap.size + 2) l (numB (ns.take t)) ∧ HasC wr w.heap.size 40 (valL num r sb (.slice kao ks.length kcap)) ∧ Has wr (w.heap.size + 1) 24 .u8 (zeros 32) ∧ Below w.heap.size w wr) (fun _ i _ => ks.length - (intOf i).toNat)
  case atStart => exact ⟨0, Nat.zero_le _, rfl, Row.nil _ _, HX.out, H2, L2⟩
  case round =>
    clear HX H2 L2 S1 S2
    obtain ⟨t, ht, rfl, hown, hX, hA, hW⟩ := hrel
    have hk34 := hX.cell (valL_34 num r sb (.slice kao ks.length kcap) hHR.out)
    have hwl := hW.size
    have hal := hA.lt
    by_cases hlt : t < ks.length
    · obtain ⟨kb, koff, rfl, hKs⟩ := HKS.out.resolve_left (by omega)
      have hx := List.getElem?_eq_getElem hlt
      have hnx0 : ns.getD t 0 = (ks[t]).num := by rw [← HNS.out, List.getD_eq_getElem?_getD, List.getElem?_map, hx]; rfl
      generalize ks[t] = x at hx hnx0
      obtain ⟨sb1, sk1, hr1, hV1⟩ := KsAt.get hKs hx
      have hx64 : x.num < 18446744073709551616 := by
        have h2 := hV1
        cases x
        rw [VAt] at h2
        exact h2.1.1
      have hcx : wr.cell? ⟨kb, koff + t * 35, none⟩ = some (.int .u64 (x.num : Nat)) := by
        have := cell_keep hW (hr1 0 _ (valL_0 _ _ _ _))
        rw [Nat.add_zero, Nat.mul_comm 35 t] at this
        exact this
      have hsu := numB_succ ns t (by have := HB.out.2.1; omega)
      rw [hnx0] at hsu
      have hlB := numB_length (ns.take t)
      rw [List.length_take, Nat.min_eq_left (by have := HB.out.2.1; omega)] at hlB
      obtain ⟨y, HY⟩ : ∃ y, Hid (x.num = y) := ⟨_, hid rfl⟩
      rw [HY.out] at hcx hx64 hsu
      have HP := hid (refPut_any y 8 hx64 (by decide) wr)
      have HO := hid (And.intro hown (And.intro hX (And.intro hA (And.intro hW (And.intro hsu hlB)))))
      clear hr1 hV1 hKs hx hnx0 hown hX hA hW hsu hlB
      go_wp2_with fail
      refine HP.out.mono ?_
      rintro e w4 ⟨v4, rfl, own4, B4⟩
      have hI := hid (put8_isB' own4)
      have R4 := hid (Row.below HO.out.1 B4)
      have X4 := hid (And.intro (HO.out.2.1.keep B4) (And.intro (HO.out.2.2.1.keep B4) (HO.out.2.2.2.1.trans (B4.mono HO.out.2.2.2.1.size))))
      have s4 := B4.size
      clear own4 B4 HP hcx
      go_wp2_with ((with_reducible refine at_list' ?_); first
        | (refine wpList_append_b rfl (.tmp 105) (.tmp 112) 83 rfl (w.heap.size + 2) _ (numB (ns.take t)) rfl R4.out _ (byte8 y) rfl (by rw [byte8_length]; exact hI.out.src) (by rw [HO.out.2.2.2.2.2, byte8_length]; omega) (by omega) ?_; intro v5 w5 r1 r2 r3))
      have L5 := below_grownR X4.out.2.2 R4.out (by omega) r2
      have hX5 : HasC w5 w.heap.size 40 _ := (r2.block _ X4.out.1.lt (fun e => by have := (R4.out.lt _ e.symm).1; omega)).trans X4.out.1
      have hA5 : Has w5 (w.heap.size + 1) 24 .u8 (zeros 32) := (r2.block _ X4.out.2.1.lt (fun e => by have := (R4.out.lt _ e.symm).1; omega)).trans X4.out.2.1
      rw [HO.out.2.2.2.2.1] at r1
      have Y5 := hid (And.intro r1 (And.intro hX5 (And.intro hA5 L5)))
      clear r1 r2 r3 hX5 hA5 L5
      go_roundw
      case rel => exact ⟨t + 1, by omega, by go_num, Y5.out.1, Y5.out.2.1, Y5.out.2.2.1, Y5.out.2.2.2⟩
      case measure => simp [intOf]; omega
    · have ht2 : t = ks.length := by omega
      subst ht2
      rw [List.take_of_length_le (by have := HB.out.2.1; omega)] at hown
      have hd0r := cell_keep hW hd0
      have hd1r := cell_keep hW hd1
      obtain ⟨⟨bo, bc, rfl, hb1, hb2, hb3, hb4⟩, hb5⟩ := hown.isB (numB_byte ns)
      have HCH := hid (rchunks_any bo bc (numB ns) wr hb1 hb2 (by have := HB.out.1; omega) hb5 hb4)
      have HXA := hid (And.intro hX (And.intro hA hW))
      clear hX hA hW hown hb1 hb2 hb3 hb4 hb5
      go_wp2_with fail
      refine HCH.out.mono ?_
      rintro e w3 ⟨v3, rfl, h3, B3⟩
      rw [HC.out] at h3
      obtain ⟨_, ao3, cap3, rfl, k1, k2, k3⟩ := RootsAt.own HB.out.2.2.1 h3
      have hd03 := cell_keep B3 hd0r
      have hd13 := cell_keep B3 hd1r
      have HX3 := hid (And.intro (HXA.out.1.keep B3) (And.intro (HXA.out.2.1.keep B3) (HXA.out.2.2.trans (B3.mono HXA.out.2.2.size))))
      have HT3 := hid (HT.out ao3 cap3 w3 k1 k2 k3)
      clear HCH h3 k1 k2 k3 HXA hd0r hd1r B3 hk34
      have hk34 := HX3.out.1.cell (valL_34 num r sb (.slice kao ks.length kcap) hHR.out)
      go_wp2_with fail
      refine HT3.out.mono ?_
      rintro e w4 ⟨rfl, B4⟩
      have hd04 := cell_keep B4 hd03
      have HX4 := hid (And.intro (HX3.out.1.keep B4) (And.intro (HX3.out.2.1.keep B4) (HX3.out.2.2.trans (B4.mono HX3.out.2.2.size))))
      have s4 := HX4.out.2.2.size
      have hp4 : p ≠ w4.heap.size := fun e => by have h := block_lt_of_cell hd04; rw [e] at h; exact Nat.lt_irrefl _ h
      have hx4 : w.heap.size ≠ w4.heap.size := by have := HX4.out.1.lt; omega
      have ha4 : w.heap.size + 1 ≠ w4.heap.size := by have := HX4.out.2.1.lt; omega
      have HPP := hid (And.intro hp4 (And.intro hx4 ha4))
      clear hp4 hx4 ha4
      clear HT3 HX3 hd03 hd13 B4 hk34
      go_wp2_with ((with_reducible refine at_list' ?_); first
        | (refine wpList_alloc_has rfl 14 rfl 24 rfl .u8 32 Tryd.zero24 ?_; intro w5 H5 B5 S5)
        | (refine wpList_store_has rfl 24 (.tmp 14) (.tmp 156) rfl w4.heap.size .u8 T (zeros 32) rfl rfl 24 H5 (hTr.size _ Tryd.size24) (by rw [hTr.len, zeros_length]) ?_; intro w6 H6 O6; have hd06 := (World.cell?_of_block (a := ⟨p, 0, none⟩) (O6.block p HPP.out.1)).trans (cell_keep B5 hd04); have hX6 := (HX4.out.1.keep B5).only O6 HPP.out.2.1; have hk36 := hX6.cell (valL_34 num r sb (.slice kao ks.length kcap) hHR.out))
        | (refine wpList_load_has rfl 24 (.tmp 14) rfl w4.heap.size .u8 T rfl 24 H6 _ _ Tryd.underlying24 (hTr.size _ Tryd.size24) ?_))
      refine (HMX.out w6).mono ?_
      rintro e w7 ⟨rfl, B7⟩
      have hA7 := ((HX4.out.2.1.keep B5).only O6 HPP.out.2.2).keep B7
      have L6 := below_only (below_more HX4.out.2.2 B5 (Nat.le_refl _)) O6 (by omega)
      have L7 := hid (L6.trans (B7.mono L6.size))
      clear HX4 H5 B5 S5 H6 O6 hd06 hX6 hk36 L6 B7 hd04
      go_wp2_with ((with_reducible refine at_list' ?_); first
        | (refine wpList_store_has rfl 24 (.tmp 4) (.tmp 168) rfl (w.heap.size + 1) .u8 Z (zeros 32) rfl rfl 24 hA7 (hpr.size _ Tryd.size24) (by rw [hpr.len, zeros_length]) ?_; intro w8 H8 O8))
      refine bodyPost_ret (results_has rfl _ _ (w.heap.size + 1) 24 .u8 Z _ _ rfl H8 Tryd.underlying24 (hpr.size _ Tryd.size24)) rfl ?_
      exact ⟨rfl, below_only L7.out O8 (by omega)⟩
end Go.Proofs.YtfmecdmkepnlmaaDoor

/- The document's Root at containers, then at every kind that RootD speaks of. -/
namespace Go.Proofs.YtfmecdmkepnlmaaDoor
open Go.RowKit Go.Shelf
set_option linter.unusedVariables false
set_option maxRecDepth 100000

theorem run_move {P : Program} {o : Oper} {a : Act} {w : World} (x : Operand) (ho : o.op = .move x) (v : Value) (hx : a.eval x = v) : (execOp a.eval o).run P w = .ok (.value v) w := by unfold execOp; simp only [ho, hx]; rfl
set_option maxHeartbeats 1000000 in
theorem root_box (N : Nat) (IH : ∀ (d : Dt) (x : Vt) (p : Nat) (v : Value) (w : World), d.deep ≤ N → okR d x → DAt w d p → IsV w v x →
      Calls Tryd.prog 9 #[.pointer (some ⟨p, 0, none⟩), v] w fun e w' => e = .returned (.agg (nums .u8 (rootV d x))) ∧ Below w.heap.size w w')
    (n num : Nat) (ds : List Dt) (ks : List Vt) (r : List Nat) (bs : List Bool) (sb sk : Value) (p : Nat) (w : World) (hdp : deepD ds ≤ N) (hl : ds.length = ks.length) (hm : ds.length ≤ 1048576) (hok : okRs ds ks)
    (hD : DAt w (.mk 8 n ds) p) (hV : VAt w (.mk num r bs ks) sb sk) :
    Calls Tryd.prog 9 #[.pointer (some ⟨p, 0, none⟩), .agg (valL num r sb sk).toArray] w fun e w' => e = .returned (.agg (nums .u8 (fullR (depth (ds.length : Nat)) (rootsV ds ks)))) ∧ Below w.heap.size w w' := by
  rw [DAt] at hD
  obtain ⟨hd0, hd1, dao, dcap, hd2, hdc, hdm, hds⟩ := hD
  rw [VAt] at hV
  obtain ⟨⟨hn0, hrl, hr8⟩, _, kao, kcap, rfl, hkc, hkm, hks⟩ := hV
  have hzr := zero_rt
  have hrts : Rts (rootsV ds ks) := by
    rcases hks with hk | ⟨b, off, _, hk⟩
    · rw [List.length_eq_zero_iff.1 (hl.trans hk), rootsV]; exact Rts.nil
    · exact rootsV_rts ds ks hok hk
  have hrln := rootsV_length hl
  have hfr : Rt (fullR (depth (ds.length : Nat)) (rootsV ds ks)) := full_rt _ _ hrts
  have HR := hid (And.intro hrts hrln)
  have HS := hid (And.intro hds hks)
  have HL := hid hl
  have HO := hid (And.intro hok (And.intro hdp hrl))
  have hlk : ks.length ≤ 1048576 := hl ▸ hm
  clear hrts hrln hds hks hok hdp hrl hr8 hdc hkc hl
  obtain ⟨Z, HZ⟩ : ∃ Z, Hid (fullR (depth (ds.length : Nat)) (rootsV ds ks) = Z) := ⟨_, hid rfl⟩
  rw [HZ.out] at hfr ⊢
  go_enter Tryd.func9, Tryd.ntmps9
  go_wp2_with ((with_reducible refine at_list' ?_); first
    | (refine wpList_box_c rfl 3 rfl (.tmp 1) rfl (valL num r sb (.slice kao ks.length kcap)) rfl ?_; intro w1 H1 B1 S1)
    | (refine wpList_alloc_has rfl 4 rfl 24 rfl .u8 32 Tryd.zero24 ?_; intro w2 H2 B2 S2; rw [S1] at H2 S2; rw [S1]; have hd02 := cell_keep B2 (cell_keep B1 hd0); have hd12 := cell_keep B2 (cell_keep B1 hd1); have hd22 := cell_keep B2 (cell_keep B1 hd2); have HX := hid (H1.keep B2)))
  have L2 := below_more B1 B2 (Nat.le_refl _)
  clear H1 B1 B2 hd02 hd12 hd22
  go_loopw [8, 12, 13] (fun l i _ wr => ∃ t : Nat, t ≤ ks.length ∧ i = .int .i64 t ∧ wr.ownsRow (w.heap.size + 2) 24 32 l t (cellsOf ((rootsV ds ks).take t)) ∧ HasC wr w.heap.size 40 (valL num r sb (.slice kao ks.length kcap)) ∧ Has wr (w.heap.size + 1) 24 .u8 (zeros 32) ∧ Below w.heap.size w wr) (fun _ i _ _ => ks.length - (intOf i).toNat)
  case atStart => exact ⟨0, Nat.zero_le _, rfl, World.ownsRow_nil _ _ _ _, HX.out, H2, L2⟩
  case round =>
    clear HX H2 L2 S1 S2
    obtain ⟨t, ht, rfl, hown, hX, hA, hW⟩ := hrel
    have hd0r := cell_keep hW hd0
    have hk34 := hX.cell (valL_34 num r sb (.slice kao ks.length kcap) HO.out.2.2)
    have hwl := hW.size
    have hal := hA.lt
    by_cases hlt : t < ks.length
    · obtain ⟨db, doff, rfl, hDs⟩ := HS.out.1.resolve_left (by have := HL.out; omega)
      obtain ⟨kb, koff, rfl, hKs⟩ := HS.out.2.resolve_left (by omega)
      have hx := List.getElem?_eq_getElem hlt
      have hdl : t < ds.length := by have := HL.out; omega
      have hdx := List.getElem?_eq_getElem hdl
      generalize ks[t] = x at hx
      generalize ds[t] = d at hdx
      obtain ⟨q, hq, hDq⟩ := DsAt.get hDs hdx
      obtain ⟨sb1, sk1, hr1, hV1⟩ := KsAt.get hKs hx
      have hxl : x.root.length = 32 := by
        have h2 := hV1
        cases x
        rw [VAt] at h2
        exact h2.1.2.1
      have hokx := okRs_get HO.out.1 hdx hx
      have hqr := rootV_rt d x hokx hV1
      have hget := rootsV_get hdx hx
      have hnx : (rootsV ds ks).take t ++ [rootV d x] = (rootsV ds ks).take (t + 1) := by rw [List.take_add_one, hget]; rfl
      have hsh : Rts ((rootsV ds ks).take t) := HR.out.1.take t
      have HI := hid (fun wq (hb : Below wr.heap.size wr wq) => IH d x q (.agg (valL x.num x.root sb1 sk1).toArray) wq (Nat.le_trans (deepD_get hdx) HO.out.2.1) hokx (DAt.keep (hW.trans (hb.mono hW.size)) d hDq) ⟨sb1, sk1, rfl, VAt.keep (hW.trans (hb.mono hW.size)) x hV1⟩)
      obtain ⟨Q, HQ⟩ : ∃ Q, Hid (rootV d x = Q) := ⟨_, hid rfl⟩
      rw [HQ.out] at hqr hnx HI
      have HF := hid (And.intro (cell_keep hW hd2) (And.intro hdl (And.intro (show wr.cell? ⟨db, doff + t * 1, none⟩ = some (.pointer (some ⟨q, 0, none⟩)) by rw [Nat.mul_one]; exact cell_keep hW hq) (And.intro hk34 (And.intro hlt (And.intro (show wr.rangeAt kb (koff + t * 35) (valL x.num x.root sb1 sk1) by rw [Nat.mul_comm t 35]; exact rangeAt_keep hr1 hW) hxl))))))
      have HN := hid (And.intro hnx hsh)
      have HXA := hid (And.intro hX (And.intro hA hW))
      have HOW := hid hown
      clear hq hDq hr1 hV1 hxl hokx hget hnx hsh hDs hKs hdx hx hX hA hW hown
      go_wp2_with fail
      try simp only [Act.put, List.setIfInBounds_toArray, List.set_cons_succ, List.set_cons_zero]
      refine wp_region_flow9 14 0 (fun i v wq => match i with
        | 0 => v = u8
        | 1 => v = .pointer (some ⟨p, 0, none⟩)
        | 2 => v = .pointer (some ⟨p, 0, none⟩)
        | 3 => v = .pointer (some ⟨p, 2, none⟩)
        | 4 => v = .slice (some ⟨db, doff, none⟩) ds.length dcap
        | 5 => v = .int .i64 (t : Nat)
        | 6 => v = .pointer (some ⟨db, doff + t * 1, none⟩)
        | 7 => v = .pointer (some ⟨q, 0, none⟩)
        | 8 => v = .pointer (some ⟨w.heap.size, 34, none⟩)
        | 9 => v = .slice (some ⟨kb, koff, none⟩) ks.length kcap
        | 10 => v = .int .i64 (t : Nat)
        | 11 => v = .pointer (some ⟨kb, koff + t * 35, none⟩)
        | 12 => v = .agg (valL x.num x.root sb1 sk1).toArray
        | _ => v = .agg (nums .u8 Q)) (by kernel_rfl) (by kernel_rfl) (fun _ d _ _ _ h => by cases d <;> exact h) ?_ ?_ ?_ ?_
      · intro i v wq wq' hi hv hb
        match i, hi with
        | 0, _ => exact hv
        | 1, _ => exact hv
        | 2, _ => exact hv
        | 3, _ => exact hv
        | 4, _ => exact hv
        | 5, _ => exact hv
        | 6, _ => exact hv
        | 7, _ => exact hv
        | 8, _ => exact hv
        | 9, _ => exact hv
        | 10, _ => exact hv
        | 11, _ => exact hv
        | 12, _ => exact hv
        | 13, _ => exact hv
        | (k + 14), hk => exact absurd hk (by omega)
      · intro i o hi ho aq wq hc hk hdep
        match i, hi with
        | 0, _ =>
          cases ho
          exact flow_move (.tmp 8) rfl (hk 8 (by decide))
        | 1, _ =>
          cases ho
          exact flow_move (.tmp 0) rfl (hk 0 (by decide))
        | 2, _ =>
          cases ho
          have e0 : aq.tmps.getD 137 undef = .pointer (some ⟨p, 0, none⟩) := hdep 1 137 rfl (by kernel_rfl)
          exact flow_value _ (run_nilOk (.tmp 137) rfl _ e0) rfl
        | 3, _ =>
          cases ho
          have e0 : aq.tmps.getD 138 undef = .pointer (some ⟨p, 0, none⟩) := hdep 2 138 rfl (by kernel_rfl)
          exact flow_value _ (run_fieldAt 79 (.tmp 138) 2 rfl _ _ e0 (by kernel_rfl)) rfl
        | 4, _ =>
          cases ho
          have e0 : aq.tmps.getD 139 undef = .pointer (some ⟨p, 2, none⟩) := hdep 3 139 rfl (by kernel_rfl)
          exact flow_value _ (run_cell 77 (.tmp 139) rfl _ e0 _ (cell_keep (hcB hc) HF.out.1) _ Tryd.underlying77 rfl) rfl
        | 5, _ =>
          cases ho
          exact flow_move (.tmp 13) rfl (hk 13 (by decide))
        | 6, _ =>
          cases ho
          have e0 : aq.tmps.getD 140 undef = .slice (some ⟨db, doff, none⟩) ds.length dcap := hdep 4 140 rfl (by kernel_rfl)
          have e1 : aq.tmps.getD 141 undef = .int .i64 (t : Nat) := hdep 5 141 rfl (by kernel_rfl)
          exact flow_value _ (run_atG 77 35 1 (.tmp 140) (.tmp 141) rfl Tryd.underlying77 sizeD1 db doff ds.length dcap t e0 e1 HF.out.2.1) rfl
        | 7, _ =>
          cases ho
          have e0 : aq.tmps.getD 142 undef = .pointer (some ⟨db, doff + t * 1, none⟩) := hdep 6 142 rfl (by kernel_rfl)
          exact flow_value _ (run_cell 35 (.tmp 142) rfl _ e0 _ (cell_keep (hcB hc) HF.out.2.2.1) _ Tryd.underlying35 rfl) rfl
        | 8, _ =>
          cases ho
          have e1 : aq.tmps.getD 3 undef = .pointer (some ⟨w.heap.size, 0, none⟩) := hk 3 (by decide)
          exact flow_value _ (run_fieldAt 40 (.tmp 3) 3 rfl _ _ e1 (by kernel_rfl)) rfl
        | 9, _ =>
          cases ho
          have e0 : aq.tmps.getD 144 undef = .pointer (some ⟨w.heap.size, 34, none⟩) := hdep 8 144 rfl (by kernel_rfl)
          exact flow_value _ (run_cell 38 (.tmp 144) rfl _ e0 _ (cell_keep (hcB hc) HF.out.2.2.2.1) _ Tryd.underlying38 rfl) rfl
        | 10, _ =>
          cases ho
          exact flow_move (.tmp 12) rfl (hk 12 (by decide))
        | 11, _ =>
          cases ho
          have e0 : aq.tmps.getD 145 undef = .slice (some ⟨kb, koff, none⟩) ks.length kcap := hdep 9 145 rfl (by kernel_rfl)
          have e1 : aq.tmps.getD 146 undef = .int .i64 (t : Nat) := hdep 10 146 rfl (by kernel_rfl)
          exact flow_value _ (run_atG 38 40 35 (.tmp 145) (.tmp 146) rfl Tryd.underlying38 sizeV35 kb koff ks.length kcap t e0 e1 HF.out.2.2.2.2.1) rfl
        | 12, _ =>
          cases ho
          have e0 : aq.tmps.getD 147 undef = .pointer (some ⟨kb, koff + t * 35, none⟩) := hdep 11 147 rfl (by kernel_rfl)
          exact flow_value _ (run_mid 40 (.tmp 147) rfl kb (koff + t * 35) e0 (valL x.num x.root sb1 sk1) (rangeAt_keep HF.out.2.2.2.2.2.1 (hcB hc)) _ Tryd.underlying40 rfl (by rw [valL_length _ _ _ _ HF.out.2.2.2.2.2.2]; exact sizeV35)) rfl
        | 13, _ =>
          cases ho
          have e0 : aq.tmps.getD 143 undef = .pointer (some ⟨q, 0, none⟩) := hdep 7 143 rfl (by kernel_rfl)
          have e1 : aq.tmps.getD 148 undef = .agg (valL x.num x.root sb1 sk1).toArray := hdep 12 148 rfl (by kernel_rfl)
          refine flow_fun 9 _ _ rfl (fun _ _ => by simp [go_sem]) #[.pointer (some ⟨q, 0, none⟩), .agg (valL x.num x.root sb1 sk1).toArray] (by rw [show (#[Operand.tmp 143, Operand.tmp 148] : Array Operand).map aq.eval = #[aq.tmps.getD 143 undef, aq.tmps.getD 148 undef] from by simp [Act.eval], e0, e1]) ?_
          refine (HI.out wq (hcB hc)).mono ?_
          rintro e w' ⟨rfl, q⟩
          exact ⟨_, rfl, rfl, q⟩
        | (k + 14), hk => exact absurd hk (by omega)
      · intro o _ ho a' w' hc hk hdep
        cases ho
        have e8 : a'.tmps.getD 8 undef = u8 := hk 8 (by decide)
        exact ⟨u8, fun w => run_move (.tmp 8) rfl _ e8, rfl⟩
      intro vf w8 hc hv
      have e0 : vf 0 = _ := hv 0 136 (by decide) rfl
      have e13 : vf 13 = _ := hv 13 149 (by decide) rfl
      have B8 := hcB hc
      clear hv hc
      simp only [List.take_succ_cons, List.take_zero, List.drop_succ_cons, List.drop_zero, putAll, Act.put, List.setIfInBounds_toArray, List.set_cons_succ, List.set_cons_zero]
      rw [e0, e13]
      have own8 := own_keep HOW.out B8
      have hX8 := HXA.out.1.keep B8
      have hA8 := HXA.out.2.1.keep B8
      have L8 := HXA.out.2.2.trans (B8.mono HXA.out.2.2.size)
      have hwl8 := L8.size
      have hal8 := hA8.lt
      clear e0 e13 HI HF HXA HOW B8
      go_wp2_with ((with_reducible refine at_list' ?_); first
        | (refine wpList_one_root rfl 81 24 (.tmp 149) rfl Tryd.underlying81 Tryd.root26 Q rfl hqr.len ?_; intro w3 H3 B3 S3; have own3 := own_keep own8 B3; have L3 := below_more L8 B3 (Nat.le_refl _))
        | (refine wpList_append_roots rfl (.tmp 136) (.tmp 150) 81 rfl (w.heap.size + 2) 24 Tryd.underlying81 Tryd.root26 _ t ((rootsV ds ks).take t) [Q] rfl own3 hqr.one ⟨w8.heap.size, 0, none⟩ 1 rfl (by intro j hj; rw [Addr.add_lit, Nat.zero_add, H3.cell j (by rw [hqr.len]; simpa using hj)]; simp) (by simp; omega) (by omega) ?_; intro v' w4 own4 grow4))
      have L4 := below_grownR L3 own3 (by omega) grow4
      have hX4 : HasC w4 w.heap.size 40 _ := (grow4.block _ (hX8.keep B3).lt (fun e => by have := (own3.lt _ e.symm).1; omega)).trans (hX8.keep B3)
      have hA4 : Has w4 (w.heap.size + 1) 24 .u8 (zeros 32) := (grow4.block _ (hA8.keep B3).lt (fun e => by have := (own3.lt _ e.symm).1; omega)).trans (hA8.keep B3)
      go_roundw
      case rel =>
        rw [HN.out.1] at own4
        exact ⟨t + 1, by omega, by go_num, own4, hX4, hA4, L4⟩
      case measure => simp [intOf]; omega
    · have ht2 : t = ks.length := by omega
      subst ht2
      rw [List.take_of_length_le (by rw [HR.out.2, HL.out]; exact Nat.le_refl _)] at hown
      obtain ⟨hn1, ao1, cap1, rfl, hc1, hm1, hRA⟩ := RootsAt.own HR.out.1 hown
      have HC := hid (rtree_any ao1 cap1 (rootsV ds ks) (ds.length : Nat) wr hc1 hm1 hRA (by rw [HR.out.2]; exact Int.le_refl _) (by omega))
      rw [HZ.out] at HC
      have HXA := hid (And.intro hX (And.intro hA hW))
      clear hX hA hW hown hRA hc1 hm1 hn1
      go_wp2_with fail
      refine HC.out.mono ?_
      rintro e w3 ⟨rfl, B3⟩
      have hd03 := cell_keep B3 hd0r
      have hA3 := HXA.out.2.1.keep B3
      have L3 := HXA.out.2.2.trans (B3.mono HXA.out.2.2.size)
      have hs3 := B3.size
      clear HC HXA B3 hk34
      go_wp2_with ((with_reducible refine at_list' ?_); first
        | (refine wpList_alloc_has rfl 14 rfl 24 rfl .u8 32 Tryd.zero24 ?_; intro w4 H4 B4 S4)
        | (refine wpList_store_has rfl 24 (.tmp 14) (.tmp 156) rfl w3.heap.size .u8 Z (zeros 32) rfl rfl 24 H4 (hfr.size _ Tryd.size24) (by rw [hfr.len, zeros_length]) ?_; intro w5 H5 O5; have hd05 := (World.cell?_of_block (a := ⟨p, 0, none⟩) (O5.block p (by have := block_lt_of_cell hd03; show ¬ p = w3.heap.size; simp at this; omega))).trans (cell_keep B4 hd03))
        | (refine wpList_load_has rfl 24 (.tmp 14) rfl w3.heap.size .u8 Z rfl 24 H5 _ _ Tryd.underlying24 (hfr.size _ Tryd.size24) ?_)
        | (refine wpList_store_has rfl 24 (.tmp 4) (.tmp 169) rfl (w.heap.size + 1) .u8 Z (zeros 32) rfl rfl 24 ((hA3.keep B4).only O5 (by have := hA3.lt; omega)) (hfr.size _ Tryd.size24) (by rw [hfr.len, zeros_length]) ?_; intro w6 H6 O6))
      refine bodyPost_ret (results_has rfl _ _ (w.heap.size + 1) 24 .u8 Z _ _ rfl H6 Tryd.underlying24 (hfr.size _ Tryd.size24)) rfl ?_
      exact ⟨rfl, below_only (below_only (below_more L3 B4 (Nat.le_refl _)) O5 (by omega)) O6 (by omega)⟩

theorem root_deep : ∀ (N : Nat) (d : Dt) (x : Vt) (p : Nat) (v : Value) (w : World), d.deep ≤ N → okR d x → DAt w d p → IsV w v x →
      Calls Tryd.prog 9 #[.pointer (some ⟨p, 0, none⟩), v] w fun e w' => e = .returned (.agg (nums .u8 (rootV d x))) ∧ Below w.heap.size w w'
  | 0, .mk f n ds, x, p, v, w, hN, ho, hD, hV => by rw [Dt.deep] at hN; omega
  | N + 1, .mk f n ds, .mk num r bs ks, p, v, w, hN, ho, hD, hV => by
    rw [Dt.deep] at hN
    obtain ⟨sb, sk, rfl, hV⟩ := hV
    have hV' := hV
    rw [VAt] at hV'
    rw [okR] at ho
    rw [rootV]
    rcases ho with ho | ho | ho | ⟨rfl, hn7, hb7⟩ | ⟨rfl, hn5, ⟨m0, ds0, rfl⟩, hb5⟩ | ⟨rfl, hl, hm, ho⟩
    · rw [if_pos (.inl ho)]
      exact root_num f n num ds r sb sk p w (.inl ho) hD hV'.1.1
    · rw [if_pos (.inr ho)]
      exact root_num f n num ds r sb sk p w (.inr ho) hD hV'.1.1
    · subst ho
      rw [if_neg (by decide), if_pos rfl]
      exact root_root n num ds r sb sk p w hD ⟨hV'.1.2.1, hV'.1.2.2⟩
    · rw [if_neg (by decide), if_neg (by decide), if_pos rfl]
      exact root_bits n num ds bs r sb sk p w hD hn7 hV'.1.2.1 hV'.2.1 hb7
    · rw [if_neg (by decide), if_neg (by decide), if_neg (by decide), if_pos rfl]
      exact root_nums n num m0 ds0 ks bs r sb sk p w hD hn5 hV hb5
    · rw [if_neg (by decide), if_neg (by decide), if_neg (by decide), if_neg (by decide)]
      exact root_box N (root_deep N) n num ds ks r bs sb sk p w (by omega) hl hm ho hD hV
/-- The document's Root. -/
theorem rroot_any (d : Dt) (x : Vt) (p : Nat) (v : Value) (w : World) (ho : okR d x) (hD : DAt w d p) (hV : IsV w v x) :
    Calls Tryd.prog 9 #[.pointer (some ⟨p, 0, none⟩), v] w fun e w' => e = .returned (.agg (nums .u8 (rootV d x))) ∧ Below w.heap.size w w' := root_deep d.deep d x p v w (Nat.le_refl _) ho hD hV
end Go.Proofs.YtfmecdmkepnlmaaDoor

/- The document's kinds of structs. -/
namespace Go.Proofs.YtfmecdmkepnlmaaDoor
open Go.RowKit Go.Shelf
set_option linter.unusedVariables false
set_option linter.unusedSimpArgs false
set_option maxRecDepth 100000

def dTruth : Dt := .mk 2 0 []
def dBits : Dt := .mk 7 32 []
theorem dAt_leaf2 {w : World} {p f n : Nat} (h : w.heap[p]? = some (.cells #[.int .i64 (f : Nat), .int .i64 (n : Nat), .slice none 0 0] 79 (0, 0))) : DAt w (.mk f n []) p := by
  rw [DAt]
  exact ⟨cell_of_row w p 0 _ _ (0, 0) h, cell_of_row w p 1 _ _ (0, 0) h, none, 0, cell_of_row w p 2 _ _ (0, 0) h, by simp, by simp, .inl rfl⟩
def cpD : Dt := dBox [dNum, dRoot]
set_option maxHeartbeats 1000000 in
theorem cpD_any (w : World) : Calls Tryd.prog 63 #[] w fun x w' => ∃ p, x = .returned (.pointer (some ⟨p, 0, none⟩)) ∧ DAt w' cpD p ∧ Below w.heap.size w w' := by
  go_enter Tryd.func63, Tryd.ntmps63
  go_wp2_with fail
  refine (num_any' w).mono ?_
  rintro e w1 ⟨rfl, q1, q2⟩
  have K0_0 := hid q1
  have L0 := hid (q2)
  clear q1 q2
  go_wp2_with fail
  refine (root_any' w1).mono ?_
  rintro e w2 ⟨rfl, q1, q2⟩
  have K1_0 := hid (DAt.keep q2 _ K0_0.out)
  have K1_1 := hid q1
  have L1 := hid (L0.out.trans (q2.mono L0.out.size))
  clear q1 q2 K0_0
  clear L0
  go_wp2_with fail
  have hB : Below w2.heap.size w2 (w2.alloc (.cells #[.pointer (some ⟨w.heap.size, 0, none⟩), .pointer (some ⟨w1.heap.size, 0, none⟩)] 35)) := (Below.refl _ w2).alloc (Nat.le_refl _) _
  have h := heap_alloc_new w2 (.cells #[.pointer (some ⟨w.heap.size, 0, none⟩), .pointer (some ⟨w1.heap.size, 0, none⟩)] 35)
  generalize w2.alloc (.cells #[.pointer (some ⟨w.heap.size, 0, none⟩), .pointer (some ⟨w1.heap.size, 0, none⟩)] 35) = wz at hB h ⊢
  have hD : DsAt wz [dNum, dRoot] w2.heap.size 0 := by
    rw [DsAt, DsAt, DsAt]
    exact ⟨⟨_, cell_of_row _ _ 0 _ _ (0, 0) h, DAt.keep hB _ K1_0.out⟩, ⟨_, cell_of_row _ _ 1 _ _ (0, 0) h, DAt.keep hB _ K1_1.out⟩, trivial⟩
  have HC := hid (box_any w2.heap.size 2 [dNum, dRoot] wz rfl (by decide) hD)
  have HZ := hid (L1.out.trans (hB.mono L1.out.size))
  clear hB h hD
  refine HC.out.mono ?_
  rintro e wy ⟨rfl, q1, q2⟩
  have X := hid (And.intro q1 q2)
  clear q1 q2 HC
  go_wp2
  go_ret
  exact ⟨_, rfl, X.out.1, HZ.out.trans (X.out.2.mono HZ.out.size)⟩
def exD : Dt := dBox [dNum, dNum]
set_option maxHeartbeats 1000000 in
theorem exD_any (w : World) : Calls Tryd.prog 30 #[] w fun x w' => ∃ p, x = .returned (.pointer (some ⟨p, 0, none⟩)) ∧ DAt w' exD p ∧ Below w.heap.size w w' := by
  go_enter Tryd.func30, Tryd.ntmps30
  go_wp2_with fail
  refine (num_any' w).mono ?_
  rintro e w1 ⟨rfl, q1, q2⟩
  have K0_0 := hid q1
  have L0 := hid (q2)
  clear q1 q2
  go_wp2_with fail
  refine (num_any' w1).mono ?_
  rintro e w2 ⟨rfl, q1, q2⟩
  have K1_0 := hid (DAt.keep q2 _ K0_0.out)
  have K1_1 := hid q1
  have L1 := hid (L0.out.trans (q2.mono L0.out.size))
  clear q1 q2 K0_0
  clear L0
  go_wp2_with fail
  have hB : Below w2.heap.size w2 (w2.alloc (.cells #[.pointer (some ⟨w.heap.size, 0, none⟩), .pointer (some ⟨w1.heap.size, 0, none⟩)] 35)) := (Below.refl _ w2).alloc (Nat.le_refl _) _
  have h := heap_alloc_new w2 (.cells #[.pointer (some ⟨w.heap.size, 0, none⟩), .pointer (some ⟨w1.heap.size, 0, none⟩)] 35)
  generalize w2.alloc (.cells #[.pointer (some ⟨w.heap.size, 0, none⟩), .pointer (some ⟨w1.heap.size, 0, none⟩)] 35) = wz at hB h ⊢
  have hD : DsAt wz [dNum, dNum] w2.heap.size 0 := by
    rw [DsAt, DsAt, DsAt]
    exact ⟨⟨_, cell_of_row _ _ 0 _ _ (0, 0) h, DAt.keep hB _ K1_0.out⟩, ⟨_, cell_of_row _ _ 1 _ _ (0, 0) h, DAt.keep hB _ K1_1.out⟩, trivial⟩
  have HC := hid (box_any w2.heap.size 2 [dNum, dNum] wz rfl (by decide) hD)
  have HZ := hid (L1.out.trans (hB.mono L1.out.size))
  clear hB h hD
  refine HC.out.mono ?_
  rintro e wy ⟨rfl, q1, q2⟩
  have X := hid (And.intro q1 q2)
  clear q1 q2 HC
  go_wp2
  go_ret
  exact ⟨_, rfl, X.out.1, HZ.out.trans (X.out.2.mono HZ.out.size)⟩
def vtD : Dt := dBox [dNum, dNum, dRoot, cpD, cpD]
set_option maxHeartbeats 1000000 in
theorem vtD_any (w : World) : Calls Tryd.prog 49 #[] w fun x w' => ∃ p, x = .returned (.pointer (some ⟨p, 0, none⟩)) ∧ DAt w' vtD p ∧ Below w.heap.size w w' := by
  go_enter Tryd.func49, Tryd.ntmps49
  go_wp2_with fail
  refine (num_any' w).mono ?_
  rintro e w1 ⟨rfl, q1, q2⟩
  have K0_0 := hid q1
  have L0 := hid (q2)
  clear q1 q2
  go_wp2_with fail
  refine (num_any' w1).mono ?_
  rintro e w2 ⟨rfl, q1, q2⟩
  have K1_0 := hid (DAt.keep q2 _ K0_0.out)
  have K1_1 := hid q1
  have L1 := hid (L0.out.trans (q2.mono L0.out.size))
  clear q1 q2 K0_0
  clear L0
  go_wp2_with fail
  refine (root_any' w2).mono ?_
  rintro e w3 ⟨rfl, q1, q2⟩
  have K2_0 := hid (DAt.keep q2 _ K1_0.out)
  have K2_1 := hid (DAt.keep q2 _ K1_1.out)
  have K2_2 := hid q1
  have L2 := hid (L1.out.trans (q2.mono L1.out.size))
  clear q1 q2 K1_0 K1_1
  clear L1
  go_wp2_with fail
  refine (cpD_any w3).mono ?_
  rintro e w4 ⟨p3, rfl, q1, q2⟩
  have K3_0 := hid (DAt.keep q2 _ K2_0.out)
  have K3_1 := hid (DAt.keep q2 _ K2_1.out)
  have K3_2 := hid (DAt.keep q2 _ K2_2.out)
  have K3_3 := hid q1
  have L3 := hid (L2.out.trans (q2.mono L2.out.size))
  clear q1 q2 K2_0 K2_1 K2_2
  clear L2
  go_wp2_with fail
  refine (cpD_any w4).mono ?_
  rintro e w5 ⟨p4, rfl, q1, q2⟩
  have K4_0 := hid (DAt.keep q2 _ K3_0.out)
  have K4_1 := hid (DAt.keep q2 _ K3_1.out)
  have K4_2 := hid (DAt.keep q2 _ K3_2.out)
  have K4_3 := hid (DAt.keep q2 _ K3_3.out)
  have K4_4 := hid q1
  have L4 := hid (L3.out.trans (q2.mono L3.out.size))
  clear q1 q2 K3_0 K3_1 K3_2 K3_3
  clear L3
  go_wp2_with fail
  have hB : Below w5.heap.size w5 (w5.alloc (.cells #[.pointer (some ⟨w.heap.size, 0, none⟩), .pointer (some ⟨w1.heap.size, 0, none⟩), .pointer (some ⟨w2.heap.size, 0, none⟩), .pointer (some ⟨p3, 0, none⟩), .pointer (some ⟨p4, 0, none⟩)] 35)) := (Below.refl _ w5).alloc (Nat.le_refl _) _
  have h := heap_alloc_new w5 (.cells #[.pointer (some ⟨w.heap.size, 0, none⟩), .pointer (some ⟨w1.heap.size, 0, none⟩), .pointer (some ⟨w2.heap.size, 0, none⟩), .pointer (some ⟨p3, 0, none⟩), .pointer (some ⟨p4, 0, none⟩)] 35)
  generalize w5.alloc (.cells #[.pointer (some ⟨w.heap.size, 0, none⟩), .pointer (some ⟨w1.heap.size, 0, none⟩), .pointer (some ⟨w2.heap.size, 0, none⟩), .pointer (some ⟨p3, 0, none⟩), .pointer (some ⟨p4, 0, none⟩)] 35) = wz at hB h ⊢
  have hD : DsAt wz [dNum, dNum, dRoot, cpD, cpD] w5.heap.size 0 := by
    rw [DsAt, DsAt, DsAt, DsAt, DsAt, DsAt]
    exact ⟨⟨_, cell_of_row _ _ 0 _ _ (0, 0) h, DAt.keep hB _ K4_0.out⟩, ⟨_, cell_of_row _ _ 1 _ _ (0, 0) h, DAt.keep hB _ K4_1.out⟩, ⟨_, cell_of_row _ _ 2 _ _ (0, 0) h, DAt.keep hB _ K4_2.out⟩, ⟨_, cell_of_row _ _ 3 _ _ (0, 0) h, DAt.keep hB _ K4_3.out⟩, ⟨_, cell_of_row _ _ 4 _ _ (0, 0) h, DAt.keep hB _ K4_4.out⟩, trivial⟩
  have HC := hid (box_any w5.heap.size 5 [dNum, dNum, dRoot, cpD, cpD] wz rfl (by decide) hD)
  have HZ := hid (L4.out.trans (hB.mono L4.out.size))
  clear hB h hD
  refine HC.out.mono ?_
  rintro e wy ⟨rfl, q1, q2⟩
  have X := hid (And.intro q1 q2)
  clear q1 q2 HC
  go_wp2
  go_ret
  exact ⟨_, rfl, X.out.1, HZ.out.trans (X.out.2.mono HZ.out.size)⟩
def ddD : Dt := dBox [dRoot, dRoot, dNum, dRoot]
set_option maxHeartbeats 1000000 in
theorem ddD_any (w : World) : Calls Tryd.prog 25 #[] w fun x w' => ∃ p, x = .returned (.pointer (some ⟨p, 0, none⟩)) ∧ DAt w' ddD p ∧ Below w.heap.size w w' := by
  go_enter Tryd.func25, Tryd.ntmps25
  go_wp2_with fail
  refine (root_any' w).mono ?_
  rintro e w1 ⟨rfl, q1, q2⟩
  have K0_0 := hid q1
  have L0 := hid (q2)
  clear q1 q2
  go_wp2_with fail
  refine (root_any' w1).mono ?_
  rintro e w2 ⟨rfl, q1, q2⟩
  have K1_0 := hid (DAt.keep q2 _ K0_0.out)
  have K1_1 := hid q1
  have L1 := hid (L0.out.trans (q2.mono L0.out.size))
  clear q1 q2 K0_0
  clear L0
  go_wp2_with fail
  refine (num_any' w2).mono ?_
  rintro e w3 ⟨rfl, q1, q2⟩
  have K2_0 := hid (DAt.keep q2 _ K1_0.out)
  have K2_1 := hid (DAt.keep q2 _ K1_1.out)
  have K2_2 := hid q1
  have L2 := hid (L1.out.trans (q2.mono L1.out.size))
  clear q1 q2 K1_0 K1_1
  clear L1
  go_wp2_with fail
  refine (root_any' w3).mono ?_
  rintro e w4 ⟨rfl, q1, q2⟩
  have K3_0 := hid (DAt.keep q2 _ K2_0.out)
  have K3_1 := hid (DAt.keep q2 _ K2_1.out)
  have K3_2 := hid (DAt.keep q2 _ K2_2.out)
  have K3_3 := hid q1
  have L3 := hid (L2.out.trans (q2.mono L2.out.size))
  clear q1 q2 K2_0 K2_1 K2_2
  clear L2
  go_wp2_with fail
  have hB : Below w4.heap.size w4 (w4.alloc (.cells #[.pointer (some ⟨w.heap.size, 0, none⟩), .pointer (some ⟨w1.heap.size, 0, none⟩), .pointer (some ⟨w2.heap.size, 0, none⟩), .pointer (some ⟨w3.heap.size, 0, none⟩)] 35)) := (Below.refl _ w4).alloc (Nat.le_refl _) _
  have h := heap_alloc_new w4 (.cells #[.pointer (some ⟨w.heap.size, 0, none⟩), .pointer (some ⟨w1.heap.size, 0, none⟩), .pointer (some ⟨w2.heap.size, 0, none⟩), .pointer (some ⟨w3.heap.size, 0, none⟩)] 35)
  generalize w4.alloc (.cells #[.pointer (some ⟨w.heap.size, 0, none⟩), .pointer (some ⟨w1.heap.size, 0, none⟩), .pointer (some ⟨w2.heap.size, 0, none⟩), .pointer (some ⟨w3.heap.size, 0, none⟩)] 35) = wz at hB h ⊢
  have hD : DsAt wz [dRoot, dRoot, dNum, dRoot] w4.heap.size 0 := by
    rw [DsAt, DsAt, DsAt, DsAt, DsAt]
    exact ⟨⟨_, cell_of_row _ _ 0 _ _ (0, 0) h, DAt.keep hB _ K3_0.out⟩, ⟨_, cell_of_row _ _ 1 _ _ (0, 0) h, DAt.keep hB _ K3_1.out⟩, ⟨_, cell_of_row _ _ 2 _ _ (0, 0) h, DAt.keep hB _ K3_2.out⟩, ⟨_, cell_of_row _ _ 3 _ _ (0, 0) h, DAt.keep hB _ K3_3.out⟩, trivial⟩
  have HC := hid (box_any w4.heap.size 4 [dRoot, dRoot, dNum, dRoot] wz rfl (by decide) hD)
  have HZ := hid (L3.out.trans (hB.mono L3.out.size))
  clear hB h hD
  refine HC.out.mono ?_
  rintro e wy ⟨rfl, q1, q2⟩
  have X := hid (And.intro q1 q2)
  clear q1 q2 HC
  go_wp2
  go_ret
  exact ⟨_, rfl, X.out.1, HZ.out.trans (X.out.2.mono HZ.out.size)⟩
end Go.Proofs.YtfmecdmkepnlmaaDoor

/- The document's kind of a list. -/
namespace Go.Proofs.YtfmecdmkepnlmaaDoor
open Go.RowKit Go.Shelf
set_option linter.unusedVariables false
set_option maxRecDepth 100000

set_option maxHeartbeats 1000000 in
theorem many_any (p n : Nat) (d : Dt) (w : World) (hD : DAt w d p) : Calls Tryd.prog 47 #[.pointer (some ⟨p, 0, none⟩), .int .i64 (n : Nat)] w fun x w' => ∃ q, x = .returned (.pointer (some ⟨q, 0, none⟩)) ∧ DAt w' (.mk 5 n [d]) q ∧ Below w.heap.size w w' := by
  have HD := hid hD
  clear hD
  go_enter Tryd.func47, Tryd.ntmps47
  go_wp2
  go_ret
  have B1 : Below w.heap.size w (w.alloc (.cells #[.pointer (some ⟨p, 0, none⟩)] 35)) := (Below.refl _ w).alloc (Nat.le_refl _) _
  have h1 := heap_alloc_new w (.cells #[.pointer (some ⟨p, 0, none⟩)] 35)
  have s1 : (w.alloc (.cells #[.pointer (some ⟨p, 0, none⟩)] 35)).heap.size = w.heap.size + 1 := by simp
  generalize w.alloc (.cells #[.pointer (some ⟨p, 0, none⟩)] 35) = w1 at *
  have B2 : Below w1.heap.size w1 (w1.alloc (.cells #[.int .i64 5, .int .i64 (n : Nat), .slice (some ⟨w.heap.size, 0, none⟩) 1 1] 79)) := (Below.refl _ w1).alloc (Nat.le_refl _) _
  have h2 := heap_alloc_new w1 (.cells #[.int .i64 5, .int .i64 (n : Nat), .slice (some ⟨w.heap.size, 0, none⟩) 1 1] 79)
  refine ⟨w.heap.size + 1, rfl, ?_, B1.trans (B2.mono B1.size)⟩
  rw [s1] at h2
  rw [DAt]
  refine ⟨cell_of_row _ _ 0 _ _ (0, 0) h2, cell_of_row _ _ 1 _ _ (0, 0) h2, some ⟨w.heap.size, 0, none⟩, 1, cell_of_row _ _ 2 _ _ (0, 0) h2, Nat.le_refl _, by decide, .inr ⟨w.heap.size, 0, rfl, ?_⟩⟩
  rw [DsAt, DsAt]
  exact ⟨⟨p, cell_keep B2 (cell_of_row _ _ 0 _ _ (0, 0) h1), DAt.keep B2 _ (DAt.keep B1 _ HD.out)⟩, trivial⟩
end Go.Proofs.YtfmecdmkepnlmaaDoor

/- The document's kind of an Indexed. -/
namespace Go.Proofs.YtfmecdmkepnlmaaDoor
open Go.RowKit Go.Shelf
set_option linter.unusedVariables false
set_option maxRecDepth 100000

def dNums : Dt := .mk 5 32 [dNum]
def ixD : Dt := dBox [dNums, vtD, dRoot]
set_option maxHeartbeats 1000000 in
theorem ixD_any (w : World) : Calls Tryd.prog 10 #[] w fun x w' => ∃ p, x = .returned (.pointer (some ⟨p, 0, none⟩)) ∧ DAt w' ixD p ∧ Below w.heap.size w w' := by
  go_enter Tryd.func10, Tryd.ntmps10
  go_wp2_with fail
  refine (num_any' w).mono ?_
  rintro e w0 ⟨rfl, q1, q2⟩
  have HM := hid (many_any w.heap.size 32 dNum w0 q1)
  have L0 := hid q2
  clear q1 q2
  go_wp2_with fail
  refine HM.out.mono ?_
  rintro e w1 ⟨p0, rfl, q1, q2⟩
  have K0_0 := hid q1
  have L1 := hid (L0.out.trans (q2.mono L0.out.size))
  clear q1 q2 HM L0
  go_wp2_with fail
  refine (vtD_any w1).mono ?_
  rintro e w2 ⟨p1, rfl, q1, q2⟩
  have K1_0 := hid (DAt.keep q2 _ K0_0.out)
  have K1_1 := hid q1
  have L2 := hid (L1.out.trans (q2.mono L1.out.size))
  clear q1 q2 K0_0 L1
  go_wp2_with fail
  refine (root_any' w2).mono ?_
  rintro e w3 ⟨rfl, q1, q2⟩
  have K2_0 := hid (DAt.keep q2 _ K1_0.out)
  have K2_1 := hid (DAt.keep q2 _ K1_1.out)
  have K2_2 := hid q1
  have L3 := hid (L2.out.trans (q2.mono L2.out.size))
  clear q1 q2 K1_0 K1_1 L2
  go_wp2_with fail
  have hB : Below w3.heap.size w3 (w3.alloc (.cells #[.pointer (some ⟨p0, 0, none⟩), .pointer (some ⟨p1, 0, none⟩), .pointer (some ⟨w2.heap.size, 0, none⟩)] 35)) := (Below.refl _ w3).alloc (Nat.le_refl _) _
  have h := heap_alloc_new w3 (.cells #[.pointer (some ⟨p0, 0, none⟩), .pointer (some ⟨p1, 0, none⟩), .pointer (some ⟨w2.heap.size, 0, none⟩)] 35)
  generalize w3.alloc (.cells #[.pointer (some ⟨p0, 0, none⟩), .pointer (some ⟨p1, 0, none⟩), .pointer (some ⟨w2.heap.size, 0, none⟩)] 35) = wz at hB h ⊢
  have hD : DsAt wz [dNums, vtD, dRoot] w3.heap.size 0 := by
    rw [DsAt, DsAt, DsAt, DsAt]
    exact ⟨⟨_, cell_of_row _ _ 0 _ _ (0, 0) h, DAt.keep hB _ K2_0.out⟩, ⟨_, cell_of_row _ _ 1 _ _ (0, 0) h, DAt.keep hB _ K2_1.out⟩, ⟨_, cell_of_row _ _ 2 _ _ (0, 0) h, DAt.keep hB _ K2_2.out⟩, trivial⟩
  have HC := hid (box_any w3.heap.size 3 [dNums, vtD, dRoot] wz rfl (by decide) hD)
  have HZ := hid (L3.out.trans (hB.mono L3.out.size))
  clear hB h hD
  refine HC.out.mono ?_
  rintro e wy ⟨rfl, q1, q2⟩
  have X := hid (And.intro q1 q2)
  clear q1 q2 HC
  go_wp2
  go_ret
  exact ⟨_, rfl, X.out.1, HZ.out.trans (X.out.2.mono HZ.out.size)⟩
end Go.Proofs.YtfmecdmkepnlmaaDoor

/- The document's kind of a list of numbers. -/
namespace Go.Proofs.YtfmecdmkepnlmaaDoor
open Go.RowKit Go.Shelf
set_option linter.unusedVariables false
set_option linter.unusedSimpArgs false
set_option maxRecDepth 100000

set_option maxHeartbeats 1000000 in
theorem dNums_any (w : World) : Calls Tryd.prog 19 #[] w fun x w' => ∃ p, x = .returned (.pointer (some ⟨p, 0, none⟩)) ∧ DAt w' dNums p ∧ Below w.heap.size w w' := by
  go_enter Tryd.func19, Tryd.ntmps19
  go_wp2_with fail
  refine (num_any' w).mono ?_
  rintro e w0 ⟨rfl, q1, q2⟩
  have HM := hid (many_any w.heap.size 32 dNum w0 q1)
  have L0 := hid q2
  clear q1 q2
  go_wp2_with fail
  refine HM.out.mono ?_
  rintro e w1 ⟨p0, rfl, q1, q2⟩
  have X := hid (And.intro q1 (L0.out.trans (q2.mono L0.out.size)))
  clear q1 q2 HM L0
  go_wp2
  go_ret
  exact ⟨_, rfl, X.out.1, X.out.2⟩
end Go.Proofs.YtfmecdmkepnlmaaDoor

/- The document's kind of a struct (Eth). -/
namespace Go.Proofs.YtfmecdmkepnlmaaDoor
open Go.RowKit Go.Shelf
set_option linter.unusedVariables false
set_option linter.unusedSimpArgs false
set_option maxRecDepth 100000

def etD : Dt := dBox [dRoot, dNum]
set_option maxHeartbeats 1000000 in
theorem etD_any (w : World) : Calls Tryd.prog 22 #[] w fun x w' => ∃ p, x = .returned (.pointer (some ⟨p, 0, none⟩)) ∧ DAt w' etD p ∧ Below w.heap.size w w' := by
  go_enter Tryd.func22, Tryd.ntmps22
  go_wp2_with fail
  refine (root_any' w).mono ?_
  rintro e w1 ⟨rfl, q1, q2⟩
  have K0_0 := hid q1
  have L0 := hid (q2)
  clear q1 q2
  go_wp2_with fail
  refine (num_any' w1).mono ?_
  rintro e w2 ⟨rfl, q1, q2⟩
  have K1_0 := hid (DAt.keep q2 _ K0_0.out)
  have K1_1 := hid q1
  have L1 := hid (L0.out.trans (q2.mono L0.out.size))
  clear q1 q2 K0_0
  clear L0
  go_wp2_with fail
  have hB : Below w2.heap.size w2 (w2.alloc (.cells #[.pointer (some ⟨w.heap.size, 0, none⟩), .pointer (some ⟨w1.heap.size, 0, none⟩)] 35)) := (Below.refl _ w2).alloc (Nat.le_refl _) _
  have h := heap_alloc_new w2 (.cells #[.pointer (some ⟨w.heap.size, 0, none⟩), .pointer (some ⟨w1.heap.size, 0, none⟩)] 35)
  generalize w2.alloc (.cells #[.pointer (some ⟨w.heap.size, 0, none⟩), .pointer (some ⟨w1.heap.size, 0, none⟩)] 35) = wz at hB h ⊢
  have hD : DsAt wz [dRoot, dNum] w2.heap.size 0 := by
    rw [DsAt, DsAt, DsAt]
    exact ⟨⟨_, cell_of_row _ _ 0 _ _ (0, 0) h, DAt.keep hB _ K1_0.out⟩, ⟨_, cell_of_row _ _ 1 _ _ (0, 0) h, DAt.keep hB _ K1_1.out⟩, trivial⟩
  have HC := hid (box_any w2.heap.size 2 [dRoot, dNum] wz rfl (by decide) hD)
  have HZ := hid (L1.out.trans (hB.mono L1.out.size))
  clear hB h hD
  refine HC.out.mono ?_
  rintro e wy ⟨rfl, q1, q2⟩
  have X := hid (And.intro q1 q2)
  clear q1 q2 HC
  go_wp2
  go_ret
  exact ⟨_, rfl, X.out.1, HZ.out.trans (X.out.2.mono HZ.out.size)⟩
end Go.Proofs.YtfmecdmkepnlmaaDoor

/- The document's kind of a struct (DepositMessage). -/
namespace Go.Proofs.YtfmecdmkepnlmaaDoor
open Go.RowKit Go.Shelf
set_option linter.unusedVariables false
set_option linter.unusedSimpArgs false
set_option maxRecDepth 100000

def dmD : Dt := dBox [dRoot, dRoot, dNum]
set_option maxHeartbeats 1000000 in
theorem dmD_any (w : World) : Calls Tryd.prog 28 #[] w fun x w' => ∃ p, x = .returned (.pointer (some ⟨p, 0, none⟩)) ∧ DAt w' dmD p ∧ Below w.heap.size w w' := by
  go_enter Tryd.func28, Tryd.ntmps28
  go_wp2_with fail
  refine (root_any' w).mono ?_
  rintro e w1 ⟨rfl, q1, q2⟩
  have K0_0 := hid q1
  have L0 := hid (q2)
  clear q1 q2
  go_wp2_with fail
  refine (root_any' w1).mono ?_
  rintro e w2 ⟨rfl, q1, q2⟩
  have K1_0 := hid (DAt.keep q2 _ K0_0.out)
  have K1_1 := hid q1
  have L1 := hid (L0.out.trans (q2.mono L0.out.size))
  clear q1 q2 K0_0
  clear L0
  go_wp2_with fail
  refine (num_any' w2).mono ?_
  rintro e w3 ⟨rfl, q1, q2⟩
  have K2_0 := hid (DAt.keep q2 _ K1_0.out)
  have K2_1 := hid (DAt.keep q2 _ K1_1.out)
  have K2_2 := hid q1
  have L2 := hid (L1.out.trans (q2.mono L1.out.size))
  clear q1 q2 K1_0 K1_1
  clear L1
  go_wp2_with fail
  have hB : Below w3.heap.size w3 (w3.alloc (.cells #[.pointer (some ⟨w.heap.size, 0, none⟩), .pointer (some ⟨w1.heap.size, 0, none⟩), .pointer (some ⟨w2.heap.size, 0, none⟩)] 35)) := (Below.refl _ w3).alloc (Nat.le_refl _) _
  have h := heap_alloc_new w3 (.cells #[.pointer (some ⟨w.heap.size, 0, none⟩), .pointer (some ⟨w1.heap.size, 0, none⟩), .pointer (some ⟨w2.heap.size, 0, none⟩)] 35)
  generalize w3.alloc (.cells #[.pointer (some ⟨w.heap.size, 0, none⟩), .pointer (some ⟨w1.heap.size, 0, none⟩), .pointer (some ⟨w2.heap.size, 0, none⟩)] 35) = wz at hB h ⊢
  have hD : DsAt wz [dRoot, dRoot, dNum] w3.heap.size 0 := by
    rw [DsAt, DsAt, DsAt, DsAt]
    exact ⟨⟨_, cell_of_row _ _ 0 _ _ (0, 0) h, DAt.keep hB _ K2_0.out⟩, ⟨_, cell_of_row _ _ 1 _ _ (0, 0) h, DAt.keep hB _ K2_1.out⟩, ⟨_, cell_of_row _ _ 2 _ _ (0, 0) h, DAt.keep hB _ K2_2.out⟩, trivial⟩
  have HC := hid (box_any w3.heap.size 3 [dRoot, dRoot, dNum] wz rfl (by decide) hD)
  have HZ := hid (L2.out.trans (hB.mono L2.out.size))
  clear hB h hD
  refine HC.out.mono ?_
  rintro e wy ⟨rfl, q1, q2⟩
  have X := hid (And.intro q1 q2)
  clear q1 q2 HC
  go_wp2
  go_ret
  exact ⟨_, rfl, X.out.1, HZ.out.trans (X.out.2.mono HZ.out.size)⟩
end Go.Proofs.YtfmecdmkepnlmaaDoor

/- Steps of a flow over the document's values. -/
namespace Go.Proofs.YtfmecdmkepnlmaaDoor
open Go.RowKit
set_option linter.unusedVariables false
set_option maxRecDepth 100000
theorem fieldV (k off : Nat) (h : (k = 0 ∧ off = 0) ∨ (k = 1 ∧ off = 1) ∨ (k = 2 ∧ off = 33) ∨ (k = 3 ∧ off = 34)) (g : Nat) (w : World) : (Instr.fieldAt 40 (.pointer (some ⟨g, 0, none⟩)) k).run Tryd.prog w = .ok (.pointer (some ⟨g, off, none⟩)) w := by
  rcases h with ⟨rfl, rfl⟩ | ⟨rfl, rfl⟩ | ⟨rfl, rfl⟩ | ⟨rfl, rfl⟩ <;> kernel_rfl
end Go.Proofs.YtfmecdmkepnlmaaDoor

