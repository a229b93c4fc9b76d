/- Own texts of the proof, joined: SplQ SplP LisC StrS StrE ValS Parts. -/
import Derived.Test.YtelgjencpafnnaaSha
import Derived.Test.YtelgjencpafnnaaMem
import Derived.Test.YtelgjencpafnnaaPureB
import Derived.Test.YtelgjencpafnnaaBytesB
import Derived.Test.YtelgjencpafnnaaBase
import Derived.Test.YtelgjencpafnnaaCls
import Derived.Test.YtelgjencpafnnaaTail
import Derived.Test.YtelgjencpafnnaaClsTail
import Derived.Test.YtelgjencpafnnaaFlow
import Derived.Test.YtelgjencpafnnaaFlowG
import Derived.Test.YtelgjencpafnnaaConv
import Derived.Test.YtelgjencpafnnaaRunOps
import Derived.Test.YtelgjencpafnnaaCells
import Derived.Test.YtelgjencpafnnaaRangeM
import Derived.Test.YtelgjencpafnnaaIter
import Derived.Test.YtelgjencpafnnaaSplit4
import Derived.Test.YtelgjencpafnnaaSplitC
import Derived.Test.YtelgjencpafnnaaEqF
import Derived.Test.YtelgjencpafnnaaBytesT
import Derived.Test.YtelgjencpafnnaaChain
import Derived.Test.YtelgjencpafnnaaChainI
import Derived.Test.YtelgjencpafnnaaWriter
import Derived.Test.YtelgjencpafnnaaWriterN
import Derived.Test.YtelgjencpafnnaaAppAny
import Derived.Test.YtelgjencpafnnaaWriterB
import Derived.Test.YtelgjencpafnnaaBits
import Derived.Test.YtelgjencpafnnaaReader
import Derived.Test.YtelgjencpafnnaaReaderP
import Derived.Test.YtelgjencpafnnaaReaderQ
import Derived.Test.YtelgjencpafnnaaCut
import Derived.Test.YtelgjencpafnnaaLenB
import Derived.Test.YtelgjencpafnnaaNew4
import Derived.Test.YtelgjencpafnnaaTkLe
import Derived.Test.YtelgjencpafnnaaNumS
import Derived.Test.YtelgjencpafnnaaLisE
import Derived.Test.YtelgjencpafnnaaAppB0
import Derived.Test.YtelgjencpafnnaaQuietR
import Derived.Test.YtelgjencpafnnaaAwake4
import Derived.Test.YtelgjencpafnnaaSplS
import Derived.Test.YtelgjencpafnnaaFlowM
import Derived.OwnWalkIn
import Derived.RangeFuncLeaves
import Derived.RangeFuncCalls
import Derived.Lib.ConvBytes
/- Parts of bytes. -/
namespace Go.Proofs.Ytelgjencpafnnaa
open Go.RowKit Go.Shelf
set_option linter.unusedVariables false
set_option linter.unusedSimpArgs false
set_option maxRecDepth 100000

theorem run_subB {o : Oper} {a : Act} (x y z : Operand) (ho : o.op = .slice 22 x (some y) (some z) none) (b off n cap lo hi : Nat) (hx : a.eval x = .slice (some ⟨b, off, none⟩) n cap) (hy : a.eval y = .int .i64 (lo : Int)) (hz : a.eval z = .int .i64 (hi : Int)) (h1 : lo < hi) (h2 : hi ≤ cap) (hc : cap ≤ maxLen) (w : World) :
    (execOp a.eval o).run Try.prog w = .ok (.value (.slice (some ⟨b, off + lo, none⟩) (hi - lo) (cap - lo))) w := by
  unfold execOp
  simp only [ho, hx, hy, hz, Option.map]
  have hne : ¬ cap = lo := by omega
  unfold maxLen at hc
  go_simp
  intro h
  omega
theorem rneqsT {o : Oper} {a : Act} {w : World} {s : ByteArray} (x y : Operand) (ho : o.op = .binOp .neq 9 x y 9) (hx : a.eval x = .string s) (hy : a.eval y = .string s) : (execOp a.eval o).run Try.prog w = .ok (.value (.bool false)) w := by
  unfold execOp
  simp only [ho, hx, hy]
  simp [go_sem, toList_beq]
theorem rneqsF {o : Oper} {a : Act} {w : World} {s t : ByteArray} (hst : ¬ s = t) (x y : Operand) (ho : o.op = .binOp .neq 9 x y 9) (hx : a.eval x = .string s) (hy : a.eval y = .string t) : (execOp a.eval o).run Try.prog w = .ok (.value (.bool true)) w := by
  unfold execOp
  simp only [ho, hx, hy]
  simp [go_sem, toList_beq, hst]
theorem run_mulI {o : Oper} {a : Act} (x y : Operand) (ho : o.op = .binOp .mul 3 x y 3) (p q : Nat) (hx : a.eval x = .int .i64 (p : Int)) (hy : a.eval y = .int .i64 (q : Int)) (hb : p * q ≤ 9223372036854775807) (w : World) : (execOp a.eval o).run Try.prog w = .ok (.value (.int .i64 ((p * q : Nat) : Int))) w := by
  unfold execOp
  simp only [ho, hx, hy]
  simp [go_sem]
  rw [← Int.natCast_mul, IntKind.wrap_i64]
  omega
theorem run_addI1 {o : Oper} {a : Act} (x : Operand) (ho : o.op = .binOp .add 3 x (.const (.int .i64 1)) 3) (p : Nat) (hx : a.eval x = .int .i64 (p : Int)) (hb : p < 9223372036854775807) (w : World) : (execOp a.eval o).run Try.prog w = .ok (.value (.int .i64 ((p + 1 : Nat) : Int))) w := by
  unfold execOp
  simp only [ho, hx, show a.eval (.const (.int .i64 1)) = .int .i64 1 from rfl]
  simp [go_sem]
  rw [IntKind.wrap_i64]
  omega
theorem isB_sub {w : World} {b off cap : Nat} {bs : List Nat} {lo n : Nat} (hc : ∀ i, i < bs.length → w.cell? ⟨b, off + i, none⟩ = some (.int .u8 (bs.getD i 0 : Nat))) (h8 : ∀ z ∈ bs, z < 256) (h1 : lo + n ≤ bs.length) (h2 : n ≤ cap) (h3 : cap ≤ maxLen) :
    IsB w (.slice (some ⟨b, off + lo, none⟩) n cap) ((bs.drop lo).take n) := by
  have hl : ((bs.drop lo).take n).length = n := by rw [List.length_take, List.length_drop]; omega
  refine ⟨⟨some ⟨b, off + lo, none⟩, cap, by rw [hl], by omega, h3, (fun e => nomatch e), Or.inr ⟨b, off + lo, rfl, fun i hi => ?_⟩⟩, fun z hz => h8 z (List.mem_of_mem_drop (List.mem_of_mem_take hz))⟩
  rw [hl] at hi
  rw [Nat.add_assoc, hc (lo + i) (by omega)]
  congr 3
  rw [List.getD_eq_getElem?_getD, List.getD_eq_getElem?_getD, List.getElem?_take, if_pos hi, List.getElem?_drop]
end Go.Proofs.Ytelgjencpafnnaa

/- SszSplits: its walk. -/
namespace Go.Proofs.Ytelgjencpafnnaa
open Go.RowKit Go.Shelf
set_option linter.unusedVariables false
set_option linter.unusedSimpArgs false
set_option maxRecDepth 100000
attribute [local go_sem] Oper.semAt_some

theorem boxKeep {W V : World} {g : Nat} {t : TypeId} {v : Value} (h : Boxed W g t v) (hb : Below W.heap.size W V) : Boxed V g t v := (hb.block g h.lt).trans h
theorem results_box {fn : Func} {p : Tmp} (h : fn.results = #[.cell p 4]) (tmps : Array Value) (w : World) (g : Nat) (t : TypeId) (b : Bool) (hp : tmps.getD p undef = .pointer (some ⟨g, 0, none⟩)) (hB : Boxed w g t (.bool b)) :
    (results fn tmps).run Try.prog w = .ok (.bool b) w := by
  have hp' : tmps[p]?.getD undef = .pointer (some ⟨g, 0, none⟩) := by simpa using hp
  have hc := hB.cell
  simp only [results, h]
  simp [hp', asAddr, go_sem, hc]
theorem four_new (w : World) (a b c d : Value) (ta tb tc td : TypeId) : Boxed ((((w.alloc (.cells #[a] ta)).alloc (.cells #[b] tb)).alloc (.cells #[c] tc)).alloc (.cells #[d] td)) w.heap.size ta a ∧ Boxed ((((w.alloc (.cells #[a] ta)).alloc (.cells #[b] tb)).alloc (.cells #[c] tc)).alloc (.cells #[d] td)) (w.heap.size + 1) tb b ∧
    Boxed ((((w.alloc (.cells #[a] ta)).alloc (.cells #[b] tb)).alloc (.cells #[c] tc)).alloc (.cells #[d] td)) (w.heap.size + 2) tc c ∧ Boxed ((((w.alloc (.cells #[a] ta)).alloc (.cells #[b] tb)).alloc (.cells #[c] tc)).alloc (.cells #[d] td)) (w.heap.size + 3) td d ∧
    ((((w.alloc (.cells #[a] ta)).alloc (.cells #[b] tb)).alloc (.cells #[c] tc)).alloc (.cells #[d] td)).heap.size = w.heap.size + 4 ∧ Below w.heap.size w ((((w.alloc (.cells #[a] ta)).alloc (.cells #[b] tb)).alloc (.cells #[c] tc)).alloc (.cells #[d] td)) := by
  have h1 := Boxed.new w ta a
  have h2 := Boxed.new (w.alloc (.cells #[a] ta)) tb b
  have h3 := Boxed.new ((w.alloc (.cells #[a] ta)).alloc (.cells #[b] tb)) tc c
  have h4 := Boxed.new (((w.alloc (.cells #[a] ta)).alloc (.cells #[b] tb)).alloc (.cells #[c] tc)) td d
  rw [World.size_alloc] at h2
  rw [World.size_alloc, World.size_alloc] at h3
  rw [World.size_alloc, World.size_alloc, World.size_alloc] at h4
  exact ⟨((h1.alloc _).alloc _).alloc _, (h2.alloc _).alloc _, h3.alloc _, h4, by simp, ((((Below.refl _ w).alloc (Nat.le_refl _) _).alloc (by simp) _).alloc (by simp; omega) _).alloc (by simp; omega) _⟩
theorem flow_new0 {w : World} {o : Oper} {a : Act} {Q : Exit → Act → World → Prop} {I : Value → World → Prop} (t : TypeId) (ho : o.op = .buildSlice t 0 #[]) (e : TypeId) (ht : Try.prog.underlying t = some (.slice e)) (hi : (Try.prog.info? e).map (fun i => (i.zero, i.size, i.bytes)) = some (some (.int .u8 0), 1, 1))
    (hI : ∀ {w'}, I (.slice (some ⟨w.heap.size, 0, none⟩) 0 0) w') : o.wp Try.prog a w (fun a' w' => ∃ v, a' = a.put o.dst v ∧ I v w' ∧ Below w.heap.size w w') Q := by
  obtain ⟨i0, hi0, hz0, hz1, hz2⟩ := info_parts hi
  have hrun : (execOp a.eval o).run Try.prog w = .ok (.value (.slice (some ⟨w.heap.size, 0, none⟩) 0 0)) (w.alloc (.cells #[] e)) := by
    unfold execOp
    simp only [ho]
    simp [go_sem, ht, run_underlying ht, hi0, hz0, hz1, hz2, Instr.buildSlice, sizeOf, typeInfo]
  unfold Oper.wp
  rw [hrun]
  exact ⟨_, rfl, hI, (Below.refl _ w).alloc (Nat.le_refl _) _⟩

/-- What Split answers when the list is none. -/
def badS (n size : Int) (limit : Int) : Prop := size < 1 ∨ n.tmod size ≠ 0 ∨ limit < n.tdiv size
theorem wpIn_calm {F : Fence} {n : Nat} {P : Program} {c : Code} {K : Act → World → Prop} {Q : Exit → Act → World → Prop} {a : Act} {w : World} (h : c.wpIn F n P (Exit.then K (fun _ _ _ => False)) a w) : c.wpIn F n P (Exit.then K Q) a w :=
  wpIn_mono h (fun e a' w' hq => by cases e <;> first | exact hq | exact hq.elim)
def turnOf (v : Value) (W : World) : Nat := match v with
  | .pointer (some p) => match W.cell? p with
    | some (.int _ z) => (3 - z).toNat
    | _ => 0
  | _ => 0
structure LI (m : SC) (w : World) (T bt : Nat) (ds : List Nat) (W : World) : Prop where
  sh : SH m T bt W
  be : Below w.heap.size w W
  mr : MK ds W
  nd : ds.Nodup
  ge : ∀ d ∈ ds, w.heap.size ≤ d
  t2 : ds.length = T
  le : T ≤ 2
  ot : ∀ b, b = m.A ∨ b = m.A + 1 ∨ b = m.A + 2 ∨ b = m.A + 3 ∨ b = m.D ∨ b = m.bo ∨ b = m.bz → b ≠ bt
theorem keepsF_only {B g : Nat} {W V : World} {c : Array Value} {t : TypeId} {f : Nat × Nat} (h : W.heap[g]? = some (.cells c t f)) (ho : Only g W V) : KeepsFrom B W V :=
  ⟨by rw [ho.size]; exact Nat.le_refl _, fun k o _ hk hc => by
    by_cases e : k = g
    · subst e; rw [h] at hk; cases hk; cases hc
    · exact (ho.block k e).trans hk⟩
theorem keepsF_set {B g : Nat} {W : World} {t : TypeId} {u : Value} (h : Boxed W g t u) (v : Value) : KeepsFrom B W (W.setCell ⟨g, 0, none⟩ v) := keepsF_only h (Only.setCell W g 0 v)
theorem keepsF_drewN (B : Nat) (W : World) (n : Nat) : KeepsFrom B W (W.drewN n) := ⟨Nat.le_refl _, fun k o _ hk _ => hk⟩
theorem belowF_drewN {w W : World} (h : Below w.heap.size w W) (n : Nat) : Below w.heap.size w (W.drewN n) := h.trans ⟨rfl, rfl, rfl, Nat.le_refl _, fun _ _ => rfl⟩
set_option maxHeartbeats 4000000 in
theorem splits_in (ao : Option Addr) (cap : Nat) (bs : List Nat) (size limit stop : Int) (w : World) (hI : IsB w (.slice ao bs.length cap) bs) (hsz : -9223372036854775808 ≤ size ∧ size ≤ 9223372036854775807) (hst : -9223372036854775808 ≤ stop ∧ stop ≤ 9223372036854775807) (hlm : -9223372036854775808 ≤ limit ∧ limit ≤ 9223372036854775807) :
    CallsIn Fence.wide 5 Try.prog 3 #[.slice ao bs.length cap, .int .i64 size, .int .i64 limit, .int .i64 stop] w fun e w' => e = .returned (.bool true) ∧ Below w.heap.size w w' := by
  have h8 := hI.by8
  refine callsIn_of_wp_marks Try.func3 rfl trivial ?_ rfl
  simp only [Try.ntmps3, List.size_toArray, List.length_cons, List.length_nil, Nat.reduceAdd, Nat.reduceSub, Array.replicate_succ, Array.replicate_zero, List.push_toArray, List.append_toArray, List.nil_append, List.cons_append]
  gi_wp2_with fail
  obtain ⟨X0, X1, X2, X3, S0, B0⟩ := four_new w (.slice ao bs.length cap) (.int .i64 size) (.int .i64 stop) (.bool false) 22 3 3 4
  generalize (((w.alloc (.cells #[.slice ao bs.length cap] 22)).alloc (.cells #[.int .i64 size] 3)).alloc (.cells #[.int .i64 stop] 3)).alloc (.cells #[.bool false] 4) = w0 at *
  simp only [Nat.add_assoc, Nat.reduceAdd]
  refine ⟨trivial, ?_⟩
  refine (callsIn_wide.2 (awake_any w0)).mono ?_
  rintro e w1 ⟨rfl, B1⟩
  have Y0 := boxKeep X0 B1
  have Y1 := boxKeep X1 B1
  have Y2 := boxKeep X2 B1
  have Y3 := boxKeep X3 B1
  have BB := below_more B0 B1 (Nat.le_refl _)
  have S1 := B1.size
  have I1 := hI.keep BB
  clear X0 X1 X2 X3 B0 B1
  have yc := Y0.cell
  by_cases h3 : 3000 < bs.length
  · have h3' : (3000 : Int) < ((bs.length : Nat) : Int) := by omega
    have yr := Y3.cell
    have yf := Y3.frozen
    have HX := hid (And.intro Y3 BB)
    clear Y0 Y1 Y2 Y3 BB I1
    gi_wp2
    exact ⟨_, results_box rfl _ _ (w.heap.size + 3) 4 true rfl (HX.out.1.set _), rfl, HX.out.2.setCell (p := ⟨w.heap.size + 3, 0, none⟩) (by show w.heap.size ≤ w.heap.size + 3; omega) _⟩
  have h3' : ¬ (3000 : Int) < ((bs.length : Nat) : Int) := by omega
  have HX := hid (And.intro Y0 (And.intro Y1 (And.intro I1 (And.intro Y2 (And.intro Y3 BB)))))
  clear Y0 Y1 Y2 Y3 BB I1
  by_cases hbd : badS (bs.length : Int) size limit
  · have HBD := hid hbd
    clear hbd
    gi_wp2
    clear yc
    refine wpIn_calm (wpIn_wide.2 ?_)
    refine wp_region_flowM 9 8 (fun i v wq => match i with
      | 0 => ∃ b, v = .slice (some ⟨b, 0, none⟩) 0 0
      | 1 => v = (.slice ao bs.length cap)
      | 2 => IsB wq v bs
      | 3 => v = .int .i64 size
      | 4 => v = .int .i64 limit
      | 5 => v = .tuple #[.nilFunc, .int .i64 3]
      | 6 => v = .tuple #[.nilFunc, .int .i64 3]
      | 7 => v = .nilFunc
      | _ => v = .int .i64 3) (by kernel_rfl) (by kernel_rfl) (fun _ d _ _ _ h => by cases d <;> exact h) ?_ ?_ ?_ ?_ ?_
    · intro i o g b hi ho hg v wq hv
      match i, hi with
      | 0, _ => cases ho; cases hg
      | 1, _ => cases ho; cases hg
      | 2, _ => cases ho; cases hg
      | 3, _ => cases ho; cases hg
      | 4, _ => cases ho; cases hg
      | 5, _ => cases ho; cases hg
      | 6, _ => cases ho; cases hg
      | 7, _ => cases ho; cases hg
      | 8, _ => cases ho; cases hg
      | (k + 9), hk => exact absurd hk (by omega)
    · intro i v wq wq' hi hv hb
      match i, hi with
      | 0, _ => exact hv
      | 1, _ => exact hv
      | 2, _ => exact hv.keep hb
      | 3, _ => exact hv
      | 4, _ => exact hv
      | 5, _ => exact hv
      | 6, _ => exact hv
      | 7, _ => exact hv
      | 8, _ => exact hv
      | (k + 9), hk => exact absurd hk (by omega)
    · intro i o hi ho aq wq hc hk hdep
      match i, hi with
      | 0, _ =>
        cases ho
        exact flow_new0 22 rfl 5 Try.underlying22 Try.info5 ⟨_, rfl⟩
      | 1, _ =>
        cases ho
        have e1 : aq.tmps.getD 4 undef = .pointer (some ⟨w.heap.size, 0, none⟩) := hk 4 (by decide)
        exact flow_value _ (run_cell 22 (.tmp 4) rfl ⟨w.heap.size, 0, none⟩ e1 _ (boxKeep HX.out.1 hc.bel).cell _ Try.underlying22 rfl) rfl
      | 2, _ =>
        cases ho
        obtain ⟨b, e0⟩ := hdep 0 22 rfl (by kernel_rfl)
        have e1 : aq.tmps.getD 23 undef = (.slice ao bs.length cap) := hdep 1 23 rfl (by kernel_rfl)
        exact flow_copy_b (.tmp 22) (.tmp 23) rfl b e0 bs _ e1 (HX.out.2.2.1.keep hc.bel) (by omega) (fun _ _ h => h)
      | 3, _ =>
        cases ho
        have e1 : aq.tmps.getD 5 undef = .pointer (some ⟨w.heap.size + 1, 0, none⟩) := hk 5 (by decide)
        exact flow_value _ (run_cell 3 (.tmp 5) rfl ⟨w.heap.size + 1, 0, none⟩ e1 _ (boxKeep HX.out.2.1 hc.bel).cell _ Try.underlying3 rfl) rfl
      | 4, _ =>
        cases ho
        exact flow_move (.tmp 2) rfl (hk 2 (by decide))
      | 5, _ =>
        cases ho
        have hB : IsB wq (aq.tmps.getD 24 undef) bs := hdep 2 24 rfl (by kernel_rfl)
        have e1 : aq.tmps.getD 25 undef = .int .i64 size := hdep 3 25 rfl (by kernel_rfl)
        have e2 : aq.tmps.getD 26 undef = .int .i64 limit := hdep 4 26 rfl (by kernel_rfl)
        refine flow_fun 6 _ _ rfl (fun _ _ => by simp [go_sem]) #[aq.tmps.getD 24 undef, .int .i64 size, .int .i64 limit] (by rw [show (#[Operand.tmp 24, Operand.tmp 25, Operand.tmp 26] : Array Operand).map aq.eval = #[aq.tmps.getD 24 undef, aq.tmps.getD 25 undef, aq.tmps.getD 26 undef] from by simp [Act.eval], e1, e2]) ?_
        refine (split_bad _ bs size limit wq hB (by omega) hsz HBD.out).mono ?_
        rintro e w' ⟨rfl, B⟩
        exact ⟨_, rfl, rfl, B⟩
      | 6, _ =>
        cases ho
        exact flow_move (.tmp 27) rfl (hdep 5 27 rfl (by kernel_rfl))
      | 7, _ =>
        cases ho
        have e : aq.tmps.getD 21 undef = .tuple #[.nilFunc, .int .i64 3] := hdep 6 21 rfl (by kernel_rfl)
        exact flow_extract (.tmp 21) 0 _ _ rfl (by simpa [Act.eval] using e) rfl rfl
      | 8, _ =>
        cases ho
        have e : aq.tmps.getD 21 undef = .tuple #[.nilFunc, .int .i64 3] := hdep 6 21 rfl (by kernel_rfl)
        exact flow_extract (.tmp 21) 1 _ _ rfl (by simpa [Act.eval] using e) rfl rfl
      | (k + 9), hk => exact absurd hk (by omega)
    · intro o h8 ho aq wq hc hk hdep
      cases ho
      have e : aq.tmps.getD 21 undef = .tuple #[.nilFunc, .int .i64 3] := hdep 6 21 rfl (by kernel_rfl)
      exact ⟨_, fun w => run_extract (.tmp 21) 1 _ _ rfl (by simpa [Act.eval] using e) rfl, rfl⟩
    intro vf w2 hc hv
    have e28 : vf 7 = _ := hv 7 28 (by decide) rfl
    have e29 : vf 8 = _ := hv 8 29 (by decide) rfl
    clear hv
    simp only [List.take_succ_cons, List.take_zero, List.drop_succ_cons, List.drop_zero, putAll, Act.put, List.setIfInBounds_toArray, List.set_cons_succ, List.set_cons_zero]
    rw [e28, e29]
    clear e28 e29
    have HX := hid (And.intro (boxKeep HX.out.1 hc.bel) (And.intro (boxKeep HX.out.2.1 hc.bel) (And.intro (boxKeep HX.out.2.2.2.2.1 hc.bel) (below_more HX.out.2.2.2.2.2 hc.bel (Nat.le_refl _)))))
    have c0 := HX.out.1.cell
    have c1 := HX.out.2.1.cell
    have c3 := HX.out.2.2.1.cell
    have f3 := HX.out.2.2.1.frozen
    clear hc
    go_wp2_with fail
    have eqn := eqSeq_none w2
    by_cases h1 : size < 1
    · gi_wp2
      exact ⟨_, results_box rfl _ _ (w.heap.size + 3) 4 true rfl (HX.out.2.2.1.set _), rfl, HX.out.2.2.2.setCell (p := ⟨w.heap.size + 3, 0, none⟩) (by show w.heap.size ≤ w.heap.size + 3; omega) _⟩
    · have h0 : size ≠ 0 := by omega
      obtain ⟨s, rfl⟩ : ∃ s : Nat, size = (s : Int) := ⟨size.toNat, by omega⟩
      by_cases h2 : ((bs.length : Int) % (s : Int)) = 0
      · have h4 : limit < (bs.length : Int) / (s : Int) := by
          rcases HBD.out with h | h | h
          · exact absurd h h1
          · rw [Int.tmod_eq_emod_of_nonneg (by omega)] at h; exact absurd h2 h
          · rwa [Int.tdiv_eq_ediv_of_nonneg (by omega)] at h
        have hb : 0 ≤ (bs.length : Int) / (s : Int) ∧ (bs.length : Int) / (s : Int) ≤ 1099511627776 := ⟨Int.ediv_nonneg (by omega) (by omega), Int.le_trans (Int.ediv_le_self _ (by omega)) (by omega)⟩
        gi_wp2
        exact ⟨_, results_box rfl _ _ (w.heap.size + 3) 4 true rfl (HX.out.2.2.1.set _), rfl, HX.out.2.2.2.setCell (p := ⟨w.heap.size + 3, 0, none⟩) (by show w.heap.size ≤ w.heap.size + 3; omega) _⟩
      · gi_wp2
        exact ⟨_, results_box rfl _ _ (w.heap.size + 3) 4 true rfl (HX.out.2.2.1.set _), rfl, HX.out.2.2.2.setCell (p := ⟨w.heap.size + 3, 0, none⟩) (by show w.heap.size ≤ w.heap.size + 3; omega) _⟩
  · obtain ⟨sz, hszn⟩ : ∃ sz : Nat, size = (sz : Int) := ⟨size.toNat, by unfold badS at hbd; omega⟩
    subst hszn
    obtain ⟨k, hkd⟩ : ∃ k, bs.length / sz = k := ⟨_, rfl⟩
    have hb3 : 0 < sz ∧ bs.length % sz = 0 ∧ (k : Int) ≤ limit := by
      unfold badS at hbd
      have h1 : 0 < sz := by omega
      have h2 : ¬ ((bs.length : Int).tmod (sz : Int) ≠ 0) := fun h => hbd (.inr (.inl h))
      have h4 : ¬ (limit < (bs.length : Int).tdiv (sz : Int)) := fun h => hbd (.inr (.inr h))
      rw [Int.tmod_eq_emod_of_nonneg (by omega)] at h2
      rw [Int.tdiv_eq_ediv_of_nonneg (by omega)] at h4
      exact ⟨h1, by omega, by rw [← hkd, Int.natCast_ediv]; omega⟩
    have HG := hid (And.intro hb3.1 (And.intro (show bs.length = k * sz by have := Nat.div_add_mod bs.length sz; rw [hb3.2.1, hkd, Nat.mul_comm] at this; omega) hb3.2.2))
    have HS : Hid (sz ≤ 9223372036854775807) := hid (by omega)
    have HR := hid (show ((bs.length : Int) % (sz : Int)) = 0 by have := hb3.2.1; omega)
    have HQ := hid (show ((bs.length : Int) / (sz : Int)) = (k : Int) by rw [← hkd, Int.natCast_ediv])
    clear hbd hkd hb3
    gi_wp2
    clear yc
    refine wpIn_calm (wpIn_wide.2 ?_)
    refine wp_region_flowM 9 8 (fun i v wq => match i with
      | 0 => ∃ b, v = .slice (some ⟨b, 0, none⟩) 0 0
      | 1 => v = (.slice ao bs.length cap)
      | 2 => IsB wq v bs
      | 3 => v = .int .i64 (sz : Nat)
      | 4 => v = .int .i64 limit
      | 5 => ∃ (au : Option Addr) (cu bo bz : Nat), v = .tuple #[.func (.func 23) #[] #[.pointer (some ⟨bo, 0, none⟩), .pointer (some ⟨bz, 0, none⟩)], .int .i64 0] ∧ w1.heap.size ≤ bo ∧ w1.heap.size ≤ bz ∧ bo ≠ bz ∧ wq.heap[bo]? = some (.cells #[.slice au bs.length cu] 22 (0, 0)) ∧ wq.heap[bz]? = some (.cells #[.int .i64 (sz : Nat)] 3 (0, 0)) ∧ IsB wq (.slice au bs.length cu) bs
      | 6 => ∃ (au : Option Addr) (cu bo bz : Nat), v = .tuple #[.func (.func 23) #[] #[.pointer (some ⟨bo, 0, none⟩), .pointer (some ⟨bz, 0, none⟩)], .int .i64 0] ∧ w1.heap.size ≤ bo ∧ w1.heap.size ≤ bz ∧ bo ≠ bz ∧ wq.heap[bo]? = some (.cells #[.slice au bs.length cu] 22 (0, 0)) ∧ wq.heap[bz]? = some (.cells #[.int .i64 (sz : Nat)] 3 (0, 0)) ∧ IsB wq (.slice au bs.length cu) bs
      | 7 => ∃ (au : Option Addr) (cu bo bz : Nat), v = .func (.func 23) #[] #[.pointer (some ⟨bo, 0, none⟩), .pointer (some ⟨bz, 0, none⟩)] ∧ w1.heap.size ≤ bo ∧ w1.heap.size ≤ bz ∧ bo ≠ bz ∧ wq.heap[bo]? = some (.cells #[.slice au bs.length cu] 22 (0, 0)) ∧ wq.heap[bz]? = some (.cells #[.int .i64 (sz : Nat)] 3 (0, 0)) ∧ IsB wq (.slice au bs.length cu) bs
      | _ => v = .int .i64 0) (by kernel_rfl) (by kernel_rfl) (fun _ d _ _ _ h => by cases d <;> exact h) ?_ ?_ ?_ ?_ ?_
    · intro i o g b hi ho hg v wq hv
      match i, hi with
      | 0, _ => cases ho; cases hg
      | 1, _ => cases ho; cases hg
      | 2, _ => cases ho; cases hg
      | 3, _ => cases ho; cases hg
      | 4, _ => cases ho; cases hg
      | 5, _ => cases ho; cases hg
      | 6, _ => cases ho; cases hg
      | 7, _ => cases ho; cases hg
      | 8, _ => cases ho; cases hg
      | (k + 9), hk => exact absurd hk (by omega)
    · intro i v wq wq' hi hv hb
      match i, hi with
      | 0, _ => exact hv
      | 1, _ => exact hv
      | 2, _ => exact hv.keep hb
      | 3, _ => exact hv
      | 4, _ => exact hv
      | 5, _ => obtain ⟨au, cu, bo, bz, e, h1, h2, h3, h4, h5, h6⟩ := hv; exact ⟨au, cu, bo, bz, e, h1, h2, h3, (hb.block _ (Array.getElem?_eq_some_iff.1 h4).1).trans h4, (hb.block _ (Array.getElem?_eq_some_iff.1 h5).1).trans h5, h6.keep hb⟩
      | 6, _ => obtain ⟨au, cu, bo, bz, e, h1, h2, h3, h4, h5, h6⟩ := hv; exact ⟨au, cu, bo, bz, e, h1, h2, h3, (hb.block _ (Array.getElem?_eq_some_iff.1 h4).1).trans h4, (hb.block _ (Array.getElem?_eq_some_iff.1 h5).1).trans h5, h6.keep hb⟩
      | 7, _ => obtain ⟨au, cu, bo, bz, e, h1, h2, h3, h4, h5, h6⟩ := hv; exact ⟨au, cu, bo, bz, e, h1, h2, h3, (hb.block _ (Array.getElem?_eq_some_iff.1 h4).1).trans h4, (hb.block _ (Array.getElem?_eq_some_iff.1 h5).1).trans h5, h6.keep hb⟩
      | 8, _ => exact hv
      | (k + 9), hk => exact absurd hk (by omega)
    · intro i o hi ho aq wq hc hk hdep
      match i, hi with
      | 0, _ =>
        cases ho
        exact flow_new0 22 rfl 5 Try.underlying22 Try.info5 ⟨_, rfl⟩
      | 1, _ =>
        cases ho
        have e1 : aq.tmps.getD 4 undef = .pointer (some ⟨w.heap.size, 0, none⟩) := hk 4 (by decide)
        exact flow_value _ (run_cell 22 (.tmp 4) rfl ⟨w.heap.size, 0, none⟩ e1 _ (boxKeep HX.out.1 hc.bel).cell _ Try.underlying22 rfl) rfl
      | 2, _ =>
        cases ho
        obtain ⟨b, e0⟩ := hdep 0 22 rfl (by kernel_rfl)
        have e1 : aq.tmps.getD 23 undef = (.slice ao bs.length cap) := hdep 1 23 rfl (by kernel_rfl)
        exact flow_copy_b (.tmp 22) (.tmp 23) rfl b e0 bs _ e1 (HX.out.2.2.1.keep hc.bel) (by omega) (fun _ _ h => h)
      | 3, _ =>
        cases ho
        have e1 : aq.tmps.getD 5 undef = .pointer (some ⟨w.heap.size + 1, 0, none⟩) := hk 5 (by decide)
        exact flow_value _ (run_cell 3 (.tmp 5) rfl ⟨w.heap.size + 1, 0, none⟩ e1 _ (boxKeep HX.out.2.1 hc.bel).cell _ Try.underlying3 rfl) rfl
      | 4, _ =>
        cases ho
        exact flow_move (.tmp 2) rfl (hk 2 (by decide))
      | 5, _ =>
        cases ho
        have hB : IsB wq (aq.tmps.getD 24 undef) bs := hdep 2 24 rfl (by kernel_rfl)
        have e1 : aq.tmps.getD 25 undef = .int .i64 (sz : Nat) := hdep 3 25 rfl (by kernel_rfl)
        have e2 : aq.tmps.getD 26 undef = .int .i64 limit := hdep 4 26 rfl (by kernel_rfl)
        refine flow_fun 6 _ _ rfl (fun _ _ => by simp [go_sem]) #[aq.tmps.getD 24 undef, .int .i64 (sz : Nat), .int .i64 limit] (by rw [show (#[Operand.tmp 24, Operand.tmp 25, Operand.tmp 26] : Array Operand).map aq.eval = #[aq.tmps.getD 24 undef, aq.tmps.getD 25 undef, aq.tmps.getD 26 undef] from by simp [Act.eval], e1, e2]) ?_
        refine (split_ok _ bs sz k limit wq hB HG.out.1 HG.out.2.1 (by omega) HG.out.2.2 HS.out).mono ?_
        rintro e w' ⟨u, bo, bz, rfl, g1, g2, g3, g4, g5, g6⟩
        obtain ⟨au, cu, rfl⟩ : ∃ au cu, u = .slice au bs.length cu := by obtain ⟨⟨a, c, e, _⟩, _⟩ := g5; exact ⟨a, c, e⟩
        have hne : bo ≠ bz := fun e => by subst e; rw [g3] at g4; cases g4
        exact ⟨_, rfl, ⟨au, cu, bo, bz, rfl, Nat.le_trans hc.bel.size g1, Nat.le_trans hc.bel.size g2, hne, g3, g4, g5⟩, g6⟩
      | 6, _ =>
        cases ho
        exact flow_move (.tmp 27) rfl (hdep 5 27 rfl (by kernel_rfl))
      | 7, _ =>
        cases ho
        obtain ⟨au, cu, bo, bz, e, h1, h2, h3, h4, h5, h6⟩ := hdep 6 21 rfl (by kernel_rfl)
        exact flow_extract (.tmp 21) 0 _ _ rfl (by simpa [Act.eval] using e) rfl ⟨au, cu, bo, bz, rfl, h1, h2, h3, h4, h5, h6⟩
      | 8, _ =>
        cases ho
        obtain ⟨au, cu, bo, bz, e, _⟩ := hdep 6 21 rfl (by kernel_rfl)
        exact flow_extract (.tmp 21) 1 _ _ rfl (by simpa [Act.eval] using e) rfl rfl
      | (k + 9), hk => exact absurd hk (by omega)
    · intro o h8 ho aq wq hc hk hdep
      cases ho
      obtain ⟨au, cu, bo, bz, e, _⟩ := hdep 6 21 rfl (by kernel_rfl)
      exact ⟨_, fun w => run_extract (.tmp 21) 1 _ _ rfl (by simpa [Act.eval] using e) rfl, rfl⟩
    intro vf w2 hc hv
    have e28 := hv 7 28 (by decide) rfl
    have e29 : vf 8 = _ := hv 8 29 (by decide) rfl
    obtain ⟨au, cu, bo, bz, e28, g1, g2, g3, g4, g5, g6⟩ : ∃ (au : Option Addr) (cu bo bz : Nat), vf 7 = .func (.func 23) #[] #[.pointer (some ⟨bo, 0, none⟩), .pointer (some ⟨bz, 0, none⟩)] ∧ w1.heap.size ≤ bo ∧ w1.heap.size ≤ bz ∧ bo ≠ bz ∧ w2.heap[bo]? = some (.cells #[.slice au bs.length cu] 22 (0, 0)) ∧ w2.heap[bz]? = some (.cells #[.int .i64 (sz : Nat)] 3 (0, 0)) ∧ IsB w2 (.slice au bs.length cu) bs := e28
    clear hv
    simp only [List.take_succ_cons, List.take_zero, List.drop_succ_cons, List.drop_zero, putAll, Act.put, List.setIfInBounds_toArray, List.set_cons_succ, List.set_cons_zero]
    rw [e28, e29]
    clear e28 e29
    have HX := hid (And.intro (boxKeep HX.out.1 hc.bel) (And.intro (boxKeep HX.out.2.1 hc.bel) (And.intro (boxKeep HX.out.2.2.2.1 hc.bel) (And.intro (boxKeep HX.out.2.2.2.2.1 hc.bel) (below_more HX.out.2.2.2.2.2 hc.bel (Nat.le_refl _))))))
    have HV := hid (And.intro g1 (And.intro g2 (And.intro g3 (And.intro g4 (And.intro g5 g6)))))
    have s2 := hc.bel.size
    have c0 := HX.out.1.cell
    have c1 := HX.out.2.1.cell
    have c2 := HX.out.2.2.1.cell
    have f2 := HX.out.2.2.1.frozen
    clear hc g1 g2 g3 g4 g5 g6
    have h1 : ¬ (sz : Int) < 1 := by have := HG.out.1; omega
    have h0 : (sz : Int) ≠ 0 := by omega
    have hr := HR.out
    have hq := HQ.out
    have hkl : ¬ limit < (k : Int) := by have := HG.out.2.2; omega
    have hkb : k ≤ 3000 := by have h := HG.out.2.1; have := Nat.le_mul_of_pos_right k HG.out.1; omega
    obtain ⟨m, hm'⟩ : ∃ m : Nat, IntKind.u64.wrap stop = (m : Int) := ⟨(IntKind.u64.wrap stop).toNat, by have : 0 ≤ IntKind.u64.wrap stop := (by rw [IntKind.wrap_u64]; omega); omega⟩
    have hmm : ¬ ((k : Int) + 1 = 0) := by omega
    obtain ⟨s, hs⟩ : ∃ s : Nat, m % (k + 1) = s := ⟨_, rfl⟩
    have hsl : s ≤ k := by rw [← hs]; have := Nat.mod_lt m (show 0 < k + 1 by omega); omega
    have hs' : (m : Int) % ((k : Int) + 1) = (s : Int) := by rw [← hs, Int.natCast_emod]; simp
    go_wp2_with fail
    have x2A := HX.out.2.2.1.alloc (.cells #[.int .i64 (k : Nat)] 3)
    have x2c := x2A.cell
    have x2f := x2A.frozen
    have xnA := Boxed.new w2 3 (.int .i64 (k : Nat))
    have xnc := xnA.cell
    have hne2 : ¬ w.heap.size + 2 = w2.heap.size := by have := HX.out.2.2.1.lt; omega
    have X2A := hid x2A
    have XNA := hid xnA
    clear x2A xnA
    obtain ⟨M, hMM⟩ : ∃ M : SC, ({ A := w.heap.size, D := w2.heap.size, bo, bz, k, s, size := sz, cap, ao, cu, au, bs } : SC) = M := ⟨_, rfl⟩
    have HMM := hid hMM
    clear hMM
    have eqs := eqSeq_some 23 #[.pointer (some ⟨bo, 0, none⟩), .pointer (some ⟨bz, 0, none⟩)] w2
    gi_wp2
    have SW : SH M 0 (w2.heap.size + 1) (((w2.alloc (.cells #[.int .i64 (k : Nat)] 3)).setCell ⟨w.heap.size + 2, 0, none⟩ (.int .i64 (s : Nat))).alloc (.cells #[.int .i64 0] 3)) := by
      rw [← HMM.out]
      have g := HV.out
      have e0 : (w2.alloc (.cells #[.int .i64 (k : Nat)] 3)).heap.size = w2.heap.size + 1 := by simp
      have a0 := (HX.out.1.alloc (.cells #[.int .i64 (k : Nat)] 3))
      have a1 := (HX.out.2.1.alloc (.cells #[.int .i64 (k : Nat)] 3))
      have a3 := (HX.out.2.2.2.1.alloc (.cells #[.int .i64 (k : Nat)] 3))
      have ab : Boxed w2 bo 22 (.slice au bs.length cu) := g.2.2.2.1
      have az : Boxed w2 bz 3 (.int .i64 (sz : Nat)) := g.2.2.2.2.1
      have ab2 := ab.alloc (.cells #[.int .i64 (k : Nat)] 3)
      have az2 := az.alloc (.cells #[.int .i64 (k : Nat)] 3)
      have hb1 : Below w2.heap.size w2 (w2.alloc (.cells #[.int .i64 (k : Nat)] 3)) := (Below.refl _ _).alloc (Nat.le_refl _) _
      have rd2 : Reads (w2.alloc (.cells #[.int .i64 (k : Nat)] 3)) ao bs := by
        obtain ⟨⟨a', c', e', _, _, _, r'⟩, _⟩ := hI.keep (HX.out.2.2.2.2.trans (hb1.mono HX.out.2.2.2.2.size))
        simp only [Value.slice.injEq] at e'
        rw [e'.1]; exact r'
      have ro2 : Reads (w2.alloc (.cells #[.int .i64 (k : Nat)] 3)) au bs := by
        obtain ⟨⟨a', c', e', _, _, _, r'⟩, _⟩ := g.2.2.2.2.2.keep hb1
        simp only [Value.slice.injEq] at e'
        rw [e'.1]; exact r'
      have x2 := X2A.out
      have xn := XNA.out
      generalize w2.alloc (.cells #[.int .i64 (k : Nat)] 3) = w3 at *
      have o : ∀ b, b ≠ w.heap.size + 2 → (w3.setCell ⟨w.heap.size + 2, 0, none⟩ (.int .i64 (s : Nat))).heap[b]? = w3.heap[b]? := fun b hb => heap_setCell_other w3 ⟨w.heap.size + 2, 0, none⟩ b _ hb
      have l2 := HX.out.2.2.1.lt
      have s4 : (w3.setCell ⟨w.heap.size + 2, 0, none⟩ (.int .i64 (s : Nat))).heap.size = w2.heap.size + 1 := by simp [e0]
      have nt := Boxed.new (w3.setCell ⟨w.heap.size + 2, 0, none⟩ (.int .i64 (s : Nat))) 3 (.int .i64 0)
      rw [s4] at nt
      have hb2 : Below (w3.setCell ⟨w.heap.size + 2, 0, none⟩ (.int .i64 (s : Nat))).heap.size (w3.setCell ⟨w.heap.size + 2, 0, none⟩ (.int .i64 (s : Nat))) ((w3.setCell ⟨w.heap.size + 2, 0, none⟩ (.int .i64 (s : Nat))).alloc (.cells #[.int .i64 0] 3)) := (Below.refl _ _).alloc (Nat.le_refl _) _
      have kk : ∀ {b : Nat} {t : TypeId} {v : Value}, Boxed w3 b t v → b ≠ w.heap.size + 2 → Boxed ((w3.setCell ⟨w.heap.size + 2, 0, none⟩ (.int .i64 (s : Nat))).alloc (.cells #[.int .i64 0] 3)) b t v := fun h hb => boxKeep ((o _ hb).trans h) hb2
      exact ⟨kk a0 (by show w.heap.size ≠ _; omega), kk a1 (by show w.heap.size + 1 ≠ _; omega), boxKeep (x2.set _) hb2, kk a3 (by show w.heap.size + 3 ≠ _; omega), kk xn (by show w2.heap.size ≠ _; omega), nt, kk ab2 (by show bo ≠ _; omega), kk az2 (by show bz ≠ _; omega),
        (rd2.offB (fun b off h0 e => o b (rd2.neB x2 (fun n e => by cases e) b off h0 e))).keep hb2, (ro2.offB (fun b off h0 e => o b (ro2.neB x2 (fun n e => by cases e) b off h0 e))).keep hb2⟩
    have BW : Below w.heap.size w (((w2.alloc (.cells #[.int .i64 (k : Nat)] 3)).setCell ⟨w.heap.size + 2, 0, none⟩ (.int .i64 (s : Nat))).alloc (.cells #[.int .i64 0] 3)) := ((HX.out.2.2.2.2.alloc (by have := HX.out.2.2.2.2.size; omega) _).setCell (p := ⟨w.heap.size + 2, 0, none⟩) (by show w.heap.size ≤ w.heap.size + 2; omega) _).alloc (by have := HX.out.2.2.2.2.size; simp; omega) _
    generalize ((w2.alloc (.cells #[.int .i64 (k : Nat)] 3)).setCell ⟨w.heap.size + 2, 0, none⟩ (.int .i64 (s : Nat))).alloc (.cells #[.int .i64 0] 3) = wA at *
    have HSW := hid (LI.mk SW BW (ds := []) (fun d hd => by cases hd) List.nodup_nil (fun d hd => by cases hd) rfl (by decide) (by
      rw [← HMM.out]
      have g := HV.out
      have l1 := HX.out.1.lt
      have l2 := HX.out.2.1.lt
      have l3 := HX.out.2.2.1.lt
      have l4 := HX.out.2.2.2.1.lt
      have l5 : bo < w2.heap.size := (Array.getElem?_eq_some_iff.1 g.2.2.2.1).1
      have l6 : bz < w2.heap.size := (Array.getElem?_eq_some_iff.1 g.2.2.2.2.1).1
      intro b hb
      dsimp only at hb
      omega))
    clear SW BW x2c x2f xnc c0 c1 c2 f2
    rw [hs']
    obtain ⟨Inv, hInv⟩ : ∃ Inv : Act → World → Prop, Inv = (fun a' W => ∃ (T bt : Nat) (ds : List Nat) (u : Nat → Value), a' = { tmps := #[.slice ao bs.length cap, .int .i64 (sz : Nat), .int .i64 limit, .int .i64 stop, .pointer (some ⟨w.heap.size, 0, none⟩), .pointer (some ⟨w.heap.size + 1, 0, none⟩), undef, .pointer (some ⟨w.heap.size + 2, 0, none⟩), .pointer (some ⟨w.heap.size + 3, 0, none⟩), .func (.func 23) #[] #[.pointer (some ⟨bo, 0, none⟩), .pointer (some ⟨bz, 0, none⟩)], .int .i64 0, .pointer (some ⟨w2.heap.size, 0, none⟩), .pointer (some ⟨bt, 0, none⟩), u 13, u 14, u 15, .bool true, .bool false, .slice ao bs.length cap, .int .i64 (bs.length : Nat), .bool (decide ((3000 : Int) < ((bs.length : Nat) : Int))), vf 6, vf 0, vf 1, vf 2, vf 3, vf 4, vf 5, .func (.func 23) #[] #[.pointer (some ⟨bo, 0, none⟩), .pointer (some ⟨bz, 0, none⟩)], .int .i64 0, .int .i64 (sz : Nat), .bool (decide ((sz : Int) < 1)), .bool (decide ((sz : Int) < 1)), .slice ao bs.length cap, .int .i64 (bs.length : Nat), .int .i64 (sz : Nat), .int .i64 0, .bool false, .bool (decide ((sz : Int) < 1)), .bool (decide ((sz : Int) < 1)), .slice ao bs.length cap, .int .i64 (bs.length : Nat), .int .i64 (sz : Nat), .int .i64 (k : Nat), .int .i64 limit, .bool (decide (limit < (k : Int))), .bool (decide ((sz : Int) < 1) || decide (limit < (k : Int))), undef, undef, undef, undef, undef, undef, .int .i64 0, .bool false, .bool false, .func (.func 23) #[] #[.pointer (some ⟨bo, 0, none⟩), .pointer (some ⟨bz, 0, none⟩)], .bool false, .bool false, .slice ao bs.length cap, .int .i64 (bs.length : Nat), .int .i64 (sz : Nat), .int .i64 (k : Nat), .int .i64 stop, .int .u64 (m : Nat), .int .i64 (k : Nat), .int .i64 ((k : Int) + 1), .int .u64 ((k : Int) + 1), .int .u64 (s : Nat), .int .i64 (s : Nat), u 70, u 71, u 72, u 73, u 74, u 75, u 76, u 77, u 78, u 79, u 80, u 81, u 82, u 83, u 84, u 85, u 86, u 87, u 88, u 89, u 90, u 91, u 92, u 93, u 94, u 95, u 96, u 97, u 98, u 99, u 100, u 101, u 102, u 103, u 104, u 105, u 106, u 107, u 108, u 109, u 110, u 111, u 112, u 113, u 114, u 115, u 116, u 117, u 118, u 119, u 120, u 121, u 122], defers := marks ds } ∧ LI M w T bt ds W) := ⟨_, rfl⟩
    obtain ⟨mu, hmu⟩ : ∃ mu : Act → World → Nat, mu = (fun a' W => turnOf (a'.tmps.getD 12 undef) W) := ⟨_, rfl⟩
    have HLp := hid (fun (Ar : Array Value) (ds : List Nat) (W : World) (T bt : Nat) (h : Ar = #[.slice ao bs.length cap, .int .i64 (sz : Nat), .int .i64 limit, .int .i64 stop, .pointer (some ⟨w.heap.size, 0, none⟩), .pointer (some ⟨w.heap.size + 1, 0, none⟩), undef, .pointer (some ⟨w.heap.size + 2, 0, none⟩), .pointer (some ⟨w.heap.size + 3, 0, none⟩), .func (.func 23) #[] #[.pointer (some ⟨bo, 0, none⟩), .pointer (some ⟨bz, 0, none⟩)], .int .i64 0, .pointer (some ⟨w2.heap.size, 0, none⟩), .pointer (some ⟨bt, 0, none⟩), Ar.getD 13 undef, Ar.getD 14 undef, Ar.getD 15 undef, .bool true, .bool false, .slice ao bs.length cap, .int .i64 (bs.length : Nat), .bool (decide ((3000 : Int) < ((bs.length : Nat) : Int))), vf 6, vf 0, vf 1, vf 2, vf 3, vf 4, vf 5, .func (.func 23) #[] #[.pointer (some ⟨bo, 0, none⟩), .pointer (some ⟨bz, 0, none⟩)], .int .i64 0, .int .i64 (sz : Nat), .bool (decide ((sz : Int) < 1)), .bool (decide ((sz : Int) < 1)), .slice ao bs.length cap, .int .i64 (bs.length : Nat), .int .i64 (sz : Nat), .int .i64 0, .bool false, .bool (decide ((sz : Int) < 1)), .bool (decide ((sz : Int) < 1)), .slice ao bs.length cap, .int .i64 (bs.length : Nat), .int .i64 (sz : Nat), .int .i64 (k : Nat), .int .i64 limit, .bool (decide (limit < (k : Int))), .bool (decide ((sz : Int) < 1) || decide (limit < (k : Int))), undef, undef, undef, undef, undef, undef, .int .i64 0, .bool false, .bool false, .func (.func 23) #[] #[.pointer (some ⟨bo, 0, none⟩), .pointer (some ⟨bz, 0, none⟩)], .bool false, .bool false, .slice ao bs.length cap, .int .i64 (bs.length : Nat), .int .i64 (sz : Nat), .int .i64 (k : Nat), .int .i64 stop, .int .u64 (m : Nat), .int .i64 (k : Nat), .int .i64 ((k : Int) + 1), .int .u64 ((k : Int) + 1), .int .u64 (s : Nat), .int .i64 (s : Nat), Ar.getD 70 undef, Ar.getD 71 undef, Ar.getD 72 undef, Ar.getD 73 undef, Ar.getD 74 undef, Ar.getD 75 undef, Ar.getD 76 undef, Ar.getD 77 undef, Ar.getD 78 undef, Ar.getD 79 undef, Ar.getD 80 undef, Ar.getD 81 undef, Ar.getD 82 undef, Ar.getD 83 undef, Ar.getD 84 undef, Ar.getD 85 undef, Ar.getD 86 undef, Ar.getD 87 undef, Ar.getD 88 undef, Ar.getD 89 undef, Ar.getD 90 undef, Ar.getD 91 undef, Ar.getD 92 undef, Ar.getD 93 undef, Ar.getD 94 undef, Ar.getD 95 undef, Ar.getD 96 undef, Ar.getD 97 undef, Ar.getD 98 undef, Ar.getD 99 undef, Ar.getD 100 undef, Ar.getD 101 undef, Ar.getD 102 undef, Ar.getD 103 undef, Ar.getD 104 undef, Ar.getD 105 undef, Ar.getD 106 undef, Ar.getD 107 undef, Ar.getD 108 undef, Ar.getD 109 undef, Ar.getD 110 undef, Ar.getD 111 undef, Ar.getD 112 undef, Ar.getD 113 undef, Ar.getD 114 undef, Ar.getD 115 undef, Ar.getD 116 undef, Ar.getD 117 undef, Ar.getD 118 undef, Ar.getD 119 undef, Ar.getD 120 undef, Ar.getD 121 undef, Ar.getD 122 undef]) (hl : LI M w T bt ds W) => show Inv { tmps := Ar, defers := marks ds } W by
      rw [hInv]
      exact ⟨T, bt, ds, fun q => Ar.getD q undef, by rw [← h], hl⟩)
    have HMU := hid hmu
    clear hmu
    refine wpIn_loop Inv mu (HLp.out _ [] _ 0 (w2.heap.size + 1) (by rfl) HSW.out) ?_
    clear HSW
    intro a' W hin
    rw [hInv] at hin
    clear hInv
    obtain ⟨T, bt, ds, u, rfl, hL⟩ := hin
    have HL := hid hL
    have tl : T ≤ 2 ∨ 2 < T := by omega
    have tc := hL.sh.xt.cell
    have HT0 := hid tc
    have hWs := hL.be.size
    by_cases hT : T < 2
    · have hT2 : (T : Int) < 2 := by omega
      have hB0 : Below W.heap.size W (W.alloc (.cells #[.int .i64 0] 3)) := (Below.refl _ _).alloc (Nat.le_refl _) _
      have hSB := hL.sh.keep hB0
      have hIB := Boxed.new W 3 (.int .i64 0)
      have hBB := below_more hL.be hB0 (Nat.le_refl _)
      have hMB := hL.mr.keep hB0
      have hsB : (W.alloc (.cells #[.int .i64 0] 3)).heap.size = W.heap.size + 1 := by simp
      have hlt0 := hL.sh.lt
      have hdl : ∀ d ∈ ds, d < W.heap.size := fun d hd => (Array.getElem?_eq_some_iff.1 (hL.mr d hd)).1
      clear hL hB0
      gi_wp2
      clear tc
      generalize W.alloc (.cells #[.int .i64 0] 3) = WB at *
      obtain ⟨bi, hbi⟩ : ∃ bi, W.heap.size = bi := ⟨_, rfl⟩
      rw [hbi] at hIB hsB hlt0 hdl ⊢
      have HLT := hid hlt0
      have HDL := hid hdl
      clear hlt0 hdl
      have hvb := hSB.vb
      have hvz := hSB.vz
      have hro := hSB.ro
      rw [← HMM.out] at hvb hvz hro
      dsimp only at hvb hvz hro
      have hcu : bs.length ≤ cu ∧ cu ≤ maxLen ∧ (au = none → cu = 0) := by
        obtain ⟨⟨a', c', e', p1, p2, p3, r'⟩, _⟩ := HV.out.2.2.2.2.2
        simp only [Value.slice.injEq] at e'
        rw [e'.1, e'.2.2]
        exact ⟨p1, p2, p3⟩
      have hIo : IsB WB (.slice au bs.length cu) bs := ⟨⟨au, cu, rfl, hcu.1, hcu.2.1, hcu.2.2, hro⟩, h8⟩
      have HP := hid (fun l J Jx V (hV : Below WB.heap.size WB V) hJ hY h0 => splitIt_in 4 (by decide) l bo bz bs sz k HG.out.1 HG.out.2.1 (by omega) (.slice au bs.length cu) J Jx V ((hV.block _ hvb.lt).trans hvb) ((hV.block _ hvz.lt).trans hvz) (hIo.keep hV) hJ hY h0)
      clear hvb hvz hro hcu hIo
      have HSB := hid (And.intro hSB (And.intro hIB (And.intro hBB hMB)))
      clear hSB hIB hBB hMB
      refine wpIn_rangeM (F := Fence.wide) rfl (by decide) (gf := 23) (lb := #[.pointer (some ⟨bo, 0, none⟩), .pointer (some ⟨bz, 0, none⟩)]) rfl trivial (enters_of Try.func23 (by kernel_rfl) rfl)
        (encs := fun x : Value × List Nat => #[x.1]) (M := MP sz) (Kp := KP sz bo bz) (S := fun xs => xs.map (·.2) = pcs bs sz k) (Sp := fun pre => pre.map (·.2) = pcs bs sz pre.length ∧ 0 < pre.length ∧ pre.length ≤ k) (N := k) (w0 := WB)
        (fun l J Jx V hV hJ _ hY h0 => HP.out l J Jx V hV hJ hY h0) (Below.refl _ _) KP.trans KP.put (fun _ => rfl) (fun B x V l o o' h hl ho => MP.put B x V l o o' h hl ho)
        (fun pre V => SH M T bt V ∧ Boxed V bi 3 (.int .i64 (pre.length : Nat)) ∧ Below w.heap.size w V ∧ MK ds V)
        (fun cd pre V => (cd = .exit 2 ∧ T = 0 ∧ SH M T bt V ∧ Boxed V bi 3 (.int .i64 (pre.length : Nat)) ∧ Below w.heap.size w V ∧ MK ds V) ∨ pre.map (·.2) ≠ pcs bs sz pre.length)
        ?fi ?fx HSB.out (fun x => { tmps := #[.slice ao bs.length cap, .int .i64 (sz : Nat), .int .i64 limit, .int .i64 stop, .pointer (some ⟨w.heap.size, 0, none⟩), .pointer (some ⟨w.heap.size + 1, 0, none⟩), undef, .pointer (some ⟨w.heap.size + 2, 0, none⟩), .pointer (some ⟨w.heap.size + 3, 0, none⟩), .func (.func 23) #[] #[.pointer (some ⟨bo, 0, none⟩), .pointer (some ⟨bz, 0, none⟩)], .int .i64 0, .pointer (some ⟨w2.heap.size, 0, none⟩), .pointer (some ⟨bt, 0, none⟩), .pointer (some ⟨bi, 0, none⟩), x.1, u 15, .bool true, .bool false, .slice ao bs.length cap, .int .i64 (bs.length : Nat), .bool (decide ((3000 : Int) < ((bs.length : Nat) : Int))), vf 6, vf 0, vf 1, vf 2, vf 3, vf 4, vf 5, .func (.func 23) #[] #[.pointer (some ⟨bo, 0, none⟩), .pointer (some ⟨bz, 0, none⟩)], .int .i64 0, .int .i64 (sz : Nat), .bool (decide ((sz : Int) < 1)), .bool (decide ((sz : Int) < 1)), .slice ao bs.length cap, .int .i64 (bs.length : Nat), .int .i64 (sz : Nat), .int .i64 0, .bool false, .bool (decide ((sz : Int) < 1)), .bool (decide ((sz : Int) < 1)), .slice ao bs.length cap, .int .i64 (bs.length : Nat), .int .i64 (sz : Nat), .int .i64 (k : Nat), .int .i64 limit, .bool (decide (limit < (k : Int))), .bool (decide ((sz : Int) < 1) || decide (limit < (k : Int))), undef, undef, undef, undef, undef, undef, .int .i64 0, .bool false, .bool false, .func (.func 23) #[] #[.pointer (some ⟨bo, 0, none⟩), .pointer (some ⟨bz, 0, none⟩)], .bool false, .bool false, .slice ao bs.length cap, .int .i64 (bs.length : Nat), .int .i64 (sz : Nat), .int .i64 (k : Nat), .int .i64 stop, .int .u64 (m : Nat), .int .i64 (k : Nat), .int .i64 ((k : Int) + 1), .int .u64 ((k : Int) + 1), .int .u64 (s : Nat), .int .i64 (s : Nat), .int .i64 (T : Nat), .bool true, u 72, u 73, .func (.func 23) #[] #[.pointer (some ⟨bo, 0, none⟩), .pointer (some ⟨bz, 0, none⟩)], x.1, u 76, u 77, u 78, u 79, u 80, u 81, u 82, u 83, u 84, u 85, u 86, u 87, u 88, u 89, u 90, u 91, u 92, u 93, u 94, u 95, u 96, u 97, u 98, u 99, u 100, u 101, u 102, u 103, u 104, u 105, u 106, u 107, u 108, u 109, u 110, u 111, u 112, u 113, u 114, u 115, u 116, u 117, u 118, u 119, u 120, u 121, u 122], defers := [] }) ?assign ?body ?done ?stop
      case fi =>
        intro pre A B row hs hg hr
        exact ⟨hs.1.own hg (fun r e => (hr r e).2), row_kept hs.2.1 hg (fun r e => (hr r e).2), hs.2.2.1.grown hg (by have := hs.2.2.1.size; omega) (fun k e => by have := (hr k e).1; omega), hs.2.2.2.same (fun d hd => hg.block d (Array.getElem?_eq_some_iff.1 (hs.2.2.2 d hd)).1 (fun e => by have := (hr d e.symm).1; have := HDL.out d hd; omega))⟩
      case fx =>
        intro cd pre A B row hs hg hr
        rcases hs with ⟨h1, h2, hs⟩ | h
        · exact .inl ⟨h1, h2, hs.1.own hg (fun r e => (hr r e).2), row_kept hs.2.1 hg (fun r e => (hr r e).2), hs.2.2.1.grown hg (by have := hs.2.2.1.size; omega) (fun k e => by have := (hr k e).1; omega), hs.2.2.2.same (fun d hd => hg.block d (Array.getElem?_eq_some_iff.1 (hs.2.2.2 d hd)).1 (fun e => by have := (hr d e.symm).1; have := HDL.out d hd; omega))⟩
        · exact .inr h
      case assign =>
        intro l x V K hK
        gi_wp2
        exact hK
      case body =>
        rintro l pre ⟨xv, xb⟩ V hl ⟨hS, hI2, hBe, hMk⟩ hM hlt
        have hIX := hM.isB (by have h := HG.out.2.1; have := Nat.le_mul_of_pos_left sz (show 0 < k by omega); omega)
        obtain ⟨g, off, cur, hx1, hgB, hg, hoc, hxl, hx8, hcs⟩ := hM
        dsimp only at hx1 hxl hx8 hcs hIX
        subst hx1
        obtain ⟨q, hq2⟩ : ∃ q, pre.length = q := ⟨_, rfl⟩
        rw [hq2] at hI2 hlt
        have hks : q * sz + sz ≤ bs.length := by
          have h := HG.out.2.1
          have h2 := Nat.mul_le_mul_right sz (show q + 1 ≤ k by omega)
          rw [Nat.add_mul, Nat.one_mul] at h2
          omega
        have hszp := HG.out.1
        have hsz3 : sz ≤ 3000 := by omega
        have hqs3 : q * sz ≤ 3000 := by omega
        have hxb := hS.xb
        have hxz := hS.xz
        have hxs := hS.xs
        have hxn := hS.xn
        have hrd := hS.rd
        rw [← HMM.out] at hxb hxz hxs hxn hrd
        dsimp only at hxb hxz hxs hxn hrd
        obtain ⟨ba, oa, rfl, hrc⟩ : ∃ ba oa, ao = some ⟨ba, oa, none⟩ ∧ ∀ i, i < bs.length → V.cell? ⟨ba, oa + i, none⟩ = some (.int .u8 (bs.getD i 0 : Nat)) := by
          rcases hrd with h | ⟨b, o, h1, h2⟩
          · omega
          · exact ⟨b, o, h1, h2⟩
        have hcapb : bs.length ≤ cap ∧ cap ≤ maxLen := by
          obtain ⟨⟨a', c', e', p1, p2, p3, r'⟩, _⟩ := hI
          simp only [Value.slice.injEq] at e'
          rw [e'.2.2]
          exact ⟨p1, p2⟩
        have HCAP := hid hcapb
        have HQ1 := hid (show (q + 1) * sz = q * sz + sz by rw [Nat.add_mul, Nat.one_mul])
        have HPC := hid (isB_sub (cap := cap - q * sz) hrc h8 hks (by omega) (Nat.le_trans (Nat.sub_le _ _) hcapb.2))
        have HIX := hid hIX
        have xbc := hxb.cell
        have xzc := hxz.cell
        have xsc := hxs.cell
        have xnc := hxn.cell
        have ric := hI2.cell
        have rif := hI2.frozen
        have rtc := hS.xt.cell
        have hkd : decide ((k : Int) ≤ (q : Int)) = false := decide_eq_false (by omega)
        have hkl2 : (q : Int) < (k : Int) := by omega
        have HB := hid (And.intro hS (And.intro hI2 (And.intro hBe hMk)))
        have HG2 := hid (And.intro hgB (And.intro hg (And.intro hoc hcs)))
        clear hS hI2 hBe hMk hgB hg hoc hcs hIX hrd hrc hxb hxz hxs hxn hcapb
        by_cases hxq : xb = ((bs.drop (q * sz)).take sz)
        · subst hxq
          gi_wp2
          refine wpIn_region_quiet_round rfl (by kernel_rfl) (by kernel_rfl) (by kernel_rfl) ?_
          gi_big_quiet_step (fail)
          gi_big_quiet_step (fail)
          gi_big_quiet_want
          refine quietIn_run (.bool false) (fun wq hwq => by unfold execOp; simp [go_sem]; omega) ?_
          simp only [Act.put, List.setIfInBounds_toArray, List.set_cons_succ, List.set_cons_zero]
          go_big_quiet_on
          gi_big_quiet_step (fail)
          gi_big_quiet_step (fail)
          gi_big_quiet_want
          refine quietIn_run (.string (strOf ((bs.drop (q * sz)).take sz))) (fun wq hwq => by obtain ⟨nq, rfl⟩ := hwq; exact rconv (.tmp 80) rfl (HIX.out.keep ⟨rfl, rfl, rfl, Nat.le_refl _, fun _ _ => rfl⟩)) ?_
          simp only [Act.put, List.setIfInBounds_toArray, List.set_cons_succ, List.set_cons_zero]
          go_big_quiet_on
          gi_big_quiet_step (fail)
          gi_big_quiet_step (fail)
          gi_big_quiet_step (fail)
          gi_big_quiet_want
          refine quietIn_run (.int .i64 ((q * sz : Nat) : Int)) (fun wq hwq => run_mulI (.tmp 83) (.tmp 84) rfl q sz rfl rfl (by omega) wq) ?_
          simp only [Act.put, List.setIfInBounds_toArray, List.set_cons_succ, List.set_cons_zero]
          go_big_quiet_on
          gi_big_quiet_step (fail)
          gi_big_quiet_want
          refine quietIn_run (.int .i64 ((q + 1 : Nat) : Int)) (fun wq hwq => run_addI1 (.tmp 86) rfl q rfl (by omega) wq) ?_
          simp only [Act.put, List.setIfInBounds_toArray, List.set_cons_succ, List.set_cons_zero]
          go_big_quiet_on
          gi_big_quiet_step (fail)
          gi_big_quiet_want
          refine quietIn_run (.int .i64 (((q + 1) * sz : Nat) : Int)) (fun wq hwq => run_mulI (.tmp 87) (.tmp 88) rfl (q + 1) sz rfl rfl (by rw [HQ1.out]; omega) wq) ?_
          simp only [Act.put, List.setIfInBounds_toArray, List.set_cons_succ, List.set_cons_zero]
          go_big_quiet_on
          gi_big_quiet_want
          refine quietIn_run (.slice (some ⟨ba, oa + q * sz, none⟩) sz (cap - q * sz)) (fun wq hwq => (run_subB (.tmp 82) (.tmp 85) (.tmp 89) rfl ba oa bs.length cap (q * sz) ((q + 1) * sz) rfl rfl rfl (by rw [HQ1.out]; omega) (by rw [HQ1.out]; have := HCAP.out.1; omega) HCAP.out.2 wq).trans (by rw [show (q + 1) * sz - q * sz = sz by rw [HQ1.out]; omega])) ?_
          simp only [Act.put, List.setIfInBounds_toArray, List.set_cons_succ, List.set_cons_zero]
          go_big_quiet_on
          gi_big_quiet_want
          refine quietIn_run (.string (strOf ((bs.drop (q * sz)).take sz))) (fun wq hwq => by obtain ⟨nq, rfl⟩ := hwq; exact rconv (.tmp 90) rfl (HPC.out.keep ⟨rfl, rfl, rfl, Nat.le_refl _, fun _ _ => rfl⟩)) ?_
          simp only [Act.put, List.setIfInBounds_toArray, List.set_cons_succ, List.set_cons_zero]
          go_big_quiet_on
          gi_big_quiet_want
          refine quietIn_run (.bool false) (fun wq hwq => rneqsT (.tmp 81) (.tmp 91) rfl rfl rfl) ?_
          simp only [Act.put, List.setIfInBounds_toArray, List.set_cons_succ, List.set_cons_zero]
          go_big_quiet_on
          gi_big_quiet_step (fail)
          refine wpQuietIn_nil ?_
          rintro w' ⟨nq, rfl⟩
          have B1 : Below V.heap.size V (V.drewN nq) := ⟨rfl, rfl, rfl, Nat.le_refl _, fun _ _ => rfl⟩
          have hS1 := HB.out.1.keep B1
          have hI1 := boxKeep HB.out.2.1 B1
          have hBe1 := below_more HB.out.2.2.1 B1 (Nat.le_refl _)
          have hMk1 := HB.out.2.2.2.keep B1
          have hg1 : (V.drewN nq).heap[g]? = some (.cells cur 5 (0, 0)) := HG2.out.2.1
          have hK1 : KeepsFrom WB.heap.size V (V.drewN nq) := keepsF_drewN _ _ _
          have hh1 : (V.drewN nq).heap = V.heap := rfl
          clear B1
          generalize V.drewN nq = V1 at *
          have HV1 := hid (And.intro hS1 (And.intro hI1 (And.intro hBe1 (And.intro hMk1 (And.intro hg1 (And.intro hK1 hh1))))))
          clear hS1 hI1 hBe1 hMk1 hg1 hK1 hh1 xbc xzc xsc xnc ric rif rtc
          gi_wp2
          gi_loopw [15, 96] (fun _ c wr => ∃ (j : Nat) (cur' : Array Value), j ≤ sz ∧ c = .int .i64 (j : Nat) ∧ wr.heap[g]? = some (.cells cur' 5 (0, 0)) ∧ cur'.size = cur.size ∧ (∀ p, off + sz ≤ p → cur'[p]? = cur[p]?) ∧ (∀ p, p < sz → ∃ z : Nat, z < 256 ∧ cur'[off + p]? = some (.int .u8 (z : Nat))) ∧ Only g V1 wr) (fun _ c _ => sz - (intOf c).toNat)
          case atStart =>
            refine ⟨0, cur, Nat.zero_le _, rfl, HV1.out.2.2.2.2.1, rfl, fun _ _ => rfl, fun p hp => ⟨_, ?_, HG2.out.2.2.2 p hp⟩, ⟨rfl, rfl, rfl, rfl, fun _ _ => rfl⟩⟩
            rw [List.getD_eq_getElem?_getD, List.getElem?_eq_getElem (by rw [hxl]; exact hp)]
            exact hx8 _ (List.getElem_mem _)
          case round =>
            obtain ⟨j, cur', hj, rfl, hg', hcz, hct, hcv, hon⟩ := hrel
            by_cases hjs : j < sz
            · obtain ⟨z, hz, hzc⟩ := hcv j hjs
              have hcell : wr.cell? ⟨g, off + j, none⟩ = some (.int .u8 (z : Nat)) := by rw [cell_of_row wr g _ _ _ (0, 0) hg', hzc]
              have hfr := frozen_of_row wr g (off + j) _ _ hg'
              have HR2 := hid (And.intro hg' (And.intro hcz (And.intro hct (And.intro hcv hon))))
              have hjI : (j : Int) < (sz : Int) := by omega
              clear hg' hcz hct hcv hon hzc
              gi_wp2
              have hb := bits_within .xor .u8 (z : Int) 255
              have hb0 : (0 : Int) ≤ bits .xor .u8 (z : Int) 255 := hb.1
              have hb1 : bits .xor .u8 (z : Int) 255 ≤ 255 := hb.2
              obtain ⟨y, hy⟩ : ∃ y : Nat, bits .xor .u8 (z : Int) 255 = (y : Int) := ⟨(bits .xor .u8 (z : Int) 255).toNat, by omega⟩
              rw [hy]
              have hoc' := HG2.out.2.2.1
              refine ⟨⟨j + 1, cur'.setIfInBounds (off + j) (.int .u8 (y : Nat)), by omega, by go_num, by have := HR2.out.1; simp [World.setCell, Array.getElem?_modify, this], by rw [Array.size_setIfInBounds]; exact HR2.out.2.1, fun p hp => ?_, fun p hp => ?_, HR2.out.2.2.2.2.trans (Only.setCell _ _ _ _)⟩, by simp [intOf]; omega⟩
              · rw [Array.getElem?_setIfInBounds_ne (by omega)]
                exact HR2.out.2.2.1 p hp
              · by_cases hpj : p = j
                · subst hpj
                  refine ⟨y, by omega, ?_⟩
                  rw [Array.getElem?_setIfInBounds_self_of_lt (by have := HR2.out.2.1; omega)]
                · rw [Array.getElem?_setIfInBounds_ne (by omega)]
                  exact HR2.out.2.2.2.1 p hp
            · obtain rfl : sz = j := by omega
              have HR2 := hid (And.intro hg' (And.intro hcz (And.intro hct hon)))
              clear hg' hcz hct hcv hon
              have hbig : WB.heap.size + 2 ≤ g := HG2.out.1
              have hS2 := HV1.out.1.only HLT.out (by omega) HR2.out.2.2.2
              have hI2 : Boxed wr bi 3 (.int .i64 (q : Nat)) := (HR2.out.2.2.2.block bi (by omega)).trans HV1.out.2.1
              have hBe2 := below_only HV1.out.2.2.1 HR2.out.2.2.2 (by omega)
              have hMk2 := HV1.out.2.2.2.1.only HV1.out.2.2.2.2.1 HR2.out.2.2.2
              have hne : ∀ b, b = M.A ∨ b = M.A + 1 ∨ b = M.A + 2 ∨ b = M.A + 3 ∨ b = M.D ∨ b = bt ∨ b = M.bo ∨ b = M.bz → b ≠ bi := fun b hb => Nat.ne_of_lt (HLT.out.box b hb)
              have hxs2 := hS2.xs
              have ht2 := hS2.xt
              have hn1 : ¬ bt = bi := hne bt (by simp)
              have hn2 : ¬ w.heap.size + 2 = bi := by have := hne (M.A + 2) (by simp); rw [← HMM.out] at this; exact this
              rw [← HMM.out] at hxs2
              dsimp only at hxs2
              have HFS := hid (hS2.aside hI2 (fun n e => by cases e) hne (.int .i64 ((q + 1 : Nat) : Int)))
              have HFI := hid (hI2.set (.int .i64 ((q + 1 : Nat) : Int)))
              have HFB := hid (hBe2.setCell (p := ⟨bi, 0, none⟩) (by show w.heap.size ≤ bi; omega) (.int .i64 ((q + 1 : Nat) : Int)))
              have HFM := hid (hMk2.set hI2 (.int .i64 ((q + 1 : Nat) : Int)))
              have HKF : Hid (KeepsFrom WB.heap.size V (wr.setCell ⟨bi, 0, none⟩ (.int .i64 ((q + 1 : Nat) : Int)))) := hid ((HV1.out.2.2.2.2.2.1.trans (keepsF_only HV1.out.2.2.2.2.1 HR2.out.2.2.2)).trans (keepsF_set hI2 _))
              have HKP : Hid (KP sz bo bz (.slice (some ⟨g, off, none⟩) sz sz, ((bs.drop (q * sz)).take sz)) V (wr.setCell ⟨bi, 0, none⟩ (.int .i64 ((q + 1 : Nat) : Int)))) := hid (by
                have hbo : bo ≠ bi := by have := hne M.bo (by simp); rw [← HMM.out] at this; exact this
                have hbz : bz ≠ bi := by have := hne M.bz (by simp); rw [← HMM.out] at this; exact this
                have hbol : bo < bi := by have := HLT.out.box M.bo (by simp); rw [← HMM.out] at this; exact this
                have hbzl : bz < bi := by have := HLT.out.box M.bz (by simp); rw [← HMM.out] at this; exact this
                have hv := HV1.out.2.2.2.2.2.2
                refine ⟨fun b hb cs tt f e => ?_, fun g' off' e cu0 hc0 => ?_⟩
                · have hb1 : b ≠ bi ∧ b ≠ g := by rcases hb with rfl | rfl <;> exact ⟨by assumption, by omega⟩
                  rw [heap_setCell_other wr ⟨bi, 0, none⟩ b _ hb1.1, HR2.out.2.2.2.block b hb1.2, hv]
                  exact e
                · simp only [Value.slice.injEq, Option.some.injEq, Addr.mk.injEq] at e
                  obtain ⟨⟨e1, e2, _⟩, _⟩ := e
                  subst e1
                  subst e2
                  have e3 : cu0 = cur := by
                    have h := HV1.out.2.2.2.2.1
                    rw [hv, hc0] at h
                    cases h
                    rfl
                  subst e3
                  exact ⟨cur', (heap_setCell_other wr ⟨bi, 0, none⟩ _ _ (by show _ ≠ bi; omega)).trans HR2.out.1, HR2.out.2.1, HR2.out.2.2.1⟩)
              have ric := hI2.cell
              have rif := hI2.frozen
              have rtc := ht2.cell
              have xsc := hxs2.cell
              clear hS2 hI2 hBe2 hMk2 hxs2 ht2 hne
              rcases (show T = 0 ∨ T = 1 by omega) with rfl | rfl
              · by_cases hqs : (q : Int) + 1 = (s : Int)
                · have hcast : ((q + 1 : Nat) : Int) = (s : Int) := by omega
                  rw [hcast] at HFS HFI HFB HFM HKF
                  gi_wp2
                  refine ⟨by have h := HKF.out; rw [hsB] at h; exact h, .inl ⟨rfl, HFS.out, ?_, HFB.out, HFM.out⟩⟩
                  rw [List.length_append, hq2]
                  show Boxed _ bi 3 (.int .i64 ((q + 1 : Nat) : Int))
                  rw [hcast]
                  exact HFI.out
                · gi_wp2
                  refine ⟨by have h := HKF.out; rw [hsB] at h; exact h, HKP.out, HFS.out, ?_, HFB.out, HFM.out⟩
                  rw [List.length_append, hq2]
                  exact HFI.out
              · gi_wp2
                refine ⟨HKF.out, HKP.out, HFS.out, ?_, HFB.out, HFM.out⟩
                rw [List.length_append, hq2]
                exact HFI.out
        · have hdx : ¬ strOf xb = strOf ((bs.drop (q * sz)).take sz) := fun e => hxq (strOf_inj hx8 (fun z hz => h8 z (List.mem_of_mem_drop (List.mem_of_mem_take hz))) e)
          gi_wp2
          refine wpIn_region_quiet_round rfl (by kernel_rfl) (by kernel_rfl) (by kernel_rfl) ?_
          gi_big_quiet_step (fail)
          gi_big_quiet_step (fail)
          gi_big_quiet_want
          refine quietIn_run (.bool false) (fun wq hwq => by unfold execOp; simp [go_sem]; omega) ?_
          simp only [Act.put, List.setIfInBounds_toArray, List.set_cons_succ, List.set_cons_zero]
          go_big_quiet_on
          gi_big_quiet_step (fail)
          gi_big_quiet_step (fail)
          gi_big_quiet_want
          refine quietIn_run (.string (strOf xb)) (fun wq hwq => by obtain ⟨nq, rfl⟩ := hwq; exact rconv (.tmp 80) rfl (HIX.out.keep ⟨rfl, rfl, rfl, Nat.le_refl _, fun _ _ => rfl⟩)) ?_
          simp only [Act.put, List.setIfInBounds_toArray, List.set_cons_succ, List.set_cons_zero]
          go_big_quiet_on
          gi_big_quiet_step (fail)
          gi_big_quiet_step (fail)
          gi_big_quiet_step (fail)
          gi_big_quiet_want
          refine quietIn_run (.int .i64 ((q * sz : Nat) : Int)) (fun wq hwq => run_mulI (.tmp 83) (.tmp 84) rfl q sz rfl rfl (by omega) wq) ?_
          simp only [Act.put, List.setIfInBounds_toArray, List.set_cons_succ, List.set_cons_zero]
          go_big_quiet_on
          gi_big_quiet_step (fail)
          gi_big_quiet_want
          refine quietIn_run (.int .i64 ((q + 1 : Nat) : Int)) (fun wq hwq => run_addI1 (.tmp 86) rfl q rfl (by omega) wq) ?_
          simp only [Act.put, List.setIfInBounds_toArray, List.set_cons_succ, List.set_cons_zero]
          go_big_quiet_on
          gi_big_quiet_step (fail)
          gi_big_quiet_want
          refine quietIn_run (.int .i64 (((q + 1) * sz : Nat) : Int)) (fun wq hwq => run_mulI (.tmp 87) (.tmp 88) rfl (q + 1) sz rfl rfl (by rw [HQ1.out]; omega) wq) ?_
          simp only [Act.put, List.setIfInBounds_toArray, List.set_cons_succ, List.set_cons_zero]
          go_big_quiet_on
          gi_big_quiet_want
          refine quietIn_run (.slice (some ⟨ba, oa + q * sz, none⟩) sz (cap - q * sz)) (fun wq hwq => (run_subB (.tmp 82) (.tmp 85) (.tmp 89) rfl ba oa bs.length cap (q * sz) ((q + 1) * sz) rfl rfl rfl (by rw [HQ1.out]; omega) (by rw [HQ1.out]; have := HCAP.out.1; omega) HCAP.out.2 wq).trans (by rw [show (q + 1) * sz - q * sz = sz by rw [HQ1.out]; omega])) ?_
          simp only [Act.put, List.setIfInBounds_toArray, List.set_cons_succ, List.set_cons_zero]
          go_big_quiet_on
          gi_big_quiet_want
          refine quietIn_run (.string (strOf ((bs.drop (q * sz)).take sz))) (fun wq hwq => by obtain ⟨nq, rfl⟩ := hwq; exact rconv (.tmp 90) rfl (HPC.out.keep ⟨rfl, rfl, rfl, Nat.le_refl _, fun _ _ => rfl⟩)) ?_
          simp only [Act.put, List.setIfInBounds_toArray, List.set_cons_succ, List.set_cons_zero]
          go_big_quiet_on
          gi_big_quiet_want
          refine quietIn_run (.bool true) (fun wq hwq => rneqsF hdx (.tmp 81) (.tmp 91) rfl rfl rfl) ?_
          simp only [Act.put, List.setIfInBounds_toArray, List.set_cons_succ, List.set_cons_zero]
          go_big_quiet_on
          gi_big_quiet_step (fail)
          refine wpQuietIn_nil ?_
          rintro w' ⟨nq, rfl⟩
          have B1 : Below V.heap.size V (V.drewN nq) := ⟨rfl, rfl, rfl, Nat.le_refl _, fun _ _ => rfl⟩
          have xr := boxKeep HB.out.1.xr B1
          rw [← HMM.out] at xr
          dsimp only at xr
          have xrc := xr.cell
          have xrf := xr.frozen
          have hK2 := hid ((keepsF_drewN WB.heap.size V nq).trans (keepsF_set xr (.bool false)))
          clear B1 xr xbc xzc xsc xnc ric rif rtc
          gi_wp2
          exact ⟨hK2.out, .inr (by
            rw [List.map_append, List.length_append, hq2]
            intro e
            rw [List.length_singleton, pcs_succ] at e
            exact hxq (by simpa using List.append_inj_right' e rfl))⟩
      case done =>
        rintro xs V hS1 ⟨hS, hI2, hBe, hMk⟩ hK
        have hxl : xs.length = k := by have := congrArg List.length hS1; simpa [pcs_length] using this
        rw [hxl] at hI2
        have rn := hS.xn
        rw [← HMM.out] at rn
        have rnc := rn.cell
        have rtc := hS.xt.cell
        have ric := hI2.cell
        rw [hsB] at hK
        have BA : Below V.heap.size V (V.alloc (.cells #[.int .i64 ((T + 1 : Nat) : Int)] 3)) := (Below.refl _ _).alloc (Nat.le_refl _) _
        have NT := Boxed.new V 3 (.int .i64 ((T + 1 : Nat) : Int))
        have HN := hid ((hS.keep BA).turn NT)
        have hD : bi + 1 < V.heap.size := (Array.getElem?_eq_some_iff.1 hK).1
        have HBn := hid (below_more hBe BA (Nat.le_refl _))
        have hmk2 : MK ((bi + 1) :: ds) V := fun d hd => by
          rcases List.mem_cons.1 hd with rfl | hd
          · exact hK
          · exact hMk d hd
        have HMn := hid (hmk2.keep BA)
        have HND := hid (show ((bi + 1) :: ds).Nodup from List.nodup_cons.2 ⟨fun hd => by have := HDL.out _ hd; omega, HL.out.nd⟩)
        have HGE := hid (show ∀ d ∈ (bi + 1) :: ds, w.heap.size ≤ d from fun d hd => by
          rcases List.mem_cons.1 hd with rfl | hd
          · omega
          · exact HL.out.ge d hd)
        have HOT := hid (show ∀ b, b = M.A ∨ b = M.A + 1 ∨ b = M.A + 2 ∨ b = M.A + 3 ∨ b = M.D ∨ b = M.bo ∨ b = M.bz → b ≠ V.heap.size from fun b hb => by have := hS.lt.box b (by rcases hb with h | h | h | h | h | h | h <;> simp [h]); omega)
        have HTL := hid (show ((bi + 1) :: ds).length = T + 1 by rw [List.length_cons, HL.out.t2])
        have HTC := hid NT.cell
        clear hS hBe hMk hmk2 BA NT rn hK
        rcases (show T = 0 ∨ T = 1 by omega) with rfl | rfl
        · gi_wp2
          refine ⟨HLp.out _ ((bi + 1) :: ds) _ _ V.heap.size (by rfl) ⟨HN.out, HBn.out, HMn.out, HND.out, HGE.out, HTL.out, by decide, HOT.out⟩, ?_⟩
          rw [HMU.out]
          have h0 := HT0.out
          have h1 := HTC.out
          simp [turnOf, h0, h1]
        · gi_wp2
          refine ⟨HLp.out _ ((bi + 1) :: ds) _ _ V.heap.size (by rfl) ⟨HN.out, HBn.out, HMn.out, HND.out, HGE.out, HTL.out, by decide, HOT.out⟩, ?_⟩
          rw [HMU.out]
          have h0 := HT0.out
          have h1 := HTC.out
          simp [turnOf, h0, h1]
      case stop =>
        rintro cd pre V hSp (⟨rfl, hT0, hS, hI2, hBe, hMk⟩ | hne) hK
        · obtain ⟨q, hq2⟩ : ∃ q, pre.length = q := ⟨_, rfl⟩
          rw [hq2] at hI2
          have rn := hS.xn
          rw [← HMM.out] at rn
          have rnc := rn.cell
          have rtc := hS.xt.cell
          have ric := hI2.cell
          rw [hsB] at hK
          have BA : Below V.heap.size V (V.alloc (.cells #[.int .i64 ((T + 1 : Nat) : Int)] 3)) := (Below.refl _ _).alloc (Nat.le_refl _) _
          have NT := Boxed.new V 3 (.int .i64 ((T + 1 : Nat) : Int))
          have HN := hid ((hS.keep BA).turn NT)
          have hD : bi + 1 < V.heap.size := (Array.getElem?_eq_some_iff.1 hK).1
          have HBn := hid (below_more hBe BA (Nat.le_refl _))
          have hmk2 : MK ((bi + 1) :: ds) V := fun d hd => by
            rcases List.mem_cons.1 hd with rfl | hd
            · exact hK
            · exact hMk d hd
          have HMn := hid (hmk2.keep BA)
          have HND := hid (show ((bi + 1) :: ds).Nodup from List.nodup_cons.2 ⟨fun hd => by have := HDL.out _ hd; omega, HL.out.nd⟩)
          have HGE := hid (show ∀ d ∈ (bi + 1) :: ds, w.heap.size ≤ d from fun d hd => by
            rcases List.mem_cons.1 hd with rfl | hd
            · omega
            · exact HL.out.ge d hd)
          have HOT := hid (show ∀ b, b = M.A ∨ b = M.A + 1 ∨ b = M.A + 2 ∨ b = M.A + 3 ∨ b = M.D ∨ b = M.bo ∨ b = M.bz → b ≠ V.heap.size from fun b hb => by have := hS.lt.box b (by rcases hb with h | h | h | h | h | h | h <;> simp [h]); omega)
          have HTL := hid (show ((bi + 1) :: ds).length = T + 1 by rw [List.length_cons, HL.out.t2])
          have HTC := hid NT.cell
          clear hS hBe hMk hmk2 BA NT rn hK
          subst hT0
          gi_wp2
          refine ⟨HLp.out _ ((bi + 1) :: ds) _ _ V.heap.size (by rfl) ⟨HN.out, HBn.out, HMn.out, HND.out, HGE.out, HTL.out, by decide, HOT.out⟩, ?_⟩
          rw [HMU.out]
          have h0 := HT0.out
          have h1 := HTC.out
          simp [turnOf, h0, h1]
        · exact absurd hSp.1 hne
    · by_cases hT3 : T = 2
      · subst hT3
        have hds := hL.t2
        obtain ⟨d2, d1, rfl⟩ : ∃ a b, ds = [a, b] := by
          match ds, hds with
          | [a, b], _ => exact ⟨a, b, rfl⟩
        have hd := hL.nd
        have rr := hL.sh.xr
        rw [← HMM.out] at rr
        have rc := rr.cell
        have rf := rr.frozen
        have k2 := (hL.mr.set rr (.bool true)) d2 (by simp)
        have k1 := (hL.mr.set rr (.bool true)) d1 (by simp)
        have hdn : d1 ≠ d2 := by simp at hd; exact fun e => hd e.symm
        have k1' := (World.putObj_heap_other (w := W.setCell ⟨w.heap.size + 3, 0, none⟩ (.bool true)) (o := .deferred none) hdn).trans k1
        have bx := rr.set (.bool true)
        have bx2 := row_kept bx (grownBy_putObj' _ d2 (.deferred none)) (fun r e => by cases e; exact ⟨_, k2, rfl⟩)
        have bx3 := row_kept bx2 (grownBy_putObj' _ d1 (.deferred none)) (fun r e => by cases e; exact ⟨_, k1', rfl⟩)
        have bb1 := hL.be.setCell (p := ⟨w.heap.size + 3, 0, none⟩) (by show w.heap.size ≤ w.heap.size + 3; omega) (.bool true)
        have bb2 := bb1.trans (belowK_b (w := w) (Nat.le_refl _) _ d2 _ (.deferred none) (hL.ge d2 (by simp)) k2 rfl rfl)
        have bb3 := bb2.trans (belowK_b (w := w) (Nat.le_refl _) _ d1 _ (.deferred none) (hL.ge d1 (by simp)) k1' rfl rfl)
        have HE := hid (And.intro k2 (And.intro k1' (And.intro bx3 bb3)))
        clear hL hd k1 k2 k1' bx bx2 bx3 bb1 bb2 bb3 rr
        simp only [marks, List.map_cons, List.map_nil]
        gi_wp2
        refine ⟨by simp, .inl ⟨_, _, rfl, run_takeDeferred HE.out.1, ?_⟩⟩
        refine ⟨by simp, .inl ⟨_, _, rfl, run_takeDeferred HE.out.2.1, ?_⟩⟩
        exact ⟨_, results_box rfl _ _ (w.heap.size + 3) 4 true rfl HE.out.2.2.1, rfl, HE.out.2.2.2⟩
      · exact absurd hL.le (by omega)
end Go.Proofs.Ytelgjencpafnnaa

/- Structs in memory, inside a fence; how List[uint64].Decode's variables stand. -/
namespace Go.Proofs.Ytelgjencpafnnaa
open Go.RowKit Go.Shelf
set_option linter.unusedVariables false
set_option linter.unusedSimpArgs false
set_option maxRecDepth 100000

section
variable {F : Fence} {n : Nat} {P : Program} {w : World} {ops : Array Oper} {rest : List Oper} {o : Oper} {a : Act} {Q : Exit → Act → World → Prop} {t : TypeId} {zs : List Value}
theorem wpListIn_run {w' : World} (hgd : o.guard = none) (ha : o.about P w a.eval = none) (hd : ∀ c, o.op ≠ .defer c) (v : Value) (hrun : (execOp a.eval o).run P w = .ok (.value v) w') (h : wpListIn F n P ops Q rest (a.put o.dst v) w') :
    wpListIn F n P ops Q (o :: rest) a w := by
  refine wpListIn_plain hgd fun K hK => ?_
  unfold Oper.wpIn
  refine ⟨fun f hf => (by rw [ha] at hf; cases hf), ?_⟩
  rw [Oper.semAt_plain F _ _ hd, hrun]
  exact hK _ _ h
theorem wpListIn_box_c (hgd : o.guard = none) (d : Tmp) (hdst : o.dst = some d) (x : Operand) (ho : o.op = .box t x) (cs : List Value) (hx : a.eval x = .agg cs.toArray)
    (h : ∀ w', HasC w' w.heap.size t cs → Below w.heap.size w w' → w'.heap.size = w.heap.size + 1 → wpListIn F n P ops Q rest (a.put (some d) (.pointer (some ⟨w.heap.size, 0, none⟩))) w') :
    wpListIn F n P ops Q (o :: rest) a w := by
  refine wpListIn_run hgd (by simp [Oper.about, ho]) (by rw [ho]; intro c hc; cases hc) (.pointer (some ⟨w.heap.size, 0, none⟩)) (w' := w.alloc (.cells cs.toArray t)) ?_ ?_
  · simp only [execOp, ho, hx, Instr.box]
    simp [newVar, newRow, newObj, Value.cells, go_sem]
    rfl
  · rw [hdst]
    exact h _ (heap_alloc_new w _) ((Below.refl _ _).alloc (Nat.le_refl _) _) (by simp)
theorem wpListIn_load_c (hT : Ty P t zs) (hgd : o.guard = none) (x : Operand) (ho : o.op = .load t x) (g : Nat) (cs : List Value) (hx : a.eval x = .pointer (some ⟨g, 0, none⟩)) (hl : cs.length = zs.length) (hg : HasC w g t cs)
    (h : wpListIn F n P ops Q rest (a.put o.dst (.agg cs.toArray)) w) : wpListIn F n P ops Q (o :: rest) a w := by
  obtain ⟨d, hu, hd⟩ := hT.row
  have hr := run_loadVar_mid (P := P) w g 0 t cs d (hg.range 0 cs (fun j v hv => by rw [Nat.zero_add]; exact hv)) hu hd (by rw [hT.size, hl])
  refine wpListIn_run hgd (by simp [Oper.about, ho]) (by rw [ho]; intro c hc; cases hc) (.agg cs.toArray) (w' := w) ?_ h
  unfold execOp
  simp only [ho, hx, Instr.loadAt, Instr.sureAddr, Sem.run_bind, Sem.run_pure, Result.andThen_ok, hr]
end
theorem keepsF_below {B : Nat} {W V : World} (h : Below W.heap.size W V) : KeepsFrom B W V := ⟨h.size, fun k o _ hk _ => (h.block k (Array.getElem?_eq_some_iff.1 hk).1).trans hk⟩
theorem keepsF_grown {B : Nat} {W V : World} {row : Option Nat} (h : W.grownBy V row) (hr : ∀ r, row = some r → ∃ c t f, W.heap[r]? = some (.cells c t f)) : KeepsFrom B W V :=
  ⟨h.size, fun k o _ hk ho => (h.block k (Array.getElem?_eq_some_iff.1 hk).1 (fun e => by
    obtain ⟨c, t, f, hc⟩ := hr k e.symm
    rw [hk] at hc
    cases hc
    cases ho)).trans hk⟩
theorem own_cells {W : World} {base : Nat} {e : TypeId} {size n : Nat} {v : Value} {xs : List Value} (h : W.ownsRow base e size v n xs) : ∀ r, v.ownBlock = some r → base ≤ r ∧ ∃ c, W.heap[r]? = some (.cells c e (0, 0)) := by
  intro r hr
  rcases h.2 with ⟨rfl, _⟩ | ⟨g, cap, cur, rfl, hb, hc, _⟩
  · cases hr
  · cases hr
    exact ⟨hb, cur, hc⟩
theorem own_kept {W V : World} {base : Nat} {e : TypeId} {size n : Nat} {v : Value} {xs : List Value} (h : W.ownsRow base e size v n xs) (k : ∀ r, v.ownBlock = some r → V.heap[r]? = W.heap[r]?) : V.ownsRow base e size v n xs := by
  refine ⟨h.1, ?_⟩
  rcases h.2 with h2 | ⟨g, cap, cur, rfl, hb, hc, h3⟩
  · exact .inl h2
  · exact .inr ⟨g, cap, cur, rfl, hb, (k g rfl).trans hc, h3⟩
/-- The numbers as cells. -/
def n64 (ns : List Nat) : List Value := ns.map fun n : Nat => Value.int .u64 (n : Int)
/-- How the variables of Decode stand. -/
structure DI (w : World) (A B : Nat) (limit : Int) (u : Value) (ns : List Nat) (V : World) : Prop where
  ls : HasC V w.heap.size 39 (lsN limit)
  r4 : HasC V (w.heap.size + 1) 31 [.slice none 0 0]
  r5 : HasC V (w.heap.size + 2) 26 [.int .i64 0]
  al : HasC V A 31 [u]
  ow : V.ownsRow B 33 1 u ns.length (n64 ns)
  be : Below w.heap.size w V
  ha : w.heap.size + 2 < A
  hb : A < B
theorem DI.same {w : World} {A B : Nat} {limit : Int} {u : Value} {ns : List Nat} {V V' : World} (h : DI w A B limit u ns V) (hb : Below w.heap.size w V')
    (k : ∀ b, (b = w.heap.size ∨ b = w.heap.size + 1 ∨ b = w.heap.size + 2 ∨ b = A) → V'.heap[b]? = V.heap[b]?) (ko : ∀ r, u.ownBlock = some r → V'.heap[r]? = V.heap[r]?) : DI w A B limit u ns V' :=
  ⟨(k _ (by simp)).trans h.ls, (k _ (by simp)).trans h.r4, (k _ (by simp)).trans h.r5, (k _ (by simp)).trans h.al, own_kept h.ow ko, hb, h.ha, h.hb⟩
theorem DI.keep {w : World} {A B : Nat} {limit : Int} {u : Value} {ns : List Nat} {V V' : World} (h : DI w A B limit u ns V) (hb : Below V.heap.size V V') : DI w A B limit u ns V' :=
  h.same (below_more h.be hb (Nat.le_refl _)) (fun b k => hb.block b (by
    rcases k with rfl | rfl | rfl | rfl
    · exact h.ls.lt
    · exact h.r4.lt
    · exact h.r5.lt
    · exact h.al.lt)) (fun r hr => hb.block r (by obtain ⟨_, c, hc⟩ := own_cells h.ow r hr; exact (Array.getElem?_eq_some_iff.1 hc).1))
theorem DI.own {w : World} {A B : Nat} {limit : Int} {u : Value} {ns : List Nat} {V V' : World} {row : Option Nat} (h : DI w A B limit u ns V) (hg : V.grownBy V' row) (hr : ∀ r, row = some r → w.heap.size ≤ r ∧ ∃ o : Obj, V.heap[r]? = some o ∧ o.isCells = false) : DI w A B limit u ns V' := by
  have hk : ∀ (b : Nat) (c : Array Value) (t : TypeId) (f : Nat × Nat), V.heap[b]? = some (Obj.cells c t f) → V'.heap[b]? = V.heap[b]? := fun b c t f hc => (row_kept (c := c) (t := t) (z := f) hc hg (fun r e => (hr r e).2)).trans hc.symm
  refine h.same (h.be.grown hg (by have := h.be.size; omega) (fun k e => (hr k e).1)) (fun b k => ?_) (fun r e => ?_)
  · rcases k with rfl | rfl | rfl | rfl
    · exact hk _ _ _ _ h.ls
    · exact hk _ _ _ _ h.r4
    · exact hk _ _ _ _ h.r5
    · exact hk _ _ _ _ h.al
  · obtain ⟨_, c, hc⟩ := own_cells h.ow r e
    exact hk _ _ _ _ hc
/-- A number more, and the variable set. -/
theorem DI.step {w : World} {A B : Nat} {limit : Int} {u v : Value} {ns : List Nat} {x : Nat} {V V' : World} (h : DI w A B limit u ns V) (hg : V.grownBy V' u.ownBlock) (hn : V'.ownsRow B 33 1 v (ns.length + 1) (n64 ns ++ [.int .u64 (x : Nat)])) :
    DI w A B limit v (ns ++ [x]) (V'.setCell ⟨A, 0, none⟩ v) := by
  have hA := h.ha
  have hB := h.hb
  have hu : ∀ b, b ≤ A → b < V.heap.size → V'.heap[b]? = V.heap[b]? := fun b hb hl => hg.block b hl (fun e => by have := (own_cells h.ow b e.symm).1; omega)
  have o : ∀ b, b ≠ A → (V'.setCell ⟨A, 0, none⟩ v).heap[b]? = V'.heap[b]? := fun b hb => heap_setCell_other V' ⟨A, 0, none⟩ b v hb
  have ha : HasC V' A 31 [u] := (hu A (Nat.le_refl _) h.al.lt).trans h.al
  refine ⟨(o _ (by omega)).trans ((hu _ (by omega) h.ls.lt).trans h.ls), (o _ (by omega)).trans ((hu _ (by omega) h.r4.lt).trans h.r4), (o _ (by omega)).trans ((hu _ (by omega) h.r5.lt).trans h.r5), ?_, ?_, ?_, hA, hB⟩
  · unfold HasC at ha ⊢
    simp [World.setCell, Array.getElem?_modify, ha]
  · have e : n64 (ns ++ [x]) = n64 ns ++ [.int .u64 (x : Nat)] := by simp [n64]
    rw [e, List.length_append, List.length_singleton]
    exact own_kept hn (fun r hr => o r (fun e => by have := (own_cells hn r hr).1; omega))
  · have hb1 : Below w.heap.size w V' := h.be.grown hg (by have := h.be.size; omega) (fun k e => by have := (own_cells h.ow k e).1; omega)
    exact hb1.setCell (p := ⟨A, 0, none⟩) (by show w.heap.size ≤ A; omega) v
/-- What a round keeps besides. -/
theorem DI.kp {w : World} {A B bo bz : Nat} {limit : Int} {u v : Value} {ns : List Nat} {V0 V V' : World} {x : Value × List Nat} (h : DI w A B limit u ns V) (h0 : Below V0.heap.size V0 V) (hg : V.grownBy V' u.ownBlock) (hbo : bo < A) (hbz : bz < A) (hA0 : A < V0.heap.size)
    (hu0 : ∀ r, u.ownBlock = some r → r < V0.heap.size) :
    KeepsFrom B V0 (V'.setCell ⟨A, 0, none⟩ v) ∧ KP 8 bo bz x V0 (V'.setCell ⟨A, 0, none⟩ v) := by
  have hA := h.ha
  have hB := h.hb
  have ha : HasC V' A 31 [u] := (hg.block A h.al.lt (fun e => by have := (own_cells h.ow A e.symm).1; omega)).trans h.al
  have o : ∀ b, b ≠ A → (V'.setCell ⟨A, 0, none⟩ v).heap[b]? = V'.heap[b]? := fun b hb => heap_setCell_other V' ⟨A, 0, none⟩ b v hb
  refine ⟨((keepsF_below h0).trans (keepsF_grown hg (fun r e => by obtain ⟨_, c, hc⟩ := own_cells h.ow r e; exact ⟨c, _, _, hc⟩))).trans (keepsF_only ha (Only.setCell V' A 0 v)), fun b hb cs t f e => ?_, fun g off e cur hc => ⟨cur, ?_, rfl, fun _ _ => rfl⟩⟩
  · have hlt : b < A := by rcases hb with rfl | rfl <;> assumption
    have hl := (Array.getElem?_eq_some_iff.1 e).1
    rw [o b (by omega), hg.block b (by have := h0.size; omega) (fun e' => by have := (own_cells h.ow b e'.symm).1; omega), h0.block b hl]
    exact e
  · have hl := (Array.getElem?_eq_some_iff.1 hc).1
    have hcV : V.heap[g]? = some (.cells cur 5 (0, 0)) := (h0.block g hl).trans hc
    have n1 : g ≠ A := fun e => by
      subst e
      have h2 := h.al
      unfold HasC at h2
      rw [hcV] at h2
      cases h2
    have n2 : u.ownBlock ≠ some g := fun e => by
      obtain ⟨_, c, h2⟩ := own_cells h.ow g e
      rw [hcV] at h2
      cases h2
    rw [o g n1, hg.block g (by have := h0.size; omega) (fun e' => n2 e'.symm)]
    exact hcV
theorem own_base {W : World} {base b' : Nat} {e : TypeId} {size n : Nat} {v : Value} {xs : List Value} (h : W.ownsRow base e size v n xs) (hb : b' ≤ base) : W.ownsRow b' e size v n xs := by
  refine ⟨h.1, ?_⟩
  rcases h.2 with h2 | ⟨g, cap, cur, rfl, hg, hc, h3⟩
  · exact .inl h2
  · exact .inr ⟨g, cap, cur, rfl, Nat.le_trans hb hg, hc, h3⟩
/-- The end: the results are set, the mark is taken. -/
theorem DI.fin {w : World} {A B : Nat} {limit : Int} {u : Value} {ns : List Nat} {V : World} (h : DI w A B limit u ns V) (hK : V.heap[B]? = some (.deferred (some []))) :
    ((V.setCell ⟨w.heap.size + 1, 0, none⟩ u).setCell ⟨w.heap.size + 2, 0, none⟩ (.int .i64 0)).heap[B]? = some (.deferred (some [])) ∧
    HasC (((V.setCell ⟨w.heap.size + 1, 0, none⟩ u).setCell ⟨w.heap.size + 2, 0, none⟩ (.int .i64 0)).putObj B (.deferred none)) (w.heap.size + 1) 31 [u] ∧
    HasC (((V.setCell ⟨w.heap.size + 1, 0, none⟩ u).setCell ⟨w.heap.size + 2, 0, none⟩ (.int .i64 0)).putObj B (.deferred none)) (w.heap.size + 2) 26 [.int .i64 0] ∧
    (((V.setCell ⟨w.heap.size + 1, 0, none⟩ u).setCell ⟨w.heap.size + 2, 0, none⟩ (.int .i64 0)).putObj B (.deferred none)).ownsRow w.heap.size 33 1 u ns.length (n64 ns) ∧
    Below w.heap.size w (((V.setCell ⟨w.heap.size + 1, 0, none⟩ u).setCell ⟨w.heap.size + 2, 0, none⟩ (.int .i64 0)).putObj B (.deferred none)) := by
  have hA := h.ha
  have hB := h.hb
  have o1 : ∀ b, b ≠ w.heap.size + 1 → (V.setCell ⟨w.heap.size + 1, 0, none⟩ u).heap[b]? = V.heap[b]? := fun b hb => heap_setCell_other V ⟨w.heap.size + 1, 0, none⟩ b u hb
  have c1 : HasC (V.setCell ⟨w.heap.size + 1, 0, none⟩ u) (w.heap.size + 1) 31 [u] := by
    have := h.r4
    unfold HasC at this ⊢
    simp [World.setCell, Array.getElem?_modify, this]
  have c5 : HasC (V.setCell ⟨w.heap.size + 1, 0, none⟩ u) (w.heap.size + 2) 26 [.int .i64 0] := (o1 _ (by omega)).trans h.r5
  have b1 : Below w.heap.size w (V.setCell ⟨w.heap.size + 1, 0, none⟩ u) := h.be.setCell (p := ⟨w.heap.size + 1, 0, none⟩) (by show w.heap.size ≤ w.heap.size + 1; omega) u
  have w1 : (V.setCell ⟨w.heap.size + 1, 0, none⟩ u).ownsRow B 33 1 u ns.length (n64 ns) := own_kept h.ow (fun r hr => o1 r (fun e => by have := (own_cells h.ow r hr).1; omega))
  have k1 := (o1 B (by omega)).trans hK
  generalize V.setCell ⟨w.heap.size + 1, 0, none⟩ u = V1 at *
  have o2 : ∀ b, b ≠ w.heap.size + 2 → (V1.setCell ⟨w.heap.size + 2, 0, none⟩ (.int .i64 0)).heap[b]? = V1.heap[b]? := fun b hb => heap_setCell_other V1 ⟨w.heap.size + 2, 0, none⟩ b _ hb
  have c4' : HasC (V1.setCell ⟨w.heap.size + 2, 0, none⟩ (.int .i64 0)) (w.heap.size + 1) 31 [u] := (o2 _ (by omega)).trans c1
  have c5' : HasC (V1.setCell ⟨w.heap.size + 2, 0, none⟩ (.int .i64 0)) (w.heap.size + 2) 26 [.int .i64 0] := by
    unfold HasC at c5 ⊢
    simp [World.setCell, Array.getElem?_modify, c5]
  have b2 : Below w.heap.size w (V1.setCell ⟨w.heap.size + 2, 0, none⟩ (.int .i64 0)) := b1.setCell (p := ⟨w.heap.size + 2, 0, none⟩) (by show w.heap.size ≤ w.heap.size + 2; omega) _
  have w2 : (V1.setCell ⟨w.heap.size + 2, 0, none⟩ (.int .i64 0)).ownsRow B 33 1 u ns.length (n64 ns) := own_kept w1 (fun r hr => o2 r (fun e => by have := (own_cells w1 r hr).1; omega))
  have k2 := (o2 B (by omega)).trans k1
  generalize V1.setCell ⟨w.heap.size + 2, 0, none⟩ (.int .i64 0) = V2 at *
  have o3 : ∀ b, b ≠ B → (V2.putObj B (.deferred none)).heap[b]? = V2.heap[b]? := fun b hb => World.putObj_heap_other hb
  refine ⟨k2, (o3 _ (by omega)).trans c4', (o3 _ (by omega)).trans c5', own_base (own_kept w2 (fun r hr => o3 r (fun e => ?_))) (by omega), b2.trans (belowK_b (w := w) (Nat.le_refl _) _ B _ (.deferred none) (by omega) k2 rfl rfl)⟩
  obtain ⟨_, c, hc⟩ := own_cells w2 r hr
  rw [e, k2] at hc
  cases hc
theorem results_cc {fn : Func} {p q : Tmp} (hf : fn.results = #[.cell p 31, .cell q 26]) (tmps : Array Value) (w : World) (g h : Nat) (u v : Value) (hp : tmps.getD p undef = .pointer (some ⟨g, 0, none⟩)) (hq : tmps.getD q undef = .pointer (some ⟨h, 0, none⟩)) (h1 : HasC w g 31 [u]) (h2 : HasC w h 26 [v]) :
    (results fn tmps).run Try.prog w = .ok (.tuple #[u, v]) w := by
  have hp' : tmps[p]?.getD undef = .pointer (some ⟨g, 0, none⟩) := by simpa using hp
  have hq' : tmps[q]?.getD undef = .pointer (some ⟨h, 0, none⟩) := by simpa using hq
  have hc1 := h1.cell (j := 0) (v := u) rfl
  have hc2 := h2.cell (j := 0) (v := v) rfl
  simp only [results, hf]
  simp [hp', hq', asAddr, go_sem, hc1, hc2]
end Go.Proofs.Ytelgjencpafnnaa

/- SszLists: the list of texts, its put and take. -/
namespace Go.Proofs.Ytelgjencpafnnaa
open Go.RowKit Go.Shelf
set_option linter.unusedVariables false
set_option linter.unusedSimpArgs false
set_option maxRecDepth 100000

theorem strOf_data (bs : List Nat) : (strOf bs).data.toList = bs.map fun n => UInt8.ofNat n := by
  unfold strOf
  rw [fold_push]
  simp [List.map_map, Function.comp_def]
theorem strOf_sz (bs : List Nat) : (strOf bs).size = bs.length := by
  have h := congrArg List.length (strOf_data bs)
  simpa using h
/-- []byte(s): a new row of its bytes. -/
theorem conv_s (bs : List Nat) (w : World) (h8 : ∀ z ∈ bs, z < 256) (hl : bs.length ≤ maxLen) :
    ∃ v w', (convert 9 22 (.string (strOf bs))).run Try.prog w = .ok v w' ∧ IsB w' v bs ∧ Below w.heap.size w w' := by
  have hs := strOf_sz bs
  refine ⟨_, _, Go.Lib.run_convert_string_bytes w 9 22 5 (strOf bs) Try.underlying9 Try.underlying22 Try.underlying5, ⟨⟨_, _, by rw [hs], ?_, ?_, (fun e => by cases e), ?_⟩, h8⟩, ?_⟩
  · exact grownCap_ge w bs.length 0 5
  · exact grownCap_le_maxLen _ _ _ _ (by omega)
  · refine .inr ⟨w.heap.size, 0, rfl, fun i hi => ?_⟩
    rw [Nat.zero_add, Go.Lib.bytesWorld_cell w _ _ i (by omega), strOf_data, List.getD_eq_getElem?_getD, List.getD_eq_getElem?_getD, List.getElem?_map, List.getElem?_eq_getElem hi]
    have h := h8 _ (List.getElem_mem hi)
    simp only [Option.map_some, Option.getD_some]
    congr 2
    simp [Nat.mod_eq_of_lt h]
  · exact ⟨rfl, rfl, rfl, by rw [Go.Lib.bytesWorld_size]; omega, fun k hk => Go.Lib.bytesWorld_at_old w _ _ k hk⟩
theorem str3_any (bs : List Nat) (w : World) (h8 : ∀ z ∈ bs, z < 256) (hl : bs.length ≤ maxLen) :
    Calls Try.prog 11 #[.string (strOf bs)] w fun x w' => ∃ v, x = .returned v ∧ IsB w' v bs ∧ Below w.heap.size w w' := by
  obtain ⟨v, w2, hr, hI, hB⟩ := conv_s bs w h8 hl
  have HX := hid (And.intro hI hB)
  clear hI hB h8 hl
  obtain ⟨s, hs⟩ : ∃ s, strOf bs = s := ⟨_, rfl⟩
  rw [hs] at hr ⊢
  clear hs
  go_enter Try.func11, Try.ntmps11
  go_wp2
  go_ret
  exact ⟨v, rfl, HX.out.1, HX.out.2⟩
theorem str4_any (v : Value) (bs : List Nat) (w : World) (hI : IsB w v bs) :
    Calls Try.prog 12 #[v] w fun x w' => x = .returned (if bs.head? = some 33 then .tuple #[.string (strOf []), .int .i64 47] else .tuple #[.string (strOf bs), .int .i64 0]) ∧ w' = w := by
  have hcv := conv_b hI
  have HI := hid hI
  obtain ⟨⟨ao, cap, rfl, h1, h2, h3, hR⟩, h8⟩ := hI
  cases bs with
  | nil =>
    obtain ⟨s, hs⟩ : ∃ s, strOf [] = s := ⟨_, rfl⟩
    rw [hs] at hcv
    simp only [List.length_nil] at hcv
    go_enter Try.func12, Try.ntmps12
    go_wp2
    refine bodyPost_ret (v := .tuple #[.string s, .int .i64 0]) (by simp [results, Try.results12, go_sem]) rfl ⟨by simp [hs], rfl⟩
  | cons b bs =>
    obtain ⟨g, off, rfl, hc⟩ := hR.resolve_left (by simp)
    have hc0 := hc 0 (by simp)
    simp only [Nat.add_zero, List.getD_cons_zero] at hc0
    obtain ⟨n, hn⟩ : ∃ n, (b :: bs).length = n := ⟨_, rfl⟩
    have hn0 : 0 < n := by rw [← hn]; simp
    obtain ⟨s, hs⟩ : ∃ s, strOf (b :: bs) = s := ⟨_, rfl⟩
    rw [hs, hn] at hcv
    rw [hn]
    have HS := hid hs
    have hb8 := h8 b (by simp)
    clear HI h1 h3 hR h8 hc hn hs
    by_cases hb : b = 33
    · subst hb
      rw [if_pos (show (33 :: bs).head? = some 33 from rfl)]
      go_enter Try.func12, Try.ntmps12
      go_wp2
      refine bodyPost_ret (v := .tuple #[.string (strOf []), .int .i64 47]) (by simp [results, Try.results12, go_sem]; rfl) rfl ⟨rfl, rfl⟩
    · have hb' : ¬ ((b : Int) = 33) := by omega
      rw [if_neg (by simpa using hb), HS.out]
      go_enter Try.func12, Try.ntmps12
      go_wp2
      refine bodyPost_ret (v := .tuple #[.string s, .int .i64 0]) (by simp [results, Try.results12, go_sem]) rfl ⟨rfl, rfl⟩
end Go.Proofs.Ytelgjencpafnnaa

/- SszLists: the list of texts: put, take, Encode. -/
namespace Go.Proofs.Ytelgjencpafnnaa
open Go.RowKit Go.Shelf
set_option linter.unusedVariables false
set_option linter.unusedSimpArgs false
set_option maxRecDepth 100000

/-- A list of texts of at most so many. -/
def lsS (limit : Int) : List Value := [.int .i64 0, .int .i64 limit, .func (.func 11) #[] #[], .func (.func 12) #[] #[]]
theorem Try.ty43 : Ty Try.prog 43 [.int .i64 0, .int .i64 0, .nilFunc, .nilFunc] := ⟨by kernel_rfl, _, Try.underlying43, rfl⟩
theorem eqPutS (f : Nat) (l : Array Value) (w : World) : (binOp .eql 40 (.func (.func f) #[] l) .nilFunc).run Try.prog w = .ok (.bool false) w := eqF_some _ _ Try.underlying40 ⟨_, _, _, rfl⟩ f l w
theorem eqTakeS (f : Nat) (l : Array Value) (w : World) : (binOp .eql 41 (.func (.func f) #[] l) .nilFunc).run Try.prog w = .ok (.bool false) w := eqF_some _ _ Try.underlying41 ⟨_, _, _, rfl⟩ f l w
set_option maxHeartbeats 1000000 in
theorem sput_any (limit : Int) (bs : List Nat) (w : World) (h8 : ∀ z ∈ bs, z < 256) (hl : bs.length ≤ maxLen) :
    Calls Try.prog 30 #[.agg (lsS limit).toArray, .string (strOf bs)] w fun x w' => ∃ v, x = .returned v ∧ IsB w' v bs ∧ Below w.heap.size w w' := by
  have HD := hid (fun w' => str3_any bs w' h8 hl)
  clear h8 hl
  obtain ⟨s, hs⟩ : ∃ s, strOf bs = s := ⟨_, rfl⟩
  rw [hs] at HD ⊢
  clear hs
  go_enter Try.func30, Try.ntmps30
  go_wp2_with ((with_reducible refine at_list' ?_); first
    | (refine wpList_box_c rfl 2 rfl (.tmp 0) rfl (lsS limit) rfl ?_; intro w1 H1 B1 S1; have hc2 := H1.cell (j := 2) (v := .func (.func 11) #[] #[]) rfl; have heq := eqPutS 11 #[] w1))
  have HD2 := hid (HD.out w1)
  have HB := hid B1
  clear H1 B1 hc2 heq HD
  refine HD2.out.mono ?_
  rintro e w5 ⟨v, rfl, R, B⟩
  have HX := hid (And.intro R B)
  clear R B HD2
  go_wp2
  go_ret
  exact ⟨v, rfl, HX.out.1, below_more HB.out HX.out.2 (Nat.le_refl _)⟩
/-- What a text's take answers. -/
def takS (bs : List Nat) : Value := if bs.head? = some 33 then .tuple #[.string (strOf []), .int .i64 47] else .tuple #[.string (strOf bs), .int .i64 0]
theorem takS_form (bs : List Nat) : ∃ s n, takS bs = .tuple #[.string s, .int .i64 n] := by
  unfold takS
  split
  · exact ⟨_, _, rfl⟩
  · exact ⟨_, _, rfl⟩
set_option maxHeartbeats 1000000 in
theorem stake_any (limit : Int) (v : Value) (xb : List Nat) (w : World) (hI : IsB w v xb) :
    Calls Try.prog 29 #[.agg (lsS limit).toArray, v] w fun x w' => x = .returned (takS xb) ∧ Below w.heap.size w w' := by
  have HD : Hid (∀ w', Below w.heap.size w w' → Calls Try.prog 12 #[v] w' fun x w'' => x = .returned (takS xb) ∧ w'' = w') := hid (fun w' hb => str4_any v xb w' (hI.keep hb))
  obtain ⟨⟨ao, cap, rfl, _⟩, _⟩ := hI
  obtain ⟨s, n, hf⟩ := takS_form xb
  rw [hf] at HD ⊢
  clear hf
  go_enter Try.func29, Try.ntmps29
  go_wp2_with ((with_reducible refine at_list' ?_); first
    | (refine wpList_box_c rfl 2 rfl (.tmp 0) rfl (lsS limit) rfl ?_; intro w1 H1 B1 S1; have hc3 := H1.cell (j := 3) (v := .func (.func 12) #[] #[]) rfl; have heq := eqTakeS 12 #[] w1))
  have HX := hid B1
  have HD2 := hid (HD.out w1 B1)
  clear H1 B1 hc3 heq HD
  refine HD2.out.mono ?_
  rintro e w5 ⟨rfl, rfl⟩
  go_wp2
  refine bodyPost_ret (v := .tuple #[.string s, .int .i64 n]) (by simp [results, Try.results29, go_sem]) rfl ⟨rfl, HX.out⟩
/-- A slice of texts. -/
structure IsS (w : World) (v : Value) (ss : List (List Nat)) : Prop where
  ex : ∃ ao cap, v = .slice ao ss.length cap ∧ ss.length ≤ cap ∧ cap ≤ maxLen ∧ (ss.length = 0 ∨ ∃ b off, ao = some ⟨b, off, none⟩ ∧ ∀ i, i < ss.length → w.cell? ⟨b, off + i, none⟩ = some (.string (strOf (ss.getD i []))))
  byte : ∀ s ∈ ss, (∀ z ∈ s, z < 256) ∧ s.length ≤ 1000
theorem IsS.keep {w w' : World} {v : Value} {ns : List (List Nat)} (h : IsS w v ns) (hb : Below w.heap.size w w') : IsS w' v ns := by
  obtain ⟨⟨ao, cap, e, h1, h2, h3⟩, h4⟩ := h
  refine ⟨⟨ao, cap, e, h1, h2, ?_⟩, h4⟩
  rcases h3 with h3 | ⟨b, off, e2, hc⟩
  · exact .inl h3
  · exact .inr ⟨b, off, e2, fun i hi => cell_keep hb (hc i hi)⟩
/-- The fields of a list of parts. -/
def partF (ss : List (List Nat)) : List (List Nat × Bool) := ss.map fun s => (s, true)
theorem partF_length (ss : List (List Nat)) : (partF ss).length = ss.length := by simp [partF]
theorem partF_succ (ss : List (List Nat)) (t : Nat) (h : t < ss.length) : partF (ss.take t) ++ [(ss.getD t [], true)] = partF (ss.take (t + 1)) := by
  unfold partF
  rw [List.take_add_one, List.getElem?_eq_getElem h, List.getD_eq_getElem?_getD, List.getElem?_eq_getElem h, List.map_append]
  rfl
theorem lenF_part (ss : List (List Nat)) (h : ∀ s ∈ ss, s.length ≤ 1000) : lenF (partF ss) ≤ 1000 * ss.length := by
  induction ss with
  | nil => simp [partF, lenF]
  | cons s ss ih =>
    have h1 := h s (by simp)
    have h2 := ih (fun x hx => h x (List.mem_cons_of_mem _ hx))
    simp only [partF, lenF, List.map_cons, List.sum_cons, List.length_cons] at h2 ⊢
    omega
set_option maxHeartbeats 2000000 in
theorem senc_any (limit : Int) (v : Value) (ss : List (List Nat)) (w : World) (hN : IsS w v ss) (hl : ss.length ≤ 1000000) :
    Calls Try.prog 16 #[.agg (lsS limit).toArray, v] w fun x w' => ∃ u, x = .returned u ∧ Row w' w.heap.size u (cont (partF ss)) ∧ Below w.heap.size w w' := by
  obtain ⟨⟨nao, ncap, rfl, hcap, hmx, hc⟩, hby⟩ := hN
  have HC := hid hc
  have HBY := hid hby
  clear hc hby
  go_enter Try.func16, Try.ntmps16
  go_wp2_with ((with_reducible refine at_list' ?_); first
    | (refine wpList_box_c rfl 2 rfl (.tmp 0) rfl (lsS limit) rfl ?_; intro w1 H1 B1 S1; have hc0 := H1.cell (j := 0) (v := .int .i64 0) rfl))
  have W2 := wr_new w1
  have B2 : Below w1.heap.size w1 (w1.alloc (.cells #[.int .i64 0, .pointer none] 56)) := (Below.refl _ w1).alloc (Nat.le_refl _) _
  have S2 := World.size_alloc w1 (.cells #[.int .i64 0, .pointer none] 56)
  rw [S1] at W2
  generalize w1.alloc (.cells #[.int .i64 0, .pointer none] 56) = w2 at W2 B2 S2 ⊢
  have hg2 := W2.gt
  have W2' : Wr w2 (w.heap.size + 1) (more (fun _ => False) w2 w2) [] := W2.grow (fun k a => a.elim) (fun a => by rcases a with a | a; exact a; omega) (fun k a => by rcases a with a | a; exact a.elim; omega)
  have HX := hid (And.intro (H1.keep B2) (And.intro W2' (B1.trans (B2.mono (by omega)))))
  have s2 : w2.heap.size = w.heap.size + 2 := by omega
  clear H1 B1 S1 hc0 W2 W2' B2 S2
  go_loopw [7, 13] (fun _ i wr => ∃ t : Nat, t ≤ ss.length ∧ i = .int .i64 t ∧ Wr wr (w.heap.size + 1) (more (fun _ => False) w2 wr) (partF (ss.take t)) ∧ w2.grownBy wr (some (w.heap.size + 1))) (fun _ i _ => ss.length - (intOf i).toNat)
  case atStart => exact ⟨0, Nat.zero_le _, rfl, HX.out.2.1, grown_refl _ _⟩
  case round =>
    obtain ⟨t, ht, rfl, hW, hG⟩ := hrel
    have H0 := hid (And.intro hW hG)
    have hbl : Below w.heap.size w wr := ⟨hG.os.trans HX.out.2.2.os, hG.tape.trans HX.out.2.2.tape, hG.output.trans HX.out.2.2.output, by have := hG.size; omega, fun j hj => (hG.block j (by omega) (fun h => by have := Option.some.inj h; omega)).trans (HX.out.2.2.block j hj)⟩
    have hLs := HX.out.1.grown hG (by omega)
    have hgs := hG.size
    have HB := hid hbl
    clear hW hG hbl
    by_cases hlt : t < ss.length
    · obtain ⟨b, off, rfl, hcc⟩ := HC.out.resolve_left (by omega)
      have hct := cell_keep HB.out (hcc t hlt)
      have hsb := HBY.out (ss.getD t []) (by rw [List.getD_eq_getElem?_getD, List.getElem?_eq_getElem hlt]; exact List.getElem_mem hlt)
      have hsu := partF_succ ss t hlt
      obtain ⟨x, HX1⟩ : ∃ x, Hid (ss.getD t [] = x) := ⟨_, hid rfl⟩
      rw [HX1.out] at hct hsb hsu
      have HP := hid (sput_any limit x wr hsb.1 (by unfold maxLen; omega))
      obtain ⟨sx, hsx⟩ : ∃ sx, strOf x = sx := ⟨_, rfl⟩
      rw [hsx] at hct HP
      have hc0 := hLs.cell (j := 0) (v := .int .i64 0) rfl
      have HL := hid hLs
      have HSU := hid hsu
      have HSB := hid hsb
      clear hcc hLs hsu hsb hsx
      go_wp2_with ((with_reducible refine at_list' ?_); first
        | (refine wpList_load_c Try.ty43 rfl (.tmp 2) rfl w.heap.size (lsS limit) rfl rfl HL.out ?_))
      refine HP.out.mono ?_
      rintro e w3 ⟨u, rfl, hI, B3⟩
      have s3 := B3.size
      have W3 := hid (Wr.start H0.out.1 B3 (by omega) (fun a => a) (fun k a => a.elim) hgs)
      have HF := hid (part_wr (w.heap.size + 1) _ _ u x w3 W3.out hI (by rw [partF_length, List.length_take]; omega) (by have := HSB.out.2; omega))
      obtain ⟨⟨ua, uc, hu, _⟩, _⟩ := id hI
      subst hu
      have HG3 := hid (grown_below H0.out.2 B3)
      clear B3 hI hct hc0 HP
      go_wp2_with fail
      refine HF.out.mono ?_
      rintro e w4 ⟨⟨u4, rfl⟩, q1, q2⟩
      have W4 := hid (Wr.next (show w.heap.size + 1 < w2.heap.size by omega) (fun a => a) (fun k a => a.elim) (Nat.le_trans hgs s3) q2.size q1)
      have G4 := hid (grown_trans HG3.out q2)
      clear q1 q2 HF
      go_wp2
      exact ⟨⟨t + 1, by omega, by simp, by rw [← HSU.out]; exact W4.out, G4.out⟩, by simp [intOf]; omega⟩
    · obtain rfl : t = ss.length := by omega
      rw [List.take_length] at H0
      have HB5 := hid (bytes_any (w.heap.size + 1) _ _ wr H0.out.1 (by rw [partF_length]; omega) (by have := lenF_part ss (fun s hs => (HBY.out s hs).2); omega))
      clear hLs
      go_wp2_with fail
      refine HB5.out.mono ?_
      rintro e w5 ⟨u, rfl, R, B5⟩
      have HY := hid (And.intro R B5)
      clear R B5 HB5
      go_wp2
      go_ret
      exact ⟨u, rfl, HY.out.1.base HB.out.size, below_more HB.out HY.out.2 (Nat.le_refl _)⟩
end Go.Proofs.Ytelgjencpafnnaa

/- slices.Values over parts: its iterator. -/
namespace Go.Proofs.Ytelgjencpafnnaa
open Go.RowKit Go.Shelf
set_option linter.unusedVariables false
set_option linter.unusedSimpArgs false
set_option maxRecDepth 100000
attribute [local go_sem] Oper.semAt_some

/-- What lies below B0 is kept. -/
def KB (B0 : Nat) (W V : World) : Prop := ∀ b, b < B0 → ∀ c t f, W.heap[b]? = some (.cells c t f) → V.heap[b]? = some (.cells c t f)
theorem KB.refl (B0 : Nat) (W : World) : KB B0 W W := fun _ _ _ _ _ h => h
theorem KB.trans {B0 : Nat} {A B C : World} (h : KB B0 A B) (k : KB B0 B C) : KB B0 A C := fun b hb c t f e => k b hb c t f (h b hb c t f e)
theorem KB.put {B0 : Nat} (W : World) (l : Nat) (o o' : Obj) (hl : W.heap[l]? = some o) (ho : o.isCells = false) : KB B0 W (W.putObj l o') := fun b _ c t f e =>
  (World.putObj_heap_other (fun h => by rw [h, hl] at e; cases e; cases ho)).trans e
theorem KB.below {B0 : Nat} {W V : World} (h : Below W.heap.size W V) : KB B0 W V := fun b _ c t f e => (h.block b (Array.getElem?_eq_some_iff.1 e).1).trans e
theorem cell_cells {W : World} {p : Addr} {v : Value} (h : W.cell? p = some v) : ∃ c t f, W.heap[p.block]? = some (.cells c t f) := by
  unfold World.cell? at h
  cases e : W.heap[p.block]? with
  | none => rw [e] at h; simp at h
  | some o =>
    cases o <;> first | exact ⟨_, _, _, rfl⟩ | (rw [e] at h; simp at h)
theorem KB.cell {B0 : Nat} {W V : World} (h : KB B0 W V) {p : Addr} {v : Value} (hb : p.block < B0) (hc : W.cell? p = some v) : V.cell? p = some v := by
  obtain ⟨c, t, f, e⟩ := cell_cells hc
  exact (World.cell?_of_block ((h _ hb _ _ _ e).trans e.symm)).trans hc
theorem KB.isB {W0 V : World} {v : Value} {bs : List Nat} (h : KB W0.heap.size W0 V) (hI : IsB W0 v bs) : IsB V v bs := by
  obtain ⟨⟨ao, cap, rfl, h1, h2, h3, h4⟩, h8⟩ := hI
  refine ⟨⟨ao, cap, rfl, h1, h2, h3, ?_⟩, h8⟩
  rcases h4 with h4 | ⟨b, off, rfl, hc⟩
  · exact .inl h4
  · exact .inr ⟨b, off, rfl, fun i hi => h.cell (block_lt_of_cell (hc i hi)) (hc i hi)⟩
/-- A piece that is handed over. -/
def MB (B : Nat) (x : Value × List Nat) (W : World) : Prop := IsB W x.1 x.2
theorem MB.put (B : Nat) (x : Value × List Nat) (W : World) (l : Nat) (o o' : Obj) (h : MB B x W) (hl : W.heap[l]? = some o) (ho : o.isCells = false) : MB B x (W.putObj l o') := by
  obtain ⟨⟨ao, cap, e0, h1, h2, h3, h4⟩, h8⟩ := h
  refine ⟨⟨ao, cap, e0, h1, h2, h3, ?_⟩, h8⟩
  rcases h4 with h4 | ⟨b, off, rfl, hc⟩
  · exact .inl h4
  · refine .inr ⟨b, off, rfl, fun i hi => ?_⟩
    obtain ⟨c, t, f, e⟩ := cell_cells (hc i hi)
    exact (World.cell?_of_block (World.putObj_heap_other (fun h => by have h' : b = l := h; have e' : W.heap[b]? = _ := e; rw [h', hl] at e'; cases e'; cases ho))).trans (hc i hi)
set_option maxHeartbeats 2000000 in
theorem valIt_in (n : Nat) (hn : 1 ≤ n) (l bv : Nat) (bss : List (List Nat)) (v : Value) (W0 : World) (J Jx : List (Value × List Nat) → World → Prop) (W : World)
    (hbv : W0.heap[bv]? = some (.cells #[v] 32 (0, 0))) (hI : IsBs W0 v bss) (hK0 : KB W0.heap.size W0 W)
    (hY : ∀ pre x V, J pre V → MB W.heap.size x V → pre.length < bss.length → YieldAt Fence.wide (n - 1) Try.prog l #[x.1] V fun e V' =>
      (e = .returned (.bool true) ∧ J (pre ++ [x]) V' ∧ KB W0.heap.size V V') ∨ (e = .returned (.bool false) ∧ Jx (pre ++ [x]) V')) (h0 : J [] W) :
    CallsIn Fence.wide n Try.prog 47 #[.func (.yield l) #[] #[], .pointer (some ⟨bv, 0, none⟩)] W fun e W' => (∃ v, e = .returned v) ∧
      ((∃ xs : List (Value × List Nat), xs.map (·.2) = bss ∧ J xs W') ∨ (∃ pre : List (Value × List Nat), (pre.map (·.2) = bss.take pre.length ∧ 0 < pre.length ∧ pre.length ≤ bss.length) ∧ Jx pre W')) := by
  obtain ⟨ao, cap, rfl, h1, h2, h3, h4⟩ := hI
  have hbl : bv < W0.heap.size := (Array.getElem?_eq_some_iff.1 hbv).1
  have hml : bss.length ≤ 9223372036854775807 := by unfold maxLen at h2; omega
  have H4 := hid h4
  have HK := hid hK0
  have hbW := hK0 bv hbl _ _ _ hbv
  have hcb := cell_of_row W bv 0 _ _ (0, 0) hbW
  clear h4 hK0 hbv
  refine callsIn_of_wp Try.func47 rfl trivial ?_ rfl
  simp only [Try.ntmps47, List.size_toArray, List.length_cons, List.length_nil, Nat.reduceAdd, Nat.reduceSub, Array.replicate_succ, Array.replicate_zero, List.push_toArray, List.append_toArray, List.nil_append, List.cons_append]
  gi_wp2_with fail
  clear hcb hbW
  gi_loopw [4, 7] (fun _ i wr => ∃ (t : Nat) (ys : List (Value × List Nat)), t ≤ bss.length ∧ i = .int .i64 t ∧ ys.map (·.2) = bss.take t ∧ ys.length = t ∧ J ys wr ∧ KB W0.heap.size W0 wr) (fun _ i _ => bss.length - (intOf i).toNat)
  case atStart => exact ⟨0, [], Nat.zero_le _, rfl, rfl, rfl, h0, HK.out⟩
  case round =>
    obtain ⟨t, ys, ht, rfl, hys, hyl, hJ, hK⟩ := hrel
    by_cases hlt : t < bss.length
    · obtain ⟨b, off, rfl, hc⟩ := H4.out.resolve_left (by omega)
      obtain ⟨u, hu, hIu⟩ := hc t _ (List.getElem?_eq_getElem hlt)
      have hcu := hK.cell (block_lt_of_cell hu) hu
      have hIV := hK.isB hIu
      obtain ⟨fn, tmps, assign, body, hy, hR⟩ := hY ys (u, bss[t]) wr hJ hIV (by omega)
      dsimp only at hy
      obtain ⟨⟨ua, uc, hus, _⟩, _⟩ := id hIV
      subst hus
      have eT : (ys ++ [(Value.slice ua bss[t].length uc, bss[t])]).map (·.2) = bss.take (t + 1) := by rw [List.map_append, hys, List.take_add_one, List.getElem?_eq_getElem hlt]; rfl
      have eL : (ys ++ [(Value.slice ua bss[t].length uc, bss[t])]).length = t + 1 := by rw [List.length_append, hyl]; rfl
      have HX := hid (And.intro hK (And.intro eT eL))
      clear eT eL
      have hlI : (t : Int) < (bss.length : Int) := by omega
      clear hc hu hIu hIV hK hys
      gi_wp2
      refine hR.mono ?_
      rintro e W3 (⟨rfl, hJ3, hk3⟩ | ⟨rfl, hJx3⟩)
      · gi_wp2
        refine ⟨⟨t + 1, ys ++ [(.slice ua bss[t].length uc, bss[t])], by omega, by simp, HX.out.2.1, HX.out.2.2, hJ3, HX.out.1.trans hk3⟩, (by show bss.length - ((t : Int) + 1).toNat < bss.length - (t : Int).toNat; omega)⟩
      · gi_wp2
        refine bodyPost_ret (results_none rfl _ _ _) rfl ?_
        have e2 : (ys ++ [(Value.slice ua bss[t].length uc, bss[t])]).map (·.2) = bss.take (ys ++ [(Value.slice ua bss[t].length uc, bss[t])]).length := by rw [HX.out.2.2]; exact HX.out.2.1
        have e3 := HX.out.2.2
        exact ⟨⟨_, rfl⟩, .inr ⟨ys ++ [(.slice ua bss[t].length uc, bss[t])], ⟨e2, by omega, by omega⟩, hJx3⟩⟩
    · obtain rfl : t = bss.length := by omega
      gi_wp2
      go_end0
      exact ⟨⟨_, rfl⟩, .inl ⟨ys, by rw [hys, List.take_length], hJ⟩⟩
end Go.Proofs.Ytelgjencpafnnaa

/- ssz's Reader: Parts. -/
namespace Go.Proofs.Ytelgjencpafnnaa
open Go.RowKit Go.Shelf
set_option linter.unusedVariables false
set_option maxRecDepth 100000

theorem below_drew0 {w w' : World} (h : Below w.heap.size w w') (n : Nat) : Below w.heap.size w (w'.drewN n) := ⟨h.os, h.tape, h.output, h.size, h.block⟩

set_option maxHeartbeats 4000000 in
/-- Parts, where nothing was wrong. -/
theorem parts_ok {g : Nat} {S : Nat → Prop} {bs : List Nat} {size : Nat} {ps : List Nat} (w : World) (h : Rd w g S bs size size ps false) (hb : ps = [] → bs.length = size) (hC : Cuts bs ps) (hs : size ≤ 4611686018427387904) (hl : bs.length ≤ 140737488355328) (hp : ps.length ≤ 2147483647) :
    Calls Try.prog 46 #[.pointer (some ⟨g, 0, none⟩)] w fun e w' => ∃ u, e = .returned (.tuple #[u, .bool true]) ∧ IsBs w' u (cutL bs ps) ∧ Below w.heap.size w w' := by
  obtain ⟨ao, cap, q, c0, c1, c2, c3, c4, c5, _, hIs, _, hch, _⟩ := h.cells
  have hgl := h.gt
  have HA : Hid (∀ W : World, Below w.heap.size w W → Calls Try.prog 54 #[.agg #[.int .i64 (ps.length : Nat), .pointer q]] W fun e w' =>
      ∃ gi, w.heap.size ≤ gi ∧ e = .returned (.slice (some ⟨gi, 0, none⟩) ps.length ps.length) ∧ w'.heap[gi]? = some (.cells (intsA ps) 3 (0, 0)) ∧ Below w.heap.size w w') := by
    intro W hW
    have h1 := allI_any ps.reverse q W (by rw [List.length_reverse]; exact hp) (S := S) (ChnI.keepS (w := w) (w' := W) (fun k _ hk => hW.block k hk) hch)
    rw [List.length_reverse, List.reverse_reverse] at h1
    refine h1.mono ?_
    rintro e w' ⟨gi, r1, r2, r3, r4⟩
    exact ⟨gi, Nat.le_trans hW.size r1, r2, r3, below_more hW r4 (Nat.le_refl _)⟩
  have HCt : Hid (∀ gi (W : World), Below w.heap.size w W → W.heap[gi]? = some (.cells (intsA ps) 3 (0, 0)) → Calls Try.prog 53 #[.slice ao bs.length cap, .slice (some ⟨gi, 0, none⟩) ps.length ps.length] W fun e w' => ∃ u, e = .returned u ∧ IsBs w' u (cutL bs ps) ∧ Below w.heap.size w w') := by
    intro gi W hW hg
    refine (cut_any _ bs ps gi W (hIs.keep hW) hl hg hC hp).mono ?_
    rintro e w' ⟨u, r1, r2, r3⟩
    exact ⟨u, r1, r2, below_more hW r3 (Nat.le_refl _)⟩
  have key : ∀ (W : World), (∃ n, W = w.drewN n) → ∀ a : Act, True := fun _ _ _ => trivial
  clear h hIs hch key
  by_cases hp0 : ps.length = 0
  · have hbl := hb (List.eq_nil_of_length_eq_zero hp0)
    rw [hbl] at c0 HCt hl
    have hq : (((size : Nat) : Int) != ((size : Nat) : Int)) = false := by simp
    have c3' : w.cell? ⟨g, 3, none⟩ = some (.int .i64 0) := by rw [c3, hp0]; rfl
    rw [hp0] at HA HCt
    clear c3 hb hC hbl
    have HP0 := hid hp0
    clear hp0
    go_enter Try.func46, Try.ntmps46
    go_wp2_with fail
    go_quiet (fail)
    go_wp2_with fail
    go_quiet (fail)
    go_wp2_with fail
    refine wp_mono (Q := fun e a' w' => match e with | .normal => a'.defers = [] ∧ ∃ u, a'.tmps.getD 2 undef = u ∧ a'.tmps.getD 3 undef = .bool true ∧ IsBs w' u (cutL bs ps) ∧ Below w.heap.size w w' | _ => False) ?_ ?_
    · go_region_law (first
        | (go_simp; go_at_call 54; refine (HA.out _ (by exact ⟨rfl, rfl, rfl, Nat.le_refl _, fun _ _ => rfl⟩)).mono ?_; rintro e w3 ⟨gi, hgi, rfl, hG3, B3⟩; have k0 := (B3.cell (p := ⟨g, 0, none⟩) hgl).trans c0; replace hG3 := hid hG3; replace B3 := hid B3)
        | (go_simp; go_at_call 53; refine (HCt.out _ _ B3.out hG3.out).mono ?_; rintro e w4 ⟨u, rfl, hI4, B4⟩; replace hI4 := hid hI4; replace B4 := hid B4))
      all_goals exact ⟨rfl, u, rfl, rfl, hI4.out, B4.out⟩
    · rintro (_ | _ | _ | _ | _ | _) a' w' hq <;> try exact hq.elim
      obtain ⟨hd, u, h2, h3, hI4, B4⟩ := hq
      have Y := hid (And.intro hd (And.intro h2 (And.intro h3 (And.intro hI4 B4))))
      clear hd h2 h3 hI4 B4
      go_wp2
      obtain ⟨hd, h2, h3, hI4, B4⟩ := Y.out
      refine bodyPost_ret (v := .tuple #[u, .bool true]) ?_ hd ⟨u, rfl, hI4, B4⟩
      rw [← h2, ← h3]
      exact results_tmp2 rfl _ _ _
  · have hne : (((ps.length : Nat) : Int) == 0) = false := by rw [beq_eq_false_iff_ne]; omega
    have hq : (((size : Nat) : Int) != ((size : Nat) : Int)) = false := by simp
    clear hb hC
    go_enter Try.func46, Try.ntmps46
    go_wp2_with fail
    go_quiet (fail)
    go_wp2_with fail
    go_quiet (fail)
    go_wp2_with fail
    refine wp_mono (Q := fun e a' w' => match e with | .normal => a'.defers = [] ∧ ∃ u, a'.tmps.getD 2 undef = u ∧ a'.tmps.getD 3 undef = .bool true ∧ IsBs w' u (cutL bs ps) ∧ Below w.heap.size w w' | _ => False) ?_ ?_
    · go_region_law (first
        | (go_simp; go_at_call 54; refine (HA.out _ (by exact ⟨rfl, rfl, rfl, Nat.le_refl _, fun _ _ => rfl⟩)).mono ?_; rintro e w3 ⟨gi, hgi, rfl, hG3, B3⟩; have k0 := (B3.cell (p := ⟨g, 0, none⟩) hgl).trans c0; replace hG3 := hid hG3; replace B3 := hid B3)
        | (go_simp; go_at_call 53; refine (HCt.out _ _ B3.out hG3.out).mono ?_; rintro e w4 ⟨u, rfl, hI4, B4⟩; replace hI4 := hid hI4; replace B4 := hid B4))
      all_goals exact ⟨rfl, u, rfl, rfl, hI4.out, B4.out⟩
    · rintro (_ | _ | _ | _ | _ | _) a' w' hq <;> try exact hq.elim
      obtain ⟨hd, u, h2, h3, hI4, B4⟩ := hq
      have Y := hid (And.intro hd (And.intro h2 (And.intro h3 (And.intro hI4 B4))))
      clear hd h2 h3 hI4 B4
      go_wp2
      obtain ⟨hd, h2, h3, hI4, B4⟩ := Y.out
      refine bodyPost_ret (v := .tuple #[u, .bool true]) ?_ hd ⟨u, rfl, hI4, B4⟩
      rw [← h2, ← h3]
      exact results_tmp2 rfl _ _ _
end Go.Proofs.Ytelgjencpafnnaa

