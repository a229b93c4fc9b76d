/- The document's Same. -/
import Derived.Test.YtpaamhmighgjeaaGreatVals
import Derived.Test.YtpaamhmighgjeaaGreatCls
import Derived.Test.YtpaamhmighgjeaaGreatEqlB
namespace Go.Proofs.YtpaamhmighgjeaaGreat
open Go.RowKit
set_option linter.unusedVariables false
set_option maxRecDepth 100000

theorem eql_cellsB (l m : List Nat) (hl : l.length = 32) (hm : m.length = 32) (bl : ∀ z ∈ l, z < 256) (bm : ∀ z ∈ m, z < 256) (w : World) :
    (Op.equalIn 10000 24 (.agg (cellsB l).toArray) (.agg (cellsB m).toArray)).run Tryz.prog w = .ok (decide (l = m)) w := by
  show (Op.equalIn 10000 24 (.agg (nums .u8 l)) (.agg (nums .u8 m))).run Tryz.prog w = .ok (decide (l = m)) w
  rw [nums_cells l bl, nums_cells m bm, run_equalIn_bytes w 9998 24 5 32 Tryz.underlying24 Tryz.underlying5 sizeOf_u8 _ _ (by simpa using hl) (by simpa using hm), ofNat_inj l m bl bm]
theorem size32 : (Tryz.prog.info? 24).map (·.size) = some 32 := by kernel_rfl
theorem sizeVal : (Tryz.prog.info? 37).map (·.size) = some 35 := by kernel_rfl

section
variable {P : Program} {w : World} {ops : Array Oper} {rest : List Oper} {o : Oper} {a : Act} {Q : Exit → Act → World → Prop}
/-- A copy of an array or a struct that came by value. -/
theorem wpList_box_row (hgd : o.guard = none) (d : Tmp) (hdst : o.dst = some d) (t : TypeId) (x : Operand) (ho : o.op = .box t x) (cs : Array Value) (hx : a.eval x = .agg cs)
    (h : ∀ w', w'.heap[w.heap.size]? = some (.cells cs t (0, 0)) → Below w.heap.size w w' → w'.heap.size = w.heap.size + 1 → wpList P ops Q rest (a.put (some d) (.pointer (some ⟨w.heap.size, 0, none⟩))) w') :
    wpList P ops Q (o :: rest) a w := by
  refine wpList_plain hgd fun K hK => ?_
  have := h (w.alloc (.cells cs t)) (heap_alloc_new w _) ((Below.refl _ _).alloc (Nat.le_refl _) _) (by simp)
  unfold Oper.wp
  simp only [execOp, ho, hx, Instr.box]
  simp [newVar, newRow, newObj, Value.cells, go_sem]
  rw [← hdst] at this
  exact hK _ _ this
end
/-- The cells of a value that was boxed. -/
structure Boxed (w : World) (g : Nat) (n : Nat) (r : List Nat) (sb sk : Value) : Prop where
  all : w.rangeAt g 0 (valL n r sb sk)
  len : r.length = 32
theorem Boxed.c0 {w : World} {g n : Nat} {r : List Nat} {sb sk : Value} (h : Boxed w g n r sb sk) : w.cell? ⟨g, 0, none⟩ = some (.int .u64 (n : Nat)) := by have := h.all 0 _ (valL_0 _ _ _ _); simpa using this
theorem Boxed.c33 {w : World} {g n : Nat} {r : List Nat} {sb sk : Value} (h : Boxed w g n r sb sk) : w.cell? ⟨g, 33, none⟩ = some sb := by have := h.all 33 _ (valL_33 _ _ _ _ h.len); simpa using this
theorem Boxed.c34 {w : World} {g n : Nat} {r : List Nat} {sb sk : Value} (h : Boxed w g n r sb sk) : w.cell? ⟨g, 34, none⟩ = some sk := by have := h.all 34 _ (valL_34 _ _ _ _ h.len); simpa using this
theorem Boxed.root {w : World} {g n : Nat} {r : List Nat} {sb sk : Value} (h : Boxed w g n r sb sk) : w.rangeAt g 1 (cellsB r) := fun j v hv => by
  have := h.all (1 + j) v (valL_root _ _ _ _ _ _ hv)
  simpa using this
theorem Boxed.keep {w w' : World} {g n : Nat} {r : List Nat} {sb sk : Value} (h : Boxed w g n r sb sk) (hb : Below w.heap.size w w') : Boxed w' g n r sb sk := ⟨rangeAt_keep h.all hb, h.len⟩
theorem Boxed.new {w : World} {g n : Nat} {r : List Nat} {sb sk : Value} {t : TypeId} (h : w.heap[g]? = some (.cells (valL n r sb sk).toArray t (0, 0))) (hl : r.length = 32) : Boxed w g n r sb sk := by
  refine ⟨fun j v hv => ?_, hl⟩
  rw [Nat.zero_add, cell_of_row w g j _ t (0, 0) h]
  simpa using hv

theorem sameK_len {a b : List Vt} (h : sameK a b = true) : a.length = b.length := by rw [(sameK_iff a b).1 h]
theorem sameV_false_num {n n' : Nat} {r r' : List Nat} {b b' : List Bool} {k k' : List Vt} (h : n ≠ n') : sameV (.mk n r b k) (.mk n' r' b' k') = false := by
  rw [← Bool.not_eq_true, sameV_iff]; simp [h]
theorem sameV_false {a b : Vt} (h : a ≠ b) : sameV a b = false := by
  rw [← Bool.not_eq_true, sameV_iff]; exact h

set_option maxHeartbeats 4000000 in
theorem same_step (N : Nat) (IH : ∀ (x y : Vt) (va vb : Value) (w : World), x.deep ≤ N → IsV w va x → IsV w vb y →
    Calls Tryz.prog 12 #[va, vb] w fun e w' => e = .returned (.bool (sameV x y)) ∧ Below w.heap.size w w') :
    ∀ (x y : Vt) (va vb : Value) (w : World), x.deep ≤ N + 1 → IsV w va x → IsV w vb y →
    Calls Tryz.prog 12 #[va, vb] w fun e w' => e = .returned (.bool (sameV x y)) ∧ Below w.heap.size w w'
  | .mk n r bs ks, .mk n' r' bs' ks', va, vb, w, hN, hx, hy => by
    replace IH := hid IH
    obtain ⟨sb, sk, rfl, hx⟩ := hx
    obtain ⟨sb', sk', rfl, hy⟩ := hy
    have hxk := hx
    have hyk := hy
    rw [VAt] at hx hy
    obtain ⟨⟨n64, r32, r8⟩, hT, ao, cap, rfl, hc1, hc2, hks⟩ := hx
    obtain ⟨⟨n64', r32', r8'⟩, hT', ao', cap', rfl, hc1', hc2', hks'⟩ := hy
    obtain ⟨bo, bcap, rfl, hb1, hb2, hbc⟩ := hT
    obtain ⟨bo', bcap', rfl, hb1', hb2', hbc'⟩ := hT'
    have heq := eql_cellsB r r' r32 r32' r8 r8'
    unfold maxLen at hc2 hc2' hb2 hb2'
    simp only [Vt.num, Vt.root]
    by_cases hn : n = n'
    rotate_left
    · have hq : ((n : Int) != (n' : Int)) = true := by rw [bne_iff_ne]; omega
      have HS := hid (sameV_false_num (r := r) (r' := r') (b := bs) (b' := bs') (k := ks) (k' := ks') hn)
      clear hn
      go_enter Tryz.func12, Tryz.ntmps12
      apply wp_seq_k; intro _ _
      go_step
      go_step
      refine wpList_box_row rfl 2 rfl 37 (.tmp 0) rfl _ rfl ?_
      intro w1 H1 B1 S1
      refine wpList_box_row rfl 3 rfl 37 (.tmp 1) rfl _ rfl ?_
      intro w2 H2 B2 S2
      have X1 := (Boxed.new H1 r32).keep B2
      have X2 := Boxed.new H2 r32'
      have HL := hid (And.intro X1 (And.intro X2 (below_more B1 B2 (Nat.le_refl _))))
      have c1 := X1.c0
      have c2 := X1.c33
      have c3 := X1.c34
      have c4 := X2.c0
      have c5 := X2.c33
      have c6 := X2.c34
      clear H1 H2 B1 B2 S1 S2 X1 X2
      go_wp2
      go_ret
      rw [HS.out]
      exact ⟨rfl, HL.out.2.2⟩
    subst hn
    by_cases hr : r = r'
    rotate_left
    · have hq : decide (r = r') = false := by simp [hr]
      have HS := hid (sameV_false (a := .mk n r bs ks) (b := .mk n r' bs' ks') (by simp [hr]))
      clear hr
      go_enter Tryz.func12, Tryz.ntmps12
      apply wp_seq_k; intro _ _
      go_step
      go_step
      refine wpList_box_row rfl 2 rfl 37 (.tmp 0) rfl _ rfl ?_
      intro w1 H1 B1 S1
      refine wpList_box_row rfl 3 rfl 37 (.tmp 1) rfl _ rfl ?_
      intro w2 H2 B2 S2
      have X1 := (Boxed.new H1 r32).keep B2
      have X2 := Boxed.new H2 r32'
      have HL := hid (And.intro X1 (And.intro X2 (below_more B1 B2 (Nat.le_refl _))))
      have c1 := X1.c0
      have c2 := X1.c33
      have c3 := X1.c34
      have c4 := X2.c0
      have c5 := X2.c33
      have c6 := X2.c34
      clear H1 H2 B1 B2 S1 S2 X1 X2
      go_wp2_with (go_big_want; first
        | (refine wp_load_mid 24 (.tmp 13) rfl w.heap.size 1 rfl (cellsB r) _ HL.out.1.root Tryz.underlying24 rfl (by rw [cellsB_length, r32]; exact size32) ?_)
        | (refine wp_load_mid 24 (.tmp 15) rfl w1.heap.size 1 rfl (cellsB r') _ HL.out.2.1.root Tryz.underlying24 rfl (by rw [cellsB_length, r32']; exact size32) ?_))
      go_ret
      rw [HS.out]
      exact ⟨rfl, HL.out.2.2⟩
    subst hr
    have heq' : ∀ w, (Op.equalIn 10000 24 (.agg (cellsB r).toArray) (.agg (cellsB r).toArray)).run Tryz.prog w = .ok true w := fun w => by rw [heq w]; simp
    clear heq
    by_cases hbl : bs.length = bs'.length
    rotate_left
    · have hq : (((bs.length : Nat) : Int) != ((bs'.length : Nat) : Int)) = true := by rw [bne_iff_ne]; omega
      have HS := hid (sameV_false (a := .mk n r bs ks) (b := .mk n r bs' ks') (by intro e; injection e with _ _ e _; exact hbl (congrArg List.length e)))
      clear hbl
      go_enter Tryz.func12, Tryz.ntmps12
      apply wp_seq_k; intro _ _
      go_step
      go_step
      refine wpList_box_row rfl 2 rfl 37 (.tmp 0) rfl _ rfl ?_
      intro w1 H1 B1 S1
      refine wpList_box_row rfl 3 rfl 37 (.tmp 1) rfl _ rfl ?_
      intro w2 H2 B2 S2
      have X1 := (Boxed.new H1 r32).keep B2
      have X2 := Boxed.new H2 r32'
      have HL := hid (And.intro X1 (And.intro X2 (below_more B1 B2 (Nat.le_refl _))))
      have c1 := X1.c0
      have c2 := X1.c33
      have c3 := X1.c34
      have c4 := X2.c0
      have c5 := X2.c33
      have c6 := X2.c34
      clear H1 H2 B1 B2 S1 S2 X1 X2
      go_wp2_with (go_big_want; first
        | (refine wp_load_mid 24 (.tmp 13) rfl w.heap.size 1 rfl (cellsB r) _ HL.out.1.root Tryz.underlying24 rfl (by rw [cellsB_length, r32]; exact size32) ?_)
        | (refine wp_load_mid 24 (.tmp 15) rfl w1.heap.size 1 rfl (cellsB r) _ HL.out.2.1.root Tryz.underlying24 rfl (by rw [cellsB_length, r32']; exact size32) ?_))
      go_ret
      rw [HS.out]
      exact ⟨rfl, HL.out.2.2⟩
    by_cases hkl : ks.length = ks'.length
    rotate_left
    · have hq : (((ks.length : Nat) : Int) != ((ks'.length : Nat) : Int)) = true := by rw [bne_iff_ne]; omega
      have hq0 : (((bs.length : Nat) : Int) != ((bs'.length : Nat) : Int)) = false := by rw [hbl]; simp
      have HS := hid (sameV_false (a := .mk n r bs ks) (b := .mk n r bs' ks') (by intro e; injection e with _ _ _ e; exact hkl (congrArg List.length e)))
      clear hkl hbl
      go_enter Tryz.func12, Tryz.ntmps12
      apply wp_seq_k; intro _ _
      go_step
      go_step
      refine wpList_box_row rfl 2 rfl 37 (.tmp 0) rfl _ rfl ?_
      intro w1 H1 B1 S1
      refine wpList_box_row rfl 3 rfl 37 (.tmp 1) rfl _ rfl ?_
      intro w2 H2 B2 S2
      have X1 := (Boxed.new H1 r32).keep B2
      have X2 := Boxed.new H2 r32'
      have HL := hid (And.intro X1 (And.intro X2 (below_more B1 B2 (Nat.le_refl _))))
      have c1 := X1.c0
      have c2 := X1.c33
      have c3 := X1.c34
      have c4 := X2.c0
      have c5 := X2.c33
      have c6 := X2.c34
      clear H1 H2 B1 B2 S1 S2 X1 X2
      go_wp2_with (go_big_want; first
        | (refine wp_load_mid 24 (.tmp 13) rfl w.heap.size 1 rfl (cellsB r) _ HL.out.1.root Tryz.underlying24 rfl (by rw [cellsB_length, r32]; exact size32) ?_)
        | (refine wp_load_mid 24 (.tmp 15) rfl w1.heap.size 1 rfl (cellsB r) _ HL.out.2.1.root Tryz.underlying24 rfl (by rw [cellsB_length, r32']; exact size32) ?_))
      go_ret
      rw [HS.out]
      exact ⟨rfl, HL.out.2.2⟩
    have hq0 : (((bs.length : Nat) : Int) != ((bs'.length : Nat) : Int)) = false := by rw [hbl]; simp
    have hq1 : (((ks.length : Nat) : Int) != ((ks'.length : Nat) : Int)) = false := by rw [hkl]; simp
    have hbl1 := Nat.le_of_eq hbl
    have hkl1 := Nat.le_of_eq hkl
    have HBL := hid hbl
    have HKL := hid hkl
    clear hbl hkl
    go_enter Tryz.func12, Tryz.ntmps12
    apply wp_seq_k; intro _ _
    go_step
    go_step
    refine wpList_box_row rfl 2 rfl 37 (.tmp 0) rfl _ rfl ?_
    intro w1 H1 B1 S1
    refine wpList_box_row rfl 3 rfl 37 (.tmp 1) rfl _ rfl ?_
    intro w2 H2 B2 S2
    have X1 := (Boxed.new H1 r32).keep B2
    have X2 := Boxed.new H2 r32'
    have HL := hid (And.intro X1 (And.intro X2 (below_more B1 B2 (Nat.le_refl _))))
    have c1 := X1.c0
    have c2 := X1.c33
    have c3 := X1.c34
    have c4 := X2.c0
    have c5 := X2.c33
    have c6 := X2.c34
    clear H1 H2 B1 B2 S1 S2 X1 X2
    go_wp2_with (go_big_want; first
      | (refine wp_load_mid 24 (.tmp 13) rfl w.heap.size 1 rfl (cellsB r) _ HL.out.1.root Tryz.underlying24 rfl (by rw [cellsB_length, r32]; exact size32) ?_)
      | (refine wp_load_mid 24 (.tmp 15) rfl w1.heap.size 1 rfl (cellsB r) _ HL.out.2.1.root Tryz.underlying24 rfl (by rw [cellsB_length, r32']; exact size32) ?_))
    go_loopw [5] (fun i wr => ∃ k m : Nat, k ≤ bs.length ∧ i = .int .i64 k ∧ wr = w2.drewN m ∧ ∀ j, j < k → bs.getD j false = bs'.getD j false) (fun i _ => bs.length - (intOf i).toNat)
    case atStart => exact ⟨0, 0, Nat.zero_le _, rfl, rfl, fun j hj => absurd hj (Nat.not_lt_zero _)⟩
    case round =>
      obtain ⟨k, m, hk, rfl, rfl, hsm⟩ := hrel
      have HSM := hid hsm
      clear hsm
      by_cases hlt : k < bs.length
      · obtain ⟨b, off, rfl, hcc⟩ : ∃ b off, bo = some ⟨b, off, none⟩ ∧ ∀ i, i < bs.length → w.cell? ⟨b, off + i, none⟩ = some (.bool (bs.getD i false)) := by
          rcases hbc with h | h
          · omega
          · exact h
        obtain ⟨b', off', rfl, hcc'⟩ : ∃ b off, bo' = some ⟨b, off, none⟩ ∧ ∀ i, i < bs'.length → w.cell? ⟨b, off + i, none⟩ = some (.bool (bs'.getD i false)) := by
          rcases hbc' with h | h
          · omega
          · exact h
        have hcr := (HL.out.2.2.cell (p := ⟨b, off + k, none⟩) (block_lt_of_cell (hcc k hlt))).trans (hcc k hlt)
        have hcr' := (HL.out.2.2.cell (p := ⟨b', off' + k, none⟩) (block_lt_of_cell (hcc' k (by omega)))).trans (hcc' k (by omega))
        obtain ⟨t, ht⟩ : ∃ t, bs.getD k false = t := ⟨_, rfl⟩
        obtain ⟨t', ht'⟩ : ∃ t, bs'.getD k false = t := ⟨_, rfl⟩
        rw [ht] at hcr
        rw [ht'] at hcr'
        have HT := hid ht
        have HT' := hid ht'
        clear hcc hcc' ht ht'
        cases t
        · cases t'
          · go_wp2
            go_quiet (fail)
            go_wp2
            go_roundw
            case rel => exact ⟨k + 1, m + nq, by omega, by go_num, rfl, fun j hj => by
              by_cases e : j = k
              · subst e; rw [HT.out, HT'.out]
              · exact HSM.out j (by omega)⟩
            case measure => simp [intOf]; omega
          · have HS := hid (sameV_false (a := .mk n r bs ks) (b := .mk n r bs' ks') (by intro e; injection e with _ _ e _; have h := HT.out; rw [e, HT'.out] at h; cases h))
            go_wp2
            go_quiet (fail)
            go_wp2
            go_ret
            rw [HS.out]
            exact ⟨rfl, below_drewN (below_drewN HL.out.2.2 m) nq⟩
        · cases t'
          · have HS := hid (sameV_false (a := .mk n r bs ks) (b := .mk n r bs' ks') (by intro e; injection e with _ _ e _; have h := HT.out; rw [e, HT'.out] at h; cases h))
            go_wp2
            go_quiet (fail)
            go_wp2
            go_ret
            rw [HS.out]
            exact ⟨rfl, below_drewN (below_drewN HL.out.2.2 m) nq⟩
          · go_wp2
            go_quiet (fail)
            go_wp2
            go_roundw
            case rel => exact ⟨k + 1, m + nq, by omega, by go_num, rfl, fun j hj => by
              by_cases e : j = k
              · subst e; rw [HT.out, HT'.out]
              · exact HSM.out j (by omega)⟩
            case measure => simp [intOf]; omega
      · obtain rfl : k = bs.length := by omega
        have hbs : bs = bs' := List.ext_getElem HBL.out (fun i h1 h2 => by
          have := HSM.out i h1
          rw [List.getD_eq_getElem?_getD, List.getD_eq_getElem?_getD, List.getElem?_eq_getElem h1, List.getElem?_eq_getElem h2] at this
          exact this)
        have HBS := hid hbs
        have HL2 := hid (And.intro HL.out.1 (And.intro HL.out.2.1 (below_drewN HL.out.2.2 m)))
        clear hbs HSM hbc hbc'
        obtain ⟨w3, hw3⟩ : ∃ w3, w2.drewN m = w3 := ⟨_, rfl⟩
        have d2 : w3.cell? ⟨w.heap.size, 33, none⟩ = some (.slice bo bs.length bcap) := by rw [← hw3]; exact c2
        have d3 : w3.cell? ⟨w.heap.size, 34, none⟩ = some (.slice ao ks.length cap) := by rw [← hw3]; exact c3
        have d5 : w3.cell? ⟨w1.heap.size, 33, none⟩ = some (.slice bo' bs'.length bcap') := by rw [← hw3]; exact c5
        have d6 : w3.cell? ⟨w1.heap.size, 34, none⟩ = some (.slice ao' ks'.length cap') := by rw [← hw3]; exact c6
        have HB3 : Hid (Below w.heap.size w w3) := by rw [← hw3]; exact hid HL2.out.2.2
        rw [hw3]
        clear HL2 HL hw3 c1 c2 c3 c4 c5 c6
        go_wp2_with fail
        go_loopw [6] (fun i wr => ∃ k : Nat, k ≤ ks.length ∧ i = .int .i64 k ∧ Below w3.heap.size w3 wr ∧ ∀ j x y, j < k → ks[j]? = some x → ks'[j]? = some y → x = y) (fun i _ => ks.length - (intOf i).toNat)
        case atStart => exact ⟨0, Nat.zero_le _, rfl, Below.refl _ _, fun j _ _ hj => absurd hj (Nat.not_lt_zero _)⟩
        case round =>
          obtain ⟨k, hk, rfl, hBw, hsm⟩ := hrel
          have HSM := hid hsm
          have HBw := hid hBw
          have HW := hid (below_more HB3.out hBw (Nat.le_refl _))
          have e3 := (hBw.cell (p := ⟨w.heap.size, 34, none⟩) (block_lt_of_cell d3)).trans d3
          have e6 := (hBw.cell (p := ⟨w1.heap.size, 34, none⟩) (block_lt_of_cell d6)).trans d6
          clear hsm hBw d2 d3 d5 d6
          by_cases hlt : k < ks.length
          · obtain ⟨b, off, rfl, hK⟩ : ∃ b off, ao = some ⟨b, off, none⟩ ∧ KsAt w ks b off := by
              rcases hks with h | h
              · omega
              · exact h
            obtain ⟨b', off', rfl, hK'⟩ : ∃ b off, ao' = some ⟨b, off, none⟩ ∧ KsAt w ks' b off := by
              rcases hks' with h | h
              · omega
              · exact h
            have hx := List.getElem?_eq_getElem hlt
            have hy := List.getElem?_eq_getElem (show k < ks'.length by omega)
            obtain ⟨x, hxx⟩ : ∃ x, ks[k] = x := ⟨_, rfl⟩
            obtain ⟨y, hyy⟩ : ∃ y, ks'[k]'(by omega) = y := ⟨_, rfl⟩
            rw [hxx] at hx
            rw [hyy] at hy
            obtain ⟨xb, xk, hxr, hxv⟩ := KsAt.get hK hx
            obtain ⟨yb, yk, hyr, hyv⟩ := KsAt.get hK' hy
            have hdx : x.deep ≤ N := by
              have := deepK_get hx
              rw [Vt.deep] at hN
              omega
            have hE3 : Hid (∀ w', Cls wr w' → w'.cell? ⟨w.heap.size, 34, none⟩ = some (.slice (some ⟨b, off, none⟩) ks.length cap)) := fun w' hw' => (hw'.bel.cell (p := ⟨w.heap.size, 34, none⟩) (block_lt_of_cell e3)).trans e3
            have hE6 : Hid (∀ w', Cls wr w' → w'.cell? ⟨w1.heap.size, 34, none⟩ = some (.slice (some ⟨b', off', none⟩) ks'.length cap')) := fun w' hw' => (hw'.bel.cell (p := ⟨w1.heap.size, 34, none⟩) (block_lt_of_cell e6)).trans e6
            have hX : Hid (∀ w', Cls wr w' → w'.rangeAt b (off + k * 35) (valL x.num x.root xb xk) ∧ IsV w' (.agg (valL x.num x.root xb xk).toArray) x) := fun w' hw' => by
              have hb := below_more HW.out hw'.bel (Nat.le_refl _)
              rw [Nat.mul_comm]
              exact ⟨rangeAt_keep hxr hb, ⟨xb, xk, rfl, VAt.keep hb x hxv⟩⟩
            have hY : Hid (∀ w', Cls wr w' → w'.rangeAt b' (off' + k * 35) (valL y.num y.root yb yk) ∧ IsV w' (.agg (valL y.num y.root yb yk).toArray) y) := fun w' hw' => by
              have hb := below_more HW.out hw'.bel (Nat.le_refl _)
              rw [Nat.mul_comm]
              exact ⟨rangeAt_keep hyr hb, ⟨yb, yk, rfl, VAt.keep hb y hyv⟩⟩
            have hxl : (valL x.num x.root xb xk).length = 35 := by
              cases x; rw [VAt] at hxv; exact valL_length _ _ _ _ hxv.1.2.1
            have hyl : (valL y.num y.root yb yk).length = 35 := by
              cases y; rw [VAt] at hyv; exact valL_length _ _ _ _ hyv.1.2.1
            have HLX := hid (And.intro hxl hyl)
            have HXY := hid (And.intro hx hy)
            have HI : Hid (∀ w', Cls wr w' → Calls Tryz.prog 12 #[.agg (valL x.num x.root xb xk).toArray, .agg (valL y.num y.root yb yk).toArray] w' fun e w'' => e = .returned (.bool (sameV x y)) ∧ Cls wr w'') := fun w' hw' =>
              (IH.out x y _ _ w' hdx (hX.out w' hw').2 (hY.out w' hw').2).mono fun e w'' h => ⟨h.1, hw'.more h.2⟩
            generalize (valL x.num x.root xb xk) = xc at *
            generalize (valL y.num y.root yb yk) = yc at *
            obtain ⟨t, ht⟩ : ∃ t, sameV x y = t := ⟨_, rfl⟩
            rw [ht] at HI
            have HT := hid ht
            clear hx hy hxx hyy hxr hxv hyr hyv hxl hyl hK hK' hks hks' hxk hyk ht heq'
            go_wp2_with fail
            refine wp_region_cls (by kernel_rfl) (by kernel_rfl) ?_
            go_big_quiet_step ((exact fun _ => rfl))
            go_big_quiet_want
            refine quiet_cell 35 (.tmp 62) rfl ⟨w.heap.size, 34, none⟩ rfl _ hE3.out _ Tryz.underlying35 rfl ?_
            simp only [Act.put, List.setIfInBounds_toArray, List.set_cons_succ, List.set_cons_zero]
            go_big_quiet_on
            go_big_quiet_step ((exact fun _ => rfl))
            go_big_quiet_step ((exact fun _ => rfl))
            go_big_quiet_want
            refine quiet_mid 37 (.tmp 65) rfl b (off + k * 35) rfl xc (fun w' hw' => (hX.out w' hw').1) _ Tryz.underlying37 rfl (by rw [HLX.out.1]; exact sizeVal) ?_
            simp only [Act.put, List.setIfInBounds_toArray, List.set_cons_succ, List.set_cons_zero]
            go_big_quiet_on
            go_big_quiet_step ((exact fun _ => rfl))
            go_big_quiet_want
            refine quiet_cell 35 (.tmp 67) rfl ⟨w1.heap.size, 34, none⟩ rfl _ hE6.out _ Tryz.underlying35 rfl ?_
            simp only [Act.put, List.setIfInBounds_toArray, List.set_cons_succ, List.set_cons_zero]
            go_big_quiet_on
            go_big_quiet_step ((exact fun _ => rfl))
            go_big_quiet_step ((exact fun _ => rfl))
            go_big_quiet_want
            refine quiet_mid 37 (.tmp 70) rfl b' (off' + k * 35) rfl yc (fun w' hw' => (hY.out w' hw').1) _ Tryz.underlying37 rfl (by rw [HLX.out.2]; exact sizeVal) ?_
            simp only [Act.put, List.setIfInBounds_toArray, List.set_cons_succ, List.set_cons_zero]
            go_big_quiet_on
            go_big_quiet_want
            refine quiet_call 12 #[.agg xc.toArray, .agg yc.toArray] (.bool t) (fun _ => by simp [go_sem]) HI.out ?_
            simp only [Act.put, List.setIfInBounds_toArray, List.set_cons_succ, List.set_cons_zero]
            go_big_quiet_on
            go_big_quiet_step ((exact fun _ => rfl))
            refine wpQuiet_nil ?_
            intro w4 hw4
            have HW4 := hid hw4.bel
            clear hw4 e3 e6 hE3 hE6
            cases t
            · have HS := hid (sameV_false (a := .mk n r bs ks) (b := .mk n r bs' ks') (by
                intro e
                injection e with _ _ _ e
                have h1 := HXY.out.1
                rw [e, HXY.out.2] at h1
                cases h1
                have := HT.out
                rw [sameV_refl] at this
                cases this))
              go_wp2
              go_ret
              rw [HS.out]
              exact ⟨rfl, below_more HW.out HW4.out (Nat.le_refl _)⟩
            · go_wp2
              go_roundw
              case rel => exact ⟨k + 1, by omega, by go_num, below_more HBw.out HW4.out (Nat.le_refl _), fun j x' y' hj h1 h2 => by
                by_cases e : j = k
                · subst e
                  rw [HXY.out.1] at h1
                  rw [HXY.out.2] at h2
                  cases h1
                  cases h2
                  exact (sameV_iff _ _).1 HT.out
                · exact HSM.out j x' y' (by omega) h1 h2⟩
              case measure => simp [intOf]; omega
          · obtain rfl : k = ks.length := by omega
            have HS : Hid (sameV (.mk n r bs ks) (.mk n r bs' ks') = true) := by
              refine hid ((sameV_iff _ _).2 ?_)
              rw [HBS.out]
              congr 1
              exact List.ext_getElem HKL.out (fun i h1 h2 => HSM.out i _ _ h1 (List.getElem?_eq_getElem h1) (List.getElem?_eq_getElem h2))
            go_wp2
            go_ret
            rw [HS.out]
            exact ⟨rfl, HW.out⟩
theorem same_deep (N : Nat) : ∀ (x y : Vt) (va vb : Value) (w : World), x.deep ≤ N → IsV w va x → IsV w vb y →
    Calls Tryz.prog 12 #[va, vb] w fun e w' => e = .returned (.bool (sameV x y)) ∧ Below w.heap.size w w' := by
  induction N with
  | zero => intro x y va vb w h; cases x; rw [Vt.deep] at h; omega
  | succ N ih => exact same_step N ih
/-- Same: are two values the same tree? -/
theorem same_any (x y : Vt) (va vb : Value) (w : World) (hx : IsV w va x) (hy : IsV w vb y) :
    Calls Tryz.prog 12 #[va, vb] w fun e w' => e = .returned (.bool (sameV x y)) ∧ Below w.heap.size w w' :=
  same_deep x.deep x y va vb w (Nat.le_refl _) hx hy
end Go.Proofs.YtpaamhmighgjeaaGreat
