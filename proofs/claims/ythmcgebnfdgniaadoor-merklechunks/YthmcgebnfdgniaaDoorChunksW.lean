/- The walk of MerkleChunks. -/
import Derived.Test.YthmcgebnfdgniaaDoorChunkM
namespace Go.Proofs.YthmcgebnfdgniaaDoor
open Go.RowKit Go.Shelf
set_option linter.unusedVariables false
set_option maxRecDepth 100000
attribute [local go_sem] Oper.semAt_some

set_option maxHeartbeats 4000000 in
theorem mchunks_in (ao : Option Addr) (cap : Nat) (bs : List Nat) (stop : Int) (w : World) (hT : Tabs w) (hnil : ao = none → cap = 0) (hcap : bs.length ≤ cap) (hm : cap ≤ maxLen) (h8 : ∀ z ∈ bs, z < 256) (hR : Reads w ao bs) :
    CallsIn Fence.wide 5 Tryd.prog 3 #[.slice ao bs.length cap, .int .i64 stop] w fun e w' => e = .returned (.bool true) ∧ Below w.heap.size w w' := by
  have hmx := hm
  unfold maxLen at hmx
  refine callsIn_of_wp_marks Tryd.func3 rfl trivial ?_ rfl
  simp only [Tryd.ntmps3, List.size_toArray, List.length_cons, List.length_nil, Nat.reduceAdd, Nat.reduceSub, Array.replicate_succ, Array.replicate_zero, List.push_toArray, List.append_toArray, List.nil_append, List.cons_append]
  have BA : Below w.heap.size w ((w.alloc (.cells #[.int .i64 stop] 3)).alloc (.cells #[.bool false] 4)) := ((Below.refl _ w).alloc (Nat.le_refl _) _).alloc (by simp) _
  have X0 : Boxed ((w.alloc (.cells #[.int .i64 stop] 3)).alloc (.cells #[.bool false] 4)) w.heap.size 3 (.int .i64 stop) := (Boxed.new w _ _).alloc _
  have Y0 : Boxed ((w.alloc (.cells #[.int .i64 stop] 3)).alloc (.cells #[.bool false] 4)) (w.heap.size + 1) 4 (.bool false) := by
    have := Boxed.new (w.alloc (.cells #[.int .i64 stop] 3)) 4 (.bool false)
    rw [World.size_alloc] at this
    exact this
  have S0 : ((w.alloc (.cells #[.int .i64 stop] 3)).alloc (.cells #[.bool false] 4)).heap.size = w.heap.size + 2 := by simp
  gi_wp2_with fail
  generalize (w.alloc (.cells #[.int .i64 stop] 3)).alloc (.cells #[.bool false] 4) = w0 at *
  refine ⟨trivial, ?_⟩
  refine (callsIn_wide.2 (awake_any _ (hT.keep BA))).mono ?_
  rintro e w1 ⟨rfl, B1⟩
  have X1 : Boxed w1 w.heap.size 3 (.int .i64 stop) := (B1.block _ (by omega)).trans X0
  have Y1 : Boxed w1 (w.heap.size + 1) 4 (.bool false) := (B1.block _ (by omega)).trans Y0
  have BB1 := below_more BA B1 (Nat.le_refl _)
  have S1 := B1.size
  have hR1 := hR.keep BB1
  clear X0 Y0 B1 BA
  have yc := Y1.cell
  have yf := Y1.frozen
  have xc := X1.cell
  have xf := X1.frozen
  by_cases h3 : 3000 < bs.length
  · have h3' : (3000 : Int) < ((bs.length : Nat) : Int) := by omega
    have HX := hid (And.intro X1 Y1)
    clear X1 Y1
    gi_wp2
    exact ⟨_, results_box rfl _ _ (w.heap.size + 1) 4 true rfl (HX.out.2.set _), rfl, BB1.setCell (p := ⟨w.heap.size + 1, 0, none⟩) (by show w.heap.size ≤ w.heap.size + 1; omega) _⟩
  · have h3' : ¬ (3000 : Int) < ((bs.length : Nat) : Int) := by omega
    gi_wp2_with fail
    refine ⟨trivial, ?_⟩
    refine (callsIn_wide.2 (rchunks_any ao cap bs w1 hcap hm (by omega) h8 hR1)).mono ?_
    rintro e w2 ⟨v2, rfl, R2, B2⟩
    obtain ⟨ao2, cap2, rfl, hc2, hm2, RA2⟩ := Slc.own (chunks_rts bs h8) R2
    have X2 : Boxed w2 w.heap.size 3 (.int .i64 stop) := (B2.block _ (by omega)).trans X1
    have Y2 : Boxed w2 (w.heap.size + 1) 4 (.bool false) := (B2.block _ (by omega)).trans Y1
    have BB2 := below_more BB1 B2 (Nat.le_refl _)
    have S2 := B2.size
    have hR2 := hR1.keep B2
    have hcl := chunks_length bs
    obtain ⟨N, hN⟩ : ∃ N, (chunks bs).length = N := ⟨_, rfl⟩
    rw [hN] at hc2 hcl ⊢
    have HCL := hid hcl
    have hNb : N ≤ 94 := by omega
    have hne0 : ¬ w.heap.size = w2.heap.size := by omega
    have hne1 : ¬ w.heap.size + 1 = w2.heap.size := by omega
    clear hcl
    clear xc xf yc yf R2 X1 Y1 B2
    have xc := X2.cell
    have xf := X2.frozen
    have yc := Y2.cell
    have yf := Y2.frozen
    obtain ⟨m, hm'⟩ : ∃ m : Nat, IntKind.u64.wrap stop = (m : Int) := ⟨(IntKind.u64.wrap stop).toNat, by have : 0 ≤ IntKind.u64.wrap stop := (by rw [IntKind.wrap_u64]; omega); omega⟩
    have BA3 : Below w.heap.size w (w2.alloc (.cells #[.slice ao2 N cap2] 24)) := BB2.alloc (by omega) _
    have X3 := X2.alloc (.cells #[.slice ao2 N cap2] 24)
    have X3X : Hid (Boxed (w2.alloc (.cells #[.slice ao2 N cap2] 24)) w.heap.size 3 (.int .i64 stop)) := hid X3
    have Y3 := Y2.alloc (.cells #[.slice ao2 N cap2] 24)
    have Z3 := Boxed.new w2 24 (.slice ao2 N cap2)
    have xcA := X3.cell
    have xfA := X3.frozen
    have zcA := Z3.cell
    clear xc xf yc yf
    have hmm : ¬ ((N : Int) + 1 = 0) := by omega
    obtain ⟨s, hs⟩ : ∃ s : Nat, m % (N + 1) = s := ⟨_, rfl⟩
    have hsl : s ≤ N := by rw [← hs]; have := Nat.mod_lt m (show 0 < N + 1 by omega); omega
    have hs' : (m : Int) % ((N : Int) + 1) = (s : Int) := by rw [← hs, Int.natCast_emod]; simp
    have X4 : Boxed ((w2.alloc (.cells #[.slice ao2 N cap2] 24)).setCell ⟨w.heap.size, 0, none⟩ (.int .i64 (s : Nat))) w.heap.size 3 (.int .i64 (s : Nat)) := X3.set _
    have Y4 := Y3.other (B' := w.heap.size) (by omega) (.int .i64 (s : Nat))
    have Z4 := Z3.other (B' := w.heap.size) (by omega) (.int .i64 (s : Nat))
    have BA4 : Below w.heap.size w ((w2.alloc (.cells #[.slice ao2 N cap2] 24)).setCell ⟨w.heap.size, 0, none⟩ (.int .i64 (s : Nat))) := BA3.setCell (p := ⟨w.heap.size, 0, none⟩) (Nat.le_refl _) _
    have S4 : ((w2.alloc (.cells #[.slice ao2 N cap2] 24)).setCell ⟨w.heap.size, 0, none⟩ (.int .i64 (s : Nat))).heap.size = w2.heap.size + 1 := by simp
    have hR4 := hR.keep BA4
    have RA3 := RA2.keep ((Below.refl _ w2).alloc (Nat.le_refl _) (.cells #[.slice ao2 N cap2] 24))
    have RA4 : RootsAt ((w2.alloc (.cells #[.slice ao2 N cap2] 24)).setCell ⟨w.heap.size, 0, none⟩ (.int .i64 (s : Nat))) ao2 (chunks bs) := ⟨RA3.rts, RA3.reads.setC w.heap.size _ (reads_ne RA3.reads X3X.out)⟩
    have hO4 := own_bytes ((w2.alloc (.cells #[.slice ao2 N cap2] 24)).setCell ⟨w.heap.size, 0, none⟩ (.int .i64 (s : Nat)))
    have hB4 : Below ((w2.alloc (.cells #[.slice ao2 N cap2] 24)).setCell ⟨w.heap.size, 0, none⟩ (.int .i64 (s : Nat))).heap.size ((w2.alloc (.cells #[.slice ao2 N cap2] 24)).setCell ⟨w.heap.size, 0, none⟩ (.int .i64 (s : Nat))) (((w2.alloc (.cells #[.slice ao2 N cap2] 24)).setCell ⟨w.heap.size, 0, none⟩ (.int .i64 (s : Nat))).alloc (.cells #[] 5)) := (Below.refl _ _).alloc (Nat.le_refl _) _
    obtain ⟨i0, hi, hz0, hz1, hz2⟩ := info_parts Tryd.info5
    obtain ⟨v5, w5, hrunA, own5, grow5, _⟩ := run_append_any (P := Tryd.prog) _ _ 22 22 22 5 i0 (.int .u8 0) 1 1 Tryd.underlying22 hi hz0 hz1 hz2 rfl (by decide) _ 0 [] hO4 (.slice ao bs.length cap) bs.length _ (bytes_src (hR4.keep hB4) cap (fun e => by have := hnil e; omega)) (by unfold maxLen; omega) (by omega) hB4.size
    have B5 := below_grownR hB4 hO4 (Nat.le_refl _) grow5
    rw [List.nil_append] at own5
    obtain ⟨ao5, cap5, rfl, hc5, hm5, hR5⟩ := Bts.own own5
    have hn5 : ao5 = none → cap5 = 0 := by
      intro e
      subst e
      obtain ⟨_, h⟩ := own5
      rcases h with ⟨h, _⟩ | ⟨g, cap, cur, h, _⟩
      · simp only [Value.slice.injEq] at h; exact h.2.2
      · simp at h
    rw [S4] at hrunA
    have X5 : Boxed w5 w.heap.size 3 (.int .i64 (s : Nat)) := (B5.block _ (by rw [S4]; omega)).trans X4
    have Y5 : Boxed w5 (w.heap.size + 1) 4 (.bool false) := (B5.block _ (by rw [S4]; omega)).trans Y4
    have Z5 : Boxed w5 w2.heap.size 24 (.slice ao2 N cap2) := (B5.block _ (by rw [S4]; omega)).trans Z4
    have BB5 := below_more BA4 B5 (Nat.le_refl _)
    have S5 := B5.size
    rw [S4] at S5
    have RA5 := hid (RA4.keep B5)
    have HX5 := hid (And.intro X5 (And.intro Y5 (And.intro Z5 BB5)))
    clear X2 X3 X4 X5 Y2 Y3 Y4 Y5 Z3 Z4 Z5 BA3 BA4 B5 hO4 hB4 own5 grow5 BB1 BB2 BB5 hR1 hR2 hR4 S4 hs hm2
    have HCK := hid (chunks_any ao5 cap5 bs w5 hn5 hc5 (by omega) hR5)
    clear hR5
    have HRA := hid hrunA
    clear hrunA
    gi_wp2_with (refine wpListIn_run rfl (by simp [Oper.about, resolve, Target.leads, Sem.run_pure]) (fun _ h => by cases h) (.slice ao5 bs.length cap5) w5 (run_call_append (.tmp 25) (.tmp 26) 22 22 rfl _ _ _ rfl rfl (by exact HRA.out)) ?_)
    refine ⟨trivial, ?_⟩
    refine (callsIn_wide.2 HCK.out).mono ?_
    rintro e w6 ⟨c, v6, hc6, rfl, hcell6, ⟨ao6, cap6, rfl, hcap6, hm6, hR6⟩, B6⟩
    have X6 : Boxed w6 w.heap.size 3 (.int .i64 (s : Nat)) := (B6.block _ (by omega)).trans HX5.out.1
    have Y6 : Boxed w6 (w.heap.size + 1) 4 (.bool false) := (B6.block _ (by omega)).trans HX5.out.2.1
    have Z6 : Boxed w6 w2.heap.size 24 (.slice ao2 N cap2) := (B6.block _ (by omega)).trans HX5.out.2.2.1
    have BB6 := below_more HX5.out.2.2.2 B6 (Nat.le_refl _)
    have S6 := B6.size
    have hc6l := block_lt_of_cell hcell6
    have RA6 := hid (RA5.out.keep B6)
    have HW6 := hid (And.intro X6 (And.intro Y6 (And.intro Z6 BB6)))
    have HC6 := hid (And.intro hcell6 hR6)
    clear HCK HRA HX5 X6 Y6 Z6 BB6 B6 hcell6 hR6
    gi_wp2_with fail
    have X7 := HW6.out.1.alloc (.cells #[.int .i64 0] 3)
    have Y7 := HW6.out.2.1.alloc (.cells #[.int .i64 0] 3)
    have Z7 := HW6.out.2.2.1.alloc (.cells #[.int .i64 0] 3)
    have N7 := Boxed.new w6 3 (.int .i64 0)
    have B7 : Below w6.heap.size w6 (w6.alloc (.cells #[.int .i64 0] 3)) := (Below.refl _ _).alloc (Nat.le_refl _) _
    have BB7 := below_more HW6.out.2.2.2 B7 (Nat.le_refl _)
    have RA7 := RA6.out.keep B7
    have C7 := (B7.cell (p := ⟨c, 0, none⟩) hc6l).trans HC6.out.1
    have R7 := HC6.out.2.keep B7
    have S7 : (w6.alloc (.cells #[.int .i64 0] 3)).heap.size = w6.heap.size + 1 := by simp
    generalize w6.alloc (.cells #[.int .i64 0] 3) = w7 at *
    have HM1 : Hid (MI ⟨w.heap.size, w.heap.size + 1, w2.heap.size, w6.heap.size, s, N, cap2, cap6, c, ao2, ao6, bs⟩ 0 w7) := hid ⟨X7, Y7, Z7, N7, RA7, R7, C7⟩
    have HL1 := hid BB7
    have hcl1 : c < w7.heap.size := block_lt_of_cell C7
    have hd1 : ¬ w.heap.size = w6.heap.size := by omega
    have S7' := hid S7
    clear S7
    have S7 := S7'
    clear S7'
    have hd2 : ¬ w.heap.size + 1 = w6.heap.size := by omega
    have hd3 : ¬ w2.heap.size = w6.heap.size := by omega
    clear X7 Y7 Z7 N7 R7 C7 B7 HW6 HC6 RA7 RA6 RA5 RA4 RA3 RA2 X3X BB7
    refine wpIn_rangeFunc_ownH rfl (by decide) (gf := 12) (lb := #[.pointer (some ⟨c, 0, none⟩)]) rfl trivial (enters_of Tryd.func12 (by kernel_rfl) rfl)
      (encs := fun x : RtV => #[.agg (nums .u8 x.1)]) (Kp := KeepsOwn c ao6 bs) (S := fun ys => ys.map Subtype.val = chunks bs) (Sp := fun pre => pre.map Subtype.val = (chunks bs).take pre.length) (N := (chunks bs).length) (w0 := w7)
      (fun l J Jx W hW hJ _ hY h0 => chunkI_in Fence.wide _ trivial rfl (by decide) l c cap6 ao6 bs h8 (by omega) hcap6 hm6 W J Jx hJ hY (((HM1.out.keep hW).q)) ((HM1.out.keep hW).d) h0)
      KeepsOwn.trans ?kb (Below.refl _ _) (fun _ => rfl)
      (fun pre W => (MI ⟨w.heap.size, w.heap.size + 1, w2.heap.size, w6.heap.size, s, N, cap2, cap6, c, ao2, ao6, bs⟩ pre.length W) ∧ Below w.heap.size w W)
      (fun cd pre W => (cd = .exit 0 ∧ (MI ⟨w.heap.size, w.heap.size + 1, w2.heap.size, w6.heap.size, s, N, cap2, cap6, c, ao2, ao6, bs⟩ pre.length W) ∧ Below w.heap.size w W) ∨ (pre.map Subtype.val ≠ (chunks bs).take pre.length))
      ?fi ?fx ⟨HM1.out, HL1.out⟩
      (fun x a' W => ∃ g, w.heap.size ≤ g ∧ Has W g 31 .u8 x.1 ∧ a' = { tmps := #[.slice ao bs.length cap, .int .i64 stop, undef, .pointer (some ⟨w.heap.size, 0, none⟩), .pointer (some ⟨w.heap.size + 1, 0, none⟩), .pointer (some ⟨w2.heap.size, 0, none⟩), .func (.func 12) #[] #[.pointer (some ⟨c, 0, none⟩)], .pointer (some ⟨w6.heap.size, 0, none⟩), .pointer (some ⟨g, 0, none⟩), undef, .bool true, .bool false, .slice ao bs.length cap, .int .i64 (bs.length : Nat), .bool (decide ((3000 : Int) < ((bs.length : Nat) : Int))), .slice ao bs.length cap, .slice ao2 N cap2, .int .i64 stop, .int .u64 (m : Nat), .slice ao2 N cap2, .int .i64 (N : Nat), .int .i64 ((N : Int) + 1), .int .u64 ((N : Int) + 1), .int .u64 (s : Nat), .int .i64 (s : Nat), .slice (some ⟨w2.heap.size + 1, 0, none⟩) 0 0, .slice ao bs.length cap, .slice ao5 bs.length cap5, .func (.func 12) #[] #[.pointer (some ⟨c, 0, none⟩)], .func (.func 12) #[] #[.pointer (some ⟨c, 0, none⟩)], .agg (nums .u8 x.1), undef, undef, undef, undef, undef, undef, undef, undef, undef, undef, undef, undef, undef, undef, undef, undef, undef, undef, undef, undef, undef, undef, undef, undef, undef, undef, undef, undef, undef, undef, undef, undef, undef, undef, undef, undef, undef], defers := [] })
      (fun x a' => Own.from (fun s A B row ⟨g, h1, h2, h3⟩ hg hr => ⟨g, h1, heap_kept h2 hg hr, h3⟩) _) ?assign ?body ?done ?stop
    case kb =>
      intro W l o o' hl h hk _
      exact ⟨World.cell?_of_block (World.putObj_heap_other (fun e => by simp at e; have := hcl1; omega)), fun hh => hh.kept (grownBy_putObj' W l o') (fun r e => by cases e; exact ⟨o, h, hk⟩)⟩
    case fi =>
      intro pre A B row hs hg hr
      exact ⟨hs.1.own hg (fun r e => (hr r e).2), hs.2.grown hg (by have := hs.2.size; omega) (fun k e => by have := (hr k e).1; have := HL1.out.size; omega)⟩
    case fx =>
      intro cd pre A B row hs hg hr
      rcases hs with ⟨h1, h2, h3⟩ | h
      · exact .inl ⟨h1, h2.own hg (fun r e => (hr r e).2), h3.grown hg (by have := h3.size; omega) (fun k e => by have := (hr k e).1; have := HL1.out.size; omega)⟩
      · exact .inr h
    case assign =>
      rintro l pre x W K ⟨hM, hB⟩ hK
      have hrt := x.2
      have B1 : Below W.heap.size W (W.alloc (.cells (nums .u8 (zeros 32)) 31)) := (Below.refl _ _).alloc (Nat.le_refl _) _
      have H1 : Has (W.alloc (.cells (nums .u8 (zeros 32)) 31)) W.heap.size 31 .u8 (zeros 32) := heap_alloc_new W _
      have hs32 : (nums .u8 x.1).size = 32 := by rw [nums_size, hrt.len]
      have ksc := run_storeCells_from (P := Tryd.prog) W.heap.size 31 (nums .u8 x.1).toList 0 (nums .u8 (zeros 32)) (W.alloc (.cells (nums .u8 (zeros 32)) 31)) H1 (by rw [Array.length_toList, hs32, nums_size, zeros_length]) (fun v hv => (Array.all_eq_true_iff_forall_mem.1 (nums_one .u8 x.1)) v (by simpa using hv))
      rw [List.take_zero, List.nil_append, Array.toArray_toList] at ksc
      have B2 : Below W.heap.size W ((W.alloc (.cells (nums .u8 (zeros 32)) 31)).setRow W.heap.size (nums .u8 x.1)) := below_only B1 (Only.setRow _ _ _) (Nat.le_refl _)
      have H2 : Has ((W.alloc (.cells (nums .u8 (zeros 32)) 31)).setRow W.heap.size (nums .u8 x.1)) W.heap.size 31 .u8 x.1 := setRow_heap _ _ _ _ _ _ H1
      have hBB := hB.trans (B2.mono hB.size)
      have HH := hid (And.intro hM (And.intro hB hBB))
      have hWs : w.heap.size ≤ W.heap.size := hB.size
      clear hM hB hBB
      gi_wp2
      rename_i K2 hK2
      erw [ksc]
      simp only [Result.andThen_ok, Oper.uponIn_skip]
      refine hK2 _ _ ?_
      gi_wp2
      exact hK _ _ ⟨B2.size, fun k o _ hk ho => (B2.block k (Array.getElem?_eq_some_iff.1 hk).1).trans hk⟩ ⟨B2.cell (p := ⟨c, 0, none⟩) (block_lt_of_cell (HH.out.1.q)), fun h => h.keep B2⟩ ⟨HH.out.1.keep B2, HH.out.2.2⟩ ⟨W.heap.size, hWs, H2, rfl⟩
    case body =>
      rintro l pre x a' W hl ⟨r, hr⟩ ⟨hM, hB⟩ ⟨g, hg, hH, rfl⟩ hlt
      obtain ⟨x, hrt⟩ := x
      dsimp only at hH ⊢
      have HI0 := hid (And.intro hM hB)
      obtain ⟨k, hk⟩ : ∃ k, pre.length = k := ⟨_, rfl⟩
      rw [hk] at hM
      rw [hN] at hlt
      have hkN : k < N := by omega
      have hRA : RootsAt W ao2 (chunks bs) := hM.r
      obtain ⟨b2, off2, rfl, _⟩ := hRA.addr (by rw [hN]; omega)
      obtain ⟨q, hq⟩ : ∃ q, (chunks bs).getD k [] = q := ⟨_, rfl⟩
      have hqr : Rt q := by rw [← hq]; exact hRA.rts.rt k (by rw [hN]; exact hkN)
      have xc : W.cell? ⟨w.heap.size, 0, none⟩ = some (.int .i64 (s : Nat)) := hM.x.cell
      have yc : W.cell? ⟨w.heap.size + 1, 0, none⟩ = some (.bool false) := hM.y.cell
      have yf : W.frozen? ⟨w.heap.size + 1, 0, none⟩ = false := hM.y.frozen
      have zc : W.cell? ⟨w2.heap.size, 0, none⟩ = some (.slice (some ⟨b2, off2, none⟩) N cap2) := hM.z.cell
      have nc : W.cell? ⟨w6.heap.size, 0, none⟩ = some (.int .i64 (k : Nat)) := hM.n.cell
      have nf : W.frozen? ⟨w6.heap.size, 0, none⟩ = false := hM.n.frozen
      have hkd : decide ((N : Int) ≤ (k : Int)) = false := decide_eq_false (by omega)
      have hkl : (k : Int) < (N : Int) := by omega
      have HQ1 := hid hq
      have HRA := hid hRA
      have HH := hid hH
      have HI := hid (And.intro hM hB)
      have HRT := hid (And.intro hrt hqr)
      have HK := hid hk
      clear hq hRA hH hM hB hqr hk hr
      by_cases hxq : x = q
      · have hdx : (!decide (x = q)) = false := by rw [decide_eq_true hxq]; rfl
        clear hxq
        gi_wp2
        refine wpIn_region_quiet_round rfl (by kernel_rfl) (by kernel_rfl) (by kernel_rfl) ?_
        gi_big_quiet_step (fail)
        gi_big_quiet_step (fail)
        gi_big_quiet_step (fail)
        gi_big_quiet_want
        refine quietIn_run (.bool false) (fun wq hwq => by unfold execOp; simp [go_sem]; omega) ?_
        simp only [Act.put, List.setIfInBounds_toArray, List.set_cons_succ, List.set_cons_zero]
        go_big_quiet_on
        gi_big_quiet_step (fail)
        gi_big_quiet_want
        refine quietIn_run (.agg (nums .u8 x)) (fun wq hwq => by obtain ⟨nq, rfl⟩ := hwq; exact run_load_has 31 (.tmp 8) rfl g .u8 x rfl 31 (HH.out.drewN nq) _ _ Tryd.und31 (by rw [HRT.out.1.len]; exact Tryd.size31)) ?_
        simp only [Act.put, List.setIfInBounds_toArray, List.set_cons_succ, List.set_cons_zero]
        go_big_quiet_on
        gi_big_quiet_step (fail)
        gi_big_quiet_step (fail)
        gi_big_quiet_want
        refine quietIn_run (.pointer (some ⟨b2, off2 + k * 32, none⟩)) (fun wq hwq => by unfold execOp; simp [go_sem]; try omega) ?_
        simp only [Act.put, List.setIfInBounds_toArray, List.set_cons_succ, List.set_cons_zero]
        go_big_quiet_on
        gi_big_quiet_want
        refine quietIn_run (.agg (nums .u8 q)) (fun wq hwq => by obtain ⟨nq, rfl⟩ := hwq; exact run_load_mid (.tmp 39) rfl b2 off2 k (chunks bs) q HQ1.out rfl _ ⟨HRA.out.rts, HRA.out.reads⟩ (by rw [hN]; exact hkN)) ?_
        simp only [Act.put, List.setIfInBounds_toArray, List.set_cons_succ, List.set_cons_zero]
        go_big_quiet_on
        gi_big_quiet_want
        refine quietIn_run (.bool false) (fun wq hwq => (run_neq_roots (.tmp 36) (.tmp 40) rfl x q HRT.out.1 HRT.out.2 rfl rfl wq).trans (by rw [hdx])) ?_
        simp only [Act.put, List.setIfInBounds_toArray, List.set_cons_succ, List.set_cons_zero]
        go_big_quiet_on
        gi_big_quiet_step (fail)
        refine wpQuietIn_nil ?_
        rintro w' ⟨nq, rfl⟩
        have hq2 := (HI.out.1.drew nq).setN hd1 hd2 hd3 (k + 1)
        have hb2 := (below_drewN HI.out.2 nq).setCell (p := ⟨w6.heap.size, 0, none⟩) (by show w.heap.size ≤ w6.heap.size; omega) (.int .i64 ((k + 1 : Nat) : Int))
        have HG := hid (And.intro hq2 hb2)
        clear hq2 hb2
        by_cases hks : (k : Int) + 1 = (s : Int)
        · have hcast : ((k + 1 : Nat) : Int) = (s : Int) := by omega
          rw [hcast] at HG
          clear hcast
          gi_wp2
          exact ⟨keeps_set _ (HI.out.1.n), .inl ⟨rfl, by rw [(show (pre ++ [(⟨x, hrt⟩ : RtV)]).length = k + 1 by rw [List.length_append, HK.out]; rfl)]; exact HG.out.1, HG.out.2⟩⟩
        · gi_wp2
          exact ⟨keeps_set _ (HI.out.1.n), ⟨(HG.out.1.q).trans (HI.out.1.q).symm, fun _ => HG.out.1.d⟩, ⟨by rw [(show (pre ++ [(⟨x, hrt⟩ : RtV)]).length = k + 1 by rw [List.length_append, HK.out]; rfl)]; exact HG.out.1, HG.out.2⟩⟩
      · have hdx : (!decide (x = q)) = true := by rw [decide_eq_false hxq]; rfl
        gi_wp2
        refine wpIn_region_quiet_round rfl (by kernel_rfl) (by kernel_rfl) (by kernel_rfl) ?_
        gi_big_quiet_step (fail)
        gi_big_quiet_step (fail)
        gi_big_quiet_step (fail)
        gi_big_quiet_want
        refine quietIn_run (.bool false) (fun wq hwq => by unfold execOp; simp [go_sem]; omega) ?_
        simp only [Act.put, List.setIfInBounds_toArray, List.set_cons_succ, List.set_cons_zero]
        go_big_quiet_on
        gi_big_quiet_step (fail)
        gi_big_quiet_want
        refine quietIn_run (.agg (nums .u8 x)) (fun wq hwq => by obtain ⟨nq, rfl⟩ := hwq; exact run_load_has 31 (.tmp 8) rfl g .u8 x rfl 31 (HH.out.drewN nq) _ _ Tryd.und31 (by rw [HRT.out.1.len]; exact Tryd.size31)) ?_
        simp only [Act.put, List.setIfInBounds_toArray, List.set_cons_succ, List.set_cons_zero]
        go_big_quiet_on
        gi_big_quiet_step (fail)
        gi_big_quiet_step (fail)
        gi_big_quiet_want
        refine quietIn_run (.pointer (some ⟨b2, off2 + k * 32, none⟩)) (fun wq hwq => by unfold execOp; simp [go_sem]; try omega) ?_
        simp only [Act.put, List.setIfInBounds_toArray, List.set_cons_succ, List.set_cons_zero]
        go_big_quiet_on
        gi_big_quiet_want
        refine quietIn_run (.agg (nums .u8 q)) (fun wq hwq => by obtain ⟨nq, rfl⟩ := hwq; exact run_load_mid (.tmp 39) rfl b2 off2 k (chunks bs) q HQ1.out rfl _ ⟨HRA.out.rts, HRA.out.reads⟩ (by rw [hN]; exact hkN)) ?_
        simp only [Act.put, List.setIfInBounds_toArray, List.set_cons_succ, List.set_cons_zero]
        go_big_quiet_on
        gi_big_quiet_want
        refine quietIn_run (.bool true) (fun wq hwq => (run_neq_roots (.tmp 36) (.tmp 40) rfl x q HRT.out.1 HRT.out.2 rfl rfl wq).trans (by rw [hdx])) ?_
        simp only [Act.put, List.setIfInBounds_toArray, List.set_cons_succ, List.set_cons_zero]
        go_big_quiet_on
        gi_big_quiet_step (fail)
        refine wpQuietIn_nil ?_
        rintro w' ⟨nq, rfl⟩
        gi_wp2
        exact ⟨keeps_set _ (HI.out.1.y), .inr (prefix_ne HK.out (by rw [hN]; exact hkN) (by rw [HQ1.out]; exact hxq))⟩
    case done =>
      rintro D1 xs W hD hdn ⟨hM, hB⟩ hK
      obtain ⟨kk, hkk⟩ : ∃ kk, xs.length = kk := ⟨_, rfl⟩
      rw [hkk] at hM
      clear hdn hkk xs
      have hlD : w7.heap.size ≤ D1 := hD
      have nc : W.cell? ⟨w6.heap.size, 0, none⟩ = some (.int .i64 ((kk : Nat) : Int)) := hM.n.cell
      have nf : W.frozen? ⟨w6.heap.size, 0, none⟩ = false := hM.n.frozen
      have HM2 : Hid (MI ⟨w.heap.size, w.heap.size + 1, w2.heap.size, w6.heap.size, s, N, cap2, cap6, c, ao2, ao6, bs⟩ 0 (W.setCell ⟨w6.heap.size, 0, none⟩ (.int .i64 ((0 : Nat) : Int)))) := hid (hM.setN hd1 hd2 hd3 0)
      have HL2 : Hid (Below w.heap.size w (W.setCell ⟨w6.heap.size, 0, none⟩ (.int .i64 ((0 : Nat) : Int)))) := hid (hB.setCell (p := ⟨w6.heap.size, 0, none⟩) (by show w.heap.size ≤ w6.heap.size; omega) _)
      have HK1 : Hid ((W.setCell ⟨w6.heap.size, 0, none⟩ (.int .i64 ((0 : Nat) : Int))).heap[D1]? = some (.deferred (some []))) := hid ((heap_setCell_other W ⟨w6.heap.size, 0, none⟩ D1 _ (by show ¬ D1 = w6.heap.size; have := S7.out; omega)).trans hK)
      have hD1n : ¬ D1 = w6.heap.size := by have := S7.out; omega
      clear hM hB hK
      gi_wp2
      change Code.wpIn _ _ _ _ _ _ (W.setCell ⟨w6.heap.size, 0, none⟩ (.int .i64 ((0 : Nat) : Int)))
      generalize W.setCell ⟨w6.heap.size, 0, none⟩ (.int .i64 ((0 : Nat) : Int)) = w8 at *
      have hcl2 : c < w8.heap.size := block_lt_of_cell HM2.out.q
      have hdl8 : D1 < w8.heap.size := (Array.getElem?_eq_some_iff.1 HK1.out).1
      have hs28 : w6.heap.size < w8.heap.size := HM2.out.n.lt
      clear nc nf
      refine wpIn_rangeFunc_ownH rfl (by decide) (gf := 12) (lb := #[.pointer (some ⟨c, 0, none⟩)]) rfl trivial (enters_of Tryd.func12 (by kernel_rfl) rfl)
        (encs := fun x : RtV => #[.agg (nums .u8 x.1)]) (Kp := KeepsOwn c ao6 bs) (S := fun ys => ys.map Subtype.val = chunks bs) (Sp := fun pre => pre.map Subtype.val = (chunks bs).take pre.length) (N := (chunks bs).length) (w0 := w8)
        (fun l J Jx W hW hJ _ hY h0 => chunkI_in Fence.wide _ trivial rfl (by decide) l c cap6 ao6 bs h8 (by omega) hcap6 hm6 W J Jx hJ hY (((HM2.out.keep hW).q)) ((HM2.out.keep hW).d) h0)
        KeepsOwn.trans ?kb2 (Below.refl _ _) (fun _ => rfl)
        (fun pre W => (MI ⟨w.heap.size, w.heap.size + 1, w2.heap.size, w6.heap.size, s, N, cap2, cap6, c, ao2, ao6, bs⟩ pre.length W ∧ W.heap[D1]? = some (.deferred (some []))) ∧ Below w.heap.size w W)
        (fun cd pre W => pre.map Subtype.val ≠ (chunks bs).take pre.length)
        ?fi2 ?fx2 ⟨⟨HM2.out, HK1.out⟩, HL2.out⟩
        (fun x a' W => ∃ g, w.heap.size ≤ g ∧ Has W g 31 .u8 x.1 ∧ a' = { tmps := #[.slice ao bs.length cap, .int .i64 stop, undef, .pointer (some ⟨w.heap.size, 0, none⟩), .pointer (some ⟨w.heap.size + 1, 0, none⟩), .pointer (some ⟨w2.heap.size, 0, none⟩), .func (.func 12) #[] #[.pointer (some ⟨c, 0, none⟩)], .pointer (some ⟨w6.heap.size, 0, none⟩), undef, .pointer (some ⟨g, 0, none⟩), .bool true, .bool false, .slice ao bs.length cap, .int .i64 (bs.length : Nat), .bool (decide ((3000 : Int) < ((bs.length : Nat) : Int))), .slice ao bs.length cap, .slice ao2 N cap2, .int .i64 stop, .int .u64 (m : Nat), .slice ao2 N cap2, .int .i64 (N : Nat), .int .i64 ((N : Int) + 1), .int .u64 ((N : Int) + 1), .int .u64 (s : Nat), .int .i64 (s : Nat), .slice (some ⟨w2.heap.size + 1, 0, none⟩) 0 0, .slice ao bs.length cap, .slice ao5 bs.length cap5, .func (.func 12) #[] #[.pointer (some ⟨c, 0, none⟩)], .func (.func 12) #[] #[.pointer (some ⟨c, 0, none⟩)], undef, undef, undef, undef, undef, undef, undef, undef, undef, undef, undef, undef, undef, undef, undef, undef, undef, undef, .func (.func 12) #[] #[.pointer (some ⟨c, 0, none⟩)], .agg (nums .u8 x.1), undef, undef, undef, undef, undef, undef, undef, undef, undef, undef, undef, undef, undef, undef, undef, undef, undef, undef], defers := [] })
        (fun x a' => Own.from (fun s A B row ⟨g, h1, h2, h3⟩ hg hr => ⟨g, h1, heap_kept h2 hg hr, h3⟩) _) ?assign2 ?body2 ?done2 ?stop2
      case kb2 =>
        intro W l o o' hl h hk _
        exact ⟨World.cell?_of_block (World.putObj_heap_other (fun e => by simp at e; have := hcl2; omega)), fun hh => hh.kept (grownBy_putObj' W l o') (fun r e => by cases e; exact ⟨o, h, hk⟩)⟩
      case fi2 =>
        intro pre A B row hs hg hr
        exact ⟨⟨hs.1.1.own hg (fun r e => (hr r e).2), (hg.block _ (Array.getElem?_eq_some_iff.1 hs.1.2).1 (fun e => by have := (hr _ e.symm).1; omega)).trans hs.1.2⟩, hs.2.grown hg (by have := hs.2.size; omega) (fun k e => by have := (hr k e).1; have := HL2.out.size; omega)⟩
      case fx2 =>
        intro cd pre A B row hs hg hr
        exact hs
      case assign2 =>
        rintro l pre x W K ⟨hM, hB⟩ hK
        have hrt := x.2
        have B1 : Below W.heap.size W (W.alloc (.cells (nums .u8 (zeros 32)) 31)) := (Below.refl _ _).alloc (Nat.le_refl _) _
        have H1 : Has (W.alloc (.cells (nums .u8 (zeros 32)) 31)) W.heap.size 31 .u8 (zeros 32) := heap_alloc_new W _
        have hs32 : (nums .u8 x.1).size = 32 := by rw [nums_size, hrt.len]
        have ksc := run_storeCells_from (P := Tryd.prog) W.heap.size 31 (nums .u8 x.1).toList 0 (nums .u8 (zeros 32)) (W.alloc (.cells (nums .u8 (zeros 32)) 31)) H1 (by rw [Array.length_toList, hs32, nums_size, zeros_length]) (fun v hv => (Array.all_eq_true_iff_forall_mem.1 (nums_one .u8 x.1)) v (by simpa using hv))
        rw [List.take_zero, List.nil_append, Array.toArray_toList] at ksc
        have B2 : Below W.heap.size W ((W.alloc (.cells (nums .u8 (zeros 32)) 31)).setRow W.heap.size (nums .u8 x.1)) := below_only B1 (Only.setRow _ _ _) (Nat.le_refl _)
        have H2 : Has ((W.alloc (.cells (nums .u8 (zeros 32)) 31)).setRow W.heap.size (nums .u8 x.1)) W.heap.size 31 .u8 x.1 := setRow_heap _ _ _ _ _ _ H1
        have hBB := hB.trans (B2.mono hB.size)
        have HH := hid (And.intro hM (And.intro hB hBB))
        have hWs : w.heap.size ≤ W.heap.size := hB.size
        clear hM hB hBB
        gi_wp2
        rename_i K2 hK2
        erw [ksc]
        simp only [Result.andThen_ok, Oper.uponIn_skip]
        refine hK2 _ _ ?_
        gi_wp2
        exact hK _ _ ⟨B2.size, fun k o _ hk ho => (B2.block k (Array.getElem?_eq_some_iff.1 hk).1).trans hk⟩ ⟨B2.cell (p := ⟨c, 0, none⟩) (block_lt_of_cell (HH.out.1.1.q)), fun h => h.keep B2⟩ ⟨⟨HH.out.1.1.keep B2, (B2.block _ (Array.getElem?_eq_some_iff.1 HH.out.1.2).1).trans HH.out.1.2⟩, HH.out.2.2⟩ ⟨W.heap.size, hWs, H2, rfl⟩
      case body2 =>
        rintro l pre x a' W hl ⟨r, hr⟩ ⟨hM, hB⟩ ⟨g, hg, hH, rfl⟩ hlt
        obtain ⟨x, hrt⟩ := x
        dsimp only at hH ⊢
        have HI0 := hid (And.intro hM hB)
        obtain ⟨k, hk⟩ : ∃ k, pre.length = k := ⟨_, rfl⟩
        rw [hk] at hM
        rw [hN] at hlt
        have hkN : k < N := by omega
        have hRA : RootsAt W ao2 (chunks bs) := hM.1.r
        obtain ⟨b2, off2, rfl, _⟩ := hRA.addr (by rw [hN]; omega)
        obtain ⟨q, hq⟩ : ∃ q, (chunks bs).getD k [] = q := ⟨_, rfl⟩
        have hqr : Rt q := by rw [← hq]; exact hRA.rts.rt k (by rw [hN]; exact hkN)
        have xc : W.cell? ⟨w.heap.size, 0, none⟩ = some (.int .i64 (s : Nat)) := hM.1.x.cell
        have yc : W.cell? ⟨w.heap.size + 1, 0, none⟩ = some (.bool false) := hM.1.y.cell
        have yf : W.frozen? ⟨w.heap.size + 1, 0, none⟩ = false := hM.1.y.frozen
        have zc : W.cell? ⟨w2.heap.size, 0, none⟩ = some (.slice (some ⟨b2, off2, none⟩) N cap2) := hM.1.z.cell
        have nc : W.cell? ⟨w6.heap.size, 0, none⟩ = some (.int .i64 (k : Nat)) := hM.1.n.cell
        have nf : W.frozen? ⟨w6.heap.size, 0, none⟩ = false := hM.1.n.frozen
        have hkd : decide ((N : Int) ≤ (k : Int)) = false := decide_eq_false (by omega)
        have hkl : (k : Int) < (N : Int) := by omega
        have HQ1 := hid hq
        have HRA := hid hRA
        have HH := hid hH
        have HI := hid (And.intro hM hB)
        have HRT := hid (And.intro hrt hqr)
        have HK := hid hk
        clear hq hRA hH hM hB hqr hk hr
        by_cases hxq : x = q
        · have hdx : (!decide (x = q)) = false := by rw [decide_eq_true hxq]; rfl
          clear hxq
          gi_wp2
          refine wpIn_region_quiet_round rfl (by kernel_rfl) (by kernel_rfl) (by kernel_rfl) ?_
          gi_big_quiet_step (fail)
          gi_big_quiet_step (fail)
          gi_big_quiet_step (fail)
          gi_big_quiet_want
          refine quietIn_run (.bool false) (fun wq hwq => by unfold execOp; simp [go_sem]; omega) ?_
          simp only [Act.put, List.setIfInBounds_toArray, List.set_cons_succ, List.set_cons_zero]
          go_big_quiet_on
          gi_big_quiet_step (fail)
          gi_big_quiet_want
          refine quietIn_run (.agg (nums .u8 x)) (fun wq hwq => by obtain ⟨nq, rfl⟩ := hwq; exact run_load_has 31 (.tmp 9) rfl g .u8 x rfl 31 (HH.out.drewN nq) _ _ Tryd.und31 (by rw [HRT.out.1.len]; exact Tryd.size31)) ?_
          simp only [Act.put, List.setIfInBounds_toArray, List.set_cons_succ, List.set_cons_zero]
          go_big_quiet_on
          gi_big_quiet_step (fail)
          gi_big_quiet_step (fail)
          gi_big_quiet_want
          refine quietIn_run (.pointer (some ⟨b2, off2 + k * 32, none⟩)) (fun wq hwq => by unfold execOp; simp [go_sem]; try omega) ?_
          simp only [Act.put, List.setIfInBounds_toArray, List.set_cons_succ, List.set_cons_zero]
          go_big_quiet_on
          gi_big_quiet_want
          refine quietIn_run (.agg (nums .u8 q)) (fun wq hwq => by obtain ⟨nq, rfl⟩ := hwq; exact run_load_mid (.tmp 58) rfl b2 off2 k (chunks bs) q HQ1.out rfl _ ⟨HRA.out.rts, HRA.out.reads⟩ (by rw [hN]; exact hkN)) ?_
          simp only [Act.put, List.setIfInBounds_toArray, List.set_cons_succ, List.set_cons_zero]
          go_big_quiet_on
          gi_big_quiet_want
          refine quietIn_run (.bool false) (fun wq hwq => (run_neq_roots (.tmp 55) (.tmp 59) rfl x q HRT.out.1 HRT.out.2 rfl rfl wq).trans (by rw [hdx])) ?_
          simp only [Act.put, List.setIfInBounds_toArray, List.set_cons_succ, List.set_cons_zero]
          go_big_quiet_on
          gi_big_quiet_step (fail)
          refine wpQuietIn_nil ?_
          rintro w' ⟨nq, rfl⟩
          have hq2 := (HI.out.1.1.drew nq).setN hd1 hd2 hd3 (k + 1)
          have hb2 := (below_drewN HI.out.2 nq).setCell (p := ⟨w6.heap.size, 0, none⟩) (by show w.heap.size ≤ w6.heap.size; omega) (.int .i64 ((k + 1 : Nat) : Int))
          have HG := hid (And.intro hq2 hb2)
          clear hq2 hb2
          have hD1 := (heap_setCell_other (W.drewN nq) ⟨w6.heap.size, 0, none⟩ D1 (.int .i64 ((k + 1 : Nat) : Int)) (by show ¬ D1 = w6.heap.size; omega)).trans HI.out.1.2
          have HD1 := hid hD1
          clear hD1
          gi_wp2
          exact ⟨keeps_set _ (HI.out.1.1.n), ⟨(HG.out.1.q).trans (HI.out.1.1.q).symm, fun _ => HG.out.1.d⟩, ⟨⟨by rw [(show (pre ++ [(⟨x, hrt⟩ : RtV)]).length = k + 1 by rw [List.length_append, HK.out]; rfl)]; exact HG.out.1, HD1.out⟩, HG.out.2⟩⟩
        · have hdx : (!decide (x = q)) = true := by rw [decide_eq_false hxq]; rfl
          gi_wp2
          refine wpIn_region_quiet_round rfl (by kernel_rfl) (by kernel_rfl) (by kernel_rfl) ?_
          gi_big_quiet_step (fail)
          gi_big_quiet_step (fail)
          gi_big_quiet_step (fail)
          gi_big_quiet_want
          refine quietIn_run (.bool false) (fun wq hwq => by unfold execOp; simp [go_sem]; omega) ?_
          simp only [Act.put, List.setIfInBounds_toArray, List.set_cons_succ, List.set_cons_zero]
          go_big_quiet_on
          gi_big_quiet_step (fail)
          gi_big_quiet_want
          refine quietIn_run (.agg (nums .u8 x)) (fun wq hwq => by obtain ⟨nq, rfl⟩ := hwq; exact run_load_has 31 (.tmp 9) rfl g .u8 x rfl 31 (HH.out.drewN nq) _ _ Tryd.und31 (by rw [HRT.out.1.len]; exact Tryd.size31)) ?_
          simp only [Act.put, List.setIfInBounds_toArray, List.set_cons_succ, List.set_cons_zero]
          go_big_quiet_on
          gi_big_quiet_step (fail)
          gi_big_quiet_step (fail)
          gi_big_quiet_want
          refine quietIn_run (.pointer (some ⟨b2, off2 + k * 32, none⟩)) (fun wq hwq => by unfold execOp; simp [go_sem]; try omega) ?_
          simp only [Act.put, List.setIfInBounds_toArray, List.set_cons_succ, List.set_cons_zero]
          go_big_quiet_on
          gi_big_quiet_want
          refine quietIn_run (.agg (nums .u8 q)) (fun wq hwq => by obtain ⟨nq, rfl⟩ := hwq; exact run_load_mid (.tmp 58) rfl b2 off2 k (chunks bs) q HQ1.out rfl _ ⟨HRA.out.rts, HRA.out.reads⟩ (by rw [hN]; exact hkN)) ?_
          simp only [Act.put, List.setIfInBounds_toArray, List.set_cons_succ, List.set_cons_zero]
          go_big_quiet_on
          gi_big_quiet_want
          refine quietIn_run (.bool true) (fun wq hwq => (run_neq_roots (.tmp 55) (.tmp 59) rfl x q HRT.out.1 HRT.out.2 rfl rfl wq).trans (by rw [hdx])) ?_
          simp only [Act.put, List.setIfInBounds_toArray, List.set_cons_succ, List.set_cons_zero]
          go_big_quiet_on
          gi_big_quiet_step (fail)
          refine wpQuietIn_nil ?_
          rintro w' ⟨nq, rfl⟩
          gi_wp2
          exact ⟨keeps_set _ (HI.out.1.1.y), (prefix_ne HK.out (by rw [hN]; exact hkN) (by rw [HQ1.out]; exact hxq))⟩
      case done2 =>
        rintro D2 ys W hD hS ⟨⟨hM, hK1⟩, hB⟩ hK
        have hyl : ys.length = N := by have := congrArg List.length hS; rwa [List.length_map, hN] at this
        rw [hyl] at hM
        have yc : W.cell? ⟨w.heap.size + 1, 0, none⟩ = some (.bool false) := hM.y.cell
        have yf : W.frozen? ⟨w.heap.size + 1, 0, none⟩ = false := hM.y.frozen
        have zc : W.cell? ⟨w2.heap.size, 0, none⟩ = some (.slice ao2 N cap2) := hM.z.cell
        have nc : W.cell? ⟨w6.heap.size, 0, none⟩ = some (.int .i64 (N : Nat)) := hM.n.cell
        have hx1 : w.heap.size + 1 < D1 := by have := S7.out; omega
        have hx2 : D1 < D2 := by omega
        have k2 := (heap_setCell_other W ⟨w.heap.size + 1, 0, none⟩ D2 (.bool true) (by show ¬ D2 = w.heap.size + 1; omega)).trans hK
        have k1 := (heap_setCell_other W ⟨w.heap.size + 1, 0, none⟩ D1 (.bool true) (by show ¬ D1 = w.heap.size + 1; omega)).trans hK1
        have k1' := (World.putObj_heap_other (w := W.setCell ⟨w.heap.size + 1, 0, none⟩ (.bool true)) (o := .deferred none) (show D1 ≠ D2 by omega)).trans k1
        have bx := hM.y.set (.bool true)
        have bx2 := heap_kept bx (grownBy_putObj' _ D2 (.deferred none)) (fun r e => by cases e; exact ⟨_, k2, rfl⟩)
        have bx3 := heap_kept bx2 (grownBy_putObj' _ D1 (.deferred none)) (fun r e => by cases e; exact ⟨_, k1', rfl⟩)
        have bb1 := hB.setCell (p := ⟨w.heap.size + 1, 0, none⟩) (by show w.heap.size ≤ w.heap.size + 1; omega) (.bool true)
        have bb2 := bb1.trans (belowK_b (w := w) (Nat.le_refl _) _ D2 _ (.deferred none) (by omega) k2 rfl rfl)
        have bb3 := bb2.trans (belowK_b (w := w) (Nat.le_refl _) _ D1 _ (.deferred none) (by omega) k1' rfl rfl)
        have HE := hid (And.intro k2 (And.intro k1' (And.intro bx3 bb3)))
        clear hM hB hK1 hK hS hyl k1 k2 k1' bx bx2 bx3 bb1 bb2 bb3 hx1 hx2
        gi_wp2
        refine ⟨by simp, .inl ⟨_, _, rfl, run_takeDeferred HE.out.1, ?_⟩⟩
        refine ⟨by simp, .inl ⟨_, _, rfl, run_takeDeferred HE.out.2.1, ?_⟩⟩
        exact ⟨_, results_box rfl _ _ (w.heap.size + 1) 4 true rfl HE.out.2.2.1, rfl, HE.out.2.2.2⟩
      case stop2 =>
        rintro D2 cd pre W hD hSp hne hK
        exact absurd hSp hne
    case stop =>
      rintro D1 cd pre W hD hSp (⟨rfl, hM, hB⟩ | hne) hK
      · obtain ⟨kk, hkk⟩ : ∃ kk, pre.length = kk := ⟨_, rfl⟩
        rw [hkk] at hM
        clear hSp hkk pre
        have hlD : w7.heap.size ≤ D1 := hD
        have nc : W.cell? ⟨w6.heap.size, 0, none⟩ = some (.int .i64 ((kk : Nat) : Int)) := hM.n.cell
        have nf : W.frozen? ⟨w6.heap.size, 0, none⟩ = false := hM.n.frozen
        have HM2 : Hid (MI ⟨w.heap.size, w.heap.size + 1, w2.heap.size, w6.heap.size, s, N, cap2, cap6, c, ao2, ao6, bs⟩ 0 (W.setCell ⟨w6.heap.size, 0, none⟩ (.int .i64 ((0 : Nat) : Int)))) := hid (hM.setN hd1 hd2 hd3 0)
        have HL2 : Hid (Below w.heap.size w (W.setCell ⟨w6.heap.size, 0, none⟩ (.int .i64 ((0 : Nat) : Int)))) := hid (hB.setCell (p := ⟨w6.heap.size, 0, none⟩) (by show w.heap.size ≤ w6.heap.size; omega) _)
        have HK1 : Hid ((W.setCell ⟨w6.heap.size, 0, none⟩ (.int .i64 ((0 : Nat) : Int))).heap[D1]? = some (.deferred (some []))) := hid ((heap_setCell_other W ⟨w6.heap.size, 0, none⟩ D1 _ (by show ¬ D1 = w6.heap.size; have := S7.out; omega)).trans hK)
        have hD1n : ¬ D1 = w6.heap.size := by have := S7.out; omega
        clear hM hB hK
        gi_wp2
        change Code.wpIn _ _ _ _ _ _ (W.setCell ⟨w6.heap.size, 0, none⟩ (.int .i64 ((0 : Nat) : Int)))
        generalize W.setCell ⟨w6.heap.size, 0, none⟩ (.int .i64 ((0 : Nat) : Int)) = w8 at *
        have hcl2 : c < w8.heap.size := block_lt_of_cell HM2.out.q
        have hdl8 : D1 < w8.heap.size := (Array.getElem?_eq_some_iff.1 HK1.out).1
        have hs28 : w6.heap.size < w8.heap.size := HM2.out.n.lt
        clear nc nf
        refine wpIn_rangeFunc_ownH rfl (by decide) (gf := 12) (lb := #[.pointer (some ⟨c, 0, none⟩)]) rfl trivial (enters_of Tryd.func12 (by kernel_rfl) rfl)
          (encs := fun x : RtV => #[.agg (nums .u8 x.1)]) (Kp := KeepsOwn c ao6 bs) (S := fun ys => ys.map Subtype.val = chunks bs) (Sp := fun pre => pre.map Subtype.val = (chunks bs).take pre.length) (N := (chunks bs).length) (w0 := w8)
          (fun l J Jx W hW hJ _ hY h0 => chunkI_in Fence.wide _ trivial rfl (by decide) l c cap6 ao6 bs h8 (by omega) hcap6 hm6 W J Jx hJ hY (((HM2.out.keep hW).q)) ((HM2.out.keep hW).d) h0)
          KeepsOwn.trans ?kb2 (Below.refl _ _) (fun _ => rfl)
          (fun pre W => (MI ⟨w.heap.size, w.heap.size + 1, w2.heap.size, w6.heap.size, s, N, cap2, cap6, c, ao2, ao6, bs⟩ pre.length W ∧ W.heap[D1]? = some (.deferred (some []))) ∧ Below w.heap.size w W)
          (fun cd pre W => pre.map Subtype.val ≠ (chunks bs).take pre.length)
          ?fi2 ?fx2 ⟨⟨HM2.out, HK1.out⟩, HL2.out⟩
          (fun x a' W => ∃ g, w.heap.size ≤ g ∧ Has W g 31 .u8 x.1 ∧ a' = { tmps := #[.slice ao bs.length cap, .int .i64 stop, undef, .pointer (some ⟨w.heap.size, 0, none⟩), .pointer (some ⟨w.heap.size + 1, 0, none⟩), .pointer (some ⟨w2.heap.size, 0, none⟩), .func (.func 12) #[] #[.pointer (some ⟨c, 0, none⟩)], .pointer (some ⟨w6.heap.size, 0, none⟩), undef, .pointer (some ⟨g, 0, none⟩), .bool true, .bool false, .slice ao bs.length cap, .int .i64 (bs.length : Nat), .bool (decide ((3000 : Int) < ((bs.length : Nat) : Int))), .slice ao bs.length cap, .slice ao2 N cap2, .int .i64 stop, .int .u64 (m : Nat), .slice ao2 N cap2, .int .i64 (N : Nat), .int .i64 ((N : Int) + 1), .int .u64 ((N : Int) + 1), .int .u64 (s : Nat), .int .i64 (s : Nat), .slice (some ⟨w2.heap.size + 1, 0, none⟩) 0 0, .slice ao bs.length cap, .slice ao5 bs.length cap5, .func (.func 12) #[] #[.pointer (some ⟨c, 0, none⟩)], .func (.func 12) #[] #[.pointer (some ⟨c, 0, none⟩)], undef, undef, undef, undef, undef, undef, undef, undef, undef, undef, undef, undef, undef, undef, undef, undef, undef, undef, .func (.func 12) #[] #[.pointer (some ⟨c, 0, none⟩)], .agg (nums .u8 x.1), undef, undef, undef, undef, undef, undef, undef, undef, undef, undef, undef, undef, undef, undef, undef, undef, undef, undef], defers := [] })
          (fun x a' => Own.from (fun s A B row ⟨g, h1, h2, h3⟩ hg hr => ⟨g, h1, heap_kept h2 hg hr, h3⟩) _) ?assign2 ?body2 ?done2 ?stop2
        case kb2 =>
          intro W l o o' hl h hk _
          exact ⟨World.cell?_of_block (World.putObj_heap_other (fun e => by simp at e; have := hcl2; omega)), fun hh => hh.kept (grownBy_putObj' W l o') (fun r e => by cases e; exact ⟨o, h, hk⟩)⟩
        case fi2 =>
          intro pre A B row hs hg hr
          exact ⟨⟨hs.1.1.own hg (fun r e => (hr r e).2), (hg.block _ (Array.getElem?_eq_some_iff.1 hs.1.2).1 (fun e => by have := (hr _ e.symm).1; omega)).trans hs.1.2⟩, hs.2.grown hg (by have := hs.2.size; omega) (fun k e => by have := (hr k e).1; have := HL2.out.size; omega)⟩
        case fx2 =>
          intro cd pre A B row hs hg hr
          exact hs
        case assign2 =>
          rintro l pre x W K ⟨hM, hB⟩ hK
          have hrt := x.2
          have B1 : Below W.heap.size W (W.alloc (.cells (nums .u8 (zeros 32)) 31)) := (Below.refl _ _).alloc (Nat.le_refl _) _
          have H1 : Has (W.alloc (.cells (nums .u8 (zeros 32)) 31)) W.heap.size 31 .u8 (zeros 32) := heap_alloc_new W _
          have hs32 : (nums .u8 x.1).size = 32 := by rw [nums_size, hrt.len]
          have ksc := run_storeCells_from (P := Tryd.prog) W.heap.size 31 (nums .u8 x.1).toList 0 (nums .u8 (zeros 32)) (W.alloc (.cells (nums .u8 (zeros 32)) 31)) H1 (by rw [Array.length_toList, hs32, nums_size, zeros_length]) (fun v hv => (Array.all_eq_true_iff_forall_mem.1 (nums_one .u8 x.1)) v (by simpa using hv))
          rw [List.take_zero, List.nil_append, Array.toArray_toList] at ksc
          have B2 : Below W.heap.size W ((W.alloc (.cells (nums .u8 (zeros 32)) 31)).setRow W.heap.size (nums .u8 x.1)) := below_only B1 (Only.setRow _ _ _) (Nat.le_refl _)
          have H2 : Has ((W.alloc (.cells (nums .u8 (zeros 32)) 31)).setRow W.heap.size (nums .u8 x.1)) W.heap.size 31 .u8 x.1 := setRow_heap _ _ _ _ _ _ H1
          have hBB := hB.trans (B2.mono hB.size)
          have HH := hid (And.intro hM (And.intro hB hBB))
          have hWs : w.heap.size ≤ W.heap.size := hB.size
          clear hM hB hBB
          gi_wp2
          rename_i K2 hK2
          erw [ksc]
          simp only [Result.andThen_ok, Oper.uponIn_skip]
          refine hK2 _ _ ?_
          gi_wp2
          exact hK _ _ ⟨B2.size, fun k o _ hk ho => (B2.block k (Array.getElem?_eq_some_iff.1 hk).1).trans hk⟩ ⟨B2.cell (p := ⟨c, 0, none⟩) (block_lt_of_cell (HH.out.1.1.q)), fun h => h.keep B2⟩ ⟨⟨HH.out.1.1.keep B2, (B2.block _ (Array.getElem?_eq_some_iff.1 HH.out.1.2).1).trans HH.out.1.2⟩, HH.out.2.2⟩ ⟨W.heap.size, hWs, H2, rfl⟩
        case body2 =>
          rintro l pre x a' W hl ⟨r, hr⟩ ⟨hM, hB⟩ ⟨g, hg, hH, rfl⟩ hlt
          obtain ⟨x, hrt⟩ := x
          dsimp only at hH ⊢
          have HI0 := hid (And.intro hM hB)
          obtain ⟨k, hk⟩ : ∃ k, pre.length = k := ⟨_, rfl⟩
          rw [hk] at hM
          rw [hN] at hlt
          have hkN : k < N := by omega
          have hRA : RootsAt W ao2 (chunks bs) := hM.1.r
          obtain ⟨b2, off2, rfl, _⟩ := hRA.addr (by rw [hN]; omega)
          obtain ⟨q, hq⟩ : ∃ q, (chunks bs).getD k [] = q := ⟨_, rfl⟩
          have hqr : Rt q := by rw [← hq]; exact hRA.rts.rt k (by rw [hN]; exact hkN)
          have xc : W.cell? ⟨w.heap.size, 0, none⟩ = some (.int .i64 (s : Nat)) := hM.1.x.cell
          have yc : W.cell? ⟨w.heap.size + 1, 0, none⟩ = some (.bool false) := hM.1.y.cell
          have yf : W.frozen? ⟨w.heap.size + 1, 0, none⟩ = false := hM.1.y.frozen
          have zc : W.cell? ⟨w2.heap.size, 0, none⟩ = some (.slice (some ⟨b2, off2, none⟩) N cap2) := hM.1.z.cell
          have nc : W.cell? ⟨w6.heap.size, 0, none⟩ = some (.int .i64 (k : Nat)) := hM.1.n.cell
          have nf : W.frozen? ⟨w6.heap.size, 0, none⟩ = false := hM.1.n.frozen
          have hkd : decide ((N : Int) ≤ (k : Int)) = false := decide_eq_false (by omega)
          have hkl : (k : Int) < (N : Int) := by omega
          have HQ1 := hid hq
          have HRA := hid hRA
          have HH := hid hH
          have HI := hid (And.intro hM hB)
          have HRT := hid (And.intro hrt hqr)
          have HK := hid hk
          clear hq hRA hH hM hB hqr hk hr
          by_cases hxq : x = q
          · have hdx : (!decide (x = q)) = false := by rw [decide_eq_true hxq]; rfl
            clear hxq
            gi_wp2
            refine wpIn_region_quiet_round rfl (by kernel_rfl) (by kernel_rfl) (by kernel_rfl) ?_
            gi_big_quiet_step (fail)
            gi_big_quiet_step (fail)
            gi_big_quiet_step (fail)
            gi_big_quiet_want
            refine quietIn_run (.bool false) (fun wq hwq => by unfold execOp; simp [go_sem]; omega) ?_
            simp only [Act.put, List.setIfInBounds_toArray, List.set_cons_succ, List.set_cons_zero]
            go_big_quiet_on
            gi_big_quiet_step (fail)
            gi_big_quiet_want
            refine quietIn_run (.agg (nums .u8 x)) (fun wq hwq => by obtain ⟨nq, rfl⟩ := hwq; exact run_load_has 31 (.tmp 9) rfl g .u8 x rfl 31 (HH.out.drewN nq) _ _ Tryd.und31 (by rw [HRT.out.1.len]; exact Tryd.size31)) ?_
            simp only [Act.put, List.setIfInBounds_toArray, List.set_cons_succ, List.set_cons_zero]
            go_big_quiet_on
            gi_big_quiet_step (fail)
            gi_big_quiet_step (fail)
            gi_big_quiet_want
            refine quietIn_run (.pointer (some ⟨b2, off2 + k * 32, none⟩)) (fun wq hwq => by unfold execOp; simp [go_sem]; try omega) ?_
            simp only [Act.put, List.setIfInBounds_toArray, List.set_cons_succ, List.set_cons_zero]
            go_big_quiet_on
            gi_big_quiet_want
            refine quietIn_run (.agg (nums .u8 q)) (fun wq hwq => by obtain ⟨nq, rfl⟩ := hwq; exact run_load_mid (.tmp 58) rfl b2 off2 k (chunks bs) q HQ1.out rfl _ ⟨HRA.out.rts, HRA.out.reads⟩ (by rw [hN]; exact hkN)) ?_
            simp only [Act.put, List.setIfInBounds_toArray, List.set_cons_succ, List.set_cons_zero]
            go_big_quiet_on
            gi_big_quiet_want
            refine quietIn_run (.bool false) (fun wq hwq => (run_neq_roots (.tmp 55) (.tmp 59) rfl x q HRT.out.1 HRT.out.2 rfl rfl wq).trans (by rw [hdx])) ?_
            simp only [Act.put, List.setIfInBounds_toArray, List.set_cons_succ, List.set_cons_zero]
            go_big_quiet_on
            gi_big_quiet_step (fail)
            refine wpQuietIn_nil ?_
            rintro w' ⟨nq, rfl⟩
            have hq2 := (HI.out.1.1.drew nq).setN hd1 hd2 hd3 (k + 1)
            have hb2 := (below_drewN HI.out.2 nq).setCell (p := ⟨w6.heap.size, 0, none⟩) (by show w.heap.size ≤ w6.heap.size; omega) (.int .i64 ((k + 1 : Nat) : Int))
            have HG := hid (And.intro hq2 hb2)
            clear hq2 hb2
            have hD1 := (heap_setCell_other (W.drewN nq) ⟨w6.heap.size, 0, none⟩ D1 (.int .i64 ((k + 1 : Nat) : Int)) (by show ¬ D1 = w6.heap.size; omega)).trans HI.out.1.2
            have HD1 := hid hD1
            clear hD1
            gi_wp2
            exact ⟨keeps_set _ (HI.out.1.1.n), ⟨(HG.out.1.q).trans (HI.out.1.1.q).symm, fun _ => HG.out.1.d⟩, ⟨⟨by rw [(show (pre ++ [(⟨x, hrt⟩ : RtV)]).length = k + 1 by rw [List.length_append, HK.out]; rfl)]; exact HG.out.1, HD1.out⟩, HG.out.2⟩⟩
          · have hdx : (!decide (x = q)) = true := by rw [decide_eq_false hxq]; rfl
            gi_wp2
            refine wpIn_region_quiet_round rfl (by kernel_rfl) (by kernel_rfl) (by kernel_rfl) ?_
            gi_big_quiet_step (fail)
            gi_big_quiet_step (fail)
            gi_big_quiet_step (fail)
            gi_big_quiet_want
            refine quietIn_run (.bool false) (fun wq hwq => by unfold execOp; simp [go_sem]; omega) ?_
            simp only [Act.put, List.setIfInBounds_toArray, List.set_cons_succ, List.set_cons_zero]
            go_big_quiet_on
            gi_big_quiet_step (fail)
            gi_big_quiet_want
            refine quietIn_run (.agg (nums .u8 x)) (fun wq hwq => by obtain ⟨nq, rfl⟩ := hwq; exact run_load_has 31 (.tmp 9) rfl g .u8 x rfl 31 (HH.out.drewN nq) _ _ Tryd.und31 (by rw [HRT.out.1.len]; exact Tryd.size31)) ?_
            simp only [Act.put, List.setIfInBounds_toArray, List.set_cons_succ, List.set_cons_zero]
            go_big_quiet_on
            gi_big_quiet_step (fail)
            gi_big_quiet_step (fail)
            gi_big_quiet_want
            refine quietIn_run (.pointer (some ⟨b2, off2 + k * 32, none⟩)) (fun wq hwq => by unfold execOp; simp [go_sem]; try omega) ?_
            simp only [Act.put, List.setIfInBounds_toArray, List.set_cons_succ, List.set_cons_zero]
            go_big_quiet_on
            gi_big_quiet_want
            refine quietIn_run (.agg (nums .u8 q)) (fun wq hwq => by obtain ⟨nq, rfl⟩ := hwq; exact run_load_mid (.tmp 58) rfl b2 off2 k (chunks bs) q HQ1.out rfl _ ⟨HRA.out.rts, HRA.out.reads⟩ (by rw [hN]; exact hkN)) ?_
            simp only [Act.put, List.setIfInBounds_toArray, List.set_cons_succ, List.set_cons_zero]
            go_big_quiet_on
            gi_big_quiet_want
            refine quietIn_run (.bool true) (fun wq hwq => (run_neq_roots (.tmp 55) (.tmp 59) rfl x q HRT.out.1 HRT.out.2 rfl rfl wq).trans (by rw [hdx])) ?_
            simp only [Act.put, List.setIfInBounds_toArray, List.set_cons_succ, List.set_cons_zero]
            go_big_quiet_on
            gi_big_quiet_step (fail)
            refine wpQuietIn_nil ?_
            rintro w' ⟨nq, rfl⟩
            gi_wp2
            exact ⟨keeps_set _ (HI.out.1.1.y), (prefix_ne HK.out (by rw [hN]; exact hkN) (by rw [HQ1.out]; exact hxq))⟩
        case done2 =>
          rintro D2 ys W hD hS ⟨⟨hM, hK1⟩, hB⟩ hK
          have hyl : ys.length = N := by have := congrArg List.length hS; rwa [List.length_map, hN] at this
          rw [hyl] at hM
          have yc : W.cell? ⟨w.heap.size + 1, 0, none⟩ = some (.bool false) := hM.y.cell
          have yf : W.frozen? ⟨w.heap.size + 1, 0, none⟩ = false := hM.y.frozen
          have zc : W.cell? ⟨w2.heap.size, 0, none⟩ = some (.slice ao2 N cap2) := hM.z.cell
          have nc : W.cell? ⟨w6.heap.size, 0, none⟩ = some (.int .i64 (N : Nat)) := hM.n.cell
          have hx1 : w.heap.size + 1 < D1 := by have := S7.out; omega
          have hx2 : D1 < D2 := by omega
          have k2 := (heap_setCell_other W ⟨w.heap.size + 1, 0, none⟩ D2 (.bool true) (by show ¬ D2 = w.heap.size + 1; omega)).trans hK
          have k1 := (heap_setCell_other W ⟨w.heap.size + 1, 0, none⟩ D1 (.bool true) (by show ¬ D1 = w.heap.size + 1; omega)).trans hK1
          have k1' := (World.putObj_heap_other (w := W.setCell ⟨w.heap.size + 1, 0, none⟩ (.bool true)) (o := .deferred none) (show D1 ≠ D2 by omega)).trans k1
          have bx := hM.y.set (.bool true)
          have bx2 := heap_kept bx (grownBy_putObj' _ D2 (.deferred none)) (fun r e => by cases e; exact ⟨_, k2, rfl⟩)
          have bx3 := heap_kept bx2 (grownBy_putObj' _ D1 (.deferred none)) (fun r e => by cases e; exact ⟨_, k1', rfl⟩)
          have bb1 := hB.setCell (p := ⟨w.heap.size + 1, 0, none⟩) (by show w.heap.size ≤ w.heap.size + 1; omega) (.bool true)
          have bb2 := bb1.trans (belowK_b (w := w) (Nat.le_refl _) _ D2 _ (.deferred none) (by omega) k2 rfl rfl)
          have bb3 := bb2.trans (belowK_b (w := w) (Nat.le_refl _) _ D1 _ (.deferred none) (by omega) k1' rfl rfl)
          have HE := hid (And.intro k2 (And.intro k1' (And.intro bx3 bb3)))
          clear hM hB hK1 hK hS hyl k1 k2 k1' bx bx2 bx3 bb1 bb2 bb3 hx1 hx2
          gi_wp2
          refine ⟨by simp, .inl ⟨_, _, rfl, run_takeDeferred HE.out.1, ?_⟩⟩
          refine ⟨by simp, .inl ⟨_, _, rfl, run_takeDeferred HE.out.2.1, ?_⟩⟩
          exact ⟨_, results_box rfl _ _ (w.heap.size + 1) 4 true rfl HE.out.2.2.1, rfl, HE.out.2.2.2⟩
        case stop2 =>
          rintro D2 cd pre W hD hSp hne hK
          exact absurd hSp hne
      · exact absurd hSp hne
end Go.Proofs.YthmcgebnfdgniaaDoor
