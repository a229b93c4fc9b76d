/- Checkpoints put: what codec.Checkpoint answers. -/
import Derived.Test.YtpaamhmighgjeaaGreatRootsW
import Derived.Test.YtpaamhmighgjeaaGreatWriterB
import Derived.Test.YtpaamhmighgjeaaGreatNew4
namespace Go.Proofs.YtpaamhmighgjeaaGreat
open Go.RowKit Go.Shelf
set_option linter.unusedVariables false
set_option maxRecDepth 100000

/-- A slice of numbers, made. -/
theorem wpList_nums {P : Program} {w : World} {ops : Array Oper} {rest : List Oper} {o : Oper} {a : Act} {Q : Exit → Act → World → Prop} (hgd : o.guard = none) (t e : TypeId) (n : Nat) (ps : Array (Nat × Operand)) (ho : o.op = .buildSlice t n ps) (hu : P.underlying t = some (.slice e))
    (hsz : (P.info? e).map (·.size) = some 1) (hz : ((P.info? e).bind (·.zero)).isSome = true) (ns : List Nat) (xs : List Operand) (hps : ps.toList = (xs.zipIdx 0).map fun p => (p.2, p.1)) (hx0 : xs.map a.eval = ns.map fun m : Nat => Value.int .u64 (m : Int)) (hn : ns.length = n) (hn0 : 0 < n) (hn1 : n ≤ 1000)
    (h : ∀ w', Has w' w.heap.size e .u64 ns → Below w.heap.size w w' → w'.heap.size = w.heap.size + 1 → wpList P ops Q rest (a.put o.dst (.slice (some ⟨w.heap.size, 0, none⟩) n n)) w') : wpList P ops Q (o :: rest) a w := by
  have hx : (ps.map fun (i, x) => (i, a.eval x)).toList = ((ns.map fun m : Nat => Value.int .u64 (m : Int)).zipIdx 0).map fun p => (p.2, p.1) := by
    rw [← hx0, List.zipIdx_map, List.map_map, Array.toList_map, hps, List.map_map]
    rfl
  cases hie : P.info? e with
  | none => simp [hie] at hsz
  | some ie =>
    simp only [hie, Option.map_some, Option.some.injEq, Option.bind_some] at hsz hz
    obtain ⟨z, hzz⟩ := Option.isSome_iff_exists.1 hz
    refine wpList_buildSlice hgd t e n ps ho (nums .u64 ns) ie z hu hie hzz (by rw [hsz]; omega) (by rw [hsz]; omega) ?_ (h _ (heap_alloc_new w _) ((Below.refl _ _).alloc (Nat.le_refl _) _) (by simp))
    rw [hx, hsz]
    exact Great.fill_flat _ _ (fun v hv => by obtain ⟨n, _, rfl⟩ := List.mem_map.1 hv; rfl) (by simp [hn])
theorem Tryz.und23 : (Tryz.prog.info? 23).map (·.size) = some 1 := by kernel_rfl
theorem Tryz.zer23 : ((Tryz.prog.info? 23).bind (·.zero)).isSome = true := by kernel_rfl

/-- A Checkpoint's cells. -/
def cpC (e : Nat) (r : List Nat) : List Value := .int .u64 (e : Nat) :: cellsB r
def cpF (e : Nat) (r : List Nat) : List (List Nat × Bool) := [(le e 8, false), (r, false)]
theorem cpC_length (e : Nat) {r : List Nat} (hr : r.length = 32) : (cpC e r).length = 33 := by simp [cpC, cellsB_length, hr]
theorem cpC_one (e : Nat) (r : List Nat) : (cpC e r).toArray.all (·.oneCell') = true := by
  simp only [List.all_toArray, List.all_eq_true]
  intro v hv
  rcases List.mem_cons.1 hv with rfl | hv
  · rfl
  · exact cellsB_one r v hv
theorem Tryz.ty27 : Ty Tryz.prog 27 (cpC 0 (zeros 32)) := ⟨by kernel_rfl, _, Tryz.underlying27, rfl⟩

set_option maxHeartbeats 1000000 in
theorem putCp_any (g : Nat) (S : Nat → Prop) (fs : List (List Nat × Bool)) (e : Nat) (r : List Nat) (w : World) (hW : Wr w g S fs) (hn : fs.length + 2 < 2147483647) (he : e < 18446744073709551616) (hr : r.length = 32) (h8 : ∀ z ∈ r, z < 256) :
    Calls Tryz.prog 60 #[.pointer (some ⟨g, 0, none⟩), .agg (cpC e r).toArray] w fun x w' => (∃ u, x = .returned u) ∧ Wr w' g (more S w w') (fs ++ cpF e r) ∧ w.grownBy w' (some g) := by
  have hg := hW.gt
  have hS := hW.out
  have hl := hW.lt
  have hW0 : Wr w g (more S w w) fs := hW.grow (fun k a => .inl a) (fun a => by rcases a with a | a; exact hS a; omega) (fun k a => by rcases a with a | a; exact hl k a; omega)
  have HW := hid hW0
  have HR := hid hr
  have H8 := hid h8
  clear hW hW0 hr h8
  go_enter Tryz.func60, Tryz.ntmps60
  go_wp2_with (first
    | (refine wpList_box_c rfl 3 rfl (.tmp 1) rfl (cpC e r) rfl ?_; intro w1 H1 B1 S1; have hc0 := H1.cell (j := 0) (v := .int .u64 (e : Nat)) rfl))
  have B2 : Below w1.heap.size w1 (w1.alloc (.cells #[.int .u64 (e : Nat)] 23)) := (Below.refl _ w1).alloc (Nat.le_refl _) _
  have H2 := heap_alloc_new w1 (.cells #[.int .u64 (e : Nat)] 23)
  have S2 := World.size_alloc w1 (.cells #[.int .u64 (e : Nat)] 23)
  rw [S1] at H2
  generalize w1.alloc (.cells #[.int .u64 (e : Nat)] 23) = w2 at B2 H2 S2 ⊢
  have W2 := hid ((HW.out.start B1 hg hS hl (Nat.le_refl _)).start (B2.mono (Nat.le_refl _)) hg hS hl (by omega))
  have B12 : Below w.heap.size w w2 := B1.trans (B2.mono (by omega))
  have HC := hid (num_wr g (more S w w2) fs [e] (w.heap.size + 1) 0 1 w2 W2.out (by omega) (by simp; omega) (by simpa using he) (fun i hi => by
    have : i = 0 := by simpa using hi
    subst this
    exact cell_of_row w2 _ 0 _ _ (0, 0) H2) (by simp))
  have HB := hid B12
  have HX := hid (H1.keep B2)
  have s2 : w2.heap.size = w.heap.size + 2 := by omega
  clear B1 B2 H2 S1 S2 H1 hc0 B12
  refine HC.out.mono ?_
  rintro x w3 ⟨⟨u3, rfl⟩, q1, q2⟩
  have s3 := q2.size
  have W3 := hid (Wr.next hg hS hl (by omega) s3 q1)
  have G3 := hid (grown_trans (grown_below (grown_refl w g) HB.out) q2)
  have X3 := hid (HX.out.grown q2 (by omega))
  clear q1 q2 HC W2 HX
  go_wp2_with (first
    | (refine wpList_load_mid rfl 25 (.tmp 10) rfl w.heap.size 1 (by exact rfl) (cellsB r) _ (X3.out.range 1 (cellsB r) (fun j v hv => by rw [Nat.add_comm]; exact hv)) Tryz.und25 rfl (by rw [cellsB_length, HR.out]; exact Tryz.size25) ?_)
    | (refine wpList_roots rfl 121 25 1 _ rfl Tryz.underlying121 Tryz.rootInfo [r] [.tmp 11] rfl rfl (by simpa using HR.out) rfl (by omega) (by omega) ?_; intro w4 H4 B4 S4))
  have W4 := hid (W3.out.start B4 hg hS hl (by omega))
  have HC := hid (roots_wr g (more S w w4) (fs ++ numF [e]) [r] w3.heap.size 0 1 w4 W4.out (by omega) (by simp [numF]; omega) (by simpa using HR.out) (by simpa using H8.out) (H4.rsAt (by simpa using HR.out)) (by simp))
  have G4 := hid (grown_below G3.out B4)
  clear H4 B4
  refine HC.out.mono ?_
  rintro x w5 ⟨⟨u5, rfl⟩, q1, q2⟩
  have s5 := q2.size
  have W5 := hid (Wr.next hg hS hl (by omega) s5 q1)
  have G5 := hid (grown_trans G4.out q2)
  clear q1 q2 HC W4
  go_wp2
  go_end0
  refine ⟨⟨_, rfl⟩, ?_, G5.out⟩
  have := W5.out
  rw [List.append_assoc] at this
  exact this

set_option maxHeartbeats 1000000 in
theorem encodeCp_any (e : Nat) (r : List Nat) (w : World) (he : e < 18446744073709551616) (hr : r.length = 32) (h8 : ∀ z ∈ r, z < 256) :
    Calls Tryz.prog 61 #[.agg (cpC e r).toArray, .func (.func 60) #[] #[]] w fun x w' => ∃ v, x = .returned v ∧ Row w' w.heap.size v (cont (cpF e r)) ∧ Below w.heap.size w w' := by
  have HR := hid hr
  have H8 := hid h8
  clear hr h8
  go_enter Tryz.func61, Tryz.ntmps61
  go_wp2_with (first
    | (refine wpList_box_c rfl 2 rfl (.tmp 0) rfl (cpC e r) rfl ?_; intro w1 H1 B1 S1)
    | (refine wpList_load_c Tryz.ty27 rfl (.tmp 2) rfl w.heap.size (cpC e r) rfl (by rw [cpC_length e HR.out]; rfl) (H1.keep ((Below.refl _ w1).alloc (Nat.le_refl _) _)) ?_))
  have W1 := wr_new w1
  have B2 : Below w1.heap.size w1 (w1.alloc (.cells #[.int .i64 0, .pointer none] 84)) := (Below.refl _ w1).alloc (Nat.le_refl _) _
  have S2 := World.size_alloc w1 (.cells #[.int .i64 0, .pointer none] 84)
  rw [S1] at W1
  generalize w1.alloc (.cells #[.int .i64 0, .pointer none] 84) = w2 at W1 B2 S2 ⊢
  have B12 := hid (B1.trans (B2.mono (by omega)))
  have HC := hid (putCp_any (w.heap.size + 1) _ [] e r w2 W1 (by simp) he HR.out H8.out)
  have s2 : w2.heap.size = w.heap.size + 2 := by omega
  clear B1 B2 S1 S2 H1 W1
  refine HC.out.mono ?_
  rintro x w3 ⟨⟨u3, rfl⟩, q1, q2⟩
  have s3 := q2.size
  have HB := hid (bytes_any (w.heap.size + 1) _ _ w3 q1 (by simp [cpF]) (by simp [cpF, lenF, le_length, HR.out]))
  have B3 : Below w.heap.size w w3 := ⟨q2.os.trans B12.out.os, q2.tape.trans B12.out.tape, q2.output.trans B12.out.output, by omega, fun j hj => (q2.block j (by omega) (fun h => by have := Option.some.inj h; omega)).trans (B12.out.block j hj)⟩
  have HB3 := hid B3
  clear q1 q2 HC B3
  go_wp2_with fail
  refine HB.out.mono ?_
  rintro x w4 ⟨v, rfl, q1, q2⟩
  have X := hid (And.intro q1 q2)
  clear q1 q2
  go_wp2
  go_ret
  exact ⟨v, rfl, X.out.1.base (by omega), HB3.out.trans (X.out.2.mono (by omega))⟩

set_option maxHeartbeats 1000000 in
theorem checkpoint_any (e : Nat) (r : List Nat) (w : World) (he : e < 18446744073709551616) (hr : r.length = 32) (h8 : ∀ z ∈ r, z < 256) :
    Calls Tryz.prog 20 #[.agg (cpC e r).toArray] w fun x w' => ∃ v, x = .returned v ∧ Row w' w.heap.size v (cont (cpF e r)) ∧ Below w.heap.size w w' := by
  have HR := hid hr
  have H8 := hid h8
  clear hr h8
  go_enter Tryz.func20, Tryz.ntmps20
  go_wp2_with (first
    | (refine wpList_box_c rfl 1 rfl (.tmp 0) rfl (cpC e r) rfl ?_; intro w1 H1 B1 S1)
    | (refine wpList_load_c Tryz.ty27 rfl (.tmp 1) rfl w.heap.size (cpC e r) rfl (by rw [cpC_length e HR.out]; rfl) H1 ?_))
  have HC := hid (encodeCp_any e r w1 he HR.out H8.out)
  have HB := hid B1
  have s1 := S1
  clear H1 B1 S1
  refine HC.out.mono ?_
  rintro x w4 ⟨v, rfl, q1, q2⟩
  have X := hid (And.intro q1 q2)
  clear q1 q2
  go_wp2
  go_ret
  exact ⟨v, rfl, X.out.1.base (by omega), HB.out.trans (X.out.2.mono (by omega))⟩
end Go.Proofs.YtpaamhmighgjeaaGreat
