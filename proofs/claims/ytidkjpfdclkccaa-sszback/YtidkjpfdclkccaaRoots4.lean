/- Roots by value: the statement's root, the Writer's Root of one root. -/
import Derived.Test.YtidkjpfdclkccaaFields
import Derived.Great.BuildSlice
namespace Go.Proofs.Ytidkjpfdclkccaa
open Go.RowKit Go.Shelf
set_option linter.unusedVariables false
set_option maxRecDepth 100000

theorem Try.zero40 : (Try.prog.info? 40).map (fun i => (i.zero, i.size)) = some (some (.agg (nums .u8 (zeros 32))), 32) := by kernel_rfl
theorem Try.size40 : (Try.prog.info? 40).map (·.size) = some 32 := by kernel_rfl
theorem Try.und40 : Try.prog.underlying 40 = some (.array 32 5) := by kernel_rfl
theorem Try.rootInfo : (Try.prog.info? 40).map (fun i => (i.zero, i.size, i.bytes)) = some (some (.agg (nums .u8 (zeros 32))), 32, 32) := by kernel_rfl
theorem setV_nums (k : IntKind) (l r : List Nat) (o : Nat) (h : o + r.length ≤ l.length) : setV (nums k l) o (nums k r).toList = nums k (over l o r) := by
  have hn : (nums k r).toList.length = r.length := by rw [Array.length_toList, nums_size]
  apply Array.ext_getElem?
  intro i
  rw [setV_get _ _ _ (by rw [hn, nums_size]; exact h), hn]
  unfold nums over
  simp only [List.getElem?_toArray, List.getElem?_map]
  have ht : (l.take o).length = o := by rw [List.length_take]; omega
  by_cases h1 : i < o
  · rw [if_neg (by omega), List.getElem?_append_left (by omega), List.getElem?_take, if_pos h1]
  · rw [List.getElem?_append_right (by omega), ht]
    by_cases h2 : i < o + r.length
    · rw [if_pos (by omega), List.getElem?_append_left (by omega)]
    · rw [if_neg (by omega), List.getElem?_append_right (by omega), List.getElem?_drop, show o + r.length + (i - o - r.length) = i by omega]
theorem fold_setV (vs : List Value) : ∀ (k : Nat) (c : Array Value), (vs.zipIdx k).foldl (fun (cs : Array Value) (x : Value × Nat) => cs.setIfInBounds (0 + x.2) x.1) c = setV c k vs := by
  induction vs with
  | nil => intro k c; rfl
  | cons v vs ih =>
    intro k c
    rw [List.zipIdx_cons, List.foldl_cons, ih, setV, Nat.zero_add]
theorem own_keep {w w' : World} {base n s : Nat} {e : TypeId} {v : Value} {xs : List Value} (h : w.ownsRow base e s v n xs) (hb : Below w.heap.size w w') : w'.ownsRow base e s v n xs := by
  obtain ⟨h1, h2 | ⟨g, cap, cur, hv, hbg, hg, h3⟩⟩ := h
  · exact ⟨h1, .inl h2⟩
  · exact ⟨h1, .inr ⟨g, cap, cur, hv, hbg, by rw [hb.block g (Array.getElem?_eq_some_iff.1 hg).1]; exact hg, h3⟩⟩
theorem own_lt {w : World} {base n s : Nat} {e : TypeId} {v : Value} {xs : List Value} (h : w.ownsRow base e s v n xs) : ∀ g, v.ownBlock = some g → base ≤ g ∧ g < w.heap.size := fun g hg => h.lt g hg
theorem own_only {w w' : World} {base n s k : Nat} {e : TypeId} {v : Value} {xs : List Value} (h : w.ownsRow base e s v n xs) (ho : Only k w w') (hk : w.heap.size ≤ k + 1 → v.ownBlock ≠ some k) (hk2 : v.ownBlock ≠ some k) : w'.ownsRow base e s v n xs := by
  obtain ⟨h1, h2 | ⟨g, cap, cur, rfl, hbg, hg, h3⟩⟩ := h
  · exact ⟨h1, .inl h2⟩
  · exact ⟨h1, .inr ⟨g, cap, cur, rfl, hbg, by rw [ho.block g (fun e => hk2 (by simp [Value.ownBlock, e]))]; exact hg, h3⟩⟩

theorem madeZ (n : Nat) : (madeCells (Value.agg (nums .u8 (zeros 32))).cells (n * 32)).toList = (zeros (32 * n)).map fun x : Nat => Value.int .u8 (x : Int) := by
  have e : (Value.agg (nums .u8 (zeros 32))).cells = nums .u8 (zeros 32) := rfl
  rw [e]
  apply List.ext_getElem?
  intro j
  unfold madeCells zeros
  rw [Array.toList_map, Array.toList_range, List.getElem?_map, List.getElem?_map, List.getElem?_replicate]
  by_cases hj : j < 32 * n
  · rw [if_pos hj, List.getElem?_range (by omega)]
    have h32 : j % 32 < 32 := Nat.mod_lt _ (by decide)
    have e2 : nums .u8 (List.replicate 32 0) = Array.replicate 32 (Value.int .u8 0) := rfl
    rw [e2]
    simp [h32]
  · rw [if_neg hj, List.getElem?_eq_none (by simp; omega)]
    rfl
/-- A slice of one root, made. -/
theorem wpList_one_root {P : Program} {w : World} {ops : Array Oper} {rest : List Oper} {o : Oper} {a : Act} {Q : Exit → Act → World → Prop} (hgd : o.guard = none) (t e : TypeId) (x : Operand) (ho : o.op = .buildSlice t 1 #[(0, x)]) (hu : P.underlying t = some (.slice e))
    (hi : (P.info? e).map (fun i => (i.zero, i.size, i.bytes)) = some (some (.agg (nums .u8 (zeros 32))), 32, 32)) (r : List Nat) (hx : a.eval x = .agg (nums .u8 r)) (hr : r.length = 32)
    (h : ∀ w', Has w' w.heap.size e .u8 r → Below w.heap.size w w' → w'.heap.size = w.heap.size + 1 → wpList P ops Q rest (a.put o.dst (.slice (some ⟨w.heap.size, 0, none⟩) 1 1)) w') : wpList P ops Q (o :: rest) a w := by
  obtain ⟨i0, hi0, hz0, hz1, hz2⟩ : ∃ i, P.info? e = some i ∧ i.zero = some (.agg (nums .u8 (zeros 32))) ∧ i.size = 32 ∧ i.bytes = 32 := by
    cases hq : P.info? e with
    | none => simp [hq] at hi
    | some i => simp [hq] at hi; exact ⟨i, rfl, hi.1, hi.2.1, hi.2.2⟩
  refine wpList_buildSlice hgd t e 1 _ ho (nums .u8 r) i0 (.agg (nums .u8 (zeros 32))) hu hi0 hz0 (by rw [hz1]; omega) (by rw [hz1]; omega) ?_ (h _ (heap_alloc_new w _) ((Below.refl _ _).alloc (Nat.le_refl _) _) (by simp))
  rw [hz1]
  have e1 : ((Array.range (1 * 32)).map ((Value.agg (nums .u8 (zeros 32))).cells[· % (Value.agg (nums .u8 (zeros 32))).cells.size]!)) = nums .u8 (zeros 32) := by
    apply Array.toList_inj.1
    have := madeZ 1
    unfold madeCells at this
    rw [this]
    simp [nums]
  rw [e1]
  have e2 : (#[(0, x)] : Array (Nat × Operand)).map (fun (i, x) => (i, a.eval x)) = #[(0, .agg (nums .u8 r))] := by simp [hx]
  rw [e2]
  have hc : (Value.agg (nums .u8 r)).cells = nums .u8 r := rfl
  simp only [Instr.fill, hc, nums_size, hr, zeros_length]
  rw [if_neg (by simp)]
  congr 1
  rw [← Array.foldl_toList, Array.toList_zipIdx]
  have h3 := fold_setV (nums .u8 r).toList 0 (nums .u8 (zeros 32))
  have h4 := setV_nums .u8 (zeros 32) r 0 (by rw [zeros_length, hr]; omega)
  rw [over_all _ _ (by rw [zeros_length, hr])] at h4
  refine Eq.trans ?_ (h3.trans h4)
  simp


/-- The first 32 bytes, filled up with zeros. -/
def rootOf (d : List Nat) : List Nat := over (zeros 32) 0 (d.take 32)
theorem rootOf_length (d : List Nat) : (rootOf d).length = 32 := by
  unfold rootOf
  rw [over_length _ _ _ (by rw [zeros_length]; simp; omega), zeros_length]
theorem rootOf_byte {d : List Nat} (h : ∀ z ∈ d, z < 256) : ∀ z ∈ rootOf d, z < 256 := by
  intro z hz
  unfold rootOf over at hz
  rcases List.mem_append.1 hz with hz | hz
  · simp at hz
  · rcases List.mem_append.1 hz with hz | hz
    · exact h z (List.mem_of_mem_take hz)
    · exact zeros_byte 32 z (List.mem_of_mem_drop hz)

set_option maxHeartbeats 1000000 in
theorem lroot_any (kd : Int) (n : Nat) (u : Value) (d : List Nat) (w : World) (hB : IsB w u d) :
    Calls Try.prog 14 #[.agg #[.int .i64 kd, .int .u64 (n : Nat), u]] w fun e w' => e = .returned (.agg (nums .u8 (rootOf d))) ∧ Below w.heap.size w w' := by
  have hB' := hB
  obtain ⟨⟨ao, cap, rfl, hcap, _, _, hR⟩, h8⟩ := hB
  have BA : Below w.heap.size w (w.alloc (.cells #[.int .i64 kd, .int .u64 (n : Nat), .slice ao d.length cap] 33)) := (Below.refl _ w).alloc (Nat.le_refl _) _
  have hx := heap_alloc_new w (.cells #[.int .i64 kd, .int .u64 (n : Nat), .slice ao d.length cap] 33)
  have HX := hid hx
  have HBA := hid BA
  clear hx BA
  go_enter Try.func14, Try.ntmps14
  go_wp2_with (first
    | (refine wpList_alloc_has rfl 2 rfl 40 rfl .u8 32 Try.zero40 ?_; intro w1 H1 B1 S1)
    | (refine wpList_alloc_has rfl 3 rfl 40 rfl .u8 32 Try.zero40 ?_; intro w2 H2 B2 S2))
  rw [World.size_alloc] at H1 B1 S1
  rw [World.size_alloc]
  have L2 : Below w.heap.size w w2 := HBA.out.trans ((B1.mono (by omega)).trans (B2.mono (by omega)))
  have hx2 : w2.heap[w.heap.size]? = some (.cells #[.int .i64 kd, .int .u64 (n : Nat), .slice ao d.length cap] 33 (0, 0)) := (B2.block _ (by omega)).trans ((B1.block _ (by omega)).trans HX.out)
  have x2 : w2.cell? ⟨w.heap.size, 2, none⟩ = some (.slice ao d.length cap) := cell_of_row w2 _ 2 _ _ (0, 0) hx2
  have HA1 : Has w2 (w.heap.size + 1) 40 .u8 (zeros 32) := H1.keep B2
  have hIs2 := hB'.keep L2
  rw [S1] at H2 S2 ⊢
  have HI := hid hIs2
  have HL := hid L2
  have HH2 := hid H2
  have HH1 := hid HA1
  have hs2 := S2
  clear HX HBA H1 B1 S1 B2 H2 S2 hx2 HA1 L2 hIs2 hB' hR
  simp only [Act.put, List.setIfInBounds_toArray, List.set_cons_succ, List.set_cons_zero]
  refine wp_region_quiet_tail 3 (by kernel_rfl) (by kernel_rfl) ?_
  simp only [List.take_succ_cons, List.take_zero, List.drop_succ_cons, List.drop_zero]
  repeat (go_big_quiet_step (fail))
  refine wpQuiet_nil ?_
  intro _ hw'
  obtain ⟨nq, hw''⟩ := hw'
  subst hw''
  have HCL : Hid ((d.take 32).length = Nat.min d.length 32) := by show (d.take 32).length = min d.length 32; rw [List.length_take, Nat.min_comm]
  have HP : Hid (0 < (d.take 32).length → some (⟨w.heap.size + 1 + 1, 0, none⟩ : Addr) = some ⟨w.heap.size + 1 + 1, 0, none⟩ ∧ ∃ ad, ao = some ad ∧ ∀ j, j < (d.take 32).length → (w2.drewN nq).cell? (ad.add j) = some (.int .u8 ((d.take 32).getD j 0 : Nat))) := by
    intro hpos
    obtain ⟨b, off, rfl, hcc⟩ := HI.out.drop_reads 0 (d.take 32).length (by simp; omega) hpos
    refine ⟨rfl, _, rfl, fun j hj => ?_⟩
    rw [Addr.add_lit]
    have := hcc j hj
    rw [Nat.add_zero, List.drop_zero] at this
    rw [show (d.take 32) = d.take (d.take 32).length by rw [List.length_take, ← List.take_eq_take_min]]
    exact this
  go_wp2_with (first
    | (refine wpList_copy_has rfl (.tmp 4) (.tmp 6) 30 30 rfl 5 Try.underlying30 Try.one5 _ _ _ _ _ _ rfl rfl (w.heap.size + 1 + 1) 0 .u8 (zeros 32) 40 (by exact HH2.out.drewN nq) (d.take 32) HCL.out HP.out (by rw [zeros_length]; simp; omega) ?_; intro w3 H3 O3)
    | (refine wpList_load_has rfl 40 (.tmp 3) rfl (w.heap.size + 1 + 1) .u8 (rootOf d) rfl 40 (by exact H3) _ _ Try.und40 (by rw [rootOf_length]; exact Try.size40) ?_)
    | (refine wpList_store_has rfl 40 (.tmp 2) (.tmp 8) rfl (w.heap.size + 1) .u8 (rootOf d) (zeros 32) rfl rfl 40 (by exact Has.only (HH1.out.drewN nq) O3 (by omega)) (by rw [rootOf_length]; exact Try.size40) (by rw [zeros_length, rootOf_length]) ?_; intro w4 H4 O4))
  refine bodyPost_ret (v := .agg (nums .u8 (rootOf d))) (results_has rfl _ w4 (w.heap.size + 1) 40 .u8 (rootOf d) _ _ rfl H4 Try.und40 (by rw [rootOf_length]; exact Try.size40)) rfl ⟨rfl, ?_⟩
  exact below_only (below_only (below_drew0 HL.out nq) O3 (by omega)) O4 (by omega)

/-- What a slice of bytes reads as. -/
def RowT (w : World) (v : Value) (bs : List Nat) : Prop := ∃ ao cap, v = .slice ao bs.length cap ∧ bs.length ≤ cap ∧ cap ≤ maxLen ∧ (ao = none → cap = 0) ∧ Reads w ao bs
theorem RowT.isB {w : World} {v : Value} {bs : List Nat} (h : RowT w v bs) (h8 : ∀ z ∈ bs, z < 256) : IsB w v bs := ⟨h, h8⟩
theorem Has.row' {w : World} {g base : Nat} {bs : List Nat} {t : TypeId} (h : Has w g t .u8 bs) (hb : base ≤ g) (hm : bs.length ≤ maxLen) : RowT w (.slice (some ⟨g, 0, none⟩) bs.length bs.length) bs :=
  ⟨_, bs.length, rfl, Nat.le_refl _, hm, (fun e => by cases e), .inr ⟨g, 0, rfl, fun i hi => by rw [Nat.zero_add]; exact h.cell i hi⟩⟩

set_option maxHeartbeats 1000000 in
/-- Writer.Root of one root. -/
theorem root_wr (g : Nat) (S : Nat → Prop) (fs : List (List Nat × Bool)) (r : List Nat) (b : Nat) (w : World) (hW : Wr w g S fs) (hbg : b ≠ g) (hn : fs.length + 1 < 2147483647) (hr : r.length = 32) (h8 : ∀ z ∈ r, z < 256) (hb : Has w b 40 .u8 r) :
    Calls Try.prog 15 #[.pointer (some ⟨g, 0, none⟩), .slice (some ⟨b, 0, none⟩) 1 1] w fun e w' => (∃ u, e = .returned u) ∧ Wr w' g (more S w w') (fs ++ [(r, false)]) ∧ w.grownBy w' (some g) := by
  have hg := hW.gt
  have hS := hW.out
  have hl := hW.lt
  have HW := hid hW
  clear hW
  go_enter Try.func15, Try.ntmps15
  go_wp2
  go_loopw [5, 8] (fun _ i wr => (i = .int .i64 0 ∧ wr = w) ∨ (i = .int .i64 1 ∧ Wr wr g (more S w wr) (fs ++ [(r, false)]) ∧ w.grownBy wr (some g))) (fun _ i _ => 1 - (intOf i).toNat)
  case atStart => exact .inl ⟨rfl, rfl⟩
  case round =>
    rcases hrel with ⟨rfl, hwr⟩ | ⟨rfl, r1, r2⟩
    · replace hwr := hwr.symm
      subst hwr
      go_wp2_with (first
        | (refine wpList_load_has rfl 40 (.tmp 10) rfl b .u8 r rfl 40 hb _ _ Try.und40 (by rw [hr]; exact Try.size40) ?_)
        | (refine wpList_alloc_has rfl 5 rfl 40 rfl .u8 32 Try.zero40 ?_; intro w1 H1 B1 S1)
        | (refine wpList_store_has rfl 40 (.tmp 5) (.tmp 11) rfl w.heap.size .u8 r (zeros 32) rfl rfl 40 H1 (by rw [hr]; exact Try.size40) (by rw [zeros_length, hr]) ?_; intro w2 H2 O2))
      have B12 := below_only B1 O2 (Nat.le_refl _)
      have I2 : IsB w2 (.slice (some ⟨w.heap.size, 0, none⟩) 32 32) r := by
        have := (H2.row' (Nat.le_refl _) (by rw [hr]; decide)).isB h8
        rw [hr] at this
        exact this
      have HF := hid (fixed_wr g S fs _ r w2 (HW.out.below B12) I2 (by omega) (by rw [hr]; decide))
      have HB12 := hid B12
      clear H1 B1 S1 H2 O2 I2 B12 hb
      go_wp2_with fail
      refine HF.out.mono ?_
      rintro e w3 ⟨⟨u3, rfl⟩, r1, r2⟩
      have s2 := HB12.out.size
      have s3 := r2.size
      have G3 : w.grownBy w3 (some g) := ⟨r2.os.trans HB12.out.os, r2.tape.trans HB12.out.tape, r2.output.trans HB12.out.output, by omega, fun j hj hne => (r2.block j (by omega) hne).trans (HB12.out.block j hj)⟩
      have W3 : Wr w3 g (more S w w3) (fs ++ [(r, false)]) := r1.grow (fun k hk => by
        rcases hk with hk | hk
        · exact .inl hk
        · exact .inr ⟨by omega, hk.2⟩) (fun hk => by
        rcases hk with hk | hk
        · exact hS hk
        · omega) (fun k hk => by
        rcases hk with hk | hk
        · have := hl k hk; omega
        · exact hk.2)
      have X := hid (And.intro W3 G3)
      clear r1 r2 W3 G3 HF
      go_wp2
      go_roundw
      case rel => exact .inr ⟨rfl, X.out.1, X.out.2⟩
      case measure => simp [intOf]
    · have X := hid (And.intro r1 r2)
      clear r1 r2
      go_wp2
      go_end0
      exact ⟨⟨_, rfl⟩, X.out.1, X.out.2⟩
end Go.Proofs.Ytidkjpfdclkccaa
