/- slices.Grow and slices.Concat of bytes; append onto a slice that is full; slices built of a few values. -/
import Derived.Test.YtibblghdemmkjaaDoorRootsL
import Derived.Lib.AppendZerosOnto
import Derived.Lib.Walk
namespace Go.Proofs.YtibblghdemmkjaaDoor
open Go.RowKit
set_option linter.unusedVariables false
set_option maxRecDepth 100000

/-- append onto a slice without room: a new row. -/
theorem run_append_full (w : World) (base : Nat) (ty : TypeId) (ad : Addr) (xs : List Nat) (hc : ∀ j, j < xs.length → w.cell? (ad.add j) = some (.int .u8 (xs.getD j 0 : Nat))) (x : Value) (ys : List Nat) (tx : TypeId)
    (hs : Src Tryd.prog 1 tx x ys.length (cellsB ys) w) (hy : 0 < ys.length) (hb : xs.length + ys.length ≤ 140737488355328) (hbase : base ≤ w.heap.size) :
    ∃ v' w', (Builtin.append_ #[58, tx] ty #[.slice (some ad) xs.length xs.length, x]).run Tryd.prog w = .ok v' w' ∧ Row w' base v' (xs ++ ys) ∧ Below w.heap.size w w' := by
  obtain ⟨i0, hi, hz0, hz1, hz2⟩ := info_parts Tryd.info5
  have hl : (cellsB xs ++ cellsB ys).length = xs.length + ys.length := by simp [cellsB]
  have hold : (Builtin.firstCells i0.size xs.length (.slice (some ad) xs.length xs.length)).run Tryd.prog w.drew = .ok (cellsB xs).toArray w.drew := by
    refine run_firstCells_some w.drew _ _ _ _ _ (cellsB xs) (by rw [hz1, cellsB_length, Nat.mul_one]) ?_
    intro j u hj
    obtain ⟨hjl, rfl⟩ := cellsB_get xs j u hj
    exact hc j hjl
  have hr := run_append_grow_src (P := Tryd.prog) w 58 tx ty 5 i0 (.int .u8 0) Tryd.underlying58 hi hz0 (some ad) xs.length xs.length (cellsB xs) hold x ys.length (cellsB ys) (by rw [hz1]; exact hs) (by omega) (by omega) (growslice_fits (by omega) (by rw [hz2]; omega))
  refine ⟨_, _, hr, ?_, (below_drewN (Below.refl _ w) 1).alloc (Nat.le_refl _) _⟩
  have hge := grownCap_ge w (xs.length + ys.length) xs.length 5
  have hcm : grownCap w (xs.length + ys.length) xs.length 5 ≤ maxLen := grownCap_le_maxLen w _ _ _ (by unfold maxLen; omega)
  unfold Row
  rw [List.length_append, cellsB_append]
  refine ⟨by rw [hl, Nat.mul_one], .inr ⟨w.heap.size, _, _, rfl, hbase, heap_alloc_new w.drew _, hge, hcm, ?_, ?_⟩⟩
  · simp only [Array.size_append, List.size_toArray, size_zeroCells, hl, Nat.mul_one]
    simp [Value.cells]
    omega
  · simp only [Array.toList_append]
    rw [Nat.mul_one, ← hl]
    exact List.take_left

section
variable {w : World} {ops : Array Oper} {rest : List Oper} {o : Oper} {a : Act} {Q : Exit → Act → World → Prop}
theorem wpList_append_full (hgd : o.guard = none) (s x : Operand) (tx : TypeId) (ho : o.op = .call { callee := .builtin .append, args := #[s, x], argTypes := #[58, tx] })
    (base : Nat) (ad : Addr) (xs : List Nat) (n : Nat) (hn : xs.length = n) (hv : a.eval s = .slice (some ad) n n) (hc : ∀ j, j < xs.length → w.cell? (ad.add j) = some (.int .u8 (xs.getD j 0 : Nat))) (u : Value) (ys : List Nat) (hx : a.eval x = u) (hs : Src Tryd.prog 1 tx u ys.length (cellsB ys) w) (hy : 0 < ys.length) (hb : xs.length + ys.length ≤ 140737488355328) (hbase : base ≤ w.heap.size)
    (h : ∀ v' w', Row w' base v' (xs ++ ys) → Below w.heap.size w w' → wpList Tryd.prog ops Q rest (a.put o.dst v') w') : wpList Tryd.prog ops Q (o :: rest) a w := by
  subst hn
  refine wpList_plain hgd fun K hK => ?_
  obtain ⟨v', w', hr, h2, h3⟩ := run_append_full w base o.type ad xs hc u ys tx hs hy hb hbase
  unfold Oper.wp execOp
  simp only [ho, resolve, invoke, builtin, Sem.run_bind, Sem.run_pure, Result.andThen_ok, List.map_toArray, List.map_cons, List.map_nil, hv, hx, hr]
  exact hK _ _ (h v' w' h2 h3)
theorem flow_append_full {I : Value → World → Prop} (s x : Operand) (tx : TypeId) (ho : o.op = .call { callee := .builtin .append, args := #[s, x], argTypes := #[58, tx] })
    (ad : Addr) (xs : List Nat) (n : Nat) (hn : xs.length = n) (hv : a.eval s = .slice (some ad) n n) (hc : ∀ j, j < xs.length → w.cell? (ad.add j) = some (.int .u8 (xs.getD j 0 : Nat))) (u : Value) (ys : List Nat) (hx : a.eval x = u) (hs : Src Tryd.prog 1 tx u ys.length (cellsB ys) w) (hy : 0 < ys.length) (hb : xs.length + ys.length ≤ 140737488355328)
    (h : ∀ v' w', Row w' w.heap.size v' (xs ++ ys) → Below w.heap.size w w' → I v' w') : o.wp Tryd.prog a w (fun a' w' => ∃ v, a' = a.put o.dst v ∧ I v w' ∧ Below w.heap.size w w') Q := by
  subst hn
  obtain ⟨v', w', hr, h2, h3⟩ := run_append_full w w.heap.size o.type ad xs hc u ys tx hs hy hb (Nat.le_refl _)
  unfold Oper.wp execOp
  simp only [ho, resolve, invoke, builtin, Sem.run_bind, Sem.run_pure, Result.andThen_ok, List.map_toArray, List.map_cons, List.map_nil, hv, hx, hr]
  exact ⟨_, rfl, h v' w' h2 h3, h3⟩
end

set_option maxHeartbeats 600000 in
theorem grow_nil (n : Nat) (h0 : 0 < n) (hn : n ≤ 1099511627776) (w : World) :
    Calls Tryd.prog 32 #[.slice none 0 0, .int .i64 n] w fun e w' => ∃ v, e = .returned v ∧ Row w' w.heap.size v [] ∧ Below w.heap.size w w' := by
  obtain ⟨i0, hi, hz0, hz1, hz2⟩ := info_parts Tryd.info5
  have hrz : ∀ ty, (Builtin.append_ #[58, 3] ty #[.slice none 0 0, .int .i64 (n : Int)]).run Tryd.prog w = _ := fun ty => Lib.run_append_grow_zeros w 58 3 ty 5 i0 (.int .u8 0) .i64 .i64 Tryd.underlying58 (by kernel_rfl) hi hz0 none 0 0 [] (run_firstCells_none w.drew i0.size 0 0 0) n h0 (by omega) (by omega) (by omega) (by rw [hz2]; omega) (growslice_fits (by omega) (by rw [hz2]; omega))
  have hGn := grownCap_ge w (0 + n) 0 5
  have hcm : grownCap w (0 + n) 0 5 ≤ maxLen := grownCap_le_maxLen w _ _ _ (by unfold maxLen; omega)
  generalize hG : grownCap w (0 + n) 0 5 = G at *
  have hR : Row (w.drew.alloc (.cells (([] : List Value).toArray ++ Builtin.zeroCells (Value.int .u8 0).cells n ++ Builtin.zeroCells (Value.int .u8 0).cells (G - (0 + n))) 5)) w.heap.size (.slice (some ⟨w.heap.size, 0, none⟩) 0 G) [] := by
    refine ⟨by simp [cellsB], .inr ⟨w.heap.size, _, _, rfl, Nat.le_refl _, heap_alloc_new w.drew _, Nat.zero_le _, hcm, ?_, by simp [cellsB]⟩⟩
    simp only [Array.size_append, List.size_toArray, size_zeroCells, Value.cells]
    simp
    omega
  have hB : Below w.heap.size w (w.drew.alloc (.cells (([] : List Value).toArray ++ Builtin.zeroCells (Value.int .u8 0).cells n ++ Builtin.zeroCells (Value.int .u8 0).cells (G - (0 + n))) 5)) := (below_drewN (Below.refl _ w) 1).alloc (Nat.le_refl _) _
  generalize hW : w.drew.alloc (.cells (([] : List Value).toArray ++ Builtin.zeroCells (Value.int .u8 0).cells n ++ Builtin.zeroCells (Value.int .u8 0).cells (G - (0 + n))) 5) = W at *
  have HR := hid hR
  have HB := hid hB
  have hG63 : G ≤ 9223372036854775807 := by unfold maxLen at hcm; omega
  clear hR hB hW hG hi hz0 hz1 hz2
  go_enter Tryd.func32, Tryd.ntmps32
  go_wp2_with (at_builtin; refine Lib.wpList_append_run _ rfl _ _ _ _ rfl _ _ rfl rfl _ _ (hrz _) ?_)
  all_goals (go_ret; exact ⟨_, rfl, HR.out, HB.out⟩)

theorem Row.sl {w : World} {base : Nat} {v : Value} {bs : List Nat} (h : Row w base v bs) : ∃ ao cap, v = .slice ao bs.length cap ∧ bs.length ≤ cap := by
  rcases h.2 with ⟨rfl, h1⟩ | ⟨g, cap, cur, rfl, _, _, hc, _⟩
  · exact ⟨none, 0, by rw [h1], by omega⟩
  · exact ⟨_, _, rfl, hc⟩
theorem below_row {B : Nat} {w w1 w2 : World} {v : Value} {xs : List Nat} (h : Below B w w1) (hB : B ≤ w.heap.size) (hr : Row w1 B v xs) (g : w1.grownBy w2 v.ownBlock) : Below B w w2 :=
  h.grown g (Nat.le_trans hB h.size) (fun j hj => (hr.lt j hj).1)
/-- A block of slices of bytes. -/
structure BsAt (w : World) (g : Nat) (vs : List Value) (bss : List (List Nat)) : Prop where
  blk : w.heap[g]? = some (.cells vs.toArray 58 (0, 0))
  len : vs.length = bss.length
  is : ∀ k, k < bss.length → IsB w (vs.getD k undef) (bss.getD k [])
theorem BsAt.lt {w : World} {g : Nat} {vs : List Value} {bss : List (List Nat)} (h : BsAt w g vs bss) : g < w.heap.size := (Array.getElem?_eq_some_iff.1 h.blk).1
theorem BsAt.keep {w w' : World} {g : Nat} {vs : List Value} {bss : List (List Nat)} (h : BsAt w g vs bss) (hb : Below w.heap.size w w') : BsAt w' g vs bss :=
  ⟨(hb.block g h.lt).trans h.blk, h.len, fun k hk => (h.is k hk).keep hb⟩
theorem BsAt.cell {w : World} {g : Nat} {vs : List Value} {bss : List (List Nat)} (h : BsAt w g vs bss) (k : Nat) (hk : k < bss.length) : w.cell? ⟨g, k, none⟩ = some (vs.getD k undef) := by
  rw [cell_of_row w g k _ _ (0, 0) h.blk]
  have := h.len
  simp [List.getD_eq_getElem?_getD, List.getElem?_eq_getElem (show k < vs.length by omega)]
theorem flat_snoc (bss : List (List Nat)) (k : Nat) (hk : k < bss.length) : (bss.take (k + 1)).flatten = (bss.take k).flatten ++ bss.getD k [] := by
  rw [List.take_succ_eq_append_getElem hk, List.flatten_append]
  simp [List.getD_eq_getElem?_getD, hk]
theorem flat_le (bss : List (List Nat)) (k : Nat) : (bss.take k).flatten.length ≤ bss.flatten.length := by
  have : bss.flatten = (bss.take k).flatten ++ (bss.drop k).flatten := by rw [← List.flatten_append, List.take_append_drop]
  rw [this, List.length_append]; omega

set_option maxHeartbeats 1000000 in
theorem concat_any (g : Nat) (vs : List Value) (bss : List (List Nat)) (w : World) (h : BsAt w g vs bss) (h0 : 0 < bss.flatten.length) (hL : bss.flatten.length ≤ 1099511627776) (hn : bss.length ≤ 1000) :
    Calls Tryd.prog 24 #[.slice (some ⟨g, 0, none⟩) bss.length bss.length] w fun e w' => ∃ v, e = .returned v ∧ Row w' w.heap.size v bss.flatten ∧ Below w.heap.size w w' := by
  have HBs := hid h
  have HG := hid (fun (wq : World) => grow_nil bss.flatten.length h0 hL wq)
  clear h
  go_enter Tryd.func24, Tryd.ntmps24
  go_wp2_with fail
  go_loopw [3, 5, 11] (fun sz _ i wr => ∃ k : Nat, k ≤ bss.length ∧ sz = .int .i64 ((bss.take k).flatten.length : Nat) ∧ i = .int .i64 k ∧ wr = w) (fun _ _ i _ => bss.length - (intOf i).toNat)
  case atStart => exact ⟨0, by simp⟩
  case round =>
    obtain ⟨k, hk, rfl, rfl, hwr⟩ := hrel
    replace hwr := hwr.symm
    subst hwr
    by_cases hlt : k < bss.length
    · have hc := HBs.out.cell k hlt
      have hI := HBs.out.is k hlt
      have hf := flat_snoc bss k hlt
      have hle := flat_le bss (k + 1)
      have hfl : (bss.take (k + 1)).flatten.length = (bss.take k).flatten.length + (bss.getD k []).length := by rw [hf, List.length_append]
      rw [hfl] at hle
      obtain ⟨⟨ao, cap, he, _, _, _, _⟩, _⟩ := hI
      rw [he] at hc
      generalize (bss.getD k []).length = m at *
      generalize (bss.take k).flatten.length = q at *
      have HFL := hid hfl
      clear hf hfl he
      go_wp2
      go_roundw
      case rel => exact ⟨k + 1, by omega, by rw [HFL.out]; go_num, by go_num, by first | trivial | rfl⟩
      case measure => simp [intOf]; omega
    · have hke : k = bss.length := by omega
      subst hke
      rw [List.take_length]
      obtain ⟨n, hne⟩ : ∃ n, bss.flatten.length = n := ⟨_, rfl⟩
      obtain ⟨m, hme⟩ : ∃ m, bss.length = m := ⟨_, rfl⟩
      rw [hne] at HG ⊢
      have HN := hid hne
      clear hne
      go_wp2_with (go_at_call 32; refine (HG.out _).mono ?_; rintro e w1 ⟨v1, rfl, R1, B1⟩)
      clear HG
      go_loopw [6, 8, 27] (fun v _ i wr => ∃ k : Nat, k ≤ bss.length ∧ Row wr w.heap.size v (bss.take k).flatten ∧ i = .int .i64 k ∧ Below w.heap.size w wr) (fun _ _ i _ => bss.length - (intOf i).toNat)
      case atStart => exact ⟨0, Nat.zero_le _, by simpa using R1, rfl, B1⟩
      case round =>
        clear R1 B1
        obtain ⟨k, hk, R, rfl, B⟩ := hrel
        obtain ⟨ao1, cap1, hv1, hc1⟩ := Row.sl R
        subst hv1
        by_cases hlt : k < bss.length
        · have hc := (HBs.out.keep B).cell k hlt
          have hI := (HBs.out.keep B).is k hlt
          have hf := flat_snoc bss k hlt
          have hle := flat_le bss (k + 1)
          have hfl : (bss.take (k + 1)).flatten.length = (bss.take k).flatten.length + (bss.getD k []).length := by rw [hf, List.length_append]
          rw [hfl] at hle
          obtain ⟨ys, hys⟩ : ∃ ys, bss.getD k [] = ys := ⟨_, rfl⟩
          rw [hys] at hI hf hle
          clear hfl
          have hsz := B.size
          have HI := hid hI
          obtain ⟨⟨ao, cap, he, _, _, _, _⟩, _⟩ := hI
          rw [he] at hc
          have HF : Same _ _ := ⟨hf⟩
          have HR := hid R
          have HBW := hid B
          rw [he] at HI
          clear hf hys he R B
          have hnb := HN.out
          go_wp2_with (at_builtin; refine wpList_append_b rfl (.tmp 31) (.tmp 32) 58 rfl w.heap.size _ ((bss.take k).flatten) rfl (by exact HR.out) _ ys rfl (by exact HI.out.src) (by omega) (by omega) ?_; intro v' w' r1 r2 r3)
          have hB' := hid (below_row HBW.out (Nat.le_refl _) HR.out r2)
          have HR1 := hid r1
          clear r1 r2 r3
          go_wp2
          go_roundw
          case rel => exact ⟨k + 1, by omega, by rw [HF.out]; exact HR1.out, by go_num, hB'.out⟩
          case measure => simp [intOf]; omega
        · have hke : k = bss.length := by omega
          subst hke
          rw [List.take_length] at *
          have HR := hid R
          have HBW := hid B
          clear R B
          go_wp2
          go_ret
          exact ⟨_, rfl, HR.out, HBW.out⟩
end Go.Proofs.YtibblghdemmkjaaDoor
