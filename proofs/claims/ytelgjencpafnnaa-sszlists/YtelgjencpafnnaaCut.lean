/- ssz's cut: bytes from each place up to the next. -/
import Derived.Test.YtelgjencpafnnaaReaderQ
namespace Go.Proofs.Ytelgjencpafnnaa
open Go.RowKit Go.Shelf
set_option linter.unusedVariables false
set_option maxRecDepth 100000

/-- A slice of slices of bytes. -/
structure IsBs (w : World) (v : Value) (bss : List (List Nat)) : Prop where
  ex : ∃ ao cap, v = .slice ao bss.length cap ∧ bss.length ≤ cap ∧ cap ≤ maxLen ∧ (ao = none → cap = 0) ∧ (bss.length = 0 ∨ ∃ b off, ao = some ⟨b, off, none⟩ ∧ ∀ i x, bss[i]? = some x → ∃ u, w.cell? ⟨b, off + i, none⟩ = some u ∧ IsB w u x)
theorem IsBs.keep {w w' : World} {v : Value} {bss : List (List Nat)} (h : IsBs w v bss) (hb : Below w.heap.size w w') : IsBs w' v bss := by
  obtain ⟨ao, cap, rfl, h1, h2, h3, h4⟩ := h
  refine ⟨ao, cap, rfl, h1, h2, h3, ?_⟩
  rcases h4 with h4 | ⟨b, off, rfl, hc⟩
  · exact .inl h4
  · refine .inr ⟨b, off, rfl, fun i x hx => ?_⟩
    obtain ⟨u, h5, h6⟩ := hc i x hx
    exact ⟨u, (hb.cell (p := ⟨b, off + i, none⟩) (block_lt_of_cell h5)).trans h5, h6.keep hb⟩
/-- Where part i ends. -/
def toI (bs : List Nat) (ps : List Nat) (i : Nat) : Nat := if i + 1 < ps.length then ps.getD (i + 1) 0 else bs.length
/-- The parts. -/
def cutL (bs ps : List Nat) : List (List Nat) := (List.range ps.length).map fun i => (bs.drop (ps.getD i 0)).take (toI bs ps i - ps.getD i 0)
/-- Places that may be cut at. -/
def Cuts (bs ps : List Nat) : Prop := ∀ i, i < ps.length → ps.getD i 0 ≤ toI bs ps i ∧ toI bs ps i ≤ bs.length
/-- Part i as a slice of what lies at ao. -/
def partV (ao : Option Addr) (bs ps : List Nat) (i : Nat) : Value := .slice (if toI bs ps i = ps.getD i 0 then ao else ao.map fun x => x.add (ps.getD i 0)) (toI bs ps i - ps.getD i 0) (toI bs ps i - ps.getD i 0)
theorem IsB.sub {w : World} {ao : Option Addr} {cap : Nat} {bs : List Nat} (h : IsB w (.slice ao bs.length cap) bs) (f t : Nat) (h1 : f ≤ t) (h2 : t ≤ bs.length) : IsB w (.slice (if t = f then ao else ao.map fun x => x.add f) (t - f) (t - f)) ((bs.drop f).take (t - f)) := by
  have h' := h
  obtain ⟨⟨ao', cap', he, hc1, hc2, hc3, hR⟩, h8⟩ := h
  simp only [Value.slice.injEq] at he
  obtain ⟨rfl, _, rfl⟩ := he
  have hl : ((bs.drop f).take (t - f)).length = t - f := by simp; omega
  refine ⟨⟨(if t = f then ao else ao.map fun x => x.add f), t - f, by rw [hl], by omega, by omega, fun e => ?_, ?_⟩, fun z hz => h8 z (List.mem_of_mem_drop (List.mem_of_mem_take hz))⟩
  · by_cases e2 : t = f
    · omega
    · rw [if_neg e2] at e
      cases ao with
      | none => have := hc3 rfl; omega
      | some a => cases e
  · by_cases e2 : t = f
    · exact .inl (by omega)
    · obtain ⟨b, off, rfl, hcc⟩ := h'.drop_reads f (t - f) (by omega) (by omega)
      exact .inr ⟨b, off + f, by rw [if_neg e2, Option.map_some, Addr.add_lit], fun i hi => hcc i (by omega)⟩
theorem cutL_get {bs ps : List Nat} {i : Nat} (hi : i < ps.length) : (cutL bs ps)[i]? = some ((bs.drop (ps.getD i 0)).take (toI bs ps i - ps.getD i 0)) := by
  unfold cutL
  rw [List.getElem?_map, List.getElem?_range hi]
  rfl
theorem cutL_length (bs ps : List Nat) : (cutL bs ps).length = ps.length := by simp [cutL]

section
variable {P : Program} {w : World} {ops : Array Oper} {rest : List Oper} {o : Oper} {a : Act} {Q : Exit → Act → World → Prop}
theorem wpList_make_at (hg : o.guard = none) (l c : Operand) (t : TypeId) (hop : o.op = Op.makeSlice t l c)
    (e : TypeId) (i : TypeInfo) (z : Value) (h1 : P.underlying t = some (.slice e)) (h2 : P.info? e = some i) (h3 : i.zero = some z)
    (kl kc : IntKind) (L C : Int) (m : Nat) (hl : a.eval l = .int kl L) (hc : a.eval c = .int kc C) (hL : L = (m : Int)) (hC : C = (m : Int)) (b2 : i.bytes * m ≤ 281474976710656) (b3 : m ≤ maxLen)
    (hK : ∀ c0 : Array Value, c0.size = m * i.size → wpList P ops Q rest (a.put o.dst (.slice (some ⟨w.heap.size, 0, none⟩) m m)) (w.alloc (.cells c0 e))) :
    wpList P ops Q (o :: rest) a w := by
  refine wpList_plain hg fun K hK' => ?_
  subst hL
  subst hC
  have hrun := run_make (P := P) w t e i z h1 h2 h3 kl kc (m : Int) (m : Int) (by omega) (by omega) (by have h := Int.ofNat_le.2 b2; rw [Int.natCast_mul] at h; exact h) (by unfold maxLen at b3; omega)
  simp only [Int.toNat_natCast] at hrun
  have := hK _ (size_madeCells z.cells (m * i.size))
  unfold Oper.wp
  simp [execOp, hop, hl, hc, hrun, Result.andThen]
  exact hK' _ _ this
end
theorem Try.info22 : (Try.prog.info? 22).map (fun i => (i.zero, i.size, i.bytes)) = some (some (.slice none 0 0), 1, 24) := by kernel_rfl
theorem intsA_cell {w : World} {g : Nat} {ps : List Nat} (h : w.heap[g]? = some (.cells (intsA ps) 3 (0, 0))) (k : Nat) (hk : k < ps.length) : w.cell? ⟨g, k, none⟩ = some (.int .i64 (ps.getD k 0 : Nat)) := by
  rw [cell_of_row w g _ _ _ _ h]
  have := flat_get cellI 1 (fun _ => rfl) ps k 0 (by decide)
  rw [Nat.mul_one, Nat.add_zero] at this
  unfold intsA
  rw [List.getElem?_toArray, this, List.getElem?_eq_getElem hk, List.getD_eq_getElem?_getD, List.getElem?_eq_getElem hk]
  rfl

set_option maxHeartbeats 2000000 in
theorem cut_any (v : Value) (bs ps : List Nat) (gi : Nat) (w : World) (hB : IsB w v bs) (hl : bs.length ≤ 140737488355328) (hg : w.heap[gi]? = some (.cells (intsA ps) 3 (0, 0))) (hC : Cuts bs ps) (hp : ps.length ≤ 2147483647) :
    Calls Try.prog 53 #[v, .slice (some ⟨gi, 0, none⟩) ps.length ps.length] w fun e w' => ∃ u, e = .returned u ∧ IsBs w' u (cutL bs ps) ∧ Below w.heap.size w w' := by
  obtain ⟨i0, hi, hz0, hz1, hz2⟩ := info_parts Try.info22
  have hn : ps.length ≤ maxLen := by unfold maxLen; omega
  have hn2 : i0.bytes * ps.length ≤ 281474976710656 := by rw [hz2]; omega
  have hgl : gi < w.heap.size := (Array.getElem?_eq_some_iff.1 hg).1
  have hB' := hB
  obtain ⟨⟨ao0, cap0, rfl, _⟩, _⟩ := hB
  go_enter Try.func53, Try.ntmps53
  go_wp2_with fail
  refine (clone_any _ bs _ hB' hl).mono ?_
  rintro e w1 ⟨v1, rfl, R1, B1⟩
  have I1 := R1.isB hB'.by8
  have I1' := I1
  obtain ⟨⟨ao, cap, rfl, hcap, _⟩, _⟩ := I1'
  have HI := hid I1
  have HB1 := hid B1
  have s1 := B1.size
  clear R1 I1 B1 hB'
  go_wp2_with (at_make; refine wpList_make_at rfl _ _ 32 rfl 22 i0 _ Try.underlying32 hi hz0 .i64 .i64 _ _ ps.length rfl rfl rfl rfl hn2 hn ?_; intro c0 hc0)
  have BA : Below w1.heap.size w1 (w1.alloc (.cells c0 22)) := (Below.refl _ w1).alloc (Nat.le_refl _) _
  have HBA := hid (below_more HB1.out BA (Nat.le_refl _))
  have HIA := hid (HI.out.keep BA)
  have hG0 := heap_alloc_new w1 (.cells c0 22)
  have hc0' : c0.size = ps.length := by rw [hc0, hz1, Nat.mul_one]
  go_loopw [7, 8, 9, 17] (fun _ _ _ i wr => ∃ k : Nat, k ≤ ps.length ∧ i = .int .i64 k ∧ (∃ c : Array Value, wr.heap[w1.heap.size]? = some (.cells c 22 (0, 0)) ∧ c.size = ps.length ∧ ∀ j, j < k → c[j]? = some (partV ao bs ps j)) ∧ Below w.heap.size w wr ∧ Below w1.heap.size w1 wr) (fun _ _ _ i _ => ps.length - (intOf i).toNat)
  case atStart => exact ⟨0, Nat.zero_le _, rfl, ⟨c0, hG0, hc0', fun j hj => by omega⟩, HBA.out, BA⟩
  case round =>
    clear hG0 hc0' HBA HIA BA
    obtain ⟨k, hk, rfl, ⟨c, hc, hcs, hcv⟩, hBw, hB1w⟩ := hrel
    by_cases hlt : k < ps.length
    · have hpk := intsA_cell ((hBw.block gi hgl).trans hg) k hlt
      obtain ⟨hC1, hC2⟩ := hC k hlt
      have hg0 : wr.cell? ⟨w1.heap.size, k, none⟩ = some (c[k]'(by omega)) := (cell_of_row wr _ k _ _ (0, 0) hc).trans (Array.getElem?_eq_getElem _)
      obtain ⟨u0, hu0⟩ : ∃ u, wr.cell? ⟨w1.heap.size, k, none⟩ = some u := ⟨_, hg0⟩
      have hf0 := frozen_of_row wr w1.heap.size k _ _ hc
      have hPV : partV ao bs ps k = .slice (if toI bs ps k = ps.getD k 0 then ao else ao.map fun x => x.add (ps.getD k 0)) (toI bs ps k - ps.getD k 0) (toI bs ps k - ps.getD k 0) := rfl
      have hstep : ∀ V, V = partV ao bs ps k → (∃ c' : Array Value, (wr.setCell ⟨w1.heap.size, k, none⟩ V).heap[w1.heap.size]? = some (.cells c' 22 (0, 0)) ∧ c'.size = ps.length ∧ ∀ j, j < k + 1 → c'[j]? = some (partV ao bs ps j)) ∧ Below w.heap.size w (wr.setCell ⟨w1.heap.size, k, none⟩ V) ∧ Below w1.heap.size w1 (wr.setCell ⟨w1.heap.size, k, none⟩ V) := by
        rintro V rfl
        refine ⟨⟨_, heap_setCell_same wr _ k _ _ _ hc, by rw [Array.size_setIfInBounds, hcs], fun j hj => ?_⟩, hBw.setCell (p := ⟨w1.heap.size, k, none⟩) s1 _, hB1w.setCell (p := ⟨w1.heap.size, k, none⟩) (Nat.le_refl _) _⟩
        rw [Array.getElem?_setIfInBounds]
        by_cases e : k = j
        · rw [if_pos e, if_pos (by omega), e]
        · rw [if_neg e]; exact hcv j (by omega)
      have HST := hid hstep
      have HPV := hid hPV
      by_cases hl1 : k + 1 < ps.length
      · have hpk1 := intsA_cell ((hBw.block gi hgl).trans hg) (k + 1) hl1
        have hto : toI bs ps k = ps.getD (k + 1) 0 := by rw [toI, if_pos hl1]
        rw [hto] at hC1 hC2 HPV
        have hl1' : (k : Int) + 1 < (ps.length : Int) := by omega
        obtain ⟨p0, hp0⟩ : ∃ x, ps.getD k 0 = x := ⟨_, rfl⟩
        obtain ⟨p1, hp1⟩ : ∃ x, ps.getD (k + 1) 0 = x := ⟨_, rfl⟩
        rw [hp0] at hpk hC1 HPV
        rw [hp1] at hpk1 hC1 hC2 HPV
        clear hto hp0 hp1 hPV hstep hcv hc hg0 hBw hB1w
        go_wp2
        exact ⟨⟨k + 1, by omega, by go_num, (HST.out _ HPV.out.symm).1, (HST.out _ HPV.out.symm).2.1, (HST.out _ HPV.out.symm).2.2⟩, by simp [intOf]; omega⟩
      · have hto : toI bs ps k = bs.length := by rw [toI, if_neg hl1]
        rw [hto] at hC1 hC2 HPV
        have hl1' : ¬ (k : Int) + 1 < (ps.length : Int) := by omega
        obtain ⟨p0, hp0⟩ : ∃ x, ps.getD k 0 = x := ⟨_, rfl⟩
        rw [hp0] at hpk hC1 HPV
        clear hto hp0 hPV hstep hcv hc hg0 hBw hB1w
        go_wp2
        exact ⟨⟨k + 1, by omega, by go_num, (HST.out _ HPV.out.symm).1, (HST.out _ HPV.out.symm).2.1, (HST.out _ HPV.out.symm).2.2⟩, by simp [intOf]; omega⟩
    · obtain rfl : k = ps.length := by omega
      have Y := hid (And.intro hc (And.intro hcs (And.intro hcv (And.intro hBw hB1w))))
      clear hc hcs hcv hBw hB1w
      go_wp2
      go_ret
      obtain ⟨hc, hcs, hcv, hBw, hB1w⟩ := Y.out
      refine ⟨_, rfl, ⟨some ⟨w1.heap.size, 0, none⟩, ps.length, by rw [cutL_length]; rfl, by rw [cutL_length]; exact Nat.le_refl _, hn, (fun e => by cases e), .inr ⟨w1.heap.size, 0, rfl, fun i x hx => ?_⟩⟩, hBw⟩
      have hil : i < ps.length := by
        have := (List.getElem?_eq_some_iff.1 hx).1
        rwa [cutL_length] at this
      rw [cutL_get hil] at hx
      cases hx
      refine ⟨partV ao bs ps i, ?_, (HI.out.keep hB1w).sub _ _ (hC i hil).1 (hC i hil).2⟩
      rw [Nat.zero_add, cell_of_row wr _ i _ _ (0, 0) hc]
      exact hcv i hil

set_option maxHeartbeats 2000000 in
/-- Parts, where something was wrong. -/
theorem parts_bad {g : Nat} {S : Nat → Prop} {bs : List Nat} {size taken : Nat} {ps : List Nat} {wrong : Bool} (w : World) (h : Rd w g S bs size taken ps wrong) (hb : wrong = true ∨ taken ≠ size ∨ (ps = [] ∧ bs.length ≠ size)) (hs : size ≤ 4611686018427387904) (hl : bs.length ≤ 140737488355328) (hp : ps.length ≤ 2147483647) :
    Calls Try.prog 46 #[.pointer (some ⟨g, 0, none⟩)] w fun e w' => e = .returned (.tuple #[.slice none 0 0, .bool false]) ∧ ∃ n, w' = w.drewN n := by
  obtain ⟨ao, cap, q, c0, c1, c2, c3, c4, c5, _, _, _, hch, _⟩ := h.cells
  clear h c4
  cases wrong
  · by_cases ht : taken = size
    · rcases hb with hb | hb | ⟨rfl, hb⟩
      · cases hb
      · exact absurd ht hb
      · subst ht
        have hn : (((bs.length : Nat) : Int) != ((taken : Nat) : Int)) = true := by rw [bne_iff_ne]; omega
        rw [show ((([] : List Nat).length : Nat) : Int) = 0 from rfl] at c3
        clear hb hch
        go_enter Try.func46, Try.ntmps46
        go_wp2_with fail
        go_quiet (fail)
        go_wp2_with fail
        go_quiet (fail)
        go_wp2
        go_ret2
        exact ⟨rfl, _, World.drewN_drewN _ _ _⟩
    · have hn : (((taken : Nat) : Int) != ((size : Nat) : Int)) = true := by rw [bne_iff_ne]; omega
      clear hb hch
      go_enter Try.func46, Try.ntmps46
      go_wp2_with fail
      go_quiet (fail)
      go_wp2
      go_ret2
      exact ⟨rfl, _, rfl⟩
  · clear hb hch
    go_enter Try.func46, Try.ntmps46
    go_wp2_with fail
    go_quiet (fail)
    go_wp2
    go_ret2
    exact ⟨rfl, _, rfl⟩
end Go.Proofs.Ytelgjencpafnnaa
