/- Own texts of the proof, joined: Cut Parts TakeB DecA AwkP Desc Aw5 Ref5 Kind5 RefCp EncL RefBits EncP RowS. -/
import Derived.Test.YtpaamhmighgjeaaGreatSha
import Derived.Test.YtpaamhmighgjeaaGreatMem
import Derived.Test.YtpaamhmighgjeaaGreatPureB
import Derived.Test.YtpaamhmighgjeaaGreatBytesB
import Derived.Test.YtpaamhmighgjeaaGreatBase
import Derived.Test.YtpaamhmighgjeaaGreatIter
import Derived.Test.YtpaamhmighgjeaaGreatChain
import Derived.Test.YtpaamhmighgjeaaGreatWriter
import Derived.Test.YtpaamhmighgjeaaGreatWriterN
import Derived.Test.YtpaamhmighgjeaaGreatAppAny
import Derived.Test.YtpaamhmighgjeaaGreatCls
import Derived.Test.YtpaamhmighgjeaaGreatTail
import Derived.Test.YtpaamhmighgjeaaGreatClsTail
import Derived.Test.YtpaamhmighgjeaaGreatFlow
import Derived.Test.YtpaamhmighgjeaaGreatFlowG
import Derived.Test.YtpaamhmighgjeaaGreatConv
import Derived.Test.YtpaamhmighgjeaaGreatRunOps
import Derived.Test.YtpaamhmighgjeaaGreatCells
import Derived.Test.YtpaamhmighgjeaaGreatRootsW
import Derived.Test.YtpaamhmighgjeaaGreatWriterB
import Derived.Test.YtpaamhmighgjeaaGreatBits
import Derived.Test.YtpaamhmighgjeaaGreatNew4
import Derived.Test.YtpaamhmighgjeaaGreatPut5
import Derived.Test.YtpaamhmighgjeaaGreatPutV
import Derived.Test.YtpaamhmighgjeaaGreatPutH
import Derived.Test.YtpaamhmighgjeaaGreatLst5
import Derived.Test.YtpaamhmighgjeaaGreatBitsP
import Derived.Test.YtpaamhmighgjeaaGreatSt5
import Derived.Test.YtpaamhmighgjeaaGreatFlowJ
import Derived.Test.YtpaamhmighgjeaaGreatChainI
import Derived.Test.YtpaamhmighgjeaaGreatReader
import Derived.Test.YtpaamhmighgjeaaGreatReaderP
import Derived.Test.YtpaamhmighgjeaaGreatReaderQ
import Derived.Test.YtpaamhmighgjeaaGreatRootR
import Derived.Test.YtpaamhmighgjeaaGreatFlowK
import Derived.Test.YtpaamhmighgjeaaGreatBuild5
import Derived.Test.YtpaamhmighgjeaaGreatTake5
import Derived.Test.YtpaamhmighgjeaaGreatPutA
import Derived.Test.YtpaamhmighgjeaaGreatTakeV
import Derived.Test.YtpaamhmighgjeaaGreatVals
import Derived.Test.YtpaamhmighgjeaaGreatEqlB
import Derived.Test.YtpaamhmighgjeaaGreatRefSame
import Derived.Test.YtpaamhmighgjeaaGreatValM
import Derived.Test.YtpaamhmighgjeaaGreatAnsA
import Derived.Lib.BitFns
import Derived.Lib.AppendZerosOnto
import Derived.Lib.Walk
import Derived.BigFrame
import Derived.Great.BuildSlice
/- ssz's cut: bytes from each place up to the next. -/
namespace Go.Proofs.YtpaamhmighgjeaaGreat
open Go.RowKit Go.Shelf
set_option linter.unusedVariables false
set_option maxRecDepth 100000

/-- A slice of slices of bytes. -/
structure IsBs (w : World) (v : Value) (bss : List (List Nat)) : Prop where
  ex : ∃ ao cap, v = .slice ao bss.length cap ∧ bss.length ≤ cap ∧ cap ≤ maxLen ∧ (ao = none → cap = 0) ∧ (bss.length = 0 ∨ ∃ b off, ao = some ⟨b, off, none⟩ ∧ ∀ i x, bss[i]? = some x → ∃ u, w.cell? ⟨b, off + i, none⟩ = some u ∧ IsB w u x)
theorem IsBs.keep {w w' : World} {v : Value} {bss : List (List Nat)} (h : IsBs w v bss) (hb : Below w.heap.size w w') : IsBs w' v bss := by
  obtain ⟨ao, cap, rfl, h1, h2, h3, h4⟩ := h
  refine ⟨ao, cap, rfl, h1, h2, h3, ?_⟩
  rcases h4 with h4 | ⟨b, off, rfl, hc⟩
  · exact .inl h4
  · refine .inr ⟨b, off, rfl, fun i x hx => ?_⟩
    obtain ⟨u, h5, h6⟩ := hc i x hx
    exact ⟨u, (hb.cell (p := ⟨b, off + i, none⟩) (block_lt_of_cell h5)).trans h5, h6.keep hb⟩
/-- Where part i ends. -/
def toI (bs : List Nat) (ps : List Nat) (i : Nat) : Nat := if i + 1 < ps.length then ps.getD (i + 1) 0 else bs.length
/-- The parts. -/
def cutL (bs ps : List Nat) : List (List Nat) := (List.range ps.length).map fun i => (bs.drop (ps.getD i 0)).take (toI bs ps i - ps.getD i 0)
/-- Places that may be cut at. -/
def Cuts (bs ps : List Nat) : Prop := ∀ i, i < ps.length → ps.getD i 0 ≤ toI bs ps i ∧ toI bs ps i ≤ bs.length
/-- Part i as a slice of what lies at ao. -/
def partV (ao : Option Addr) (bs ps : List Nat) (i : Nat) : Value := .slice (if toI bs ps i = ps.getD i 0 then ao else ao.map fun x => x.add (ps.getD i 0)) (toI bs ps i - ps.getD i 0) (toI bs ps i - ps.getD i 0)
theorem IsB.sub {w : World} {ao : Option Addr} {cap : Nat} {bs : List Nat} (h : IsB w (.slice ao bs.length cap) bs) (f t : Nat) (h1 : f ≤ t) (h2 : t ≤ bs.length) : IsB w (.slice (if t = f then ao else ao.map fun x => x.add f) (t - f) (t - f)) ((bs.drop f).take (t - f)) := by
  have h' := h
  obtain ⟨⟨ao', cap', he, hc1, hc2, hc3, hR⟩, h8⟩ := h
  simp only [Value.slice.injEq] at he
  obtain ⟨rfl, _, rfl⟩ := he
  have hl : ((bs.drop f).take (t - f)).length = t - f := by simp; omega
  refine ⟨⟨(if t = f then ao else ao.map fun x => x.add f), t - f, by rw [hl], by omega, by omega, fun e => ?_, ?_⟩, fun z hz => h8 z (List.mem_of_mem_drop (List.mem_of_mem_take hz))⟩
  · by_cases e2 : t = f
    · omega
    · rw [if_neg e2] at e
      cases ao with
      | none => have := hc3 rfl; omega
      | some a => cases e
  · by_cases e2 : t = f
    · exact .inl (by omega)
    · obtain ⟨b, off, rfl, hcc⟩ := h'.drop_reads f (t - f) (by omega) (by omega)
      exact .inr ⟨b, off + f, by rw [if_neg e2, Option.map_some, Addr.add_lit], fun i hi => hcc i (by omega)⟩
theorem cutL_get {bs ps : List Nat} {i : Nat} (hi : i < ps.length) : (cutL bs ps)[i]? = some ((bs.drop (ps.getD i 0)).take (toI bs ps i - ps.getD i 0)) := by
  unfold cutL
  rw [List.getElem?_map, List.getElem?_range hi]
  rfl
theorem cutL_length (bs ps : List Nat) : (cutL bs ps).length = ps.length := by simp [cutL]

section
variable {P : Program} {w : World} {ops : Array Oper} {rest : List Oper} {o : Oper} {a : Act} {Q : Exit → Act → World → Prop}
theorem wpList_make_at (hg : o.guard = none) (l c : Operand) (t : TypeId) (hop : o.op = Op.makeSlice t l c)
    (e : TypeId) (i : TypeInfo) (z : Value) (h1 : P.underlying t = some (.slice e)) (h2 : P.info? e = some i) (h3 : i.zero = some z)
    (kl kc : IntKind) (L C : Int) (m : Nat) (hl : a.eval l = .int kl L) (hc : a.eval c = .int kc C) (hL : L = (m : Int)) (hC : C = (m : Int)) (b2 : i.bytes * m ≤ 281474976710656) (b3 : m ≤ maxLen)
    (hK : ∀ c0 : Array Value, c0.size = m * i.size → wpList P ops Q rest (a.put o.dst (.slice (some ⟨w.heap.size, 0, none⟩) m m)) (w.alloc (.cells c0 e))) :
    wpList P ops Q (o :: rest) a w := by
  refine wpList_plain hg fun K hK' => ?_
  subst hL
  subst hC
  have hrun := run_make (P := P) w t e i z h1 h2 h3 kl kc (m : Int) (m : Int) (by omega) (by omega) (by have h := Int.ofNat_le.2 b2; rw [Int.natCast_mul] at h; exact h) (by unfold maxLen at b3; omega)
  simp only [Int.toNat_natCast] at hrun
  have := hK _ (size_madeCells z.cells (m * i.size))
  unfold Oper.wp
  simp [execOp, hop, hl, hc, hrun, Result.andThen]
  exact hK' _ _ this
end
theorem Tryz.info39 : (Tryz.prog.info? 39).map (fun i => (i.zero, i.size, i.bytes)) = some (some (.slice none 0 0), 1, 24) := by kernel_rfl
theorem intsA_cell {w : World} {g : Nat} {ps : List Nat} (h : w.heap[g]? = some (.cells (intsA ps) 3 (0, 0))) (k : Nat) (hk : k < ps.length) : w.cell? ⟨g, k, none⟩ = some (.int .i64 (ps.getD k 0 : Nat)) := by
  rw [cell_of_row w g _ _ _ _ h]
  have := flat_get cellI 1 (fun _ => rfl) ps k 0 (by decide)
  rw [Nat.mul_one, Nat.add_zero] at this
  unfold intsA
  rw [List.getElem?_toArray, this, List.getElem?_eq_getElem hk, List.getD_eq_getElem?_getD, List.getElem?_eq_getElem hk]
  rfl

set_option maxHeartbeats 2000000 in
theorem cut_any (v : Value) (bs ps : List Nat) (gi : Nat) (w : World) (hB : IsB w v bs) (hl : bs.length ≤ 140737488355328) (hg : w.heap[gi]? = some (.cells (intsA ps) 3 (0, 0))) (hC : Cuts bs ps) (hp : ps.length ≤ 2147483647) :
    Calls Tryz.prog 83 #[v, .slice (some ⟨gi, 0, none⟩) ps.length ps.length] w fun e w' => ∃ u, e = .returned u ∧ IsBs w' u (cutL bs ps) ∧ Below w.heap.size w w' := by
  obtain ⟨i0, hi, hz0, hz1, hz2⟩ := info_parts Tryz.info39
  have hn : ps.length ≤ maxLen := by unfold maxLen; omega
  have hn2 : i0.bytes * ps.length ≤ 281474976710656 := by rw [hz2]; omega
  have hgl : gi < w.heap.size := (Array.getElem?_eq_some_iff.1 hg).1
  have hB' := hB
  obtain ⟨⟨ao0, cap0, rfl, _⟩, _⟩ := hB
  go_enter Tryz.func83, Tryz.ntmps83
  go_wp2_with fail
  refine (clone_any _ bs _ hB' hl).mono ?_
  rintro e w1 ⟨v1, rfl, R1, B1⟩
  have I1 := R1.isB hB'.by8
  have I1' := I1
  obtain ⟨⟨ao, cap, rfl, hcap, _⟩, _⟩ := I1'
  have HI := hid I1
  have HB1 := hid B1
  have s1 := B1.size
  clear R1 I1 B1 hB'
  go_wp2_with (at_make; refine wpList_make_at rfl _ _ 100 rfl 39 i0 _ Tryz.underlying100 hi hz0 .i64 .i64 _ _ ps.length rfl rfl rfl rfl hn2 hn ?_; intro c0 hc0)
  have BA : Below w1.heap.size w1 (w1.alloc (.cells c0 39)) := (Below.refl _ w1).alloc (Nat.le_refl _) _
  have HBA := hid (below_more HB1.out BA (Nat.le_refl _))
  have HIA := hid (HI.out.keep BA)
  have hG0 := heap_alloc_new w1 (.cells c0 39)
  have hc0' : c0.size = ps.length := by rw [hc0, hz1, Nat.mul_one]
  go_loopw [7, 8, 9, 17] (fun _ _ _ i wr => ∃ k : Nat, k ≤ ps.length ∧ i = .int .i64 k ∧ (∃ c : Array Value, wr.heap[w1.heap.size]? = some (.cells c 39 (0, 0)) ∧ c.size = ps.length ∧ ∀ j, j < k → c[j]? = some (partV ao bs ps j)) ∧ Below w.heap.size w wr ∧ Below w1.heap.size w1 wr) (fun _ _ _ i _ => ps.length - (intOf i).toNat)
  case atStart => exact ⟨0, Nat.zero_le _, rfl, ⟨c0, hG0, hc0', fun j hj => by omega⟩, HBA.out, BA⟩
  case round =>
    clear hG0 hc0' HBA HIA BA
    obtain ⟨k, hk, rfl, ⟨c, hc, hcs, hcv⟩, hBw, hB1w⟩ := hrel
    by_cases hlt : k < ps.length
    · have hpk := intsA_cell ((hBw.block gi hgl).trans hg) k hlt
      obtain ⟨hC1, hC2⟩ := hC k hlt
      have hg0 : wr.cell? ⟨w1.heap.size, k, none⟩ = some (c[k]'(by omega)) := (cell_of_row wr _ k _ _ (0, 0) hc).trans (Array.getElem?_eq_getElem _)
      obtain ⟨u0, hu0⟩ : ∃ u, wr.cell? ⟨w1.heap.size, k, none⟩ = some u := ⟨_, hg0⟩
      have hf0 := frozen_of_row wr w1.heap.size k _ _ hc
      have hPV : partV ao bs ps k = .slice (if toI bs ps k = ps.getD k 0 then ao else ao.map fun x => x.add (ps.getD k 0)) (toI bs ps k - ps.getD k 0) (toI bs ps k - ps.getD k 0) := rfl
      have hstep : ∀ V, V = partV ao bs ps k → (∃ c' : Array Value, (wr.setCell ⟨w1.heap.size, k, none⟩ V).heap[w1.heap.size]? = some (.cells c' 39 (0, 0)) ∧ c'.size = ps.length ∧ ∀ j, j < k + 1 → c'[j]? = some (partV ao bs ps j)) ∧ Below w.heap.size w (wr.setCell ⟨w1.heap.size, k, none⟩ V) ∧ Below w1.heap.size w1 (wr.setCell ⟨w1.heap.size, k, none⟩ V) := by
        rintro V rfl
        refine ⟨⟨_, heap_setCell_same wr _ k _ _ _ hc, by rw [Array.size_setIfInBounds, hcs], fun j hj => ?_⟩, hBw.setCell (p := ⟨w1.heap.size, k, none⟩) s1 _, hB1w.setCell (p := ⟨w1.heap.size, k, none⟩) (Nat.le_refl _) _⟩
        rw [Array.getElem?_setIfInBounds]
        by_cases e : k = j
        · rw [if_pos e, if_pos (by omega), e]
        · rw [if_neg e]; exact hcv j (by omega)
      have HST := hid hstep
      have HPV := hid hPV
      by_cases hl1 : k + 1 < ps.length
      · have hpk1 := intsA_cell ((hBw.block gi hgl).trans hg) (k + 1) hl1
        have hto : toI bs ps k = ps.getD (k + 1) 0 := by rw [toI, if_pos hl1]
        rw [hto] at hC1 hC2 HPV
        have hl1' : (k : Int) + 1 < (ps.length : Int) := by omega
        obtain ⟨p0, hp0⟩ : ∃ x, ps.getD k 0 = x := ⟨_, rfl⟩
        obtain ⟨p1, hp1⟩ : ∃ x, ps.getD (k + 1) 0 = x := ⟨_, rfl⟩
        rw [hp0] at hpk hC1 HPV
        rw [hp1] at hpk1 hC1 hC2 HPV
        clear hto hp0 hp1 hPV hstep hcv hc hg0 hBw hB1w
        go_wp2
        exact ⟨⟨k + 1, by omega, by go_num, (HST.out _ HPV.out.symm).1, (HST.out _ HPV.out.symm).2.1, (HST.out _ HPV.out.symm).2.2⟩, by simp [intOf]; omega⟩
      · have hto : toI bs ps k = bs.length := by rw [toI, if_neg hl1]
        rw [hto] at hC1 hC2 HPV
        have hl1' : ¬ (k : Int) + 1 < (ps.length : Int) := by omega
        obtain ⟨p0, hp0⟩ : ∃ x, ps.getD k 0 = x := ⟨_, rfl⟩
        rw [hp0] at hpk hC1 HPV
        clear hto hp0 hPV hstep hcv hc hg0 hBw hB1w
        go_wp2
        exact ⟨⟨k + 1, by omega, by go_num, (HST.out _ HPV.out.symm).1, (HST.out _ HPV.out.symm).2.1, (HST.out _ HPV.out.symm).2.2⟩, by simp [intOf]; omega⟩
    · obtain rfl : k = ps.length := by omega
      have Y := hid (And.intro hc (And.intro hcs (And.intro hcv (And.intro hBw hB1w))))
      clear hc hcs hcv hBw hB1w
      go_wp2
      go_ret
      obtain ⟨hc, hcs, hcv, hBw, hB1w⟩ := Y.out
      refine ⟨_, rfl, ⟨some ⟨w1.heap.size, 0, none⟩, ps.length, by rw [cutL_length]; rfl, by rw [cutL_length]; exact Nat.le_refl _, hn, (fun e => by cases e), .inr ⟨w1.heap.size, 0, rfl, fun i x hx => ?_⟩⟩, hBw⟩
      have hil : i < ps.length := by
        have := (List.getElem?_eq_some_iff.1 hx).1
        rwa [cutL_length] at this
      rw [cutL_get hil] at hx
      cases hx
      refine ⟨partV ao bs ps i, ?_, (HI.out.keep hB1w).sub _ _ (hC i hil).1 (hC i hil).2⟩
      rw [Nat.zero_add, cell_of_row wr _ i _ _ (0, 0) hc]
      exact hcv i hil

set_option maxHeartbeats 2000000 in
/-- Parts, where something was wrong. -/
theorem parts_bad {g : Nat} {S : Nat → Prop} {bs : List Nat} {size taken : Nat} {ps : List Nat} {wrong : Bool} (w : World) (h : Rd w g S bs size taken ps wrong) (hb : wrong = true ∨ taken ≠ size ∨ (ps = [] ∧ bs.length ≠ size)) (hs : size ≤ 4611686018427387904) (hl : bs.length ≤ 140737488355328) (hp : ps.length ≤ 2147483647) :
    Calls Tryz.prog 35 #[.pointer (some ⟨g, 0, none⟩)] w fun e w' => e = .returned (.tuple #[.slice none 0 0, .bool false]) ∧ ∃ n, w' = w.drewN n := by
  obtain ⟨ao, cap, q, c0, c1, c2, c3, c4, c5, _, _, _, hch, _⟩ := h.cells
  clear h c4
  cases wrong
  · by_cases ht : taken = size
    · rcases hb with hb | hb | ⟨rfl, hb⟩
      · cases hb
      · exact absurd ht hb
      · subst ht
        have hn : (((bs.length : Nat) : Int) != ((taken : Nat) : Int)) = true := by rw [bne_iff_ne]; omega
        rw [show ((([] : List Nat).length : Nat) : Int) = 0 from rfl] at c3
        clear hb hch
        go_enter Tryz.func35, Tryz.ntmps35
        go_wp2_with fail
        go_quiet (fail)
        go_wp2_with fail
        go_quiet (fail)
        go_wp2
        go_ret2
        exact ⟨rfl, _, World.drewN_drewN _ _ _⟩
    · have hn : (((taken : Nat) : Int) != ((size : Nat) : Int)) = true := by rw [bne_iff_ne]; omega
      clear hb hch
      go_enter Tryz.func35, Tryz.ntmps35
      go_wp2_with fail
      go_quiet (fail)
      go_wp2
      go_ret2
      exact ⟨rfl, _, rfl⟩
  · clear hb hch
    go_enter Tryz.func35, Tryz.ntmps35
    go_wp2_with fail
    go_quiet (fail)
    go_wp2
    go_ret2
    exact ⟨rfl, _, rfl⟩
end Go.Proofs.YtpaamhmighgjeaaGreat

/- ssz's Reader: Parts. -/
namespace Go.Proofs.YtpaamhmighgjeaaGreat
open Go.RowKit Go.Shelf
set_option linter.unusedVariables false
set_option maxRecDepth 100000

theorem below_drew0 {w w' : World} (h : Below w.heap.size w w') (n : Nat) : Below w.heap.size w (w'.drewN n) := ⟨h.os, h.tape, h.output, h.size, h.block⟩

set_option maxHeartbeats 4000000 in
/-- Parts, where nothing was wrong. -/
theorem parts_ok {g : Nat} {S : Nat → Prop} {bs : List Nat} {size : Nat} {ps : List Nat} (w : World) (h : Rd w g S bs size size ps false) (hb : ps = [] → bs.length = size) (hC : Cuts bs ps) (hs : size ≤ 4611686018427387904) (hl : bs.length ≤ 140737488355328) (hp : ps.length ≤ 2147483647) :
    Calls Tryz.prog 35 #[.pointer (some ⟨g, 0, none⟩)] w fun e w' => ∃ u, e = .returned (.tuple #[u, .bool true]) ∧ IsBs w' u (cutL bs ps) ∧ Below w.heap.size w w' := by
  obtain ⟨ao, cap, q, c0, c1, c2, c3, c4, c5, _, hIs, _, hch, _⟩ := h.cells
  have hgl := h.gt
  have HA : Hid (∀ W : World, Below w.heap.size w W → Calls Tryz.prog 84 #[.agg #[.int .i64 (ps.length : Nat), .pointer q]] W fun e w' =>
      ∃ gi, w.heap.size ≤ gi ∧ e = .returned (.slice (some ⟨gi, 0, none⟩) ps.length ps.length) ∧ w'.heap[gi]? = some (.cells (intsA ps) 3 (0, 0)) ∧ Below w.heap.size w w') := by
    intro W hW
    have h1 := allI_any ps.reverse q W (by rw [List.length_reverse]; exact hp) (S := S) (ChnI.keepS (w := w) (w' := W) (fun k _ hk => hW.block k hk) hch)
    rw [List.length_reverse, List.reverse_reverse] at h1
    refine h1.mono ?_
    rintro e w' ⟨gi, r1, r2, r3, r4⟩
    exact ⟨gi, Nat.le_trans hW.size r1, r2, r3, below_more hW r4 (Nat.le_refl _)⟩
  have HCt : Hid (∀ gi (W : World), Below w.heap.size w W → W.heap[gi]? = some (.cells (intsA ps) 3 (0, 0)) → Calls Tryz.prog 83 #[.slice ao bs.length cap, .slice (some ⟨gi, 0, none⟩) ps.length ps.length] W fun e w' => ∃ u, e = .returned u ∧ IsBs w' u (cutL bs ps) ∧ Below w.heap.size w w') := by
    intro gi W hW hg
    refine (cut_any _ bs ps gi W (hIs.keep hW) hl hg hC hp).mono ?_
    rintro e w' ⟨u, r1, r2, r3⟩
    exact ⟨u, r1, r2, below_more hW r3 (Nat.le_refl _)⟩
  have key : ∀ (W : World), (∃ n, W = w.drewN n) → ∀ a : Act, True := fun _ _ _ => trivial
  clear h hIs hch key
  by_cases hp0 : ps.length = 0
  · have hbl := hb (List.eq_nil_of_length_eq_zero hp0)
    rw [hbl] at c0 HCt hl
    have hq : (((size : Nat) : Int) != ((size : Nat) : Int)) = false := by simp
    have c3' : w.cell? ⟨g, 3, none⟩ = some (.int .i64 0) := by rw [c3, hp0]; rfl
    rw [hp0] at HA HCt
    clear c3 hb hC hbl
    have HP0 := hid hp0
    clear hp0
    go_enter Tryz.func35, Tryz.ntmps35
    go_wp2_with fail
    go_quiet (fail)
    go_wp2_with fail
    go_quiet (fail)
    go_wp2_with fail
    refine wp_mono (Q := fun e a' w' => match e with | .normal => a'.defers = [] ∧ ∃ u, a'.tmps.getD 2 undef = u ∧ a'.tmps.getD 3 undef = .bool true ∧ IsBs w' u (cutL bs ps) ∧ Below w.heap.size w w' | _ => False) ?_ ?_
    · go_region_law (first
        | (go_simp; go_at_call 84; refine (HA.out _ (by exact ⟨rfl, rfl, rfl, Nat.le_refl _, fun _ _ => rfl⟩)).mono ?_; rintro e w3 ⟨gi, hgi, rfl, hG3, B3⟩; have k0 := (B3.cell (p := ⟨g, 0, none⟩) hgl).trans c0; replace hG3 := hid hG3; replace B3 := hid B3)
        | (go_simp; go_at_call 83; refine (HCt.out _ _ B3.out hG3.out).mono ?_; rintro e w4 ⟨u, rfl, hI4, B4⟩; replace hI4 := hid hI4; replace B4 := hid B4))
      all_goals exact ⟨rfl, u, rfl, rfl, hI4.out, B4.out⟩
    · rintro (_ | _ | _ | _ | _ | _) a' w' hq <;> try exact hq.elim
      obtain ⟨hd, u, h2, h3, hI4, B4⟩ := hq
      have Y := hid (And.intro hd (And.intro h2 (And.intro h3 (And.intro hI4 B4))))
      clear hd h2 h3 hI4 B4
      go_wp2
      obtain ⟨hd, h2, h3, hI4, B4⟩ := Y.out
      refine bodyPost_ret (v := .tuple #[u, .bool true]) ?_ hd ⟨u, rfl, hI4, B4⟩
      rw [← h2, ← h3]
      exact results_tmp2 rfl _ _ _
  · have hne : (((ps.length : Nat) : Int) == 0) = false := by rw [beq_eq_false_iff_ne]; omega
    have hq : (((size : Nat) : Int) != ((size : Nat) : Int)) = false := by simp
    clear hb hC
    go_enter Tryz.func35, Tryz.ntmps35
    go_wp2_with fail
    go_quiet (fail)
    go_wp2_with fail
    go_quiet (fail)
    go_wp2_with fail
    refine wp_mono (Q := fun e a' w' => match e with | .normal => a'.defers = [] ∧ ∃ u, a'.tmps.getD 2 undef = u ∧ a'.tmps.getD 3 undef = .bool true ∧ IsBs w' u (cutL bs ps) ∧ Below w.heap.size w w' | _ => False) ?_ ?_
    · go_region_law (first
        | (go_simp; go_at_call 84; refine (HA.out _ (by exact ⟨rfl, rfl, rfl, Nat.le_refl _, fun _ _ => rfl⟩)).mono ?_; rintro e w3 ⟨gi, hgi, rfl, hG3, B3⟩; have k0 := (B3.cell (p := ⟨g, 0, none⟩) hgl).trans c0; replace hG3 := hid hG3; replace B3 := hid B3)
        | (go_simp; go_at_call 83; refine (HCt.out _ _ B3.out hG3.out).mono ?_; rintro e w4 ⟨u, rfl, hI4, B4⟩; replace hI4 := hid hI4; replace B4 := hid B4))
      all_goals exact ⟨rfl, u, rfl, rfl, hI4.out, B4.out⟩
    · rintro (_ | _ | _ | _ | _ | _) a' w' hq <;> try exact hq.elim
      obtain ⟨hd, u, h2, h3, hI4, B4⟩ := hq
      have Y := hid (And.intro hd (And.intro h2 (And.intro h3 (And.intro hI4 B4))))
      clear hd h2 h3 hI4 B4
      go_wp2
      obtain ⟨hd, h2, h3, hI4, B4⟩ := Y.out
      refine bodyPost_ret (v := .tuple #[u, .bool true]) ?_ hd ⟨u, rfl, hI4, B4⟩
      rw [← h2, ← h3]
      exact results_tmp2 rfl _ _ _
end Go.Proofs.YtpaamhmighgjeaaGreat

/- ssz: firstBits, TakeFew, TakeBits. -/
namespace Go.Proofs.YtpaamhmighgjeaaGreat
open Go.RowKit
set_option linter.unusedVariables false
set_option maxRecDepth 100000

/-- A row of truths of the call's own. -/
abbrev RowT (w : World) (base : Nat) (v : Value) (l : List Bool) : Prop := w.ownsRow base 4 1 v l.length (l.map Value.bool)
theorem RowT.isT {l : List Bool} {v : Value} {w : World} {base : Nat} (h : RowT w base v l) : IsT w v l := by
  obtain ⟨hl, h⟩ := h
  rcases h with ⟨rfl, h0⟩ | ⟨g, cap, cur, rfl, hb, hg, hnc, hm, hcs, htk⟩
  · exact ⟨none, 0, by rw [h0], by omega, by decide, .inl h0⟩
  · refine ⟨_, cap, rfl, hnc, hm, .inr ⟨g, 0, rfl, fun i hi => ?_⟩⟩
    rw [Nat.zero_add, cell_of_row w g i _ _ (0, 0) hg, ← Array.getElem?_toList]
    have : (cur.toList.take (l.length * 1))[i]? = (l.map Value.bool)[i]? := by rw [htk]
    rw [List.getElem?_take, if_pos (by omega)] at this
    rw [this, List.getElem?_map, List.getElem?_eq_getElem hi, List.getD_eq_getElem?_getD, List.getElem?_eq_getElem hi]
    rfl
theorem Tryz.info4 : (Tryz.prog.info? 4).map (fun i => (i.zero, i.size, i.bytes)) = some (some (.bool false), 1, 1) := by kernel_rfl
theorem info_partsT {o : Option TypeInfo} (h : o.map (fun i => (i.zero, i.size, i.bytes)) = some (some (.bool false), 1, 1)) : ∃ i, o = some i ∧ i.zero = some (.bool false) ∧ i.size = 1 ∧ i.bytes = 1 := by
  cases o with
  | none => simp at h
  | some i => simp at h; exact ⟨i, rfl, h.1, h.2.1, h.2.2⟩
/-- The first bits, with room behind. -/
def upT (bs : List Nat) (n k : Nat) : List Bool := bitsL bs k ++ List.replicate (n - k) false
theorem upT_length (bs : List Nat) (n k : Nat) (h : k ≤ n) : (upT bs n k).length = n := by simp [upT, bitsL_length]; omega
theorem upT_set (bs : List Nat) (n k : Nat) (h : k < n) : (upT bs n k).set k (bitN bs k) = upT bs n (k + 1) := by
  unfold upT
  rw [List.set_append_right _ _ (by rw [bitsL_length]; exact Nat.le_refl _), bitsL_length, Nat.sub_self, show n - k = (n - (k + 1)) + 1 by omega, List.replicate_succ, List.set_cons_zero, bitsL_succ, List.append_assoc]
  rfl
theorem made_false (n : Nat) : (madeCells (Value.bool false).cells (n * 1)).toList = (upT [] n 0).map Value.bool := by
  rw [Nat.mul_one]
  exact (toList_madeCells_one (.bool false) n).trans (by simp [upT, bitsL])
theorem upT_zero (bs : List Nat) (n : Nat) : upT bs n 0 = upT [] n 0 := by simp [upT, bitsL]

theorem and_bit (x r : Nat) (hx : x < 256) : (bits BinOp.and IntKind.u8 ((x : Int) / 2 ^ r) 1 == 1) = x.testBit r := by
  have e1 : ((x : Int) / 2 ^ r) = ((x / 2 ^ r : Nat) : Int) := by simp
  have hq : x / 2 ^ r < 256 := Nat.lt_of_le_of_lt (Nat.div_le_self _ _) hx
  rw [e1, Nat.testBit_eq_decide_div_mod_eq]
  generalize x / 2 ^ r = q at hq
  have e2 : bits BinOp.and IntKind.u8 (q : Int) 1 = ((q % 2 : Nat) : Int) := by
    have e : ∀ n : Nat, n < 256 → (BitVec.ofInt 8 (n : Int)).toNat = n := fun n hn => by rw [BitVec.toNat_ofInt]; omega
    show IntKind.u8.wrap ((BitVec.ofInt 8 (q : Int) &&& BitVec.ofInt 8 ((1 : Nat) : Int)).toNat : Int) = _
    rw [BitVec.toNat_and, e q hq, e 1 (by decide), Nat.and_one_is_mod]
    rw [IntKind.wrap_u8]
    omega
  rw [e2]
  by_cases h : q % 2 = 1
  · simp [h]
  · have : q % 2 = 0 := by omega
    simp [this]

set_option maxHeartbeats 1000000 in
theorem firstBits_any (v : Value) (bs : List Nat) (n : Nat) (w : World) (hB : IsB w v bs) (hn : n ≤ 8 * bs.length) (hl : n ≤ 1099511627776) :
    Calls Tryz.prog 92 #[v, .int .i64 n] w fun e w' => ∃ u, e = .returned u ∧ IsT w' u (bitsL bs n) ∧ Below w.heap.size w w' := by
  obtain ⟨⟨ao, cap, rfl, hcap, hmx, hnil, hR⟩, h8⟩ := hB
  obtain ⟨i0, hi, hz0, hz1, hz2⟩ := info_partsT Tryz.info4
  have hb2 : i0.bytes * n ≤ 281474976710656 := by rw [hz2]; omega
  have hml : n ≤ maxLen := by unfold maxLen; omega
  unfold maxLen at hmx
  go_enter Tryz.func92, Tryz.ntmps92
  go_wp2_with (at_make; refine wpList_make_full _ rfl (.tmp 7) (.tmp 7) 34 rfl w.heap.size 4 i0 (.bool false) 1 Tryz.underlying34 hi hz0 hz1 .i64 .i64 (n : Int) (n : Int) n rfl rfl rfl rfl hb2 hml (Nat.le_refl _) ?_; intro w1 hown hgrow)
  rw [made_false n] at hown
  have hbel : Below w.heap.size w w1 := (Below.refl _ _).grown hgrow (Nat.le_refl _) (by simp)
  clear hgrow
  go_loopw [6, 11] (fun _ i wr => ∃ k : Nat, k ≤ n ∧ i = .int .i64 k ∧ wr.ownsRow w.heap.size 4 1 (.slice (some ⟨w.heap.size, 0, none⟩) n n) n ((upT bs n k).map Value.bool) ∧ Below w.heap.size w wr) (fun _ i _ => n - (intOf i).toNat)
  case atStart => exact ⟨0, Nat.zero_le _, rfl, by rw [upT_zero]; exact hown, hbel⟩
  case round =>
    clear hown hbel
    obtain ⟨k, hk, rfl, hown, hbel⟩ := hrel
    by_cases hlt : k < n
    · obtain ⟨b, off, rfl, hcc⟩ : ∃ b off, ao = some ⟨b, off, none⟩ ∧ ∀ i, i < bs.length → w.cell? ⟨b, off + i, none⟩ = some (.int .u8 (bs.getD i 0 : Nat)) := by
        rcases hR with h | h
        · omega
        · exact h
      have hfr := hown.frozenAt k
      have hcl := hown.cellAt k (by omega)
      have hget : ((upT bs n k).map Value.bool)[k]? = some (.bool ((upT bs n k).getD k false)) := by
        rw [List.getElem?_map, List.getD_eq_getElem?_getD, List.getElem?_eq_getElem (by rw [upT_length _ _ _ hk]; omega)]; rfl
      rw [hget] at hcl
      have hcr := (hbel.cell (p := ⟨b, off + k / 8, none⟩) (block_lt_of_cell (hcc (k / 8) (by omega)))).trans (hcc (k / 8) (by omega))
      have hx := byte_at h8 (k / 8)
      have R1 := (hown.stored k (.bool (bitN bs k))).1
      rw [← List.map_set, upT_set _ _ _ hlt] at R1
      have R2 : Below w.heap.size w (wr.setCell ⟨w.heap.size, k, none⟩ (.bool (bitN bs k))) := hbel.setCell (Nat.le_refl _) _
      have HR := hid (And.intro R1 R2)
      clear hget hown hbel R1 R2 hcc
      have HX : Same (bitN bs k) ((bs.getD (k / 8) 0).testBit (k % 8)) := ⟨rfl⟩
      generalize bs.getD (k / 8) 0 = x at *
      have HA := hid (and_bit x (k % 8) hx)
      go_wp2
      rw [HA.out, ← HX.out]
      exact ⟨⟨k + 1, by omega, by go_num, HR.out.1, HR.out.2⟩, by simp [intOf]; omega⟩
    · obtain rfl : k = n := by omega
      have HO := hid hown
      have HB := hid hbel
      clear hown hbel
      go_wp2
      go_ret
      refine ⟨_, rfl, RowT.isT (base := w.heap.size) ?_, HB.out⟩
      have e : upT bs k k = bitsL bs k := by simp [upT]
      have := HO.out
      rw [e] at this
      unfold RowT
      rw [bitsL_length]
      exact this
theorem log2_len : ∀ n : Fin 256, n.val ≠ 0 → Lib.bitLen n.val = n.val.log2 + 1 := by decide +kernel
theorem tab_size : Lib.len8tab.size = 256 := by kernel_rfl
theorem tab_get (S : ByteArray) (HS : S = Lib.len8tab) (n : Nat) (h : n < S.size) : (S[n]'h).toNat = Lib.bitLen n := by
  have hn : n < 256 := by rw [HS, tab_size] at h; exact h
  have h1 := Lib.len8_eq ⟨n, hn⟩
  have e : ((S[n]'h).toNat : Int) = Lib.len8 (n : Int) := by
    unfold Lib.len8
    rw [← HS, Int.toNat_natCast, getElem?_pos S n h]
    rfl
  have := e.trans h1
  exact Int.ofNat_inj.1 this
set_option maxHeartbeats 1000000 in
theorem len8_any (x : Nat) (h0 : x ≠ 0) (h1 : x < 256) (w : World) :
    Calls Tryz.prog 91 #[.int .u8 (x : Nat)] w fun e w' => e = .returned (.int .i64 ((x.log2 + 1 : Nat) : Int)) ∧ w' = w := by
  have hl := log2_len ⟨x, h1⟩ h0
  have h8 := log2_byte h1
  simp only at hl
  go_enter Tryz.func91, Tryz.ntmps91
  generalize hS : ByteArray.mk _ = S
  have HS : Hid (S = Lib.len8tab) := hid (by rw [← hS]; kernel_rfl)
  have hsz : S.size = 256 := by rw [HS.out]; exact tab_size
  have HL := hid hl
  clear hS hl
  go_wp2
  go_ret
  refine ⟨ret_int ?_, rfl⟩
  have ht := tab_get S HS.out x (by omega)
  rw [HL.out] at ht
  rw [ht, wrap64]
  omega
set_option maxHeartbeats 1000000 in
theorem takeBits_any (v : Value) (bs : List Nat) (lim : Int) (w : World) (hB : IsB w v bs) (hl : bs.length ≤ 100000000000) (hlim : -9223372036854775808 ≤ lim ∧ lim ≤ 9223372036854775807) :
    Calls Tryz.prog 49 #[v, .int .i64 lim] w fun e w' =>
      ((∃ l u, takeB bs lim = some l ∧ e = .returned (.tuple #[u, .int .i64 0]) ∧ IsT w' u l) ∨ (takeB bs lim = none ∧ e = .returned (.tuple #[.slice none 0 0, .int .i64 3]))) ∧ Below w.heap.size w w' := by
  have hB' := hB
  obtain ⟨⟨ao, cap, rfl, hcap, hmx, hnil, hR⟩, h8⟩ := hB
  unfold maxLen at hmx
  by_cases h0 : bs.length = 0
  · have h0' : (((bs.length : Nat) : Int) == 0) = true := by rw [h0]; rfl
    go_enter Tryz.func49, Tryz.ntmps49
    go_wp2
    go_ret2
    exact ⟨.inr ⟨by rw [takeB, if_pos (.inl h0)], rfl⟩, Below.refl _ _⟩
  · obtain ⟨b, off, rfl, hcc⟩ : ∃ b off, ao = some ⟨b, off, none⟩ ∧ ∀ i, i < bs.length → w.cell? ⟨b, off + i, none⟩ = some (.int .u8 (bs.getD i 0 : Nat)) := by
      rcases hR with h | h
      · omega
      · exact h
    have hcl := hcc (bs.length - 1) (by omega)
    have hx := byte_at h8 (bs.length - 1)
    have HE : Hid (endB bs = 8 * (bs.length - 1) + (bs.getD (bs.length - 1) 0).log2) := hid rfl
    have HF : Hid (takeB bs lim = if bs.length = 0 ∨ bs.getD (bs.length - 1) 0 = 0 ∨ lim < ((endB bs : Nat) : Int) then none else some (bitsL bs (endB bs))) := hid rfl
    obtain ⟨q, hq⟩ : ∃ q, bs.length = q + 1 := ⟨bs.length - 1, by omega⟩
    rw [show bs.length - 1 = q by omega] at hcl hx HF HE
    have hib := hid hB'
    have HQ := hid hq
    rw [hq] at hcap hl hib
    rw [hq]
    have hq0 : (((q : Int) + 1) == 0) = false := by rw [beq_eq_false_iff_ne]; omega
    generalize bs.getD q 0 = x at *
    clear hcc hB' hR hq h0
    by_cases hx0 : x = 0
    · subst hx0
      go_enter Tryz.func49, Tryz.ntmps49
      go_wp2
      go_ret2
      exact ⟨.inr ⟨by rw [HF.out, if_pos (by simp)], rfl⟩, Below.refl _ _⟩
    · have hx' : ((x : Int) == 0) = false := by rw [beq_eq_false_iff_ne]; omega
      have hl8 := log2_byte hx
      have HC := hid (len8_any x hx0 hx)
      generalize x.log2 = y at *
      by_cases hend : lim < ((endB bs : Nat) : Int)
      · have hend' : lim < (q : Int) * 8 + ((y : Int) + 1) - 1 := by have := HE.out; omega
        go_enter Tryz.func49, Tryz.ntmps49
        go_wp2_with fail
        refine (HC.out _).mono ?_
        rintro e w' ⟨rfl, rfl⟩
        go_wp2
        go_ret2
        exact ⟨.inr ⟨by rw [HF.out, if_pos (.inr (.inr (by have := HE.out; omega)))], rfl⟩, Below.refl _ _⟩
      · have hend' : ¬ lim < (q : Int) * 8 + ((y : Int) + 1) - 1 := by have := HE.out; omega
        go_enter Tryz.func49, Tryz.ntmps49
        go_wp2_with fail
        refine (HC.out _).mono ?_
        rintro e w' ⟨rfl, rfl⟩
        go_wp2_with fail
        have he : ((q : Int) * 8 + ((y : Int) + 1) - 1) = ((endB bs : Nat) : Int) := by have := HE.out; omega
        rw [he]
        refine (firstBits_any _ bs (endB bs) _ hib.out (by have := HE.out; have := HQ.out; omega) (by have := HE.out; omega)).mono ?_
        rintro e w2 ⟨u, rfl, hT, hb⟩
        have HT := hid (And.intro hT hb)
        clear hT hb
        go_wp2
        go_ret2
        refine ⟨.inl ⟨_, _, ?_, rfl, HT.out.1⟩, HT.out.2⟩
        rw [HF.out, if_neg]
        rintro (h | h | h)
        · have := HQ.out; omega
        · exact hx0 h
        · omega
end Go.Proofs.YtpaamhmighgjeaaGreat

/- Attestations taken: ToAttestation. -/
namespace Go.Proofs.YtpaamhmighgjeaaGreat
open Go.RowKit Go.Shelf
set_option linter.unusedVariables false
set_option maxRecDepth 100000

theorem atC_length {sb : Value} {V : List Value} {sig : List Nat} (hV : V.length = 100) (hs : sig.length = 32) : (atC sb V sig).length = 133 := by simp [atC, cellsB_length, hV, hs]
theorem atBuild (V : List Value) (sig : List Nat) (hV : V.length = 100) (hs : sig.length = 32) (w : World) : (Instr.build 58 #[(1, .agg V.toArray), (2, .agg (nums .u8 sig))]).run Tryz.prog w = .ok (.agg (atC (.slice none 0 0) V sig).toArray) w := by
  have ho : outC #[(1, Value.agg V.toArray), (2, Value.agg (nums .u8 sig))].toList = V ++ (cellsB sig ++ []) := rfl
  have hl : (V ++ (cellsB sig ++ [])).length = 132 := by simp [cellsB_length, hV, hs]
  have h := build_from Tryz.ty58 _ Tryz.underlying58 #[(0, 1), (1, 100), (101, 32)] (fun w => by kernel_rfl) #[(1, .agg V.toArray), (2, .agg (nums .u8 sig))] 1
    (by
      have e1 : (Value.agg V.toArray).cells.size = 100 := hV
      have e2 : (Value.agg (nums .u8 sig)).cells.size = 32 := (nums_size _ _).trans hs
      refine ⟨?_, ?_, trivial⟩ <;> (try rw [e2]) <;> rw [e1] <;> rfl) (by rw [ho, hl]; decide) w
  rw [ho, hl] at h
  have ht : at0.take 1 = [.slice none 0 0] := rfl
  have hd : at0.drop (1 + 132) = [] := by kernel_rfl
  rw [ht, hd, List.append_nil] at h
  exact h
/-- The Reader's state behind an Attestation's fields. -/
def atS (bs : List Nat) : Rs := fixS 164 32 (vtS 164 (fixT 164 0 4 (decide (bs.length < 164)), partW bs 164 0 [] (decide (bs.length < 164))))
def atP (bs : List Nat) : List Nat := partS bs 164 0 [] (decide (bs.length < 164))
def atV (bs : List Nat) : List Value := vtTake bs 164 (fixT 164 0 4 (decide (bs.length < 164)), partW bs 164 0 [] (decide (bs.length < 164)))
def atR (bs : List Nat) : List Nat := rootAt bs 164 (vtS 164 (fixT 164 0 4 (decide (bs.length < 164)), partW bs 164 0 [] (decide (bs.length < 164))))
def atG (bs : List Nat) : Bool := !partW bs 164 0 [] (decide (bs.length < 164))
theorem vtTake_one (bs : List Nat) (size : Nat) (s : Rs) : (vtTake bs size s).toArray.all (·.oneCell') = true := vtC_one _ _ _ _ _ _ _
theorem atC_one {sb : Value} {V : List Value} {sig : List Nat} (hb : sb.oneCell' = true) (hV : V.toArray.all (·.oneCell') = true) : (atC sb V sig).toArray.all (·.oneCell') = true := by
  simp only [List.all_toArray, List.all_eq_true] at hV ⊢
  intro v hv
  unfold atC at hv
  simp only [List.mem_append, List.mem_cons, List.not_mem_nil, or_false] at hv
  rcases hv with rfl | hv | hv
  · exact hb
  · exact hV v hv
  · exact cellsB_one sig v hv
theorem atBad {bs : List Nat} (h : atG bs = false) : (atS bs).2 = true := by
  have h' : partW bs 164 0 [] (decide (bs.length < 164)) = true := by simpa [atG] using h
  unfold atS
  rw [h']
  simp [fixS, vtS, cpS, cpW, fixW]
theorem atGood {bs : List Nat} (h : atG bs = true) : atS bs = (164, false) ∧ atP bs = [164] ∧ 164 ≤ bs.length := by
  have h' : partW bs 164 0 [] (decide (bs.length < 164)) = false := by simpa [atG] using h
  have h2 := h'
  unfold partW at h2
  rw [Bool.or_eq_false_iff] at h2
  have hw : decide (bs.length < 164) = false := by
    have := h2.1
    unfold fixW at this
    rw [Bool.or_eq_false_iff] at this
    exact this.1
  have hp : partP bs 164 0 (decide (bs.length < 164)) = 164 := by
    have := h2.2
    simpa [folB] using this
  refine ⟨?_, ?_, by simpa using hw⟩
  · unfold atS
    rw [h', hw]
    decide
  · unfold atP partS
    rw [h', hp]
    rfl
theorem isBs_one {w : World} {u : Value} (bs : List Nat) (p : Nat) (h : IsBs w u (cutL bs [p])) : ∃ b o c v, u = .slice (some ⟨b, o, none⟩) 1 c ∧ w.cell? ⟨b, o, none⟩ = some v ∧ IsB w v (bs.drop p) := by
  have e : cutL bs [p] = [bs.drop p] := by
    simp [cutL, toI]
    exact List.take_of_length_le (by rw [List.length_drop]; exact Nat.le_refl _)
  rw [e] at h
  obtain ⟨ao, cap, rfl, h1, h2, h3, h4⟩ := h
  rcases h4 with h4 | ⟨b, off, rfl, hc⟩
  · simp at h4
  · obtain ⟨v, hv, hI⟩ := hc 0 _ rfl
    exact ⟨b, off, cap, v, rfl, hv, hI⟩
theorem HasC.setCell {w : World} {g : Nat} {t : TypeId} {cs : List Value} (h : HasC w g t cs) (j : Nat) (v : Value) : HasC (w.setCell ⟨g, j, none⟩ v) g t (cs.set j v) := by
  unfold HasC at *
  simp [World.setCell, Array.getElem?_modify, h]
theorem atA_false (C : List Value) : atA false C = .tuple #[.agg at0.toArray, .int .i64 3] := rfl
theorem atA_true (C : List Value) : atA true C = .tuple #[.agg C.toArray, .int .i64 0] := rfl

set_option maxHeartbeats 2000000 in
theorem toAt_bad (v : Value) (bs : List Nat) (w : World) (hB : IsB w v bs) (hl : bs.length ≤ 100000000000) (hbad : atG bs = false ∨ takeB (bs.drop 164) 32 = none) :
    Calls Tryz.prog 18 #[v] w fun x w' => x = .returned (atA false []) ∧ Below w.heap.size w w' := by
  have HBAD := hid hbad
  clear hbad
  have HI := hid hB
  obtain ⟨⟨ao, cap, rfl, _⟩, _⟩ := hB
  go_enter Tryz.func18, Tryz.ntmps18
  go_wp2_with ((with_reducible refine at_list' ?_); first
    | (refine wpList_alloc_c Tryz.ty58 rfl 2 rfl rfl ?_; intro w1 H1 B1 S1))
  have HC := hid (read_any _ bs 164 w1 (HI.out.keep B1) (by decide) (by omega))
  have HH1 := hid H1
  have HB1 := hid B1
  have s1 := S1
  clear H1 B1 S1 HI
  refine HC.out.mono ?_
  rintro e w2 ⟨g, S, hg, rfl, q1, q2, q3⟩
  have HP := hid (rpart_any w2 q1 (by decide) (by omega) (by simp))
  have HH2 := hid (HH1.out.keep q3)
  have HB2 := hid (HB1.out.trans (q3.mono (by omega)))
  have s2 := q3.size
  have hgl := q1.gt
  clear q1 q2 q3 HC HH1 HB1
  go_wp2_with fail
  refine HP.out.mono ?_
  rintro e w3 ⟨⟨u3, rfl⟩, q1, q2⟩
  have HT := hid (takeVt_any w3 q1 (by decide) (by omega))
  have HH3 := hid (HH2.out.grown q2 (by omega))
  have s3 := q2.size
  have HB3 : Hid (Below w.heap.size w w3) := hid ⟨q2.os.trans HB2.out.os, q2.tape.trans HB2.out.tape, q2.output.trans HB2.out.output, by omega, fun j hj => (q2.block j (by omega) (fun h => by have := Option.some.inj h; omega)).trans (HB2.out.block j hj)⟩
  clear q1 q2 HP HH2 HB2
  go_wp2_with fail
  refine HT.out.mono ?_
  rintro e w4 ⟨rfl, hV, q1, q2⟩
  have HR := hid (rroot_any w4 q1 (by decide) (by omega))
  have hr : (atR bs).length = 32 := fixB_length q1.ts q1.ok
  have HH4 := hid (HH3.out.grown q2 (by omega))
  have s4 := q2.size
  have HB4 : Hid (Below w.heap.size w w4) := hid ⟨q2.os.trans HB3.out.os, q2.tape.trans HB3.out.tape, q2.output.trans HB3.out.output, by omega, fun j hj => (q2.block j (by omega) (fun h => by have := Option.some.inj h; omega)).trans (HB3.out.block j hj)⟩
  have HV : Hid ((atV bs).length = 100) := hid hV
  have HRl := hid hr
  clear q1 q2 HT HH3 HB3 hV hr
  go_wp2_with fail
  refine HR.out.mono ?_
  rintro e w5 ⟨rfl, q1, q2⟩
  have HH5 := hid (HH4.out.grown q2 (by omega))
  have s5 := q2.size
  have HB5 : Hid (Below w.heap.size w w5) := hid ⟨q2.os.trans HB4.out.os, q2.tape.trans HB4.out.tape, q2.output.trans HB4.out.output, by omega, fun j hj => (q2.block j (by omega) (fun h => by have := Option.some.inj h; omega)).trans (HB4.out.block j hj)⟩
  have HRd : Hid (Rd w5 g (more S w2 w3) bs 164 (atS bs).1 (atP bs) (atS bs).2) := hid q1
  have HBd := hid (atBuild (atV bs) (atR bs) HV.out HRl.out w5)
  have HL := hid (atC_length (sb := .slice none 0 0) HV.out HRl.out)
  have HO : Hid ((atC (.slice none 0 0) (atV bs) (atR bs)).toArray.all (·.oneCell') = true) := hid (atC_one rfl (vtTake_one _ _ _))
  clear q1 q2 HR HH4 HB4
  go_wp2_with ((with_reducible refine at_list' ?_); first
    | (refine wpList_build_c rfl _ rfl #[(1, .agg (atV bs).toArray), (2, .agg (nums .u8 (atR bs)))] (by simp only [Act.eval, List.map_toArray, List.map_cons, List.map_nil]; rfl) _ HBd.out ?_)
    | (refine wpList_alloc_c Tryz.ty58 rfl 5 rfl rfl ?_; intro w6 H6 B6 S6)
    | (refine wpList_store_c Tryz.ty58 rfl (.tmp 5) (.tmp 18) rfl w5.heap.size (atC (.slice none 0 0) (atV bs) (atR bs)) rfl rfl (by rw [HL.out]; rfl) HO.out _ H6 rfl ?_; intro w7 H7 O7))
  have s7 := O7.size
  have B57 : Below w5.heap.size w5 w7 := below_only B6 O7 (Nat.le_refl _)
  have HR7 := hid (HRd.out.below B57)
  have HB7 := hid (HB5.out.trans (B57.mono (by omega)))
  have HH7 := hid (HH5.out.keep B57)
  have HX7 := hid H7
  clear H6 B6 O7 H7 B57 HRd HB5 HH5 HBd
  cases hG : atG bs with
  | false =>
    have HG := hid hG
    have HPb := hid (parts_bad w7 HR7.out (.inl (atBad hG)) (by decide) (by omega) (by unfold atP partS; split <;> simp))
    clear HR7
    refine HPb.out.mono ?_
    rintro e w8 ⟨rfl, nn, hw8⟩
    have B8 : Below w7.heap.size w7 w8 := by rw [hw8]; exact below_drew0 (Below.refl _ _) nn
    have HB8 := hid (HB7.out.trans (B8.mono (by omega)))
    have HH8 := hid (HH7.out.keep B8)
    have HX8 := hid (HX7.out.keep B8)
    have s8 := B8.size
    clear B8 hw8 HPb HB7 HH7 HX7 hG
    go_wp2_with ((with_reducible refine at_list' ?_); first
      | (refine wpList_load_c Tryz.ty58 rfl (.tmp 5) rfl w5.heap.size (atC (.slice none 0 0) (atV bs) (atR bs)) rfl (by rw [HL.out]; rfl) HX8.out ?_))
    have HN := hid (answerAt_any (atC (.slice none 0 0) (atV bs) (atR bs)) false w8 HL.out HO.out)
    rw [atA_false] at HN
    refine HN.out.mono ?_
    rintro e w9 ⟨rfl, B9⟩
    have HB9 := hid (HB8.out.trans (B9.mono (by omega)))
    have HH9 := hid (HH8.out.keep B9)
    clear B9 HN HB8 HH8 HX8
    go_wp2_with ((with_reducible refine at_list' ?_); first
      | (refine wpList_store_c Tryz.ty58 rfl (.tmp 2) (.tmp 28) rfl w.heap.size at0 rfl rfl rfl at0_one _ HH9.out rfl ?_; intro wa Ha Oa))
    exact bodyPost_ret (results_c Tryz.ty58 rfl _ wa w.heap.size at0 (.int .i64 3) rfl rfl Ha rfl) rfl ⟨rfl, below_only HB9.out Oa (Nat.le_refl _)⟩
  | true =>
    have HG := hid hG
    obtain ⟨eS, eP, e164⟩ := atGood hG
    have hR : Rd w7 g (more S w2 w3) bs 164 164 [164] false := by have := HR7.out; rw [eS, eP] at this; exact this
    have HPo := hid (parts_ok w7 hR (fun e => by cases e) (fun i hi => by
      have : i = 0 := by simpa using hi
      subst this
      simp only [toI]
      simp
      exact e164) (by decide) (by omega) (by simp))
    clear hR HR7 eS eP hG
    refine HPo.out.mono ?_
    rintro e w8 ⟨u, rfl, q1, B8⟩
    obtain ⟨b0, o0, c0, v0, rfl, hcell, hI0⟩ := isBs_one bs 164 q1
    obtain ⟨D, hD⟩ : ∃ D, bs.drop 164 = D := ⟨_, rfl⟩
    have hDl : D.length ≤ 100000000000 := by rw [← hD, List.length_drop]; omega
    rw [hD] at hI0
    have HD := hid hD
    clear hD
    have HB8 := hid (HB7.out.trans (B8.mono (by omega)))
    have HH8 := hid (HH7.out.keep B8)
    have HX8 := hid (HX7.out.keep B8)
    have s8 := B8.size
    have hI0' := hI0
    obtain ⟨⟨a0, p0, rfl, _⟩, _⟩ := hI0'
    have HTk := hid (takeBits_any _ _ 32 w8 hI0 hDl (by omega))
    clear q1 B8 HPo HB7 HH7 HX7 hI0
    go_wp2_with fail
    refine HTk.out.mono ?_
    rintro e w9 ⟨⟨l, u9, e1, rfl, e3⟩ | ⟨e1, rfl⟩, B9⟩
    · exfalso
      rcases HBAD.out with hb | hb
      · rw [HG.out] at hb; cases hb
      · rw [HD.out, e1] at hb; cases hb
    · have HB9 := hid (HB8.out.trans (B9.mono (by omega)))
      have HH9 := hid (HH8.out.keep B9)
      have HX9 := HX8.out.keep B9
      have hx0 := HX9.cell (j := 0) (v := .slice none 0 0) rfl
      have hfz : w9.frozen? ⟨w5.heap.size, 0, none⟩ = false := frozen_of_row w9 w5.heap.size 0 _ _ HX9
      have s9 := B9.size
      clear B9 HTk HB8 HH8 HX8 e1
      have HXs := hid (HX9.setCell 0 (.slice none 0 0))
      have HXO := hid (Only.setCell w9 w5.heap.size 0 (.slice none 0 0))
      go_wp2_with ((with_reducible refine at_list' ?_); first
        | (refine wpList_load_c Tryz.ty58 rfl (.tmp 5) rfl w5.heap.size (atC (.slice none 0 0) (atV bs) (atR bs)) rfl (by rw [HL.out]; rfl) (by exact HXs.out) ?_))
      have HN := hid (answerAt_any (atC (.slice none 0 0) (atV bs) (atR bs)) false (w9.setCell ⟨w5.heap.size, 0, none⟩ (.slice none 0 0)) HL.out HO.out)
      rw [atA_false] at HN
      have HHs := hid (HH9.out.only HXO.out (by omega))
      have HBs := hid (below_only HB9.out HXO.out (by omega))
      have ss := HXO.out.size
      clear HX9 hx0 hfz
      refine HN.out.mono ?_
      rintro e wa ⟨rfl, Ba⟩
      have HBa := hid (HBs.out.trans (Ba.mono (by omega)))
      have HHa := hid (HHs.out.keep Ba)
      clear Ba HN
      go_wp2_with ((with_reducible refine at_list' ?_); first
        | (refine wpList_store_c Tryz.ty58 rfl (.tmp 2) (.tmp 43) rfl w.heap.size at0 rfl rfl rfl at0_one _ HHa.out rfl ?_; intro wb Hb Ob))
      exact bodyPost_ret (results_c Tryz.ty58 rfl _ wb w.heap.size at0 (.int .i64 3) rfl rfl Hb rfl) rfl ⟨rfl, below_only HBa.out Ob (Nat.le_refl _)⟩
end Go.Proofs.YtpaamhmighgjeaaGreat

/- What layer 5's Awake looks at: plain facts. -/
namespace Go.Proofs.YtpaamhmighgjeaaGreat
open Go.RowKit Go.Shelf
set_option linter.unusedVariables false
set_option maxRecDepth 100000
theorem awk_bytes : cont ([(putB [] true, true)] ++ (vtF 0 0 (zeros 32) 0 (zeros 32) 0 (zeros 32) ++ rootF [zeros 32])) = 164 :: (zeros 163 ++ [1]) := by kernel_rfl
theorem awk_good : atG (164 :: (zeros 163 ++ [0])) = true := by kernel_rfl
theorem awk_none : takeB ((164 :: (zeros 163 ++ [0])).drop 164) 32 = none := by kernel_rfl
theorem awk_cp : (cont (cpF 0 (zeros 32))).length = 40 := by kernel_rfl
end Go.Proofs.YtpaamhmighgjeaaGreat

/- The document's kinds (Desc) as trees: how they lie in memory; their sizes. -/
namespace Go.Proofs.YtpaamhmighgjeaaGreat
open Go.RowKit
set_option linter.unusedVariables false
set_option maxRecDepth 100000

/-- A kind. -/
inductive Dt where
  | mk (form n : Nat) (of : List Dt)
def Dt.form : Dt → Nat | .mk f _ _ => f
def Dt.n : Dt → Nat | .mk _ n _ => n
def Dt.of : Dt → List Dt | .mk _ _ l => l
mutual
def Dt.deep : Dt → Nat | .mk _ _ l => deepD l + 1
def deepD : List Dt → Nat | [] => 0 | x :: r => max x.deep (deepD r)
end
theorem deepD_get : ∀ {l : List Dt} {i : Nat} {x : Dt}, l[i]? = some x → x.deep ≤ deepD l
  | y :: r, 0, x, h => by simp at h; subst h; rw [deepD]; exact Nat.le_max_left _ _
  | y :: r, i + 1, x, h => by
    rw [List.getElem?_cons_succ] at h
    rw [deepD]
    exact Nat.le_trans (deepD_get h) (Nat.le_max_right _ _)
mutual
/-- A kind lies at a block. -/
def DAt (w : World) : Dt → Nat → Prop
  | .mk f n ds, p => w.cell? ⟨p, 0, none⟩ = some (.int .i64 (f : Nat)) ∧ w.cell? ⟨p, 1, none⟩ = some (.int .i64 (n : Nat)) ∧ ∃ ao cap, w.cell? ⟨p, 2, none⟩ = some (.slice ao ds.length cap) ∧ ds.length ≤ cap ∧ cap ≤ maxLen ∧ (ds.length = 0 ∨ ∃ b off, ao = some ⟨b, off, none⟩ ∧ DsAt w ds b off)
def DsAt (w : World) : List Dt → Nat → Nat → Prop
  | [], _, _ => True
  | x :: rest, b, off => (∃ p, w.cell? ⟨b, off, none⟩ = some (.pointer (some ⟨p, 0, none⟩)) ∧ DAt w x p) ∧ DsAt w rest b (off + 1)
end
theorem cell_keep {w w' : World} (hb : Below w.heap.size w w') {p : Addr} {v : Value} (h : w.cell? p = some v) : w'.cell? p = some v := (hb.cell (p := p) (block_lt_of_cell h)).trans h
mutual
theorem DAt.keep {w w' : World} (hb : Below w.heap.size w w') : ∀ (x : Dt) {p : Nat}, DAt w x p → DAt w' x p
  | .mk f n ds, p, h => by
    rw [DAt] at h ⊢
    obtain ⟨h0, h1, ao, cap, h2, h3, h4, h5⟩ := h
    refine ⟨cell_keep hb h0, cell_keep hb h1, ao, cap, cell_keep hb h2, h3, h4, ?_⟩
    rcases h5 with h5 | ⟨b, off, h6, h7⟩
    · exact .inl h5
    · exact .inr ⟨b, off, h6, DsAt.keep hb ds h7⟩
theorem DsAt.keep {w w' : World} (hb : Below w.heap.size w w') : ∀ (l : List Dt) {b off : Nat}, DsAt w l b off → DsAt w' l b off
  | [], b, off, _ => by rw [DsAt]; exact trivial
  | x :: rest, b, off, h => by
    rw [DsAt] at h ⊢
    obtain ⟨⟨p, h1, h2⟩, h3⟩ := h
    exact ⟨⟨p, cell_keep hb h1, DAt.keep hb x h2⟩, DsAt.keep hb rest h3⟩
end
theorem DAt.drewN {w : World} {x : Dt} {p : Nat} (h : DAt w x p) (m : Nat) : DAt (w.drewN m) x p := DAt.keep (w := w) (w' := w.drewN m) ⟨rfl, rfl, rfl, Nat.le_refl _, fun _ _ => rfl⟩ x h
theorem DsAt.get {w : World} : ∀ {l : List Dt} {b off i : Nat} {x : Dt}, DsAt w l b off → l[i]? = some x → ∃ p, w.cell? ⟨b, off + i, none⟩ = some (.pointer (some ⟨p, 0, none⟩)) ∧ DAt w x p
  | y :: r, b, off, 0, x, h, hx => by
    rw [DsAt] at h
    simp at hx; subst hx
    exact h.1
  | y :: r, b, off, i + 1, x, h, hx => by
    rw [DsAt] at h
    rw [List.getElem?_cons_succ] at hx
    have := DsAt.get h.2 hx
    rwa [show off + 1 + i = off + (i + 1) by omega] at this
mutual
/-- The size of all values of a kind; below 0: they have several. -/
def sizeD : Dt → Int
  | .mk f n ds => if f = 1 then 8 else if f = 2 then 1 else if f = 3 then 32 else if f = 6 then ((n + 7) / 8 : Nat) else if f = 4 then n * sizeH ds else if f = 8 then sizeS ds else -1
def sizeH : List Dt → Int
  | [] => 0
  | d :: _ => sizeD d
/-- A container's: the sum, or -1. -/
def sizeS : List Dt → Int
  | [] => 0
  | d :: r => if sizeD d < 0 then -1 else if sizeS r < 0 then -1 else sizeD d + sizeS r
end
/-- The sizes of the first ones are no less than 0. -/
def sumD (ds : List Dt) : Int := (ds.map sizeD).sum
theorem sizeS_neg : ∀ {ds : List Dt} {i : Nat} {x : Dt}, ds[i]? = some x → sizeD x < 0 → sizeS ds = -1
  | y :: r, 0, x, h, hx => by simp at h; subst h; rw [sizeS, if_pos hx]
  | y :: r, i + 1, x, h, hx => by
    rw [List.getElem?_cons_succ] at h
    rw [sizeS, sizeS_neg h hx]
    split
    · rfl
    · simp
theorem sizeS_sum : ∀ {ds : List Dt}, (∀ d ∈ ds, 0 ≤ sizeD d) → sizeS ds = sumD ds ∧ 0 ≤ sumD ds
  | [], _ => by simp [sizeS, sumD]
  | d :: r, h => by
    have h1 := h d (by simp)
    obtain ⟨h2, h3⟩ := sizeS_sum (ds := r) (fun x hx => h x (by simp [hx]))
    have e : sumD (d :: r) = sizeD d + sumD r := by simp [sumD]
    rw [sizeS, if_neg (by omega), h2, if_neg (by omega), e]
    exact ⟨rfl, by omega⟩
theorem sumD_succ (ds : List Dt) (k : Nat) (x : Dt) (h : ds[k]? = some x) : sumD (ds.take (k + 1)) = sumD (ds.take k) + sizeD x := by
  have hi := (List.getElem?_eq_some_iff.1 h).1
  rw [List.getElem?_eq_getElem hi] at h
  cases h
  have e : ∀ (a : List Dt) (b : Dt), sumD (a ++ [b]) = sumD a + sizeD b := fun a b => by simp [sumD]
  rw [List.take_succ_eq_append_getElem hi, e]
/-- Small: no sum and product of sizes wraps. -/
def small (x : Int) : Prop := -1099511627776 ≤ x ∧ x ≤ 1099511627776
mutual
def okD : Dt → Prop
  | .mk f n ds => f ≤ 8 ∧ n ≤ 1048576 ∧ small (sizeD (.mk f n ds)) ∧ ds.length ≤ 1048576 ∧ (f = 4 → 0 < ds.length) ∧ okDs ds
def okDs : List Dt → Prop
  | [] => True
  | d :: r => okD d ∧ okDs r
end
theorem okDs_get : ∀ {l : List Dt} {i : Nat} {x : Dt}, okDs l → l[i]? = some x → okD x
  | y :: r, 0, x, h, hx => by rw [okDs] at h; simp at hx; subst hx; exact h.1
  | y :: r, i + 1, x, h, hx => by rw [okDs] at h; rw [List.getElem?_cons_succ] at hx; exact okDs_get h.2 hx
theorem okD.small {d : Dt} (h : okD d) : small (sizeD d) := by cases d; rw [okD] at h; exact h.2.2.1
theorem quiet_drew {P : Program} {f : FuncId} {args : Array Value} {w : World} {n : Nat} {v : Value}
    (h : Calls P f args (w.drewN n) fun e w' => e = .returned v ∧ ∃ m, w' = (w.drewN n).drewN m) : Calls P f args (w.drewN n) fun e w'' => e = .returned v ∧ ∃ m, w'' = w.drewN m :=
  h.mono fun _ _ ⟨he, m, hm⟩ => ⟨he, n + m, by rw [hm, World.drewN_drewN]⟩
theorem sumD_bound {ds : List Dt} (h : okDs ds) : ∀ k : Nat, -(1099511627776 * (k : Int)) ≤ sumD (ds.take k) ∧ sumD (ds.take k) ≤ 1099511627776 * (k : Int)
  | 0 => by simp [sumD]
  | k + 1 => by
    have ih := sumD_bound h k
    by_cases hk : k < ds.length
    · have hx := List.getElem?_eq_getElem hk
      have hs := (okDs_get h hx).small
      unfold Go.Proofs.YtpaamhmighgjeaaGreat.small at hs
      rw [sumD_succ ds k _ hx]
      omega
    · rw [List.take_of_length_le (by omega)] at ih ⊢
      omega
theorem all_nonneg {ds : List Dt} {k : Nat} (h : ∀ i x, i < k → ds[i]? = some x → 0 ≤ sizeD x) (hk : ds.length ≤ k) : ∀ d ∈ ds, 0 ≤ sizeD d := fun d hd => by
  obtain ⟨i, hi, rfl⟩ := List.mem_iff_getElem.1 hd
  exact h i _ (by omega) (List.getElem?_eq_getElem hi)

set_option maxHeartbeats 1000000 in
theorem size_step (N : Nat) (IH : ∀ (d : Dt) (p : Nat) (w : World), d.deep ≤ N → okD d → DAt w d p → Calls Tryz.prog 87 #[.pointer (some ⟨p, 0, none⟩)] w fun e w' => e = .returned (.int .i64 (sizeD d)) ∧ ∃ m, w' = w.drewN m) :
    ∀ (d : Dt) (p : Nat) (w : World), d.deep ≤ N + 1 → okD d → DAt w d p → Calls Tryz.prog 87 #[.pointer (some ⟨p, 0, none⟩)] w fun e w' => e = .returned (.int .i64 (sizeD d)) ∧ ∃ m, w' = w.drewN m
  | .mk f n ds, p, w, hN, hok, hD => by
    replace IH := hid IH
    have hok' := hok
    rw [okD] at hok
    obtain ⟨hf8, hn, hsm, hdl, hf4, hokd⟩ := hok
    rw [DAt] at hD
    obtain ⟨c0, c1, ao, cap, c2, hcap, hcm, hds⟩ := hD
    unfold maxLen at hcm
    unfold small at hsm
    have hdeep : ∀ (i : Nat) (x : Dt), ds[i]? = some x → x.deep ≤ N := fun i x hx => by
      have := deepD_get hx
      rw [Dt.deep] at hN
      omega
    have HDP := hid hdeep
    clear hdeep hN
    by_cases h4 : f = 4
    · subst h4
      obtain ⟨d0, r, rfl⟩ : ∃ d0 r, ds = d0 :: r := by
        cases ds with
        | nil => have := hf4 rfl; simp at this
        | cons d0 r => exact ⟨d0, r, rfl⟩
      obtain ⟨b, off, rfl, hDs⟩ : ∃ b off, ao = some ⟨b, off, none⟩ ∧ DsAt w (d0 :: r) b off := by
        rcases hds with h | h
        · simp at h
        · exact h
      obtain ⟨q, hq, hDq⟩ := DsAt.get (i := 0) (x := d0) hDs rfl
      rw [Nat.add_zero] at hq
      have he : sizeD (.mk 4 n (d0 :: r)) = (n : Int) * sizeD d0 := by simp [sizeD, sizeH]
      rw [he] at hsm ⊢
      have hCq := fun m => IH.out d0 q (w.drewN m) (HDP.out 0 d0 rfl) (okDs_get (i := 0) hokd rfl) (hDq.drewN m)
      have HCq := hid hCq
      clear hDs hds hDq he hCq hokd hok'
      generalize sizeD d0 = s at *
      generalize hns : (n : Int) * s = ns at *
      have hl : ((d0 :: r).length : Int) ≥ 1 := by simp; omega
      go_enter Tryz.func87, Tryz.ntmps87
      go_wp2
      go_quiet ((go_at_call 87; exact quiet_drew (HCq.out _)))
      go_wp2
      go_ret
      exact ⟨rfl, _, rfl⟩
    · by_cases h8 : f = 8
      · subst h8
        have he : sizeD (.mk 8 n ds) = sizeS ds := by simp [sizeD]
        rw [he] at hsm ⊢
        go_enter Tryz.func87, Tryz.ntmps87
        go_wp2
        go_loopw [3, 4, 5] (fun s i _ wr => ∃ k m : Nat, k ≤ ds.length ∧ i = .int .i64 k ∧ s = .int .i64 (sumD (ds.take k)) ∧ wr = w.drewN m ∧ ∀ i x, i < k → ds[i]? = some x → 0 ≤ sizeD x) (fun _ i _ _ => ds.length - (intOf i).toNat)
        case atStart => exact ⟨0, 0, Nat.zero_le _, rfl, rfl, rfl, fun i x h => absurd h (Nat.not_lt_zero _)⟩
        case round =>
          obtain ⟨k, m, hk, rfl, rfl, rfl, hnn⟩ := hrel
          have HNN := hid hnn
          clear hnn
          by_cases hlt : k < ds.length
          · obtain ⟨b, off, rfl, hDs⟩ : ∃ b off, ao = some ⟨b, off, none⟩ ∧ DsAt w ds b off := by
              rcases hds with h | h
              · omega
              · exact h
            have hx := List.getElem?_eq_getElem hlt
            obtain ⟨q, hq, hDq⟩ := DsAt.get hDs hx
            have hCq := IH.out _ q (w.drewN m) (HDP.out k _ hx) (okDs_get hokd hx) (hDq.drewN m)
            have hb1 := sumD_bound hokd k
            have hb2 := (okDs_get hokd hx).small
            unfold small at hb2
            have HSU := hid (sumD_succ ds k _ hx)
            have HNG := hid (sizeS_neg hx)
            have HX := hid hx
            have HCq := hid hCq
            clear hds hDs hDq hCq hx
            generalize sumD (ds.take k) = sk at *
            obtain ⟨x, hxx⟩ : ∃ x, ds[k] = x := ⟨_, rfl⟩
            rw [hxx] at HCq HSU HNG hb2 HX
            clear hxx
            obtain ⟨sx, hsx⟩ : ∃ sx, sizeD x = sx := ⟨_, rfl⟩
            rw [hsx] at HCq HSU hb2
            have HSX := hid hsx
            clear hsx
            by_cases hneg : sx < 0
            · go_wp2_with fail
              refine HCq.out.mono ?_
              rintro e w4 ⟨rfl, m4, rfl⟩
              go_wp2
              go_ret
              exact ⟨by rw [HNG.out (by rw [HSX.out]; exact hneg)]; rfl, m + m4, rfl⟩
            · go_wp2_with fail
              refine HCq.out.mono ?_
              rintro e w4 ⟨rfl, m4, rfl⟩
              go_wp2
              go_roundw
              case rel => exact ⟨k + 1, m + m4, by omega, by go_num, by rw [HSU.out], rfl, fun i y hi hy => by
                by_cases e : i = k
                · subst e
                  rw [HX.out] at hy
                  cases hy
                  rw [HSX.out]; omega
                · exact HNN.out i y (by omega) hy⟩
              case measure => simp [intOf]; omega
          · obtain rfl : k = ds.length := by omega
            have hss := (sizeS_sum (all_nonneg HNN.out (Nat.le_refl _))).1
            rw [List.take_length, ← hss]
            clear hss HNN
            go_wp2
            go_ret
            exact ⟨rfl, _, rfl⟩
      · clear IH HDP hokd hok' hds hf4
        have hcs : f = 0 ∨ f = 1 ∨ f = 2 ∨ f = 3 ∨ f = 5 ∨ f = 6 ∨ f = 7 := by omega
        rcases hcs with rfl | rfl | rfl | rfl | rfl | rfl | rfl
        all_goals
          simp only [sizeD] at hsm ⊢
          go_enter Tryz.func87, Tryz.ntmps87
          go_wp2
          go_ret
          refine ⟨?_, 0, rfl⟩
          first
            | rfl
            | (simp; done)
            | (refine ret_int ?_; simp; done)
            | (refine ret_int ?_; simp; omega)
theorem size_deep (N : Nat) : ∀ (d : Dt) (p : Nat) (w : World), d.deep ≤ N → okD d → DAt w d p → Calls Tryz.prog 87 #[.pointer (some ⟨p, 0, none⟩)] w fun e w' => e = .returned (.int .i64 (sizeD d)) ∧ ∃ m, w' = w.drewN m := by
  induction N with
  | zero => intro d p w h; cases d; rw [Dt.deep] at h; omega
  | succ N ih => exact size_step N ih
/-- Size: of a kind that lies in memory. -/
theorem size_any (d : Dt) (p : Nat) (w : World) (hok : okD d) (hD : DAt w d p) : Calls Tryz.prog 87 #[.pointer (some ⟨p, 0, none⟩)] w fun e w' => e = .returned (.int .i64 (sizeD d)) ∧ ∃ m, w' = w.drewN m :=
  size_deep d.deep d p w (Nat.le_refl _) hok hD
end Go.Proofs.YtpaamhmighgjeaaGreat

/- The fixed facts that every statement of layer 5 asks first hold. -/
namespace Go.Proofs.YtpaamhmighgjeaaGreat
open Go.RowKit Go.Shelf
set_option linter.unusedVariables false
set_option maxRecDepth 100000

theorem zeros163 : (Builtin.zeroCells (Value.int .u8 0).cells 163).toList = cellsB (zeros 163) := by kernel_rfl
theorem run_zeros163 (w : World) (ty : TypeId) (b : Nat) (hc : w.cell? ⟨b, 0, none⟩ = some (.int .u8 164)) :
    ∃ v' w', (Builtin.append_ #[39, 3] ty #[.slice (some ⟨b, 0, none⟩) 1 1, .int .i64 163]).run Tryz.prog w = .ok v' w' ∧ Row w' w.heap.size v' (164 :: zeros 163) ∧ Below w.heap.size w w' := by
  obtain ⟨i0, hi, hz0, hz1, hz2⟩ := info_parts Tryz.info5
  have hold : (Builtin.firstCells i0.size 1 (.slice (some ⟨b, 0, none⟩) 1 1)).run Tryz.prog w.drew = .ok ([Value.int .u8 164]).toArray w.drew := by
    refine run_firstCells_some w.drew _ _ _ _ _ [Value.int .u8 164] (by rw [hz1]; rfl) ?_
    intro j u hj
    match j, hj with
    | 0, hj => simp at hj; subst hj; exact hc
    | j + 1, hj => simp at hj
  have hr := Lib.run_append_grow_zeros (P := Tryz.prog) (ty := ty) w 39 3 5 i0 (.int .u8 0) .i64 .i64 Tryz.underlying39 (by kernel_rfl) hi hz0 (some ⟨b, 0, none⟩) 1 1 [Value.int .u8 164] hold 163 (by decide) (by omega) (by decide) (by decide) (by rw [hz2]; decide) (growslice_fits (by decide) (by rw [hz2]; decide))
  have hge := grownCap_ge w (1 + 163) 1 5
  have hcm : grownCap w (1 + 163) 1 5 ≤ maxLen := grownCap_le_maxLen w _ _ _ (by unfold maxLen; omega)
  refine ⟨_, _, hr, ?_, (below_drewN (Below.refl _ w) 1).alloc (Nat.le_refl _) _⟩
  generalize grownCap w (1 + 163) 1 5 = G at *
  refine ⟨by simp [cellsB, zeros_length], .inr ⟨w.heap.size, _, _, rfl, Nat.le_refl _, heap_alloc_new w.drew _, by simp [zeros_length]; omega, hcm, ?_, ?_⟩⟩
  · simp only [Array.size_append, List.size_toArray, size_zeroCells, Value.cells]
    simp
    omega
  · simp only [Array.toList_append]
    rw [zeros163]
    have e : [Value.int IntKind.u8 164] ++ cellsB (zeros 163) = cellsB (164 :: zeros 163) := rfl
    rw [e]
    exact List.take_left' (by simp [cellsB_length])
theorem wpList_buildNW {P : Program} {ops : Array Oper} {Q : Exit → Act → World → Prop} {a : Act} {w : World} {rest : List Oper} {o : Oper} (hw : Region.wanted o (yielded ops a.tmps) = true) (t : TypeId) (ho : o.op = .build t #[]) (cs : Array Value)
    (hb : P.built t [] = some cs) (h : wpList P ops Q rest (a.put o.dst (.agg cs)) w) : wpList P ops Q (o :: rest) a w :=
  BigFrame.wpList_want hw fun K hK => wp_build t #[] ho (by simp [hb]) (by simp only [List.map_toArray, List.map_nil, hb]; exact hK _ _ h)
theorem at0_built : Tryz.prog.built 58 [] = some at0.toArray := by kernel_rfl
theorem cp0_built : Tryz.prog.built 27 [] = some (cpC 0 (zeros 32)).toArray := by kernel_rfl
theorem Row.formC {w : World} {base : Nat} {v : Value} {bs : List Nat} (h : Row w base v bs) (h0 : 0 < bs.length) : ∃ g cap, v = .slice (some ⟨g, 0, none⟩) bs.length cap ∧ g < w.heap.size ∧ ∀ i, i < bs.length → w.cell? ⟨g, i, none⟩ = some (.int .u8 (bs.getD i 0 : Nat)) := by
  obtain ⟨hl, h⟩ := h
  rcases h with ⟨rfl, h1⟩ | ⟨g, cap, cur, rfl, hb, hg, hc, hm, hcs, htk⟩
  · omega
  · refine ⟨g, cap, rfl, (Array.getElem?_eq_some_iff.1 hg).1, fun i hi => ?_⟩
    rw [cell_of_row w g i cur _ (0, 0) hg]
    have : (cur.toList.take (bs.length * 1))[i]? = (cellsB bs)[i]? := by rw [htk]
    rw [List.getElem?_take, if_pos (by omega), Array.getElem?_toList] at this
    rw [this]
    simp [cellsB, List.getD_eq_getElem?_getD, hi]

theorem Row.slC {w : World} {base : Nat} {v : Value} {bs : List Nat} (h : Row w base v bs) (n : Nat) (hn : bs.length = n) : ∃ ao cap, v = .slice ao n cap := by
  subst hn
  rcases h.2 with ⟨rfl, h1⟩ | ⟨g, cap, cur, rfl, _, _, hc, _⟩
  · exact ⟨none, 0, by rw [h1]⟩
  · exact ⟨_, _, rfl⟩
theorem own_byteC (w : World) (r : Nat) : Row (w.alloc (.cells #[.int .u8 (r : Nat)] 5)) w.heap.size (.slice (some ⟨w.heap.size, 0, none⟩) 1 1) [r] := by
  refine ⟨by simp [cellsB], .inr ⟨w.heap.size, _, _, rfl, Nat.le_refl _, heap_alloc_new w _, Nat.le_refl _, by unfold maxLen; omega, by simp, by simp [cellsB]⟩⟩
theorem wpList_build_none {P : Program} {ops : Array Oper} {Q : Exit → Act → World → Prop} {a : Act} {w : World} {rest : List Oper} {o : Oper} (hgd : o.guard = none) (t : TypeId) (ho : o.op = .build t #[]) (cs : Array Value)
    (hb : P.built t [] = some cs) (h : wpList P ops Q rest (a.put o.dst (.agg cs)) w) : wpList P ops Q (o :: rest) a w :=
  wpList_plain hgd fun K hK => wp_build t #[] ho (by simp [hb]) (by simp only [List.map_toArray, List.map_nil, hb]; exact hK _ _ h)
structure AwkFacts (A0 : List Value) (B0 B1 : List Nat) : Prop where
  bA : Tryz.prog.built 58 [] = some A0.toArray
  att : ∀ wq, Calls Tryz.prog 17 #[.agg A0.toArray] wq fun x w' => ∃ v, x = .returned v ∧ Row w' wq.heap.size v B0 ∧ Below wq.heap.size wq w'
  toA : ∀ v wq, IsB wq v B1 → Calls Tryz.prog 18 #[v] wq fun x w' => x = .returned (.tuple #[.agg A0.toArray, .int .i64 3]) ∧ Below wq.heap.size wq w'
  ty : Ty Tryz.prog 58 A0
  one : A0.toArray.all (·.oneCell') = true
  l0 : B0.length = 165
  g0 : B0.getD 0 0 = 164
  g1 : B0.getD 164 0 = 1
  b1 : ∃ q, B1 = q ++ [0] ∧ q = 164 :: zeros 163
  l1 : B1.length = 165
  y1 : ∀ z ∈ B1, z < 256
theorem awkFacts : AwkFacts at0 (164 :: (zeros 163 ++ [1])) (164 :: (zeros 163 ++ [0])) := by
  have zb : ∀ z ∈ zeros 32, z < 256 := fun z hz => by unfold zeros at hz; rw [(List.mem_replicate.1 hz).2]; decide
  refine ⟨at0_built, fun wq => ?_, fun v wq hI => ?_, Tryz.ty58, at0_one, by kernel_rfl, by kernel_rfl, by kernel_rfl, ⟨_, rfl, rfl⟩, by kernel_rfl, ?_⟩
  · have h := attestation_any none 0 0 [] 0 0 (zeros 32) 0 (zeros 32) 0 (zeros 32) (zeros 32) wq (isT_nil wq) (by decide) (by decide) (by decide) (zeros_length 32) zb (by decide) (zeros_length 32) zb (by decide) (zeros_length 32) zb (zeros_length 32) zb
    rw [awk_bytes] at h
    exact h
  · exact toAt_bad v _ wq hI (by rw [show (164 :: (zeros 163 ++ [0])).length = 165 by kernel_rfl]; decide) (.inr awk_none)
  · intro z hz
    rcases List.mem_cons.1 hz with rfl | hz
    · decide
    · rcases List.mem_append.1 hz with hz | hz
      · unfold zeros at hz; rw [(List.mem_replicate.1 hz).2]; decide
      · rw [List.mem_singleton.1 hz]; decide

set_option maxHeartbeats 4000000 in
theorem awake_any (w : World) : Calls Tryz.prog 5 #[] w fun e w' => e = .returned (.bool true) ∧ Below w.heap.size w w' := by
  have HF := hid awkFacts
  have HCP := hid (fun wq => checkpoint_any 0 (zeros 32) wq (by decide) (zeros_length 32) (fun z hz => by unfold zeros at hz; rw [(List.mem_replicate.1 hz).2]; decide))
  have HCL := hid awk_cp
  have HCB := hid cp0_built
  obtain ⟨Zs, hZb, hZ⟩ := zSt_built
  have HZB : Same _ _ := ⟨hZb⟩
  have HS := hid (fun wq => state0_any Zs hZ wq)
  clear hZb hZ
  generalize at0 = A0 at HF
  generalize (164 :: (zeros 163 ++ [1])) = B0 at HF
  generalize (164 :: (zeros 163 ++ [0])) = B1 at HF
  generalize cpC 0 (zeros 32) = C0 at HCP HCB
  generalize cont (cpF 0 (zeros 32)) = D0 at HCP HCL
  have HBA : Same _ _ := ⟨HF.out.bA⟩
  have HBC : Same _ _ := ⟨HCB.out⟩
  clear HCB
  go_enter Tryz.func5, Tryz.ntmps5
  go_wp2_with (refine wpList_build_none rfl 58 rfl A0.toArray HBA.out ?_)
  refine (HF.out.att w).mono ?_
  rintro e w1 ⟨v1, rfl, R1, B1'⟩
  obtain ⟨g1, c1, rfl, hg1, hc1⟩ := R1.formC (by rw [HF.out.l0]; decide)
  rw [HF.out.l0] at hc1 ⊢
  have h10 := hc1 0 (by decide)
  have h11 := hc1 164 (by decide)
  rw [HF.out.g0] at h10
  rw [HF.out.g1] at h11
  obtain ⟨v2, w2, hr2, R2, B2⟩ := run_zeros163 (w1.alloc (.cells #[.int .u8 164] 5)) 39 w1.heap.size (cell_of_one (heap_alloc_new w1 _))
  have HR2 := hid R2
  have HB1 := hid B1'
  have HB2 := hid (below_more ((Below.refl _ w1).alloc (Nat.le_refl _) _) B2 (Nat.le_refl _))
  have HH0 := hid h10
  have HH1 := hid h11
  clear R1 B1' hc1 R2 B2 h10 h11
  go_wp2_with ((with_reducible refine at_list' ?_); first
    | (refine Lib.wpList_append_run _ rfl (.tmp 7) (.const (.int .i64 163)) _ _ rfl _ _ rfl rfl _ _ hr2 ?_)
    | (refine wpList_append_b rfl (.tmp 8) (.tmp 9) 39 rfl (w1.alloc (.cells #[.int .u8 164] 5)).heap.size v2 (164 :: zeros 163) rfl (HR2.out.below ((Below.refl _ w2).alloc (Nat.le_refl _) _)) (.slice (some ⟨w2.heap.size, 0, none⟩) 1 1) [0] rfl (by exact ((own_byteC w2 0).isB (fun z hz => by rw [List.mem_singleton.1 hz]; decide)).src) (by simp [zeros_length]) (by have := HB2.out.size; simp at this ⊢; omega) ?_; intro v3 w3 R3 G3 M3))
  obtain ⟨q0, hq1, hq2⟩ := HF.out.b1
  rw [← hq2, ← hq1] at R3
  have HI3 := hid (R3.isB HF.out.y1)
  have B3 := below_row (below_more HB2.out ((Below.refl _ w2).alloc (Nat.le_refl _) (.cells #[.int .u8 ((0 : Nat) : Int)] 5)) (Nat.le_refl _)) (by omega) ((HR2.out.below ((Below.refl _ w2).alloc (Nat.le_refl _) (.cells #[.int .u8 ((0 : Nat) : Int)] 5))).base (by simp)) G3
  have HB3 := hid B3
  clear R3 G3 M3 B3 hr2 hq1 hq2
  refine (HF.out.toA v3 w3 HI3.out).mono ?_
  rintro e w4 ⟨rfl, B4⟩
  have HB4 := hid (below_more HB3.out B4 (Nat.le_refl _))
  clear B4
  have HTY := hid HF.out.ty
  have HON := hid HF.out.one
  go_wp2_with ((with_reducible refine at_list' ?_); first
    | (refine wpList_alloc_c HTY.out rfl 2 rfl rfl ?_; intro w5 H5 B5 S5)
    | (refine wpList_store_c HTY.out rfl (.tmp 2) (.tmp 12) rfl w4.heap.size A0 rfl rfl rfl HON.out _ H5 rfl ?_; intro w6 H6 O6; have HB6 := hid (below_only (below_more HB4.out B5 (Nat.le_refl _)) O6 (HB4.out.size)); have k0 := cell_keep HB6.out HH0.out; have k1 := cell_keep HB6.out HH1.out)
    | (refine wpList_buildNW rfl 74 rfl Zs.toArray HZB.out ?_)
    | (refine wpList_buildNW rfl 27 rfl C0.toArray HBC.out ?_))
  refine (HS.out w6).mono ?_
  rintro e w7 ⟨v7, b7, rfl, R7, l7, B7⟩
  obtain ⟨a7, c7, rfl⟩ := Row.slC R7 1653 l7
  have HB7 := hid (below_more HB6.out B7 (Nat.le_refl _))
  clear R7 B7 l7
  go_wp2_with ((with_reducible refine at_list' ?_); (refine wpList_buildNW rfl 27 rfl C0.toArray HBC.out ?_))
  refine (HCP.out w7).mono ?_
  rintro e w8 ⟨v8, rfl, R8, B8⟩
  obtain ⟨a8, c8, rfl⟩ := Row.slC R8 40 HCL.out
  have HB8 := hid (below_more HB7.out B8 (Nat.le_refl _))
  clear R8 B8
  go_wp2
  go_ret
  exact ⟨rfl, below_more HB1.out HB8.out (Nat.le_refl _)⟩
end Go.Proofs.YtpaamhmighgjeaaGreat

/- The document's values of numbers, of roots, of parts; its kinds. -/
namespace Go.Proofs.YtpaamhmighgjeaaGreat
open Go.RowKit Go.Shelf
set_option linter.unusedVariables false
set_option maxRecDepth 100000

theorem Tryz.ty37 : Ty Tryz.prog 37 (valL 0 (zeros 32) nilS nilS) := ⟨by kernel_rfl, _, Tryz.underlying37, rfl⟩
theorem build_root (r : List Nat) (hr : r.length = 32) (w : World) : (Instr.build 37 #[(1, .agg (nums .u8 r))]).run Tryz.prog w = .ok (.agg (valL 0 r nilS nilS).toArray) w := by
  have ho : outC #[(1, Value.agg (nums .u8 r))].toList = cellsB r := by
    show (nums .u8 r).toList ++ [] = _
    rw [List.append_nil]; rfl
  have h := build_from Tryz.ty37 _ Tryz.underlying37 #[(0, 1), (1, 32), (33, 1), (34, 1)] (fun w => by kernel_rfl) #[(1, .agg (nums .u8 r))] 1 ⟨by show _ = some (1, (nums .u8 r).size); rw [nums_size, hr]; rfl, trivial⟩ (by rw [ho, cellsB_length, hr]; decide) w
  rw [ho, cellsB_length, hr] at h
  exact h
set_option maxHeartbeats 1000000 in
theorem n_any (n : Nat) (w : World) : Calls Tryz.prog 62 #[.int .u64 (n : Nat)] w fun x w' => x = .returned (.agg (valL n (zeros 32) nilS nilS).toArray) ∧ Below w.heap.size w w' := by
  go_enter Tryz.func62, Tryz.ntmps62
  go_wp2_with ((with_reducible refine at_list' ?_); first
    | (refine wpList_alloc_c Tryz.ty37 rfl 2 rfl rfl ?_; intro w1 H1 B1 S1)
    | (refine wpList_build_c rfl _ rfl #[(0, .int .u64 (n : Nat))] (by simp [Act.eval]) _ (build_num n _) ?_)
    | (refine wpList_store_c Tryz.ty37 rfl (.tmp 2) (.tmp 4) rfl w.heap.size (valL n (zeros 32) nilS nilS) rfl rfl rfl (valL_oneC _ _ _ _ trivial trivial) _ H1 rfl ?_; intro w2 H2 O2))
  exact bodyPost_ret (results_c1 Tryz.ty37 rfl _ w2 w.heap.size _ rfl H2 rfl) rfl ⟨rfl, below_only B1 O2 (Nat.le_refl _)⟩
set_option maxHeartbeats 1000000 in
theorem r_any (r : List Nat) (hr : r.length = 32) (w : World) : Calls Tryz.prog 24 #[.agg (nums .u8 r)] w fun x w' => x = .returned (.agg (valL 0 r nilS nilS).toArray) ∧ Below w.heap.size w w' := by
  have HR := hid hr
  clear hr
  go_enter Tryz.func24, Tryz.ntmps24
  go_wp2_with ((with_reducible refine at_list' ?_); first
    | (refine wpList_box_c rfl 1 rfl (.tmp 0) rfl (cellsB r) rfl ?_; intro w1 H1 B1 S1)
    | (refine wpList_alloc_c Tryz.ty37 rfl 2 rfl rfl ?_; intro w2 H2 B2 S2; rw [S1] at H2 S2; rw [S1])
    | (refine wpList_load_mid rfl 25 (.tmp 1) rfl w.heap.size 0 rfl (cellsB r) _ ((H1.keep B2).range 0 _ (fun j v hv => by rw [Nat.zero_add]; exact hv)) Tryz.und25 rfl (by rw [cellsB_length, HR.out]; exact Tryz.size25) ?_)
    | (refine wpList_build_c rfl _ rfl #[(1, .agg (nums .u8 r))] (by simp [Act.eval]; rfl) _ (build_root r HR.out _) ?_)
    | (refine wpList_store_c Tryz.ty37 rfl (.tmp 2) (.tmp 4) rfl (w.heap.size + 1) (valL 0 r nilS nilS) rfl rfl (by rw [valL_length _ _ _ _ HR.out]; rfl) (valL_oneC _ _ _ _ trivial trivial) _ H2 rfl ?_; intro w3 H3 O3))
  exact bodyPost_ret (results_c1 Tryz.ty37 rfl _ w3 (w.heap.size + 1) _ rfl H3 (by rw [valL_length _ _ _ _ HR.out]; rfl)) rfl ⟨rfl, below_only (B1.trans (B2.mono (by omega))) O3 (by omega)⟩
set_option maxHeartbeats 1000000 in
theorem all_any (ao : Option Addr) (l c : Nat) (w : World) : Calls Tryz.prog 21 #[.slice ao l c] w fun x w' => x = .returned (.agg (valL 0 (zeros 32) nilS (.slice ao l c)).toArray) ∧ Below w.heap.size w w' := by
  go_enter Tryz.func21, Tryz.ntmps21
  go_wp2_with ((with_reducible refine at_list' ?_); first
    | (refine wpList_alloc_c Tryz.ty37 rfl 2 rfl rfl ?_; intro w1 H1 B1 S1)
    | (refine wpList_build_c rfl _ rfl #[(3, .slice ao l c)] (by simp [Act.eval]) _ (build_kids ao l c _) ?_)
    | (refine wpList_store_c Tryz.ty37 rfl (.tmp 2) (.tmp 4) rfl w.heap.size (valL 0 (zeros 32) nilS (.slice ao l c)) rfl rfl rfl (valL_oneC _ _ _ _ trivial trivial) _ H1 rfl ?_; intro w2 H2 O2))
  exact bodyPost_ret (results_c1 Tryz.ty37 rfl _ w2 w.heap.size _ rfl H2 rfl) rfl ⟨rfl, below_only B1 O2 (Nat.le_refl _)⟩
end Go.Proofs.YtpaamhmighgjeaaGreat

/- The document's kinds: a number, a root, a Checkpoint. -/
namespace Go.Proofs.YtpaamhmighgjeaaGreat
open Go.RowKit Go.Shelf
set_option linter.unusedVariables false
set_option maxRecDepth 100000

def dNum : Dt := .mk 1 0 []
def dRoot : Dt := .mk 3 0 []
def dBox (l : List Dt) : Dt := .mk 8 0 l
theorem dAt_leaf {w : World} {p f : Nat} (h : w.heap[p]? = some (.cells #[.int .i64 (f : Nat), .int .i64 0, .slice none 0 0] 108 (0, 0))) : DAt w (.mk f 0 []) p := by
  rw [DAt]
  exact ⟨cell_of_row w p 0 _ _ (0, 0) h, cell_of_row w p 1 _ _ (0, 0) h, none, 0, cell_of_row w p 2 _ _ (0, 0) h, by simp, by simp, .inl rfl⟩
set_option maxHeartbeats 1000000 in
theorem num_any' (w : World) : Calls Tryz.prog 43 #[] w fun x w' => x = .returned (.pointer (some ⟨w.heap.size, 0, none⟩)) ∧ DAt w' dNum w.heap.size ∧ Below w.heap.size w w' := by
  go_enter Tryz.func43, Tryz.ntmps43
  go_wp2
  go_ret
  exact ⟨rfl, dAt_leaf (f := 1) (heap_alloc_new w _), (Below.refl _ w).alloc (Nat.le_refl _) _⟩
set_option maxHeartbeats 1000000 in
theorem root_any' (w : World) : Calls Tryz.prog 45 #[] w fun x w' => x = .returned (.pointer (some ⟨w.heap.size, 0, none⟩)) ∧ DAt w' dRoot w.heap.size ∧ Below w.heap.size w w' := by
  go_enter Tryz.func45, Tryz.ntmps45
  go_wp2
  go_ret
  exact ⟨rfl, dAt_leaf (f := 3) (heap_alloc_new w _), (Below.refl _ w).alloc (Nat.le_refl _) _⟩
set_option maxHeartbeats 1000000 in
/-- A kind of parts, over a slice of kinds. -/
theorem box_any (b n : Nat) (ds : List Dt) (w : World) (hn : ds.length = n) (hm : n ≤ maxLen) (hD : DsAt w ds b 0) : Calls Tryz.prog 41 #[.slice (some ⟨b, 0, none⟩) n n] w fun x w' => x = .returned (.pointer (some ⟨w.heap.size, 0, none⟩)) ∧ DAt w' (dBox ds) w.heap.size ∧ Below w.heap.size w w' := by
  have HD := hid hD
  have HM := hid hm
  have HN := hid hn
  clear hD hm hn
  go_enter Tryz.func41, Tryz.ntmps41
  go_wp2
  go_ret
  have hB : Below w.heap.size w (w.alloc (.cells #[.int .i64 8, .int .i64 0, .slice (some ⟨b, 0, none⟩) n n] 108)) := (Below.refl _ w).alloc (Nat.le_refl _) _
  have h := heap_alloc_new w (.cells #[.int .i64 8, .int .i64 0, .slice (some ⟨b, 0, none⟩) n n] 108)
  refine ⟨rfl, ?_, hB⟩
  rw [dBox, DAt]
  exact ⟨cell_of_row _ _ 0 _ _ (0, 0) h, cell_of_row _ _ 1 _ _ (0, 0) h, some ⟨b, 0, none⟩, n, by rw [HN.out]; exact cell_of_row _ _ 2 _ _ (0, 0) h, by rw [HN.out]; exact Nat.le_refl _, HM.out, .inr ⟨b, 0, rfl, DsAt.keep hB ds HD.out⟩⟩
set_option maxHeartbeats 1000000 in
theorem dcp_any (w : World) : Calls Tryz.prog 88 #[] w fun x w' => ∃ p, x = .returned (.pointer (some ⟨p, 0, none⟩)) ∧ DAt w' (dBox [dNum, dRoot]) p ∧ Below w.heap.size w w' := by
  go_enter Tryz.func88, Tryz.ntmps88
  go_wp2_with fail
  refine (num_any' w).mono ?_
  rintro e w1 ⟨rfl, q1, q2⟩
  have HN := hid (And.intro q1 q2)
  have s1 := q2.size
  clear q1 q2
  go_wp2_with fail
  refine (root_any' w1).mono ?_
  rintro e w2 ⟨rfl, q1, q2⟩
  have HD1 := hid (DAt.keep q2 dNum HN.out.1)
  have HD2 := hid q1
  have HB2 := hid (HN.out.2.trans (q2.mono (by omega)))
  have s2 := q2.size
  clear q1 q2 HN
  go_wp2_with fail
  have hB : Below w2.heap.size w2 (w2.alloc (.cells #[.pointer (some ⟨w.heap.size, 0, none⟩), .pointer (some ⟨w1.heap.size, 0, none⟩)] 45)) := (Below.refl _ w2).alloc (Nat.le_refl _) _
  have h := heap_alloc_new w2 (.cells #[.pointer (some ⟨w.heap.size, 0, none⟩), .pointer (some ⟨w1.heap.size, 0, none⟩)] 45)
  generalize w2.alloc (.cells #[.pointer (some ⟨w.heap.size, 0, none⟩), .pointer (some ⟨w1.heap.size, 0, none⟩)] 45) = w3 at hB h ⊢
  have hD : DsAt w3 [dNum, dRoot] w2.heap.size 0 := by
    rw [DsAt, DsAt, DsAt]
    exact ⟨⟨_, cell_of_row _ _ 0 _ _ (0, 0) h, DAt.keep hB _ HD1.out⟩, ⟨_, cell_of_row _ _ 1 _ _ (0, 0) h, DAt.keep hB _ HD2.out⟩, trivial⟩
  have HC := hid (box_any w2.heap.size 2 [dNum, dRoot] w3 rfl (by decide) hD)
  have HB3 := hid (HB2.out.trans (hB.mono (by omega)))
  have s3 := hB.size
  clear hB h hD
  refine HC.out.mono ?_
  rintro e w4 ⟨rfl, q1, q2⟩
  have X := hid (And.intro q1 q2)
  clear q1 q2 HC
  go_wp2
  go_ret
  exact ⟨_, rfl, X.out.1, HB3.out.trans (X.out.2.mono (by omega))⟩
end Go.Proofs.YtpaamhmighgjeaaGreat

/- The document's value of a Checkpoint. -/
namespace Go.Proofs.YtpaamhmighgjeaaGreat
open Go.RowKit Go.Shelf
set_option linter.unusedVariables false
set_option maxRecDepth 100000

theorem partsAt_rows (sz : Nat) : ∀ (vs : List (List Value)) (k : Nat), (∀ c ∈ vs, c.length = sz) → PartsAt (fun i => some (i * sz, sz)) (k * sz) ((vs.zipIdx k).map fun p => (p.2, Value.agg p.1.toArray)) := by
  intro vs
  induction vs with
  | nil => intro k _; trivial
  | cons c vs ih =>
    intro k h
    have hc := h c (List.mem_cons_self ..)
    rw [List.zipIdx_cons, List.map_cons, PartsAt]
    have e1 : (Value.agg c.toArray).cells.size = sz := hc
    rw [e1]
    refine ⟨rfl, ?_⟩
    have := ih (k + 1) (fun q hq => h q (List.mem_cons_of_mem _ hq))
    rw [Nat.add_mul, Nat.one_mul] at this
    exact this
theorem outC_rows : ∀ (vs : List (List Value)) (k : Nat), outC ((vs.zipIdx k).map fun p => (p.2, Value.agg p.1.toArray)) = vs.flatten := by
  intro vs
  induction vs with
  | nil => intro k; rfl
  | cons c vs ih => intro k; rw [List.zipIdx_cons, List.map_cons, outC, ih, List.flatten_cons]; rfl
theorem flatten_rows (sz : Nat) : ∀ vs : List (List Value), (∀ c ∈ vs, c.length = sz) → vs.flatten.length = vs.length * sz := by
  intro vs
  induction vs with
  | nil => intro _; simp
  | cons r rs ih => intro h; rw [List.flatten_cons, List.length_append, ih (fun q hq => h q (List.mem_cons_of_mem _ hq)), h r (List.mem_cons_self ..), List.length_cons, Nat.add_mul]; omega
/-- A slice of structs, made, in a flow. -/
theorem flow_rows {P : Program} {o : Oper} {a : Act} {w : World} {Q : Exit → Act → World → Prop} {I : Value → World → Prop} (t e : TypeId) (n sz : Nat) (ps : Array (Nat × Operand)) (ho : o.op = .buildSlice t n ps) (hu : P.underlying t = some (.slice e)) (hi : (P.info? e).map (fun i => (i.zero.isSome, i.size)) = some (true, sz))
    (vs : List (List Value)) (xs : List Operand) (hps : ps.toList = (xs.zipIdx 0).map fun p => (p.2, p.1)) (hx0 : xs.map a.eval = vs.map fun c => Value.agg c.toArray) (hc : ∀ c ∈ vs, c.length = sz) (hn : vs.length = n) (hn0 : 0 < n) (hs0 : 0 < sz) (hn1 : n * sz ≤ 16777216)
    (h : ∀ w', HasC w' w.heap.size e vs.flatten → I (.slice (some ⟨w.heap.size, 0, none⟩) n n) w') : o.wp P a w (fun a' w' => ∃ v, a' = a.put o.dst v ∧ I v w' ∧ Below w.heap.size w w') Q := by
  have hx : (ps.map fun (i, x) => (i, a.eval x)).toList = (vs.zipIdx 0).map fun p => (p.2, Value.agg p.1.toArray) := by
    have e1 : ((xs.map a.eval).zipIdx 0).map (fun p => (p.2, p.1)) = ((vs.map fun c => Value.agg c.toArray).zipIdx 0).map (fun p => (p.2, p.1)) := by rw [hx0]
    rw [List.zipIdx_map, List.zipIdx_map, List.map_map, List.map_map] at e1
    rw [Array.toList_map, hps, List.map_map]
    exact e1
  cases hq : P.info? e with
  | none => rw [hq] at hi; cases hi
  | some ie =>
    rw [hq] at hi
    simp only [Option.map_some, Option.some.injEq, Prod.mk.injEq] at hi
    obtain ⟨z, hz⟩ := Option.isSome_iff_exists.1 hi.1
    refine wp_buildSlice t e n ps ho vs.flatten.toArray ie z hu hq hz (by rw [hi.2]; omega) (by rw [hi.2]; have := Nat.mul_pos hn0 hs0; omega) ?_ ⟨_, rfl, h _ (heap_alloc_new w _), (Below.refl _ w).alloc (Nat.le_refl _) _⟩
    rw [hx, hi.2]
    have hfl := flatten_rows sz vs hc
    have hf := fill_out (fun i => some (i * sz, sz)) ((vs.zipIdx 0).map fun p => (p.2, Value.agg p.1.toArray)) 0 ((Array.range (n * sz)).map (z.cells[· % z.cells.size]!)).toList (by have := partsAt_rows sz vs 0 hc; rw [Nat.zero_mul] at this; exact this) (by rw [outC_rows, hfl, hn]; simp)
    rw [outC_rows, List.take_zero, List.nil_append, Nat.zero_add, List.drop_of_length_le (by rw [hfl, hn]; simp), List.append_nil] at hf
    exact hf
theorem valInfo : (Tryz.prog.info? 37).map (fun i => (i.zero.isSome, i.size)) = some (true, 35) := by kernel_rfl
def cpV (e : Nat) (r : List Nat) : Vt := .mk 0 (zeros 32) [] [.mk e (zeros 32) [] [], .mk 0 r [] []]

theorem vAt_leaf (w : World) {n : Nat} {r : List Nat} (hn : n < 18446744073709551616) (hr : r.length = 32) (h8 : ∀ z ∈ r, z < 256) : VAt w (.mk n r [] []) nilS nilS := by
  rw [VAt]
  exact ⟨⟨hn, hr, h8⟩, isT_nil w, none, 0, rfl, Nat.le_refl _, by decide, .inl rfl⟩
theorem hcB {w w' : World} (h : Cls w w') : Below w.heap.size w w' := h.bel

set_option maxHeartbeats 1000000 in
theorem refCp_any (e : Nat) (r : List Nat) (w : World) (he : e < 18446744073709551616) (hr : r.length = 32) (h8 : ∀ z ∈ r, z < 256) :
    Calls Tryz.prog 63 #[.agg (cpC e r).toArray] w fun x w' => ∃ v, x = .returned v ∧ IsV w' v (cpV e r) ∧ Below w.heap.size w w' := by
  have HR := hid hr
  have H8 := hid h8
  clear hr h8
  go_enter Tryz.func63, Tryz.ntmps63
  go_wp2_with ((with_reducible refine at_list' ?_); first
    | (refine wpList_box_c rfl 1 rfl (.tmp 0) rfl (cpC e r) rfl ?_; intro w1 H1 B1 S1)
    | (refine wpList_alloc_c Tryz.ty37 rfl 2 rfl rfl ?_; intro w2 H2 B2 S2; rw [S1] at H2 S2; rw [S1]))
  have HX := hid (H1.keep B2)
  have HY := hid H2
  have HB := hid (B1.trans (B2.mono (by omega)))
  have s2 : w2.heap.size = w.heap.size + 2 := by omega
  clear H1 B1 S1 H2 B2 S2
  try simp only [Act.put, List.setIfInBounds_toArray, List.set_cons_succ, List.set_cons_zero]
  refine wp_region_flow 8 8 (fun i v wq => match i with
    | 0 => v = .pointer (some ⟨w.heap.size, 0, none⟩)
    | 1 => v = .int .u64 (e : Nat)
    | 2 => v = .agg (valL e (zeros 32) nilS nilS).toArray
    | 3 => v = .pointer (some ⟨w.heap.size, 1, none⟩)
    | 4 => v = .agg (nums .u8 r)
    | 5 => v = .agg (valL 0 r nilS nilS).toArray
    | 6 => ∃ b, v = .slice (some ⟨b, 0, none⟩) 2 2 ∧ HasC wq b 37 ((valL e (zeros 32) nilS nilS) ++ ((valL 0 r nilS nilS) ++ []))
    | _ => ∃ b, v = .agg (valL 0 (zeros 32) nilS (.slice (some ⟨b, 0, none⟩) 2 2)).toArray ∧ HasC wq b 37 ((valL e (zeros 32) nilS nilS) ++ ((valL 0 r nilS nilS) ++ []))) (by kernel_rfl) (by kernel_rfl) (fun _ d _ _ _ h => by cases d <;> exact h) ?_ ?_ ?_ ?_
  · intro i v wq wq' hi hv hb
    match i, hi with
    | 0, _ => exact hv
    | 1, _ => exact hv
    | 2, _ => exact hv
    | 3, _ => exact hv
    | 4, _ => exact hv
    | 5, _ => exact hv
    | 6, _ => obtain ⟨b, h1, h2⟩ := hv; exact ⟨b, h1, h2.keep hb⟩
    | 7, _ => obtain ⟨b, h1, h2⟩ := hv; exact ⟨b, h1, h2.keep hb⟩
    | (k + 8), hk => exact absurd hk (by omega)
  · intro i o hi ho aq wq hc hk hdep
    match i, hi with
    | 0, _ =>
      cases ho
      have e1 : aq.tmps.getD 1 undef = .pointer (some ⟨w.heap.size, 0, none⟩) := hk 1 (by decide)
      exact flow_value _ (run_fieldAt 27 (.tmp 1) 0 rfl _ _ e1 (by kernel_rfl)) rfl
    | 1, _ =>
      cases ho
      have e0 : aq.tmps.getD 3 undef = .pointer (some ⟨w.heap.size, 0, none⟩) := hdep 0 3 rfl (by kernel_rfl)
      exact flow_value _ (run_cell 23 (.tmp 3) rfl _ e0 _ ((HX.out.keep (hcB hc)).cell rfl) _ Tryz.underlying23 rfl) rfl
    | 2, _ =>
      cases ho
      have e1 : aq.tmps.getD 4 undef = .int .u64 (e : Nat) := hdep 1 4 rfl (by kernel_rfl)
      refine flow_fun 62 _ _ rfl (fun _ _ => by simp [go_sem]) #[.int .u64 (e : Nat)] (by rw [show (#[Operand.tmp 4] : Array Operand).map aq.eval = #[aq.tmps.getD 4 undef] from by simp [Act.eval], e1]) ?_
      refine (n_any e wq).mono ?_
      rintro x w' ⟨rfl, q⟩
      exact ⟨_, rfl, rfl, q⟩
    | 3, _ =>
      cases ho
      have e1 : aq.tmps.getD 1 undef = .pointer (some ⟨w.heap.size, 0, none⟩) := hk 1 (by decide)
      exact flow_value _ (run_fieldAt 27 (.tmp 1) 1 rfl _ _ e1 (by kernel_rfl)) rfl
    | 4, _ =>
      cases ho
      have e0 : aq.tmps.getD 6 undef = .pointer (some ⟨w.heap.size, 1, none⟩) := hdep 3 6 rfl (by kernel_rfl)
      exact flow_value _ (run_mid 25 (.tmp 6) rfl w.heap.size 1 e0 (cellsB r) ((HX.out.keep (hcB hc)).range 1 (cellsB r) (fun j v hv => by rw [Nat.add_comm]; exact hv)) _ Tryz.und25 rfl (by rw [cellsB_length, HR.out]; exact Tryz.size25)) rfl
    | 5, _ =>
      cases ho
      have e1 : aq.tmps.getD 7 undef = .agg (nums .u8 r) := hdep 4 7 rfl (by kernel_rfl)
      refine flow_fun 24 _ _ rfl (fun _ _ => by simp [go_sem]) #[.agg (nums .u8 r)] (by rw [show (#[Operand.tmp 7] : Array Operand).map aq.eval = #[aq.tmps.getD 7 undef] from by simp [Act.eval], e1]) ?_
      refine (r_any r HR.out wq).mono ?_
      rintro x w' ⟨rfl, q⟩
      exact ⟨_, rfl, rfl, q⟩
    | 6, _ =>
      cases ho
      have e2 : aq.tmps.getD 5 undef = .agg (valL e (zeros 32) nilS nilS).toArray := hdep 2 5 rfl (by kernel_rfl)
      have e5 : aq.tmps.getD 8 undef = .agg (valL 0 r nilS nilS).toArray := hdep 5 8 rfl (by kernel_rfl)
      exact flow_rows 35 37 2 35 _ rfl Tryz.underlying35 valInfo [(valL e (zeros 32) nilS nilS), (valL 0 r nilS nilS)] [.tmp 5, .tmp 8] rfl (by rw [show [Operand.tmp 5, Operand.tmp 8].map aq.eval = [aq.tmps.getD 5 undef, aq.tmps.getD 8 undef] from rfl, e2, e5]; rfl) (by simp [valL_length, zeros32, HR.out]) rfl (by decide) (by decide) (by decide) (fun w' h => ⟨_, rfl, h⟩)
    | 7, _ =>
      cases ho
      obtain ⟨b, e6, h6⟩ := hdep 6 9 rfl (by kernel_rfl)
      refine flow_fun 21 _ _ rfl (fun _ _ => by simp [go_sem]) #[.slice (some ⟨b, 0, none⟩) 2 2] (by rw [show (#[Operand.tmp 9] : Array Operand).map aq.eval = #[aq.tmps.getD 9 undef] from by simp [Act.eval], e6]) ?_
      refine (all_any (some ⟨b, 0, none⟩) 2 2 wq).mono ?_
      rintro x w' ⟨rfl, q⟩
      exact ⟨_, rfl, ⟨b, rfl, h6.keep q⟩, q⟩
    | (k + 8), hk => exact absurd hk (by omega)
  · intro o h8 ho
    omega
  intro vf w8 hc hv
  have e7 : ∃ b, vf 7 = _ ∧ HasC w8 b 37 _ := hv 7 10 (by decide) rfl
  obtain ⟨b, e7, h7⟩ := e7
  have B8 := HB.out.trans ((hcB hc).mono (by omega))
  have H8v := HY.out.keep (hcB hc)
  have s8 := (hcB hc).size
  clear hv hc
  simp only [List.take_succ_cons, List.take_zero, List.drop_succ_cons, List.drop_zero, putAll, Act.put, List.setIfInBounds_toArray, List.set_cons_succ, List.set_cons_zero]
  rw [e7]
  have HB8 := hid B8
  have HK := hid h7
  clear B8 h7 e7 HB
  go_wp2_with ((with_reducible refine at_list' ?_); first
    | (refine wpList_store_c Tryz.ty37 rfl (.tmp 2) (.tmp 10) rfl (w.heap.size + 1) (valL 0 (zeros 32) nilS (.slice (some ⟨b, 0, none⟩) 2 2)) rfl rfl rfl (valL_oneC _ _ _ _ trivial trivial) _ H8v rfl ?_; intro w9 H9 O9))
  refine bodyPost_ret (results_c1 Tryz.ty37 rfl _ w9 (w.heap.size + 1) _ rfl H9 rfl) rfl ⟨_, rfl, ?_, below_only HB8.out O9 (by omega)⟩
  have hbn : b ≠ w.heap.size + 1 := fun eb => by
    have h1 := HK.out
    rw [eb] at h1
    unfold HasC at h1 H8v
    rw [H8v] at h1
    have h2 := congrArg Array.size (Obj.cells.inj (Option.some.inj h1)).1
    simp [valL_length, zeros32, HR.out] at h2
  have h9 := HK.out.only O9 hbn
  refine ⟨nilS, _, rfl, ?_⟩
  rw [cpV, VAt]
  refine ⟨⟨by decide, zeros32, zeros_byte 32⟩, isT_nil w9, some ⟨b, 0, none⟩, 2, rfl, Nat.le_refl _, by decide, .inr ⟨b, 0, rfl, ?_⟩⟩
  rw [KsAt, KsAt, KsAt]
  refine ⟨⟨nilS, nilS, h9.range 0 _ (fun j v hv => ?_), vAt_leaf w9 he zeros32 (zeros_byte 32)⟩, ⟨nilS, nilS, h9.range 35 _ (fun j v hv => ?_), vAt_leaf w9 (by decide) HR.out H8.out⟩, trivial⟩
  · have hj : j < (valL e (zeros 32) nilS nilS).length := (List.getElem?_eq_some_iff.1 hv).1
    rw [Nat.zero_add, List.getElem?_append_left hj]
    exact hv
  · have hl : (valL e (zeros 32) nilS nilS).length = 35 := valL_length _ _ _ _ zeros32
    rw [List.append_nil, List.getElem?_append_right (by omega), hl, Nat.add_sub_cancel_left]
    exact hv
end Go.Proofs.YtpaamhmighgjeaaGreat

/- The document's Encode of a number and of a root. -/
namespace Go.Proofs.YtpaamhmighgjeaaGreat
open Go.RowKit Go.Shelf
set_option linter.unusedVariables false
set_option maxRecDepth 100000

theorem refput_le5 (n : Nat) (size : Nat) (hn : n < 18446744073709551616) (hs : size ≤ 2147483647) (w : World) :
    Calls Tryz.prog 38 #[.int .u64 (n : Nat), .int .i64 (size : Nat)] w fun e w' => ∃ v, e = .returned v ∧ Row w' w.heap.size v (le n size) ∧ Below w.heap.size w w' := by
  refine (refPut_any n (size : Int) hn (by omega) w).mono ?_
  rintro e w' ⟨v, rfl, h1, h2⟩
  refine ⟨v, rfl, ?_, h2⟩
  rw [Int.toNat_natCast, putL_le] at h1
  unfold Row
  rw [le_length]
  exact h1

set_option maxHeartbeats 1000000 in
theorem enc_num (n : Nat) (r : List Nat) (sb sk : Value) (p : Nat) (w : World) (hn : n < 18446744073709551616) (hr : r.length = 32) (hD : DAt w dNum p) :
    Calls Tryz.prog 10 #[.pointer (some ⟨p, 0, none⟩), .agg (valL n r sb sk).toArray] w fun x w' => ∃ v, x = .returned v ∧ Row w' w.heap.size v (le n 8) ∧ Below w.heap.size w w' := by
  rw [dNum, DAt] at hD
  have d0 := hD.1
  clear hD
  go_enter Tryz.func10, Tryz.ntmps10
  go_wp2_with ((with_reducible refine at_list' ?_); first
    | (refine wpList_box_c rfl 3 rfl (.tmp 1) rfl (valL n r sb sk) rfl ?_; intro w1 H1 B1 S1; have hc0 := H1.cell (j := 0) (v := .int .u64 (n : Nat)) rfl; have d1 := cell_keep B1 d0))
  have HB := hid B1
  have s1 := S1
  clear H1 B1 S1 hc0 d1 d0
  refine (refput_le5 n 8 hn (by decide) w1).mono ?_
  rintro x w2 ⟨v, rfl, q1, q2⟩
  have X := hid (And.intro q1 q2)
  clear q1 q2
  go_wp2
  go_ret
  exact ⟨v, rfl, X.out.1.base (by omega), HB.out.trans (X.out.2.mono (by omega))⟩

theorem row0 {n : Nat} (w1 : World) (h : w1.heap.size = n + 1) : Row (w1.alloc (.cells #[] 5)) (n + 1) (.slice (some ⟨n + 1, 0, none⟩) 0 0) [] := by
  refine ⟨rfl, .inr ⟨n + 1, 0, #[], rfl, Nat.le_refl _, ?_, Nat.le_refl _, by decide, rfl, rfl⟩⟩
  rw [← h]
  exact heap_alloc_new w1 _
theorem srcRoot {w1 : World} {g n : Nat} {r : List Nat} {sb sk : Value} {o : Obj} (h : HasC w1 g 37 (valL n r sb sk)) (hr : r.length = 32) (h8 : ∀ z ∈ r, z < 256) : IsB (w1.alloc o) (.slice (some ⟨g, 1, none⟩) 32 32) r := by
  have hk := h.keep ((Below.refl _ w1).alloc (Nat.le_refl _) o)
  refine ⟨⟨some ⟨g, 1, none⟩, 32, by rw [hr], by rw [hr]; exact Nat.le_refl _, by decide, (fun e => by cases e), .inr ⟨g, 1, rfl, fun i hi => ?_⟩⟩, h8⟩
  refine hk.cell (valL_root n r sb sk i _ ?_)
  rw [cellsB, List.getElem?_map, List.getElem?_eq_getElem hi, List.getD_eq_getElem?_getD, List.getElem?_eq_getElem hi]
  rfl

set_option maxHeartbeats 1000000 in
theorem enc_root (n : Nat) (r : List Nat) (sb sk : Value) (p : Nat) (w : World) (hr : r.length = 32) (h8 : ∀ z ∈ r, z < 256) (hD : DAt w dRoot p) :
    Calls Tryz.prog 10 #[.pointer (some ⟨p, 0, none⟩), .agg (valL n r sb sk).toArray] w fun x w' => ∃ v, x = .returned v ∧ Row w' w.heap.size v r ∧ Below w.heap.size w w' := by
  rw [dRoot, DAt] at hD
  have d0 := hD.1
  clear hD
  have HR := hid hr
  have H8 := hid h8
  clear hr h8
  go_enter Tryz.func10, Tryz.ntmps10
  go_wp2_with ((with_reducible refine at_list' ?_); first
    | (refine wpList_box_c rfl 3 rfl (.tmp 1) rfl (valL n r sb sk) rfl ?_; intro w1 H1 B1 S1; have d1 := cell_keep B1 d0; have h1 := hid H1; have b1 := hid B1; clear H1 B1)
    | (refine wpList_append_b rfl (.tmp 24) (.tmp 26) 39 rfl (w.heap.size + 1) (.slice (some ⟨w.heap.size + 1, 0, none⟩) 0 0) [] rfl (row0 w1 S1) (.slice (some ⟨w.heap.size, 1, none⟩) 32 32) r rfl (by exact (srcRoot (o := .cells #[] 5) h1.out HR.out H8.out).src) (by rw [HR.out]; decide) (by simp; omega) ?_; intro v' w' r1 r2 r3))
  go_ret
  refine ⟨v', rfl, r1.base (by omega), ?_⟩
  have hb2 : Below w1.heap.size w1 (w1.alloc (.cells #[] 5)) := (Below.refl _ w1).alloc (Nat.le_refl _) _
  have hb := b1.out.trans (hb2.mono (by omega))
  exact ⟨r2.os.trans hb.os, r2.tape.trans hb.tape, r2.output.trans hb.output, Nat.le_trans hb.size r2.size, fun k hk => (r2.block k (Nat.lt_of_lt_of_le hk hb.size) (fun e => by simp [Value.ownBlock] at e; omega)).trans (hb.block k hk)⟩
end Go.Proofs.YtpaamhmighgjeaaGreat

/- The document's PutBits, bits, and Size of kinds without kinds in them. -/
namespace Go.Proofs.YtpaamhmighgjeaaGreat
open Go.RowKit
set_option linter.unusedVariables false
set_option maxRecDepth 100000

theorem putB_end (l : List Bool) : putB (l ++ [true]) false = putB l true := by
  refine bytes_ext (by rw [putB_length, putB_length]; simp) (putB_byte _ _) (putB_byte _ _) fun j hj => ?_
  rw [putB_bit_false, putB_bit_true, List.getD_eq_getElem?_getD, List.getD_eq_getElem?_getD, List.getElem?_append]
  by_cases h : j < l.length
  · rw [if_pos h]
    have : ¬ l.length = j := by omega
    simp [this]
  · rw [if_neg h]
    by_cases h2 : l.length = j
    · subst h2; simp
    · have : j - l.length ≠ 0 := by omega
      rw [List.getElem?_eq_none (by simp; omega), List.getElem?_eq_none (by omega)]
      simp [h2]

set_option maxHeartbeats 2000000 in
theorem rputBits_any (v : Value) (l : List Bool) (e : Bool) (w : World) (hT : IsT w v l) (hl : l.length ≤ 1099511627776) :
    Calls Tryz.prog 39 #[v, .bool e] w fun r w' => ∃ v', r = .returned v' ∧ Row w' w.heap.size v' (putB l e) ∧ Below w.heap.size w w' := by
  obtain ⟨ao, cap, rfl, hcap, hmx, hc⟩ := hT
  obtain ⟨l', hl'⟩ : ∃ l', l' = l ++ (if e then [true] else []) := ⟨_, rfl⟩
  have hlen : l'.length = l.length + (if e then 1 else 0) := by rw [hl']; cases e <;> simp
  have hput : putB l e = upB l' (zeros ((l'.length + 7) / 8)) l'.length := by
    have : putB l e = putB l' false := by
      rw [hl']
      cases e
      · simp
      · simp [putB_end]
    rw [this]; rfl
  have hat : ∀ k, k < l'.length → l'.getD k false = (decide (k = l.length) || l.getD k false) := by
    intro k hk
    rw [hl', List.getD_eq_getElem?_getD, List.getD_eq_getElem?_getD, List.getElem?_append]
    by_cases h : k < l.length
    · rw [if_pos h]
      have : k ≠ l.length := by omega
      simp [this]
    · rw [if_neg h]
      cases e
      · simp at hlen; omega
      · simp at hlen
        have : k = l.length := by omega
        subst this
        simp
  obtain ⟨N, hN⟩ : ∃ N, l'.length = N := ⟨_, rfl⟩
  obtain ⟨m, hm⟩ : ∃ m, (N + 7) / 8 = m := ⟨_, rfl⟩
  have hle : l.length ≤ N := by rw [hlen] at hN; omega
  have hle2 : N ≤ l.length + 1 := by rw [hlen] at hN; split at hN <;> omega
  rw [hN, hm] at hput
  rw [hN] at hat
  have HP := hid hput
  have HA := hid hat
  have HM := hid hm
  have hZ := hid (zeros_length m)
  rw [hN] at hlen
  clear hput hat hN hm hl'
  unfold maxLen at hmx
  cases e
  all_goals
    have hN1 := hlen
    simp only [if_true, Bool.false_eq_true, if_false, Nat.add_zero] at hN1
    have hNlo := Nat.le_of_eq hN1
    have hNhi := Nat.le_of_eq hN1.symm
    have HNN := hid hN1
    clear hlen hN1
    go_enter Tryz.func39, Tryz.ntmps39
    go_wp2_with (refine wpList_make_has rfl _ _ 39 rfl 5 .u8 Tryz.underlying39 Tryz.zero5 .i64 .i64 _ _ m rfl rfl (by have := HM.out; have := HNN.out; omega) (by have := HM.out; have := HNN.out; omega) (by have := HM.out; omega) ?_; intro w1 H1 B1)
    have HH1 := hid H1
    have HB1 := hid B1
    clear H1 B1
    go_loopw [7] (fun i wr => ∃ k : Nat, k ≤ N ∧ i = .int .i64 k ∧ Has wr w.heap.size 5 .u8 (upB l' (zeros m) k) ∧ Below w.heap.size w wr) (fun i _ => N - (intOf i).toNat)
    case atStart => exact ⟨0, Nat.zero_le _, rfl, HH1.out, HB1.out⟩
    case round =>
      obtain ⟨k, hk, rfl, hH, hB⟩ := hrel
      have hNe := HNN.out
      have hlen : (upB l' (zeros m) k).length = m := (upB_length l' _ k).trans hZ.out
      have HHH := hid hH
      have HBB := hid hB
      by_cases hlt : k < N
      · have hm8 := HM.out
        have hk8 : k / 8 < m := by omega
        have hcl := hH.cell (k / 8) (by omega)
        have hfr := hH.frozen (k / 8)
        have hpw := pow_u8 (k % 8) (Nat.mod_lt _ (by decide))
        have hby := byte_at (upB_byte l' m k) (k / 8)
        have hor := or_u8 _ _ hby hpw
        have hat := HA.out k hlt
        have HU : Same (upB l' (zeros m) (k + 1)) (if l'.getD k false then bset (upB l' (zeros m) k) k else upB l' (zeros m) k) := ⟨rfl⟩
        have hset : bset (upB l' (zeros m) k) k = (upB l' (zeros m) k).set (k / 8) ((upB l' (zeros m) k).getD (k / 8) 0 ||| 2 ^ (k % 8)) := rfl
        rw [hset] at HU
        clear hset hm8 hNe hlen
        generalize hy : (upB l' (zeros m) k).getD (k / 8) 0 = y at *
        have HE : Same (bits BinOp.or IntKind.u8 (y : Int) (2 ^ (k % 8) % 256)) (((y ||| 2 ^ (k % 8) : Nat)) : Int) := ⟨by
          rw [← hor]
          congr 1
          have e : ((2 : Int) ^ (k % 8)) = ((2 ^ (k % 8) : Nat) : Int) := by simp
          rw [e]
          generalize 2 ^ (k % 8) = p at hpw ⊢
          omega⟩
        clear hor hpw hH hB hy
        by_cases hkl : k = l.length
        · first
          | (exfalso; omega)
          | (skip
             have hq : ((k : Int) == ((l.length : Nat) : Int)) = true := by rw [beq_iff_eq]; omega
             have ht : l'.getD k false = true := by rw [hat]; simp [hkl]
             rw [ht, if_pos rfl] at HU
             clear ht hat hkl
             go_wp2
             refine wp_region_quiet_tail 13 (by kernel_rfl) (by kernel_rfl) ?_
             simp only [List.take_succ_cons, List.take_zero, List.drop_succ_cons, List.drop_zero]
             repeat (go_big_quiet_step (fail))
             refine wpQuiet_nil ?_
             intro _ hw'
             obtain ⟨nq, hw''⟩ := hw'
             subst hw''
             go_wp2
             rw [HE.out]
             exact ⟨⟨k + 1, by omega, by go_num, by rw [HU.out]; exact (HHH.out.drewN nq).set (k / 8) _, below_only (below_drewN HBB.out nq) ⟨rfl, rfl, rfl, by simp [World.setCell], fun j hj => heap_setCell_other (wr.drewN nq) ⟨w.heap.size, k / 8, none⟩ j _ hj⟩ (Nat.le_refl _)⟩, by simp [intOf]; omega⟩)
        · have hq : ((k : Int) == ((l.length : Nat) : Int)) = false := by rw [beq_eq_false_iff_ne]; omega
          have hkl2 : k < l.length := by omega
          obtain ⟨b, off, rfl, hcc⟩ : ∃ b off, ao = some ⟨b, off, none⟩ ∧ ∀ i, i < l.length → w.cell? ⟨b, off + i, none⟩ = some (.bool (l.getD i false)) := by
            rcases hc with hc | hc
            · omega
            · exact hc
          have hcr := (HBB.out.cell (p := ⟨b, off + k, none⟩) (block_lt_of_cell (hcc k hkl2))).trans (hcc k hkl2)
          have ht : l'.getD k false = l.getD k false := by rw [hat]; simp [hkl]
          rw [ht] at HU
          clear hat ht hcc hc hkl
          obtain ⟨t, ht⟩ : ∃ t, l.getD k false = t := ⟨_, rfl⟩
          rw [ht] at hcr HU
          clear ht
          cases t
          · go_wp2
            exact ⟨⟨k + 1, by omega, by go_num, by rw [HU.out]; exact HHH.out, HBB.out⟩, by simp [intOf]; omega⟩
          · rw [if_pos rfl] at HU
            go_wp2
            refine wp_region_quiet_tail 13 (by kernel_rfl) (by kernel_rfl) ?_
            simp only [List.take_succ_cons, List.take_zero, List.drop_succ_cons, List.drop_zero]
            repeat (go_big_quiet_step (fail))
            refine wpQuiet_nil ?_
            intro _ hw'
            obtain ⟨nq, hw''⟩ := hw'
            subst hw''
            go_wp2
            rw [HE.out]
            exact ⟨⟨k + 1, by omega, by go_num, by rw [HU.out]; exact (HHH.out.drewN nq).set (k / 8) _, below_only (below_drewN HBB.out nq) ⟨rfl, rfl, rfl, by simp [World.setCell], fun j hj => heap_setCell_other (wr.drewN nq) ⟨w.heap.size, k / 8, none⟩ j _ hj⟩ (Nat.le_refl _)⟩, by simp [intOf]; omega⟩
      · obtain rfl : k = N := by omega
        clear hNe hH hB
        go_wp2
        go_ret
        refine ⟨_, rfl, ?_, HBB.out⟩
        have hr := HHH.out.row (Nat.le_refl _) (by rw [hlen]; unfold maxLen; have := HM.out; omega)
        rw [hlen] at hr
        rw [HP.out]
        exact hr
end Go.Proofs.YtpaamhmighgjeaaGreat

/- The document's Encode, as a plain function of a kind and a value. -/
namespace Go.Proofs.YtpaamhmighgjeaaGreat
open Go.RowKit
set_option linter.unusedVariables false
set_option maxRecDepth 100000

/-- The kinds of a value's parts. -/
def kdsV (f : Nat) (ds : List Dt) (n : Nat) : List Dt := if f = 8 then ds.take n else match ds with
  | [] => []
  | d :: _ => List.replicate n d
mutual
/-- A value's bytes. -/
def encV : Dt → Vt → List Nat
  | .mk f _ ds, .mk num r bs ks => if f = 1 then le num 8 else if f = 2 then [num % 256] else if f = 3 then r else if f = 6 then putB bs false else if f = 7 then putB bs true else cont (encK (kdsV f ds ks.length) ks)
/-- Values' bytes, and whether they have a place. -/
def encK : List Dt → List Vt → List (List Nat × Bool)
  | d :: ds, v :: vs => (encV d v, decide (sizeD d < 0)) :: encK ds vs
  | _, [] => []
  | [], _ :: _ => []
end
mutual
/-- A value that fits a kind, and is not too great. -/
def okV : Dt → Vt → Prop
  | .mk f n ds, .mk num r bs ks => bs.length ≤ 1099511627776 ∧ ks.length ≤ 1048576 ∧ (f = 8 → ks.length ≤ ds.length) ∧ (0 < ks.length → 0 < ds.length) ∧ lenF (encK (kdsV f ds ks.length) ks) ≤ 274877906944 ∧ okK (kdsV f ds ks.length) ks
def okK : List Dt → List Vt → Prop
  | d :: ds, v :: vs => okV d v ∧ okK ds vs
  | _, [] => True
  | [], _ :: _ => False
end
theorem kdsV_length (f : Nat) (ds : List Dt) (n : Nat) (h8 : f = 8 → n ≤ ds.length) (h0 : 0 < n → 0 < ds.length) : (kdsV f ds n).length = n := by
  unfold kdsV
  split
  · rename_i h
    rw [List.length_take]
    have := h8 h
    omega
  · cases ds with
    | nil =>
      by_cases hn : n = 0
      · subst hn; rfl
      · exact absurd (h0 (by omega)) (by simp)
    | cons d r => simp
theorem encK_length : ∀ (ds : List Dt) (vs : List Vt), ds.length = vs.length → (encK ds vs).length = vs.length
  | d :: ds, v :: vs, h => by rw [encK, List.length_cons, encK_length ds vs (by simpa using h)]; rfl
  | [], [], _ => by simp [encK]
  | [], _ :: _, h => by simp at h
  | _ :: _, [], h => by simp at h
theorem encK_get : ∀ (ds : List Dt) (vs : List Vt) (i : Nat) (d : Dt) (v : Vt), ds[i]? = some d → vs[i]? = some v → (encK ds vs)[i]? = some (encV d v, decide (sizeD d < 0))
  | d :: ds, v :: vs, 0, d', v', hd, hv => by
    simp at hd hv
    subst hd hv
    rw [encK]; rfl
  | d :: ds, v :: vs, i + 1, d', v', hd, hv => by
    rw [List.getElem?_cons_succ] at hd hv
    rw [encK, List.getElem?_cons_succ]
    exact encK_get ds vs i d' v' hd hv
  | [], _, _, _, _, hd, _ => by simp at hd
  | _ :: _, [], _, _, _, _, hv => by simp at hv
theorem okK_get : ∀ (ds : List Dt) (vs : List Vt) (i : Nat) (d : Dt) (v : Vt), okK ds vs → ds[i]? = some d → vs[i]? = some v → okV d v
  | d :: ds, v :: vs, 0, d', v', h, hd, hv => by
    simp at hd hv
    subst hd hv
    rw [okK] at h; exact h.1
  | d :: ds, v :: vs, i + 1, d', v', h, hd, hv => by
    rw [List.getElem?_cons_succ] at hd hv
    rw [okK] at h
    exact okK_get ds vs i d' v' h.2 hd hv
  | [], _, _, _, _, _, hd, _ => by simp at hd
  | _ :: _, [], _, _, _, _, _, hv => by simp at hv
theorem encK_succ (ds : List Dt) (vs : List Vt) (i : Nat) (d : Dt) (v : Vt) (hd : ds[i]? = some d) (hv : vs[i]? = some v) : (encK ds vs).take (i + 1) = (encK ds vs).take i ++ [(encV d v, decide (sizeD d < 0))] := by
  have h := encK_get ds vs i d v hd hv
  rw [List.take_add_one, h]
  rfl
end Go.Proofs.YtpaamhmighgjeaaGreat

/- Rows of slices of bytes, of a call's own. -/
namespace Go.Proofs.YtpaamhmighgjeaaGreat
open Go.RowKit
set_option linter.unusedVariables false
set_option maxRecDepth 100000

theorem slInfo : ∃ i, Tryz.prog.info? 39 = some i ∧ i.zero = some (.slice none 0 0) ∧ i.size = 1 ∧ i.bytes = 24 := by
  have : (Tryz.prog.info? 39).map (fun i => (i.zero, i.size, i.bytes)) = some (some (.slice none 0 0), 1, 24) := by kernel_rfl
  cases hq : Tryz.prog.info? 39 with
  | none => simp [hq] at this
  | some i => simp [hq] at this; exact ⟨i, rfl, this.1, this.2.1, this.2.2⟩
/-- Slices that a call keeps in a row of its own. -/
abbrev RowS (w : World) (base : Nat) (v : Value) (us : List Value) : Prop := w.ownsRow base 39 1 v us.length us
theorem RowS.nil (w : World) (base : Nat) : RowS w base (.slice none 0 0) [] := World.ownsRow_nil _ _ _ _
/-- One value in a block. -/
theorem src_one {w : World} {g : Nat} {u : Value} (hc : w.cell? ⟨g, 0, none⟩ = some u) (h1 : u.oneCell' = true) : Src Tryz.prog 1 100 (.slice (some ⟨g, 0, none⟩) 1 1) 1 [u] w := by
  have hl : ∀ w' : World, w'.cell? ⟨g, 0, none⟩ = some u → (Builtin.firstCells 1 1 (.slice (some ⟨g, 0, none⟩) 1 1)).run Tryz.prog w' = .ok ([u]).toArray w' := fun w' hc' => by
    refine run_firstCells_some w' _ _ _ _ _ [u] rfl ?_
    intro j v hj
    match j, hj with
    | 0, hj =>
      simp at hj
      subst hj
      exact hc'
    | j + 1, hj => simp at hj
  exact ⟨.inl ⟨39, by kernel_rfl⟩, fun w' => rfl, hl w hc, hl w.drew hc, rfl, fun v hv => by rw [List.mem_singleton.1 hv]; exact h1⟩
section
variable {w : World} {ops : Array Oper} {rest : List Oper} {o : Oper} {a : Act} {Q : Exit → Act → World → Prop}
theorem run_append_s (base : Nat) (ty : TypeId) (v : Value) (us : List Value) (hown : RowS w base v us) (g : Nat) (u : Value) (hc : w.cell? ⟨g, 0, none⟩ = some u) (h1 : u.oneCell' = true) (hb : us.length ≤ 1099511627776) (hbase : base ≤ w.heap.size) :
    ∃ v' w', (Builtin.append_ #[100, 100] ty #[v, .slice (some ⟨g, 0, none⟩) 1 1]).run Tryz.prog w = .ok v' w' ∧ RowS w' base v' (us ++ [u]) ∧ w.grownBy w' v.ownBlock ∧ Moved w v v' := by
  obtain ⟨i, hi, hz, hs, hby⟩ := slInfo
  have h := run_append_any (P := Tryz.prog) (w := w) base 100 100 ty 39 i (.slice none 0 0) 1 24 (by kernel_rfl) hi hz hs hby rfl (by decide) v us.length us hown _ 1 [u] (src_one hc h1) (by unfold maxLen; omega) (by omega) hbase
  obtain ⟨v', w', h2, h3, h4, h5⟩ := h
  exact ⟨v', w', h2, by unfold RowS; rw [List.length_append]; exact h3, h4, h5⟩
theorem wpList_append_s (hgd : o.guard = none) (s x : Operand) (ho : o.op = .call { callee := .builtin .append, args := #[s, x], argTypes := #[100, 100] })
    (base : Nat) (v : Value) (us : List Value) (hv : a.eval s = v) (hown : RowS w base v us) (g : Nat) (u : Value) (hx : a.eval x = .slice (some ⟨g, 0, none⟩) 1 1) (hc : w.cell? ⟨g, 0, none⟩ = some u) (h1 : u.oneCell' = true) (hb : us.length ≤ 1099511627776) (hbase : base ≤ w.heap.size)
    (h : ∀ v' w', RowS w' base v' (us ++ [u]) → w.grownBy w' v.ownBlock → Moved w v v' → wpList Tryz.prog ops Q rest (a.put o.dst v') w') : wpList Tryz.prog ops Q (o :: rest) a w := by
  refine wpList_plain hgd fun K hK => ?_
  obtain ⟨v', w', hr, h2, h3, h4⟩ := run_append_s (w := w) base o.type v us hown g u hc h1 hb hbase
  unfold Oper.wp execOp
  simp only [ho, resolve, invoke, builtin, Sem.run_bind, Sem.run_pure, Result.andThen_ok, List.map_toArray, List.map_cons, List.map_nil, hv, hx, hr]
  exact hK _ _ (h v' w' h2 h3 h4)
end
/-- A slice of one slice, in a flow. -/
theorem flow_slice1 {w : World} {o : Oper} {a : Act} {Q : Exit → Act → World → Prop} {I : Value → World → Prop} (x : Operand) (ho : o.op = .buildSlice 100 1 #[(0, x)]) (u : Value) (hx : a.eval x = u) (hu : ∃ ao n c, u = .slice ao n c)
    (h : ∀ w', w'.heap[w.heap.size]? = some (.cells #[u] 39 (0, 0)) → Below w.heap.size w w' → I (.slice (some ⟨w.heap.size, 0, none⟩) 1 1) w') : o.wp Tryz.prog a w (fun a' w' => ∃ v, a' = a.put o.dst v ∧ I v w' ∧ Below w.heap.size w w') Q := by
  obtain ⟨i0, hi, hz0, hz1, _⟩ := slInfo
  have hB := (Below.refl w.heap.size w).alloc (Nat.le_refl _) (.cells #[u] 39)
  refine wp_buildSlice 100 39 1 _ ho #[u] i0 (.slice none 0 0) (by kernel_rfl) hi hz0 (by rw [hz1]; decide) (by rw [hz1]; decide) ?_ ⟨_, rfl, h _ (heap_alloc_new w _) hB, hB⟩
  rw [hz1]
  obtain ⟨ao, n, c, rfl⟩ := hu
  simp only [List.map_toArray, List.map_cons, List.map_nil, hx]
  have e : ((Array.range (1 * 1)).map fun x => (Value.slice none 0 0).cells[x % (Value.slice none 0 0).cells.size]!) = #[Value.slice none 0 0] := by kernel_rfl
  rw [e]
  simp [Instr.fill, Value.cells]
end Go.Proofs.YtpaamhmighgjeaaGreat

