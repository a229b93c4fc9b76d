/- Own texts of the proof, joined: Cut Parts Awake4 LenB Apart JoinPure ReadsP SerA SerB. -/
import Derived.Test.YtckmdofmplkdfaaSha
import Derived.Test.YtckmdofmplkdfaaMem
import Derived.Test.YtckmdofmplkdfaaPureB
import Derived.Test.YtckmdofmplkdfaaBytesB
import Derived.Test.YtckmdofmplkdfaaBase
import Derived.Test.YtckmdofmplkdfaaIter
import Derived.Test.YtckmdofmplkdfaaChain
import Derived.Test.YtckmdofmplkdfaaWriter
import Derived.Test.YtckmdofmplkdfaaWriterN
import Derived.Test.YtckmdofmplkdfaaAppAny
import Derived.Test.YtckmdofmplkdfaaCls
import Derived.Test.YtckmdofmplkdfaaTail
import Derived.Test.YtckmdofmplkdfaaClsTail
import Derived.Test.YtckmdofmplkdfaaFlow
import Derived.Test.YtckmdofmplkdfaaFlowG
import Derived.Test.YtckmdofmplkdfaaConv
import Derived.Test.YtckmdofmplkdfaaRunOps
import Derived.Test.YtckmdofmplkdfaaCells
import Derived.Test.YtckmdofmplkdfaaRootsW
import Derived.Test.YtckmdofmplkdfaaBuild5
import Derived.Test.YtckmdofmplkdfaaOneV
import Derived.Test.YtckmdofmplkdfaaBits
import Derived.Test.YtckmdofmplkdfaaBitsP
import Derived.Test.YtckmdofmplkdfaaVals
import Derived.Test.YtckmdofmplkdfaaEqlB
import Derived.Test.YtckmdofmplkdfaaRefSame
import Derived.Test.YtckmdofmplkdfaaValM
import Derived.Test.YtckmdofmplkdfaaRefBits
import Derived.Test.YtckmdofmplkdfaaWriterB
import Derived.Test.YtckmdofmplkdfaaNew4
import Derived.Test.YtckmdofmplkdfaaTakeB
import Derived.Test.YtckmdofmplkdfaaRefBits2
import Derived.Test.YtckmdofmplkdfaaFlowV
import Derived.Test.YtckmdofmplkdfaaFlowR
import Derived.Test.YtckmdofmplkdfaaDecB
import Derived.Test.YtckmdofmplkdfaaBytesT
import Derived.Test.YtckmdofmplkdfaaChainI
import Derived.Test.YtckmdofmplkdfaaReader
import Derived.Test.YtckmdofmplkdfaaReaderP
import Derived.Test.YtckmdofmplkdfaaReaderQ
import Derived.Lib.SlBytesConst
import Derived.Lib.SmallJoins
/- ssz's cut: bytes from each place up to the next. -/
namespace Go.Proofs.Ytckmdofmplkdfaa
open Go.RowKit Go.Shelf
set_option linter.unusedVariables false
set_option maxRecDepth 100000

/-- A slice of slices of bytes. -/
structure IsBs (w : World) (v : Value) (bss : List (List Nat)) : Prop where
  ex : ∃ ao cap, v = .slice ao bss.length cap ∧ bss.length ≤ cap ∧ cap ≤ maxLen ∧ (ao = none → cap = 0) ∧ (bss.length = 0 ∨ ∃ b off, ao = some ⟨b, off, none⟩ ∧ ∀ i x, bss[i]? = some x → ∃ u, w.cell? ⟨b, off + i, none⟩ = some u ∧ IsB w u x)
theorem IsBs.keep {w w' : World} {v : Value} {bss : List (List Nat)} (h : IsBs w v bss) (hb : Below w.heap.size w w') : IsBs w' v bss := by
  obtain ⟨ao, cap, rfl, h1, h2, h3, h4⟩ := h
  refine ⟨ao, cap, rfl, h1, h2, h3, ?_⟩
  rcases h4 with h4 | ⟨b, off, rfl, hc⟩
  · exact .inl h4
  · refine .inr ⟨b, off, rfl, fun i x hx => ?_⟩
    obtain ⟨u, h5, h6⟩ := hc i x hx
    exact ⟨u, (hb.cell (p := ⟨b, off + i, none⟩) (block_lt_of_cell h5)).trans h5, h6.keep hb⟩
/-- Where part i ends. -/
def toI (bs : List Nat) (ps : List Nat) (i : Nat) : Nat := if i + 1 < ps.length then ps.getD (i + 1) 0 else bs.length
/-- The parts. -/
def cutL (bs ps : List Nat) : List (List Nat) := (List.range ps.length).map fun i => (bs.drop (ps.getD i 0)).take (toI bs ps i - ps.getD i 0)
/-- Places that may be cut at. -/
def Cuts (bs ps : List Nat) : Prop := ∀ i, i < ps.length → ps.getD i 0 ≤ toI bs ps i ∧ toI bs ps i ≤ bs.length
/-- Part i as a slice of what lies at ao. -/
def partV (ao : Option Addr) (bs ps : List Nat) (i : Nat) : Value := .slice (if toI bs ps i = ps.getD i 0 then ao else ao.map fun x => x.add (ps.getD i 0)) (toI bs ps i - ps.getD i 0) (toI bs ps i - ps.getD i 0)
theorem IsB.sub {w : World} {ao : Option Addr} {cap : Nat} {bs : List Nat} (h : IsB w (.slice ao bs.length cap) bs) (f t : Nat) (h1 : f ≤ t) (h2 : t ≤ bs.length) : IsB w (.slice (if t = f then ao else ao.map fun x => x.add f) (t - f) (t - f)) ((bs.drop f).take (t - f)) := by
  have h' := h
  obtain ⟨⟨ao', cap', he, hc1, hc2, hc3, hR⟩, h8⟩ := h
  simp only [Value.slice.injEq] at he
  obtain ⟨rfl, _, rfl⟩ := he
  have hl : ((bs.drop f).take (t - f)).length = t - f := by simp; omega
  refine ⟨⟨(if t = f then ao else ao.map fun x => x.add f), t - f, by rw [hl], by omega, by omega, fun e => ?_, ?_⟩, fun z hz => h8 z (List.mem_of_mem_drop (List.mem_of_mem_take hz))⟩
  · by_cases e2 : t = f
    · omega
    · rw [if_neg e2] at e
      cases ao with
      | none => have := hc3 rfl; omega
      | some a => cases e
  · by_cases e2 : t = f
    · exact .inl (by omega)
    · obtain ⟨b, off, rfl, hcc⟩ := h'.drop_reads f (t - f) (by omega) (by omega)
      exact .inr ⟨b, off + f, by rw [if_neg e2, Option.map_some, Addr.add_lit], fun i hi => hcc i (by omega)⟩
theorem cutL_get {bs ps : List Nat} {i : Nat} (hi : i < ps.length) : (cutL bs ps)[i]? = some ((bs.drop (ps.getD i 0)).take (toI bs ps i - ps.getD i 0)) := by
  unfold cutL
  rw [List.getElem?_map, List.getElem?_range hi]
  rfl
theorem cutL_length (bs ps : List Nat) : (cutL bs ps).length = ps.length := by simp [cutL]

section
variable {P : Program} {w : World} {ops : Array Oper} {rest : List Oper} {o : Oper} {a : Act} {Q : Exit → Act → World → Prop}
theorem wpList_make_at (hg : o.guard = none) (l c : Operand) (t : TypeId) (hop : o.op = Op.makeSlice t l c)
    (e : TypeId) (i : TypeInfo) (z : Value) (h1 : P.underlying t = some (.slice e)) (h2 : P.info? e = some i) (h3 : i.zero = some z)
    (kl kc : IntKind) (L C : Int) (m : Nat) (hl : a.eval l = .int kl L) (hc : a.eval c = .int kc C) (hL : L = (m : Int)) (hC : C = (m : Int)) (b2 : i.bytes * m ≤ 281474976710656) (b3 : m ≤ maxLen)
    (hK : ∀ c0 : Array Value, c0.size = m * i.size → wpList P ops Q rest (a.put o.dst (.slice (some ⟨w.heap.size, 0, none⟩) m m)) (w.alloc (.cells c0 e))) :
    wpList P ops Q (o :: rest) a w := by
  refine wpList_plain hg fun K hK' => ?_
  subst hL
  subst hC
  have hrun := run_make (P := P) w t e i z h1 h2 h3 kl kc (m : Int) (m : Int) (by omega) (by omega) (by have h := Int.ofNat_le.2 b2; rw [Int.natCast_mul] at h; exact h) (by unfold maxLen at b3; omega)
  simp only [Int.toNat_natCast] at hrun
  have := hK _ (size_madeCells z.cells (m * i.size))
  unfold Oper.wp
  simp [execOp, hop, hl, hc, hrun, Result.andThen]
  exact hK' _ _ this
end
theorem Try.info24 : (Try.prog.info? 24).map (fun i => (i.zero, i.size, i.bytes)) = some (some (.slice none 0 0), 1, 24) := by kernel_rfl
theorem intsA_cell {w : World} {g : Nat} {ps : List Nat} (h : w.heap[g]? = some (.cells (intsA ps) 3 (0, 0))) (k : Nat) (hk : k < ps.length) : w.cell? ⟨g, k, none⟩ = some (.int .i64 (ps.getD k 0 : Nat)) := by
  rw [cell_of_row w g _ _ _ _ h]
  have := flat_get cellI 1 (fun _ => rfl) ps k 0 (by decide)
  rw [Nat.mul_one, Nat.add_zero] at this
  unfold intsA
  rw [List.getElem?_toArray, this, List.getElem?_eq_getElem hk, List.getD_eq_getElem?_getD, List.getElem?_eq_getElem hk]
  rfl

set_option maxHeartbeats 2000000 in
theorem cut_any (v : Value) (bs ps : List Nat) (gi : Nat) (w : World) (hB : IsB w v bs) (hl : bs.length ≤ 140737488355328) (hg : w.heap[gi]? = some (.cells (intsA ps) 3 (0, 0))) (hC : Cuts bs ps) (hp : ps.length ≤ 2147483647) :
    Calls Try.prog 38 #[v, .slice (some ⟨gi, 0, none⟩) ps.length ps.length] w fun e w' => ∃ u, e = .returned u ∧ IsBs w' u (cutL bs ps) ∧ Below w.heap.size w w' := by
  obtain ⟨i0, hi, hz0, hz1, hz2⟩ := info_parts Try.info24
  have hn : ps.length ≤ maxLen := by unfold maxLen; omega
  have hn2 : i0.bytes * ps.length ≤ 281474976710656 := by rw [hz2]; omega
  have hgl : gi < w.heap.size := (Array.getElem?_eq_some_iff.1 hg).1
  have hB' := hB
  obtain ⟨⟨ao0, cap0, rfl, _⟩, _⟩ := hB
  go_enter Try.func38, Try.ntmps38
  go_wp2_with fail
  refine (clone_any _ bs _ hB' hl).mono ?_
  rintro e w1 ⟨v1, rfl, R1, B1⟩
  have I1 := R1.isB hB'.by8
  have I1' := I1
  obtain ⟨⟨ao, cap, rfl, hcap, _⟩, _⟩ := I1'
  have HI := hid I1
  have HB1 := hid B1
  have s1 := B1.size
  clear R1 I1 B1 hB'
  go_wp2_with (at_make; refine wpList_make_at rfl _ _ 22 rfl 24 i0 _ Try.underlying22 hi hz0 .i64 .i64 _ _ ps.length rfl rfl rfl rfl hn2 hn ?_; intro c0 hc0)
  have BA : Below w1.heap.size w1 (w1.alloc (.cells c0 24)) := (Below.refl _ w1).alloc (Nat.le_refl _) _
  have HBA := hid (below_more HB1.out BA (Nat.le_refl _))
  have HIA := hid (HI.out.keep BA)
  have hG0 := heap_alloc_new w1 (.cells c0 24)
  have hc0' : c0.size = ps.length := by rw [hc0, hz1, Nat.mul_one]
  go_loopw [7, 8, 9, 17] (fun _ _ _ i wr => ∃ k : Nat, k ≤ ps.length ∧ i = .int .i64 k ∧ (∃ c : Array Value, wr.heap[w1.heap.size]? = some (.cells c 24 (0, 0)) ∧ c.size = ps.length ∧ ∀ j, j < k → c[j]? = some (partV ao bs ps j)) ∧ Below w.heap.size w wr ∧ Below w1.heap.size w1 wr) (fun _ _ _ i _ => ps.length - (intOf i).toNat)
  case atStart => exact ⟨0, Nat.zero_le _, rfl, ⟨c0, hG0, hc0', fun j hj => by omega⟩, HBA.out, BA⟩
  case round =>
    clear hG0 hc0' HBA HIA BA
    obtain ⟨k, hk, rfl, ⟨c, hc, hcs, hcv⟩, hBw, hB1w⟩ := hrel
    by_cases hlt : k < ps.length
    · have hpk := intsA_cell ((hBw.block gi hgl).trans hg) k hlt
      obtain ⟨hC1, hC2⟩ := hC k hlt
      have hg0 : wr.cell? ⟨w1.heap.size, k, none⟩ = some (c[k]'(by omega)) := (cell_of_row wr _ k _ _ (0, 0) hc).trans (Array.getElem?_eq_getElem _)
      obtain ⟨u0, hu0⟩ : ∃ u, wr.cell? ⟨w1.heap.size, k, none⟩ = some u := ⟨_, hg0⟩
      have hf0 := frozen_of_row wr w1.heap.size k _ _ hc
      have hPV : partV ao bs ps k = .slice (if toI bs ps k = ps.getD k 0 then ao else ao.map fun x => x.add (ps.getD k 0)) (toI bs ps k - ps.getD k 0) (toI bs ps k - ps.getD k 0) := rfl
      have hstep : ∀ V, V = partV ao bs ps k → (∃ c' : Array Value, (wr.setCell ⟨w1.heap.size, k, none⟩ V).heap[w1.heap.size]? = some (.cells c' 24 (0, 0)) ∧ c'.size = ps.length ∧ ∀ j, j < k + 1 → c'[j]? = some (partV ao bs ps j)) ∧ Below w.heap.size w (wr.setCell ⟨w1.heap.size, k, none⟩ V) ∧ Below w1.heap.size w1 (wr.setCell ⟨w1.heap.size, k, none⟩ V) := by
        rintro V rfl
        refine ⟨⟨_, heap_setCell_same wr _ k _ _ _ hc, by rw [Array.size_setIfInBounds, hcs], fun j hj => ?_⟩, hBw.setCell (p := ⟨w1.heap.size, k, none⟩) s1 _, hB1w.setCell (p := ⟨w1.heap.size, k, none⟩) (Nat.le_refl _) _⟩
        rw [Array.getElem?_setIfInBounds]
        by_cases e : k = j
        · rw [if_pos e, if_pos (by omega), e]
        · rw [if_neg e]; exact hcv j (by omega)
      have HST := hid hstep
      have HPV := hid hPV
      by_cases hl1 : k + 1 < ps.length
      · have hpk1 := intsA_cell ((hBw.block gi hgl).trans hg) (k + 1) hl1
        have hto : toI bs ps k = ps.getD (k + 1) 0 := by rw [toI, if_pos hl1]
        rw [hto] at hC1 hC2 HPV
        have hl1' : (k : Int) + 1 < (ps.length : Int) := by omega
        obtain ⟨p0, hp0⟩ : ∃ x, ps.getD k 0 = x := ⟨_, rfl⟩
        obtain ⟨p1, hp1⟩ : ∃ x, ps.getD (k + 1) 0 = x := ⟨_, rfl⟩
        rw [hp0] at hpk hC1 HPV
        rw [hp1] at hpk1 hC1 hC2 HPV
        clear hto hp0 hp1 hPV hstep hcv hc hg0 hBw hB1w
        go_wp2
        exact ⟨⟨k + 1, by omega, by go_num, (HST.out _ HPV.out.symm).1, (HST.out _ HPV.out.symm).2.1, (HST.out _ HPV.out.symm).2.2⟩, by simp [intOf]; omega⟩
      · have hto : toI bs ps k = bs.length := by rw [toI, if_neg hl1]
        rw [hto] at hC1 hC2 HPV
        have hl1' : ¬ (k : Int) + 1 < (ps.length : Int) := by omega
        obtain ⟨p0, hp0⟩ : ∃ x, ps.getD k 0 = x := ⟨_, rfl⟩
        rw [hp0] at hpk hC1 HPV
        clear hto hp0 hPV hstep hcv hc hg0 hBw hB1w
        go_wp2
        exact ⟨⟨k + 1, by omega, by go_num, (HST.out _ HPV.out.symm).1, (HST.out _ HPV.out.symm).2.1, (HST.out _ HPV.out.symm).2.2⟩, by simp [intOf]; omega⟩
    · obtain rfl : k = ps.length := by omega
      have Y := hid (And.intro hc (And.intro hcs (And.intro hcv (And.intro hBw hB1w))))
      clear hc hcs hcv hBw hB1w
      go_wp2
      go_ret
      obtain ⟨hc, hcs, hcv, hBw, hB1w⟩ := Y.out
      refine ⟨_, rfl, ⟨some ⟨w1.heap.size, 0, none⟩, ps.length, by rw [cutL_length]; rfl, by rw [cutL_length]; exact Nat.le_refl _, hn, (fun e => by cases e), .inr ⟨w1.heap.size, 0, rfl, fun i x hx => ?_⟩⟩, hBw⟩
      have hil : i < ps.length := by
        have := (List.getElem?_eq_some_iff.1 hx).1
        rwa [cutL_length] at this
      rw [cutL_get hil] at hx
      cases hx
      refine ⟨partV ao bs ps i, ?_, (HI.out.keep hB1w).sub _ _ (hC i hil).1 (hC i hil).2⟩
      rw [Nat.zero_add, cell_of_row wr _ i _ _ (0, 0) hc]
      exact hcv i hil

set_option maxHeartbeats 2000000 in
/-- Parts, where something was wrong. -/
theorem parts_bad {g : Nat} {S : Nat → Prop} {bs : List Nat} {size taken : Nat} {ps : List Nat} {wrong : Bool} (w : World) (h : Rd w g S bs size taken ps wrong) (hb : wrong = true ∨ taken ≠ size ∨ (ps = [] ∧ bs.length ≠ size)) (hs : size ≤ 4611686018427387904) (hl : bs.length ≤ 140737488355328) (hp : ps.length ≤ 2147483647) :
    Calls Try.prog 17 #[.pointer (some ⟨g, 0, none⟩)] w fun e w' => e = .returned (.tuple #[.slice none 0 0, .bool false]) ∧ ∃ n, w' = w.drewN n := by
  obtain ⟨ao, cap, q, c0, c1, c2, c3, c4, c5, _, _, _, hch, _⟩ := h.cells
  clear h c4
  cases wrong
  · by_cases ht : taken = size
    · rcases hb with hb | hb | ⟨rfl, hb⟩
      · cases hb
      · exact absurd ht hb
      · subst ht
        have hn : (((bs.length : Nat) : Int) != ((taken : Nat) : Int)) = true := by rw [bne_iff_ne]; omega
        rw [show ((([] : List Nat).length : Nat) : Int) = 0 from rfl] at c3
        clear hb hch
        go_enter Try.func17, Try.ntmps17
        go_wp2_with fail
        go_quiet (fail)
        go_wp2_with fail
        go_quiet (fail)
        go_wp2
        go_ret2
        exact ⟨rfl, _, World.drewN_drewN _ _ _⟩
    · have hn : (((taken : Nat) : Int) != ((size : Nat) : Int)) = true := by rw [bne_iff_ne]; omega
      clear hb hch
      go_enter Try.func17, Try.ntmps17
      go_wp2_with fail
      go_quiet (fail)
      go_wp2
      go_ret2
      exact ⟨rfl, _, rfl⟩
  · clear hb hch
    go_enter Try.func17, Try.ntmps17
    go_wp2_with fail
    go_quiet (fail)
    go_wp2
    go_ret2
    exact ⟨rfl, _, rfl⟩
end Go.Proofs.Ytckmdofmplkdfaa

/- ssz's Reader: Parts. -/
namespace Go.Proofs.Ytckmdofmplkdfaa
open Go.RowKit Go.Shelf
set_option linter.unusedVariables false
set_option maxRecDepth 100000

theorem below_drew0 {w w' : World} (h : Below w.heap.size w w') (n : Nat) : Below w.heap.size w (w'.drewN n) := ⟨h.os, h.tape, h.output, h.size, h.block⟩

set_option maxHeartbeats 4000000 in
/-- Parts, where nothing was wrong. -/
theorem parts_ok {g : Nat} {S : Nat → Prop} {bs : List Nat} {size : Nat} {ps : List Nat} (w : World) (h : Rd w g S bs size size ps false) (hb : ps = [] → bs.length = size) (hC : Cuts bs ps) (hs : size ≤ 4611686018427387904) (hl : bs.length ≤ 140737488355328) (hp : ps.length ≤ 2147483647) :
    Calls Try.prog 17 #[.pointer (some ⟨g, 0, none⟩)] w fun e w' => ∃ u, e = .returned (.tuple #[u, .bool true]) ∧ IsBs w' u (cutL bs ps) ∧ Below w.heap.size w w' := by
  obtain ⟨ao, cap, q, c0, c1, c2, c3, c4, c5, _, hIs, _, hch, _⟩ := h.cells
  have hgl := h.gt
  have HA : Hid (∀ W : World, Below w.heap.size w W → Calls Try.prog 39 #[.agg #[.int .i64 (ps.length : Nat), .pointer q]] W fun e w' =>
      ∃ gi, w.heap.size ≤ gi ∧ e = .returned (.slice (some ⟨gi, 0, none⟩) ps.length ps.length) ∧ w'.heap[gi]? = some (.cells (intsA ps) 3 (0, 0)) ∧ Below w.heap.size w w') := by
    intro W hW
    have h1 := allI_any ps.reverse q W (by rw [List.length_reverse]; exact hp) (S := S) (ChnI.keepS (w := w) (w' := W) (fun k _ hk => hW.block k hk) hch)
    rw [List.length_reverse, List.reverse_reverse] at h1
    refine h1.mono ?_
    rintro e w' ⟨gi, r1, r2, r3, r4⟩
    exact ⟨gi, Nat.le_trans hW.size r1, r2, r3, below_more hW r4 (Nat.le_refl _)⟩
  have HCt : Hid (∀ gi (W : World), Below w.heap.size w W → W.heap[gi]? = some (.cells (intsA ps) 3 (0, 0)) → Calls Try.prog 38 #[.slice ao bs.length cap, .slice (some ⟨gi, 0, none⟩) ps.length ps.length] W fun e w' => ∃ u, e = .returned u ∧ IsBs w' u (cutL bs ps) ∧ Below w.heap.size w w') := by
    intro gi W hW hg
    refine (cut_any _ bs ps gi W (hIs.keep hW) hl hg hC hp).mono ?_
    rintro e w' ⟨u, r1, r2, r3⟩
    exact ⟨u, r1, r2, below_more hW r3 (Nat.le_refl _)⟩
  have key : ∀ (W : World), (∃ n, W = w.drewN n) → ∀ a : Act, True := fun _ _ _ => trivial
  clear h hIs hch key
  by_cases hp0 : ps.length = 0
  · have hbl := hb (List.eq_nil_of_length_eq_zero hp0)
    rw [hbl] at c0 HCt hl
    have hq : (((size : Nat) : Int) != ((size : Nat) : Int)) = false := by simp
    have c3' : w.cell? ⟨g, 3, none⟩ = some (.int .i64 0) := by rw [c3, hp0]; rfl
    rw [hp0] at HA HCt
    clear c3 hb hC hbl
    have HP0 := hid hp0
    clear hp0
    go_enter Try.func17, Try.ntmps17
    go_wp2_with fail
    go_quiet (fail)
    go_wp2_with fail
    go_quiet (fail)
    go_wp2_with fail
    refine wp_mono (Q := fun e a' w' => match e with | .normal => a'.defers = [] ∧ ∃ u, a'.tmps.getD 2 undef = u ∧ a'.tmps.getD 3 undef = .bool true ∧ IsBs w' u (cutL bs ps) ∧ Below w.heap.size w w' | _ => False) ?_ ?_
    · go_region_law (first
        | (go_simp; go_at_call 39; refine (HA.out _ (by exact ⟨rfl, rfl, rfl, Nat.le_refl _, fun _ _ => rfl⟩)).mono ?_; rintro e w3 ⟨gi, hgi, rfl, hG3, B3⟩; have k0 := (B3.cell (p := ⟨g, 0, none⟩) hgl).trans c0; replace hG3 := hid hG3; replace B3 := hid B3)
        | (go_simp; go_at_call 38; refine (HCt.out _ _ B3.out hG3.out).mono ?_; rintro e w4 ⟨u, rfl, hI4, B4⟩; replace hI4 := hid hI4; replace B4 := hid B4))
      all_goals exact ⟨rfl, u, rfl, rfl, hI4.out, B4.out⟩
    · rintro (_ | _ | _ | _ | _ | _) a' w' hq <;> try exact hq.elim
      obtain ⟨hd, u, h2, h3, hI4, B4⟩ := hq
      have Y := hid (And.intro hd (And.intro h2 (And.intro h3 (And.intro hI4 B4))))
      clear hd h2 h3 hI4 B4
      go_wp2
      obtain ⟨hd, h2, h3, hI4, B4⟩ := Y.out
      refine bodyPost_ret (v := .tuple #[u, .bool true]) ?_ hd ⟨u, rfl, hI4, B4⟩
      rw [← h2, ← h3]
      exact results_tmp2 rfl _ _ _
  · have hne : (((ps.length : Nat) : Int) == 0) = false := by rw [beq_eq_false_iff_ne]; omega
    have hq : (((size : Nat) : Int) != ((size : Nat) : Int)) = false := by simp
    clear hb hC
    go_enter Try.func17, Try.ntmps17
    go_wp2_with fail
    go_quiet (fail)
    go_wp2_with fail
    go_quiet (fail)
    go_wp2_with fail
    refine wp_mono (Q := fun e a' w' => match e with | .normal => a'.defers = [] ∧ ∃ u, a'.tmps.getD 2 undef = u ∧ a'.tmps.getD 3 undef = .bool true ∧ IsBs w' u (cutL bs ps) ∧ Below w.heap.size w w' | _ => False) ?_ ?_
    · go_region_law (first
        | (go_simp; go_at_call 39; refine (HA.out _ (by exact ⟨rfl, rfl, rfl, Nat.le_refl _, fun _ _ => rfl⟩)).mono ?_; rintro e w3 ⟨gi, hgi, rfl, hG3, B3⟩; have k0 := (B3.cell (p := ⟨g, 0, none⟩) hgl).trans c0; replace hG3 := hid hG3; replace B3 := hid B3)
        | (go_simp; go_at_call 38; refine (HCt.out _ _ B3.out hG3.out).mono ?_; rintro e w4 ⟨u, rfl, hI4, B4⟩; replace hI4 := hid hI4; replace B4 := hid B4))
      all_goals exact ⟨rfl, u, rfl, rfl, hI4.out, B4.out⟩
    · rintro (_ | _ | _ | _ | _ | _) a' w' hq <;> try exact hq.elim
      obtain ⟨hd, u, h2, h3, hI4, B4⟩ := hq
      have Y := hid (And.intro hd (And.intro h2 (And.intro h3 (And.intro hI4 B4))))
      clear hd h2 h3 hI4 B4
      go_wp2
      obtain ⟨hd, h2, h3, hI4, B4⟩ := Y.out
      refine bodyPost_ret (v := .tuple #[u, .bool true]) ?_ hd ⟨u, rfl, hI4, B4⟩
      rw [← h2, ← h3]
      exact results_tmp2 rfl _ _ _
end Go.Proofs.Ytckmdofmplkdfaa

/- The fixed facts that every statement of layer 4 asks first hold. -/
namespace Go.Proofs.Ytckmdofmplkdfaa
open Go.RowKit
set_option linter.unusedVariables false
set_option maxRecDepth 100000

theorem cont_awake : strOf (cont (([] ++ numF [5]) ++ [([97, 98], true)])) = ⟨#[5, 0, 0, 0, 0, 0, 0, 0, 12, 0, 0, 0, 97, 98]⟩ := by decide +kernel
theorem putB_awake : strOf (putB [true, false, true] true) = ⟨#[13]⟩ := by decide +kernel

set_option maxHeartbeats 1000000 in
theorem awake_any (w : World) : Calls Try.prog 5 #[] w fun e w' => e = .returned (.bool true) ∧ Below w.heap.size w w' := by
  go_enter Try.func5, Try.ntmps5
  go_wp2_with fail
  have W0 := (wr_new w).below (w' := (w.alloc (.cells #[.int .i64 0, .pointer none] 47)).alloc (.cells #[.int .u64 5] 34)) ((Below.refl _ _).alloc (Nat.le_refl _) _)
  refine (num_wr w.heap.size (fun _ => False) [] [5] (w.heap.size + 1) 0 1 _ W0 (by omega) (by decide) (by decide) (fun i hi => by obtain rfl : i = 0 := (by simp at hi; omega); simp) (by decide)).mono ?_
  rintro e w1 ⟨⟨u, rfl⟩, h1, g1⟩
  have s1 := g1.size
  simp only [World.size_alloc] at s1
  have L1 : Below w.heap.size w w1 := ((((Below.refl _ w).alloc (Nat.le_refl _) _).alloc (by simp) _).grown g1 (by simp; omega) (fun k e => by cases e; exact Nat.le_refl _))
  have kc := Lib.run_convert_bytes_const (P := Try.prog) w1 24 5 #[.int .u8 97, .int .u8 98] 2 2 Try.underlying24 Try.underlying5
  obtain ⟨S1, HH1⟩ : ∃ S, Wr w1 w.heap.size S ([] ++ numF [5]) := ⟨_, h1⟩
  have HH1 := hid HH1
  clear h1 g1 W0
  go_wp2_with fail
  have B2 : Below w1.heap.size w1 (w1.alloc (.cells #[.int .u8 97, .int .u8 98] 5 (2, 3))) := (Below.refl _ w1).alloc (Nat.le_refl _) _
  have I2 : IsB (w1.alloc (.cells #[.int .u8 97, .int .u8 98] 5 (2, 3))) (.slice (some ⟨w1.heap.size, 0, none⟩) 2 2) [97, 98] := isB_new w1 [97, 98] (2, 3) (by decide) (by decide)
  refine (part_wr w.heap.size _ _ _ [97, 98] _ (HH1.out.below B2) I2 (by decide) (by decide)).mono ?_
  rintro e w2 ⟨⟨u2, rfl⟩, h2, g2⟩
  obtain ⟨S2, HH2⟩ : ∃ S, Wr w2 w.heap.size S (([] ++ numF [5]) ++ [([97, 98], true)]) := ⟨_, h2⟩
  have s2 := g2.size
  rw [World.size_alloc] at s2
  have L2 : Below w.heap.size w w2 := (L1.trans (B2.mono L1.size)).grown g2 (by simp; omega) (fun k e => by cases e; exact Nat.le_refl _)
  have HH2 := hid HH2
  have HL2 := hid L2
  clear h2 g2 HH1 L1 I2 B2 kc
  go_wp2_with fail
  have I3 : IsB (w2.alloc (.cells #[.int .u8 0] 5)) (.slice (some ⟨w2.heap.size, 0, none⟩) 1 1) [0] := isB_new w2 [0] (0, 0) (by decide) (by decide)
  refine (takeBits_zero _ [0] 9 _ I3 (by decide) rfl (by decide)).mono ?_
  rintro e w3 ⟨rfl, rfl⟩
  have B3 : Below w2.heap.size w2 (w2.alloc (.cells #[.int .u8 0] 5)) := (Below.refl _ w2).alloc (Nat.le_refl _) _
  have W3 := hid (HH2.out.below B3)
  have L3 := hid (below_more HL2.out B3 (Nat.le_refl _))
  clear I3 HH2 HL2 L2 B3
  go_wp2_with fail
  refine (bytes_any w.heap.size S2 _ _ W3.out (by decide) (by decide)).mono ?_
  rintro e w4 ⟨v4, rfl, R4, B4⟩
  have hc4 := conv_b (R4.isB (by decide))
  rw [cont_awake] at hc4
  have L4 := hid (below_more L3.out B4 (Nat.le_refl _))
  have s4 := B4.size
  clear R4 B4 W3 L3
  go_wp2_with fail
  clear hc4
  have B5 : Below w4.heap.size w4 (w4.alloc (.cells #[.bool true, .bool false, .bool true] 4)) := (Below.refl _ w4).alloc (Nat.le_refl _) _
  refine (putBits_any _ [true, false, true] true _ ⟨_, 3, rfl, Nat.le_refl _, by unfold maxLen; decide, .inr ⟨w4.heap.size, 0, rfl, fun i hi => ?_⟩⟩ (by decide)).mono ?_
  · rw [cell_of_row _ _ _ _ _ _ (heap_alloc_new w4 _), Nat.zero_add]
    match i, hi with
    | 0, _ => rfl
    | 1, _ => rfl
    | 2, _ => rfl
  rintro e w5 ⟨v5, rfl, R5, B6⟩
  have hc5 := conv_b (R5.isB (by decide))
  rw [putB_awake] at hc5
  have L5 := hid (below_more (below_more L4.out B5 (Nat.le_refl _)) B6 (Nat.le_refl _))
  clear R5 B6 B5 L4
  go_wp2
  go_ret
  exact ⟨rfl, L5.out⟩
end Go.Proofs.Ytckmdofmplkdfaa

/- Lengths of parts, and numbers as bytes: there and back. -/
namespace Go.Proofs.Ytckmdofmplkdfaa
open Go.RowKit
set_option linter.unusedVariables false
/-- What parts are joined to. -/
def joinB (bss : List (List Nat)) : List Nat := cont (bss.map fun b => (b, true))
def lenB (bss : List (List Nat)) : Nat := (bss.map List.length).sum
theorem lenB_F (bss : List (List Nat)) : lenF (bss.map fun b => (b, true)) = lenB bss := by
  unfold lenF lenB
  rw [List.map_map]; rfl
theorem lenB_take (bss : List (List Nat)) (k : Nat) : lenB (bss.take k) ≤ lenB bss := by
  have := lenF_take (bss.map fun b => (b, true)) k
  rw [← List.map_take, lenB_F, lenB_F] at this
  exact this
theorem lenB_mem {bss : List (List Nat)} {i : Nat} {x : List Nat} (h : bss[i]? = some x) : x.length ≤ lenB bss := by
  have h1 := lenB_take bss (i + 1)
  have hi := (List.getElem?_eq_some_iff.1 h).1
  rw [List.take_succ_eq_append_getElem hi] at h1
  rw [List.getElem?_eq_getElem hi] at h
  cases h
  have e : ∀ (a : List (List Nat)) (b : List Nat), lenB (a ++ [b]) = lenB a + b.length := fun a b => by simp [lenB]
  rw [e] at h1
  omega

theorem le_putL (x k : Nat) : ((le x k).map fun n : Nat => (n : Int)) = putL x k := by
  simp [le, putL, byteAt]
theorem tk_le (x k : Nat) (hk : k ≤ 8) : tk (le x k) = x % 256 ^ k := by
  unfold tk takeV
  rw [le_putL, List.take_of_length_le (by rw [putL_length]; omega), takeL_put]
theorem tk_le4 (x : Nat) (h : x < 4294967296) : tk (le x 4) = x := by
  rw [tk_le x 4 (by decide)]
  exact Nat.mod_eq_of_lt h
theorem lenB_cons (b : List Nat) (r : List (List Nat)) : lenB (b :: r) = b.length + lenB r := by simp [lenB]
theorem lenB_flat (bss : List (List Nat)) : bss.flatten.length = lenB bss := by
  induction bss with
  | nil => rfl
  | cons b r ih => rw [List.flatten_cons, List.length_append, ih, lenB_cons]
theorem back_flat (bss : List (List Nat)) : backB (bss.map fun b => (b, true)) = bss.flatten := by
  induction bss with
  | nil => rfl
  | cons b r ih =>
    rw [List.map_cons, List.flatten_cons, ← ih]
    simp [backB]
theorem front_at (rest : List Nat) : ∀ (bss : List (List Nat)) (p j : Nat), j < bss.length → ((frontB p (bss.map fun b => (b, true)) ++ rest).drop (4 * j)).take 4 = le (p + lenB (bss.take j)) 4
  | [], p, j, h => by simp at h
  | b :: r, p, 0, h => by
    rw [List.map_cons, frontB]
    simp only [if_true, List.append_assoc, Nat.mul_zero, List.drop_zero, List.take_zero]
    rw [List.take_append_of_le_length (by rw [le_length]; exact Nat.le_refl _), List.take_of_length_le (by rw [le_length]; exact Nat.le_refl _)]
    rfl
  | b :: r, p, j + 1, h => by
    rw [List.map_cons, frontB]
    simp only [if_true, List.append_assoc]
    have h4 : (le p 4).length = 4 := le_length _ _
    rw [show 4 * (j + 1) = (le p 4).length + 4 * j by rw [h4]; omega, List.drop_append, List.take_succ_cons, lenB_cons]
    have e : List.drop ((le p 4).length + 4 * j) (le p 4) = [] := List.drop_eq_nil_of_le (by omega)
    rw [e, List.nil_append, show (le p 4).length + 4 * j - (le p 4).length = 4 * j by omega, front_at rest r (p + b.length) j (by simpa using h), Nat.add_assoc]
theorem flat_part : ∀ (bss : List (List Nat)) (i : Nat) (x : List Nat), bss[i]? = some x → (bss.flatten.drop (lenB (bss.take i))).take x.length = x
  | [], i, x, h => by simp at h
  | b :: r, 0, x, h => by
    simp at h
    subst h
    simp [lenB]
  | b :: r, i + 1, x, h => by
    rw [List.take_succ_cons, lenB_cons, List.flatten_cons, List.drop_append, List.drop_eq_nil_of_le (by omega), List.nil_append, show b.length + lenB (r.take i) - b.length = lenB (r.take i) by omega]
    exact flat_part r i x (by simpa using h)
theorem lenB_succ (bss : List (List Nat)) (i : Nat) (x : List Nat) (h : bss[i]? = some x) : lenB (bss.take (i + 1)) = lenB (bss.take i) + x.length := by
  have hi := (List.getElem?_eq_some_iff.1 h).1
  rw [List.getElem?_eq_getElem hi] at h
  cases h
  rw [List.take_succ_eq_append_getElem hi]
  have e : ∀ (a : List (List Nat)) (b : List Nat), lenB (a ++ [b]) = lenB a + b.length := fun a b => by simp [lenB]
  exact e _ _
end Go.Proofs.Ytckmdofmplkdfaa

/- ssz's Join and Apart. -/
namespace Go.Proofs.Ytckmdofmplkdfaa
open Go.RowKit Go.Shelf
set_option linter.unusedVariables false
set_option maxRecDepth 100000

/-- The places that stand from t on. -/
def placeAt (bs : List Nat) (t j : Nat) : Nat := tk ((bs.drop (t + 4 * j)).take 4)
def places (bs : List Nat) (t k : Nat) : List Nat := (List.range k).map (placeAt bs t)
theorem places_length (bs : List Nat) (t k : Nat) : (places bs t k).length = k := by simp [places]
theorem places_succ (bs : List Nat) (t k : Nat) : places bs t (k + 1) = places bs t k ++ [placeAt bs t k] := by simp [places, List.range_succ]
theorem places_getD (bs : List Nat) (t k j : Nat) (h : j < k) : (places bs t k).getD j 0 = placeAt bs t j := by simp [places, List.getD_eq_getElem?_getD, h]
/-- Each place may follow those ahead. -/
def goodB (bs : List Nat) (size t k : Nat) : Bool := (List.range k).all fun j => folB bs size (places bs t j) (placeAt bs t j)
theorem goodB_succ (bs : List Nat) (size t k : Nat) : goodB bs size t (k + 1) = (goodB bs size t k && folB bs size (places bs t k) (placeAt bs t k)) := by simp [goodB, List.range_succ]
theorem folB_nil (bs : List Nat) (size p : Nat) : folB bs size [] p = decide (p = size) := rfl
theorem folB_snoc (bs : List Nat) (size : Nat) (ps : List Nat) (l p : Nat) : folB bs size (ps ++ [l]) p = (decide (l ≤ p) && decide (p ≤ bs.length)) := by simp [folB]
theorem goodB_spec {bs : List Nat} {size t k : Nat} (h : goodB bs size t k = true) : ∀ j, j < k → folB bs size (places bs t j) (placeAt bs t j) = true := by
  simpa [goodB] using h
theorem good_first {bs : List Nat} {size t k : Nat} (h : goodB bs size t k = true) (h0 : 0 < k) : placeAt bs t 0 = size := by
  have := goodB_spec h 0 h0
  simpa [places, folB_nil] using this
theorem good_next {bs : List Nat} {size t k : Nat} (h : goodB bs size t k = true) (j : Nat) (hj : j + 1 < k) : placeAt bs t j ≤ placeAt bs t (j + 1) ∧ placeAt bs t (j + 1) ≤ bs.length := by
  have := goodB_spec h (j + 1) hj
  rw [places_succ, folB_snoc] at this
  simpa using this
theorem good_cuts {bs : List Nat} {size t k : Nat} (h : goodB bs size t k = true) (hs : size ≤ bs.length) : Cuts bs (places bs t k) := by
  intro i hi
  rw [places_length] at hi
  have hle : placeAt bs t i ≤ bs.length := by
    cases i with
    | zero => rw [good_first h hi]; exact hs
    | succ i => exact (good_next h i hi).2
  unfold toI
  rw [places_length, places_getD bs t k i hi]
  by_cases h1 : i + 1 < k
  · rw [if_pos h1, places_getD bs t k (i + 1) h1]
    exact good_next h i h1
  · rw [if_neg h1]
    exact ⟨hle, Nat.le_refl _⟩
/-- A Reader's state behind k Parts: where all is well so far, the places; else something is wrong. -/
structure After (w : World) (g : Nat) (bs : List Nat) (size t k : Nat) : Prop where
  ex : ∃ S taken ps wrong, Rd w g S bs size taken ps wrong ∧ ps.length ≤ k ∧ (goodB bs size t k = true → taken = t + 4 * k ∧ ps = places bs t k ∧ wrong = false) ∧ (goodB bs size t k = false → wrong = true)

theorem After.step {w : World} {g : Nat} {bs : List Nat} {size t k : Nat} (h : After w g bs size t k) (hs : size ≤ 4611686018427387904) (hl : bs.length ≤ 140737488355328) (hk : k < 2147483647) (ht : t + 4 * k + 4 ≤ size) :
    Calls Try.prog 16 #[.pointer (some ⟨g, 0, none⟩)] w fun e w' => (∃ u, e = .returned u) ∧ After w' g bs size t (k + 1) ∧ w.grownBy w' (some g) := by
  obtain ⟨S, taken, ps, wrong, hR, hpl, h1, h2⟩ := h
  refine (rpart_any w hR hs hl (by omega)).mono ?_
  rintro e w' ⟨hu, hR', hG⟩
  refine ⟨hu, ⟨_, _, _, _, hR', ?_, ?_, ?_⟩, hG⟩
  · unfold partS
    split
    · omega
    · rw [List.length_append]; simp; omega
  · intro hg
    rw [goodB_succ, Bool.and_eq_true] at hg
    obtain ⟨e1, rfl, rfl⟩ := h1 hg.1
    have hw : fixW size taken 4 false = false := by simp [fixW]; omega
    have hp : partP bs size taken false = placeAt bs t k := by rw [partP, fixB, hw, e1]; rfl
    have hW : partW bs size taken (places bs t k) false = false := by rw [partW, hw, hp, hg.2]; rfl
    refine ⟨by rw [fixT, hw]; simp; omega, by rw [partS, hW, hp, places_succ]; rfl, hW⟩
  · intro hg
    rw [goodB_succ, Bool.and_eq_false_iff] at hg
    rcases hg with hg | hg
    · rw [h2 hg, partW, fixW, Bool.true_or, Bool.true_or]
    · by_cases hgk : goodB bs size t k = true
      · obtain ⟨e1, rfl, rfl⟩ := h1 hgk
        have hw : fixW size taken 4 false = false := by simp [fixW]; omega
        have hp : partP bs size taken false = placeAt bs t k := by rw [partP, fixB, hw, e1]; rfl
        rw [partW, hw, hp, hg]; rfl
      · rw [Bool.not_eq_true] at hgk
        rw [h2 hgk, partW, fixW, Bool.true_or, Bool.true_or]
theorem After.below {w w' : World} {g : Nat} {bs : List Nat} {size t k : Nat} (h : After w g bs size t k) (hb : Below w.heap.size w w') : After w' g bs size t k := by
  obtain ⟨S, taken, ps, wrong, hR, r⟩ := h
  exact ⟨S, taken, ps, wrong, hR.below hb, r⟩

set_option maxHeartbeats 1000000 in
theorem join_any (v : Value) (bss : List (List Nat)) (w : World) (hB : IsBs w v bss) (hn : bss.length < 2147483647) (hl : lenB bss ≤ 1099511627776) :
    Calls Try.prog 6 #[v] w fun e w' => ∃ u, e = .returned u ∧ Row w' w.heap.size u (joinB bss) ∧ Below w.heap.size w w' := by
  obtain ⟨ao, cap, rfl, h1, h2, h3, h4⟩ := hB
  go_enter Try.func6, Try.ntmps6
  go_wp2
  have B0 : Below w.heap.size w (w.alloc (.cells #[.int .i64 0, .pointer none] 47)) := (Below.refl _ w).alloc (Nat.le_refl _) _
  have W0 := wr_new w
  go_loopw [5, 8] (fun _ i wr => ∃ k : Nat, k ≤ bss.length ∧ i = .int .i64 k ∧ (∃ S, Wr wr w.heap.size S ((bss.take k).map fun b => (b, true))) ∧ Below w.heap.size w wr) (fun _ i _ => bss.length - (intOf i).toNat)
  case atStart => exact ⟨0, Nat.zero_le _, rfl, ⟨_, W0⟩, B0⟩
  case round =>
    clear B0 W0
    obtain ⟨k, hk, rfl, ⟨S, hW⟩, hBw⟩ := hrel
    by_cases hlt : k < bss.length
    · obtain ⟨b, off, rfl, hcc⟩ : ∃ b off, ao = some ⟨b, off, none⟩ ∧ ∀ i x, bss[i]? = some x → ∃ u, w.cell? ⟨b, off + i, none⟩ = some u ∧ IsB w u x := by
        rcases h4 with h4 | h4
        · omega
        · exact h4
      have hx := List.getElem?_eq_getElem hlt
      obtain ⟨u, hu, hIs⟩ := hcc k _ hx
      have hcr := (hBw.cell (p := ⟨b, off + k, none⟩) (block_lt_of_cell hu)).trans hu
      have hIsr := hIs.keep hBw
      have hxl := lenB_mem hx
      have HT : Same ((bss.take (k + 1)).map fun b => (b, true)) (((bss.take k).map fun b => (b, true)) ++ [(bss[k], true)]) := ⟨by
        rw [List.take_succ_eq_append_getElem hlt, List.map_append]; rfl⟩
      have HP := hid (part_wr w.heap.size S _ u bss[k] wr hW hIsr (by rw [List.length_map, List.length_take]; omega) (by omega))
      have HBw := hid hBw
      clear hW hBw hIs hIsr hxl hx hcc
      go_wp2_with fail
      refine HP.out.mono ?_
      rintro e w2 ⟨⟨u2, rfl⟩, r1, r2⟩
      have Y := hid (And.intro r1 (HBw.out.grown r2 HBw.out.size (fun j e => by cases e; exact Nat.le_refl _)))
      clear r1 r2 HP
      go_wp2
      go_roundw
      case rel => exact ⟨k + 1, by omega, by go_num, ⟨_, by rw [HT.out]; exact Y.out.1⟩, Y.out.2⟩
      case measure => simp [intOf]; omega
    · obtain rfl : k = bss.length := by omega
      rw [List.take_length] at hW
      have HP := hid (bytes_any w.heap.size S _ wr hW (by rw [List.length_map]; omega) (by rw [lenB_F]; exact hl))
      have HBw := hid hBw
      clear hW hBw
      go_wp2_with fail
      refine HP.out.mono ?_
      rintro e w2 ⟨u2, rfl, r1, r2⟩
      have Y := hid (And.intro (r1.base HBw.out.size) (below_more HBw.out r2 (Nat.le_refl _)))
      clear r1 r2 HP
      go_wp2
      go_ret
      exact ⟨_, rfl, Y.out.1, Y.out.2⟩

/-- What Apart answers. -/
def apartO (bs : List Nat) (limit : Int) : Option (List (List Nat)) :=
  if bs.length = 0 then some []
  else
    let size := tk (bs.take 4)
    if size % 4 ≠ 0 ∨ bs.length < size ∨ limit < ((size / 4 : Nat) : Int) ∨ size = 0 then none
    else if goodB bs size 0 (size / 4) then some (cutL bs (places bs 0 (size / 4))) else none

theorem tk_four (bs : List Nat) (h : ∀ z ∈ bs, z < 256) : tk (bs.take 4) < 4294967296 := by
  unfold tk takeV
  have h1 := takeL_lt (((bs.take 4).map fun n : Nat => (n : Int)).take 8) (fun x hx => by obtain ⟨n, hn, rfl⟩ := List.mem_map.1 (List.mem_of_mem_take hx); have := h n (List.mem_of_mem_take hn); omega)
  have h2 : (((bs.take 4).map fun n : Nat => (n : Int)).take 8).length ≤ 4 := by simp; omega
  have h3 : 256 ^ (((bs.take 4).map fun n : Nat => (n : Int)).take 8).length ≤ 256 ^ 4 := Nat.pow_le_pow_right (by decide) h2
  have h4 : (256 : Nat) ^ 4 = 4294967296 := by decide
  omega

set_option maxHeartbeats 2000000 in
theorem apart_any (v : Value) (bs : List Nat) (limit : Int) (w : World) (hB : IsB w v bs) (hl : bs.length ≤ 140737488355328) (hlim : -9223372036854775808 ≤ limit ∧ limit ≤ 9223372036854775807) :
    Calls Try.prog 7 #[v, .int .i64 limit] w fun e w' =>
      ((∃ bss u, apartO bs limit = some bss ∧ e = .returned (.tuple #[u, .int .i64 0]) ∧ IsBs w' u bss) ∨ (apartO bs limit = none ∧ e = .returned (.tuple #[.slice none 0 0, .int .i64 3]))) ∧ Below w.heap.size w w' := by
  have hB' := hB
  obtain ⟨⟨ao, cap, rfl, hcap, hcm, hnil, hR⟩, h8⟩ := hB
  by_cases h0 : bs.length = 0
  · have h0' : (((bs.length : Nat) : Int) == 0) = true := by rw [beq_iff_eq]; omega
    go_enter Try.func7, Try.ntmps7
    go_wp2
    go_ret2
    exact ⟨.inl ⟨[], _, by simp [apartO, h0], rfl, ⟨none, 0, rfl, by decide, by decide, fun _ => rfl, .inl rfl⟩⟩, Below.refl _ _⟩
  · have h0' : (((bs.length : Nat) : Int) == 0) = false := by rw [beq_eq_false_iff_ne]; omega
    have hts := tk_four bs h8
    have hI4 : IsB w (.slice ao (min bs.length 4) cap) (bs.take 4) := by
      refine ⟨⟨ao, cap, by simp [Nat.min_comm], by simp; omega, hcm, hnil, ?_⟩, fun z hz => h8 z (List.mem_of_mem_take hz)⟩
      rcases hR with h | ⟨b, off, rfl, hc⟩
      · exact absurd h h0
      · refine .inr ⟨b, off, rfl, fun i hi => ?_⟩
        simp at hi
        rw [hc i (by omega), List.getD_eq_getElem?_getD, List.getD_eq_getElem?_getD, List.getElem?_take, if_pos (by omega)]
    have hI5 : bs.length ≤ 4 → IsB w (.slice ao bs.length cap) (bs.take 4) := fun h => by rw [Nat.min_eq_left h] at hI4; exact hI4
    have hI6 : ¬ bs.length ≤ 4 → IsB w (.slice ao 4 cap) (bs.take 4) := fun h => by rw [Nat.min_eq_right (by omega)] at hI4; exact hI4
    have HA : Hid (∀ sz, tk (bs.take 4) = sz → apartO bs limit = if sz % 4 ≠ 0 ∨ bs.length < sz ∨ limit < ((sz / 4 : Nat) : Int) ∨ sz = 0 then none else if goodB bs sz 0 (sz / 4) then some (cutL bs (places bs 0 (sz / 4))) else none) := by
      rintro sz rfl
      simp only [apartO, if_neg h0]
    obtain ⟨sz, hsz⟩ : ∃ sz, tk (bs.take 4) = sz := ⟨_, rfl⟩
    rw [hsz] at hts
    have HA2 := hid (HA.out sz hsz)
    have HB := hid hB'
    have HSZ := hid hsz
    clear HA hR hI4 hB'
    by_cases hm : bs.length ≤ 4
    all_goals
      by_cases c1 : sz % 4 = 0
      · have c1' : ((sz : Int) % 4 != 0) = false := by simp; omega
        by_cases c2 : bs.length < sz
        · have c2' : (bs.length : Int) < (sz : Int) := by omega
          clear hsz
          go_enter Try.func7, Try.ntmps7
          go_wp2_with fail
          refine (take_isB _ (bs.take 4) _ (by first | exact hI5 hm | exact hI6 hm)).mono ?_
          rintro e w1 ⟨rfl, rfl⟩
          rw [HSZ.out]
          go_wp2
          go_ret2
          rw [HA2.out, if_pos (.inr (.inl c2))]
          exact ⟨.inr ⟨rfl, rfl⟩, Below.refl _ _⟩
        · have c2' : ¬ (bs.length : Int) < (sz : Int) := by omega
          by_cases c3 : limit < ((sz / 4 : Nat) : Int)
          · have c3' : limit < (sz : Int) / 4 := by omega
            clear hsz
            go_enter Try.func7, Try.ntmps7
            go_wp2_with fail
            refine (take_isB _ (bs.take 4) _ (by first | exact hI5 hm | exact hI6 hm)).mono ?_
            rintro e w1 ⟨rfl, rfl⟩
            rw [HSZ.out]
            go_wp2
            go_ret2
            rw [HA2.out, if_pos (.inr (.inr (.inl c3)))]
            exact ⟨.inr ⟨rfl, rfl⟩, Below.refl _ _⟩
          · have c3' : ¬ limit < (sz : Int) / 4 := by omega
            obtain ⟨ct, hct⟩ : ∃ ct, sz / 4 = ct := ⟨_, rfl⟩
            have hct' : (sz : Int) / 4 = (ct : Int) := by omega
            rw [hct] at HA2
            have HC := hid hct
            have HC' := hid hct'
            clear hct hct' c3 hsz
            go_enter Try.func7, Try.ntmps7
            go_wp2_with fail
            refine (take_isB _ (bs.take 4) _ (by first | exact hI5 hm | exact hI6 hm)).mono ?_
            rintro e w1 ⟨rfl, rfl⟩
            rw [HSZ.out]
            go_wp2_with fail
            refine (read_any _ bs sz _ HB.out (by omega) hl).mono ?_
            rintro e w2 ⟨g, S, hg, rfl, hRd, _, B2⟩
            have hw : decide (bs.length < sz) = false := by simp; omega
            rw [hw] at hRd
            have Y := hid (And.intro hRd B2)
            clear hRd B2 hw
            go_wp2_with fail
            rw [HC'.out]
            have hcb := HC.out
            clear c1' c2' c3'
            go_loopw [41] (fun i wr => ∃ k : Nat, k ≤ ct ∧ i = .int .i64 k ∧ After wr g bs sz 0 k ∧ Below w1.heap.size w1 wr) (fun i _ => ct - (intOf i).toNat)
            case atStart => exact ⟨0, Nat.zero_le _, rfl, ⟨S, 0, [], false, Y.out.1, Nat.le_refl _, fun _ => ⟨rfl, rfl, rfl⟩, fun h => by simp [goodB] at h⟩, Y.out.2⟩
            case round =>
              obtain ⟨k, hk, rfl, hAf, hBw⟩ := hrel
              have HAf := hid hAf
              have HBw := hid hBw
              clear hAf hBw
              by_cases hlt : k < ct
              · go_wp2_with fail
                refine (HAf.out.step (by omega) hl (by omega) (by omega)).mono ?_
                rintro e w3 ⟨⟨u3, rfl⟩, r1, r2⟩
                have Z := hid (And.intro r1 (HBw.out.grown r2 HBw.out.size (fun j e => by cases e; exact hg)))
                clear r1 r2
                go_wp2
                go_roundw
                case rel => exact ⟨k + 1, by omega, by go_num, Z.out.1, Z.out.2⟩
                case measure => simp [intOf]; omega
              · obtain rfl : k = ct := by omega
                obtain ⟨S3, tkn, ps, wrong, hR3, hpl, q1, q2⟩ := HAf.out.ex
                by_cases hsz0 : sz = 0
                · obtain rfl : k = 0 := by omega
                  obtain ⟨rfl, rfl, rfl⟩ := q1 rfl
                  have HPp := hid (parts_bad wr hR3 (.inr (.inr ⟨rfl, by omega⟩)) (by omega) hl (by simp [places_length]))
                  clear hR3 q2 q1
                  go_wp2_with fail
                  refine HPp.out.mono ?_
                  rintro e w4 ⟨rfl, n4, rfl⟩
                  go_wp2
                  go_ret2
                  rw [HA2.out, if_pos (.inr (.inr (.inr hsz0)))]
                  exact ⟨.inr ⟨rfl, rfl⟩, ⟨HBw.out.os, HBw.out.tape, HBw.out.output, HBw.out.size, HBw.out.block⟩⟩
                · have hif : ¬ (sz % 4 ≠ 0 ∨ bs.length < sz ∨ limit < ((k : Nat) : Int) ∨ sz = 0) := by omega
                  cases hgd : goodB bs sz 0 k
                  · obtain rfl := q2 hgd
                    have HPp := hid (parts_bad wr hR3 (.inl rfl) (by omega) hl (by omega))
                    have HG := hid hgd
                    clear hR3 q2 q1 hgd
                    go_wp2_with fail
                    refine HPp.out.mono ?_
                    rintro e w4 ⟨rfl, n4, rfl⟩
                    go_wp2
                    go_ret2
                    rw [HA2.out, if_neg hif, HG.out]
                    exact ⟨.inr ⟨rfl, rfl⟩, ⟨HBw.out.os, HBw.out.tape, HBw.out.output, HBw.out.size, HBw.out.block⟩⟩
                  · obtain ⟨e1, rfl, rfl⟩ := q1 hgd
                    obtain rfl : tkn = sz := by omega
                    have HPp := hid (parts_ok wr hR3 (fun e => absurd (congrArg List.length e) (by rw [places_length]; simp; omega)) (good_cuts hgd (by omega)) (by omega) hl (by rw [places_length]; omega))
                    have HG := hid hgd
                    clear hR3 q2 q1 hgd e1
                    go_wp2_with fail
                    refine HPp.out.mono ?_
                    rintro e w4 ⟨u4, rfl, r1, r2⟩
                    have Z := hid (And.intro r1 (below_more HBw.out r2 (Nat.le_refl _)))
                    clear r1 r2
                    go_wp2
                    go_ret2
                    rw [HA2.out, if_neg hif, HG.out]
                    exact ⟨.inl ⟨_, _, rfl, rfl, Z.out.1⟩, Z.out.2⟩
      · have c1' : ((sz : Int) % 4 != 0) = true := by rw [bne_iff_ne]; omega
        clear hsz
        go_enter Try.func7, Try.ntmps7
        go_wp2_with fail
        refine (take_isB _ (bs.take 4) _ (by first | exact hI5 hm | exact hI6 hm)).mono ?_
        rintro e w1 ⟨rfl, rfl⟩
        rw [HSZ.out]
        go_wp2
        go_ret2
        rw [HA2.out, if_pos (.inl c1)]
        exact ⟨.inr ⟨rfl, rfl⟩, Below.refl _ _⟩
end Go.Proofs.Ytckmdofmplkdfaa

/- Joined parts are parted again: the plain mathematics. -/
namespace Go.Proofs.Ytckmdofmplkdfaa
open Go.RowKit
set_option linter.unusedVariables false

theorem joinB_eq (bss : List (List Nat)) : joinB bss = frontB (4 * bss.length) (bss.map fun b => (b, true)) ++ bss.flatten := by
  have e : szF (bss.map fun b => (b, true)) = 4 * bss.length := by
    induction bss with
    | nil => rfl
    | cons b r ih =>
      have : szF ((b :: r).map fun b => (b, true)) = 4 + szF (r.map fun b => (b, true)) := by simp [szF, sz1]
      rw [this, ih, List.length_cons]; omega
  rw [joinB, cont, e, back_flat]
theorem joinB_length (bss : List (List Nat)) : (joinB bss).length = 4 * bss.length + lenB bss := by
  have e : szF (bss.map fun b => (b, true)) = 4 * bss.length := by
    induction bss with
    | nil => rfl
    | cons b r ih =>
      have : szF ((b :: r).map fun b => (b, true)) = 4 + szF (r.map fun b => (b, true)) := by simp [szF, sz1]
      rw [this, ih, List.length_cons]; omega
  rw [joinB_eq, List.length_append, frontB_length, e, lenB_flat]
theorem join_place (bss : List (List Nat)) (h : 4 * bss.length + lenB bss < 4294967296) (j : Nat) (hj : j < bss.length) : placeAt (joinB bss) 0 j = 4 * bss.length + lenB (bss.take j) := by
  unfold placeAt
  rw [Nat.zero_add, joinB_eq, front_at _ bss _ j hj, tk_le4]
  have := lenB_take bss j
  omega
theorem join_good (bss : List (List Nat)) (h : 4 * bss.length + lenB bss < 4294967296) : ∀ k, k ≤ bss.length → goodB (joinB bss) (4 * bss.length) 0 k = true
  | 0, _ => rfl
  | k + 1, hk => by
    rw [goodB_succ, join_good bss h k (by omega), Bool.true_and]
    cases k with
    | zero =>
      show folB _ _ (places _ 0 0) _ = true
      rw [show places (joinB bss) 0 0 = [] from rfl, folB_nil, join_place bss h 0 (by omega)]
      simp [lenB]
    | succ k =>
      have hx := List.getElem?_eq_getElem (show k < bss.length by omega)
      have h1 := lenB_succ bss k _ hx
      have h2 := lenB_take bss (k + 1)
      rw [places_succ, folB_snoc, join_place bss h k (by omega), join_place bss h (k + 1) (by omega), joinB_length]
      simp
      omega
theorem joinB_byte {bss : List (List Nat)} (h : ∀ b ∈ bss, ∀ z ∈ b, z < 256) : ∀ z ∈ joinB bss, z < 256 := by
  intro z hz
  rw [joinB_eq] at hz
  rcases List.mem_append.1 hz with hz | hz
  · have key : ∀ (r : List (List Nat)) (p : Nat), (∀ b ∈ r, ∀ z ∈ b, z < 256) → ∀ z ∈ frontB p (r.map fun b => (b, true)), z < 256 := by
      intro r
      induction r with
      | nil => intro p _ z hz; simp [frontB] at hz
      | cons b r ih =>
        intro p hb z hz
        rw [List.map_cons, frontB] at hz
        simp only [if_true] at hz
        rcases List.mem_append.1 hz with hz | hz
        · exact le_byte _ _ z hz
        · exact ih _ (fun c hc => hb c (List.mem_cons_of_mem _ hc)) z hz
    exact key bss _ h z hz
  · obtain ⟨b, hb, hz⟩ := List.mem_flatten.1 hz
    exact h b hb z hz
theorem join_cut (bss : List (List Nat)) (h : 4 * bss.length + lenB bss < 4294967296) : cutL (joinB bss) (places (joinB bss) 0 bss.length) = bss := by
  apply List.ext_getElem?
  intro i
  by_cases hi : i < bss.length
  · have hx := List.getElem?_eq_getElem hi
    have hto : toI (joinB bss) (places (joinB bss) 0 bss.length) i = 4 * bss.length + lenB (bss.take (i + 1)) := by
      unfold toI
      rw [places_length]
      by_cases h1 : i + 1 < bss.length
      · rw [if_pos h1, places_getD _ _ _ _ h1, join_place bss h _ h1]
      · rw [if_neg h1, joinB_length, show i + 1 = bss.length by omega, List.take_length]
    rw [cutL_get (by rw [places_length]; exact hi), hto, places_getD _ _ _ _ hi, join_place bss h i hi, lenB_succ bss i _ hx, hx]
    congr 1
    have hf : (frontB (4 * bss.length) (bss.map fun b => (b, true))).length = 4 * bss.length := by
      have := joinB_length bss
      rw [joinB_eq, List.length_append, lenB_flat] at this
      omega
    rw [show 4 * bss.length + (lenB (bss.take i) + bss[i].length) - (4 * bss.length + lenB (bss.take i)) = bss[i].length by omega, joinB_eq, List.drop_append, List.drop_eq_nil_of_le (by rw [hf]; omega), List.nil_append, hf, show 4 * bss.length + lenB (bss.take i) - 4 * bss.length = lenB (bss.take i) by omega]
    exact flat_part bss i _ hx
  · rw [List.getElem?_eq_none (by rw [cutL_length, places_length]; omega), List.getElem?_eq_none (by omega)]
theorem apart_join (bss : List (List Nat)) (h : 4 * bss.length + lenB bss < 4294967296) (limit : Int) : apartO (joinB bss) limit = if 0 < bss.length ∧ limit < ((bss.length : Nat) : Int) then none else some bss := by
  by_cases h0 : bss.length = 0
  · obtain rfl : bss = [] := List.eq_nil_of_length_eq_zero h0
    rw [if_neg (by simp)]
    rfl
  · have hl := joinB_length bss
    have ht : tk ((joinB bss).take 4) = 4 * bss.length := by
      have := join_place bss h 0 (by omega)
      unfold placeAt at this
      simpa [lenB] using this
    unfold apartO
    rw [if_neg (by omega)]
    simp only [ht]
    rw [show 4 * bss.length / 4 = bss.length by omega, join_good bss h _ (Nat.le_refl _), join_cut bss h]
    by_cases hlim : limit < ((bss.length : Nat) : Int)
    · rw [if_pos (.inr (.inr (.inl hlim))), if_pos ⟨by omega, hlim⟩]
    · rw [if_neg (by omega), if_pos rfl, if_neg (by omega)]
end Go.Proofs.Ytckmdofmplkdfaa

/- Places: the plain mathematics of SszReads. -/
namespace Go.Proofs.Ytckmdofmplkdfaa
open Go.RowKit Go.Shelf
set_option linter.unusedVariables false
set_option maxRecDepth 100000

/-- Is no place behind the first k less than the one ahead? -/
def upB2 (l : List Nat) (k : Nat) : Bool := (List.range (k - 1)).all fun i => decide (l.getD i 0 ≤ l.getD (i + 1) 0)
theorem upB2_succ (l : List Nat) (k : Nat) (h : 0 < k) : upB2 l (k + 1) = (upB2 l k && decide (l.getD (k - 1) 0 ≤ l.getD k 0)) := by
  unfold upB2
  rw [show k + 1 - 1 = (k - 1) + 1 by omega, List.range_succ, List.all_append]
  simp [show k - 1 + 1 = k by omega]
theorem upB2_one (l : List Nat) : upB2 l 1 = true := rfl
/-- All places, and the end. -/
def atL (bs : List Nat) (t k : Nat) : List Nat := places bs t k ++ [bs.length]
theorem atL_length (bs : List Nat) (t k : Nat) : (atL bs t k).length = k + 1 := by simp [atL, places_length]
theorem atL_getD (bs : List Nat) (t k j : Nat) (h : j < k) : (atL bs t k).getD j 0 = placeAt bs t j := by
  unfold atL
  rw [List.getD_eq_getElem?_getD, List.getElem?_append_left (by rw [places_length]; exact h), ← List.getD_eq_getElem?_getD, places_getD bs t k j h]
theorem atL_last (bs : List Nat) (t k : Nat) : (atL bs t k).getD k 0 = bs.length := by
  unfold atL
  rw [List.getD_eq_getElem?_getD, List.getElem?_append_right (by rw [places_length]; exact Nat.le_refl _), places_length]
  simp
theorem upB2_le {l : List Nat} {k : Nat} (h : upB2 l k = true) : ∀ j i, j ≤ i → i < k → l.getD j 0 ≤ l.getD i 0 := by
  intro j i hji hik
  have hs : ∀ x, x < k - 1 → l.getD x 0 ≤ l.getD (x + 1) 0 := by simpa [upB2] using h
  induction i with
  | zero => obtain rfl : j = 0 := by omega
            exact Nat.le_refl _
  | succ i ih =>
    by_cases e : j = i + 1
    · rw [e]; exact Nat.le_refl _
    · exact Nat.le_trans (ih (by omega) (by omega)) (hs i (by omega))
theorem upB2_false {l : List Nat} {m n : Nat} (h : upB2 l m = false) (hmn : m ≤ n) : upB2 l n = false := by
  rw [← Bool.not_eq_true] at h ⊢
  intro hn
  apply h
  simp only [upB2, List.all_eq_true, List.mem_range, decide_eq_true_eq] at hn ⊢
  exact fun i hi => hn i (by omega)
/-- What the statement asks of the places is what the Reader asks. -/
theorem good_iff (bs : List Nat) (size t k : Nat) (h0 : 0 < k) (hs : size ≤ bs.length) : goodB bs size t k = (decide ((atL bs t k).getD 0 0 = size) && upB2 (atL bs t k) (k + 1)) := by
  rw [Bool.eq_iff_iff, Bool.and_eq_true, decide_eq_true_eq]
  constructor
  · intro hg
    refine ⟨by rw [atL_getD bs t k 0 h0]; exact good_first hg h0, ?_⟩
    simp only [upB2, List.all_eq_true, List.mem_range, decide_eq_true_eq]
    intro i hi
    rw [atL_getD bs t k i (by omega)]
    by_cases h1 : i + 1 < k
    · rw [atL_getD bs t k (i + 1) h1]; exact (good_next hg i h1).1
    · rw [show i + 1 = k by omega, atL_last]
      cases i with
      | zero => rw [good_first hg h0]; exact hs
      | succ i => exact (good_next hg i (by omega)).2
  · rintro ⟨h1, h2⟩
    simp only [goodB, List.all_eq_true, List.mem_range]
    intro j hj
    cases j with
    | zero =>
      rw [show places bs t 0 = [] from rfl, folB_nil, ← atL_getD bs t k 0 h0, h1]
      simp
    | succ j =>
      rw [places_succ, folB_snoc, Bool.and_eq_true, decide_eq_true_eq, decide_eq_true_eq]
      have a := upB2_le h2 j (j + 1) (by omega) (by omega)
      have b := upB2_le h2 (j + 1) k (by omega) (by omega)
      rw [atL_getD bs t k j (by omega), atL_getD bs t k (j + 1) hj] at a
      rw [atL_getD bs t k (j + 1) hj, atL_last] at b
      exact ⟨a, b⟩
theorem placeAt_lt {bs : List Nat} (h : ∀ z ∈ bs, z < 256) (t j : Nat) (hl : t + 4 * j + 4 ≤ bs.length) : placeAt bs t j < 4294967296 :=
  tk_lt4 _ (fun z hz => h z (List.mem_of_mem_drop (List.mem_of_mem_take hz))) (by simp; omega)
theorem rtake_isB (v : Value) (bs : List Nat) (w : World) (h : IsB w v bs) :
    Calls Try.prog 19 #[v] w fun e w' => e = .returned (.int .u64 (tk bs : Nat)) ∧ w' = w := by
  obtain ⟨⟨ao, cap, rfl, h1, h2, h3, hR⟩, h8⟩ := h
  refine refTake_any ao bs.length cap (bs.map fun n : Nat => (n : Int)) w (by omega) ⟨by simp, fun z hz => ?_, ?_⟩
  · obtain ⟨n, hn, rfl⟩ := List.mem_map.1 hz; have := h8 n hn; omega
  · rcases hR with h | ⟨b, off, rfl, hc⟩
    · exact .inl h
    · refine .inr ⟨b, off, rfl, fun i hi => ?_⟩
      rw [hc i hi]
      simp [hi]
theorem cellsI_one (l : List Nat) : ∀ u ∈ l.map (fun n : Nat => Value.int .i64 (n : Int)), u.oneCell' = true := fun u hu => by obtain ⟨n, _, rfl⟩ := List.mem_map.1 hu; rfl
/-- A row of numbers of the call's own. -/
abbrev RowI (w : World) (base : Nat) (v : Value) (l : List Nat) : Prop := w.ownsRow base 3 1 v l.length (l.map fun n : Nat => Value.int .i64 (n : Int))
theorem RowI.form {w : World} {base : Nat} {v : Value} {xs : List Nat} (h : RowI w base v xs) (h0 : 0 < xs.length) : ∃ g cap, base ≤ g ∧ g < w.heap.size ∧ v = .slice (some ⟨g, 0, none⟩) xs.length cap ∧ xs.length ≤ cap ∧ ∀ i, i < xs.length → w.cell? ⟨g, i, none⟩ = some (.int .i64 (xs.getD i 0 : Nat)) := by
  obtain ⟨_, h⟩ := h
  rcases h with ⟨rfl, h1⟩ | ⟨g, cap, cur, rfl, hb, hg, hc, hm, hcs, htk⟩
  · omega
  · refine ⟨g, cap, hb, (Array.getElem?_eq_some_iff.1 hg).1, rfl, hc, fun i hi => ?_⟩
    rw [cell_of_row w g i _ _ (0, 0) hg, ← Array.getElem?_toList]
    have : (cur.toList.take (xs.length * 1))[i]? = (xs.map fun n : Nat => Value.int .i64 (n : Int))[i]? := by rw [htk]
    rw [List.getElem?_take, if_pos (by omega)] at this
    rw [this, List.getElem?_map, List.getElem?_eq_getElem hi, List.getD_eq_getElem?_getD, List.getElem?_eq_getElem hi]
    rfl
theorem cut_at (bs : List Nat) (t k m : Nat) (h : m < k) : (cutL bs (places bs t k))[m]? = some ((bs.drop ((atL bs t k).getD m 0)).take ((atL bs t k).getD (m + 1) 0 - (atL bs t k).getD m 0)) := by
  have hto : toI bs (places bs t k) m = (atL bs t k).getD (m + 1) 0 := by
    unfold toI
    rw [places_length]
    by_cases h1 : m + 1 < k
    · rw [if_pos h1, places_getD _ _ _ _ h1, atL_getD _ _ _ _ h1]
    · rw [if_neg h1, show m + 1 = k by omega, atL_last]
  rw [cutL_get (by rw [places_length]; exact h), hto, places_getD _ _ _ _ h, atL_getD _ _ _ _ h]
section
variable {w : World} {ops : Array Oper} {rest : List Oper} {o : Oper} {a : Act} {Q : Exit → Act → World → Prop}
/-- append of one number onto a row of numbers. -/
theorem wpList_append_i (hgd : o.guard = none) (s x : Operand) (ho : o.op = .call { callee := .builtin .append, args := #[s, x], argTypes := #[84, 84] })
    (base : Nat) (v : Value) (xs : List Nat) (hv : a.eval s = v) (hown : RowI w base v xs) (b n : Nat) (hx : a.eval x = .slice (some ⟨b, 0, none⟩) 1 1) (hc : w.cell? ⟨b, 0, none⟩ = some (.int .i64 (n : Nat))) (hb : xs.length + 1 ≤ 1000000) (hbase : base ≤ w.heap.size)
    (h : ∀ v' w', RowI w' base v' (xs ++ [n]) → w.grownBy w' v.ownBlock → wpList Try.prog ops Q rest (a.put o.dst v') w') : wpList Try.prog ops Q (o :: rest) a w := by
  obtain ⟨i0, hi, hz0, hz1, hz2⟩ := info_parts Try.info3
  refine wpList_append_own _ hgd s x 84 ho base 3 i0 (.int .i64 0) 1 8 Try.underlying84 hi hz0 hz1 hz2 rfl (by decide) v xs.length _ hv hown ⟨b, 0, none⟩ 1 1 [.int .i64 (n : Nat)] hx rfl ?_ ?_ (by unfold maxLen; omega) (by omega) hbase ?_
  · intro j u hj
    match j, hj with
    | 0, hj => simp at hj; subst hj; simpa [Addr.add] using hc
  · intro u hu; simp at hu; subst hu; rfl
  · intro v' w' h1 h2 _
    refine h v' w' ?_ h2
    unfold RowI
    rw [List.length_append, List.map_append]
    exact h1
end
end Go.Proofs.Ytckmdofmplkdfaa

/- The document's Decode of a list of parts: series, where all are of one kind that has several sizes. -/
namespace Go.Proofs.Ytckmdofmplkdfaa
open Go.RowKit Go.Shelf
set_option linter.unusedVariables false
set_option linter.unusedSimpArgs false
set_option maxRecDepth 100000

theorem IsB.sub2 {w : World} {ao : Option Addr} {cap : Nat} {bs : List Nat} (h : IsB w (.slice ao bs.length cap) bs) (f t : Nat) (h1 : f ≤ t) (h2 : t ≤ bs.length) : IsB w (.slice (if cap = f then ao else ao.map fun x => x.add f) (t - f) (cap - f)) ((bs.drop f).take (t - f)) := by
  have h' := h
  obtain ⟨⟨ao', cap', he, hc1, hc2, hc3, hR⟩, h8⟩ := h
  simp only [Value.slice.injEq] at he
  obtain ⟨rfl, _, rfl⟩ := he
  have hl : ((bs.drop f).take (t - f)).length = t - f := by simp; omega
  refine ⟨⟨(if cap = f then ao else ao.map fun x => x.add f), cap - f, by rw [hl], by omega, by omega, fun e => ?_, ?_⟩, fun z hz => h8 z (List.mem_of_mem_drop (List.mem_of_mem_take hz))⟩
  · by_cases e2 : cap = f
    · omega
    · rw [if_neg e2] at e
      cases ao with
      | none => have := hc3 rfl; omega
      | some a => cases e
  · by_cases e2 : t = f
    · exact .inl (by omega)
    · obtain ⟨b, off, rfl, hcc⟩ := h'.drop_reads f (t - f) (by omega) (by omega)
      exact .inr ⟨b, off + f, by rw [if_neg (by omega), Option.map_some, Addr.add_lit], fun i hi => hcc i (by omega)⟩
theorem cell_keep {w w' : World} (hb : Below w.heap.size w w') {p : Addr} {v : Value} (h : w.cell? p = some v) : w'.cell? p = some v := (hb.cell (p := p) (block_lt_of_cell h)).trans h
theorem own_slice {W : World} {base : Nat} {e : TypeId} {size n : Nat} {v : Value} {xs : List Value} (h : W.ownsRow base e size v n xs) : ∃ a m c, v = .slice a m c := by
  rcases h.2 with ⟨rfl, _⟩ | ⟨g, cap, cur, rfl, _⟩
  · exact ⟨_, _, _, rfl⟩
  · exact ⟨_, _, _, rfl⟩
theorem HasC.setCell {w : World} {g : Nat} {t : TypeId} {cs : List Value} (h : HasC w g t cs) (j : Nat) (v : Value) : HasC (w.setCell ⟨g, j, none⟩ v) g t (cs.set j v) := by
  unfold HasC at *
  simp [World.setCell, Array.getElem?_modify, h]
theorem valL_set34 (u v : Value) : (valL 0 (zeros 32) nilS u).set 34 v = valL 0 (zeros 32) nilS v := by kernel_rfl
theorem valInfo3 : (Try.prog.info? 39).map (fun i => (i.zero, i.size, i.bytes)) = some (some (.agg (valL 0 (zeros 32) nilS nilS).toArray), 35, 88) := by kernel_rfl
theorem Try.ty39 : Ty Try.prog 39 (valL 0 (zeros 32) nilS nilS) := ⟨zeroVal, _, Try.underlying39, rfl⟩
theorem IsB.part {w : World} {b off cap : Nat} {bs : List Nat} (h : IsB w (.slice (some ⟨b, off, none⟩) bs.length cap) bs) (lo n : Nat) (h1 : lo + n ≤ bs.length) : IsB w (.slice (some ⟨b, off + lo, none⟩) n (cap - lo)) ((bs.drop lo).take n) := by
  obtain ⟨⟨ao', cap', he, hc1, hc2, hc3, hR⟩, h8⟩ := h
  simp only [Value.slice.injEq] at he
  obtain ⟨rfl, _, rfl⟩ := he
  have hl : ((bs.drop lo).take n).length = n := by rw [List.length_take, List.length_drop]; omega
  refine ⟨⟨some ⟨b, off + lo, none⟩, cap - lo, by rw [hl], by omega, by omega, (fun e => nomatch e), ?_⟩, fun z hz => h8 z (List.mem_of_mem_drop (List.mem_of_mem_take hz))⟩
  by_cases hn : n = 0
  · exact .inl (by omega)
  obtain ⟨b', off', he, hc⟩ := hR.resolve_left (by omega)
  cases he
  refine .inr ⟨b, off + lo, rfl, fun i hi => ?_⟩
  rw [hl] at hi
  rw [Nat.add_assoc, hc (lo + i) (by omega)]
  congr 3
  rw [List.getD_eq_getElem?_getD, List.getD_eq_getElem?_getD, List.getElem?_take, if_pos hi, List.getElem?_drop]
theorem idx_int0 (g m cp : Nat) (h : 0 < m) (w : World) : (Instr.indexAt 84 (.slice (some ⟨g, 0, none⟩) m cp) (.int .i64 0)).run Try.prog w = .ok (.pointer (some ⟨g, 0, none⟩)) w := by
  have hs : (Try.prog.info? 3).map (·.size) = some 1 := by kernel_rfl
  have hz : (sizeOf 3).run Try.prog w = .ok 1 w := by
    cases hq : Try.prog.info? 3 with
    | none => rw [hq] at hs; cases hs
    | some ie => rw [hq] at hs; simp only [Option.map_some, Option.some.injEq] at hs; simp [sizeOf, typeInfo, hq, hs, go_sem]
  simp [Instr.indexAt, underlying, Try.underlying84, hz, h, Addr.add, asIntOf, go_sem]
theorem wpList_runs {P : Program} {w : World} {ops : Array Oper} {rest : List Oper} {o : Oper} {a : Act} {Q : Exit → Act → World → Prop} (hgd : o.guard = none) (v : Value) (hrun : (execOp a.eval o).run P w = .ok (.value v) w) (h : wpList P ops Q rest (a.put o.dst v) w) : wpList P ops Q (o :: rest) a w :=
  wpList_plain hgd fun K hK => wp_run hrun (hK _ _ h)
theorem HasC.grownO {w w' : World} {g : Nat} {t : TypeId} {cs : List Value} {row : Option Nat} (h : HasC w g t cs) (hG : w.grownBy w' row) (hg : row ≠ some g) : HasC w' g t cs := by
  unfold HasC; rw [hG.block g h.lt (fun e => hg e.symm)]; exact h
theorem valInfo : (Try.prog.info? 39).map (fun i => (i.zero.isSome, i.size)) = some (true, 35) := by kernel_rfl
/-- The cells of a value, whatever it is. -/
def ValC (c : List Value) : Prop := c.length = 35 ∧ c.toArray.all (·.oneCell') = true
theorem own_form {w : World} {base n s : Nat} {e : TypeId} {v : Value} {xs : List Value} (h : w.ownsRow base e s v n xs) : ∃ a cp, v = .slice a n cp := by
  rcases h.2 with ⟨rfl, hz⟩ | ⟨g, cap, cur, rfl, _⟩
  · exact ⟨none, 0, by rw [hz]⟩
  · exact ⟨_, _, rfl⟩
/-- append of one value onto a row of values. -/
theorem wpList_append_val {w : World} {ops : Array Oper} {rest : List Oper} {o : Oper} {a : Act} {Q : Exit → Act → World → Prop} (hgd : o.guard = none) (s x : Operand) (ho : o.op = .call { callee := .builtin .append, args := #[s, x], argTypes := #[37, 37] })
    (base : Nat) (v : Value) (n : Nat) (xs : List Value) (hs : a.eval s = v) (hown : w.ownsRow base 39 35 v n xs) (b : Nat) (c : List Value) (hx : a.eval x = .slice (some ⟨b, 0, none⟩) 1 1) (hc : HasC w b 39 c) (hvc : ValC c) (hn : n ≤ 1000000) (hbase : base ≤ w.heap.size)
    (h : ∀ v' w', w'.ownsRow base 39 35 v' (n + 1) (xs ++ c) → w.grownBy w' v.ownBlock → wpList Try.prog ops Q rest (a.put o.dst v') w') : wpList Try.prog ops Q (o :: rest) a w := by
  obtain ⟨i0, hi, hz0, hz1, hz2⟩ : ∃ i, Try.prog.info? 39 = some i ∧ i.zero = some (.agg (valL 0 (zeros 32) nilS nilS).toArray) ∧ i.size = 35 ∧ i.bytes = 88 := by
    have h0 := valInfo3
    cases hq : Try.prog.info? 39 with
    | none => rw [hq] at h0; cases h0
    | some i => rw [hq] at h0; simp only [Option.map_some, Option.some.injEq, Prod.mk.injEq] at h0; exact ⟨i, rfl, h0.1, h0.2.1, h0.2.2⟩
  refine wpList_append_own _ hgd s x 37 ho base 39 i0 _ 35 88 Try.underlying37 hi hz0 hz1 hz2 (by show (valL 0 (zeros 32) nilS nilS).length = 35; exact valL_length _ _ _ _ zeros32) (by decide) v n xs hs hown ⟨b, 0, none⟩ 1 1 c hx (by rw [hvc.1]) (fun j u hj => by rw [Addr.add_lit, Nat.zero_add]; exact hc.cell hj) (fun u hu => ?_) (by unfold maxLen; omega) (by omega) hbase (fun v' w' h1 h2 _ => h v' w' h1 h2)
  exact (Array.all_eq_true_iff_forall_mem.1 hvc.2) u (by simpa using hu)
/-- What an element's kind answers: its size; all that it is given can be read. -/
def SizeOf (w : World) (p : Nat) (s : Int) : Prop := ∀ wq, Below w.heap.size w wq → Calls Try.prog 18 #[.pointer (some ⟨p, 0, none⟩)] wq fun e w' => e = .returned (.int .i64 s) ∧ w' = wq
def EltOf (w : World) (p : Nat) (C : List Nat → Prop) : Prop := ∀ u xb wq, Below w.heap.size w wq → IsB wq u xb → C xb → Calls Try.prog 8 #[.pointer (some ⟨p, 0, none⟩), u] wq fun e w' => ∃ c : List Value, e = .returned (.tuple #[.agg c.toArray, .bool true]) ∧ ValC c ∧ Below wq.heap.size wq w'
/-- What series answers: the kids, or that they are not there so. -/
def SerR (g : Bool) (k : Nat) (w : World) (e : Ending) (w' : World) : Prop := ∃ u : Value, e = .returned (.tuple #[.agg (valL 0 (zeros 32) nilS u).toArray, .bool g]) ∧ (∃ a cp, u = .slice a (if g = true then k else 0) cp) ∧ Below w.heap.size w w'
theorem SerR.no {g : Bool} {k : Nat} {w w' : World} (hg : g = false) (hb : Below w.heap.size w w') : SerR g k w (.returned (.tuple #[.agg (valL 0 (zeros 32) nilS nilS).toArray, .bool false])) w' := by
  subst hg
  exact ⟨nilS, rfl, ⟨none, 0, rfl⟩, hb⟩
theorem SerR.yes {g : Bool} {k : Nat} {w w' : World} {u : Value} (hg : g = true) (hu : ∃ a cp, u = .slice a k cp) (hb : Below w.heap.size w w') : SerR g k w (.returned (.tuple #[.agg (valL 0 (zeros 32) nilS u).toArray, .bool true])) w' := by
  subst hg
  exact ⟨u, rfl, hu, hb⟩
set_option maxHeartbeats 4000000 in
theorem series_far (g0 off0 kcap k p : Nat) (v : Value) (bs : List Nat) (w : World) (hk : 0 < k) (hkc : k ≤ kcap) (hkm : kcap ≤ maxLen)
    (hcell : ∀ i, i < k → w.cell? ⟨g0, off0 + i, none⟩ = some (.pointer (some ⟨p, 0, none⟩)))
    (hB : IsB w v bs) (hl : bs.length ≤ 100000) (hh : 4 * k ≤ bs.length) (hp : placeAt bs 0 0 = 4 * k)
    (hS : SizeOf w p (-1)) (hE : EltOf w p fun xb => xb.length ≤ bs.length) :
    Calls Try.prog 23 #[.slice (some ⟨g0, off0, none⟩) k kcap, v] w fun e w' => SerR (upB2 (atL bs 0 k) (k + 1)) k w e w' := by
  obtain ⟨G, hG⟩ : ∃ G, upB2 (atL bs 0 k) (k + 1) = G := ⟨_, rfl⟩
  have HGG := hid hG
  rw [hG]
  clear hG
  have HB := hid hB
  have HCE := hid hcell
  have HS := hid hS
  have HE := hid hE
  have HP := hid hp
  have hm0 : maxLen ≤ 9223372036854775807 := by decide
  have hkm2 : kcap ≤ 9223372036854775807 := by omega
  obtain ⟨⟨ao, cap, rfl, hcap, hmx, hnil, hR⟩, h8⟩ := hB
  have hcm2 : cap ≤ 9223372036854775807 := by omega
  obtain ⟨bb, bo, rfl, hbc⟩ := hR.resolve_left (by omega)
  have H8 := hid h8
  have HLIM := hid hl
  have hkb : k ≤ 25000 := by omega
  clear hcell hS hE hp h8 hbc hnil hmx hkm hm0
  go_enter Try.func23, Try.ntmps23
  go_wp2_with ((with_reducible refine at_list' ?_); first
    | (refine wpList_alloc_c Try.ty39 rfl 4 rfl rfl ?_; intro w1 H1 B1 S1))
  have HH1 := hid (And.intro H1 B1)
  have HG := hid S1
  clear H1 B1 S1
  go_loop [6, 7] (fun h i => ∃ t : Nat, t ≤ k ∧ i = .int .i64 t ∧ h = .int .i64 ((4 * t : Nat) : Int)) (fun _ i => k - (intOf i).toNat)
  case atStart => exact ⟨0, Nat.zero_le _, rfl, rfl⟩
  case round =>
    obtain ⟨t, ht, rfl, rfl⟩ := hrel
    by_cases hlt : t < k
    · have hc := cell_keep HH1.out.2 (HCE.out t hlt)
      go_wp2_with fail
      refine (HS.out w1 HH1.out.2).mono ?_
      rintro e w' ⟨rfl, rfl⟩
      go_wp2
      go_round
      case rel => exact ⟨t + 1, by omega, by go_num, by go_num⟩
      case measure => simp [intOf]; omega
    · obtain rfl : t = k := by omega
      clear hlt ht
      have hnl : ¬ ((bs.length : Nat) : Int) < ((4 * t : Nat) : Int) := by omega
      go_wp2
      go_loopw [9, 10, 11] (fun pl at' i wr => ∃ s : Nat, s ≤ t ∧ i = .int .i64 s ∧ at' = .int .i64 ((4 * s : Nat) : Int) ∧ RowI wr w1.heap.size pl (places bs 0 s) ∧ Below w1.heap.size w1 wr) (fun _ _ i _ => t - (intOf i).toNat)
      case atStart => exact ⟨0, Nat.zero_le _, rfl, rfl, World.ownsRow_nil _ _ _ _, Below.refl _ _⟩
      case round =>
        obtain ⟨s, hs, rfl, rfl, how, hbe⟩ := hrel
        by_cases hlt : s < t
        · have hbw := below_more HH1.out.2 hbe (Nat.le_refl _)
          have hc := cell_keep hbw (HCE.out s hlt)
          obtain ⟨pa, pn, pc, rfl⟩ := own_slice how
          have HX := hid (And.intro how (And.intro hbe hbw))
          clear how hbe hbw
          go_wp2_with fail
          refine (HS.out wr HX.out.2.2).mono ?_
          rintro e wr ⟨rfl, rfl⟩
          have HI := hid ((HB.out.keep HX.out.2.2).part (4 * s) 4 (by omega))
          go_wp2_with fail
          refine (rtake_isB _ _ _ HI.out).mono ?_
          rintro e wr ⟨rfl, rfl⟩
          obtain ⟨q, hq⟩ : ∃ q, tk ((bs.drop (4 * s)).take 4) = q := ⟨_, rfl⟩
          have hps : places bs 0 (s + 1) = places bs 0 s ++ [q] := by rw [places_succ, ← hq]; unfold placeAt; rw [Nat.zero_add]
          have HPS := hid hps
          have hq4 : q < 4294967296 := by rw [← hq]; have := placeAt_lt H8.out 0 s (by omega); unfold placeAt at this; rwa [Nat.zero_add] at this
          have hpl : (places bs 0 s).length + 1 ≤ 1000000 := by rw [places_length]; omega
          rw [hq]
          have B2 : Below wr.heap.size wr (wr.alloc (.cells #[.int .i64 q] 3)) := (Below.refl _ _).alloc (Nat.le_refl _) _
          have hcn := heap_alloc_new wr (.cells #[.int .i64 q] 3)
          have HD2 := hid (And.intro (own_keep HX.out.1 B2) (And.intro (cell_of_row _ wr.heap.size 0 _ _ (0, 0) hcn) (And.intro (below_more HX.out.2.1 B2 (Nat.le_refl _)) (Nat.le_trans HX.out.2.1.size B2.size))))
          clear B2 hcn hc hq hps HI
          go_wp2_with ((with_reducible refine at_list' ?_); first
            | (refine wpList_append_i rfl (.tmp 57) (.tmp 65) rfl w1.heap.size _ (places bs 0 s) rfl HD2.out.1 wr.heap.size q rfl HD2.out.2.1 hpl HD2.out.2.2.2 ?_; intro v' w4 r1 r2))
          have HR := hid (And.intro (show RowI w4 w1.heap.size v' (places bs 0 (s + 1)) by rw [HPS.out]; exact r1) (below_grownR HD2.out.2.2.1 HD2.out.1 (Nat.le_refl _) r2))
          clear r1 r2 HD2 HX HPS
          go_wp2
          go_round
          case rel => exact ⟨s + 1, by omega, by go_num, by go_num, HR.out.1, HR.out.2⟩
          case measure => simp [intOf]; omega
        · obtain rfl : s = t := by omega
          clear hlt hs hnl
          obtain ⟨pa, pn, pc, rfl⟩ := own_slice how
          have B2 : Below wr.heap.size wr (wr.alloc (.cells #[.int .i64 ((bs.length : Nat) : Int)] 3)) := (Below.refl _ _).alloc (Nat.le_refl _) _
          have hcn := heap_alloc_new wr (.cells #[.int .i64 ((bs.length : Nat) : Int)] 3)
          have HD2 := hid (And.intro (own_keep how B2) (And.intro (cell_of_row _ wr.heap.size 0 _ _ (0, 0) hcn) (And.intro (below_more hbe B2 (Nat.le_refl _)) (Nat.le_trans hbe.size B2.size))))
          have hpl : (places bs 0 s).length + 1 ≤ 1000000 := by rw [places_length]; omega
          clear B2 hcn how hbe
          go_wp2_with ((with_reducible refine at_list' ?_); first
            | (refine wpList_append_i rfl (.tmp 72) (.tmp 75) rfl w1.heap.size _ (places bs 0 s) rfl HD2.out.1 wr.heap.size bs.length rfl HD2.out.2.1 hpl HD2.out.2.2.2 ?_; intro v' w4 r1 r2))
          have r1' : RowI w4 w1.heap.size v' (atL bs 0 s) := r1
          obtain ⟨gp, cp, hgp1, hgp2, rfl, hcp, hpc⟩ := RowI.form r1' (by rw [atL_length]; omega)
          rw [atL_length] at hpc hcp ⊢
          have hb4 := below_grownR HD2.out.2.2.1 HD2.out.1 (Nat.le_refl _) r2
          have HB4 := hid (below_more HH1.out.2 hb4 (Nat.le_refl _))
          have HR4 := hid (HH1.out.1.keep hb4)
          have HPC := hid hpc
          have ha0 : (atL bs 0 s).getD 0 0 = 4 * s := by rw [atL_getD bs 0 s 0 hk, HP.out]
          have h0 := hpc 0 (by omega)
          rw [ha0] at h0
          obtain ⟨m, hm⟩ : ∃ m, s + 1 = m := ⟨_, rfl⟩
          have hm0 : 0 < m := by omega
          have hm1 : m ≤ 25001 := by omega
          clear r1 r1' r2 HD2 hb4 hpc hpl ha0
          rw [hm] at hcp ⊢
          have HM := hid hm
          clear hm
          go_wp2_with ((with_reducible refine at_list' ?_); first
            | (refine wpList_runs rfl (.pointer (some ⟨gp, 0, none⟩)) (run_indexAt 84 (.tmp 77) (.const (.int .i64 0)) rfl (.slice (some ⟨gp, 0, none⟩) m cp) (.int .i64 0) _ rfl rfl (idx_int0 gp m cp hm0 _)) ?_))
          go_simp
          go_wp2
          have hm := HM.out
          go_loopw [13] (fun i wr => ∃ r n : Nat, r ≤ s ∧ i = .int .i64 ((r : Int) + 1) ∧ wr = w4.drewN n ∧ Hid (upB2 (atL bs 0 s) (r + 1) = true)) (fun i _ => s + 1 - (intOf i).toNat)
          case atStart => exact ⟨0, 0, Nat.zero_le _, rfl, rfl, hid (upB2_one _)⟩
          case round =>
            obtain ⟨r, n, hr, rfl, rfl, hup⟩ := hrel
            by_cases hlt : r < s
            · have hx := HPC.out (r + 1) (by omega)
              have hy := HPC.out r (by omega)
              have hus := upB2_succ (atL bs 0 s) (r + 1) (by omega)
              rw [hup.out, Bool.true_and, Nat.add_sub_cancel] at hus
              have hle : upB2 (atL bs 0 s) (s + 1) = true → (atL bs 0 s).getD (r + 1) 0 ≤ bs.length := fun h => by
                have := upB2_le h (r + 1) s (by omega) (by omega)
                rwa [atL_last] at this
              obtain ⟨x, hxe⟩ : ∃ x, (atL bs 0 s).getD (r + 1) 0 = x := ⟨_, rfl⟩
              obtain ⟨y, hye⟩ : ∃ y, (atL bs 0 s).getD r 0 = y := ⟨_, rfl⟩
              rw [hxe, hye] at hus
              rw [hxe] at hx hle
              rw [hye] at hy
              have HU := hid hus
              have HLE := hid hle
              have hrm : r + 1 < m := by omega
              have hrm1 : r < m := by omega
              have hrm3 : ¬ ((r : Int) + 1 < 0) := by omega
              have hrm4 : (0 : Int) ≤ (r : Int) + 1 := by omega
              have hrm5 : ¬ ((r : Int) < 0) := by omega
              have hrm6 : (r : Int) < (m : Int) := by omega
              have hrm7 : (0 : Int) ≤ (r : Int) := by omega
              have hrm8 : IntKind.i64.wrap (r : Int) = (r : Int) := by
                have hb1 : -9223372036854775808 ≤ (r : Int) ∧ (r : Int) ≤ 9223372036854775807 := by omega
                rw [IntKind.wrap_i64]
                omega
              have hrm2 : (r : Int) + 1 < (m : Int) := by omega
              clear hus hle hxe hye
              by_cases h1 : (x : Int) < (y : Int)
              · have HF : Hid (upB2 (atL bs 0 s) (s + 1) = false) := hid (by
                  have := HU.out
                  rw [show decide (y ≤ x) = false by simp; omega] at this
                  exact upB2_false this (by omega))
                go_wp2
                go_quiet (fail)
                go_wp2_with ((with_reducible refine at_list' ?_); first
                  | (refine wpList_build_c rfl _ rfl #[] (by simp) _ (build_none _) ?_)
                  | (refine wpList_store_c Try.ty39 rfl (.tmp 4) (.tmp 108) rfl w.heap.size (valL 0 (zeros 32) nilS nilS) rfl rfl rfl (valL_oneC _ _ _ _ trivial trivial) _ HR4.out rfl ?_; intro w9 H9 O9))
                refine bodyPost_ret (results_c Try.ty39 rfl _ w9 w.heap.size _ _ rfl rfl H9 rfl) rfl ?_
                exact SerR.no (HGG.out.symm.trans HF.out) (below_only (below_drew0 (below_drew0 HB4.out n) nq) O9 (Nat.le_refl _))
              by_cases h2 : ((bs.length : Nat) : Int) < (x : Int)
              · have HF : Hid (upB2 (atL bs 0 s) (s + 1) = false) := hid (by
                  cases hq : upB2 (atL bs 0 s) (s + 1) with
                  | false => rfl
                  | true => have := HLE.out hq; omega)
                have h1b : decide ((x : Int) < (y : Int)) = false := decide_eq_false h1
                have h1c : ((x : Int) < (y : Int)) = False := eq_false h1
                go_wp2
                go_quiet (fail)
                go_wp2_with ((with_reducible refine at_list' ?_); first
                  | (refine wpList_build_c rfl _ rfl #[] (by simp) _ (build_none _) ?_)
                  | (refine wpList_store_c Try.ty39 rfl (.tmp 4) (.tmp 108) rfl w.heap.size (valL 0 (zeros 32) nilS nilS) rfl rfl rfl (valL_oneC _ _ _ _ trivial trivial) _ HR4.out rfl ?_; intro w9 H9 O9))
                refine bodyPost_ret (results_c Try.ty39 rfl _ w9 w.heap.size _ _ rfl rfl H9 rfl) rfl ?_
                exact SerR.no (HGG.out.symm.trans HF.out) (below_only (below_drew0 (below_drew0 HB4.out n) nq) O9 (Nat.le_refl _))
              · have hyx : y ≤ x := by omega
                have HN := hid (show upB2 (atL bs 0 s) (r + 1 + 1) = true by have := HU.out; rw [show decide (y ≤ x) = true by simp; omega] at this; exact this)
                go_wp2
                go_quiet (fail)
                go_wp2
                go_roundw
                case rel => exact ⟨r + 1, n + nq, by omega, by go_num, rfl, HN.out⟩
                case measure => simp [intOf]; omega
            · obtain rfl : r = s := by omega
              clear hlt hr
              have HT : Hid (G = true) := hid (HGG.out.symm.trans hup.out)
              have HUP := hid hup.out
              obtain ⟨w5, hw5⟩ : ∃ w5, w4.drewN n = w5 := ⟨_, rfl⟩
              have HB5 : Hid (Below w.heap.size w w5) := hid (by rw [← hw5]; exact below_drew0 HB4.out n)
              have HR5 : Hid (HasC w5 w.heap.size 39 (valL 0 (zeros 32) nilS nilS)) := hid (by rw [← hw5]; exact HR4.out)
              have HPC5 : Hid (∀ i, i < r + 1 → w5.cell? ⟨gp, i, none⟩ = some (.int .i64 ((atL bs 0 r).getD i 0 : Nat))) := hid (by rw [← hw5]; exact HPC.out)
              rw [hw5]
              clear hw5 HB4 HR4 HPC h0 hup hgp2
              clear HGG
              have hnm : ¬ ((r : Int) + 1 < (m : Int)) := by omega
              clear hm
              go_wp2_with ((with_reducible refine at_list' ?_); first
                | (refine wpList_build_c rfl _ rfl #[] (by simp) _ (build_none _) ?_)
                | (refine wpList_alloc_c Try.ty39 rfl 14 rfl rfl ?_; intro w6 H6 B6 S6)
                | (refine wpList_store_c Try.ty39 rfl (.tmp 14) (.tmp 109) rfl w5.heap.size (valL 0 (zeros 32) nilS nilS) rfl rfl rfl (valL_oneC _ _ _ _ trivial trivial) _ H6 rfl ?_; intro w7 H7 O7))
              have HX7 := hid (And.intro H7 (below_only B6 O7 (Nat.le_refl _)))
              clear H6 B6 S6 H7 O7
              go_loopw [10, 15, 16] (fun at' kk i wr => ∃ (q : Nat) (u : Value) (xs : List Value), q ≤ r ∧ i = .int .i64 q ∧ kk = .int .i64 q ∧ at' = .int .i64 ((4 * q : Nat) : Int) ∧ HasC wr w5.heap.size 39 (valL 0 (zeros 32) nilS u) ∧ wr.ownsRow (w5.heap.size + 1) 39 35 u q xs ∧ Below w5.heap.size w5 wr) (fun _ _ i _ => r - (intOf i).toNat)
              case atStart => exact ⟨0, nilS, [], Nat.zero_le _, rfl, rfl, rfl, HX7.out.1, World.ownsRow_nil _ _ _ _, HX7.out.2⟩
              case round =>
                clear HX7
                obtain ⟨q, u, xs, hq, rfl, rfl, rfl, hX, how, hbe⟩ := hrel
                by_cases hlt : q < r
                · have hbw := below_more HB5.out hbe (Nat.le_refl _)
                  have hc := cell_keep hbw (HCE.out q hlt)
                  have hx := cell_keep hbe (HPC5.out q (by omega))
                  have hy := cell_keep hbe (HPC5.out (q + 1) (by omega))
                  have hab := upB2_le HUP.out q (q + 1) (by omega) (by omega)
                  have hbl := upB2_le HUP.out (q + 1) r (by omega) (by omega)
                  rw [atL_last] at hbl
                  obtain ⟨x, hxe⟩ : ∃ x, (atL bs 0 r).getD q 0 = x := ⟨_, rfl⟩
                  obtain ⟨y, hye⟩ : ∃ y, (atL bs 0 r).getD (q + 1) 0 = y := ⟨_, rfl⟩
                  rw [hxe] at hx hab
                  rw [hye] at hy hab hbl
                  have hm := HM.out
                  have hq1 : (q : Int) + 1 < (m : Int) := by omega
                  have hq2 : (q : Int) < (m : Int) := by omega
                  have hq3 : ¬ ((q : Int) + 1 < 0) := by omega
                  have hq4 : ¬ ((q : Int) < 0) := by omega
                  have hq5 : IntKind.i64.wrap ((q : Int) + 1) = (q : Int) + 1 := by
                    rw [IntKind.wrap_i64]
                    omega
                  have hq6 : q < m := by omega
                  have hq7 : q + 1 < m := by omega
                  clear hm
                  have hyc : y ≤ cap := by omega
                  have hcq : ¬ cap = 4 * q := by omega
                  have hxy1 : (x : Int) ≤ (y : Int) := by omega
                  have hxy2 : (y : Int) ≤ (cap : Int) := by omega
                  obtain ⟨ua, un, uc, rfl⟩ := own_slice how
                  have HX := hid (And.intro hX (And.intro how (And.intro hbe hbw)))
                  clear hX how hbe hbw hxe hye
                  go_wp2_with fail
                  refine (HS.out wr HX.out.2.2.2).mono ?_
                  rintro e wr ⟨rfl, rfl⟩
                  by_cases hcx : cap = x
                  · subst hcx
                    have hxy : y = cap := by omega
                    subst hxy
                    go_wp2_with fail
                    go_quiet (fail)
                    have hdw : Below wr.heap.size wr (wr.drewN nq) := below_drew0 (Below.refl _ _) nq
                    have HXX := hid (And.intro (HX.out.1.keep hdw) (And.intro (own_keep HX.out.2.1 hdw) (And.intro (below_drew0 HX.out.2.2.1 nq) (below_drew0 HX.out.2.2.2 nq))))
                    obtain ⟨wd, hwd⟩ : ∃ wd, wr.drewN nq = wd := ⟨_, rfl⟩
                    rw [hwd] at HXX ⊢
                    clear hwd hdw
                    have hcd := cell_keep HXX.out.2.2.2 (HCE.out q hlt)
                    have HIB : Hid (IsB wd (.slice (some ⟨bb, bo, none⟩) 0 0) []) := hid ⟨⟨_, _, rfl, Nat.le_refl _, by decide, (fun e => nomatch e), .inl rfl⟩, fun z hz => by cases hz⟩
                    skip
                    go_wp2_with fail
                    refine (HE.out _ _ wd HXX.out.2.2.2 HIB.out (Nat.zero_le _)).mono ?_
                    rintro e we ⟨c, rfl, hvc, B⟩
                    have HE2 := hid (And.intro hvc (And.intro (HXX.out.1.keep B) (And.intro (own_keep HXX.out.2.1 B) (And.intro (HXX.out.2.2.1.trans (B.mono HXX.out.2.2.1.size)) (HXX.out.2.2.2.trans (B.mono HXX.out.2.2.2.size))))))
                    clear hvc B HXX HIB hcd
                    have hl35 := HE2.out.1.1
                    have hlz : c.length = (valL 0 (zeros 32) nilS nilS).length := hl35.trans (valL_length _ _ _ _ zeros32).symm
                    have hown := fun g hg => own_lt HE2.out.2.2.1 g hg
                    have hne : we.heap.size ≠ w5.heap.size := by have := HE2.out.2.1.lt; omega
                    have HL := hid (And.intro hl35 (And.intro hlz (And.intro hown hne)))
                    clear hl35 hlz hown hne
                    go_wp2_with ((with_reducible refine at_list' ?_); first
                      | (refine wpList_alloc_c Try.ty39 rfl 19 rfl rfl ?_; intro wa Ha Ba Sa)
                      | (refine wpList_store_c Try.ty39 rfl (.tmp 19) (.tmp 158) rfl we.heap.size c rfl rfl HL.out.2.1 HE2.out.1.2 _ Ha rfl ?_; intro wb Hb Ob; have Bb := hid (below_only Ba Ob (Nat.le_refl _)); have c34 := (HE2.out.2.1.keep Bb.out).cell (valL_34 0 (zeros 32) nilS (.slice ua un uc) zeros32))
                      | (refine wpList_load_c Try.ty39 rfl (.tmp 19) rfl we.heap.size c rfl HL.out.2.1 Hb ?_)
                      | (refine wpList_one_row rfl 37 39 35 (.tmp 165) rfl Try.underlying37 valInfo c rfl HL.out.1 (by decide) (by decide) ?_; intro wf Hf Bf Sf; have Bef := hid (below_more Bb.out Bf (Nat.le_refl _)); have Hown := hid (own_keep HE2.out.2.2.1 Bef.out))
                      | (refine wpList_append_val rfl (.tmp 164) (.tmp 166) rfl (w5.heap.size + 1) (.slice ua un uc) q xs rfl Hown.out wb.heap.size c rfl Hf HE2.out.1 (by omega) (by have := HE2.out.2.1.lt; have := Bef.out.size; omega) ?_; intro v' wg r1 r2; have hga := HL.out.2.2.1; have Hg := (HE2.out.2.1.keep Bef.out).grownO r2 (fun e => by have := hga _ e; omega); have c34g := Hg.cell (valL_34 0 (zeros 32) nilS (.slice ua un uc) zeros32); have f34g := frozen_of_row wg w5.heap.size 34 _ _ Hg; obtain ⟨va, vn, vc, rfl⟩ := own_slice r1))
                    have hO := Only.setCell wg w5.heap.size 34 (.slice va vn vc)
                    have hX9 := Hg.setCell 34 (.slice va vn vc)
                    rw [valL_set34] at hX9
                    have hbf : Below w5.heap.size w5 wf := HE2.out.2.2.2.1.trans (Bef.out.mono HE2.out.2.2.2.1.size)
                    have hbg := below_grownR hbf Hown.out (Nat.le_succ _) r2
                    exact ⟨⟨q + 1, _, _, by omega, by go_num, by go_num, by go_num, hX9, own_only r1 hO (fun _ e => by have := own_lt r1 _ e; omega) (fun e => by have := own_lt r1 _ e; omega), below_only hbg hO (Nat.le_refl _)⟩, by simp [intOf]; omega⟩
                  · skip
                    go_wp2_with fail
                    go_quiet (fail)
                    have hdw : Below wr.heap.size wr (wr.drewN nq) := below_drew0 (Below.refl _ _) nq
                    have HXX := hid (And.intro (HX.out.1.keep hdw) (And.intro (own_keep HX.out.2.1 hdw) (And.intro (below_drew0 HX.out.2.2.1 nq) (below_drew0 HX.out.2.2.2 nq))))
                    obtain ⟨wd, hwd⟩ : ∃ wd, wr.drewN nq = wd := ⟨_, rfl⟩
                    rw [hwd] at HXX ⊢
                    clear hwd hdw
                    have hcd := cell_keep HXX.out.2.2.2 (HCE.out q hlt)
                    have HIB := hid (IsB.part (HB.out.keep HXX.out.2.2.2) x (y - x) (by omega))
                    skip
                    go_wp2_with fail
                    refine (HE.out _ _ wd HXX.out.2.2.2 HIB.out (by show (List.take _ _).length ≤ bs.length; rw [List.length_take, List.length_drop]; omega)).mono ?_
                    rintro e we ⟨c, rfl, hvc, B⟩
                    have HE2 := hid (And.intro hvc (And.intro (HXX.out.1.keep B) (And.intro (own_keep HXX.out.2.1 B) (And.intro (HXX.out.2.2.1.trans (B.mono HXX.out.2.2.1.size)) (HXX.out.2.2.2.trans (B.mono HXX.out.2.2.2.size))))))
                    clear hvc B HXX HIB hcd
                    have hl35 := HE2.out.1.1
                    have hlz : c.length = (valL 0 (zeros 32) nilS nilS).length := hl35.trans (valL_length _ _ _ _ zeros32).symm
                    have hown := fun g hg => own_lt HE2.out.2.2.1 g hg
                    have hne : we.heap.size ≠ w5.heap.size := by have := HE2.out.2.1.lt; omega
                    have HL := hid (And.intro hl35 (And.intro hlz (And.intro hown hne)))
                    clear hl35 hlz hown hne
                    go_wp2_with ((with_reducible refine at_list' ?_); first
                      | (refine wpList_alloc_c Try.ty39 rfl 19 rfl rfl ?_; intro wa Ha Ba Sa)
                      | (refine wpList_store_c Try.ty39 rfl (.tmp 19) (.tmp 158) rfl we.heap.size c rfl rfl HL.out.2.1 HE2.out.1.2 _ Ha rfl ?_; intro wb Hb Ob; have Bb := hid (below_only Ba Ob (Nat.le_refl _)); have c34 := (HE2.out.2.1.keep Bb.out).cell (valL_34 0 (zeros 32) nilS (.slice ua un uc) zeros32))
                      | (refine wpList_load_c Try.ty39 rfl (.tmp 19) rfl we.heap.size c rfl HL.out.2.1 Hb ?_)
                      | (refine wpList_one_row rfl 37 39 35 (.tmp 165) rfl Try.underlying37 valInfo c rfl HL.out.1 (by decide) (by decide) ?_; intro wf Hf Bf Sf; have Bef := hid (below_more Bb.out Bf (Nat.le_refl _)); have Hown := hid (own_keep HE2.out.2.2.1 Bef.out))
                      | (refine wpList_append_val rfl (.tmp 164) (.tmp 166) rfl (w5.heap.size + 1) (.slice ua un uc) q xs rfl Hown.out wb.heap.size c rfl Hf HE2.out.1 (by omega) (by have := HE2.out.2.1.lt; have := Bef.out.size; omega) ?_; intro v' wg r1 r2; have hga := HL.out.2.2.1; have Hg := (HE2.out.2.1.keep Bef.out).grownO r2 (fun e => by have := hga _ e; omega); have c34g := Hg.cell (valL_34 0 (zeros 32) nilS (.slice ua un uc) zeros32); have f34g := frozen_of_row wg w5.heap.size 34 _ _ Hg; obtain ⟨va, vn, vc, rfl⟩ := own_slice r1))
                    have hO := Only.setCell wg w5.heap.size 34 (.slice va vn vc)
                    have hX9 := Hg.setCell 34 (.slice va vn vc)
                    rw [valL_set34] at hX9
                    have hbf : Below w5.heap.size w5 wf := HE2.out.2.2.2.1.trans (Bef.out.mono HE2.out.2.2.2.1.size)
                    have hbg := below_grownR hbf Hown.out (Nat.le_succ _) r2
                    exact ⟨⟨q + 1, _, _, by omega, by go_num, by go_num, by go_num, hX9, own_only r1 hO (fun _ e => by have := own_lt r1 _ e; omega) (fun e => by have := own_lt r1 _ e; omega), below_only hbg hO (Nat.le_refl _)⟩, by simp [intOf]; omega⟩
                · obtain rfl : q = r := by omega
                  obtain ⟨ua, uc, rfl⟩ := own_form how
                  have HXE := hid (And.intro hX (And.intro (HR5.out.keep hbe) (below_more HB5.out hbe (Nat.le_refl _))))
                  clear hX how hbe hlt hq
                  go_wp2_with ((with_reducible refine at_list' ?_); first
                    | (refine wpList_load_c Try.ty39 rfl (.tmp 14) rfl w5.heap.size (valL 0 (zeros 32) nilS (.slice ua q uc)) rfl (by rw [valL_length _ _ _ _ zeros32, valL_length _ _ _ _ zeros32]) HXE.out.1 ?_)
                    | (refine wpList_store_c Try.ty39 rfl (.tmp 4) (.tmp 169) rfl w.heap.size (valL 0 (zeros 32) nilS (.slice ua q uc)) rfl rfl (by rw [valL_length _ _ _ _ zeros32, valL_length _ _ _ _ zeros32]) (valL_oneC _ _ _ _ trivial trivial) _ HXE.out.2.1 rfl ?_; intro w9 H9 O9))
                  refine bodyPost_ret (results_c Try.ty39 rfl _ w9 w.heap.size _ _ rfl rfl H9 (by rw [valL_length _ _ _ _ zeros32, valL_length _ _ _ _ zeros32])) rfl ?_
                  exact SerR.yes HT.out ⟨ua, uc, rfl⟩ (below_only HXE.out.2.2 O9 (Nat.le_refl _))
end Go.Proofs.Ytckmdofmplkdfaa

/- The document's Decode of a list of parts: series, where all are of one kind of one byte. -/
namespace Go.Proofs.Ytckmdofmplkdfaa
open Go.RowKit Go.Shelf
set_option linter.unusedVariables false
set_option linter.unusedSimpArgs false
set_option maxRecDepth 100000

set_option maxHeartbeats 4000000 in
theorem series_one (g0 off0 kcap p : Nat) (v : Value) (bs : List Nat) (w : World) (hk : 0 < bs.length) (hkc : bs.length ≤ kcap) (hkm : kcap ≤ maxLen)
    (hcell : ∀ i, i < bs.length → w.cell? ⟨g0, off0 + i, none⟩ = some (.pointer (some ⟨p, 0, none⟩)))
    (hB : IsB w v bs) (hl : bs.length ≤ 100000)
    (hS : SizeOf w p 1) (hE : EltOf w p fun xb => xb.length = 1) :
    Calls Try.prog 23 #[.slice (some ⟨g0, off0, none⟩) bs.length kcap, v] w fun e w' => SerR true bs.length w e w' := by
  have HB := hid hB
  have HCE := hid hcell
  have HS := hid hS
  have HE := hid hE
  have hm0 : maxLen ≤ 9223372036854775807 := by decide
  have hkm2 : kcap ≤ 9223372036854775807 := by omega
  obtain ⟨⟨ao, cap, rfl, hcap, hmx, hnil, hR⟩, h8⟩ := hB
  have hcm2 : cap ≤ 9223372036854775807 := by omega
  obtain ⟨bb, bo, rfl, hbc⟩ := hR.resolve_left (by omega)
  have H8 := hid h8
  clear hcell hS hE h8 hbc hnil hmx hkm hm0 hR
  obtain ⟨r, hr⟩ : ∃ r, bs.length = r := ⟨_, rfl⟩
  rw [hr] at hk hkc HCE hl hcap
  have HBR : Hid (IsB w (.slice (some ⟨bb, bo, none⟩) r cap) bs) := hid (by have := HB.out; rwa [hr] at this)
  have HR := hid hr
  rw [hr]
  clear hr HB
  go_enter Try.func23, Try.ntmps23
  go_wp2_with ((with_reducible refine at_list' ?_); first
    | (refine wpList_alloc_c Try.ty39 rfl 4 rfl rfl ?_; intro w1 H1 B1 S1))
  have HH1 := hid (And.intro H1 B1)
  clear H1 B1 S1
  go_loop [6, 7] (fun h i => ∃ t : Nat, t ≤ r ∧ i = .int .i64 t ∧ h = .int .i64 (t : Int)) (fun _ i => r - (intOf i).toNat)
  case atStart => exact ⟨0, Nat.zero_le _, rfl, rfl⟩
  case round =>
    obtain ⟨t, ht, rfl, rfl⟩ := hrel
    by_cases hlt : t < r
    · have hc := cell_keep HH1.out.2 (HCE.out t hlt)
      go_wp2_with fail
      refine (HS.out w1 HH1.out.2).mono ?_
      rintro e w' ⟨rfl, rfl⟩
      go_wp2
      go_round
      case rel => exact ⟨t + 1, by omega, by go_num, by go_num⟩
      case measure => simp [intOf]; omega
    · obtain rfl : t = r := by omega
      clear hlt ht
      go_wp2
      go_loop [9, 10, 11] (fun pl at' i => ∃ s : Nat, s ≤ t ∧ i = .int .i64 s ∧ at' = .int .i64 (s : Int) ∧ pl = .slice none 0 0) (fun _ _ i => t - (intOf i).toNat)
      case atStart => exact ⟨0, Nat.zero_le _, rfl, rfl, rfl⟩
      case round =>
        obtain ⟨s, hs, rfl, rfl, rfl⟩ := hrel
        by_cases hlt : s < t
        · have hc := cell_keep HH1.out.2 (HCE.out s hlt)
          go_wp2_with fail
          refine (HS.out w1 HH1.out.2).mono ?_
          rintro e w' ⟨rfl, rfl⟩
          go_wp2
          go_round
          case rel => exact ⟨s + 1, by omega, by go_num, by go_num, rfl⟩
          case measure => simp [intOf]; omega
        · obtain rfl : s = t := by omega
          clear hlt hs
          have B2 : Below w1.heap.size w1 (w1.alloc (.cells #[.int .i64 ((s : Nat) : Int)] 3)) := (Below.refl _ _).alloc (Nat.le_refl _) _
          have hcn := heap_alloc_new w1 (.cells #[.int .i64 ((s : Nat) : Int)] 3)
          have how0 : RowI (w1.alloc (.cells #[.int .i64 ((s : Nat) : Int)] 3)) w1.heap.size (.slice none 0 0) [] := World.ownsRow_nil _ _ _ _
          have HD2 := hid (And.intro how0 (And.intro (cell_of_row _ w1.heap.size 0 _ _ (0, 0) hcn) (And.intro B2 B2.size)))
          clear B2 hcn how0
          go_wp2_with ((with_reducible refine at_list' ?_); first
            | (refine wpList_append_i rfl (.tmp 72) (.tmp 75) rfl w1.heap.size _ [] rfl HD2.out.1 w1.heap.size s rfl HD2.out.2.1 (by decide) HD2.out.2.2.2 ?_; intro v' w4 r1 r2))
          have r1' : RowI w4 w1.heap.size v' [s] := r1
          obtain ⟨gp, cp, hgp1, hgp2, rfl, hcp, hpc⟩ := RowI.form r1' Nat.one_pos
          have hcp' : 1 ≤ cp := hcp
          have hb4 := below_grownR HD2.out.2.2.1 HD2.out.1 (Nat.le_refl _) r2
          have HB4 := hid (below_more HH1.out.2 hb4 (Nat.le_refl _))
          have HR4 := hid (HH1.out.1.keep hb4)
          have h0 := hpc 0 Nat.one_pos
          rw [show ([s] : List Nat).getD 0 0 = s from rfl] at h0
          clear r1 r1' r2 HD2 hb4 hpc hcp
          go_wp2
          try go_simp
          try go_wp2
          go_loop [13] (fun i => i = .int .i64 1) (fun _ => 0)
          case atStart => rfl
          case round =>
            obtain rfl := hrel
            go_wp2_with ((with_reducible refine at_list' ?_); first
              | (refine wpList_build_c rfl _ rfl #[] (by simp) _ (build_none _) ?_)
              | (refine wpList_alloc_c Try.ty39 rfl 14 rfl rfl ?_; intro w6 H6 B6 S6)
              | (refine wpList_store_c Try.ty39 rfl (.tmp 14) (.tmp 109) rfl w4.heap.size (valL 0 (zeros 32) nilS nilS) rfl rfl rfl (valL_oneC _ _ _ _ trivial trivial) _ H6 rfl ?_; intro w7 H7 O7))
            have HX7 := hid (And.intro H7 (below_only B6 O7 (Nat.le_refl _)))
            clear H6 B6 S6 H7 O7 h0
            obtain ⟨w5, hw5⟩ : ∃ w5, w4 = w5 := ⟨_, rfl⟩
            subst hw5
            go_loopw [10, 15, 16] (fun at' kk i wr => ∃ (q : Nat) (u : Value) (xs : List Value), q ≤ s ∧ i = .int .i64 q ∧ kk = .int .i64 0 ∧ at' = .int .i64 (q : Int) ∧ HasC wr w4.heap.size 39 (valL 0 (zeros 32) nilS u) ∧ wr.ownsRow (w4.heap.size + 1) 39 35 u q xs ∧ Below w4.heap.size w4 wr) (fun _ _ i _ => s - (intOf i).toNat)
            case atStart => exact ⟨0, nilS, [], Nat.zero_le _, rfl, rfl, rfl, HX7.out.1, World.ownsRow_nil _ _ _ _, HX7.out.2⟩
            case round =>
              clear HX7
              obtain ⟨q, u, xs, hq, rfl, rfl, rfl, hX, how, hbe⟩ := hrel
              by_cases hlt : q < s
              · have hbw := below_more HB4.out hbe (Nat.le_refl _)
                have hc := cell_keep hbw (HCE.out q hlt)
                have hcq : ¬ cap = q := by omega
                obtain ⟨ua, un, uc, rfl⟩ := own_slice how
                have HX := hid (And.intro hX (And.intro how (And.intro hbe hbw)))
                have HIB : Hid (IsB wr (.slice (some ⟨bb, bo + q, none⟩) 1 (cap - q)) ((bs.drop q).take 1)) := hid (IsB.part (by rw [HR.out]; exact HBR.out.keep HX.out.2.2.2) q 1 (by rw [HR.out]; omega))
                clear hX how hbe hbw
                go_wp2_with fail
                refine (HS.out wr HX.out.2.2.2).mono ?_
                rintro e wr ⟨rfl, rfl⟩
                go_wp2_with fail
                refine (HE.out _ _ wr HX.out.2.2.2 HIB.out (by show (List.take _ _).length = 1; rw [List.length_take, List.length_drop, HR.out]; omega)).mono ?_
                rintro e we ⟨c, rfl, hvc, B⟩
                have HE2 := hid (And.intro hvc (And.intro (HX.out.1.keep B) (And.intro (own_keep HX.out.2.1 B) (And.intro (HX.out.2.2.1.trans (B.mono HX.out.2.2.1.size)) (HX.out.2.2.2.trans (B.mono HX.out.2.2.2.size))))))
                clear hvc B HIB
                have hl35 := HE2.out.1.1
                have hlz : c.length = (valL 0 (zeros 32) nilS nilS).length := hl35.trans (valL_length _ _ _ _ zeros32).symm
                have hown := fun g hg => own_lt HE2.out.2.2.1 g hg
                have hne : we.heap.size ≠ w4.heap.size := by have := HE2.out.2.1.lt; omega
                have HL := hid (And.intro hl35 (And.intro hlz (And.intro hown hne)))
                clear hl35 hlz hown hne
                go_wp2_with ((with_reducible refine at_list' ?_); first
                  | (refine wpList_alloc_c Try.ty39 rfl 19 rfl rfl ?_; intro wa Ha Ba Sa)
                  | (refine wpList_store_c Try.ty39 rfl (.tmp 19) (.tmp 158) rfl we.heap.size c rfl rfl HL.out.2.1 HE2.out.1.2 _ Ha rfl ?_; intro wb Hb Ob; have Bb := hid (below_only Ba Ob (Nat.le_refl _)); have c34 := (HE2.out.2.1.keep Bb.out).cell (valL_34 0 (zeros 32) nilS (.slice ua un uc) zeros32))
                  | (refine wpList_load_c Try.ty39 rfl (.tmp 19) rfl we.heap.size c rfl HL.out.2.1 Hb ?_)
                  | (refine wpList_one_row rfl 37 39 35 (.tmp 165) rfl Try.underlying37 valInfo c rfl HL.out.1 (by decide) (by decide) ?_; intro wf Hf Bf Sf; have Bef := hid (below_more Bb.out Bf (Nat.le_refl _)); have Hown := hid (own_keep HE2.out.2.2.1 Bef.out))
                  | (refine wpList_append_val rfl (.tmp 164) (.tmp 166) rfl (w4.heap.size + 1) (.slice ua un uc) q xs rfl Hown.out wb.heap.size c rfl Hf HE2.out.1 (by omega) (by have := HE2.out.2.1.lt; have := Bef.out.size; omega) ?_; intro v' wg r1 r2; have hga := HL.out.2.2.1; have Hg := (HE2.out.2.1.keep Bef.out).grownO r2 (fun e => by have := hga _ e; omega); have c34g := Hg.cell (valL_34 0 (zeros 32) nilS (.slice ua un uc) zeros32); have f34g := frozen_of_row wg w4.heap.size 34 _ _ Hg; obtain ⟨va, vn, vc, rfl⟩ := own_slice r1))
                have hO := Only.setCell wg w4.heap.size 34 (.slice va vn vc)
                have hX9 := Hg.setCell 34 (.slice va vn vc)
                rw [valL_set34] at hX9
                have hbf : Below w4.heap.size w4 wf := HE2.out.2.2.2.1.trans (Bef.out.mono HE2.out.2.2.2.1.size)
                have hbg := below_grownR hbf Hown.out (Nat.le_succ _) r2
                exact ⟨⟨q + 1, _, _, by omega, by go_num, rfl, by go_num, hX9, own_only r1 hO (fun _ e => by have := own_lt r1 _ e; omega) (fun e => by have := own_lt r1 _ e; omega), below_only hbg hO (Nat.le_refl _)⟩, by simp [intOf]; omega⟩
              · obtain rfl : q = s := by omega
                obtain ⟨ua, uc, rfl⟩ := own_form how
                have HXE := hid (And.intro hX (And.intro (HR4.out.keep hbe) (below_more HB4.out hbe (Nat.le_refl _))))
                clear hX how hbe hlt hq
                go_wp2_with ((with_reducible refine at_list' ?_); first
                  | (refine wpList_load_c Try.ty39 rfl (.tmp 14) rfl w4.heap.size (valL 0 (zeros 32) nilS (.slice ua q uc)) rfl (by rw [valL_length _ _ _ _ zeros32, valL_length _ _ _ _ zeros32]) HXE.out.1 ?_)
                  | (refine wpList_store_c Try.ty39 rfl (.tmp 4) (.tmp 169) rfl w.heap.size (valL 0 (zeros 32) nilS (.slice ua q uc)) rfl rfl (by rw [valL_length _ _ _ _ zeros32, valL_length _ _ _ _ zeros32]) (valL_oneC _ _ _ _ trivial trivial) _ HXE.out.2.1 rfl ?_; intro w9 H9 O9))
                refine bodyPost_ret (results_c Try.ty39 rfl _ w9 w.heap.size _ _ rfl rfl H9 (by rw [valL_length _ _ _ _ zeros32, valL_length _ _ _ _ zeros32])) rfl ?_
                exact SerR.yes rfl ⟨ua, uc, rfl⟩ (below_only HXE.out.2.2 O9 (Nat.le_refl _))
end Go.Proofs.Ytckmdofmplkdfaa

