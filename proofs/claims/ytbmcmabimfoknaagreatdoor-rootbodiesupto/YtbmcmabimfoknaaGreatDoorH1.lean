/- Own texts of the proof, joined: AppOwn BytesB Base AppAny ClsB Conv RunOps Bits BitsP RefBits Vals EqlB RefSame ValM Cells Desc RootsW Build5 Ref5. -/
import Derived.Test.YtbmcmabimfoknaaGreatDoorChunkI
import Derived.Deep.AppendSrc
import Derived.OwnWalkIn
import Derived.Lib.SliceRun
import Derived.Deep.RegionWith
import Derived.Laws.AppendOwn
import Derived.Stop.BytesEq
import Derived.Deep.RegionLaw
import Derived.Deep.Quiet
import Derived.BigQuiet
import Derived.Deep.MidRow
import Derived.Lib.BitFns
import Derived.Great.BuildSlice
/- append onto a row of the call's own, from whatever source (a slice, nil, a string): the row behind, and where it lies: where it lay, or in a new block. -/
namespace Go.Proofs.YtbmcmabimfoknaaGreatDoor
set_option maxRecDepth 100000
open Go.RowKit
set_option linter.unusedVariables false

/-- Where a slice lies now: where it lay, or in a new block. -/
def Moved (w : World) (v v' : Value) : Prop := ∀ k, v'.ownBlock = some k → v.ownBlock = some k ∨ w.heap.size ≤ k

section
variable {P : Program} (w : World)
theorem run_append_any (base : Nat) (t tx ty e : TypeId) (i : TypeInfo) (z : Value) (size bytes : Nat) (ht : P.underlying t = some (.slice e)) (hi : P.info? e = some i) (hz : i.zero = some z)
    (hsize : i.size = size) (hby : i.bytes = bytes) (hzs : z.cells.size = size) (hsz : 0 < size) (v : Value) (n : Nat) (xs : List Value) (hown : w.ownsRow base e size v n xs)
    (x : Value) (m : Nat) (news : List Value) (hs : Src P size tx x m news w) (h63 : n + m ≤ maxLen) (hbytes : (n + m) * bytes ≤ 140737488355328) (hbase : base ≤ w.heap.size) :
    ∃ v' w', (Builtin.append_ #[t, tx] ty #[v, x]).run P w = .ok v' w' ∧ w'.ownsRow base e size v' (n + m) (xs ++ news) ∧ w.grownBy w' v.ownBlock ∧ Moved w v v' := by
  subst hsize
  subst hby
  have hsmall : n + m ≤ 9223372036854775807 := by simp only [maxLen] at h63; omega
  have hl := hs.newsLen
  have hlen : (xs ++ news).length = (n + m) * i.size := by rw [List.length_append, hown.1, hl, Nat.add_mul]
  have grown : ∀ (old : Nat), old < n + m → ∀ (row : Option Nat),
      (w.drew.alloc (.cells ((xs ++ news).toArray ++ Builtin.zeroCells z.cells (grownCap w (n + m) old e - (n + m))) e)).ownsRow base e i.size
        (.slice (some ⟨w.heap.size, 0, none⟩) (n + m) (grownCap w (n + m) old e)) (n + m) (xs ++ news) ∧
      w.grownBy (w.drew.alloc (.cells ((xs ++ news).toArray ++ Builtin.zeroCells z.cells (grownCap w (n + m) old e - (n + m))) e)) row := by
    intro old ho row
    have hge := grownCap_ge w (n + m) old e
    have hcm : grownCap w (n + m) old e ≤ maxLen := grownCap_le_maxLen w (n + m) old e h63
    refine ⟨⟨hlen, .inr ⟨w.heap.size, _, _, rfl, hbase, heap_alloc_new w.drew _, hge, hcm, ?_, ?_⟩⟩, ⟨rfl, rfl, rfl, by simp, fun k hk _ => Below.heap_alloc w.drew _ k hk⟩⟩
    · simp only [Array.size_append, List.size_toArray, size_zeroCells, hzs, hlen, ← Nat.add_mul]
      congr 1
      omega
    · simp only [Array.toList_append]
      rw [← hlen]
      exact List.take_left
  rcases hown.2 with ⟨rfl, rfl⟩ | ⟨g, cap, cur, rfl, hbg, hg, hnc, hcm, hcs, htake⟩
  · have hx : xs = [] := List.eq_nil_of_length_eq_zero (by simpa using hown.1)
    subst hx
    by_cases hm : m = 0
    · subst hm
      have hn : news = [] := List.eq_nil_of_length_eq_zero (by simpa using hl)
      subst hn
      refine ⟨.slice none 0 0, w, ?_, World.ownsRow_nil w base e i.size, ⟨rfl, rfl, rfl, Nat.le_refl _, fun _ _ _ => rfl⟩, fun k hk => by cases hk⟩
      have h0 := hs.len
      have h1 := hs.cells
      rcases hs.kind with ⟨e', hk⟩ | hk <;> simp [Builtin.append_, run_underlying ht, run_underlying hk, sizeOf, typeInfo, hi, h0, h1]
    · have hr := run_append_grow_src (P := P) w t tx ty e i z ht hi hz none 0 0 [] (run_firstCells_none w.drew _ _ _ _) x m news hs (by omega) (by omega) (growslice_fits (by omega) hbytes)
      have hgr := grown 0 (by omega) (Value.ownBlock (.slice none 0 0))
      exact ⟨_, _, hr, hgr.1, hgr.2, fun k hk => .inr (by cases hk; exact Nat.le_refl _)⟩
  · by_cases hroom : n + m ≤ cap
    · have hfit : n * i.size + news.length ≤ cur.size := by rw [hl, hcs, ← Nat.add_mul]; exact Nat.mul_le_mul_right _ hroom
      have hr := run_append_room_src (P := P) w t tx ty e i ht hi g 0 n cap x m news hs hroom (fun j hj => by rw [cell_of_row w g _ _ _ _ hg, Array.getElem?_eq_getElem (by omega)]; rfl) (fun j hj => frozen_of_row w g _ _ _ hg)
      rw [Nat.zero_add] at hr
      obtain ⟨h1, h2⟩ := heap_setCells news w cur (n * i.size) hg
      refine ⟨_, _, hr, ⟨hlen, .inr ⟨g, cap, _, rfl, hbg, h1, hroom, hcm, by rw [setV_size]; exact hcs, ?_⟩⟩, ⟨h2.os, h2.tape, h2.output, by rw [h2.size]; exact Nat.le_refl _, fun k _ hk => h2.block k (fun e => hk (by simp [Value.ownBlock, e]))⟩, fun k hk => .inl hk⟩
      apply List.ext_getElem?
      intro q
      rw [List.getElem?_take]
      have hxl := hown.1
      by_cases hq : q < (n + m) * i.size
      · rw [if_pos hq, Array.getElem?_toList, setV_get news cur (n * i.size) hfit q]
        by_cases hq2 : n * i.size ≤ q
        · rw [if_pos ⟨hq2, by rw [hl, ← Nat.add_mul]; exact hq⟩, List.getElem?_append_right (by omega), hxl]
        · rw [if_neg (by omega), List.getElem?_append_left (by omega), ← htake, List.getElem?_take, if_pos (by omega), Array.getElem?_toList]
      · rw [if_neg hq, List.getElem?_eq_none (by omega)]
    · have holds : ∀ j u, xs[j]? = some u → w.cell? ((⟨g, 0, none⟩ : Addr).add j) = some u := hown.cells (g := g) rfl
      have hr := run_append_grow_src (P := P) w t tx ty e i z ht hi hz (some ⟨g, 0, none⟩) n cap xs (run_firstCells_some w.drew _ _ _ _ _ xs hown.1 (by simpa using holds)) x m news hs (by omega) (by omega) (growslice_fits (by omega) hbytes)
      have hgr := grown cap (by omega) (Value.ownBlock (.slice (some ⟨g, 0, none⟩) n cap))
      exact ⟨_, _, hr, hgr.1, hgr.2, fun k hk => .inr (by cases hk; exact Nat.le_refl _)⟩
end

theorem bytes_src {w : World} {ao : Option Addr} {zs : List Nat} (h : Reads w ao zs) (cap : Nat) (hn : ao = none → zs.length = 0) : Src Tryz.prog 1 99 (.slice ao zs.length cap) zs.length (zs.map fun n : Nat => Value.int .u8 (n : Int)) w := by
  rcases ao with _ | ad
  · obtain rfl : zs = [] := List.eq_nil_of_length_eq_zero (hn rfl)
    exact Src.ofNil w Tryz.underlying99 cap
  · refine Src.ofSlice w Tryz.underlying99 ad zs.length cap _ (by simp) (fun j u hj => ?_) (fun u hu => by obtain ⟨n, _, rfl⟩ := List.mem_map.1 hu; rfl)
    have hjl : j < zs.length := by
      by_cases hjl : j < zs.length
      · exact hjl
      · rw [List.getElem?_eq_none (by simp; omega)] at hj; cases hj
    obtain ⟨ad', e1, hc⟩ := h.src (by omega)
    cases e1
    rw [hc j hjl]
    simpa [hjl] using hj

end Go.Proofs.YtbmcmabimfoknaaGreatDoor

/- Contracts of Put and Take of package num, and of the document's answers: bytes of a number, the lowest first. -/
namespace Go.Proofs.YtbmcmabimfoknaaGreatDoor
set_option maxRecDepth 100000
open Go.RowKit
set_option linter.unusedVariables false
set_option maxRecDepth 100000

set_option maxHeartbeats 400000 in
theorem put_none (n : Nat) (size : Int) (hs : size < 1) (w : World) :
    Calls Tryz.prog 63 #[.int .u64 n, .int .i64 size] w fun e w' => e = .returned (.slice none 0 0) ∧ w' = w := by
  go_enter Tryz.func63, Tryz.ntmps63
  go_wp2
  go_ret
  exact ⟨rfl, rfl⟩

/-- The slice value's first len bytes, read in the world w, are zs. -/
def ReadsBytes (w : World) (ao : Option Addr) (len : Nat) (zs : List Int) : Prop :=
  zs.length = len ∧ (∀ z ∈ zs, 0 ≤ z ∧ z < 256) ∧ (len = 0 ∨ ∃ b off, ao = some ⟨b, off, none⟩ ∧ ∀ i, i < len → w.cell? ⟨b, off + i, none⟩ = some (.int .u8 (zs.getD i 0)))

theorem getD_get (zs : List Int) (k : Nat) (h : k < zs.length) : zs.getD k 0 = zs[k] := by simp [List.getD_eq_getElem?_getD, h]

end Go.Proofs.YtbmcmabimfoknaaGreatDoor

/- Slices of bytes, copies and strings of them; frames. -/
namespace Go.Proofs.YtbmcmabimfoknaaGreatDoor
set_option maxRecDepth 100000
open Go.RowKit
set_option linter.unusedVariables false

/-- The block that an address lies in. -/
def inBlk (S : Nat → Prop) : Option Addr → Prop
  | none => True
  | some a => S a.block
/-- Where only blocks outside S turn, what lies in S reads as before. -/
theorem Reads.keepS {w w' : World} {ao : Option Addr} {zs : List Nat} {S : Nat → Prop} (h : Reads w ao zs) (hS : inBlk S ao) (hk : ∀ k, S k → k < w.heap.size → w'.heap[k]? = w.heap[k]?) : Reads w' ao zs := by
  rcases h with h | ⟨b, off, rfl, hc⟩
  · exact .inl h
  · refine .inr ⟨b, off, rfl, fun i hi => ?_⟩
    exact (World.cell?_of_block (a := ⟨b, off + i, none⟩) (hk b hS (block_lt_of_cell (hc i hi)))).trans (hc i hi)

/-- A slice of bytes: its value, and what it reads as. -/
structure IsB (w : World) (v : Value) (bs : List Nat) : Prop where
  ex : ∃ ao cap, v = .slice ao bs.length cap ∧ bs.length ≤ cap ∧ cap ≤ maxLen ∧ (ao = none → cap = 0) ∧ Reads w ao bs
  by8 : ∀ z ∈ bs, z < 256
theorem IsB.keep {bs : List Nat} {v : Value} {w w' : World} (h : IsB w v bs) (hb : Below w.heap.size w w') : IsB w' v bs := by
  obtain ⟨⟨ao, cap, e, h1, h2, h3, h4⟩, h5⟩ := h
  exact ⟨⟨ao, cap, e, h1, h2, h3, h4.keep hb⟩, h5⟩
/-- The block of a slice lies in S. -/
def inS (S : Nat → Prop) : Value → Prop
  | .slice ao _ _ => inBlk S ao
  | _ => True
theorem IsB.keepS {bs : List Nat} {v : Value} {w w' : World} {S : Nat → Prop} (h : IsB w v bs) (hS : inS S v) (hk : ∀ k, S k → k < w.heap.size → w'.heap[k]? = w.heap[k]?) : IsB w' v bs := by
  obtain ⟨⟨ao, cap, rfl, h1, h2, h3, h4⟩, h5⟩ := h
  exact ⟨⟨ao, cap, rfl, h1, h2, h3, h4.keepS hS hk⟩, h5⟩
theorem inS.mono {S T : Nat → Prop} {v : Value} (h : inS S v) (hST : ∀ k, S k → T k) : inS T v := by
  cases v <;> try exact trivial
  rename_i ao _ _
  cases ao
  · exact trivial
  · exact hST _ h
def cellsB (bs : List Nat) : List Value := bs.map fun n : Nat => Value.int .u8 (n : Int)
theorem cellsB_append (a b : List Nat) : cellsB (a ++ b) = cellsB a ++ cellsB b := by simp [cellsB]
theorem cellsB_length (a : List Nat) : (cellsB a).length = a.length := by simp [cellsB]
theorem cellsB_one (a : List Nat) : ∀ u ∈ cellsB a, u.oneCell' = true := fun u hu => by obtain ⟨n, _, rfl⟩ := List.mem_map.1 hu; rfl
theorem cellsB_get (a : List Nat) (j : Nat) (u : Value) (hj : (cellsB a)[j]? = some u) : j < a.length ∧ u = .int .u8 (a.getD j 0 : Nat) := by
  have hjl : j < a.length := by
    by_cases hjl : j < a.length
    · exact hjl
    · rw [List.getElem?_eq_none (by rw [cellsB_length]; omega)] at hj; cases hj
  exact ⟨hjl, by simpa [cellsB, hjl] using hj.symm⟩
/-- A row of bytes of the call's own. -/
abbrev Row (w : World) (base : Nat) (v : Value) (bs : List Nat) : Prop := w.ownsRow base 5 1 v bs.length (cellsB bs)
theorem Row.isB {bs : List Nat} {v : Value} {w : World} {base : Nat} (h : Row w base v bs) (hb : ∀ z ∈ bs, z < 256) : IsB w v bs := by
  obtain ⟨hl, h⟩ := h
  refine ⟨?_, hb⟩
  rcases h with ⟨rfl, h0⟩ | ⟨g, cap, cur, rfl, hb, hg, hnc, hm, hcs, htk⟩
  · exact ⟨none, 0, by rw [h0], by omega, by decide, fun _ => rfl, .inl h0⟩
  · refine ⟨_, cap, rfl, hnc, hm, (fun e => by cases e), .inr ⟨g, 0, rfl, fun i hi => ?_⟩⟩
    rw [Nat.zero_add, cell_of_row w g i _ _ (0, 0) hg, ← Array.getElem?_toList]
    have : (cur.toList.take (bs.length * 1))[i]? = (cellsB bs)[i]? := by rw [htk]
    rw [List.getElem?_take, if_pos (by omega)] at this
    rw [this, cellsB, List.getElem?_map, List.getElem?_eq_getElem hi, List.getD_eq_getElem?_getD, List.getElem?_eq_getElem hi]
    rfl
theorem Row.nil (w : World) (base : Nat) : Row w base (.slice none 0 0) [] := World.ownsRow_nil _ _ _ _
theorem Row.inS {bs : List Nat} {v : Value} {w : World} {base : Nat} (h : Row w base v bs) : inS (fun k => base ≤ k ∧ k < w.heap.size) v := by
  obtain ⟨_, h⟩ := h
  rcases h with ⟨rfl, h0⟩ | ⟨g, cap, cur, rfl, hb, hg, _⟩
  · exact trivial
  · exact ⟨hb, (Array.getElem?_eq_some_iff.1 hg).1⟩
theorem own_bytes (w : World) : Row (w.alloc (.cells #[] 5)) w.heap.size (.slice (some ⟨w.heap.size, 0, none⟩) 0 0) [] :=
  ⟨rfl, .inr ⟨w.heap.size, 0, #[], rfl, Nat.le_refl _, heap_alloc_new w _, Nat.le_refl _, Nat.zero_le _, rfl, rfl⟩⟩
/-- bytes.Clone: a copy in new memory. -/
theorem clone_any (v : Value) (bs : List Nat) (w : World) (hB : IsB w v bs) (hlen : bs.length ≤ 140737488355328) :
    Calls Tryz.prog 114 #[v] w fun e w' => ∃ v', e = .returned v' ∧ Row w' w.heap.size v' bs ∧ Below w.heap.size w w' := by
  obtain ⟨⟨ao, cap, rfl, hcap, hmx, hnil, hR⟩, h8⟩ := hB
  have HB : Below w.heap.size w (w.alloc (.cells #[] 5)) := (Below.refl _ w).alloc (Nat.le_refl _) _
  have HRA := hR.keep HB
  have HO := own_bytes w
  rcases ao with _ | ad
  · obtain rfl := hnil rfl
    obtain rfl : bs = [] := List.eq_nil_of_length_eq_zero (by omega)
    have heq := Lib.run_eql_slice_nil (P := Tryz.prog) w 99 5 none 0 0 0 0 Tryz.underlying99
    go_enter Tryz.func114, Tryz.ntmps114
    go_wp2_with fail
    go_ret
    exact ⟨_, rfl, Row.nil _ _, Below.refl _ w⟩
  · obtain ⟨i0, hi, hz0, hz1, hz2⟩ := info_parts Tryz.info5
    have HC : ∀ j, j < bs.length → (w.alloc (.cells #[] 5)).cell? (ad.add j) = some (.int .u8 (bs.getD j 0 : Nat)) := by
      intro j hj
      obtain ⟨ad', e1, hc⟩ := HRA.src (by omega)
      cases e1
      exact hc j hj
    have HCh := hid HC
    clear HC
    have heq := Lib.run_eql_slice_nil (P := Tryz.prog) w 99 5 (some ad) bs.length cap 0 0 Tryz.underlying99
    go_enter Tryz.func114, Tryz.ntmps114
    go_wp2_with (refine wpList_append_own _ rfl (.tmp 5) (.tmp 6) 99 rfl w.heap.size 5 i0 (.int .u8 0) 1 1 Tryz.underlying99 hi hz0 hz1 hz2 rfl (by decide) _ 0 [] rfl (by exact HO) ad bs.length cap (cellsB bs) rfl (by simp [cellsB_length]) (by intro j u hj; obtain ⟨hjl, rfl⟩ := cellsB_get bs j u hj; exact HCh.out j hjl) (cellsB_one bs) (by unfold maxLen; omega) (by omega) (by exact HB.size) ?_; intro v' w' own' grow' _)
    go_ret
    rw [List.nil_append, Nat.zero_add] at own'
    exact ⟨v', rfl, own', below_grownR HB HO (Nat.le_refl _) grow'⟩
end Go.Proofs.YtbmcmabimfoknaaGreatDoor

/- append onto a row of the call's own, from whatever source (a slice, nil, a string): the row behind, and where it lies: where it lay, or in a new block. -/
namespace Go.Proofs.YtbmcmabimfoknaaGreatDoor
set_option maxRecDepth 100000
open Go.RowKit
set_option linter.unusedVariables false

section
variable {P : Program} (w : World)
end

section
variable {w : World} {ops : Array Oper} {rest : List Oper} {o : Oper} {a : Act} {Q : Exit → Act → World → Prop}
theorem IsB.src {w : World} {v : Value} {bs : List Nat} (h : IsB w v bs) : Src Tryz.prog 1 99 v bs.length (cellsB bs) w := by
  obtain ⟨⟨ao, cap, rfl, h1, h2, h3, h4⟩, h5⟩ := h
  rcases ao with _ | ad
  · obtain rfl := h3 rfl
    obtain rfl : bs = [] := List.eq_nil_of_length_eq_zero (by omega)
    exact Src.ofNil w Tryz.underlying99 0
  · refine Src.ofSlice w Tryz.underlying99 ad bs.length cap _ (by rw [cellsB_length, Nat.mul_one]) (fun j u hj => ?_) (cellsB_one bs)
    obtain ⟨hjl, rfl⟩ := cellsB_get bs j u hj
    obtain ⟨ad', e1, hc⟩ := h4.src (by omega)
    cases e1
    exact hc j hjl
/-- append of bytes onto a row of bytes. -/
theorem run_append_b (base : Nat) (ty : TypeId) (v : Value) (xs : List Nat) (hown : Row w base v xs) (x : Value) (ys : List Nat) (tx : TypeId) (hs : Src Tryz.prog 1 tx x ys.length (cellsB ys) w) (hb : xs.length + ys.length ≤ 140737488355328) (hbase : base ≤ w.heap.size) :
    ∃ v' w', (Builtin.append_ #[99, tx] ty #[v, x]).run Tryz.prog w = .ok v' w' ∧ Row w' base v' (xs ++ ys) ∧ w.grownBy w' v.ownBlock ∧ Moved w v v' := by
  obtain ⟨i0, hi, hz0, hz1, hz2⟩ := info_parts Tryz.info5
  obtain ⟨v', w', h1, h2, h3, h4⟩ := run_append_any (P := Tryz.prog) w base 99 tx ty 5 i0 (.int .u8 0) 1 1 Tryz.underlying99 hi hz0 hz1 hz2 rfl (by decide) v xs.length (cellsB xs) hown x ys.length (cellsB ys) hs (by unfold maxLen; omega) (by omega) hbase
  refine ⟨v', w', h1, ?_, h3, h4⟩
  rw [← cellsB_append] at h2
  unfold Row
  rw [List.length_append]
  exact h2
theorem wpList_append_b (hgd : o.guard = none) (s x : Operand) (tx : TypeId) (ho : o.op = .call { callee := .builtin .append, args := #[s, x], argTypes := #[99, tx] })
    (base : Nat) (v : Value) (xs : List Nat) (hv : a.eval s = v) (hown : Row w base v xs) (u : Value) (ys : List Nat) (hx : a.eval x = u) (hs : Src Tryz.prog 1 tx u ys.length (cellsB ys) w) (hb : xs.length + ys.length ≤ 140737488355328) (hbase : base ≤ w.heap.size)
    (h : ∀ v' w', Row w' base v' (xs ++ ys) → w.grownBy w' v.ownBlock → Moved w v v' → wpList Tryz.prog ops Q rest (a.put o.dst v') w') : wpList Tryz.prog ops Q (o :: rest) a w := by
  refine wpList_plain hgd fun K hK => ?_
  obtain ⟨v', w', hr, h2, h3, h4⟩ := run_append_b (w := w) base o.type v xs hown u ys tx hs hb hbase
  unfold Oper.wp execOp
  simp only [ho, resolve, invoke, builtin, Sem.run_bind, Sem.run_pure, Result.andThen_ok, List.map_toArray, List.map_cons, List.map_nil, hv, hx, hr]
  exact hK _ _ (h v' w' h2 h3 h4)
theorem step_append_b {K : Act → World → Prop} {E : Prop} (hgd : Region.wanted o (yielded ops a.tmps) = true) (s x : Operand) (tx : TypeId) (ho : o.op = .call { callee := .builtin .append, args := #[s, x], argTypes := #[99, tx] })
    (base : Nat) (v : Value) (xs : List Nat) (hv : a.eval s = v) (hown : Row w base v xs) (u : Value) (ys : List Nat) (hx : a.eval x = u) (hs : Src Tryz.prog 1 tx u ys.length (cellsB ys) w) (hb : xs.length + ys.length ≤ 140737488355328) (hbase : base ≤ w.heap.size)
    (h : ∀ v' w', Row w' base v' (xs ++ ys) → w.grownBy w' v.ownBlock → Moved w v v' → K (a.put o.dst v') w') : if Region.wanted o (yielded ops a.tmps) = true then Oper.wp Tryz.prog o a w K Q else E := by
  rw [if_pos hgd]
  obtain ⟨v', w', hr, h2, h3, h4⟩ := run_append_b (w := w) base o.type v xs hown u ys tx hs hb hbase
  unfold Oper.wp execOp
  simp only [ho, resolve, invoke, builtin, Sem.run_bind, Sem.run_pure, Result.andThen_ok, List.map_toArray, List.map_cons, List.map_nil, hv, hx, hr]
  exact h v' w' h2 h3 h4
end
/-- A row abides whatever turns another block. -/
theorem Row.kept {w w' : World} {base : Nat} {v : Value} {xs : List Nat} {row : Option Nat} (h : Row w base v xs) (hg : w.grownBy w' row) (hne : ∀ k, v.ownBlock = some k → row ≠ some k) : Row w' base v xs := by
  obtain ⟨hl, h⟩ := h
  refine ⟨hl, ?_⟩
  rcases h with h | ⟨g, cap, cur, rfl, hb, hg', r⟩
  · exact .inl h
  · exact .inr ⟨g, cap, cur, rfl, hb, (hg.block g (Array.getElem?_eq_some_iff.1 hg').1 (fun e => hne g rfl e.symm)).trans hg', r⟩
theorem Row.below {w w' : World} {base : Nat} {v : Value} {xs : List Nat} (h : Row w base v xs) (hb : Below w.heap.size w w') : Row w' base v xs :=
  h.kept (row := none) ⟨hb.os, hb.tape, hb.output, hb.size, fun k hk _ => hb.block k hk⟩ (fun _ _ e => by cases e)
theorem Row.lt {w : World} {base : Nat} {v : Value} {xs : List Nat} (h : Row w base v xs) (k : Nat) (hk : v.ownBlock = some k) : base ≤ k ∧ k < w.heap.size := World.ownsRow.lt h k hk
end Go.Proofs.YtbmcmabimfoknaaGreatDoor

/- A region that draws its order, whose operations only read and whose callees only make memory: one walk in the order of the text, in the class of worlds in which nothing old has turned. And append onto a row of the call's own as a step of such a region. -/
namespace Go.Proofs.YtbmcmabimfoknaaGreatDoor
set_option maxRecDepth 100000
open Go.RowKit
set_option linter.unusedVariables false

section
variable {P : Program} {ops : Array Oper} {o : Oper} {a : Act} {C : World → Prop}
/-- One cell read. -/
theorem quiet_cell {K : Act → Prop} (ty : TypeId) (x : Operand) (ho : o.op = .load ty x) (p : Addr) (hx : a.eval x = .pointer (some p)) (v : Value) (hc : ∀ w, C w → w.cell? p = some v)
    (d : TypeDesc) (hu : P.underlying ty = some d) (hd : d.isRow = false) (hk : K (a.put o.dst v)) : o.quiet P a C K := by
  refine quiet_run _ (fun w hw => ?_) hk
  have hagg : (isAgg ty).run P w = .ok false w := by
    unfold isAgg
    rw [Sem.run_bind, run_underlying hu w]
    cases d <;> simp_all
  have hl : (loadVar ty p).run P w = .ok v w := by simp [loadVar, hagg, hc w hw]
  unfold execOp
  simp only [ho, hx, Instr.loadAt, Instr.sureAddr, Sem.run_bind, Sem.run_pure, Result.andThen_ok, hl]
/-- A whole array or struct read, out of the middle of a block. -/
theorem quiet_mid {K : Act → Prop} (ty : TypeId) (x : Operand) (ho : o.op = .load ty x) (b off : Nat) (hx : a.eval x = .pointer (some ⟨b, off, none⟩)) (cs : List Value) (hc : ∀ w, C w → w.rangeAt b off cs)
    (d : TypeDesc) (hu : P.underlying ty = some d) (hd : d.isRow = true) (hi : (P.info? ty).map (·.size) = some cs.length) (hk : K (a.put o.dst (.agg cs.toArray))) : o.quiet P a C K := by
  refine quiet_run _ (fun w hw => ?_) hk
  have hl := run_loadVar_mid w b off ty cs d (hc w hw) hu hd hi
  unfold execOp
  simp only [ho, hx, Instr.loadAt, Instr.sureAddr, Sem.run_bind, Sem.run_pure, Result.andThen_ok, hl]
end
end Go.Proofs.YtbmcmabimfoknaaGreatDoor

/- Bytes as strings; equal strings are equal bytes. -/
namespace Go.Proofs.YtbmcmabimfoknaaGreatDoor
set_option maxRecDepth 100000
open Go.RowKit
set_option linter.unusedVariables false
theorem fold_push (l : List Int) : ∀ r : ByteArray, l.foldl (fun r n => r.push (UInt8.ofNat n.toNat)) r = ⟨r.data ++ (l.map fun n => UInt8.ofNat n.toNat).toArray⟩ := by
  induction l with
  | nil => intro r; simp
  | cons x l ih =>
    intro r
    rw [List.foldl_cons, ih]
    simp [ByteArray.push]
theorem strOf_eq (l : List Nat) : strOf l = ⟨(l.map UInt8.ofNat).toArray⟩ := by
  rw [strOf, fold_push]
  simp
theorem strOf_append (l m : List Nat) : strOf (l ++ m) = strOf l ++ strOf m := by
  rw [strOf_eq, strOf_eq, strOf_eq]
  apply ByteArray.ext
  simp
theorem strOf_size (l : List Nat) : (strOf l).size = l.length := by
  rw [strOf_eq]
  simp [ByteArray.size]
theorem strOf_inj {l m : List Nat} (hl : ∀ z ∈ l, z < 256) (hm : ∀ z ∈ m, z < 256) (h : strOf l = strOf m) : l = m := by
  rw [strOf_eq, strOf_eq] at h
  have e : l.map UInt8.ofNat = m.map UInt8.ofNat := by
    have := congrArg ByteArray.data h
    simpa using congrArg Array.toList this
  have e2 := congrArg (List.map UInt8.toNat) e
  rw [List.map_map, List.map_map] at e2
  have f : ∀ (k : List Nat), (∀ z ∈ k, z < 256) → k.map (UInt8.toNat ∘ UInt8.ofNat) = k := fun k hk => by
    conv => rhs; rw [← List.map_id k]
    apply List.map_congr_left
    intro z hz
    have := hk z hz
    show (UInt8.ofNat z).toNat = z
    rw [UInt8.toNat_ofNat']
    omega
  rwa [f l hl, f m hm] at e2
/-- A slice of bytes, turned into a string. -/
theorem conv_b {w : World} {v : Value} {bs : List Nat} (h : IsB w v bs) : (convert 99 9 v).run Tryz.prog w = .ok (.string (strOf bs)) w := by
  obtain ⟨⟨ao, cap, rfl, h1, h2, h3, h⟩, h8⟩ := h
  rw [run_convert_bytes_string w 99 9 5 _ _ _ Tryz.underlying99 Tryz.underlying5 Tryz.underlying9]
  rcases ao with _ | ad
  · obtain rfl : bs = [] := List.eq_nil_of_length_eq_zero (by have := h3 rfl; omega)
    unfold Conv.bytesToString strOf
    simp [Sem.run_pure]
  · refine run_bytesToString w _ bs.length cap (bs.map fun n : Nat => (n : Int)) ?_
    have := run_loadCells_list (P := Tryz.prog) w ad (cellsB bs) (fun j u hj => by
      obtain ⟨hjl, rfl⟩ := cellsB_get bs j u hj
      obtain ⟨ad', e1, hc⟩ := h.src (by omega)
      cases e1
      exact hc j hjl)
    rw [cellsB_length] at this
    rw [List.map_map]
    exact this
end Go.Proofs.YtbmcmabimfoknaaGreatDoor

/- What single operations of a region yield. -/
namespace Go.Proofs.YtbmcmabimfoknaaGreatDoor
set_option maxRecDepth 100000
open Go.RowKit
set_option linter.unusedVariables false
set_option maxRecDepth 100000
section
variable {P : Program} {o : Oper} {a : Act} {w : World}
theorem run_mid (ty : TypeId) (x : Operand) (ho : o.op = .load ty x) (b off : Nat) (hx : a.eval x = .pointer (some ⟨b, off, none⟩)) (cs : List Value) (hc : w.rangeAt b off cs)
    (d : TypeDesc) (hu : P.underlying ty = some d) (hd : d.isRow = true) (hi : (P.info? ty).map (·.size) = some cs.length) : (execOp a.eval o).run P w = .ok (.value (.agg cs.toArray)) w := by
  have hl := run_loadVar_mid w b off ty cs d hc hu hd hi
  unfold execOp
  simp only [ho, hx, Instr.loadAt, Instr.sureAddr, Sem.run_bind, Sem.run_pure, Result.andThen_ok, hl]
theorem run_cell (ty : TypeId) (x : Operand) (ho : o.op = .load ty x) (p : Addr) (hx : a.eval x = .pointer (some p)) (v : Value) (hc : w.cell? p = some v)
    (d : TypeDesc) (hu : P.underlying ty = some d) (hd : d.isRow = false) : (execOp a.eval o).run P w = .ok (.value v) w := by
  have hagg : (isAgg ty).run P w = .ok false w := by
    unfold isAgg
    rw [Sem.run_bind, run_underlying hu w]
    cases d <;> simp_all
  have hl : (loadVar ty p).run P w = .ok v w := by simp [loadVar, hagg, hc]
  unfold execOp
  simp only [ho, hx, Instr.loadAt, Instr.sureAddr, Sem.run_bind, Sem.run_pure, Result.andThen_ok, hl]
theorem run_fieldAt (ty : TypeId) (x : Operand) (k : Nat) (ho : o.op = .fieldAddr ty x k) (u v : Value) (hx : a.eval x = u) (h : (Instr.fieldAt ty u k).run P w = .ok v w) : (execOp a.eval o).run P w = .ok (.value v) w := by
  unfold execOp
  simp only [ho, hx, Sem.run_bind, Sem.run_pure, Result.andThen_ok, h]
theorem run_indexAt (ty : TypeId) (x y : Operand) (ho : o.op = .indexAddr ty x y) (u i v : Value) (hx : a.eval x = u) (hy : a.eval y = i) (h : (Instr.indexAt ty u i).run P w = .ok v w) : (execOp a.eval o).run P w = .ok (.value v) w := by
  unfold execOp
  simp only [ho, hx, hy, Sem.run_bind, Sem.run_pure, Result.andThen_ok, h]
theorem run_buildOp (t : TypeId) (ps : Array (Nat × Operand)) (ho : o.op = .build t ps) (qs : Array (Nat × Value)) (hq : (ps.map fun p => (p.1, a.eval p.2)) = qs) (v : Value) (hb : (Instr.build t qs).run P w = .ok v w) : (execOp a.eval o).run P w = .ok (.value v) w := by
  unfold execOp
  simp only [ho]
  rw [← hq] at hb
  simp [hb]
theorem run_nilOk (x : Operand) (ho : o.op = .nilCheck x) (p : Addr) (hx : a.eval x = .pointer (some p)) : (execOp a.eval o).run P w = .ok (.value (.pointer (some p))) w := by
  unfold execOp
  simp only [ho, hx]
  simp [go_sem]
end
theorem wp_run {P : Program} {o : Oper} {a : Act} {w : World} {K : Act → World → Prop} {Q : Exit → Act → World → Prop} {v : Value} (hrun : (execOp a.eval o).run P w = .ok (.value v) w) (h : K (a.put o.dst v) w) : o.wp P a w K Q := by
  unfold Oper.wp
  rw [hrun]
  exact h
theorem at_list' {P : Program} {w : World} {ops : Array Oper} {rest : List Oper} {o : Oper} {a : Act} {Q : Exit → Act → World → Prop} (h : wpList P ops Q (o :: rest) a w) : wpList P ops Q (o :: rest) a w := h
theorem run_len {P : Program} {o : Oper} {a : Act} {w : World} (x : Operand) (ty : TypeId) (ho : o.op = .call { callee := .builtin .len, args := #[x], argTypes := #[ty] }) (ao : Option Addr) (n c : Nat) (hx : a.eval x = .slice ao n c) (e : TypeId) (hu : P.underlying ty = some (.slice e)) : (execOp a.eval o).run P w = .ok (.value (.int .i64 (n : Int))) w := by
  have hl : (Builtin.len_ #[ty] o.type #[.slice ao n c]).run P w = .ok (.int .i64 (n : Int)) w := by simp [Builtin.len_, run_underlying hu, goInt]
  unfold execOp
  simp only [ho, resolve, invoke, builtin, Sem.run_bind, Sem.run_pure, Result.andThen_ok, List.map_toArray, List.map_cons, List.map_nil, hx, hl]
theorem run_sliceAll {P : Program} {o : Oper} {a : Act} {w : World} (ty : TypeId) (x : Operand) (ho : o.op = .slice ty x none none none) (u v : Value) (hx : a.eval x = u) (h : (Instr.sliceAt ty u none none none).run P w = .ok v w) : (execOp a.eval o).run P w = .ok (.value v) w := by
  unfold execOp
  simp only [ho, hx, Option.map_none, Sem.run_bind, Sem.run_pure, Result.andThen_ok, h]
theorem rconv {o : Oper} {a : Act} {w : World} {bs : List Nat} (x : Operand) (ho : o.op = .convert 99 9 x) (hx : IsB w (a.eval x) bs) : (execOp a.eval o).run Tryz.prog w = .ok (.value (.string (strOf bs))) w := by
  unfold execOp
  simp only [ho, Sem.run_bind, conv_b hx, Result.andThen_ok, Sem.run_pure]
theorem toList_beq (s t : ByteArray) : (s.toList == t.toList) = decide (s = t) := by
  rw [ByteArray.toList_eq, ByteArray.toList_eq]
  by_cases h : s = t
  · subst h; simp
  · simp only [h, decide_false]
    exact beq_eq_false_iff_ne.2 fun e => h (ByteArray.ext (Array.toList_inj.1 e))
theorem reqs {o : Oper} {a : Act} {w : World} {s t : ByteArray} (x y : Operand) (ho : o.op = .binOp .eql 9 x y 9) (hx : a.eval x = .string s) (hy : a.eval y = .string t) : (execOp a.eval o).run Tryz.prog w = .ok (.value (.bool (decide (s = t)))) w := by
  unfold execOp
  simp only [ho, hx, hy]
  simp [go_sem, toList_beq]
theorem strOf_dec (l m : List Nat) (hl : ∀ z ∈ l, z < 256) (hm : ∀ z ∈ m, z < 256) : decide (strOf l = strOf m) = decide (l = m) := by
  by_cases h : l = m
  · subst h; simp
  · simp only [h, decide_false]
    exact decide_eq_false fun e => h (strOf_inj hl hm e)
end Go.Proofs.YtbmcmabimfoknaaGreatDoor

/- ssz's bits: setBit, bytesFor, PutBits. -/
namespace Go.Proofs.YtbmcmabimfoknaaGreatDoor
set_option maxRecDepth 100000
open Go.RowKit
set_option linter.unusedVariables false

/-- A bit set. -/
def bset (bs : List Nat) (i : Nat) : List Nat := bs.set (i / 8) (bs.getD (i / 8) 0 ||| 2 ^ (i % 8))

theorem or_u8 (a b : Nat) (ha : a < 256) (hb : b < 256) : bits .or .u8 (a : Int) (b : Int) = ((a ||| b : Nat) : Int) := by
  have hx : a ||| b < 2 ^ 8 := Nat.or_lt_two_pow (by omega) (by omega)
  have e : ∀ n : Nat, n < 256 → (BitVec.ofInt 8 (n : Int)).toNat = n := fun n hn => by rw [BitVec.toNat_ofInt]; omega
  show IntKind.u8.wrap ((BitVec.ofInt 8 (a : Int) ||| BitVec.ofInt 8 (b : Int)).toNat : Int) = _
  rw [BitVec.toNat_or, e a ha, e b hb]
  rw [IntKind.wrap_u8]
  omega
theorem pow_u8 (r : Nat) (h : r < 8) : 2 ^ r < 256 := by
  have := Nat.pow_lt_pow_right (a := 2) (by decide) h
  simpa using this
theorem bset_length (bs : List Nat) (i : Nat) : (bset bs i).length = bs.length := by simp [bset]
theorem byte_at {bs : List Nat} (hb : ∀ z ∈ bs, z < 256) (i : Nat) : bs.getD i 0 < 256 := by
  rw [List.getD_eq_getElem?_getD]
  by_cases h : i < bs.length
  · rw [List.getElem?_eq_getElem h]; exact hb _ (List.getElem_mem _)
  · rw [List.getElem?_eq_none (by omega)]; decide
theorem bset_byte {bs : List Nat} (hb : ∀ z ∈ bs, z < 256) (i : Nat) : ∀ z ∈ bset bs i, z < 256 := fun z hz => by
  rcases List.mem_or_eq_of_mem_set hz with h | h
  · exact hb z h
  · rw [h]; exact Nat.or_lt_two_pow (n := 8) (byte_at hb _) (pow_u8 _ (Nat.mod_lt _ (by decide)))

set_option maxRecDepth 100000 in
set_option maxHeartbeats 1000000 in
theorem setBit_any (g n cap : Nat) (t : TypeId) (bs : List Nat) (i : Nat) (w : World) (hg : Has w g t .u8 bs) (hb : ∀ z ∈ bs, z < 256) (hi : i / 8 < n) (hn : n ≤ bs.length) (hi2 : i < 9223372036854775807) :
    Calls Tryz.prog 107 #[.slice (some ⟨g, 0, none⟩) n cap, .int .i64 (i : Nat)] w fun e w' => (∃ u, e = .returned u) ∧ Has w' g t .u8 (bset bs i) ∧ Only g w w' := by
  have hc := hg.cell (i / 8) (by omega)
  have hf := hg.frozen (i / 8)
  go_enter Tryz.func107, Tryz.ntmps107
  go_wp2
  refine wp_region_quiet_tail 10 (by kernel_rfl) (by kernel_rfl) ?_
  simp only [List.take_succ_cons, List.take_zero, List.drop_succ_cons, List.drop_zero]
  repeat (go_big_quiet_step (fail))
  refine wpQuiet_nil ?_
  intro _ hw'
  obtain ⟨nq, hw''⟩ := hw'
  subst hw''
  have hpw := pow_u8 (i % 8) (Nat.mod_lt _ (by decide))
  have hor := or_u8 _ _ (byte_at hb (i / 8)) hpw
  have hgd : bs[i / 8]?.getD 0 = bs.getD (i / 8) 0 := List.getD_eq_getElem?_getD.symm
  have HE : Same (bits BinOp.or IntKind.u8 (↑(bs[i / 8]?.getD 0)) (2 ^ (i % 8) % 256)) (((bs.getD (i / 8) 0 ||| 2 ^ (i % 8) : Nat)) : Int) := ⟨by
    rw [hgd, ← hor]
    congr 1
    have e : ((2 : Int) ^ (i % 8)) = ((2 ^ (i % 8) : Nat) : Int) := by simp
    rw [e]
    generalize 2 ^ (i % 8) = p at hpw ⊢
    omega⟩
  clear hor hgd hpw
  go_wp2
  go_end0
  rw [HE.out]
  exact ⟨⟨_, rfl⟩, (hg.drewN nq).set (i / 8) _, ⟨rfl, rfl, rfl, by simp [World.setCell], fun k hk => heap_setCell_other (w.drewN nq) ⟨g, i / 8, none⟩ k _ hk⟩⟩

set_option maxRecDepth 100000 in
set_option maxHeartbeats 1000000 in
theorem bytesFor_any (n : Nat) (w : World) (hn : n ≤ 9223372036854775807) :
    Calls Tryz.prog 106 #[.int .i64 (n : Nat)] w fun e w' => e = .returned (.int .i64 (((n + 7) / 8 : Nat) : Int)) ∧ w' = w := by
  by_cases h : n % 8 = 0
  · have h' : ((n : Int) % 8 == 0) = true := by rw [beq_iff_eq]; omega
    go_enter Tryz.func106, Tryz.ntmps106
    go_wp2
    go_ret
    exact ⟨ret_int (by omega), rfl⟩
  · have h' : ((n : Int) % 8 == 0) = false := by rw [beq_eq_false_iff_ne]; omega
    go_enter Tryz.func106, Tryz.ntmps106
    go_wp2
    go_ret
    exact ⟨ret_int (by omega), rfl⟩

/-- A slice of truths. -/
structure IsT (w : World) (v : Value) (l : List Bool) : Prop where
  ex : ∃ ao cap, v = .slice ao l.length cap ∧ l.length ≤ cap ∧ cap ≤ maxLen ∧ (l.length = 0 ∨ ∃ b off, ao = some ⟨b, off, none⟩ ∧ ∀ i, i < l.length → w.cell? ⟨b, off + i, none⟩ = some (.bool (l.getD i false)))
theorem IsT.keep {w w' : World} {v : Value} {l : List Bool} (h : IsT w v l) (hb : Below w.heap.size w w') : IsT w' v l := by
  obtain ⟨ao, cap, rfl, h1, h2, h3⟩ := h
  refine ⟨ao, cap, rfl, h1, h2, ?_⟩
  rcases h3 with h3 | ⟨b, off, rfl, hc⟩
  · exact .inl h3
  · exact .inr ⟨b, off, rfl, fun i hi => (hb.cell (p := ⟨b, off + i, none⟩) (block_lt_of_cell (hc i hi))).trans (hc i hi)⟩
/-- Bits set one by one. -/
def upB (l : List Bool) (z : List Nat) : Nat → List Nat
  | 0 => z
  | k + 1 => if l.getD k false then bset (upB l z k) k else upB l z k
/-- Bits as bytes. -/
def putB (l : List Bool) (e : Bool) : List Nat := if e then bset (upB l (zeros ((l.length + 1 + 7) / 8)) l.length) l.length else upB l (zeros ((l.length + 7) / 8)) l.length
theorem upB_length (l : List Bool) (z : List Nat) : ∀ k, (upB l z k).length = z.length
  | 0 => rfl
  | k + 1 => by rw [upB]; split <;> simp [bset_length, upB_length l z k]
theorem zeros_byte (n : Nat) : ∀ z ∈ zeros n, z < 256 := fun z hz => by
  unfold zeros at hz
  rw [List.eq_of_mem_replicate hz]; decide
theorem upB_byte (l : List Bool) (n : Nat) : ∀ k, ∀ z ∈ upB l (zeros n) k, z < 256
  | 0 => zeros_byte n
  | k + 1 => by rw [upB]; split; exact bset_byte (upB_byte l n k) k; exact upB_byte l n k
theorem Has.row {w : World} {g base : Nat} {bs : List Nat} (h : Has w g 5 .u8 bs) (hb : base ≤ g) (hm : bs.length ≤ maxLen) : Row w base (.slice (some ⟨g, 0, none⟩) bs.length bs.length) bs :=
  ⟨by rw [cellsB_length, Nat.mul_one], .inr ⟨g, bs.length, nums .u8 bs, rfl, hb, h, Nat.le_refl _, hm, by rw [nums_size, Nat.mul_one], by rw [List.take_of_length_le (by rw [Array.length_toList, nums_size]; omega)]; rfl⟩⟩

set_option maxRecDepth 100000 in
set_option maxHeartbeats 1000000 in
theorem putBits_any (v : Value) (l : List Bool) (e : Bool) (w : World) (hT : IsT w v l) (hl : l.length ≤ 1099511627776) :
    Calls Tryz.prog 92 #[v, .bool e] w fun r w' => ∃ v', r = .returned v' ∧ Row w' w.heap.size v' (putB l e) ∧ Below w.heap.size w w' := by
  obtain ⟨ao, cap, rfl, hcap, hmx, hc⟩ := hT
  cases e
  · obtain ⟨m, hm⟩ : ∃ m, (l.length + 7) / 8 = m := ⟨_, rfl⟩
    have HM := hid hm
    have hZ := zeros_length m
    go_enter Tryz.func92, Tryz.ntmps92
    go_wp2_with fail
    refine (bytesFor_any (l.length) _ (by omega)).mono ?_
    rintro e w' ⟨rfl, rfl⟩
    rw [hm]
    have HZ := hid hZ
    clear hm hZ
    go_wp2_with (refine wpList_make_has rfl _ _ 99 rfl 5 .u8 Tryz.underlying99 Tryz.zero5 .i64 .i64 _ _ m rfl rfl rfl rfl (by have := HM.out; omega) ?_; intro w1 H1 B1)
    have HH1 := hid H1
    have HB1 := hid B1
    have s1 := H1.lt
    have s1' := B1.size
    clear H1 B1
    go_loopw [7, 8, 19] (fun _ _ i wr => ∃ k : Nat, k ≤ l.length ∧ i = .int .i64 k ∧ Has wr w'.heap.size 5 .u8 (upB l (zeros m) k) ∧ Below w'.heap.size w' wr) (fun _ _ i _ => l.length - (intOf i).toNat)
    case atStart => exact ⟨0, Nat.zero_le _, rfl, HH1.out, HB1.out⟩
    case round =>
      obtain ⟨k, hk, rfl, hH, hB⟩ := hrel
      have hlen : (upB l (zeros m) k).length = m := (upB_length l _ k).trans HZ.out
      have hm8 := HM.out
      have HHH := hid hH
      have HBB := hid hB
      have HLL := hid hlen
      clear hH hB hlen
      by_cases hlt : k < l.length
      · obtain ⟨b, off, rfl, hcc⟩ : ∃ b off, ao = some ⟨b, off, none⟩ ∧ ∀ i, i < l.length → w'.cell? ⟨b, off + i, none⟩ = some (.bool (l.getD i false)) := by
          rcases hc with hc | hc
          · omega
          · exact hc
        have hcr := (HBB.out.cell (p := ⟨b, off + k, none⟩) (block_lt_of_cell (hcc k hlt))).trans (hcc k hlt)
        have HU : Same (upB l (zeros m) (k + 1)) (if l.getD k false then bset (upB l (zeros m) k) k else upB l (zeros m) k) := ⟨rfl⟩
        obtain ⟨t, ht⟩ : ∃ t, l.getD k false = t := ⟨_, rfl⟩
        rw [ht] at hcr HU
        clear ht hm8
        cases t
        · go_wp2
          go_roundw
          case rel => exact ⟨k + 1, by omega, by go_num, by rw [HU.out]; exact HHH.out, HBB.out⟩
          case measure => simp [intOf]; omega
        · go_wp2_with fail
          refine (setBit_any w'.heap.size m m _ _ k _ HHH.out (upB_byte l m k) (by have := HM.out; omega) (by rw [HLL.out]; exact Nat.le_refl _) (by omega)).mono ?_
          rintro e w2 ⟨⟨u, rfl⟩, h2, o2⟩
          have X2 := hid (And.intro h2 (below_only HBB.out o2 (Nat.le_refl _)))
          clear h2 o2
          go_wp2
          go_roundw
          case rel => exact ⟨k + 1, by omega, by go_num, by rw [HU.out]; exact X2.out.1, X2.out.2⟩
          case measure => simp [intOf]; omega
      · obtain rfl : k = l.length := by omega
        go_wp2
        go_ret
        have hr := HHH.out.row (Nat.le_refl _) (by rw [HLL.out]; unfold maxLen; omega)
        rw [HLL.out] at hr
        refine ⟨_, rfl, ?_, HBB.out⟩
        have e : putB l false = upB l (zeros m) l.length := by rw [← HM.out]; rfl
        rw [e]
        exact hr
  · obtain ⟨m, hm⟩ : ∃ m, (l.length + 1 + 7) / 8 = m := ⟨_, rfl⟩
    have HM := hid hm
    have hZ := zeros_length m
    go_enter Tryz.func92, Tryz.ntmps92
    go_wp2_with fail
    refine (bytesFor_any (l.length + 1) _ (by omega)).mono ?_
    rintro e w' ⟨rfl, rfl⟩
    rw [hm]
    have HZ := hid hZ
    clear hm hZ
    go_wp2_with (refine wpList_make_has rfl _ _ 99 rfl 5 .u8 Tryz.underlying99 Tryz.zero5 .i64 .i64 _ _ m rfl rfl rfl rfl (by have := HM.out; omega) ?_; intro w1 H1 B1)
    have HH1 := hid H1
    have HB1 := hid B1
    have s1 := H1.lt
    have s1' := B1.size
    clear H1 B1
    go_loopw [7, 8, 19] (fun _ _ i wr => ∃ k : Nat, k ≤ l.length ∧ i = .int .i64 k ∧ Has wr w'.heap.size 5 .u8 (upB l (zeros m) k) ∧ Below w'.heap.size w' wr) (fun _ _ i _ => l.length - (intOf i).toNat)
    case atStart => exact ⟨0, Nat.zero_le _, rfl, HH1.out, HB1.out⟩
    case round =>
      obtain ⟨k, hk, rfl, hH, hB⟩ := hrel
      have hlen : (upB l (zeros m) k).length = m := (upB_length l _ k).trans HZ.out
      have hm8 := HM.out
      have HHH := hid hH
      have HBB := hid hB
      have HLL := hid hlen
      clear hH hB hlen
      by_cases hlt : k < l.length
      · obtain ⟨b, off, rfl, hcc⟩ : ∃ b off, ao = some ⟨b, off, none⟩ ∧ ∀ i, i < l.length → w'.cell? ⟨b, off + i, none⟩ = some (.bool (l.getD i false)) := by
          rcases hc with hc | hc
          · omega
          · exact hc
        have hcr := (HBB.out.cell (p := ⟨b, off + k, none⟩) (block_lt_of_cell (hcc k hlt))).trans (hcc k hlt)
        have HU : Same (upB l (zeros m) (k + 1)) (if l.getD k false then bset (upB l (zeros m) k) k else upB l (zeros m) k) := ⟨rfl⟩
        obtain ⟨t, ht⟩ : ∃ t, l.getD k false = t := ⟨_, rfl⟩
        rw [ht] at hcr HU
        clear ht hm8
        cases t
        · go_wp2
          go_roundw
          case rel => exact ⟨k + 1, by omega, by go_num, by rw [HU.out]; exact HHH.out, HBB.out⟩
          case measure => simp [intOf]; omega
        · go_wp2_with fail
          refine (setBit_any w'.heap.size m m _ _ k _ HHH.out (upB_byte l m k) (by have := HM.out; omega) (by rw [HLL.out]; exact Nat.le_refl _) (by omega)).mono ?_
          rintro e w2 ⟨⟨u, rfl⟩, h2, o2⟩
          have X2 := hid (And.intro h2 (below_only HBB.out o2 (Nat.le_refl _)))
          clear h2 o2
          go_wp2
          go_roundw
          case rel => exact ⟨k + 1, by omega, by go_num, by rw [HU.out]; exact X2.out.1, X2.out.2⟩
          case measure => simp [intOf]; omega
      · obtain rfl : k = l.length := by omega
        go_wp2_with fail
        refine (setBit_any w'.heap.size m m _ _ l.length _ HHH.out (upB_byte l m l.length) (by have := HM.out; omega) (by rw [HLL.out]; exact Nat.le_refl _) (by omega)).mono ?_
        rintro e w2 ⟨⟨u, rfl⟩, h2, o2⟩
        have X2 := hid (And.intro h2 (below_only HBB.out o2 (Nat.le_refl _)))
        clear h2 o2
        go_wp2
        go_ret
        have hr := X2.out.1.row (Nat.le_refl _) (by rw [bset_length, HLL.out]; unfold maxLen; omega)
        rw [bset_length, HLL.out] at hr
        refine ⟨_, rfl, ?_, X2.out.2⟩
        have e : putB l true = bset (upB l (zeros m) l.length) l.length := by rw [← HM.out]; rfl
        rw [e]
        exact hr
end Go.Proofs.YtbmcmabimfoknaaGreatDoor

/- Bits of bytes: which bit stands where; bits there and back. -/
namespace Go.Proofs.YtbmcmabimfoknaaGreatDoor
set_option maxRecDepth 100000
open Go.RowKit
set_option linter.unusedVariables false

/-- The bit at a place. -/
def bitN (bs : List Nat) (i : Nat) : Bool := (bs.getD (i / 8) 0).testBit (i % 8)
/-- The first n bits. -/
def bitsL (bs : List Nat) (n : Nat) : List Bool := (List.range n).map (bitN bs)
theorem bitsL_length (bs : List Nat) (n : Nat) : (bitsL bs n).length = n := by simp [bitsL]
theorem bitsL_getD (bs : List Nat) (n i : Nat) : (bitsL bs n).getD i false = (decide (i < n) && bitN bs i) := by
  rw [bitsL, List.getD_eq_getElem?_getD, List.getElem?_map]
  by_cases h : i < n
  · rw [List.getElem?_range h]; simp [h]
  · rw [List.getElem?_eq_none (by simp; omega)]; simp [h]
theorem bitsL_succ (bs : List Nat) (n : Nat) : bitsL bs (n + 1) = bitsL bs n ++ [bitN bs n] := by simp [bitsL, List.range_succ]
theorem bset_bit (bs : List Nat) (i j : Nat) (h : i / 8 < bs.length) : bitN (bset bs i) j = (bitN bs j || decide (i = j)) := by
  unfold bitN bset
  by_cases hb : j / 8 = i / 8
  · rw [hb, List.getD_eq_getElem?_getD, List.getElem?_set_self h, Option.getD_some, Nat.testBit_or]
    congr 1
    rw [Nat.testBit_two_pow]
    by_cases hm : i % 8 = j % 8
    · have : i = j := by omega
      simp [this]
    · have : i ≠ j := by omega
      simp [hm, this]
  · rw [List.getD_eq_getElem?_getD, List.getElem?_set_ne (by omega), ← List.getD_eq_getElem?_getD]
    have : i ≠ j := by omega
    simp [this]
theorem upB_bit (l : List Bool) (z : List Nat) (j : Nat) : ∀ k, k ≤ 8 * z.length → bitN (upB l z k) j = (bitN z j || (decide (j < k) && l.getD j false))
  | 0, _ => by simp [upB]
  | k + 1, h => by
    rw [upB]
    have ih := upB_bit l z j k (by omega)
    split
    · rename_i hl
      rw [bset_bit _ _ _ (by rw [upB_length]; omega), ih]
      by_cases hj : j = k
      · subst hj; simp only [hl]; simp
      · have h1 : (decide (k = j)) = false := by simp; omega
        have h2 : decide (j < k + 1) = decide (j < k) := by congr 1; simp; omega
        rw [h1, h2]; simp
    · rename_i hl
      rw [ih]
      by_cases hj : j = k
      · subst hj; simp only [Bool.not_eq_true] at hl; simp only [hl]; simp
      · have h2 : decide (j < k + 1) = decide (j < k) := by congr 1; simp; omega
        rw [h2]
theorem zeros_bit (n j : Nat) : bitN (zeros n) j = false := by
  have : (zeros n).getD (j / 8) 0 = 0 := by
    unfold zeros
    rw [List.getD_eq_getElem?_getD, List.getElem?_replicate]; split <;> rfl
  rw [bitN, this]; simp
theorem bytes_ext {a b : List Nat} (hl : a.length = b.length) (ha : ∀ z ∈ a, z < 256) (hb : ∀ z ∈ b, z < 256) (h : ∀ j, j < 8 * a.length → bitN a j = bitN b j) : a = b := by
  apply List.ext_getElem hl
  intro i h1 h2
  apply Nat.eq_of_testBit_eq
  intro r
  by_cases hr : r < 8
  · have := h (8 * i + r) (by omega)
    unfold bitN at this
    rw [show (8 * i + r) / 8 = i by omega, show (8 * i + r) % 8 = r by omega] at this
    simpa [List.getD_eq_getElem?_getD, h1, h2] using this
  · have e : ∀ x : Nat, x < 256 → x.testBit r = false := fun x hx => Nat.testBit_lt_two_pow (Nat.lt_of_lt_of_le hx (by have := Nat.pow_le_pow_right (n := 2) (by decide) (show 8 ≤ r by omega); simpa using this))
    rw [e _ (ha _ (List.getElem_mem _)), e _ (hb _ (List.getElem_mem _))]
theorem putB_length (l : List Bool) (e : Bool) : (putB l e).length = (l.length + (if e then 1 else 0) + 7) / 8 := by
  cases e
  · simp [putB, upB_length, zeros_length]
  · simp [putB, upB_length, zeros_length, bset_length]
theorem putB_byte (l : List Bool) (e : Bool) : ∀ z ∈ putB l e, z < 256 := by
  cases e
  · simpa [putB] using upB_byte l _ l.length
  · simpa [putB] using bset_byte (upB_byte l _ l.length) l.length
theorem getD_ge {l : List Bool} {j : Nat} (h : l.length ≤ j) : l.getD j false = false := by
  rw [List.getD_eq_getElem?_getD, List.getElem?_eq_none h]; rfl
theorem putB_bit_false (l : List Bool) (j : Nat) : bitN (putB l false) j = l.getD j false := by
  rw [putB, if_neg (by decide), upB_bit _ _ _ _ (by rw [zeros_length]; omega), zeros_bit]
  by_cases h : j < l.length
  · simp [h]
  · rw [getD_ge (by omega)]; simp
theorem putB_bit_true (l : List Bool) (j : Nat) : bitN (putB l true) j = (l.getD j false || decide (l.length = j)) := by
  rw [putB, if_pos rfl, bset_bit _ _ _ (by rw [upB_length, zeros_length]; omega), upB_bit _ _ _ _ (by rw [zeros_length]; omega), zeros_bit]
  by_cases h : j < l.length
  · simp [h]
  · rw [getD_ge (by omega)]; simp
/-- Just n bits: the bytes are theirs, if the last byte has nothing above. -/
theorem few_iff (bs : List Nat) (n : Nat) (hb : ∀ z ∈ bs, z < 256) (h0 : 0 < n) (hl : bs.length = (n + 7) / 8) : putB (bitsL bs n) false = bs ↔ bs.getD (bs.length - 1) 0 / 2 ^ ((n - 1) % 8 + 1) = 0 := by
  have hdiv : bs.getD (bs.length - 1) 0 / 2 ^ ((n - 1) % 8 + 1) = 0 ↔ ∀ j, n ≤ j → j < 8 * bs.length → bitN bs j = false := by
    rw [Nat.div_eq_zero_iff_lt (Nat.two_pow_pos _)]
    constructor
    · intro h j h1 h2
      unfold bitN
      rw [show j / 8 = bs.length - 1 by omega]
      exact Nat.testBit_lt_two_pow (Nat.lt_of_lt_of_le h (Nat.pow_le_pow_right (by decide) (by omega)))
    · intro h
      apply Nat.lt_pow_two_of_testBit
      intro r hr
      by_cases h8 : r < 8
      · have := h (8 * (bs.length - 1) + r) (by omega) (by omega)
        unfold bitN at this
        rwa [show (8 * (bs.length - 1) + r) / 8 = bs.length - 1 by omega, show (8 * (bs.length - 1) + r) % 8 = r by omega] at this
      · exact Nat.testBit_lt_two_pow (Nat.lt_of_lt_of_le (byte_at hb _) (by have := Nat.pow_le_pow_right (n := 2) (by decide) (show 8 ≤ r by omega); simpa using this))
  rw [hdiv]
  constructor
  · intro h j h1 h2
    rw [← h, putB_bit_false, bitsL_getD]
    simp; omega
  · intro h
    refine bytes_ext (by rw [putB_length, bitsL_length, hl]; simp) (putB_byte _ _) hb fun j hj => ?_
    rw [putB_length, bitsL_length] at hj
    simp at hj
    rw [putB_bit_false, bitsL_getD]
    by_cases hn : j < n
    · simp [hn]
    · rw [h j (by omega) (by omega)]; simp
/-- The place of the end. -/
def endB (bs : List Nat) : Nat := 8 * (bs.length - 1) + (bs.getD (bs.length - 1) 0).log2
/-- What TakeBits answers. -/
def takeB (bs : List Nat) (limit : Int) : Option (List Bool) :=
  if bs.length = 0 ∨ bs.getD (bs.length - 1) 0 = 0 ∨ limit < ((endB bs : Nat) : Int) then none else some (bitsL bs (endB bs))
theorem log2_byte {x : Nat} (h : x < 256) : x.log2 < 8 := by
  by_cases h0 : x = 0
  · subst h0; decide
  · exact (Nat.log2_lt h0).2 h
theorem end_bit (bs : List Nat) (h0 : 0 < bs.length) (hz : bs.getD (bs.length - 1) 0 ≠ 0) (hb : ∀ z ∈ bs, z < 256) : bitN bs (endB bs) = true := by
  have h8 := log2_byte (byte_at hb (bs.length - 1))
  unfold bitN endB
  rw [show (8 * (bs.length - 1) + (bs.getD (bs.length - 1) 0).log2) / 8 = bs.length - 1 by omega, show (8 * (bs.length - 1) + (bs.getD (bs.length - 1) 0).log2) % 8 = (bs.getD (bs.length - 1) 0).log2 by omega]
  exact Nat.testBit_log2 hz
theorem above_end (bs : List Nat) (h0 : 0 < bs.length) (hz : bs.getD (bs.length - 1) 0 ≠ 0) (hb : ∀ z ∈ bs, z < 256) (j : Nat) (h1 : endB bs < j) (h2 : j < 8 * bs.length) : bitN bs j = false := by
  have h8 := log2_byte (byte_at hb (bs.length - 1))
  unfold endB at h1
  unfold bitN
  rw [show j / 8 = bs.length - 1 by omega]
  exact Nat.testBit_lt_two_pow (Nat.lt_of_lt_of_le Nat.lt_log2_self (Nat.pow_le_pow_right (by decide) (by omega)))
/-- Bits there and back. -/
theorem take_put (l : List Bool) : takeB (putB l true) (l.length : Nat) = some l := by
  have hlen := putB_length l true
  simp at hlen
  have hb := putB_byte l true
  have hlast : ((putB l true).getD ((putB l true).length - 1) 0).testBit (l.length % 8) = true := by
    have := putB_bit_true l l.length
    unfold bitN at this
    rw [show l.length / 8 = (putB l true).length - 1 by omega] at this
    rw [this]; simp
  have hz : (putB l true).getD ((putB l true).length - 1) 0 ≠ 0 := by
    intro h; rw [h] at hlast; simp at hlast
  have hend : endB (putB l true) = l.length := by
    have h1 := end_bit (putB l true) (by omega) hz hb
    rw [putB_bit_true] at h1
    rcases Nat.lt_trichotomy (endB (putB l true)) l.length with h | h | h
    · exfalso
      have h2 := above_end (putB l true) (by omega) hz hb l.length h (by omega)
      rw [putB_bit_true] at h2
      simp at h2
    · exact h
    · exfalso
      rw [getD_ge (by omega)] at h1
      simp at h1
      omega
  rw [takeB, if_neg (by rw [hend]; omega), hend]
  congr 1
  apply List.ext_getElem (bitsL_length _ _)
  intro i h1 h2
  have := bitsL_getD (putB l true) l.length i
  rw [putB_bit_true] at this
  have hi : i < l.length := h2
  rw [List.getD_eq_getElem?_getD, List.getElem?_eq_getElem h1, List.getD_eq_getElem?_getD, List.getElem?_eq_getElem h2] at this
  simp [hi] at this
  rw [this]
  simp; omega
end Go.Proofs.YtbmcmabimfoknaaGreatDoor

/- The document's PutBits, bits, and Size of kinds without kinds in them. -/
namespace Go.Proofs.YtbmcmabimfoknaaGreatDoor
set_option maxRecDepth 100000
open Go.RowKit
set_option linter.unusedVariables false
set_option maxRecDepth 100000

theorem putB_end (l : List Bool) : putB (l ++ [true]) false = putB l true := by
  refine bytes_ext (by rw [putB_length, putB_length]; simp) (putB_byte _ _) (putB_byte _ _) fun j hj => ?_
  rw [putB_bit_false, putB_bit_true, List.getD_eq_getElem?_getD, List.getD_eq_getElem?_getD, List.getElem?_append]
  by_cases h : j < l.length
  · rw [if_pos h]
    have : ¬ l.length = j := by omega
    simp [this]
  · rw [if_neg h]
    by_cases h2 : l.length = j
    · subst h2; simp
    · have : j - l.length ≠ 0 := by omega
      rw [List.getElem?_eq_none (by simp; omega), List.getElem?_eq_none (by omega)]
      simp [h2]

set_option maxHeartbeats 2000000 in
theorem rputBits_any (v : Value) (l : List Bool) (e : Bool) (w : World) (hT : IsT w v l) (hl : l.length ≤ 1099511627776) :
    Calls Tryz.prog 33 #[v, .bool e] w fun r w' => ∃ v', r = .returned v' ∧ Row w' w.heap.size v' (putB l e) ∧ Below w.heap.size w w' := by
  obtain ⟨ao, cap, rfl, hcap, hmx, hc⟩ := hT
  obtain ⟨l', hl'⟩ : ∃ l', l' = l ++ (if e then [true] else []) := ⟨_, rfl⟩
  have hlen : l'.length = l.length + (if e then 1 else 0) := by rw [hl']; cases e <;> simp
  have hput : putB l e = upB l' (zeros ((l'.length + 7) / 8)) l'.length := by
    have : putB l e = putB l' false := by
      rw [hl']
      cases e
      · simp
      · simp [putB_end]
    rw [this]; rfl
  have hat : ∀ k, k < l'.length → l'.getD k false = (decide (k = l.length) || l.getD k false) := by
    intro k hk
    rw [hl', List.getD_eq_getElem?_getD, List.getD_eq_getElem?_getD, List.getElem?_append]
    by_cases h : k < l.length
    · rw [if_pos h]
      have : k ≠ l.length := by omega
      simp [this]
    · rw [if_neg h]
      cases e
      · simp at hlen; omega
      · simp at hlen
        have : k = l.length := by omega
        subst this
        simp
  obtain ⟨N, hN⟩ : ∃ N, l'.length = N := ⟨_, rfl⟩
  obtain ⟨m, hm⟩ : ∃ m, (N + 7) / 8 = m := ⟨_, rfl⟩
  have hle : l.length ≤ N := by rw [hlen] at hN; omega
  have hle2 : N ≤ l.length + 1 := by rw [hlen] at hN; split at hN <;> omega
  rw [hN, hm] at hput
  rw [hN] at hat
  have HP := hid hput
  have HA := hid hat
  have HM := hid hm
  have hZ := hid (zeros_length m)
  rw [hN] at hlen
  clear hput hat hN hm hl'
  unfold maxLen at hmx
  cases e
  all_goals
    have hN1 := hlen
    simp only [if_true, Bool.false_eq_true, if_false, Nat.add_zero] at hN1
    have hNlo := Nat.le_of_eq hN1
    have hNhi := Nat.le_of_eq hN1.symm
    have HNN := hid hN1
    clear hlen hN1
    go_enter Tryz.func33, Tryz.ntmps33
    go_wp2_with (refine wpList_make_has rfl _ _ 99 rfl 5 .u8 Tryz.underlying99 Tryz.zero5 .i64 .i64 _ _ m rfl rfl (by have := HM.out; have := HNN.out; omega) (by have := HM.out; have := HNN.out; omega) (by have := HM.out; omega) ?_; intro w1 H1 B1)
    have HH1 := hid H1
    have HB1 := hid B1
    clear H1 B1
    go_loopw [7] (fun i wr => ∃ k : Nat, k ≤ N ∧ i = .int .i64 k ∧ Has wr w.heap.size 5 .u8 (upB l' (zeros m) k) ∧ Below w.heap.size w wr) (fun i _ => N - (intOf i).toNat)
    case atStart => exact ⟨0, Nat.zero_le _, rfl, HH1.out, HB1.out⟩
    case round =>
      obtain ⟨k, hk, rfl, hH, hB⟩ := hrel
      have hNe := HNN.out
      have hlen : (upB l' (zeros m) k).length = m := (upB_length l' _ k).trans hZ.out
      have HHH := hid hH
      have HBB := hid hB
      by_cases hlt : k < N
      · have hm8 := HM.out
        have hk8 : k / 8 < m := by omega
        have hcl := hH.cell (k / 8) (by omega)
        have hfr := hH.frozen (k / 8)
        have hpw := pow_u8 (k % 8) (Nat.mod_lt _ (by decide))
        have hby := byte_at (upB_byte l' m k) (k / 8)
        have hor := or_u8 _ _ hby hpw
        have hat := HA.out k hlt
        have HU : Same (upB l' (zeros m) (k + 1)) (if l'.getD k false then bset (upB l' (zeros m) k) k else upB l' (zeros m) k) := ⟨rfl⟩
        have hset : bset (upB l' (zeros m) k) k = (upB l' (zeros m) k).set (k / 8) ((upB l' (zeros m) k).getD (k / 8) 0 ||| 2 ^ (k % 8)) := rfl
        rw [hset] at HU
        clear hset hm8 hNe hlen
        generalize hy : (upB l' (zeros m) k).getD (k / 8) 0 = y at *
        have HE : Same (bits BinOp.or IntKind.u8 (y : Int) (2 ^ (k % 8) % 256)) (((y ||| 2 ^ (k % 8) : Nat)) : Int) := ⟨by
          rw [← hor]
          congr 1
          have e : ((2 : Int) ^ (k % 8)) = ((2 ^ (k % 8) : Nat) : Int) := by simp
          rw [e]
          generalize 2 ^ (k % 8) = p at hpw ⊢
          omega⟩
        clear hor hpw hH hB hy
        by_cases hkl : k = l.length
        · first
          | (exfalso; omega)
          | (skip
             have hq : ((k : Int) == ((l.length : Nat) : Int)) = true := by rw [beq_iff_eq]; omega
             have ht : l'.getD k false = true := by rw [hat]; simp [hkl]
             rw [ht, if_pos rfl] at HU
             clear ht hat hkl
             go_wp2
             refine wp_region_quiet_tail 13 (by kernel_rfl) (by kernel_rfl) ?_
             simp only [List.take_succ_cons, List.take_zero, List.drop_succ_cons, List.drop_zero]
             repeat (go_big_quiet_step (fail))
             refine wpQuiet_nil ?_
             intro _ hw'
             obtain ⟨nq, hw''⟩ := hw'
             subst hw''
             go_wp2
             rw [HE.out]
             exact ⟨⟨k + 1, by omega, by go_num, by rw [HU.out]; exact (HHH.out.drewN nq).set (k / 8) _, below_only (below_drewN HBB.out nq) ⟨rfl, rfl, rfl, by simp [World.setCell], fun j hj => heap_setCell_other (wr.drewN nq) ⟨w.heap.size, k / 8, none⟩ j _ hj⟩ (Nat.le_refl _)⟩, by simp [intOf]; omega⟩)
        · have hq : ((k : Int) == ((l.length : Nat) : Int)) = false := by rw [beq_eq_false_iff_ne]; omega
          have hkl2 : k < l.length := by omega
          obtain ⟨b, off, rfl, hcc⟩ : ∃ b off, ao = some ⟨b, off, none⟩ ∧ ∀ i, i < l.length → w.cell? ⟨b, off + i, none⟩ = some (.bool (l.getD i false)) := by
            rcases hc with hc | hc
            · omega
            · exact hc
          have hcr := (HBB.out.cell (p := ⟨b, off + k, none⟩) (block_lt_of_cell (hcc k hkl2))).trans (hcc k hkl2)
          have ht : l'.getD k false = l.getD k false := by rw [hat]; simp [hkl]
          rw [ht] at HU
          clear hat ht hcc hc hkl
          obtain ⟨t, ht⟩ : ∃ t, l.getD k false = t := ⟨_, rfl⟩
          rw [ht] at hcr HU
          clear ht
          cases t
          · go_wp2
            exact ⟨⟨k + 1, by omega, by go_num, by rw [HU.out]; exact HHH.out, HBB.out⟩, by simp [intOf]; omega⟩
          · rw [if_pos rfl] at HU
            go_wp2
            refine wp_region_quiet_tail 13 (by kernel_rfl) (by kernel_rfl) ?_
            simp only [List.take_succ_cons, List.take_zero, List.drop_succ_cons, List.drop_zero]
            repeat (go_big_quiet_step (fail))
            refine wpQuiet_nil ?_
            intro _ hw'
            obtain ⟨nq, hw''⟩ := hw'
            subst hw''
            go_wp2
            rw [HE.out]
            exact ⟨⟨k + 1, by omega, by go_num, by rw [HU.out]; exact (HHH.out.drewN nq).set (k / 8) _, below_only (below_drewN HBB.out nq) ⟨rfl, rfl, rfl, by simp [World.setCell], fun j hj => heap_setCell_other (wr.drewN nq) ⟨w.heap.size, k / 8, none⟩ j _ hj⟩ (Nat.le_refl _)⟩, by simp [intOf]; omega⟩
      · obtain rfl : k = N := by omega
        clear hNe hH hB
        go_wp2
        go_ret
        refine ⟨_, rfl, ?_, HBB.out⟩
        have hr := HHH.out.row (Nat.le_refl _) (by rw [hlen]; unfold maxLen; have := HM.out; omega)
        rw [hlen] at hr
        rw [HP.out]
        exact hr
end Go.Proofs.YtbmcmabimfoknaaGreatDoor

/- The document's values as trees: how they lie in memory; when two are the same. -/
namespace Go.Proofs.YtbmcmabimfoknaaGreatDoor
set_option maxRecDepth 100000
open Go.RowKit
set_option linter.unusedVariables false
set_option maxRecDepth 100000

/-- A value. -/
inductive Vt where
  | mk (num : Nat) (root : List Nat) (bits : List Bool) (kids : List Vt)
def Vt.num : Vt → Nat | .mk n _ _ _ => n
def Vt.root : Vt → List Nat | .mk _ r _ _ => r
def Vt.bits : Vt → List Bool | .mk _ _ b _ => b
def Vt.kids : Vt → List Vt | .mk _ _ _ k => k
mutual
/-- How deep a value is. -/
def Vt.deep : Vt → Nat | .mk _ _ _ k => deepK k + 1
def deepK : List Vt → Nat | [] => 0 | x :: r => max x.deep (deepK r)
end
theorem deepK_get : ∀ {l : List Vt} {i : Nat} {x : Vt}, l[i]? = some x → x.deep ≤ deepK l
  | y :: r, 0, x, h => by simp at h; subst h; rw [deepK]; exact Nat.le_max_left _ _
  | y :: r, i + 1, x, h => by
    rw [List.getElem?_cons_succ] at h
    rw [deepK]
    exact Nat.le_trans (deepK_get h) (Nat.le_max_right _ _)
/-- The 35 cells of a value. -/
def valL (n : Nat) (r : List Nat) (sb sk : Value) : List Value := .int .u64 (n : Nat) :: (cellsB r ++ [sb, sk])
theorem valL_length (n : Nat) (r : List Nat) (sb sk : Value) (h : r.length = 32) : (valL n r sb sk).length = 35 := by simp [valL, cellsB_length, h]
theorem valL_0 (n : Nat) (r : List Nat) (sb sk : Value) : (valL n r sb sk)[0]? = some (.int .u64 (n : Nat)) := rfl
theorem valL_33 (n : Nat) (r : List Nat) (sb sk : Value) (h : r.length = 32) : (valL n r sb sk)[33]? = some sb := by
  rw [valL, List.getElem?_cons_succ, List.getElem?_append_right (by rw [cellsB_length]; omega), cellsB_length, h]; rfl
theorem valL_34 (n : Nat) (r : List Nat) (sb sk : Value) (h : r.length = 32) : (valL n r sb sk)[34]? = some sk := by
  rw [valL, List.getElem?_cons_succ, List.getElem?_append_right (by rw [cellsB_length]; omega), cellsB_length, h]; rfl
theorem valL_root (n : Nat) (r : List Nat) (sb sk : Value) (j : Nat) (v : Value) (hv : (cellsB r)[j]? = some v) : (valL n r sb sk)[1 + j]? = some v := by
  have hj : j < (cellsB r).length := (List.getElem?_eq_some_iff.1 hv).1
  rw [valL, Nat.add_comm, List.getElem?_cons_succ, List.getElem?_append_left hj]; exact hv

mutual
/-- What hangs on a value's two slices. -/
def VAt (w : World) : Vt → Value → Value → Prop
  | .mk n r bs ks, sb, sk => (n < 18446744073709551616 ∧ r.length = 32 ∧ ∀ z ∈ r, z < 256) ∧ IsT w sb bs ∧ ∃ ao cap, sk = .slice ao ks.length cap ∧ ks.length ≤ cap ∧ cap ≤ maxLen ∧ (ks.length = 0 ∨ ∃ b off, ao = some ⟨b, off, none⟩ ∧ KsAt w ks b off)
/-- Values, one behind the other. -/
def KsAt (w : World) : List Vt → Nat → Nat → Prop
  | [], _, _ => True
  | x :: rest, b, off => (∃ sb sk, w.rangeAt b off (valL x.num x.root sb sk) ∧ VAt w x sb sk) ∧ KsAt w rest b (off + 35)
end
theorem IsT.keep' {w w' : World} {v : Value} {l : List Bool} (h : IsT w v l) (hb : Below w.heap.size w w') : IsT w' v l := h.keep hb
theorem rangeAt_keep {w w' : World} {b o : Nat} {cs : List Value} (h : w.rangeAt b o cs) (hb : Below w.heap.size w w') : w'.rangeAt b o cs := fun j v hv =>
  (hb.cell (p := ⟨b, o + j, none⟩) (block_lt_of_cell (h j v hv))).trans (h j v hv)
mutual
theorem VAt.keep {w w' : World} (hb : Below w.heap.size w w') : ∀ (x : Vt) {sb sk : Value}, VAt w x sb sk → VAt w' x sb sk
  | .mk n r bs ks, sb, sk, h => by
    rw [VAt] at h ⊢
    obtain ⟨h0, h1, ao, cap, h2, h3, h4, h5⟩ := h
    refine ⟨h0, h1.keep hb, ao, cap, h2, h3, h4, ?_⟩
    rcases h5 with h5 | ⟨b, off, h6, h7⟩
    · exact .inl h5
    · exact .inr ⟨b, off, h6, KsAt.keep hb ks h7⟩
theorem KsAt.keep {w w' : World} (hb : Below w.heap.size w w') : ∀ (l : List Vt) {b off : Nat}, KsAt w l b off → KsAt w' l b off
  | [], b, off, _ => by rw [KsAt]; exact trivial
  | x :: rest, b, off, h => by
    rw [KsAt] at h ⊢
    obtain ⟨⟨sb, sk, h1, h2⟩, h3⟩ := h
    exact ⟨⟨sb, sk, rangeAt_keep h1 hb, VAt.keep hb x h2⟩, KsAt.keep hb rest h3⟩
end
theorem KsAt.get {w : World} : ∀ {l : List Vt} {b off i : Nat} {x : Vt}, KsAt w l b off → l[i]? = some x → ∃ sb sk, w.rangeAt b (off + 35 * i) (valL x.num x.root sb sk) ∧ VAt w x sb sk
  | y :: r, b, off, 0, x, h, hx => by
    rw [KsAt] at h
    simp at hx; subst hx
    exact h.1
  | y :: r, b, off, i + 1, x, h, hx => by
    rw [KsAt] at h
    rw [List.getElem?_cons_succ] at hx
    have := KsAt.get h.2 hx
    rwa [show off + 35 + 35 * i = off + 35 * (i + 1) by omega] at this
/-- A value of the program that is this tree. -/
structure IsV (w : World) (v : Value) (x : Vt) : Prop where
  ex : ∃ sb sk, v = .agg (valL x.num x.root sb sk).toArray ∧ VAt w x sb sk
theorem IsV.keep {w w' : World} {v : Value} {x : Vt} (h : IsV w v x) (hb : Below w.heap.size w w') : IsV w' v x := by
  obtain ⟨sb, sk, e, h⟩ := h
  exact ⟨sb, sk, e, VAt.keep hb x h⟩

mutual
def sameV : Vt → Vt → Bool
  | .mk n r b k, .mk n' r' b' k' => n == n' && r == r' && b == b' && sameK k k'
def sameK : List Vt → List Vt → Bool
  | [], [] => true
  | x :: xs, y :: ys => sameV x y && sameK xs ys
  | [], _ :: _ => false
  | _ :: _, [] => false
end
mutual
theorem sameV_iff : ∀ a b : Vt, sameV a b = true ↔ a = b
  | .mk n r b k, .mk n' r' b' k' => by
    rw [sameV]
    simp only [Bool.and_eq_true, beq_iff_eq, sameK_iff k k', Vt.mk.injEq, and_assoc]
theorem sameK_iff : ∀ a b : List Vt, sameK a b = true ↔ a = b
  | [], [] => by simp [sameK]
  | x :: xs, y :: ys => by rw [sameK]; simp only [Bool.and_eq_true, sameV_iff x y, sameK_iff xs ys, List.cons.injEq]
  | [], y :: ys => by simp [sameK]
  | x :: xs, [] => by simp [sameK]
end
theorem sameV_refl (a : Vt) : sameV a a = true := (sameV_iff a a).2 rfl
end Go.Proofs.YtbmcmabimfoknaaGreatDoor

/- Arrays of bytes held against each other. -/
namespace Go.Proofs.YtbmcmabimfoknaaGreatDoor
set_option maxRecDepth 100000
open Go.RowKit
set_option linter.unusedVariables false
set_option maxRecDepth 100000
theorem sizeOf_u8 (w : World) : (sizeOf 5).run Tryz.prog w = .ok 1 w := by
  have h := Tryz.one5
  cases hq : Tryz.prog.info? 5 with
  | none => rw [hq] at h; cases h
  | some i => rw [hq] at h; simp at h; simp [sizeOf, typeInfo, hq, h]
end Go.Proofs.YtbmcmabimfoknaaGreatDoor

/- The document's Same. -/
namespace Go.Proofs.YtbmcmabimfoknaaGreatDoor
set_option maxRecDepth 100000
open Go.RowKit
set_option linter.unusedVariables false
set_option maxRecDepth 100000

theorem eql_cellsB (l m : List Nat) (hl : l.length = 32) (hm : m.length = 32) (bl : ∀ z ∈ l, z < 256) (bm : ∀ z ∈ m, z < 256) (w : World) :
    (Op.equalIn 10000 22 (.agg (cellsB l).toArray) (.agg (cellsB m).toArray)).run Tryz.prog w = .ok (decide (l = m)) w := by
  show (Op.equalIn 10000 22 (.agg (nums .u8 l)) (.agg (nums .u8 m))).run Tryz.prog w = .ok (decide (l = m)) w
  rw [nums_cells l bl, nums_cells m bm, run_equalIn_bytes w 9998 22 5 32 Tryz.underlying22 Tryz.underlying5 sizeOf_u8 _ _ (by simpa using hl) (by simpa using hm), ofNat_inj l m bl bm]
theorem size32 : (Tryz.prog.info? 22).map (·.size) = some 32 := by kernel_rfl
theorem sizeVal : (Tryz.prog.info? 43).map (·.size) = some 35 := by kernel_rfl

section
variable {P : Program} {w : World} {ops : Array Oper} {rest : List Oper} {o : Oper} {a : Act} {Q : Exit → Act → World → Prop}
/-- A copy of an array or a struct that came by value. -/
theorem wpList_box_row (hgd : o.guard = none) (d : Tmp) (hdst : o.dst = some d) (t : TypeId) (x : Operand) (ho : o.op = .box t x) (cs : Array Value) (hx : a.eval x = .agg cs)
    (h : ∀ w', w'.heap[w.heap.size]? = some (.cells cs t (0, 0)) → Below w.heap.size w w' → w'.heap.size = w.heap.size + 1 → wpList P ops Q rest (a.put (some d) (.pointer (some ⟨w.heap.size, 0, none⟩))) w') :
    wpList P ops Q (o :: rest) a w := by
  refine wpList_plain hgd fun K hK => ?_
  have := h (w.alloc (.cells cs t)) (heap_alloc_new w _) ((Below.refl _ _).alloc (Nat.le_refl _) _) (by simp)
  unfold Oper.wp
  simp only [execOp, ho, hx, Instr.box]
  simp [newVar, newRow, newObj, Value.cells, go_sem]
  rw [← hdst] at this
  exact hK _ _ this
end
/-- The cells of a value that was boxed. -/
structure Boxed (w : World) (g : Nat) (n : Nat) (r : List Nat) (sb sk : Value) : Prop where
  all : w.rangeAt g 0 (valL n r sb sk)
  len : r.length = 32
theorem Boxed.c0 {w : World} {g n : Nat} {r : List Nat} {sb sk : Value} (h : Boxed w g n r sb sk) : w.cell? ⟨g, 0, none⟩ = some (.int .u64 (n : Nat)) := by have := h.all 0 _ (valL_0 _ _ _ _); simpa using this
theorem Boxed.c33 {w : World} {g n : Nat} {r : List Nat} {sb sk : Value} (h : Boxed w g n r sb sk) : w.cell? ⟨g, 33, none⟩ = some sb := by have := h.all 33 _ (valL_33 _ _ _ _ h.len); simpa using this
theorem Boxed.c34 {w : World} {g n : Nat} {r : List Nat} {sb sk : Value} (h : Boxed w g n r sb sk) : w.cell? ⟨g, 34, none⟩ = some sk := by have := h.all 34 _ (valL_34 _ _ _ _ h.len); simpa using this
theorem Boxed.root {w : World} {g n : Nat} {r : List Nat} {sb sk : Value} (h : Boxed w g n r sb sk) : w.rangeAt g 1 (cellsB r) := fun j v hv => by
  have := h.all (1 + j) v (valL_root _ _ _ _ _ _ hv)
  simpa using this
theorem Boxed.keep {w w' : World} {g n : Nat} {r : List Nat} {sb sk : Value} (h : Boxed w g n r sb sk) (hb : Below w.heap.size w w') : Boxed w' g n r sb sk := ⟨rangeAt_keep h.all hb, h.len⟩
theorem Boxed.new {w : World} {g n : Nat} {r : List Nat} {sb sk : Value} {t : TypeId} (h : w.heap[g]? = some (.cells (valL n r sb sk).toArray t (0, 0))) (hl : r.length = 32) : Boxed w g n r sb sk := by
  refine ⟨fun j v hv => ?_, hl⟩
  rw [Nat.zero_add, cell_of_row w g j _ t (0, 0) h]
  simpa using hv

theorem sameK_len {a b : List Vt} (h : sameK a b = true) : a.length = b.length := by rw [(sameK_iff a b).1 h]
theorem sameV_false_num {n n' : Nat} {r r' : List Nat} {b b' : List Bool} {k k' : List Vt} (h : n ≠ n') : sameV (.mk n r b k) (.mk n' r' b' k') = false := by
  rw [← Bool.not_eq_true, sameV_iff]; simp [h]
theorem sameV_false {a b : Vt} (h : a ≠ b) : sameV a b = false := by
  rw [← Bool.not_eq_true, sameV_iff]; exact h

end Go.Proofs.YtbmcmabimfoknaaGreatDoor

/- The document's values in memory: made, stored, read, answered. -/
namespace Go.Proofs.YtbmcmabimfoknaaGreatDoor
set_option maxRecDepth 100000
open Go.RowKit
set_option linter.unusedVariables false
set_option maxRecDepth 100000
abbrev nilS : Value := .slice none 0 0
theorem zeroVal : (Tryz.prog.info? 43).map (fun i => (i.zero, i.size)) = some (some (.agg (valL 0 (zeros 32) nilS nilS).toArray), 35) := by kernel_rfl
theorem build_none (w : World) : (Instr.build 43 #[]).run Tryz.prog w = .ok (.agg (valL 0 (zeros 32) nilS nilS).toArray) w := by kernel_rfl
theorem build_bits (ao : Option Addr) (l c : Nat) (w : World) : (Instr.build 43 #[(2, .slice ao l c)]).run Tryz.prog w = .ok (.agg (valL 0 (zeros 32) (.slice ao l c) nilS).toArray) w := by kernel_rfl
theorem build_num (n : Nat) (w : World) : (Instr.build 43 #[(0, .int .u64 (n : Nat))]).run Tryz.prog w = .ok (.agg (valL n (zeros 32) nilS nilS).toArray) w := by kernel_rfl
theorem build_kids (ao : Option Addr) (l c : Nat) (w : World) : (Instr.build 43 #[(3, .slice ao l c)]).run Tryz.prog w = .ok (.agg (valL 0 (zeros 32) nilS (.slice ao l c)).toArray) w := by kernel_rfl

/-- A block that holds a value. -/
def HasV (w : World) (g n : Nat) (r : List Nat) (sb sk : Value) : Prop := w.heap[g]? = some (.cells (valL n r sb sk).toArray 43 (0, 0))
theorem HasV.lt {w : World} {g n : Nat} {r : List Nat} {sb sk : Value} (h : HasV w g n r sb sk) : g < w.heap.size := (Array.getElem?_eq_some_iff.1 h).1
theorem HasV.keep {w w' : World} {g n : Nat} {r : List Nat} {sb sk : Value} (h : HasV w g n r sb sk) (hb : Below w.heap.size w w') : HasV w' g n r sb sk := by
  unfold HasV; rw [hb.block g h.lt]; exact h
theorem HasV.only {w w' : World} {g g' n : Nat} {r : List Nat} {sb sk : Value} (h : HasV w g n r sb sk) (ho : Only g' w w') (hg : g ≠ g') : HasV w' g n r sb sk := by
  unfold HasV; rw [ho.block g hg]; exact h
theorem HasV.boxed {w : World} {g n : Nat} {r : List Nat} {sb sk : Value} (h : HasV w g n r sb sk) (hl : r.length = 32) : Boxed w g n r sb sk := Boxed.new h hl
/-- A slice value (one cell). -/
def isSl : Value → Prop
  | .slice _ _ _ => True
  | _ => False
theorem isSl.ex {v : Value} (h : isSl v) : ∃ ao l c, v = .slice ao l c := by cases v <;> simp_all [isSl]
theorem valL_oneC (n : Nat) (r : List Nat) (sb sk : Value) (h1 : isSl sb) (h2 : isSl sk) : (valL n r sb sk).toArray.all (·.oneCell') = true := by
  obtain ⟨_, _, _, rfl⟩ := h1.ex
  obtain ⟨_, _, _, rfl⟩ := h2.ex
  simp [valL, cellsB, Value.oneCell']
theorem zeros32 : (zeros 32).length = 32 := zeros_length 32

/-- Said ahead of a law in a walk's brackets ('with_reducible refine at_list ?_'): the goal is a list of operations. -/
theorem at_list {P : Program} {w : World} {ops : Array Oper} {rest : List Oper} {o : Oper} {a : Act} {Q : Exit → Act → World → Prop} (h : wpList P ops Q (o :: rest) a w) : wpList P ops Q (o :: rest) a w := h
section
variable {w : World} {ops : Array Oper} {rest : List Oper} {o : Oper} {a : Act} {Q : Exit → Act → World → Prop}
theorem wpList_build {P : Program} (hgd : o.guard = none) (t : TypeId) (ps : Array (Nat × Operand)) (ho : o.op = .build t ps) (qs : Array (Nat × Value)) (hq : (ps.map fun p => (p.1, a.eval p.2)) = qs) (v : Value) (hb : ∀ w, (Instr.build t qs).run P w = .ok v w)
    (h : wpList P ops Q rest (a.put o.dst v) w) : wpList P ops Q (o :: rest) a w := by
  refine wpList_plain hgd fun K hK => ?_
  have hrun : (execOp a.eval o).run P w = .ok (.value v) w := by
    unfold execOp
    simp only [ho]
    have := hb w
    rw [← hq] at this
    simp [this]
  unfold Oper.wp
  rw [hrun]
  exact hK _ _ h
theorem wpList_alloc_val (hgd : o.guard = none) (d : Tmp) (hdst : o.dst = some d) (ho : o.op = .alloc 43)
    (h : ∀ w', HasV w' w.heap.size 0 (zeros 32) nilS nilS → Below w.heap.size w w' → w'.heap.size = w.heap.size + 1 → wpList Tryz.prog ops Q rest (a.put (some d) (.pointer (some ⟨w.heap.size, 0, none⟩))) w') : wpList Tryz.prog ops Q (o :: rest) a w := by
  refine wpList_plain hgd fun K hK => ?_
  have hzv : ∀ w, (zeroValue 43).run Tryz.prog w = .ok (.agg (valL 0 (zeros 32) nilS nilS).toArray) w := by
    intro w
    have hz := zeroVal
    cases hq : Tryz.prog.info? 43 with
    | none => rw [hq] at hz; cases hz
    | some i => rw [hq] at hz; simp only [Option.map_some, Option.some.injEq, Prod.mk.injEq] at hz; simp [zeroValue, typeInfo, hq, hz.1]
  have := h (w.alloc (.cells (valL 0 (zeros 32) nilS nilS).toArray 43)) (heap_alloc_new w _) ((Below.refl _ _).alloc (Nat.le_refl _) _) (by simp)
  unfold Oper.wp
  simp only [execOp, ho, Instr.alloc]
  simp [hzv, newVar, newRow, newObj, Value.cells, go_sem]
  rw [← hdst] at this
  exact hK _ _ this
theorem wpList_store_val (hgd : o.guard = none) (x y : Operand) (ho : o.op = .store 43 x y) (g n : Nat) (r : List Nat) (sb sk : Value) (hx : a.eval x = .pointer (some ⟨g, 0, none⟩)) (hy : a.eval y = .agg (valL n r sb sk).toArray) (hl : r.length = 32) (h1 : isSl sb) (h2 : isSl sk)
    (n0 : Nat) (r0 : List Nat) (sb0 sk0 : Value) (hg : HasV w g n0 r0 sb0 sk0) (hl0 : r0.length = 32)
    (h : ∀ w', HasV w' g n r sb sk → Only g w w' → wpList Tryz.prog ops Q rest (a.put o.dst undef) w') : wpList Tryz.prog ops Q (o :: rest) a w := by
  refine wpList_store_row hgd _ x y ho g (valL n r sb sk).toArray hx hy _ _ hg (by rw [sizeVal]; simp [valL_length _ _ _ _ hl]) (by simp [valL_length _ _ _ _ hl, valL_length _ _ _ _ hl0]) (valL_oneC _ _ _ _ h1 h2) ?_
  exact h _ (setRow_heap w g _ _ _ _ hg) (Only.setRow w g _)
theorem wpList_load_val (hgd : o.guard = none) (x : Operand) (ho : o.op = .load 43 x) (g n : Nat) (r : List Nat) (sb sk : Value) (hx : a.eval x = .pointer (some ⟨g, 0, none⟩)) (hl : r.length = 32) (hg : HasV w g n r sb sk)
    (h : wpList Tryz.prog ops Q rest (a.put o.dst (.agg (valL n r sb sk).toArray)) w) : wpList Tryz.prog ops Q (o :: rest) a w :=
  wpList_load_row hgd _ x ho g hx _ _ _ _ hg Tryz.underlying43 rfl (by rw [sizeVal]; simp [valL_length _ _ _ _ hl]) h
end
theorem results_val {fn : Func} {p s : Tmp} (h : fn.results = #[.cell p 43, .tmp s]) (tmps : Array Value) (w : World) (g n : Nat) (r : List Nat) (sb sk : Value) (v : Value)
    (hp : tmps.getD p undef = .pointer (some ⟨g, 0, none⟩)) (hs : tmps.getD s undef = v) (hg : HasV w g n r sb sk) (hl : r.length = 32) :
    (results fn tmps).run Tryz.prog w = .ok (.tuple #[.agg (valL n r sb sk).toArray, v]) w := by
  have hp' : tmps[p]?.getD undef = .pointer (some ⟨g, 0, none⟩) := by simpa using hp
  have hs' : tmps[s]?.getD undef = v := by simpa using hs
  simp [results, h, hp', hs', asAddr, run_loadVar_row w g _ _ (valL n r sb sk).toArray (0, 0) _ hg Tryz.underlying43 rfl (by rw [sizeVal]; simp [valL_length _ _ _ _ hl])]
/-- A value of bits alone. -/
def bitsV (l : List Bool) : Vt := .mk 0 (zeros 32) l []
def zeroV : Vt := bitsV []
theorem isT_nil (w : World) : IsT w nilS [] := ⟨none, 0, rfl, Nat.le_refl _, by decide, .inl rfl⟩
theorem IsT.sl {w : World} {v : Value} {l : List Bool} (h : IsT w v l) : isSl v := by obtain ⟨ao, cap, rfl, _⟩ := h; exact trivial
theorem vAt_bits {w : World} {v : Value} {l : List Bool} (h : IsT w v l) : VAt w (bitsV l) v nilS := by
  unfold bitsV
  rw [VAt]
  exact ⟨⟨by decide, zeros32, zeros_byte 32⟩, h, none, 0, rfl, Nat.le_refl _, by decide, .inl rfl⟩
theorem isV_bits {w : World} {v : Value} {l : List Bool} (h : IsT w v l) : IsV w (.agg (valL 0 (zeros 32) v nilS).toArray) (bitsV l) := ⟨v, nilS, rfl, vAt_bits h⟩
theorem isV_zero (w : World) : IsV w (.agg (valL 0 (zeros 32) nilS nilS).toArray) zeroV := isV_bits (isT_nil w)
end Go.Proofs.YtbmcmabimfoknaaGreatDoor

/- Structs in memory, whatever their cells: made, stored, read, answered. -/
namespace Go.Proofs.YtbmcmabimfoknaaGreatDoor
set_option maxRecDepth 100000
open Go.RowKit
set_option linter.unusedVariables false
set_option maxRecDepth 100000

/-- A block that holds just these cells. -/
def HasC (w : World) (g : Nat) (t : TypeId) (cs : List Value) : Prop := w.heap[g]? = some (.cells cs.toArray t (0, 0))
theorem HasC.lt {w : World} {g : Nat} {t : TypeId} {cs : List Value} (h : HasC w g t cs) : g < w.heap.size := (Array.getElem?_eq_some_iff.1 h).1
theorem HasC.keep {w w' : World} {g : Nat} {t : TypeId} {cs : List Value} (h : HasC w g t cs) (hb : Below w.heap.size w w') : HasC w' g t cs := by
  unfold HasC; rw [hb.block g h.lt]; exact h
theorem HasC.only {w w' : World} {g g' : Nat} {t : TypeId} {cs : List Value} (h : HasC w g t cs) (ho : Only g' w w') (hg : g ≠ g') : HasC w' g t cs := by
  unfold HasC; rw [ho.block g hg]; exact h
theorem HasC.grown {w w' : World} {g g' : Nat} {t : TypeId} {cs : List Value} (h : HasC w g t cs) (hG : w.grownBy w' (some g')) (hg : g ≠ g') : HasC w' g t cs := by
  unfold HasC; rw [hG.block g h.lt (fun e => hg (Option.some.inj e))]; exact h
theorem HasC.cell {w : World} {g : Nat} {t : TypeId} {cs : List Value} (h : HasC w g t cs) {j : Nat} {v : Value} (hv : cs[j]? = some v) : w.cell? ⟨g, j, none⟩ = some v := by
  rw [cell_of_row w g j _ t (0, 0) h]; simpa using hv
theorem HasC.range {w : World} {g : Nat} {t : TypeId} {cs : List Value} (h : HasC w g t cs) (o : Nat) (ds : List Value) (hd : ∀ (j : Nat) v, ds[j]? = some v → cs[o + j]? = some v) : w.rangeAt g o ds := fun j v hv => h.cell (hd j v hv)
/-- What is known of a type of structs: its zero, its size. -/
structure Ty (P : Program) (t : TypeId) (zs : List Value) : Prop where
  zero : (P.info? t).map (fun i => (i.zero, i.size)) = some (some (.agg zs.toArray), zs.length)
  row : ∃ d, P.underlying t = some d ∧ d.isRow = true
theorem Ty.size {P : Program} {t : TypeId} {zs : List Value} (h : Ty P t zs) : (P.info? t).map (·.size) = some zs.length := by
  have := h.zero
  cases hq : P.info? t with
  | none => rw [hq] at this; cases this
  | some i => rw [hq] at this; simp only [Option.map_some, Option.some.injEq, Prod.mk.injEq] at this; simp [this.2]
section
variable {P : Program} {w : World} {ops : Array Oper} {rest : List Oper} {o : Oper} {a : Act} {Q : Exit → Act → World → Prop} {t : TypeId} {zs : List Value}
theorem wpList_box_c (hgd : o.guard = none) (d : Tmp) (hdst : o.dst = some d) (x : Operand) (ho : o.op = .box t x) (cs : List Value) (hx : a.eval x = .agg cs.toArray)
    (h : ∀ w', HasC w' w.heap.size t cs → Below w.heap.size w w' → w'.heap.size = w.heap.size + 1 → wpList P ops Q rest (a.put (some d) (.pointer (some ⟨w.heap.size, 0, none⟩))) w') :
    wpList P ops Q (o :: rest) a w := by
  refine wpList_plain hgd fun K hK => ?_
  have := h (w.alloc (.cells cs.toArray t)) (heap_alloc_new w _) ((Below.refl _ _).alloc (Nat.le_refl _) _) (by simp)
  unfold Oper.wp
  simp only [execOp, ho, hx, Instr.box]
  simp [newVar, newRow, newObj, Value.cells, go_sem]
  rw [← hdst] at this
  exact hK _ _ this
theorem wpList_alloc_c (hT : Ty P t zs) (hgd : o.guard = none) (d : Tmp) (hdst : o.dst = some d) (ho : o.op = .alloc t)
    (h : ∀ w', HasC w' w.heap.size t zs → Below w.heap.size w w' → w'.heap.size = w.heap.size + 1 → wpList P ops Q rest (a.put (some d) (.pointer (some ⟨w.heap.size, 0, none⟩))) w') : wpList P ops Q (o :: rest) a w := by
  refine wpList_plain hgd fun K hK => ?_
  have hzv : ∀ w, (zeroValue t).run P w = .ok (.agg zs.toArray) w := by
    intro w
    have hz := hT.zero
    cases hq : P.info? t with
    | none => rw [hq] at hz; cases hz
    | some i => rw [hq] at hz; simp only [Option.map_some, Option.some.injEq, Prod.mk.injEq] at hz; simp [zeroValue, typeInfo, hq, hz.1]
  have := h (w.alloc (.cells zs.toArray t)) (heap_alloc_new w _) ((Below.refl _ _).alloc (Nat.le_refl _) _) (by simp)
  unfold Oper.wp
  simp only [execOp, ho, Instr.alloc]
  simp [hzv, newVar, newRow, newObj, Value.cells, go_sem]
  rw [← hdst] at this
  exact hK _ _ this
theorem wpList_store_c (hT : Ty P t zs) (hgd : o.guard = none) (x y : Operand) (ho : o.op = .store t x y) (g : Nat) (cs : List Value) (hx : a.eval x = .pointer (some ⟨g, 0, none⟩)) (hy : a.eval y = .agg cs.toArray) (hl : cs.length = zs.length) (h1 : cs.toArray.all (·.oneCell') = true)
    (old : List Value) (hg : HasC w g t old) (hl0 : old.length = zs.length)
    (h : ∀ w', HasC w' g t cs → Only g w w' → wpList P ops Q rest (a.put o.dst undef) w') : wpList P ops Q (o :: rest) a w := by
  refine wpList_store_row hgd _ x y ho g cs.toArray hx hy _ _ hg (by rw [hT.size]; simp [hl]) (by simp [hl, hl0]) h1 ?_
  exact h _ (setRow_heap w g _ _ _ _ hg) (Only.setRow w g _)
theorem wpList_load_c (hT : Ty P t zs) (hgd : o.guard = none) (x : Operand) (ho : o.op = .load t x) (g : Nat) (cs : List Value) (hx : a.eval x = .pointer (some ⟨g, 0, none⟩)) (hl : cs.length = zs.length) (hg : HasC w g t cs)
    (h : wpList P ops Q rest (a.put o.dst (.agg cs.toArray)) w) : wpList P ops Q (o :: rest) a w := by
  obtain ⟨d, hu, hd⟩ := hT.row
  exact wpList_load_mid hgd t x ho g 0 hx cs d (hg.range 0 cs (fun j v hv => by rw [Nat.zero_add]; exact hv)) hu hd (by rw [hT.size, hl]) h
/-- A part of a struct read: an array, a struct. -/
theorem wpList_mid_c (hT : Ty P t zs) (hgd : o.guard = none) (x : Operand) (ho : o.op = .load t x) (g off : Nat) (t0 : TypeId) (cs ds : List Value) (hx : a.eval x = .pointer (some ⟨g, off, none⟩)) (hl : ds.length = zs.length) (hg : HasC w g t0 cs) (hd : ∀ (j : Nat) v, ds[j]? = some v → cs[off + j]? = some v)
    (h : wpList P ops Q rest (a.put o.dst (.agg ds.toArray)) w) : wpList P ops Q (o :: rest) a w := by
  obtain ⟨d, hu, hdr⟩ := hT.row
  exact wpList_load_mid hgd t x ho g off hx ds d (hg.range off ds hd) hu hdr (by rw [hT.size, hl]) h
theorem results_c (hT : Ty P t zs) {fn : Func} {p s : Tmp} (hf : fn.results = #[.cell p t, .tmp s]) (tmps : Array Value) (w : World) (g : Nat) (cs : List Value) (v : Value)
    (hp : tmps.getD p undef = .pointer (some ⟨g, 0, none⟩)) (hs : tmps.getD s undef = v) (hg : HasC w g t cs) (hl : cs.length = zs.length) :
    (results fn tmps).run P w = .ok (.tuple #[.agg cs.toArray, v]) w := by
  obtain ⟨d, hu, hd⟩ := hT.row
  have hp' : tmps[p]?.getD undef = .pointer (some ⟨g, 0, none⟩) := by simpa using hp
  have hs' : tmps[s]?.getD undef = v := by simpa using hs
  have hr := run_loadVar_mid w g 0 t cs d (hg.range 0 cs (fun j v hv => by rw [Nat.zero_add]; exact hv)) hu hd (by rw [hT.size, hl])
  simp [results, hf, hp', hs', asAddr, hr]
theorem results_c1 (hT : Ty P t zs) {fn : Func} {p : Tmp} (hf : fn.results = #[.cell p t]) (tmps : Array Value) (w : World) (g : Nat) (cs : List Value)
    (hp : tmps.getD p undef = .pointer (some ⟨g, 0, none⟩)) (hg : HasC w g t cs) (hl : cs.length = zs.length) :
    (results fn tmps).run P w = .ok (.agg cs.toArray) w := by
  obtain ⟨d, hu, hd⟩ := hT.row
  have hp' : tmps[p]?.getD undef = .pointer (some ⟨g, 0, none⟩) := by simpa using hp
  have hr := run_loadVar_mid w g 0 t cs d (hg.range 0 cs (fun j v hv => by rw [Nat.zero_add]; exact hv)) hu hd (by rw [hT.size, hl])
  simp [results, hf, hp', asAddr, hr]
theorem wpList_build_c (hgd : o.guard = none) (ps : Array (Nat × Operand)) (ho : o.op = .build t ps) (qs : Array (Nat × Value)) (hq : (ps.map fun p => (p.1, a.eval p.2)) = qs) (v : Value) (hb : (Instr.build t qs).run P w = .ok v w)
    (h : wpList P ops Q rest (a.put o.dst v) w) : wpList P ops Q (o :: rest) a w :=
  wpList_plain hgd fun K hK => wp_run (run_buildOp t ps ho qs hq v hb) (hK _ _ h)
end
end Go.Proofs.YtbmcmabimfoknaaGreatDoor

/- The document's kinds (Desc) as trees: how they lie in memory; their sizes. -/
namespace Go.Proofs.YtbmcmabimfoknaaGreatDoor
set_option maxRecDepth 100000
open Go.RowKit
set_option linter.unusedVariables false
set_option maxRecDepth 100000

/-- A kind. -/
inductive Dt where
  | mk (form n : Nat) (of : List Dt)
def Dt.form : Dt → Nat | .mk f _ _ => f
def Dt.n : Dt → Nat | .mk _ n _ => n
def Dt.of : Dt → List Dt | .mk _ _ l => l
mutual
def Dt.deep : Dt → Nat | .mk _ _ l => deepD l + 1
def deepD : List Dt → Nat | [] => 0 | x :: r => max x.deep (deepD r)
end
theorem deepD_get : ∀ {l : List Dt} {i : Nat} {x : Dt}, l[i]? = some x → x.deep ≤ deepD l
  | y :: r, 0, x, h => by simp at h; subst h; rw [deepD]; exact Nat.le_max_left _ _
  | y :: r, i + 1, x, h => by
    rw [List.getElem?_cons_succ] at h
    rw [deepD]
    exact Nat.le_trans (deepD_get h) (Nat.le_max_right _ _)
mutual
/-- A kind lies at a block. -/
def DAt (w : World) : Dt → Nat → Prop
  | .mk f n ds, p => w.cell? ⟨p, 0, none⟩ = some (.int .i64 (f : Nat)) ∧ w.cell? ⟨p, 1, none⟩ = some (.int .i64 (n : Nat)) ∧ ∃ ao cap, w.cell? ⟨p, 2, none⟩ = some (.slice ao ds.length cap) ∧ ds.length ≤ cap ∧ cap ≤ maxLen ∧ (ds.length = 0 ∨ ∃ b off, ao = some ⟨b, off, none⟩ ∧ DsAt w ds b off)
def DsAt (w : World) : List Dt → Nat → Nat → Prop
  | [], _, _ => True
  | x :: rest, b, off => (∃ p, w.cell? ⟨b, off, none⟩ = some (.pointer (some ⟨p, 0, none⟩)) ∧ DAt w x p) ∧ DsAt w rest b (off + 1)
end
theorem cell_keep {w w' : World} (hb : Below w.heap.size w w') {p : Addr} {v : Value} (h : w.cell? p = some v) : w'.cell? p = some v := (hb.cell (p := p) (block_lt_of_cell h)).trans h
mutual
theorem DAt.keep {w w' : World} (hb : Below w.heap.size w w') : ∀ (x : Dt) {p : Nat}, DAt w x p → DAt w' x p
  | .mk f n ds, p, h => by
    rw [DAt] at h ⊢
    obtain ⟨h0, h1, ao, cap, h2, h3, h4, h5⟩ := h
    refine ⟨cell_keep hb h0, cell_keep hb h1, ao, cap, cell_keep hb h2, h3, h4, ?_⟩
    rcases h5 with h5 | ⟨b, off, h6, h7⟩
    · exact .inl h5
    · exact .inr ⟨b, off, h6, DsAt.keep hb ds h7⟩
theorem DsAt.keep {w w' : World} (hb : Below w.heap.size w w') : ∀ (l : List Dt) {b off : Nat}, DsAt w l b off → DsAt w' l b off
  | [], b, off, _ => by rw [DsAt]; exact trivial
  | x :: rest, b, off, h => by
    rw [DsAt] at h ⊢
    obtain ⟨⟨p, h1, h2⟩, h3⟩ := h
    exact ⟨⟨p, cell_keep hb h1, DAt.keep hb x h2⟩, DsAt.keep hb rest h3⟩
end
theorem DAt.drewN {w : World} {x : Dt} {p : Nat} (h : DAt w x p) (m : Nat) : DAt (w.drewN m) x p := DAt.keep (w := w) (w' := w.drewN m) ⟨rfl, rfl, rfl, Nat.le_refl _, fun _ _ => rfl⟩ x h
theorem DsAt.get {w : World} : ∀ {l : List Dt} {b off i : Nat} {x : Dt}, DsAt w l b off → l[i]? = some x → ∃ p, w.cell? ⟨b, off + i, none⟩ = some (.pointer (some ⟨p, 0, none⟩)) ∧ DAt w x p
  | y :: r, b, off, 0, x, h, hx => by
    rw [DsAt] at h
    simp at hx; subst hx
    exact h.1
  | y :: r, b, off, i + 1, x, h, hx => by
    rw [DsAt] at h
    rw [List.getElem?_cons_succ] at hx
    have := DsAt.get h.2 hx
    rwa [show off + 1 + i = off + (i + 1) by omega] at this
mutual
/-- The size of all values of a kind; below 0: they have several. -/
def sizeD : Dt → Int
  | .mk f n ds => if f = 1 then 8 else if f = 2 then 1 else if f = 3 then 32 else if f = 6 then ((n + 7) / 8 : Nat) else if f = 4 then n * sizeH ds else if f = 8 then sizeS ds else -1
def sizeH : List Dt → Int
  | [] => 0
  | d :: _ => sizeD d
/-- A container's: the sum, or -1. -/
def sizeS : List Dt → Int
  | [] => 0
  | d :: r => if sizeD d < 0 then -1 else if sizeS r < 0 then -1 else sizeD d + sizeS r
end
/-- The sizes of the first ones are no less than 0. -/
def sumD (ds : List Dt) : Int := (ds.map sizeD).sum
theorem sizeS_neg : ∀ {ds : List Dt} {i : Nat} {x : Dt}, ds[i]? = some x → sizeD x < 0 → sizeS ds = -1
  | y :: r, 0, x, h, hx => by simp at h; subst h; rw [sizeS, if_pos hx]
  | y :: r, i + 1, x, h, hx => by
    rw [List.getElem?_cons_succ] at h
    rw [sizeS, sizeS_neg h hx]
    split
    · rfl
    · simp
theorem sizeS_sum : ∀ {ds : List Dt}, (∀ d ∈ ds, 0 ≤ sizeD d) → sizeS ds = sumD ds ∧ 0 ≤ sumD ds
  | [], _ => by simp [sizeS, sumD]
  | d :: r, h => by
    have h1 := h d (by simp)
    obtain ⟨h2, h3⟩ := sizeS_sum (ds := r) (fun x hx => h x (by simp [hx]))
    have e : sumD (d :: r) = sizeD d + sumD r := by simp [sumD]
    rw [sizeS, if_neg (by omega), h2, if_neg (by omega), e]
    exact ⟨rfl, by omega⟩
theorem sumD_succ (ds : List Dt) (k : Nat) (x : Dt) (h : ds[k]? = some x) : sumD (ds.take (k + 1)) = sumD (ds.take k) + sizeD x := by
  have hi := (List.getElem?_eq_some_iff.1 h).1
  rw [List.getElem?_eq_getElem hi] at h
  cases h
  have e : ∀ (a : List Dt) (b : Dt), sumD (a ++ [b]) = sumD a + sizeD b := fun a b => by simp [sumD]
  rw [List.take_succ_eq_append_getElem hi, e]
/-- Small: no sum and product of sizes wraps. -/
def small (x : Int) : Prop := -1099511627776 ≤ x ∧ x ≤ 1099511627776
mutual
def okD : Dt → Prop
  | .mk f n ds => f ≤ 8 ∧ n ≤ 1048576 ∧ small (sizeD (.mk f n ds)) ∧ ds.length ≤ 1048576 ∧ (f = 4 → 0 < ds.length) ∧ okDs ds
def okDs : List Dt → Prop
  | [] => True
  | d :: r => okD d ∧ okDs r
end
theorem okDs_get : ∀ {l : List Dt} {i : Nat} {x : Dt}, okDs l → l[i]? = some x → okD x
  | y :: r, 0, x, h, hx => by rw [okDs] at h; simp at hx; subst hx; exact h.1
  | y :: r, i + 1, x, h, hx => by rw [okDs] at h; rw [List.getElem?_cons_succ] at hx; exact okDs_get h.2 hx
theorem okD.small {d : Dt} (h : okD d) : small (sizeD d) := by cases d; rw [okD] at h; exact h.2.2.1
theorem quiet_drew {P : Program} {f : FuncId} {args : Array Value} {w : World} {n : Nat} {v : Value}
    (h : Calls P f args (w.drewN n) fun e w' => e = .returned v ∧ ∃ m, w' = (w.drewN n).drewN m) : Calls P f args (w.drewN n) fun e w'' => e = .returned v ∧ ∃ m, w'' = w.drewN m :=
  h.mono fun _ _ ⟨he, m, hm⟩ => ⟨he, n + m, by rw [hm, World.drewN_drewN]⟩
theorem sumD_bound {ds : List Dt} (h : okDs ds) : ∀ k : Nat, -(1099511627776 * (k : Int)) ≤ sumD (ds.take k) ∧ sumD (ds.take k) ≤ 1099511627776 * (k : Int)
  | 0 => by simp [sumD]
  | k + 1 => by
    have ih := sumD_bound h k
    by_cases hk : k < ds.length
    · have hx := List.getElem?_eq_getElem hk
      have hs := (okDs_get h hx).small
      unfold Go.Proofs.YtbmcmabimfoknaaGreatDoor.small at hs
      rw [sumD_succ ds k _ hx]
      omega
    · rw [List.take_of_length_le (by omega)] at ih ⊢
      omega
theorem all_nonneg {ds : List Dt} {k : Nat} (h : ∀ i x, i < k → ds[i]? = some x → 0 ≤ sizeD x) (hk : ds.length ≤ k) : ∀ d ∈ ds, 0 ≤ sizeD d := fun d hd => by
  obtain ⟨i, hi, rfl⟩ := List.mem_iff_getElem.1 hd
  exact h i _ (by omega) (List.getElem?_eq_getElem hi)

end Go.Proofs.YtbmcmabimfoknaaGreatDoor

/- The Writer's Root, of any count of roots. -/
namespace Go.Proofs.YtbmcmabimfoknaaGreatDoor
set_option maxRecDepth 100000
open Go.RowKit Go.Shelf
set_option linter.unusedVariables false
set_option maxRecDepth 100000

theorem over_over (l r s : List Nat) (a : Nat) (h : a + r.length ≤ l.length) : over (over l a r) (a + r.length) s = over l a (r ++ s) := by
  unfold over
  have e1 : (l.take a ++ r).length = a + r.length := by simp; omega
  have t : (l.take a ++ (r ++ l.drop (a + r.length))).take (a + r.length) = l.take a ++ r := by rw [← List.append_assoc]; exact List.take_left' e1
  have d : (l.take a ++ (r ++ l.drop (a + r.length))).drop (a + r.length + s.length) = l.drop (a + (r ++ s).length) := by
    rw [← List.append_assoc, ← List.drop_drop, List.drop_left' e1, List.drop_drop, List.length_append, Nat.add_assoc]
  first | rw [t, d] | skip
  simp
theorem over_whole (l r : List Nat) (h : l.length = r.length) : over l 0 r = r := by
  unfold over
  rw [List.take_zero, Nat.zero_add, List.drop_of_length_le (by omega)]
  simp
theorem flatten_roots : ∀ rs : List (List Nat), (∀ r ∈ rs, r.length = 32) → rs.flatten.length = rs.length * 32 := by
  intro rs
  induction rs with
  | nil => intro _; rfl
  | cons r rs ih => intro h; rw [List.flatten_cons, List.length_append, ih (fun q hq => h q (List.mem_cons_of_mem _ hq)), h r (List.mem_cons_self ..), List.length_cons]; omega
theorem flatten_root_get : ∀ (rs : List (List Nat)), (∀ r ∈ rs, r.length = 32) → ∀ (k j : Nat), k < rs.length → j < 32 → rs.flatten[k * 32 + j]? = (rs.getD k [])[j]? := by
  intro rs
  induction rs with
  | nil => intro _ k j hk; simp at hk
  | cons r rs ih =>
    intro h k j hk hj
    have h32 := h r (List.mem_cons_self ..)
    rw [List.flatten_cons]
    cases k with
    | zero => rw [List.getElem?_append_left (by omega), Nat.zero_mul, Nat.zero_add]; rfl
    | succ k =>
      rw [List.getElem?_append_right (by omega), h32, show (k + 1) * 32 + j - 32 = k * 32 + j by omega, ih (fun q hq => h q (List.mem_cons_of_mem _ hq)) k j (by simpa using hk) hj]
      rfl
/-- Roots filled into a row, one by one. -/
theorem fill_roots (n : Nat) : ∀ (rs : List (List Nat)) (k : Nat) (l : List Nat), l.length = n * 32 → k + rs.length ≤ n → (∀ r ∈ rs, r.length = 32) →
    Instr.fill (fun i => some (i * 32, 32)) (nums .u8 l) ((rs.zipIdx k).map fun p => (p.2, Value.agg (nums .u8 p.1))) = some (nums .u8 (over l (k * 32) rs.flatten)) := by
  intro rs
  induction rs with
  | nil =>
    intro k l hl hk hr
    simp only [List.zipIdx_nil, List.map_nil, Instr.fill, List.flatten_nil]
    congr 2
    unfold over
    simp
  | cons r rs ih =>
    intro k l hl hk hr
    simp only [List.length_cons] at hk
    have h32 := hr r (List.mem_cons_self ..)
    have hc : (Value.agg (nums .u8 r)).cells = nums .u8 r := rfl
    have ho : (over l (k * 32) r).length = n * 32 := by rw [over_length _ _ _ (by omega), hl]
    simp only [List.zipIdx_cons, List.map_cons, Instr.fill, hc, nums_size, h32]
    rw [if_neg (by rw [hl]; simp; omega)]
    have h3 : (nums .u8 r).zipIdx.foldl (fun (cs : Array Value) (x : Value × Nat) => cs.setIfInBounds (k * 32 + x.2) x.1) (nums .u8 l) = nums .u8 (over l (k * 32) r) := by
      rw [← setV_nums .u8 l r (k * 32) (by omega), ← Array.foldl_toList, Array.toList_zipIdx]
      generalize (nums .u8 r).toList = vs
      generalize nums .u8 l = c
      have : ∀ (vs : List Value) (q : Nat) (c : Array Value), (vs.zipIdx q).foldl (fun (cs : Array Value) (x : Value × Nat) => cs.setIfInBounds (k * 32 + x.2) x.1) c = setV c (k * 32 + q) vs := by
        intro vs
        induction vs with
        | nil => intro q c; rfl
        | cons v vs ih2 =>
          intro q c
          rw [List.zipIdx_cons, List.foldl_cons, ih2, setV, Nat.add_assoc]
      have h := this vs 0 c
      rw [Nat.add_zero] at h
      exact h
    refine Eq.trans (congrArg (fun c => Instr.fill _ c _) h3) ?_
    rw [ih (k + 1) _ ho (by omega) (fun q hq => hr q (List.mem_cons_of_mem _ hq))]
    congr 2
    rw [List.flatten_cons, show (k + 1) * 32 = k * 32 + r.length by omega, over_over _ _ _ _ (by omega)]
/-- A slice of roots, made. -/
theorem wpList_roots {P : Program} {w : World} {ops : Array Oper} {rest : List Oper} {o : Oper} {a : Act} {Q : Exit → Act → World → Prop} (hgd : o.guard = none) (t e : TypeId) (n : Nat) (ps : Array (Nat × Operand)) (ho : o.op = .buildSlice t n ps) (hu : P.underlying t = some (.slice e))
    (hi : (P.info? e).map (fun i => (i.zero, i.size, i.bytes)) = some (some (.agg (nums .u8 (zeros 32))), 32, 32)) (rs : List (List Nat)) (xs : List Operand) (hps : ps.toList = (xs.zipIdx 0).map fun p => (p.2, p.1)) (hx0 : xs.map a.eval = rs.map fun r => Value.agg (nums .u8 r)) (hr : ∀ r ∈ rs, r.length = 32) (hn : rs.length = n) (hn0 : 0 < n) (hn1 : n ≤ 1000)
    (h : ∀ w', Has w' w.heap.size e .u8 rs.flatten → Below w.heap.size w w' → w'.heap.size = w.heap.size + 1 → wpList P ops Q rest (a.put o.dst (.slice (some ⟨w.heap.size, 0, none⟩) n n)) w') : wpList P ops Q (o :: rest) a w := by
  have hx : (ps.map fun (i, x) => (i, a.eval x)).toList = (rs.zipIdx 0).map fun p => (p.2, Value.agg (nums .u8 p.1)) := by
    have e1 : ((xs.map a.eval).zipIdx 0).map (fun p => (p.2, p.1)) = ((rs.map fun r => Value.agg (nums .u8 r)).zipIdx 0).map (fun p => (p.2, p.1)) := by rw [hx0]
    rw [List.zipIdx_map, List.zipIdx_map, List.map_map, List.map_map] at e1
    rw [Array.toList_map, hps, List.map_map]
    exact e1
  obtain ⟨i0, hi0, hz0, hz1, hz2⟩ : ∃ i, P.info? e = some i ∧ i.zero = some (.agg (nums .u8 (zeros 32))) ∧ i.size = 32 ∧ i.bytes = 32 := by
    cases hq : P.info? e with
    | none => simp [hq] at hi
    | some i => simp [hq] at hi; exact ⟨i, rfl, hi.1, hi.2.1, hi.2.2⟩
  refine wpList_buildSlice hgd t e n _ ho (nums .u8 rs.flatten) i0 (.agg (nums .u8 (zeros 32))) hu hi0 hz0 (by rw [hz1]; omega) (by rw [hz1]; omega) ?_ (h _ (heap_alloc_new w _) ((Below.refl _ _).alloc (Nat.le_refl _) _) (by simp))
  rw [hz1]
  have e1 : ((Array.range (n * 32)).map ((Value.agg (nums .u8 (zeros 32))).cells[· % (Value.agg (nums .u8 (zeros 32))).cells.size]!)) = nums .u8 (zeros (n * 32)) := by
    apply Array.toList_inj.1
    have := madeZ n
    unfold madeCells at this
    rw [this, Nat.mul_comm]
    simp [nums]
  rw [e1, hx, fill_roots n rs 0 (zeros (n * 32)) (zeros_length _) (by omega) hr, Nat.zero_mul, over_whole _ _ (by rw [zeros_length, flatten_roots rs hr, hn])]

/-- What roots put. -/
def rootF (rs : List (List Nat)) : List (List Nat × Bool) := rs.map fun r => (r, false)
/-- Roots that lie one behind another from a cell on. -/
def RsAt (w : World) (b off : Nat) (rs : List (List Nat)) : Prop := b < w.heap.size ∧ ∀ k, k < rs.length → w.rangeAt b (off + k * 32) (cellsB (rs.getD k []))
theorem RsAt.grown {w w' : World} {b off g : Nat} {rs : List (List Nat)} (h : RsAt w b off rs) (hG : w.grownBy w' (some g)) (hb : b ≠ g) : RsAt w' b off rs :=
  ⟨Nat.lt_of_lt_of_le h.1 hG.size, fun k hk j v hv => hG.cell (h.2 k hk j v hv) (by simpa using hb)⟩
theorem RsAt.keep {w w' : World} {b off : Nat} {rs : List (List Nat)} (h : RsAt w b off rs) (hB : Below w.heap.size w w') : RsAt w' b off rs :=
  ⟨Nat.lt_of_lt_of_le h.1 hB.size, fun k hk j v hv => (hB.cell (p := ⟨b, off + k * 32 + j, none⟩) h.1).trans (h.2 k hk j v hv)⟩
theorem Has.rsAt {w : World} {b : Nat} {t : TypeId} {rs : List (List Nat)} (h : Has w b t .u8 rs.flatten) (hr : ∀ r ∈ rs, r.length = 32) : RsAt w b 0 rs :=
  ⟨(Array.getElem?_eq_some_iff.1 h).1, fun k hk j v hv => by
    obtain ⟨hj, rfl⟩ := cellsB_get _ j v hv
    have h32 : (rs.getD k []).length = 32 := hr _ (by rw [List.getD_eq_getElem?_getD, List.getElem?_eq_getElem hk]; exact List.getElem_mem _)
    have := flatten_root_get rs hr k j hk (by omega)
    have h2 := h.cell (k * 32 + j) (by rw [flatten_roots rs hr]; omega)
    rw [List.getD_eq_getElem?_getD, this] at h2
    rw [Nat.zero_add, List.getD_eq_getElem?_getD]
    exact h2⟩

end Go.Proofs.YtbmcmabimfoknaaGreatDoor

/- Structs built of all their parts. -/
namespace Go.Proofs.YtbmcmabimfoknaaGreatDoor
set_option maxRecDepth 100000
open Go.RowKit Go.Shelf
set_option linter.unusedVariables false
set_option maxRecDepth 100000

/-- The parts lie one behind another. -/
def PartsAt (place : Nat → Option (Nat × Nat)) : Nat → List (Nat × Value) → Prop
  | _, [] => True
  | off, (i, v) :: ps => place i = some (off, v.cells.size) ∧ PartsAt place (off + v.cells.size) ps
def outC : List (Nat × Value) → List Value
  | [] => []
  | (_, v) :: ps => v.cells.toList ++ outC ps
theorem fold_at (q : Nat) : ∀ (vs : List Value) (k : Nat) (c : Array Value), (vs.zipIdx k).foldl (fun (cs : Array Value) (x : Value × Nat) => cs.setIfInBounds (q + x.2) x.1) c = setV c (q + k) vs := by
  intro vs
  induction vs with
  | nil => intro k c; rfl
  | cons v vs ih =>
    intro k c
    rw [List.zipIdx_cons, List.foldl_cons, ih, setV, Nat.add_assoc]
theorem setV_list (l vs : List Value) (o : Nat) (h : o + vs.length ≤ l.length) : setV l.toArray o vs = (l.take o ++ (vs ++ l.drop (o + vs.length))).toArray := by
  apply Array.ext_getElem?
  intro i
  rw [setV_get _ _ _ (by simpa using h)]
  simp only [List.getElem?_toArray]
  have ht : (l.take o).length = o := by rw [List.length_take]; omega
  by_cases h1 : i < o
  · rw [if_neg (by omega), List.getElem?_append_left (by omega), List.getElem?_take, if_pos h1]
  · rw [List.getElem?_append_right (by omega), ht]
    by_cases h2 : i < o + vs.length
    · rw [if_pos (by omega), List.getElem?_append_left (by omega)]
    · rw [if_neg (by omega), List.getElem?_append_right (by omega), List.getElem?_drop, show o + vs.length + (i - o - vs.length) = i by omega]
theorem fill_out (place : Nat → Option (Nat × Nat)) : ∀ (ps : List (Nat × Value)) (off : Nat) (l : List Value), PartsAt place off ps → off + (outC ps).length ≤ l.length →
    Instr.fill place l.toArray ps = some (l.take off ++ (outC ps ++ l.drop (off + (outC ps).length))).toArray := by
  intro ps
  induction ps with
  | nil => intro off l _ _; simp [Instr.fill, outC]
  | cons p ps ih =>
    intro off l hp hl
    obtain ⟨i, v⟩ := p
    obtain ⟨h1, h2⟩ := hp
    have hlo : (outC ((i, v) :: ps)).length = v.cells.size + (outC ps).length := by rw [outC, List.length_append, Array.length_toList]
    rw [hlo] at hl
    simp only [Instr.fill, h1]
    rw [if_neg (by simp; omega)]
    have h3 : v.cells.zipIdx.foldl (fun (cs : Array Value) (x : Value × Nat) => cs.setIfInBounds (off + x.2) x.1) l.toArray = (l.take off ++ (v.cells.toList ++ l.drop (off + v.cells.size))).toArray := by
      rw [← Array.foldl_toList, Array.toList_zipIdx]
      have h := fold_at off v.cells.toList 0 l.toArray
      rw [Nat.add_zero, setV_list _ _ _ (by rw [Array.length_toList]; omega), Array.length_toList] at h
      exact h
    refine Eq.trans (congrArg (fun c => Instr.fill place c ps) h3) ?_
    have e1 : (l.take off ++ v.cells.toList).length = off + v.cells.size := by simp; omega
    rw [ih (off + v.cells.size) _ h2 (by simp; omega), hlo]
    have t : (l.take off ++ (v.cells.toList ++ l.drop (off + v.cells.size))).take (off + v.cells.size) = l.take off ++ v.cells.toList := by rw [← List.append_assoc]; exact List.take_left' e1
    have d : (l.take off ++ (v.cells.toList ++ l.drop (off + v.cells.size))).drop (off + v.cells.size + (outC ps).length) = l.drop (off + (v.cells.size + (outC ps).length)) := by
      rw [← List.append_assoc, ← List.drop_drop, List.drop_left' e1, List.drop_drop, Nat.add_assoc]
    rw [t, d, outC]
    simp
/-- A struct of all its parts. -/
theorem build_all {P : Program} {t : TypeId} {zs : List Value} (hT : Ty P t zs) (fields : Array Field) (hu : P.underlying t = some (.struct fields)) (places : Array (Nat × Nat)) (hp : ∀ w, (fields.mapM fun f => (do pure (f.offset, ← sizeOf f.type) : Sem (Nat × Nat))).run P w = .ok places w)
    (ps : Array (Nat × Value)) (hat : PartsAt (places[·]?) 0 ps.toList) (hl : (outC ps.toList).length = zs.length) (w : World) : (Instr.build t ps).run P w = .ok (.agg (outC ps.toList).toArray) w := by
  have hz := hT.zero
  have hf := fill_out (places[·]?) ps.toList 0 zs hat (by omega)
  rw [List.take_zero, Nat.zero_add, hl, List.drop_length, List.nil_append, List.append_nil] at hf
  cases hq : P.info? t with
  | none => rw [hq] at hz; cases hz
  | some i =>
    rw [hq] at hz
    simp only [Option.map_some, Option.some.injEq, Prod.mk.injEq] at hz
    have hzv : (zeroValue t).run P w = .ok (.agg zs.toArray) w := by simp [zeroValue, typeInfo, hq, hz.1]
    have hun : (underlying t).run P w = .ok (.struct fields) w := by simp [underlying, hu]
    unfold Instr.build
    rw [Sem.run_bind, hzv, Result.andThen]
    rw [Sem.run_bind, hun, Result.andThen]
    show Sem.run P (Bind.bind (fields.mapM fun f => (do pure (f.offset, ← sizeOf f.type) : Sem (Nat × Nat))) _) w = _
    rw [Sem.run_bind, hp, Result.andThen]
    have hc : (Value.agg zs.toArray).cells = zs.toArray := rfl
    rw [hc, hf]
    rfl
/-- A struct of some of its parts, that lie one behind another. -/
theorem build_from {P : Program} {t : TypeId} {zs : List Value} (hT : Ty P t zs) (fields : Array Field) (hu : P.underlying t = some (.struct fields)) (places : Array (Nat × Nat)) (hp : ∀ w, (fields.mapM fun f => (do pure (f.offset, ← sizeOf f.type) : Sem (Nat × Nat))).run P w = .ok places w)
    (ps : Array (Nat × Value)) (off : Nat) (hat : PartsAt (places[·]?) off ps.toList) (hl : off + (outC ps.toList).length ≤ zs.length) (w : World) : (Instr.build t ps).run P w = .ok (.agg (zs.take off ++ (outC ps.toList ++ zs.drop (off + (outC ps.toList).length))).toArray) w := by
  have hz := hT.zero
  have hf := fill_out (places[·]?) ps.toList off zs hat hl
  cases hq : P.info? t with
  | none => rw [hq] at hz; cases hz
  | some i =>
    rw [hq] at hz
    simp only [Option.map_some, Option.some.injEq, Prod.mk.injEq] at hz
    have hzv : (zeroValue t).run P w = .ok (.agg zs.toArray) w := by simp [zeroValue, typeInfo, hq, hz.1]
    have hun : (underlying t).run P w = .ok (.struct fields) w := by simp [underlying, hu]
    unfold Instr.build
    rw [Sem.run_bind, hzv, Result.andThen]
    rw [Sem.run_bind, hun, Result.andThen]
    show Sem.run P (Bind.bind (fields.mapM fun f => (do pure (f.offset, ← sizeOf f.type) : Sem (Nat × Nat))) _) w = _
    rw [Sem.run_bind, hp, Result.andThen]
    have hc : (Value.agg zs.toArray).cells = zs.toArray := rfl
    rw [hc, hf]
    rfl
end Go.Proofs.YtbmcmabimfoknaaGreatDoor

/- The document's values of numbers, of roots, of parts; its kinds. -/
namespace Go.Proofs.YtbmcmabimfoknaaGreatDoor
set_option maxRecDepth 100000
open Go.RowKit Go.Shelf
set_option linter.unusedVariables false
set_option maxRecDepth 100000

theorem Tryz.ty43 : Ty Tryz.prog 43 (valL 0 (zeros 32) nilS nilS) := ⟨by kernel_rfl, _, Tryz.underlying43, rfl⟩
theorem build_root (r : List Nat) (hr : r.length = 32) (w : World) : (Instr.build 43 #[(1, .agg (nums .u8 r))]).run Tryz.prog w = .ok (.agg (valL 0 r nilS nilS).toArray) w := by
  have ho : outC #[(1, Value.agg (nums .u8 r))].toList = cellsB r := by
    show (nums .u8 r).toList ++ [] = _
    rw [List.append_nil]; rfl
  have h := build_from Tryz.ty43 _ Tryz.underlying43 #[(0, 1), (1, 32), (33, 1), (34, 1)] (fun w => by kernel_rfl) #[(1, .agg (nums .u8 r))] 1 ⟨by show _ = some (1, (nums .u8 r).size); rw [nums_size, hr]; rfl, trivial⟩ (by rw [ho, cellsB_length, hr]; decide) w
  rw [ho, cellsB_length, hr] at h
  exact h
set_option maxHeartbeats 1000000 in
theorem n_any (n : Nat) (w : World) : Calls Tryz.prog 58 #[.int .u64 (n : Nat)] w fun x w' => x = .returned (.agg (valL n (zeros 32) nilS nilS).toArray) ∧ Below w.heap.size w w' := by
  go_enter Tryz.func58, Tryz.ntmps58
  go_wp2_with ((with_reducible refine at_list' ?_); first
    | (refine wpList_alloc_c Tryz.ty43 rfl 2 rfl rfl ?_; intro w1 H1 B1 S1)
    | (refine wpList_build_c rfl _ rfl #[(0, .int .u64 (n : Nat))] (by simp [Act.eval]) _ (build_num n _) ?_)
    | (refine wpList_store_c Tryz.ty43 rfl (.tmp 2) (.tmp 4) rfl w.heap.size (valL n (zeros 32) nilS nilS) rfl rfl rfl (valL_oneC _ _ _ _ trivial trivial) _ H1 rfl ?_; intro w2 H2 O2))
  exact bodyPost_ret (results_c1 Tryz.ty43 rfl _ w2 w.heap.size _ rfl H2 rfl) rfl ⟨rfl, below_only B1 O2 (Nat.le_refl _)⟩
set_option maxHeartbeats 1000000 in
theorem r_any (r : List Nat) (hr : r.length = 32) (w : World) : Calls Tryz.prog 54 #[.agg (nums .u8 r)] w fun x w' => x = .returned (.agg (valL 0 r nilS nilS).toArray) ∧ Below w.heap.size w w' := by
  have HR := hid hr
  clear hr
  go_enter Tryz.func54, Tryz.ntmps54
  go_wp2_with ((with_reducible refine at_list' ?_); first
    | (refine wpList_box_c rfl 1 rfl (.tmp 0) rfl (cellsB r) rfl ?_; intro w1 H1 B1 S1)
    | (refine wpList_alloc_c Tryz.ty43 rfl 2 rfl rfl ?_; intro w2 H2 B2 S2; rw [S1] at H2 S2; rw [S1])
    | (refine wpList_load_mid rfl 23 (.tmp 1) rfl w.heap.size 0 rfl (cellsB r) _ ((H1.keep B2).range 0 _ (fun j v hv => by rw [Nat.zero_add]; exact hv)) Tryz.und23 rfl (by rw [cellsB_length, HR.out]; exact Tryz.size23) ?_)
    | (refine wpList_build_c rfl _ rfl #[(1, .agg (nums .u8 r))] (by simp [Act.eval]; rfl) _ (build_root r HR.out _) ?_)
    | (refine wpList_store_c Tryz.ty43 rfl (.tmp 2) (.tmp 4) rfl (w.heap.size + 1) (valL 0 r nilS nilS) rfl rfl (by rw [valL_length _ _ _ _ HR.out]; rfl) (valL_oneC _ _ _ _ trivial trivial) _ H2 rfl ?_; intro w3 H3 O3))
  exact bodyPost_ret (results_c1 Tryz.ty43 rfl _ w3 (w.heap.size + 1) _ rfl H3 (by rw [valL_length _ _ _ _ HR.out]; rfl)) rfl ⟨rfl, below_only (B1.trans (B2.mono (by omega))) O3 (by omega)⟩
set_option maxHeartbeats 1000000 in
theorem all_any (ao : Option Addr) (l c : Nat) (w : World) : Calls Tryz.prog 53 #[.slice ao l c] w fun x w' => x = .returned (.agg (valL 0 (zeros 32) nilS (.slice ao l c)).toArray) ∧ Below w.heap.size w w' := by
  go_enter Tryz.func53, Tryz.ntmps53
  go_wp2_with ((with_reducible refine at_list' ?_); first
    | (refine wpList_alloc_c Tryz.ty43 rfl 2 rfl rfl ?_; intro w1 H1 B1 S1)
    | (refine wpList_build_c rfl _ rfl #[(3, .slice ao l c)] (by simp [Act.eval]) _ (build_kids ao l c _) ?_)
    | (refine wpList_store_c Tryz.ty43 rfl (.tmp 2) (.tmp 4) rfl w.heap.size (valL 0 (zeros 32) nilS (.slice ao l c)) rfl rfl rfl (valL_oneC _ _ _ _ trivial trivial) _ H1 rfl ?_; intro w2 H2 O2))
  exact bodyPost_ret (results_c1 Tryz.ty43 rfl _ w2 w.heap.size _ rfl H2 rfl) rfl ⟨rfl, below_only B1 O2 (Nat.le_refl _)⟩
end Go.Proofs.YtbmcmabimfoknaaGreatDoor

