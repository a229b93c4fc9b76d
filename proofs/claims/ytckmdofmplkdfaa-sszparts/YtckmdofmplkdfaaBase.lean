/- Slices of bytes, copies and strings of them; frames. -/
import Derived.Test.YtckmdofmplkdfaaBytesB
import Derived.Lib.SliceRun
import Derived.Deep.AppendSrc
import Derived.Deep.RegionWith
import Derived.Laws.AppendOwn
import Derived.Stop.BytesEq
namespace Go.Proofs.Ytckmdofmplkdfaa
open Go.RowKit
set_option linter.unusedVariables false

theorem Try.zero5 : (Try.prog.info? 5).map (fun i => (i.zero, i.size, i.bytes)) = some (some (.int .u8 0), 1, 1) := by kernel_rfl
theorem Try.one5 : (Try.prog.info? 5).map (·.size) = some 1 := by kernel_rfl
theorem hid {p : Prop} (h : p) : Hid p := h
/-- An equation that nothing looks into. -/
structure Same {α : Type} (a b : α) : Prop where
  out : a = b

/-- The slice at that address reads as these bytes. -/
def Reads (w : World) (ao : Option Addr) (zs : List Nat) : Prop :=
  zs.length = 0 ∨ ∃ b off, ao = some ⟨b, off, none⟩ ∧ ∀ i, i < zs.length → w.cell? ⟨b, off + i, none⟩ = some (.int .u8 (zs.getD i 0 : Nat))
theorem Reads.keep {w w' : World} {ao : Option Addr} {zs : List Nat} (h : Reads w ao zs) (hb : Below w.heap.size w w') : Reads w' ao zs := by
  rcases h with h | ⟨b, off, rfl, hc⟩
  · exact .inl h
  · refine .inr ⟨b, off, rfl, fun i hi => ?_⟩
    exact (hb.cell (p := ⟨b, off + i, none⟩) (block_lt_of_cell (hc i hi))).trans (hc i hi)
theorem Reads.src {w : World} {ao : Option Addr} {zs : List Nat} (h : Reads w ao zs) (h0 : 0 < zs.length) : ∃ ad, ao = some ad ∧ ∀ j, j < zs.length → w.cell? (ad.add j) = some (.int .u8 (zs.getD j 0 : Nat)) := by
  rcases h with h | ⟨b, off, rfl, hc⟩
  · omega
  · exact ⟨_, rfl, fun j hj => by rw [Addr.add_lit]; exact hc j hj⟩
/-- The block that an address lies in. -/
def inBlk (S : Nat → Prop) : Option Addr → Prop
  | none => True
  | some a => S a.block
/-- Where only blocks outside S turn, what lies in S reads as before. -/
theorem Reads.keepS {w w' : World} {ao : Option Addr} {zs : List Nat} {S : Nat → Prop} (h : Reads w ao zs) (hS : inBlk S ao) (hk : ∀ k, S k → k < w.heap.size → w'.heap[k]? = w.heap[k]?) : Reads w' ao zs := by
  rcases h with h | ⟨b, off, rfl, hc⟩
  · exact .inl h
  · refine .inr ⟨b, off, rfl, fun i hi => ?_⟩
    exact (World.cell?_of_block (a := ⟨b, off + i, none⟩) (hk b hS (block_lt_of_cell (hc i hi)))).trans (hc i hi)

/-- A slice of bytes: its value, and what it reads as. -/
structure IsB (w : World) (v : Value) (bs : List Nat) : Prop where
  ex : ∃ ao cap, v = .slice ao bs.length cap ∧ bs.length ≤ cap ∧ cap ≤ maxLen ∧ (ao = none → cap = 0) ∧ Reads w ao bs
  by8 : ∀ z ∈ bs, z < 256
theorem IsB.keep {bs : List Nat} {v : Value} {w w' : World} (h : IsB w v bs) (hb : Below w.heap.size w w') : IsB w' v bs := by
  obtain ⟨⟨ao, cap, e, h1, h2, h3, h4⟩, h5⟩ := h
  exact ⟨⟨ao, cap, e, h1, h2, h3, h4.keep hb⟩, h5⟩
/-- The block of a slice lies in S. -/
def inS (S : Nat → Prop) : Value → Prop
  | .slice ao _ _ => inBlk S ao
  | _ => True
theorem IsB.keepS {bs : List Nat} {v : Value} {w w' : World} {S : Nat → Prop} (h : IsB w v bs) (hS : inS S v) (hk : ∀ k, S k → k < w.heap.size → w'.heap[k]? = w.heap[k]?) : IsB w' v bs := by
  obtain ⟨⟨ao, cap, rfl, h1, h2, h3, h4⟩, h5⟩ := h
  exact ⟨⟨ao, cap, rfl, h1, h2, h3, h4.keepS hS hk⟩, h5⟩
theorem inS.mono {S T : Nat → Prop} {v : Value} (h : inS S v) (hST : ∀ k, S k → T k) : inS T v := by
  cases v <;> try exact trivial
  rename_i ao _ _
  cases ao
  · exact trivial
  · exact hST _ h
def cellsB (bs : List Nat) : List Value := bs.map fun n : Nat => Value.int .u8 (n : Int)
theorem cellsB_append (a b : List Nat) : cellsB (a ++ b) = cellsB a ++ cellsB b := by simp [cellsB]
theorem cellsB_length (a : List Nat) : (cellsB a).length = a.length := by simp [cellsB]
theorem cellsB_one (a : List Nat) : ∀ u ∈ cellsB a, u.oneCell' = true := fun u hu => by obtain ⟨n, _, rfl⟩ := List.mem_map.1 hu; rfl
theorem cellsB_get (a : List Nat) (j : Nat) (u : Value) (hj : (cellsB a)[j]? = some u) : j < a.length ∧ u = .int .u8 (a.getD j 0 : Nat) := by
  have hjl : j < a.length := by
    by_cases hjl : j < a.length
    · exact hjl
    · rw [List.getElem?_eq_none (by rw [cellsB_length]; omega)] at hj; cases hj
  exact ⟨hjl, by simpa [cellsB, hjl] using hj.symm⟩
/-- A row of bytes of the call's own. -/
abbrev Row (w : World) (base : Nat) (v : Value) (bs : List Nat) : Prop := w.ownsRow base 5 1 v bs.length (cellsB bs)
theorem Row.isB {bs : List Nat} {v : Value} {w : World} {base : Nat} (h : Row w base v bs) (hb : ∀ z ∈ bs, z < 256) : IsB w v bs := by
  obtain ⟨hl, h⟩ := h
  refine ⟨?_, hb⟩
  rcases h with ⟨rfl, h0⟩ | ⟨g, cap, cur, rfl, hb, hg, hnc, hm, hcs, htk⟩
  · exact ⟨none, 0, by rw [h0], by omega, by decide, fun _ => rfl, .inl h0⟩
  · refine ⟨_, cap, rfl, hnc, hm, (fun e => by cases e), .inr ⟨g, 0, rfl, fun i hi => ?_⟩⟩
    rw [Nat.zero_add, cell_of_row w g i _ _ (0, 0) hg, ← Array.getElem?_toList]
    have : (cur.toList.take (bs.length * 1))[i]? = (cellsB bs)[i]? := by rw [htk]
    rw [List.getElem?_take, if_pos (by omega)] at this
    rw [this, cellsB, List.getElem?_map, List.getElem?_eq_getElem hi, List.getD_eq_getElem?_getD, List.getElem?_eq_getElem hi]
    rfl
theorem Row.nil (w : World) (base : Nat) : Row w base (.slice none 0 0) [] := World.ownsRow_nil _ _ _ _
theorem Row.inS {bs : List Nat} {v : Value} {w : World} {base : Nat} (h : Row w base v bs) : inS (fun k => base ≤ k ∧ k < w.heap.size) v := by
  obtain ⟨_, h⟩ := h
  rcases h with ⟨rfl, h0⟩ | ⟨g, cap, cur, rfl, hb, hg, _⟩
  · exact trivial
  · exact ⟨hb, (Array.getElem?_eq_some_iff.1 hg).1⟩
theorem own_bytes (w : World) : Row (w.alloc (.cells #[] 5)) w.heap.size (.slice (some ⟨w.heap.size, 0, none⟩) 0 0) [] :=
  ⟨rfl, .inr ⟨w.heap.size, 0, #[], rfl, Nat.le_refl _, heap_alloc_new w _, Nat.le_refl _, Nat.zero_le _, rfl, rfl⟩⟩
theorem below_grownR {w w1 w2 : World} {B n : Nat} {e s : Nat} {v : Value} {xs : List Value} (h : Below w.heap.size w w1) (ho : w1.ownsRow B e s v n xs) (hB : w.heap.size ≤ B) (g : w1.grownBy w2 v.ownBlock) : Below w.heap.size w w2 :=
  h.grown g h.size (fun j hj => Nat.le_trans hB (ho.lt j hj).1)

/-- bytes.Clone: a copy in new memory. -/
theorem clone_any (v : Value) (bs : List Nat) (w : World) (hB : IsB w v bs) (hlen : bs.length ≤ 140737488355328) :
    Calls Try.prog 33 #[v] w fun e w' => ∃ v', e = .returned v' ∧ Row w' w.heap.size v' bs ∧ Below w.heap.size w w' := by
  obtain ⟨⟨ao, cap, rfl, hcap, hmx, hnil, hR⟩, h8⟩ := hB
  have HB : Below w.heap.size w (w.alloc (.cells #[] 5)) := (Below.refl _ w).alloc (Nat.le_refl _) _
  have HRA := hR.keep HB
  have HO := own_bytes w
  rcases ao with _ | ad
  · obtain rfl := hnil rfl
    obtain rfl : bs = [] := List.eq_nil_of_length_eq_zero (by omega)
    have heq := Lib.run_eql_slice_nil (P := Try.prog) w 24 5 none 0 0 0 0 Try.underlying24
    go_enter Try.func33, Try.ntmps33
    go_wp2_with fail
    go_ret
    exact ⟨_, rfl, Row.nil _ _, Below.refl _ w⟩
  · obtain ⟨i0, hi, hz0, hz1, hz2⟩ := info_parts Try.info5
    have HC : ∀ j, j < bs.length → (w.alloc (.cells #[] 5)).cell? (ad.add j) = some (.int .u8 (bs.getD j 0 : Nat)) := by
      intro j hj
      obtain ⟨ad', e1, hc⟩ := HRA.src (by omega)
      cases e1
      exact hc j hj
    have HCh := hid HC
    clear HC
    have heq := Lib.run_eql_slice_nil (P := Try.prog) w 24 5 (some ad) bs.length cap 0 0 Try.underlying24
    go_enter Try.func33, Try.ntmps33
    go_wp2_with (refine wpList_append_own _ rfl (.tmp 5) (.tmp 6) 24 rfl w.heap.size 5 i0 (.int .u8 0) 1 1 Try.underlying24 hi hz0 hz1 hz2 rfl (by decide) _ 0 [] rfl (by exact HO) ad bs.length cap (cellsB bs) rfl (by simp [cellsB_length]) (by intro j u hj; obtain ⟨hjl, rfl⟩ := cellsB_get bs j u hj; exact HCh.out j hjl) (cellsB_one bs) (by unfold maxLen; omega) (by omega) (by exact HB.size) ?_; intro v' w' own' grow' _)
    go_ret
    rw [List.nil_append, Nat.zero_add] at own'
    exact ⟨v', rfl, own', below_grownR HB HO (Nat.le_refl _) grow'⟩
end Go.Proofs.Ytckmdofmplkdfaa
