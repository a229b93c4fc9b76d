/- ssz: firstBits, TakeFew, TakeBits. -/
import Derived.Test.YtckmdofmplkdfaaBitsP
import Derived.Test.YtckmdofmplkdfaaNew4
import Derived.Lib.BitFns
namespace Go.Proofs.Ytckmdofmplkdfaa
open Go.RowKit
set_option linter.unusedVariables false
set_option maxRecDepth 100000

/-- A row of truths of the call's own. -/
abbrev RowT (w : World) (base : Nat) (v : Value) (l : List Bool) : Prop := w.ownsRow base 4 1 v l.length (l.map Value.bool)
theorem RowT.isT {l : List Bool} {v : Value} {w : World} {base : Nat} (h : RowT w base v l) : IsT w v l := by
  obtain ⟨hl, h⟩ := h
  rcases h with ⟨rfl, h0⟩ | ⟨g, cap, cur, rfl, hb, hg, hnc, hm, hcs, htk⟩
  · exact ⟨none, 0, by rw [h0], by omega, by decide, .inl h0⟩
  · refine ⟨_, cap, rfl, hnc, hm, .inr ⟨g, 0, rfl, fun i hi => ?_⟩⟩
    rw [Nat.zero_add, cell_of_row w g i _ _ (0, 0) hg, ← Array.getElem?_toList]
    have : (cur.toList.take (l.length * 1))[i]? = (l.map Value.bool)[i]? := by rw [htk]
    rw [List.getElem?_take, if_pos (by omega)] at this
    rw [this, List.getElem?_map, List.getElem?_eq_getElem hi, List.getD_eq_getElem?_getD, List.getElem?_eq_getElem hi]
    rfl
theorem Try.info4 : (Try.prog.info? 4).map (fun i => (i.zero, i.size, i.bytes)) = some (some (.bool false), 1, 1) := by kernel_rfl
theorem info_partsT {o : Option TypeInfo} (h : o.map (fun i => (i.zero, i.size, i.bytes)) = some (some (.bool false), 1, 1)) : ∃ i, o = some i ∧ i.zero = some (.bool false) ∧ i.size = 1 ∧ i.bytes = 1 := by
  cases o with
  | none => simp at h
  | some i => simp at h; exact ⟨i, rfl, h.1, h.2.1, h.2.2⟩
/-- The first bits, with room behind. -/
def upT (bs : List Nat) (n k : Nat) : List Bool := bitsL bs k ++ List.replicate (n - k) false
theorem upT_length (bs : List Nat) (n k : Nat) (h : k ≤ n) : (upT bs n k).length = n := by simp [upT, bitsL_length]; omega
theorem upT_set (bs : List Nat) (n k : Nat) (h : k < n) : (upT bs n k).set k (bitN bs k) = upT bs n (k + 1) := by
  unfold upT
  rw [List.set_append_right _ _ (by rw [bitsL_length]; exact Nat.le_refl _), bitsL_length, Nat.sub_self, show n - k = (n - (k + 1)) + 1 by omega, List.replicate_succ, List.set_cons_zero, bitsL_succ, List.append_assoc]
  rfl
theorem made_false (n : Nat) : (madeCells (Value.bool false).cells (n * 1)).toList = (upT [] n 0).map Value.bool := by
  rw [Nat.mul_one]
  exact (toList_madeCells_one (.bool false) n).trans (by simp [upT, bitsL])
theorem upT_zero (bs : List Nat) (n : Nat) : upT bs n 0 = upT [] n 0 := by simp [upT, bitsL]

theorem and_bit (x r : Nat) (hx : x < 256) : (bits BinOp.and IntKind.u8 ((x : Int) / 2 ^ r) 1 == 1) = x.testBit r := by
  have e1 : ((x : Int) / 2 ^ r) = ((x / 2 ^ r : Nat) : Int) := by simp
  have hq : x / 2 ^ r < 256 := Nat.lt_of_le_of_lt (Nat.div_le_self _ _) hx
  rw [e1, Nat.testBit_eq_decide_div_mod_eq]
  generalize x / 2 ^ r = q at hq
  have e2 : bits BinOp.and IntKind.u8 (q : Int) 1 = ((q % 2 : Nat) : Int) := by
    have e : ∀ n : Nat, n < 256 → (BitVec.ofInt 8 (n : Int)).toNat = n := fun n hn => by rw [BitVec.toNat_ofInt]; omega
    show IntKind.u8.wrap ((BitVec.ofInt 8 (q : Int) &&& BitVec.ofInt 8 ((1 : Nat) : Int)).toNat : Int) = _
    rw [BitVec.toNat_and, e q hq, e 1 (by decide), Nat.and_one_is_mod]
    rw [IntKind.wrap_u8]
    omega
  rw [e2]
  by_cases h : q % 2 = 1
  · simp [h]
  · have : q % 2 = 0 := by omega
    simp [this]

set_option maxHeartbeats 1000000 in
theorem firstBits_any (v : Value) (bs : List Nat) (n : Nat) (w : World) (hB : IsB w v bs) (hn : n ≤ 8 * bs.length) (hl : n ≤ 1099511627776) :
    Calls Try.prog 28 #[v, .int .i64 n] w fun e w' => ∃ u, e = .returned u ∧ IsT w' u (bitsL bs n) ∧ Below w.heap.size w w' := by
  obtain ⟨⟨ao, cap, rfl, hcap, hmx, hnil, hR⟩, h8⟩ := hB
  obtain ⟨i0, hi, hz0, hz1, hz2⟩ := info_partsT Try.info4
  have hb2 : i0.bytes * n ≤ 281474976710656 := by rw [hz2]; omega
  have hml : n ≤ maxLen := by unfold maxLen; omega
  unfold maxLen at hmx
  go_enter Try.func28, Try.ntmps28
  go_wp2_with (at_make; refine wpList_make_full _ rfl (.tmp 7) (.tmp 7) 36 rfl w.heap.size 4 i0 (.bool false) 1 Try.underlying36 hi hz0 hz1 .i64 .i64 (n : Int) (n : Int) n rfl rfl rfl rfl hb2 hml (Nat.le_refl _) ?_; intro w1 hown hgrow)
  rw [made_false n] at hown
  have hbel : Below w.heap.size w w1 := (Below.refl _ _).grown hgrow (Nat.le_refl _) (by simp)
  clear hgrow
  go_loopw [6, 11] (fun _ i wr => ∃ k : Nat, k ≤ n ∧ i = .int .i64 k ∧ wr.ownsRow w.heap.size 4 1 (.slice (some ⟨w.heap.size, 0, none⟩) n n) n ((upT bs n k).map Value.bool) ∧ Below w.heap.size w wr) (fun _ i _ => n - (intOf i).toNat)
  case atStart => exact ⟨0, Nat.zero_le _, rfl, by rw [upT_zero]; exact hown, hbel⟩
  case round =>
    clear hown hbel
    obtain ⟨k, hk, rfl, hown, hbel⟩ := hrel
    by_cases hlt : k < n
    · obtain ⟨b, off, rfl, hcc⟩ : ∃ b off, ao = some ⟨b, off, none⟩ ∧ ∀ i, i < bs.length → w.cell? ⟨b, off + i, none⟩ = some (.int .u8 (bs.getD i 0 : Nat)) := by
        rcases hR with h | h
        · omega
        · exact h
      have hfr := hown.frozenAt k
      have hcl := hown.cellAt k (by omega)
      have hget : ((upT bs n k).map Value.bool)[k]? = some (.bool ((upT bs n k).getD k false)) := by
        rw [List.getElem?_map, List.getD_eq_getElem?_getD, List.getElem?_eq_getElem (by rw [upT_length _ _ _ hk]; omega)]; rfl
      rw [hget] at hcl
      have hcr := (hbel.cell (p := ⟨b, off + k / 8, none⟩) (block_lt_of_cell (hcc (k / 8) (by omega)))).trans (hcc (k / 8) (by omega))
      have hx := byte_at h8 (k / 8)
      have R1 := (hown.stored k (.bool (bitN bs k))).1
      rw [← List.map_set, upT_set _ _ _ hlt] at R1
      have R2 : Below w.heap.size w (wr.setCell ⟨w.heap.size, k, none⟩ (.bool (bitN bs k))) := hbel.setCell (Nat.le_refl _) _
      have HR := hid (And.intro R1 R2)
      clear hget hown hbel R1 R2 hcc
      have HX : Same (bitN bs k) ((bs.getD (k / 8) 0).testBit (k % 8)) := ⟨rfl⟩
      generalize bs.getD (k / 8) 0 = x at *
      have HA := hid (and_bit x (k % 8) hx)
      go_wp2
      rw [HA.out, ← HX.out]
      exact ⟨⟨k + 1, by omega, by go_num, HR.out.1, HR.out.2⟩, by simp [intOf]; omega⟩
    · obtain rfl : k = n := by omega
      have HO := hid hown
      have HB := hid hbel
      clear hown hbel
      go_wp2
      go_ret
      refine ⟨_, rfl, RowT.isT (base := w.heap.size) ?_, HB.out⟩
      have e : upT bs k k = bitsL bs k := by simp [upT]
      have := HO.out
      rw [e] at this
      unfold RowT
      rw [bitsL_length]
      exact this
theorem log2_len : ∀ n : Fin 256, n.val ≠ 0 → Lib.bitLen n.val = n.val.log2 + 1 := by decide +kernel
theorem tab_size : Lib.len8tab.size = 256 := by kernel_rfl
theorem tab_get (S : ByteArray) (HS : S = Lib.len8tab) (n : Nat) (h : n < S.size) : (S[n]'h).toNat = Lib.bitLen n := by
  have hn : n < 256 := by rw [HS, tab_size] at h; exact h
  have h1 := Lib.len8_eq ⟨n, hn⟩
  have e : ((S[n]'h).toNat : Int) = Lib.len8 (n : Int) := by
    unfold Lib.len8
    rw [← HS, Int.toNat_natCast, getElem?_pos S n h]
    rfl
  have := e.trans h1
  exact Int.ofNat_inj.1 this
set_option maxHeartbeats 1000000 in
theorem len8_any (x : Nat) (h0 : x ≠ 0) (h1 : x < 256) (w : World) :
    Calls Try.prog 27 #[.int .u8 (x : Nat)] w fun e w' => e = .returned (.int .i64 ((x.log2 + 1 : Nat) : Int)) ∧ w' = w := by
  have hl := log2_len ⟨x, h1⟩ h0
  have h8 := log2_byte h1
  simp only at hl
  go_enter Try.func27, Try.ntmps27
  generalize hS : ByteArray.mk _ = S
  have HS : Hid (S = Lib.len8tab) := hid (by rw [← hS]; kernel_rfl)
  have hsz : S.size = 256 := by rw [HS.out]; exact tab_size
  have HL := hid hl
  clear hS hl
  go_wp2
  go_ret
  refine ⟨ret_int ?_, rfl⟩
  have ht := tab_get S HS.out x (by omega)
  rw [HL.out] at ht
  rw [ht, wrap64]
  omega
set_option maxHeartbeats 1000000 in
theorem takeBits_any (v : Value) (bs : List Nat) (lim : Int) (w : World) (hB : IsB w v bs) (hl : bs.length ≤ 100000000000) (hlim : -9223372036854775808 ≤ lim ∧ lim ≤ 9223372036854775807) :
    Calls Try.prog 11 #[v, .int .i64 lim] w fun e w' =>
      ((∃ l u, takeB bs lim = some l ∧ e = .returned (.tuple #[u, .int .i64 0]) ∧ IsT w' u l) ∨ (takeB bs lim = none ∧ e = .returned (.tuple #[.slice none 0 0, .int .i64 3]))) ∧ Below w.heap.size w w' := by
  have hB' := hB
  obtain ⟨⟨ao, cap, rfl, hcap, hmx, hnil, hR⟩, h8⟩ := hB
  unfold maxLen at hmx
  by_cases h0 : bs.length = 0
  · have h0' : (((bs.length : Nat) : Int) == 0) = true := by rw [h0]; rfl
    go_enter Try.func11, Try.ntmps11
    go_wp2
    go_ret2
    exact ⟨.inr ⟨by rw [takeB, if_pos (.inl h0)], rfl⟩, Below.refl _ _⟩
  · obtain ⟨b, off, rfl, hcc⟩ : ∃ b off, ao = some ⟨b, off, none⟩ ∧ ∀ i, i < bs.length → w.cell? ⟨b, off + i, none⟩ = some (.int .u8 (bs.getD i 0 : Nat)) := by
      rcases hR with h | h
      · omega
      · exact h
    have hcl := hcc (bs.length - 1) (by omega)
    have hx := byte_at h8 (bs.length - 1)
    have HE : Hid (endB bs = 8 * (bs.length - 1) + (bs.getD (bs.length - 1) 0).log2) := hid rfl
    have HF : Hid (takeB bs lim = if bs.length = 0 ∨ bs.getD (bs.length - 1) 0 = 0 ∨ lim < ((endB bs : Nat) : Int) then none else some (bitsL bs (endB bs))) := hid rfl
    obtain ⟨q, hq⟩ : ∃ q, bs.length = q + 1 := ⟨bs.length - 1, by omega⟩
    rw [show bs.length - 1 = q by omega] at hcl hx HF HE
    have hib := hid hB'
    have HQ := hid hq
    rw [hq] at hcap hl hib
    rw [hq]
    have hq0 : (((q : Int) + 1) == 0) = false := by rw [beq_eq_false_iff_ne]; omega
    generalize bs.getD q 0 = x at *
    clear hcc hB' hR hq h0
    by_cases hx0 : x = 0
    · subst hx0
      go_enter Try.func11, Try.ntmps11
      go_wp2
      go_ret2
      exact ⟨.inr ⟨by rw [HF.out, if_pos (by simp)], rfl⟩, Below.refl _ _⟩
    · have hx' : ((x : Int) == 0) = false := by rw [beq_eq_false_iff_ne]; omega
      have hl8 := log2_byte hx
      have HC := hid (len8_any x hx0 hx)
      generalize x.log2 = y at *
      by_cases hend : lim < ((endB bs : Nat) : Int)
      · have hend' : lim < (q : Int) * 8 + ((y : Int) + 1) - 1 := by have := HE.out; omega
        go_enter Try.func11, Try.ntmps11
        go_wp2_with fail
        refine (HC.out _).mono ?_
        rintro e w' ⟨rfl, rfl⟩
        go_wp2
        go_ret2
        exact ⟨.inr ⟨by rw [HF.out, if_pos (.inr (.inr (by have := HE.out; omega)))], rfl⟩, Below.refl _ _⟩
      · have hend' : ¬ lim < (q : Int) * 8 + ((y : Int) + 1) - 1 := by have := HE.out; omega
        go_enter Try.func11, Try.ntmps11
        go_wp2_with fail
        refine (HC.out _).mono ?_
        rintro e w' ⟨rfl, rfl⟩
        go_wp2_with fail
        have he : ((q : Int) * 8 + ((y : Int) + 1) - 1) = ((endB bs : Nat) : Int) := by have := HE.out; omega
        rw [he]
        refine (firstBits_any _ bs (endB bs) _ hib.out (by have := HE.out; have := HQ.out; omega) (by have := HE.out; omega)).mono ?_
        rintro e w2 ⟨u, rfl, hT, hb⟩
        have HT := hid (And.intro hT hb)
        clear hT hb
        go_wp2
        go_ret2
        refine ⟨.inl ⟨_, _, ?_, rfl, HT.out.1⟩, HT.out.2⟩
        rw [HF.out, if_neg]
        rintro (h | h | h)
        · have := HQ.out; omega
        · exact hx0 h
        · omega
end Go.Proofs.Ytckmdofmplkdfaa
