/- The document's Decode of bits with an end. -/
import Derived.Test.YtidkjpfdclkccabDecB
namespace Go.Proofs.Ytidkjpfdclkccab
open Go.RowKit
set_option linter.unusedVariables false
set_option maxRecDepth 100000

theorem and_bit0 (x r : Nat) (hx : x < 256) : (bits BinOp.and IntKind.u8 ((x : Int) / 2 ^ r) 1 == 0) = !x.testBit r := by
  have h := and_bit x r hx
  have e1 : ((x : Int) / 2 ^ r) = ((x / 2 ^ r : Nat) : Int) := by simp
  have hq : x / 2 ^ r < 256 := Nat.lt_of_le_of_lt (Nat.div_le_self _ _) hx
  rw [← h, e1]
  generalize x / 2 ^ r = q at hq
  have e2 : bits BinOp.and IntKind.u8 (q : Int) 1 = ((q % 2 : Nat) : Int) := by
    have e : ∀ n : Nat, n < 256 → (BitVec.ofInt 8 (n : Int)).toNat = n := fun n hn => by rw [BitVec.toNat_ofInt]; omega
    show IntKind.u8.wrap ((BitVec.ofInt 8 (q : Int) &&& BitVec.ofInt 8 ((1 : Nat) : Int)).toNat : Int) = _
    rw [BitVec.toNat_and, e q hq, e 1 (by decide), Nat.and_one_is_mod]
    rw [IntKind.wrap_u8]
    omega
  rw [e2]
  have : q % 2 = 0 ∨ q % 2 = 1 := by omega
  rcases this with h | h <;> simp [h]
theorem top_low {bs : List Nat} {j : Nat} (hj : j ≤ 8 * bs.length) (h0 : bs.length = 0 ∨ bs.getD (bs.length - 1) 0 = 0) (he : j = 0 ∨ bitN bs (j - 1) = true) : j ≤ 8 * (bs.length - 1) := by
  rcases h0 with h0 | h0
  · omega
  · rcases he with he | he
    · omega
    · by_cases hlt : j ≤ 8 * (bs.length - 1)
      · exact hlt
      · exfalso
        unfold bitN at he
        rw [show (j - 1) / 8 = bs.length - 1 by omega, h0] at he
        simp at he
theorem top_end {bs : List Nat} {j : Nat} (h8 : ∀ z ∈ bs, z < 256) (hj : j ≤ 8 * bs.length) (h0 : bs.length ≠ 0) (hz : bs.getD (bs.length - 1) 0 ≠ 0) (ha : ∀ i, j ≤ i → i < 8 * bs.length → bitN bs i = false) (he : j = 0 ∨ bitN bs (j - 1) = true) : j = endB bs + 1 := by
  have hb := end_bit bs (by omega) hz h8
  have h9 := log2_byte (byte_at h8 (bs.length - 1))
  have hlt : endB bs < 8 * bs.length := by unfold endB; omega
  rcases Nat.lt_trichotomy j (endB bs + 1) with h | h | h
  · exfalso
    rw [ha (endB bs) (by omega) hlt] at hb
    cases hb
  · exact h
  · exfalso
    rcases he with he | he
    · omega
    · rw [above_end bs (by omega) hz h8 (j - 1) (by omega) (by omega)] at he
      cases he

/-- What Decode answers of bits with an end. -/
structure Dec01 (bs : List Nat) (lim : Int) (w : World) (e : Ending) (w' : World) : Prop where
  ex : ∃ u t ok, e = .returned (.tuple #[u, .bool ok]) ∧ IsV w' u t ∧ Below w.heap.size w w' ∧ ((ok = true ∧ ∃ l, takeB bs lim = some l ∧ t = bitsV l) ∨ (ok = false ∧ takeB bs lim = none))
set_option maxHeartbeats 2000000 in
theorem decode_list01 (v : Value) (bs : List Nat) (lim : Int) (p : Nat) (w : World) (hB : IsB w v bs) (c0 : w.cell? ⟨p, 0, none⟩ = some (.int .i64 7)) (c1 : w.cell? ⟨p, 1, none⟩ = some (.int .i64 lim)) (hl : bs.length ≤ 100000000000) (hlim : -9223372036854775808 ≤ lim ∧ lim ≤ 9223372036854775807) :
    Calls Try.prog 10 #[.pointer (some ⟨p, 0, none⟩), v] w fun e w' => Dec01 bs lim w e w' := by
  have hB' := hB
  obtain ⟨⟨ao, cap, rfl, hcap, hmx, hnil, hR⟩, h8⟩ := hB
  unfold maxLen at hmx
  go_enter Try.func10, Try.ntmps10
  apply wp_seq_k; intro _ _
  go_step
  go_step
  refine wpList_alloc_val rfl 4 rfl rfl ?_
  intro w1 H1 B1 S1
  have d0 := (B1.cell (p := ⟨p, 0, none⟩) (block_lt_of_cell c0)).trans c0
  have d1 := (B1.cell (p := ⟨p, 1, none⟩) (block_lt_of_cell c1)).trans c1
  have X1 := hid (And.intro H1 (And.intro B1 (hB'.keep B1)))
  clear H1 B1 S1 c0 c1
  go_wp2_with fail
  refine (size_far p 7 (.inl rfl) _ d0).mono ?_
  rintro e w' ⟨rfl, rfl⟩
  go_wp2_with fail
  go_loop [10] (fun i => ∃ j : Nat, j ≤ 8 * bs.length ∧ i = .int .i64 ((j : Int) - 1) ∧ ∀ i, j ≤ i → i < 8 * bs.length → bitN bs i = false) (fun i => (intOf i + 1).toNat)
  case atStart => exact ⟨8 * bs.length, Nat.le_refl _, by go_num, fun i h1 h2 => by omega⟩
  case round =>
    obtain ⟨j, hj, rfl, ha⟩ := hrel
    have HA := hid ha
    clear ha
    have fin : (j = 0 ∨ bitN bs (j - 1) = true) → Hid ((bs.length = 0 ∨ bs.getD (bs.length - 1) 0 = 0) → j ≤ 8 * (bs.length - 1)) ∧ Hid (bs.length ≠ 0 → bs.getD (bs.length - 1) 0 ≠ 0 → j = endB bs + 1) := fun he => ⟨fun h => top_low hj h he, fun h1 h2 => top_end h8 hj h1 h2 HA.out he⟩
    have HT : Hid (takeB bs lim = if bs.length = 0 ∨ bs.getD (bs.length - 1) 0 = 0 ∨ lim < ((endB bs : Nat) : Int) then none else some (bitsL bs (endB bs))) := hid rfl
    cases j with
    | zero =>
      have hf := fin (.inl rfl)
      have HN : Hid (takeB bs lim = none) := by
        refine hid ?_
        rw [HT.out, if_pos]
        by_cases h0 : bs.length = 0
        · exact .inl h0
        · by_cases hz : bs.getD (bs.length - 1) 0 = 0
          · exact .inr (.inl hz)
          · have := hf.2.out h0 hz; omega
      clear fin hf HT
      rw [show (((0 : Nat) : Int) - 1) = -1 from rfl]
      go_wp2_with ((with_reducible refine at_list ?_); first
        | (refine wpList_build rfl _ #[] rfl #[] rfl _ build_none ?_)
        | (refine wpList_store_val rfl (.tmp 4) (.tmp 117) rfl w.heap.size 0 (zeros 32) nilS nilS rfl rfl zeros32 trivial trivial _ _ _ _ X1.out.1 zeros32 ?_; intro w4 H4 O4))
      refine bodyPost_ret (results_val rfl _ _ w.heap.size 0 (zeros 32) nilS nilS _ rfl rfl H4 zeros32) rfl ?_
      exact ⟨⟨_, _, _, rfl, isV_zero _, below_only X1.out.2.1 O4 (Nat.le_refl _), .inr ⟨rfl, HN.out⟩⟩⟩
    | succ i =>
      rw [show (((i + 1 : Nat) : Int) - 1) = ((i : Nat) : Int) by omega]
      obtain ⟨b, off, rfl, hcc⟩ : ∃ b off, ao = some ⟨b, off, none⟩ ∧ ∀ i, i < bs.length → w.cell? ⟨b, off + i, none⟩ = some (.int .u8 (bs.getD i 0 : Nat)) := by
        rcases hR with h | h
        · omega
        · exact h
      have hcr := (X1.out.2.1.cell (p := ⟨b, off + i / 8, none⟩) (block_lt_of_cell (hcc (i / 8) (by omega)))).trans (hcc (i / 8) (by omega))
      have hx := byte_at h8 (i / 8)
      have HX : Same (bitN bs i) ((bs.getD (i / 8) 0).testBit (i % 8)) := ⟨rfl⟩
      have hab := and_bit0 (bs.getD (i / 8) 0) (i % 8) hx
      rw [← HX.out] at hab
      generalize bs.getD (i / 8) 0 = x at *
      clear hcc hR
      cases hbit : bitN bs i
      · rw [hbit] at hab
        have hab' : (bits BinOp.and IntKind.u8 ((x : Int) / 2 ^ (i % 8)) 1 == 0) = true := hab
        have HB0 := hid hbit
        clear hab hbit HX fin
        go_wp2
        go_round
        case rel => exact ⟨i, by omega, by go_num, fun k h1 h2 => by
          by_cases e : k = i
          · subst e; exact HB0.out
          · exact HA.out k (by omega) h2⟩
        case measure => simp [intOf]
      · rw [hbit] at hab
        have hab' : (bits BinOp.and IntKind.u8 ((x : Int) / 2 ^ (i % 8)) 1 == 0) = false := hab
        have hf := fin (.inr (by rw [Nat.add_sub_cancel]; exact hbit))
        have HF := hid hf
        clear hab hbit HX fin hf
        by_cases hlow : i < 8 * (bs.length - 1)
        · have hlow' : (i : Int) < 8 * ((bs.length : Nat) : Int) - 8 := by omega
          have HN : Hid (takeB bs lim = none) := by
            refine hid ?_
            rw [HT.out, if_pos]
            by_cases hz : bs.getD (bs.length - 1) 0 = 0
            · exact .inr (.inl hz)
            · have := HF.out.2.out (by omega) hz
              unfold endB at this
              omega
          clear HF HT
          go_wp2_with ((with_reducible refine at_list ?_); first
            | (refine wpList_build rfl _ #[] rfl #[] rfl _ build_none ?_)
            | (refine wpList_store_val rfl (.tmp 4) (.tmp 117) rfl w.heap.size 0 (zeros 32) nilS nilS rfl rfl zeros32 trivial trivial _ _ _ _ X1.out.1 zeros32 ?_; intro w4 H4 O4))
          refine bodyPost_ret (results_val rfl _ _ w.heap.size 0 (zeros 32) nilS nilS _ rfl rfl H4 zeros32) rfl ?_
          exact ⟨⟨_, _, _, rfl, isV_zero _, below_only X1.out.2.1 O4 (Nat.le_refl _), .inr ⟨rfl, HN.out⟩⟩⟩
        · have hlow' : ¬ (i : Int) < 8 * ((bs.length : Nat) : Int) - 8 := by omega
          have hz : bs.getD (bs.length - 1) 0 ≠ 0 := fun h => by have := HF.out.1.out (.inr h); omega
          have hend : endB bs = i := by have := HF.out.2.out (by omega) hz; omega
          have HE := hid hend
          by_cases hlm : lim < (i : Int)
          · have HN : Hid (takeB bs lim = none) := by
              refine hid ?_
              rw [HT.out, if_pos (.inr (.inr (by rw [hend]; exact hlm)))]
            clear HF HT hz hend
            go_wp2_with ((with_reducible refine at_list ?_); first
              | (refine wpList_build rfl _ #[] rfl #[] rfl _ build_none ?_)
              | (refine wpList_store_val rfl (.tmp 4) (.tmp 117) rfl w.heap.size 0 (zeros 32) nilS nilS rfl rfl zeros32 trivial trivial _ _ _ _ X1.out.1 zeros32 ?_; intro w4 H4 O4))
            refine bodyPost_ret (results_val rfl _ _ w.heap.size 0 (zeros 32) nilS nilS _ rfl rfl H4 zeros32) rfl ?_
            exact ⟨⟨_, _, _, rfl, isV_zero _, below_only X1.out.2.1 O4 (Nat.le_refl _), .inr ⟨rfl, HN.out⟩⟩⟩
          · have HN : Hid (takeB bs lim = some (bitsL bs i)) := by
              refine hid ?_
              rw [HT.out, if_neg, hend]
              rintro (h | h | h)
              · omega
              · exact hz h
              · rw [hend] at h; exact hlm h
            clear HF HT hz hend HE
            go_wp2_with fail
            refine (rbits_any _ bs i _ X1.out.2.2 (by omega) (by omega)).mono ?_
            rintro e w2 ⟨u2, rfl, hT2, hS2, B2⟩
            obtain ⟨bo, bl, bc, rfl⟩ := hT2.sl.ex
            have X2 := hid (And.intro (X1.out.1.keep B2) (And.intro (below_more X1.out.2.1 B2 (Nat.le_refl _)) hT2))
            have HS2 : Hid (inS (fun k => k ≠ w.heap.size) (.slice bo bl bc)) := hid (hS2.mono fun k hk => by have := X1.out.1.lt; omega)
            clear hT2 hS2 B2 X1 d0 d1
            go_wp2_with ((with_reducible refine at_list ?_); first
              | (refine wpList_build rfl _ #[(2, .tmp 120)] rfl #[(2, .slice bo bl bc)] rfl _ (build_bits bo bl bc) ?_)
              | (refine wpList_store_val rfl (.tmp 4) (.tmp 121) rfl w.heap.size 0 (zeros 32) (.slice bo bl bc) nilS rfl rfl zeros32 trivial trivial _ _ _ _ X2.out.1 zeros32 ?_; intro w4 H4 O4))
            refine bodyPost_ret (results_val rfl _ _ w.heap.size 0 (zeros 32) (.slice bo bl bc) nilS _ rfl rfl H4 zeros32) rfl ?_
            exact ⟨⟨_, _, _, rfl, isV_bits (X2.out.2.2.keepS HS2.out fun k hk _ => O4.block k hk), below_only X2.out.2.1 O4 (Nat.le_refl _), .inl ⟨rfl, _, HN.out, rfl⟩⟩⟩
end Go.Proofs.Ytidkjpfdclkccab
