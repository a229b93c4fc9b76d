/- ssz's bits: setBit, bytesFor, PutBits. -/
import Derived.Test.YtckmdofmplkdfaaBase
import Derived.Lib.BitFns
import Derived.Test.YtckmdofmplkdfaaTail
namespace Go.Proofs.Ytckmdofmplkdfaa
open Go.RowKit
set_option linter.unusedVariables false

theorem ret_int {k : IntKind} {a b : Int} (h : a = b) : Ending.returned (.int k a) = .returned (.int k b) := by rw [h]
/-- A bit set. -/
def bset (bs : List Nat) (i : Nat) : List Nat := bs.set (i / 8) (bs.getD (i / 8) 0 ||| 2 ^ (i % 8))

theorem or_u8 (a b : Nat) (ha : a < 256) (hb : b < 256) : bits .or .u8 (a : Int) (b : Int) = ((a ||| b : Nat) : Int) := by
  have hx : a ||| b < 2 ^ 8 := Nat.or_lt_two_pow (by omega) (by omega)
  have e : ∀ n : Nat, n < 256 → (BitVec.ofInt 8 (n : Int)).toNat = n := fun n hn => by rw [BitVec.toNat_ofInt]; omega
  show IntKind.u8.wrap ((BitVec.ofInt 8 (a : Int) ||| BitVec.ofInt 8 (b : Int)).toNat : Int) = _
  rw [BitVec.toNat_or, e a ha, e b hb]
  rw [IntKind.wrap_u8]
  omega
theorem pow_u8 (r : Nat) (h : r < 8) : 2 ^ r < 256 := by
  have := Nat.pow_lt_pow_right (a := 2) (by decide) h
  simpa using this
theorem bset_length (bs : List Nat) (i : Nat) : (bset bs i).length = bs.length := by simp [bset]
theorem byte_at {bs : List Nat} (hb : ∀ z ∈ bs, z < 256) (i : Nat) : bs.getD i 0 < 256 := by
  rw [List.getD_eq_getElem?_getD]
  by_cases h : i < bs.length
  · rw [List.getElem?_eq_getElem h]; exact hb _ (List.getElem_mem _)
  · rw [List.getElem?_eq_none (by omega)]; decide
theorem bset_byte {bs : List Nat} (hb : ∀ z ∈ bs, z < 256) (i : Nat) : ∀ z ∈ bset bs i, z < 256 := fun z hz => by
  rcases List.mem_or_eq_of_mem_set hz with h | h
  · exact hb z h
  · rw [h]; exact Nat.or_lt_two_pow (n := 8) (byte_at hb _) (pow_u8 _ (Nat.mod_lt _ (by decide)))

set_option maxRecDepth 100000 in
set_option maxHeartbeats 1000000 in
theorem setBit_any (g n cap : Nat) (t : TypeId) (bs : List Nat) (i : Nat) (w : World) (hg : Has w g t .u8 bs) (hb : ∀ z ∈ bs, z < 256) (hi : i / 8 < n) (hn : n ≤ bs.length) (hi2 : i < 9223372036854775807) :
    Calls Try.prog 32 #[.slice (some ⟨g, 0, none⟩) n cap, .int .i64 (i : Nat)] w fun e w' => (∃ u, e = .returned u) ∧ Has w' g t .u8 (bset bs i) ∧ Only g w w' := by
  have hc := hg.cell (i / 8) (by omega)
  have hf := hg.frozen (i / 8)
  go_enter Try.func32, Try.ntmps32
  go_wp2
  refine wp_region_quiet_tail 10 (by kernel_rfl) (by kernel_rfl) ?_
  simp only [List.take_succ_cons, List.take_zero, List.drop_succ_cons, List.drop_zero]
  repeat (go_big_quiet_step (fail))
  refine wpQuiet_nil ?_
  intro _ hw'
  obtain ⟨nq, hw''⟩ := hw'
  subst hw''
  have hpw := pow_u8 (i % 8) (Nat.mod_lt _ (by decide))
  have hor := or_u8 _ _ (byte_at hb (i / 8)) hpw
  have hgd : bs[i / 8]?.getD 0 = bs.getD (i / 8) 0 := List.getD_eq_getElem?_getD.symm
  have HE : Same (bits BinOp.or IntKind.u8 (↑(bs[i / 8]?.getD 0)) (2 ^ (i % 8) % 256)) (((bs.getD (i / 8) 0 ||| 2 ^ (i % 8) : Nat)) : Int) := ⟨by
    rw [hgd, ← hor]
    congr 1
    have e : ((2 : Int) ^ (i % 8)) = ((2 ^ (i % 8) : Nat) : Int) := by simp
    rw [e]
    generalize 2 ^ (i % 8) = p at hpw ⊢
    omega⟩
  clear hor hgd hpw
  go_wp2
  go_end0
  rw [HE.out]
  exact ⟨⟨_, rfl⟩, (hg.drewN nq).set (i / 8) _, ⟨rfl, rfl, rfl, by simp [World.setCell], fun k hk => heap_setCell_other (w.drewN nq) ⟨g, i / 8, none⟩ k _ hk⟩⟩

set_option maxRecDepth 100000 in
set_option maxHeartbeats 1000000 in
theorem bytesFor_any (n : Nat) (w : World) (hn : n ≤ 9223372036854775807) :
    Calls Try.prog 31 #[.int .i64 (n : Nat)] w fun e w' => e = .returned (.int .i64 (((n + 7) / 8 : Nat) : Int)) ∧ w' = w := by
  by_cases h : n % 8 = 0
  · have h' : ((n : Int) % 8 == 0) = true := by rw [beq_iff_eq]; omega
    go_enter Try.func31, Try.ntmps31
    go_wp2
    go_ret
    exact ⟨ret_int (by omega), rfl⟩
  · have h' : ((n : Int) % 8 == 0) = false := by rw [beq_eq_false_iff_ne]; omega
    go_enter Try.func31, Try.ntmps31
    go_wp2
    go_ret
    exact ⟨ret_int (by omega), rfl⟩

/-- A slice of truths. -/
structure IsT (w : World) (v : Value) (l : List Bool) : Prop where
  ex : ∃ ao cap, v = .slice ao l.length cap ∧ l.length ≤ cap ∧ cap ≤ maxLen ∧ (l.length = 0 ∨ ∃ b off, ao = some ⟨b, off, none⟩ ∧ ∀ i, i < l.length → w.cell? ⟨b, off + i, none⟩ = some (.bool (l.getD i false)))
theorem IsT.keep {w w' : World} {v : Value} {l : List Bool} (h : IsT w v l) (hb : Below w.heap.size w w') : IsT w' v l := by
  obtain ⟨ao, cap, rfl, h1, h2, h3⟩ := h
  refine ⟨ao, cap, rfl, h1, h2, ?_⟩
  rcases h3 with h3 | ⟨b, off, rfl, hc⟩
  · exact .inl h3
  · exact .inr ⟨b, off, rfl, fun i hi => (hb.cell (p := ⟨b, off + i, none⟩) (block_lt_of_cell (hc i hi))).trans (hc i hi)⟩
/-- Bits set one by one. -/
def upB (l : List Bool) (z : List Nat) : Nat → List Nat
  | 0 => z
  | k + 1 => if l.getD k false then bset (upB l z k) k else upB l z k
/-- Bits as bytes. -/
def putB (l : List Bool) (e : Bool) : List Nat := if e then bset (upB l (zeros ((l.length + 1 + 7) / 8)) l.length) l.length else upB l (zeros ((l.length + 7) / 8)) l.length
theorem upB_length (l : List Bool) (z : List Nat) : ∀ k, (upB l z k).length = z.length
  | 0 => rfl
  | k + 1 => by rw [upB]; split <;> simp [bset_length, upB_length l z k]
theorem zeros_byte (n : Nat) : ∀ z ∈ zeros n, z < 256 := fun z hz => by
  unfold zeros at hz
  rw [List.eq_of_mem_replicate hz]; decide
theorem upB_byte (l : List Bool) (n : Nat) : ∀ k, ∀ z ∈ upB l (zeros n) k, z < 256
  | 0 => zeros_byte n
  | k + 1 => by rw [upB]; split; exact bset_byte (upB_byte l n k) k; exact upB_byte l n k
theorem Has.row {w : World} {g base : Nat} {bs : List Nat} (h : Has w g 5 .u8 bs) (hb : base ≤ g) (hm : bs.length ≤ maxLen) : Row w base (.slice (some ⟨g, 0, none⟩) bs.length bs.length) bs :=
  ⟨by rw [cellsB_length, Nat.mul_one], .inr ⟨g, bs.length, nums .u8 bs, rfl, hb, h, Nat.le_refl _, hm, by rw [nums_size, Nat.mul_one], by rw [List.take_of_length_le (by rw [Array.length_toList, nums_size]; omega)]; rfl⟩⟩

set_option maxRecDepth 100000 in
set_option maxHeartbeats 1000000 in
theorem putBits_any (v : Value) (l : List Bool) (e : Bool) (w : World) (hT : IsT w v l) (hl : l.length ≤ 1099511627776) :
    Calls Try.prog 13 #[v, .bool e] w fun r w' => ∃ v', r = .returned v' ∧ Row w' w.heap.size v' (putB l e) ∧ Below w.heap.size w w' := by
  obtain ⟨ao, cap, rfl, hcap, hmx, hc⟩ := hT
  cases e
  · obtain ⟨m, hm⟩ : ∃ m, (l.length + 7) / 8 = m := ⟨_, rfl⟩
    have HM := hid hm
    have hZ := zeros_length m
    go_enter Try.func13, Try.ntmps13
    go_wp2_with fail
    refine (bytesFor_any (l.length) _ (by omega)).mono ?_
    rintro e w' ⟨rfl, rfl⟩
    rw [hm]
    have HZ := hid hZ
    clear hm hZ
    go_wp2_with (refine wpList_make_has rfl _ _ 24 rfl 5 .u8 Try.underlying24 Try.zero5 .i64 .i64 _ _ m rfl rfl rfl rfl (by have := HM.out; omega) ?_; intro w1 H1 B1)
    have HH1 := hid H1
    have HB1 := hid B1
    have s1 := H1.lt
    have s1' := B1.size
    clear H1 B1
    go_loopw [7, 8, 19] (fun _ _ i wr => ∃ k : Nat, k ≤ l.length ∧ i = .int .i64 k ∧ Has wr w'.heap.size 5 .u8 (upB l (zeros m) k) ∧ Below w'.heap.size w' wr) (fun _ _ i _ => l.length - (intOf i).toNat)
    case atStart => exact ⟨0, Nat.zero_le _, rfl, HH1.out, HB1.out⟩
    case round =>
      obtain ⟨k, hk, rfl, hH, hB⟩ := hrel
      have hlen : (upB l (zeros m) k).length = m := (upB_length l _ k).trans HZ.out
      have hm8 := HM.out
      have HHH := hid hH
      have HBB := hid hB
      have HLL := hid hlen
      clear hH hB hlen
      by_cases hlt : k < l.length
      · obtain ⟨b, off, rfl, hcc⟩ : ∃ b off, ao = some ⟨b, off, none⟩ ∧ ∀ i, i < l.length → w'.cell? ⟨b, off + i, none⟩ = some (.bool (l.getD i false)) := by
          rcases hc with hc | hc
          · omega
          · exact hc
        have hcr := (HBB.out.cell (p := ⟨b, off + k, none⟩) (block_lt_of_cell (hcc k hlt))).trans (hcc k hlt)
        have HU : Same (upB l (zeros m) (k + 1)) (if l.getD k false then bset (upB l (zeros m) k) k else upB l (zeros m) k) := ⟨rfl⟩
        obtain ⟨t, ht⟩ : ∃ t, l.getD k false = t := ⟨_, rfl⟩
        rw [ht] at hcr HU
        clear ht hm8
        cases t
        · go_wp2
          go_roundw
          case rel => exact ⟨k + 1, by omega, by go_num, by rw [HU.out]; exact HHH.out, HBB.out⟩
          case measure => simp [intOf]; omega
        · go_wp2_with fail
          refine (setBit_any w'.heap.size m m _ _ k _ HHH.out (upB_byte l m k) (by have := HM.out; omega) (by rw [HLL.out]; exact Nat.le_refl _) (by omega)).mono ?_
          rintro e w2 ⟨⟨u, rfl⟩, h2, o2⟩
          have X2 := hid (And.intro h2 (below_only HBB.out o2 (Nat.le_refl _)))
          clear h2 o2
          go_wp2
          go_roundw
          case rel => exact ⟨k + 1, by omega, by go_num, by rw [HU.out]; exact X2.out.1, X2.out.2⟩
          case measure => simp [intOf]; omega
      · obtain rfl : k = l.length := by omega
        go_wp2
        go_ret
        have hr := HHH.out.row (Nat.le_refl _) (by rw [HLL.out]; unfold maxLen; omega)
        rw [HLL.out] at hr
        refine ⟨_, rfl, ?_, HBB.out⟩
        have e : putB l false = upB l (zeros m) l.length := by rw [← HM.out]; rfl
        rw [e]
        exact hr
  · obtain ⟨m, hm⟩ : ∃ m, (l.length + 1 + 7) / 8 = m := ⟨_, rfl⟩
    have HM := hid hm
    have hZ := zeros_length m
    go_enter Try.func13, Try.ntmps13
    go_wp2_with fail
    refine (bytesFor_any (l.length + 1) _ (by omega)).mono ?_
    rintro e w' ⟨rfl, rfl⟩
    rw [hm]
    have HZ := hid hZ
    clear hm hZ
    go_wp2_with (refine wpList_make_has rfl _ _ 24 rfl 5 .u8 Try.underlying24 Try.zero5 .i64 .i64 _ _ m rfl rfl rfl rfl (by have := HM.out; omega) ?_; intro w1 H1 B1)
    have HH1 := hid H1
    have HB1 := hid B1
    have s1 := H1.lt
    have s1' := B1.size
    clear H1 B1
    go_loopw [7, 8, 19] (fun _ _ i wr => ∃ k : Nat, k ≤ l.length ∧ i = .int .i64 k ∧ Has wr w'.heap.size 5 .u8 (upB l (zeros m) k) ∧ Below w'.heap.size w' wr) (fun _ _ i _ => l.length - (intOf i).toNat)
    case atStart => exact ⟨0, Nat.zero_le _, rfl, HH1.out, HB1.out⟩
    case round =>
      obtain ⟨k, hk, rfl, hH, hB⟩ := hrel
      have hlen : (upB l (zeros m) k).length = m := (upB_length l _ k).trans HZ.out
      have hm8 := HM.out
      have HHH := hid hH
      have HBB := hid hB
      have HLL := hid hlen
      clear hH hB hlen
      by_cases hlt : k < l.length
      · obtain ⟨b, off, rfl, hcc⟩ : ∃ b off, ao = some ⟨b, off, none⟩ ∧ ∀ i, i < l.length → w'.cell? ⟨b, off + i, none⟩ = some (.bool (l.getD i false)) := by
          rcases hc with hc | hc
          · omega
          · exact hc
        have hcr := (HBB.out.cell (p := ⟨b, off + k, none⟩) (block_lt_of_cell (hcc k hlt))).trans (hcc k hlt)
        have HU : Same (upB l (zeros m) (k + 1)) (if l.getD k false then bset (upB l (zeros m) k) k else upB l (zeros m) k) := ⟨rfl⟩
        obtain ⟨t, ht⟩ : ∃ t, l.getD k false = t := ⟨_, rfl⟩
        rw [ht] at hcr HU
        clear ht hm8
        cases t
        · go_wp2
          go_roundw
          case rel => exact ⟨k + 1, by omega, by go_num, by rw [HU.out]; exact HHH.out, HBB.out⟩
          case measure => simp [intOf]; omega
        · go_wp2_with fail
          refine (setBit_any w'.heap.size m m _ _ k _ HHH.out (upB_byte l m k) (by have := HM.out; omega) (by rw [HLL.out]; exact Nat.le_refl _) (by omega)).mono ?_
          rintro e w2 ⟨⟨u, rfl⟩, h2, o2⟩
          have X2 := hid (And.intro h2 (below_only HBB.out o2 (Nat.le_refl _)))
          clear h2 o2
          go_wp2
          go_roundw
          case rel => exact ⟨k + 1, by omega, by go_num, by rw [HU.out]; exact X2.out.1, X2.out.2⟩
          case measure => simp [intOf]; omega
      · obtain rfl : k = l.length := by omega
        go_wp2_with fail
        refine (setBit_any w'.heap.size m m _ _ l.length _ HHH.out (upB_byte l m l.length) (by have := HM.out; omega) (by rw [HLL.out]; exact Nat.le_refl _) (by omega)).mono ?_
        rintro e w2 ⟨⟨u, rfl⟩, h2, o2⟩
        have X2 := hid (And.intro h2 (below_only HBB.out o2 (Nat.le_refl _)))
        clear h2 o2
        go_wp2
        go_ret
        have hr := X2.out.1.row (Nat.le_refl _) (by rw [bset_length, HLL.out]; unfold maxLen; omega)
        rw [bset_length, HLL.out] at hr
        refine ⟨_, rfl, ?_, X2.out.2⟩
        have e : putB l true = bset (upB l (zeros m) l.length) l.length := by rw [← HM.out]; rfl
        rw [e]
        exact hr
end Go.Proofs.Ytckmdofmplkdfaa
