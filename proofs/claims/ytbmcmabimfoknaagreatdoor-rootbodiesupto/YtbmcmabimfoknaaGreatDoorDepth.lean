/- Contracts of the depth of a tree: merkle's, over the library's count of bits, and the document's. -/
import Derived.Test.YtbmcmabimfoknaaGreatDoorUp
import Derived.Lib.BitFns
import Derived.Deep.Light
namespace Go.Proofs.YtbmcmabimfoknaaGreatDoor
set_option maxRecDepth 100000
open Go.RowKit
set_option linter.unusedVariables false

section
variable {P : Program} {w : World} {ops : Array Oper} {rest : List Oper} {o : Oper} {a : Act} {Q : Exit → Act → World → Prop}
theorem wpList_len8 (hgd : o.guard = none) (t : TypeId) (x y : Operand) (ho : o.op = .index t x y) (s : ByteArray) (hx : a.eval x = .string s) (hs : s = Lib.len8tab) (i : Int) (hy : a.eval y = .int .u8 (i % 256)) (hu : P.underlying t = some .string)
    (h : wpList P ops Q rest (a.put o.dst (.int .u8 (Lib.len8 (i % 256)))) w) : wpList P ops Q (o :: rest) a w := by
  refine wpList_plain hgd fun K hK => ?_
  subst hs
  have hr := Lib.run_index_len8tab_mod (P := P) (w := w) t .u8 i hu
  unfold Oper.wp execOp
  simp only [ho, hx, hy, hr, Sem.run_bind, Result.andThen_ok, Sem.run_pure]
  exact hK _ _ h
end
theorem tab_size : Lib.len8tab.size = 256 := by kernel_rfl
theorem tab_get (S : ByteArray) (HS : S = Lib.len8tab) (n : Nat) (h : n < S.size) : (S[n]'h).toNat = Lib.bitLen n := by
  have hn : n < 256 := by rw [HS, tab_size] at h; exact h
  have h1 := Lib.len8_eq ⟨n, hn⟩
  have e : ((S[n]'h).toNat : Int) = Lib.len8 (n : Int) := by
    unfold Lib.len8
    rw [← HS, Int.toNat_natCast, getElem?_pos S n h]
    rfl
  have := e.trans h1
  exact Int.ofNat_inj.1 this
/-- The last byte's count of bits, and the bits below. -/
theorem len_end (x q b k : Nat) (hb : b = Lib.bitLen q) (hq : q < 256) (h1 : x < 18446744073709551616) (e : q = x / 2 ^ k) (h2 : 2 ^ k ≤ x ∨ k = 0) : b ≤ 8 ∧ k + b = Lib.bitLen x := by
  subst hb
  refine ⟨Lib.bitLen_le8 ⟨q, hq⟩, ?_⟩
  rw [e]
  rcases h2 with h | rfl
  · exact (Lib.bitLen_shift k _ h h1).symm
  · simp
theorem wrap_end (k b : Nat) (hk : k ≤ 56) (hb : b ≤ 8) : wrap64 ((k : Int) + wrap64 (b : Int)) = ((k + b : Nat) : Int) := by
  unfold wrap64; omega

set_option maxRecDepth 100000 in
set_option maxHeartbeats 4000000 in
theorem len64_any (x : Int) (h0 : 0 ≤ x) (h1 : x ≤ 18446744073709551615) (w : World) :
    Calls Tryz.prog 118 #[.int .u64 x] w fun e w' => e = .returned (.int .i64 (Lib.bitLen x.toNat)) ∧ w' = w := by
  go_enter Tryz.func118, Tryz.ntmps118
  generalize hS : ByteArray.mk _ = S
  have HS : Hid (S = Lib.len8tab) := hid (by rw [← hS]; kernel_rfl)
  have hsz : S.size = 256 := by rw [HS.out]; exact tab_size
  clear hS
  go_wp2
  all_goals (try (go_ret; refine ⟨congrArg Ending.returned (congrArg (Value.int IntKind.i64) ?_), rfl⟩; go_light))
  · obtain ⟨b8, eb⟩ := len_end x.toNat (x / 4294967296 / 65536 / 256).toNat _ 56 (tab_get S HS.out _ (by omega)) (by omega) (by omega) (by omega) (.inl (by omega))
    rw [← eb]; exact wrap_end 56 _ (by decide) b8
  · obtain ⟨b8, eb⟩ := len_end x.toNat (x / 4294967296 / 65536).toNat _ 48 (tab_get S HS.out _ (by omega)) (by omega) (by omega) (by omega) (.inl (by omega))
    rw [← eb]; exact wrap_end 48 _ (by decide) b8
  · obtain ⟨b8, eb⟩ := len_end x.toNat (x / 4294967296 / 256).toNat _ 40 (tab_get S HS.out _ (by omega)) (by omega) (by omega) (by omega) (.inl (by omega))
    rw [← eb]; exact wrap_end 40 _ (by decide) b8
  · obtain ⟨b8, eb⟩ := len_end x.toNat (x / 4294967296).toNat _ 32 (tab_get S HS.out _ (by omega)) (by omega) (by omega) (by omega) (.inl (by omega))
    rw [← eb]; exact wrap_end 32 _ (by decide) b8
  · obtain ⟨b8, eb⟩ := len_end x.toNat (x / 65536 / 256).toNat _ 24 (tab_get S HS.out _ (by omega)) (by omega) (by omega) (by omega) (.inl (by omega))
    rw [← eb]; exact wrap_end 24 _ (by decide) b8
  · obtain ⟨b8, eb⟩ := len_end x.toNat (x / 65536).toNat _ 16 (tab_get S HS.out _ (by omega)) (by omega) (by omega) (by omega) (.inl (by omega))
    rw [← eb]; exact wrap_end 16 _ (by decide) b8
  · obtain ⟨b8, eb⟩ := len_end x.toNat (x / 256).toNat _ 8 (tab_get S HS.out _ (by omega)) (by omega) (by omega) (by omega) (.inl (by omega))
    rw [← eb]; exact wrap_end 8 _ (by decide) b8
  · obtain ⟨b8, eb⟩ := len_end x.toNat x.toNat _ 0 (tab_get S HS.out _ (by omega)) (by omega) (by omega) (by simp) (.inr rfl)
    rw [← eb]
    have := wrap_end 0 _ (by decide) b8
    simpa using this

theorem len_any (x : Int) (h0 : 0 ≤ x) (h1 : x ≤ 18446744073709551615) (w : World) :
    Calls Tryz.prog 112 #[.int .u64 x] w fun e w' => e = .returned (.int .i64 (Lib.bitLen x.toNat)) ∧ w' = w := by
  go_enter Tryz.func112, Tryz.ntmps112
  go_wp2_with fail
  refine (len64_any x h0 h1 w).mono ?_
  rintro e w' ⟨rfl, rfl⟩
  go_wp2
  go_ret
  exact ⟨rfl, rfl⟩

/-- A number's count of bits. -/
theorem bitLen_spec (x : Nat) (hx : x < 18446744073709551616) : x < 2 ^ Lib.bitLen x ∧ ∀ e, e < Lib.bitLen x → 2 ^ e ≤ x := by
  suffices H : ∀ f y, y < 2 ^ f → y < 2 ^ Lib.bitLenAux f y ∧ ∀ e, e < Lib.bitLenAux f y → 2 ^ e ≤ y from H 64 x (by omega)
  intro f
  induction f with
  | zero => intro y hy; exact ⟨by simpa [Lib.bitLenAux] using hy, fun e he => by simp [Lib.bitLenAux] at he⟩
  | succ f ih =>
    intro y hy
    rw [Lib.bitLenAux]
    split
    · rename_i h; subst h; exact ⟨by decide, fun e he => by omega⟩
    · rename_i h
      obtain ⟨i1, i2⟩ := ih (y / 2) (by rw [Nat.pow_succ] at hy; omega)
      refine ⟨by rw [Nat.add_comm, Nat.pow_succ]; omega, fun e he => ?_⟩
      cases e with
      | zero => simp; omega
      | succ e => have := i2 e (by omega); rw [Nat.pow_succ]; omega
theorem depth_len (m : Int) (h1 : 1 < m) (h2 : m ≤ 9223372036854775807) : depth m = min (Lib.bitLen (m - 1).toNat) 62 := by
  obtain ⟨i1, i2⟩ := bitLen_spec (m - 1).toNat (by omega)
  generalize Lib.bitLen (m - 1).toNat = L at *
  have cast : ∀ e : Nat, ((2 ^ e : Nat) : Int) = (2 : Int) ^ e := fun e => by simp
  refine depth_at m (min L 62) (Nat.min_le_right _ _) (fun e he => ?_) ?_
  · have := i2 e (by omega)
    rw [← cast]; omega
  · by_cases h : L ≤ 62
    · right
      rw [Nat.min_eq_left h, ← cast]; omega
    · left; omega
theorem depth_low (m : Int) (h : m ≤ 1) : depth m = 0 := depth_at m 0 (by decide) (fun e he => by omega) (.inr (by simpa using h))

set_option maxRecDepth 100000 in
theorem depth_any (m : Int) (h0 : -9223372036854775808 ≤ m) (h1 : m ≤ 9223372036854775807) (w : World) :
    Calls Tryz.prog 101 #[.int .i64 m] w fun e w' => e = .returned (.int .i64 (depth m)) ∧ w' = w := by
  by_cases hm : m ≤ 1
  · rw [depth_low m hm]
    go_enter Tryz.func101, Tryz.ntmps101
    go_wp2
    go_ret
    exact ⟨rfl, rfl⟩
  · have hd := depth_len m (by omega) h1
    have hb : Lib.bitLen (m - 1).toNat ≤ 64 := Lib.bitLen_le _ 64 (by omega) (by omega)
    have HL := hid (fun w => len_any (m - 1) (by omega) (by omega) w)
    rw [hd]
    clear hd
    generalize Lib.bitLen (m - 1).toNat = L at *
    by_cases hl : L ≤ 62
    · rw [Nat.min_eq_left hl]
      go_enter Tryz.func101, Tryz.ntmps101
      go_wp2_with fail
      refine (HL.out w).mono ?_
      rintro e w' ⟨rfl, rfl⟩
      go_wp2
      go_ret
      exact ⟨rfl, rfl⟩
    · rw [Nat.min_eq_right (by omega)]
      go_enter Tryz.func101, Tryz.ntmps101
      go_wp2_with fail
      refine (HL.out w).mono ?_
      rintro e w' ⟨rfl, rfl⟩
      go_wp2
      go_ret
      exact ⟨rfl, rfl⟩

theorem depth_next (m : Int) (d : Nat) (hd : d < 62) (hb : ∀ e, e < d → (2 ^ e : Int) < m) (h : (2 ^ d : Int) < m) : ∀ e, e < d + 1 → (2 ^ e : Int) < m := fun e he => by
  by_cases h2 : e < d
  · exact hb e h2
  · rw [show e = d by omega]; exact h
end Go.Proofs.YtbmcmabimfoknaaGreatDoor
