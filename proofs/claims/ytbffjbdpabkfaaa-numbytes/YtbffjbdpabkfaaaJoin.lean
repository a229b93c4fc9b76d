/- What the statement on bytes asks of Put, Take and append, in whatever world. -/
import Derived.Test.YtbffjbdpabkfaaaAwake
import Derived.Laws.AppendOwnNone
import Derived.Deep.RegionLaw
import Derived.Deep.RegionWith
namespace Go.Proofs.Ytbffjbdpabkfaaa
open Go.RowKit
set_option linter.unusedVariables false

theorem grown_of_below {w w' : World} (h : Below w.heap.size w w') (row : Option Nat) : w.grownBy w' row :=
  ⟨h.os, h.tape, h.output, h.size, fun k hk _ => h.block k hk⟩
theorem own_below {w w' : World} {B e s n : Nat} {v : Value} {xs : List Value} (h : w.ownsRow B e s v n xs) (k : Below w.heap.size w w') : w'.ownsRow B e s v n xs :=
  h.kept (grown_of_below k none) (by cases hv : v.ownBlock <;> simp)
theorem bel_call {w W W' : World} (h : Below w.heap.size w W) (k : Below W.heap.size W W') : Below w.heap.size w W' := h.trans (k.mono h.size)
theorem bel_alloc {w W : World} (h : Below w.heap.size w W) (o : Obj) : Below w.heap.size w (W.alloc o) := h.alloc h.size o

theorem put_int (n : Nat) (size : Int) (hn : n < 18446744073709551616) (hs : size ≤ 2147483647) (w : World) :
    Calls Try.prog 20 #[.int .u64 n, .int .i64 size] w fun e w' => ∃ v, e = .returned v ∧
      w'.ownsRow w.heap.size 5 1 v size.toNat ((putL n size.toNat).map (Value.int .u8)) ∧ Below w.heap.size w w' := by
  by_cases h : size < 1
  · refine (put_none n size h w).mono ?_
    rintro e w' ⟨rfl, rfl⟩
    rw [show size.toNat = 0 by omega]
    exact ⟨_, rfl, World.ownsRow_nil _ _ _ _, Below.refl _ _⟩
  · obtain ⟨k, rfl⟩ := Int.eq_ofNat_of_zero_le (show 0 ≤ size by omega)
    refine (put_any n k hn (by omega) (by omega) w).mono ?_
    rintro e w' ⟨cap, rfl, h1, h2⟩
    exact ⟨_, rfl, h1, h2⟩

theorem put_8 (n : Nat) (hn : n < 18446744073709551616) (w : World) :
    Calls Try.prog 20 #[.int .u64 n, .int .i64 8] w fun e w' => ∃ v, e = .returned v ∧ w'.ownsRow w.heap.size 5 1 v 8 ((putL n 8).map (Value.int .u8)) ∧ Below w.heap.size w w' :=
  put_int n 8 hn (by omega) w

theorem reads_own {w : World} {B n : Nat} {v : Value} {zs : List Int} (h : w.ownsRow B 5 1 v n (zs.map (Value.int .u8))) (hr : ∀ z ∈ zs, 0 ≤ z ∧ z < 256) :
    ∃ ao cap, v = .slice ao n cap ∧ n ≤ maxLen ∧ ReadsBytes w ao n zs := by
  have hl : zs.length = n := by simpa using h.1
  have h' := h
  rcases h.2 with ⟨rfl, rfl⟩ | ⟨g, cap, cur, rfl, hb, hg, hnc, hm, hcs, htk⟩
  · exact ⟨none, 0, rfl, Nat.zero_le _, hl, hr, .inl rfl⟩
  · refine ⟨_, cap, rfl, by omega, hl, hr, .inr ⟨g, 0, rfl, fun i hi => ?_⟩⟩
    have := h'.cellAt i (by omega)
    rw [Nat.zero_add, this, List.getElem?_map, List.getD_eq_getElem?_getD, List.getElem?_eq_getElem (by omega)]
    rfl
theorem take_own {w : World} {B n : Nat} {v : Value} {zs : List Int} (h : w.ownsRow B 5 1 v n (zs.map (Value.int .u8))) (hr : ∀ z ∈ zs, 0 ≤ z ∧ z < 256) :
    Calls Try.prog 22 #[v] w fun e w' => e = .returned (.int .u64 (takeV zs : Nat)) ∧ w' = w := by
  obtain ⟨ao, cap, rfl, hm, hz⟩ := reads_own h hr
  exact take_any ao n cap zs w hm hz
theorem reads_below {w w' : World} {ao : Option Addr} {len : Nat} {zs : List Int} (h : ReadsBytes w ao len zs) (k : Below w.heap.size w w') : ReadsBytes w' ao len zs := by
  refine ⟨h.1, h.2.1, ?_⟩
  rcases h.2.2 with h0 | ⟨b, off, rfl, hc⟩
  · exact .inl h0
  · by_cases h0 : len = 0
    · exact .inl h0
    · refine .inr ⟨b, off, rfl, fun i hi => ?_⟩
      have hb : b < w.heap.size := World.block_lt_of_cell? w ⟨b, off + i, none⟩ (hc i hi)
      rw [k.cell (p := ⟨b, off + i, none⟩) hb]
      exact hc i hi
theorem putL_range (n k : Nat) : ∀ z ∈ putL n k, 0 ≤ z ∧ z < 256 := by
  intro z hz
  simp only [putL, List.mem_map] at hz
  obtain ⟨i, _, rfl⟩ := hz
  exact byteAt_range n i

/-- 'append' of bytes that came in onto a row of the call's own that is empty. -/
theorem run_append_bytes {w : World} {base : Nat} {v : Value} (hown : w.ownsRow base 5 1 v 0 []) (ao : Option Addr) (len cap : Nat) (zs : List Int)
    (hz : ReadsBytes w ao len zs) (hnil : ao = none → len = 0 ∧ cap = 0) (hl : len ≤ 1048576) (hb : base ≤ w.heap.size) (ty : TypeId) :
    ∃ v' w', (Builtin.append_ #[32, 32] ty #[v, .slice ao len cap]).run Try.prog w = .ok v' w' ∧ w'.ownsRow base 5 1 v' len (zs.map (Value.int .u8)) ∧ w.grownBy w' v.ownBlock := by
  obtain ⟨i0, hi, hz0, hz1, hz2⟩ := info_parts Try.info5
  cases ao with
  | none =>
    obtain ⟨rfl, rfl⟩ := hnil rfl
    have : zs = [] := List.length_eq_zero_iff.1 hz.1
    subst this
    exact ⟨v, w, run_append_owned_none w base 32 ty 5 i0 1 Try.underlying32 hi v 0 [] hown, hown, World.grownBy.refl _ _⟩
  | some ad =>
    obtain ⟨v', w', hrun, r1, r2, _⟩ := run_append_own (P := Try.prog) w base 32 ty 5 i0 (.int .u8 0) 1 1 Try.underlying32 hi hz0 hz1 hz2 rfl (by decide) v 0 [] hown ad len cap (zs.map (Value.int .u8))
      (by simpa using hz.1) (by
        intro j u hj
        rcases hz.2.2 with h0 | ⟨b, off, hao, hc⟩
        · have : zs = [] := List.length_eq_zero_iff.1 (hz.1.trans h0)
          subst this
          simp at hj
        · simp only [Option.some.injEq] at hao
          subst hao
          rw [List.getElem?_map, Option.map_eq_some_iff] at hj
          obtain ⟨z, hzj, rfl⟩ := hj
          have hjl : j < len := by rw [← hz.1]; exact (List.getElem?_eq_some_iff.1 hzj).1
          rw [Addr.add_lit]
          rw [hc j hjl, List.getD_eq_getElem?_getD, hzj]; rfl) (by intro u hu; simp only [List.mem_map] at hu; obtain ⟨z, _, rfl⟩ := hu; rfl)
      (by unfold maxLen; omega) (by omega) hb
    rw [Nat.zero_add, List.nil_append] at r1
    exact ⟨v', w', hrun, r1, r2⟩

theorem step_append_bytes {ops : Array Oper} {o : Oper} {a : Act} {w : World} {K : Act → World → Prop} {Q : Exit → Act → World → Prop} {E : Prop} (s x : Operand)
    (hw : Region.wanted o (yielded ops a.tmps) = true)
    (hop : o.op = Op.call { callee := Callee.builtin Builtin.append, args := #[s, x], argTypes := #[32, 32] })
    (base : Nat) (v : Value) (hown : w.ownsRow base 5 1 v 0 []) (hb : base ≤ w.heap.size) (hs : a.eval s = v) (ao : Option Addr) (len cap : Nat) (zs : List Int) (hx : a.eval x = .slice ao len cap)
    (hz : ReadsBytes w ao len zs) (hnil : ao = none → len = 0 ∧ cap = 0) (hl : len ≤ 1048576)
    (hK : ∀ v' w', w'.ownsRow base 5 1 v' len (zs.map (Value.int .u8)) → w.grownBy w' v.ownBlock → K (a.put o.dst v') w') :
    if Region.wanted o (yielded ops a.tmps) = true then Oper.wp Try.prog o a w K Q else E := by
  rw [if_pos hw]
  obtain ⟨v', w', hrun, r1, r2⟩ := run_append_bytes hown ao len cap zs hz hnil hl hb o.type
  unfold Oper.wp
  simp [execOp, hop, resolve, invoke, builtin, hs, hx, hrun, Result.andThen]
  exact hK v' w' r1 r2
end Go.Proofs.Ytbffjbdpabkfaaa
