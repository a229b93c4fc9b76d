/- Epochs of a state; who is active. -/
import Derived.Test.YthjjdjidbhlncaaAw9
import Derived.Test.YthjjdjidbhlncaaOpen9
namespace Go.Proofs.Ythjjdjidbhlncaa
open Go.RowKit
set_option linter.unusedVariables false
set_option linter.unusedSimpArgs false
set_option maxRecDepth 100000

noncomputable def zsState : List Value := match (Try.prog.info? 43).map (fun i : TypeInfo => i.zero) with
  | some (some (Value.agg a)) => a.toList
  | _ => []
theorem Try.tyState : Ty Try.prog 43 zsState := ⟨by kernel_rfl, _, Try.underlying43, rfl⟩
/-- A state with this slot alone. -/
theorem built_slot (n : Nat) : ∃ Z : List Value, Try.prog.built 43 [(0, .int .u64 (n : Nat))] = some Z.toArray ∧ Z[0]? = some (.int .u64 (n : Nat)) ∧ Z.length = zsState.length ∧ Z.toArray.all (·.oneCell') = true := by
  obtain ⟨A, hA⟩ := Option.isSome_iff_exists.1 (show (Try.prog.built 43 [(0, .int .u64 (n : Nat))]).isSome = true by kernel_rfl)
  have h0 : ((Try.prog.built 43 [(0, .int .u64 (n : Nat))]).getD #[])[0]? = some (.int .u64 (n : Nat)) := by kernel_rfl
  have h1 : ((Try.prog.built 43 [(0, .int .u64 (n : Nat))]).getD #[]).size = 1529 := by kernel_rfl
  have h2 : ((Try.prog.built 43 [(0, .int .u64 (n : Nat))]).getD #[]).toList.all (·.oneCell') = true := by kernel_rfl
  have h3 : zsState.length = 1529 := by kernel_rfl
  rw [hA, Option.getD_some] at h0 h1 h2
  refine ⟨A.toList, by simpa using hA, by simpa using h0, by simpa [h3] using h1, by simpa using h2⟩
set_option maxHeartbeats 1000000 in
theorem now_any (cs : List Value) (n : Nat) (hn : n < 18446744073709551616) (h0 : cs[0]? = some (.int .u64 (n : Nat))) (w : World) :
    Calls Try.prog 8 #[.agg cs.toArray] w fun e w' => e = .returned (.int .u64 ((n / 4 : Nat) : Int)) ∧ Below w.heap.size w w' := by
  go_enter Try.func8, Try.ntmps8
  go_wp2_with ((with_reducible refine at_list' ?_); refine wpList_box_c rfl 1 rfl (.tmp 0) rfl cs rfl ?_; intro w1 H1 B1 S1; have c0 := H1.cell h0; have BB := shut B1; clear H1 B1 S1)
  refine (epoch_any n hn w1).mono ?_
  rintro e w' ⟨rfl, rfl⟩
  go_wp2
  go_ret
  exact ⟨rfl, BB.out⟩
/-- The epoch ahead. -/
def befV (n : Nat) : Nat := n / 4 - 1
set_option maxHeartbeats 1000000 in
theorem before_any (cs : List Value) (n : Nat) (hn : n < 18446744073709551616) (h0 : cs[0]? = some (.int .u64 (n : Nat))) (hl : cs.length = zsState.length) (w : World) :
    Calls Try.prog 9 #[.agg cs.toArray] w fun e w' => e = .returned (.int .u64 ((befV n : Nat) : Int)) ∧ Below w.heap.size w w' := by
  have HN := shut (fun wq => now_any cs n hn h0 wq)
  have HL := shut hl
  clear h0 hl
  go_enter Try.func9, Try.ntmps9
  go_wp2_with ((with_reducible refine at_list' ?_); first
    | (refine wpList_box_c rfl 1 rfl (.tmp 0) rfl cs rfl ?_; intro w1 H1 B1 S1; have BB := shut B1; have hd := shut H1; clear H1 B1 S1)
    | (refine wpList_load_c Try.tyState rfl (.tmp 1) rfl w.heap.size cs rfl HL.out hd.out ?_))
  refine (HN.out w1).mono ?_
  rintro e w2 ⟨rfl, B2⟩
  have BC := shut (below_more BB.out B2 (Nat.le_refl _))
  clear B2
  have hv := shut (show subV ((n / 4 : Nat) : Int) 1 = ((befV n : Nat) : Int) by unfold subV befV; split <;> omega)
  have h1 : (0 : Int) ≤ ((n / 4 : Nat) : Int) := by omega
  have h2 : ((n / 4 : Nat) : Int) < 18446744073709551616 := by omega
  generalize ((n / 4 : Nat) : Int) = q at *
  go_wp2_with (go_at_call 16; refine (less_any q 1 h1 h2 (by omega) (by omega) _).mono ?_; rintro e w3 ⟨rfl, rfl⟩)
  go_ret
  exact ⟨by rw [hv.out]; rfl, BC.out⟩
theorem refBef_any (n : Nat) (hn : n < 18446744073709551616) (w : World) :
    Calls Try.prog 10 #[.int .u64 ((n / 4 : Nat) : Int), .int .u64 ((1 : Nat) : Int)] w fun e w' => e = .returned (.int .u64 ((befV n : Nat) : Int)) ∧ Below w.heap.size w w' := by
  refine (refLess_any ((n / 4 : Nat) : Int) 1 (by omega) (by omega) (by omega) (by omega) w).mono ?_
  rintro e w3 ⟨rfl, rfl⟩
  refine ⟨?_, Below.refl _ _⟩
  have h : subV ((n / 4 : Nat) : Int) 1 = ((befV n : Nat) : Int) := by unfold subV befV; split <;> omega
  rw [h]
section
variable {o : Oper} {a : Act} {w : World}
theorem run_quo4 (x y : Operand) (ho : o.op = .binOp .quo 22 x y 22) (m : Nat) (hm : m < 18446744073709551616) (hx : a.eval x = .int .u64 (m : Nat)) (hy : a.eval y = .int .u64 ((4 : Nat) : Int)) : (execOp a.eval o).run Try.prog w = .ok (.value (.int .u64 ((m / 4 : Nat) : Int))) w := by
  have h4 : IntKind.u64.wrap ((m : Int).tdiv 4) = ((m / 4 : Nat) : Int) := by
    rw [IntWalk.u64_quo _ _ ⟨by omega, by omega, by omega⟩]; omega
  have h5 : IntKind.u64.wrap ((m : Int) / 4) = ((m / 4 : Nat) : Int) := by rw [IntKind.wrap_u64]; omega
  unfold execOp
  simp only [ho, hx, hy]
  simp [go_sem, h4, h5]
theorem run_mul4 (x y : Operand) (ho : o.op = .binOp .mul 22 x y 22) (m : Nat) (hx : a.eval x = .int .u64 ((4 : Nat) : Int)) (hy : a.eval y = .int .u64 (m : Nat)) : (execOp a.eval o).run Try.prog w = .ok (.value (.int .u64 ((4 * m % 18446744073709551616 : Nat) : Int))) w := by
  have h4 : IntKind.u64.wrap (4 * (m : Int)) = ((4 * m % 18446744073709551616 : Nat) : Int) := by
    rw [IntKind.wrap_u64]; omega
  unfold execOp
  simp only [ho, hx, hy]
  simp [go_sem, h4]
end
theorem va_at (zk zr : List Nat) (ze : Nat) (zs : Bool) (zl za zx zw : Nat) (hk : Rt zk) (hr : Rt zr) : (vaX zk zr ze zs zl za zx zw)[67]? = some (.int .u64 (za : Nat)) ∧ (vaX zk zr ze zs zl za zx zw)[68]? = some (.int .u64 (zx : Nat)) ∧ (vaX zk zr ze zs zl za zx zw).length = 70 := by
  have lk : (cellsB zk).length = 32 := by rw [cellsB_len, hk.1]
  have lr : (cellsB zr).length = 32 := by rw [cellsB_len, hr.1]
  refine ⟨?_, ?_, by simp [vaX, lk, lr]⟩
  · unfold vaX
    rw [List.getElem?_append_right (by omega), lk, List.getElem?_append_right (by omega), lr]; rfl
  · unfold vaX
    rw [List.getElem?_append_right (by omega), lk, List.getElem?_append_right (by omega), lr]; rfl
end Go.Proofs.Ythjjdjidbhlncaa
