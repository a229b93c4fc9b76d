/- Attestations taken: answer. -/
import Derived.Test.YtpaamhmighgjeaaGreatTakeV
import Derived.Test.YtpaamhmighgjeaaGreatValM
namespace Go.Proofs.YtpaamhmighgjeaaGreat
open Go.RowKit Go.Shelf
set_option linter.unusedVariables false
set_option maxRecDepth 100000

/-- An Attestation's cells; the zero one. -/
def atC (sb : Value) (V : List Value) (sig : List Nat) : List Value := [sb] ++ (V ++ (cellsB sig ++ []))
abbrev vt0 : List Value := vtC 0 0 (zeros 32) 0 (zeros 32) 0 (zeros 32)
abbrev at0 : List Value := atC (.slice none 0 0) vt0 (zeros 32)
theorem Tryz.ty58 : Ty Tryz.prog 58 at0 := ⟨by kernel_rfl, _, Tryz.underlying58, rfl⟩
theorem at0_one : at0.toArray.all (·.oneCell') = true := by kernel_rfl
/-- What a good or a bad Attestation answers. -/
def atA (t : Bool) (C : List Value) : Value := .tuple #[.agg (if t then C else at0).toArray, .int .i64 (if t then 0 else 3)]

set_option maxHeartbeats 1000000 in
theorem answerAt_any (C : List Value) (t : Bool) (w : World) (hl : C.length = 133) (h1 : C.toArray.all (·.oneCell') = true) :
    Calls Tryz.prog 48 #[.agg C.toArray, .bool t] w fun x w' => x = .returned (atA t C) ∧ Below w.heap.size w w' := by
  have HL := hid hl
  have HO := hid h1
  clear hl h1
  cases t with
  | true =>
    go_enter Tryz.func48, Tryz.ntmps48
    go_wp2_with (first
      | (refine wpList_box_c rfl 2 rfl (.tmp 0) rfl C rfl ?_; intro w1 H1 B1 S1)
      | (refine wpList_alloc_c Tryz.ty58 rfl 4 rfl rfl ?_; intro w2 H2 B2 S2; rw [S1] at H2 S2; rw [S1])
      | (refine wpList_load_c Tryz.ty58 rfl (.tmp 2) rfl w.heap.size C rfl (by rw [HL.out]; rfl) (H1.keep B2) ?_)
      | (refine wpList_store_c Tryz.ty58 rfl (.tmp 4) (.tmp 10) rfl (w.heap.size + 1) C rfl rfl (by rw [HL.out]; rfl) HO.out _ H2 rfl ?_; intro w3 H3 O3))
    refine bodyPost_ret (results_c Tryz.ty58 rfl _ w3 (w.heap.size + 1) C (.int .i64 0) rfl rfl H3 (by rw [HL.out]; rfl)) rfl ⟨rfl, ?_⟩
    exact below_only (B1.trans (B2.mono (by omega))) O3 (by omega)
  | false =>
    go_enter Tryz.func48, Tryz.ntmps48
    go_wp2_with (first
      | (refine wpList_box_c rfl 2 rfl (.tmp 0) rfl C rfl ?_; intro w1 H1 B1 S1)
      | (refine wpList_alloc_c Tryz.ty58 rfl 4 rfl rfl ?_; intro w2 H2 B2 S2; rw [S1] at H2 S2; rw [S1])
      | (refine wpList_alloc_c Tryz.ty58 rfl 6 rfl rfl ?_; intro w4 H4 B4 S4; rw [S2] at H4 S4; rw [S2])
      | (refine wpList_load_c Tryz.ty58 rfl (.tmp 6) rfl (w.heap.size + 1 + 1) at0 rfl rfl H4 ?_)
      | (refine wpList_store_c Tryz.ty58 rfl (.tmp 4) (.tmp 9) rfl (w.heap.size + 1) at0 rfl rfl rfl at0_one _ (H2.keep B4) rfl ?_; intro w3 H3 O3))
    refine bodyPost_ret (results_c Tryz.ty58 rfl _ w3 (w.heap.size + 1) at0 (.int .i64 3) rfl rfl H3 rfl) rfl ⟨rfl, ?_⟩
    exact below_only (B1.trans ((B2.mono (by omega)).trans (B4.mono (by omega)))) O3 (by omega)
end Go.Proofs.YtpaamhmighgjeaaGreat
