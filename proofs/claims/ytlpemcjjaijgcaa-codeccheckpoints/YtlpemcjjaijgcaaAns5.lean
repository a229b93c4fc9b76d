/- Checkpoints taken: answer. -/
import Derived.Test.YtlpemcjjaijgcaaPut5
namespace Go.Proofs.Ytlpemcjjaijgcaa
open Go.RowKit Go.Shelf
set_option linter.unusedVariables false
set_option maxRecDepth 100000

/-- What a good or a bad Checkpoint answers. -/
def cpA (t : Bool) (e : Nat) (r : List Nat) : Value := .tuple #[.agg (if t then cpC e r else cpC 0 (zeros 32)).toArray, .int .i64 (if t then 0 else 3)]

set_option maxHeartbeats 1000000 in
theorem answerCp_any (e : Nat) (r : List Nat) (t : Bool) (w : World) (hr : r.length = 32) :
    Calls Try.prog 51 #[.agg (cpC e r).toArray, .bool t] w fun x w' => x = .returned (cpA t e r) ∧ Below w.heap.size w w' := by
  have HR := hid hr
  clear hr
  cases t with
  | true =>
    go_enter Try.func51, Try.ntmps51
    go_wp2_with (first
      | (refine wpList_box_c rfl 2 rfl (.tmp 0) rfl (cpC e r) rfl ?_; intro w1 H1 B1 S1)
      | (refine wpList_alloc_c Try.ty26 rfl 4 rfl rfl ?_; intro w2 H2 B2 S2; rw [S1] at H2 S2; rw [S1])
      | (refine wpList_load_c Try.ty26 rfl (.tmp 2) rfl w.heap.size (cpC e r) rfl (by rw [cpC_length e HR.out]; rfl) (H1.keep B2) ?_)
      | (refine wpList_store_c Try.ty26 rfl (.tmp 4) (.tmp 10) rfl (w.heap.size + 1) (cpC e r) rfl rfl (by rw [cpC_length e HR.out]; rfl) (cpC_one e r) _ H2 rfl ?_; intro w3 H3 O3))
    refine bodyPost_ret (results_c Try.ty26 rfl _ w3 (w.heap.size + 1) (cpC e r) (.int .i64 0) rfl rfl H3 (by rw [cpC_length e HR.out]; rfl)) rfl ⟨rfl, ?_⟩
    exact below_only (B1.trans (B2.mono (by omega))) O3 (by omega)
  | false =>
    go_enter Try.func51, Try.ntmps51
    go_wp2_with (first
      | (refine wpList_box_c rfl 2 rfl (.tmp 0) rfl (cpC e r) rfl ?_; intro w1 H1 B1 S1)
      | (refine wpList_alloc_c Try.ty26 rfl 4 rfl rfl ?_; intro w2 H2 B2 S2; rw [S1] at H2 S2; rw [S1])
      | (refine wpList_alloc_c Try.ty26 rfl 6 rfl rfl ?_; intro w4 H4 B4 S4; rw [S2] at H4 S4; rw [S2])
      | (refine wpList_load_c Try.ty26 rfl (.tmp 6) rfl (w.heap.size + 1 + 1) (cpC 0 (zeros 32)) rfl rfl H4 ?_)
      | (refine wpList_store_c Try.ty26 rfl (.tmp 4) (.tmp 9) rfl (w.heap.size + 1) (cpC 0 (zeros 32)) rfl rfl rfl (cpC_one _ _) _ (H2.keep B4) rfl ?_; intro w3 H3 O3))
    refine bodyPost_ret (results_c Try.ty26 rfl _ w3 (w.heap.size + 1) (cpC 0 (zeros 32)) (.int .i64 3) rfl rfl H3 rfl) rfl ⟨rfl, ?_⟩
    exact below_only (B1.trans ((B2.mono (by omega)).trans (B4.mono (by omega)))) O3 (by omega)
end Go.Proofs.Ytlpemcjjaijgcaa
