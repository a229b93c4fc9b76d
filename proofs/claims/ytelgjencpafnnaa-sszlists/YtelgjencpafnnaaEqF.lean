/- A function held against nil. -/
import Derived.Test.YtelgjencpafnnaaSplit4
namespace Go.Proofs.Ytelgjencpafnnaa
open Go.RowKit Go.Shelf
set_option linter.unusedVariables false
theorem eqF_some {P : Program} (t : TypeId) (d : TypeDesc) (hd : P.underlying t = some d) (hf : ∃ a b c, d = .func a b c) (f : Nat) (l : Array Value) (w : World) : (binOp .eql t (.func (.func f) #[] l) .nilFunc).run P w = .ok (.bool false) w := by
  obtain ⟨a, b, c, rfl⟩ := hf
  have h : (Op.equalIn 10000 t (.func (.func f) #[] l) .nilFunc).run P w = .ok false w := by
    show (Op.equalIn (9999 + 1) t _ _).run P w = _
    unfold Op.equalIn
    simp only [Sem.run_bind, run_underlying hd, Result.andThen_ok, Sem.run_pure]
  show ((Op.equal t _ _ >>= fun r => pure (Value.bool r) : Sem Value)).run P w = _
  simp only [Op.equal, Op.maxDepth, Sem.run_bind, h, Result.andThen_ok, Sem.run_pure]
theorem eqF_none {P : Program} (t : TypeId) (d : TypeDesc) (hd : P.underlying t = some d) (hf : ∃ a b c, d = .func a b c) (w : World) : (binOp .eql t .nilFunc .nilFunc).run P w = .ok (.bool true) w := by
  obtain ⟨a, b, c, rfl⟩ := hf
  have h : (Op.equalIn 10000 t .nilFunc .nilFunc).run P w = .ok true w := by
    show (Op.equalIn (9999 + 1) t _ _).run P w = _
    unfold Op.equalIn
    simp only [Sem.run_bind, run_underlying hd, Result.andThen_ok, Sem.run_pure]
  show ((Op.equal t _ _ >>= fun r => pure (Value.bool r) : Sem Value)).run P w = _
  simp only [Op.equal, Op.maxDepth, Sem.run_bind, h, Result.andThen_ok, Sem.run_pure]
theorem eqSeq_some (f : Nat) (l : Array Value) (w : World) : (binOp .eql 25 (.func (.func f) #[] l) .nilFunc).run Try.prog w = .ok (.bool false) w := eqF_some _ _ Try.underlying25 ⟨_, _, _, rfl⟩ f l w
theorem eqSeq_none (w : World) : (binOp .eql 25 .nilFunc .nilFunc).run Try.prog w = .ok (.bool true) w := eqF_none _ _ Try.underlying25 ⟨_, _, _, rfl⟩ w
end Go.Proofs.Ytelgjencpafnnaa
