/- New bytes, a new Writer; TakeBits of no end. -/
import Derived.Test.YtckmdofmplkdfaaWriterB
import Derived.Test.YtckmdofmplkdfaaBits
import Derived.Test.YtckmdofmplkdfaaConv
import Derived.Lib.SlBytesConst
import Derived.Lib.SmallJoins
namespace Go.Proofs.Ytckmdofmplkdfaa
open Go.RowKit
set_option linter.unusedVariables false
set_option maxRecDepth 100000

set_option maxHeartbeats 1000000 in
theorem takeBits_zero (v : Value) (bs : List Nat) (lim : Int) (w : World) (hB : IsB w v bs) (h0 : 0 < bs.length) (hz : bs.getD (bs.length - 1) 0 = 0) (hl : bs.length ≤ 140737488355328) :
    Calls Try.prog 11 #[v, .int .i64 lim] w fun e w' => e = .returned (.tuple #[.slice none 0 0, .int .i64 3]) ∧ w' = w := by
  obtain ⟨⟨ao, cap, rfl, h1, h2, h3, h⟩, h8⟩ := hB
  obtain ⟨b, off, rfl, hc⟩ : ∃ b off, ao = some ⟨b, off, none⟩ ∧ ∀ i, i < bs.length → w.cell? ⟨b, off + i, none⟩ = some (.int .u8 (bs.getD i 0 : Nat)) := by
    rcases h with h | h
    · omega
    · exact h
  have hc' := hc (bs.length - 1) (by omega)
  rw [hz] at hc'
  obtain ⟨n, hn⟩ : ∃ n, bs.length = n + 1 := ⟨bs.length - 1, by omega⟩
  rw [hn, show n + 1 - 1 = n by omega] at hc'
  rw [hn]
  have hq : (((n : Int) + 1) == 0) = false := by rw [beq_eq_false_iff_ne]; omega
  have HN := hid hn
  have hnb : n ≤ 140737488355328 := by omega
  have hc2 : w.cell? ⟨b, off + n, none⟩ = some (.int .u8 0) := hc'
  clear hc hn hz h hc'
  go_enter Try.func11, Try.ntmps11
  go_wp2
  go_ret2
  exact ⟨rfl, rfl⟩

theorem isB_new (w : World) (bs : List Nat) (fr : Nat × Nat) (hb : ∀ z ∈ bs, z < 256) (hl : bs.length ≤ 1000) : IsB (w.alloc (.cells (nums .u8 bs) 5 fr)) (.slice (some ⟨w.heap.size, 0, none⟩) bs.length bs.length) bs := by
  refine ⟨⟨_, _, rfl, Nat.le_refl _, by unfold maxLen; omega, (fun e => by cases e), .inr ⟨w.heap.size, 0, rfl, fun i hi => ?_⟩⟩, hb⟩
  rw [Joins.cell_alloc_mark_at w _ _ fr _ _ rfl, Nat.zero_add]
  exact nums_get .u8 bs i hi
theorem wr_new (w : World) : Wr (w.alloc (.cells #[.int .i64 0, .pointer none] 47)) w.heap.size (fun _ => False) [] :=
  ⟨⟨[], none, heap_alloc_new w _, rfl, trivial⟩, id, fun _ h => h.elim⟩
end Go.Proofs.Ytckmdofmplkdfaa
