/- The fixed facts that every statement of layer 1 asks first hold. -/
import Derived.Test.YtbffjbdpabkfaaaBytes
namespace Go.Proofs.Ytbffjbdpabkfaaa
open Go.RowKit
set_option linter.unusedVariables false

theorem root_15c (w : World) : Calls Try.prog 17 #[.int .u64 15] w fun e w' => e = .returned (.int .u64 3) ∧ w' = w := by
  have := root_any 15 w
  rw [root_15] at this
  exact this
theorem root_16c (w : World) : Calls Try.prog 17 #[.int .u64 16] w fun e w' => e = .returned (.int .u64 4) ∧ w' = w := by
  have := root_any 16 w
  rw [root_16] at this
  exact this
theorem root_farc (w : World) : Calls Try.prog 17 #[.int .u64 18446744073709551615] w fun e w' => e = .returned (.int .u64 4294967295) ∧ w' = w := by
  have := root_any 18446744073709551615 w
  rw [root_far] at this
  exact this

/-- The bytes of a list of numbers. -/
def bytesOf (ns : List Int) : ByteArray := ns.foldl (fun r n => r.push (UInt8.ofNat n.toNat)) ByteArray.empty

/-- A row of bytes that the call owns, turned into a string. -/
theorem conv_own {w : World} {B n : Nat} {v : Value} {l : List Int} (h : w.ownsRow B 5 1 v n (l.map (Value.int .u8))) :
    (convert 32 9 v).run Try.prog w = .ok (.string (bytesOf l)) w := by
  rcases h with ⟨hl, ⟨rfl, rfl⟩ | ⟨g, cap, cur, rfl, hb, hg, hnc, hm, hcs, htk⟩⟩
  · rw [run_convert_bytes_string w 32 9 5 none 0 0 Try.underlying32 Try.underlying5 Try.underlying9]
    have : l = [] := by simpa using hl
    subst this
    unfold Conv.bytesToString bytesOf
    simp [Sem.run_pure]
  · rw [run_convert_bytes_string w 32 9 5 _ _ _ Try.underlying32 Try.underlying5 Try.underlying9]
    refine run_bytesToString w _ n cap l ?_
    have hn : (l.map (Value.int .u8)).length = n := by simpa using hl
    have := run_loadCells_list (P := Try.prog) w ⟨g, 0, none⟩ (l.map (Value.int .u8)) (fun j u hj => by
      rw [← htk, List.getElem?_take] at hj
      by_cases hjn : j < n * 1
      · rw [if_pos hjn] at hj
        rw [Addr.add_lit]
        rw [cell_of_row w g _ cur 5 (0, 0) hg]
        simpa using hj
      · rw [if_neg hjn] at hj; simp at hj)
    rw [hn] at this
    exact this

theorem two_new (w : World) : ∀ i, i < 2 → (w.alloc (.cells #[.int .u8 2, .int .u8 1] 5)).cell? ⟨w.heap.size, 0 + i, none⟩ = some (.int .u8 ([2, 1].getD i 0)) := by
  intro i hi
  match i, hi with
  | 0, _ => simp
  | 1, _ => simp

set_option maxHeartbeats 1000000 in
theorem awake_any (w : World) : Calls Try.prog 7 #[] w fun e w' => e = .returned (.bool true) ∧ Below w.heap.size w w' := by
  go_enter Try.func7, Try.ntmps7
  go_wp2_with fail
  refine (add_any 18446744073709551615 1 (by omega) (by omega) (by omega) (by omega) _).mono ?_
  rintro e w' ⟨rfl, rfl⟩
  rw [show addV 18446744073709551615 1 = 0 by decide +kernel, show addB 18446744073709551615 1 = false by decide +kernel]
  go_wp2_with fail
  refine (less_any 3 5 (by omega) (by omega) (by omega) (by omega) _).mono ?_
  rintro e w' ⟨rfl, rfl⟩
  rw [show subV 3 5 = 0 by decide +kernel]
  go_wp2_with fail
  refine (root_15c _).mono ?_
  rintro e w' ⟨rfl, rfl⟩
  go_wp2_with fail
  refine (root_16c _).mono ?_
  rintro e w' ⟨rfl, rfl⟩
  go_wp2_with fail
  refine (root_farc _).mono ?_
  rintro e w' ⟨rfl, rfl⟩
  go_wp2_with fail
  refine (put_any 258 3 (by omega) (by omega) (by omega) _).mono ?_
  rintro e w1 ⟨cap, rfl, hown, hbel⟩
  have hcv := conv_own hown
  rw [show bytesOf (putL 258 3) = ⟨#[2, 1, 0]⟩ by decide +kernel] at hcv
  clear hown
  go_wp2_with fail
  refine (take_any _ 2 2 [2, 1] _ (by decide) ⟨rfl, by simp, .inr ⟨_, _, rfl, two_new w1⟩⟩).mono ?_
  rintro e w2 ⟨rfl, rfl⟩
  rw [show takeV [2, 1] = 258 by decide +kernel]
  go_wp2
  go_ret
  exact ⟨rfl, hbel.alloc hbel.size _⟩
end Go.Proofs.Ytbffjbdpabkfaaa
