/- The document's bits. -/
import Derived.Test.YtckmdofmplkdfaaRefBits
import Derived.Test.YtckmdofmplkdfaaTakeB
namespace Go.Proofs.Ytckmdofmplkdfaa
open Go.RowKit
set_option linter.unusedVariables false
set_option maxRecDepth 100000

theorem RowT.inS {l : List Bool} {v : Value} {w : World} {base : Nat} (h : RowT w base v l) : inS (fun k => base ≤ k) v := by
  obtain ⟨_, h⟩ := h
  rcases h with ⟨rfl, h0⟩ | ⟨g, cap, cur, rfl, hb, hg, _⟩
  · exact trivial
  · exact hb
set_option maxHeartbeats 2000000 in
theorem rbits_any (v : Value) (bs : List Nat) (n : Nat) (w : World) (hB : IsB w v bs) (hn : n ≤ 8 * bs.length) (hl : n ≤ 1099511627776) :
    Calls Try.prog 20 #[v, .int .i64 n] w fun e w' => ∃ u, e = .returned u ∧ IsT w' u (bitsL bs n) ∧ inS (fun k => w.heap.size ≤ k) u ∧ Below w.heap.size w w' := by
  obtain ⟨⟨ao, cap, rfl, hcap, hmx, hnil, hR⟩, h8⟩ := hB
  obtain ⟨i0, hi, hz0, hz1, hz2⟩ := info_partsT Try.info4
  unfold maxLen at hmx
  go_enter Try.func20, Try.ntmps20
  go_wp2
  go_loopw [5, 6] (fun v i wr => ∃ k : Nat, k ≤ n ∧ i = .int .i64 k ∧ wr.ownsRow w.heap.size 4 1 v k ((bitsL bs k).map Value.bool) ∧ Below w.heap.size w wr) (fun _ i _ => n - (intOf i).toNat)
  case atStart => exact ⟨0, Nat.zero_le _, rfl, World.ownsRow_nil _ _ _ _, Below.refl _ _⟩
  case round =>
    obtain ⟨k, hk, rfl, hown, hbel⟩ := hrel
    by_cases hlt : k < n
    · obtain ⟨b, off, rfl, hcc⟩ : ∃ b off, ao = some ⟨b, off, none⟩ ∧ ∀ i, i < bs.length → w.cell? ⟨b, off + i, none⟩ = some (.int .u8 (bs.getD i 0 : Nat)) := by
        rcases hR with h | h
        · omega
        · exact h
      have hcr := (hbel.cell (p := ⟨b, off + k / 8, none⟩) (block_lt_of_cell (hcc (k / 8) (by omega)))).trans (hcc (k / 8) (by omega))
      have hx := byte_at h8 (k / 8)
      have HX : Same (bitN bs k) ((bs.getD (k / 8) 0).testBit (k % 8)) := ⟨rfl⟩
      have HS : Same ((bitsL bs (k + 1)).map Value.bool) ((bitsL bs k).map Value.bool ++ [.bool (bitN bs k)]) := ⟨by rw [bitsL_succ]; simp⟩
      generalize bs.getD (k / 8) 0 = x at *
      have HA := hid (and_bit x (k % 8) hx)
      have hsz := hbel.size
      clear hcc hR
      go_wp2_with (at_builtin; refine wpList_append_own _ rfl _ _ 36 rfl w.heap.size 4 i0 (.bool false) 1 1 Try.underlying36 hi hz0 hz1 hz2 rfl (by decide) _ _ _ rfl (hown.alloc _) ⟨wr.heap.size, 0, none⟩ 1 1 [.bool (bits BinOp.and IntKind.u8 ((x : Int) / 2 ^ (k % 8)) 1 == 1)] rfl rfl ?c1 ?c2 ?c3 ?c4 ?c5 ?_)
      case c1 =>
        intro j u hj
        match j, hj with
        | 0, hj => simp at hj; subst hj; simp [Addr.add]
      case c2 => intro u hu; simp at hu; subst hu; rfl
      case c3 => unfold maxLen; omega
      case c4 => omega
      case c5 => simp; omega
      · intro v' w1 hown' hgrow _
        have hb1 : Below w.heap.size w w1 := (hbel.alloc (by omega) _).grown hgrow (by simp; omega) (fun j hj => (hown.lt j hj).1)
        rw [HA.out, ← HX.out, ← HS.out] at hown'
        have Y := hid (And.intro hown' hb1)
        clear hgrow hown hbel hown' hb1
        go_wp2
        exact ⟨⟨k + 1, by omega, by go_num, Y.out.1, Y.out.2⟩, by simp [intOf]; omega⟩
    · obtain rfl : k = n := by omega
      have HO := hid hown
      have HB := hid hbel
      clear hown hbel
      go_wp2
      go_ret
      have hr := fun (v : Value) (h : wr.ownsRow w.heap.size 4 1 v k ((bitsL bs k).map Value.bool)) => (show RowT wr w.heap.size v (bitsL bs k) by unfold RowT; rw [bitsL_length]; exact h)
      exact ⟨_, rfl, (hr _ HO.out).isT, (hr _ HO.out).inS, HB.out⟩
end Go.Proofs.Ytckmdofmplkdfaa
