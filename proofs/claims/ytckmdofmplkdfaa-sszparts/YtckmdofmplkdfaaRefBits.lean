/- The document's PutBits, bits, and Size of kinds without kinds in them. -/
import Derived.Test.YtckmdofmplkdfaaBitsP
namespace Go.Proofs.Ytckmdofmplkdfaa
open Go.RowKit
set_option linter.unusedVariables false
set_option maxRecDepth 100000

theorem putB_end (l : List Bool) : putB (l ++ [true]) false = putB l true := by
  refine bytes_ext (by rw [putB_length, putB_length]; simp) (putB_byte _ _) (putB_byte _ _) fun j hj => ?_
  rw [putB_bit_false, putB_bit_true, List.getD_eq_getElem?_getD, List.getD_eq_getElem?_getD, List.getElem?_append]
  by_cases h : j < l.length
  · rw [if_pos h]
    have : ¬ l.length = j := by omega
    simp [this]
  · rw [if_neg h]
    by_cases h2 : l.length = j
    · subst h2; simp
    · have : j - l.length ≠ 0 := by omega
      rw [List.getElem?_eq_none (by simp; omega), List.getElem?_eq_none (by omega)]
      simp [h2]

set_option maxHeartbeats 2000000 in
theorem rputBits_any (v : Value) (l : List Bool) (e : Bool) (w : World) (hT : IsT w v l) (hl : l.length ≤ 1099511627776) :
    Calls Try.prog 21 #[v, .bool e] w fun r w' => ∃ v', r = .returned v' ∧ Row w' w.heap.size v' (putB l e) ∧ Below w.heap.size w w' := by
  obtain ⟨ao, cap, rfl, hcap, hmx, hc⟩ := hT
  obtain ⟨l', hl'⟩ : ∃ l', l' = l ++ (if e then [true] else []) := ⟨_, rfl⟩
  have hlen : l'.length = l.length + (if e then 1 else 0) := by rw [hl']; cases e <;> simp
  have hput : putB l e = upB l' (zeros ((l'.length + 7) / 8)) l'.length := by
    have : putB l e = putB l' false := by
      rw [hl']
      cases e
      · simp
      · simp [putB_end]
    rw [this]; rfl
  have hat : ∀ k, k < l'.length → l'.getD k false = (decide (k = l.length) || l.getD k false) := by
    intro k hk
    rw [hl', List.getD_eq_getElem?_getD, List.getD_eq_getElem?_getD, List.getElem?_append]
    by_cases h : k < l.length
    · rw [if_pos h]
      have : k ≠ l.length := by omega
      simp [this]
    · rw [if_neg h]
      cases e
      · simp at hlen; omega
      · simp at hlen
        have : k = l.length := by omega
        subst this
        simp
  obtain ⟨N, hN⟩ : ∃ N, l'.length = N := ⟨_, rfl⟩
  obtain ⟨m, hm⟩ : ∃ m, (N + 7) / 8 = m := ⟨_, rfl⟩
  have hle : l.length ≤ N := by rw [hlen] at hN; omega
  have hle2 : N ≤ l.length + 1 := by rw [hlen] at hN; split at hN <;> omega
  rw [hN, hm] at hput
  rw [hN] at hat
  have HP := hid hput
  have HA := hid hat
  have HM := hid hm
  have hZ := hid (zeros_length m)
  rw [hN] at hlen
  clear hput hat hN hm hl'
  unfold maxLen at hmx
  cases e
  all_goals
    have hN1 := hlen
    simp only [if_true, Bool.false_eq_true, if_false, Nat.add_zero] at hN1
    have hNlo := Nat.le_of_eq hN1
    have hNhi := Nat.le_of_eq hN1.symm
    have HNN := hid hN1
    clear hlen hN1
    go_enter Try.func21, Try.ntmps21
    go_wp2_with (refine wpList_make_has rfl _ _ 24 rfl 5 .u8 Try.underlying24 Try.zero5 .i64 .i64 _ _ m rfl rfl (by have := HM.out; have := HNN.out; omega) (by have := HM.out; have := HNN.out; omega) (by have := HM.out; omega) ?_; intro w1 H1 B1)
    have HH1 := hid H1
    have HB1 := hid B1
    clear H1 B1
    go_loopw [7] (fun i wr => ∃ k : Nat, k ≤ N ∧ i = .int .i64 k ∧ Has wr w.heap.size 5 .u8 (upB l' (zeros m) k) ∧ Below w.heap.size w wr) (fun i _ => N - (intOf i).toNat)
    case atStart => exact ⟨0, Nat.zero_le _, rfl, HH1.out, HB1.out⟩
    case round =>
      obtain ⟨k, hk, rfl, hH, hB⟩ := hrel
      have hNe := HNN.out
      have hlen : (upB l' (zeros m) k).length = m := (upB_length l' _ k).trans hZ.out
      have HHH := hid hH
      have HBB := hid hB
      by_cases hlt : k < N
      · have hm8 := HM.out
        have hk8 : k / 8 < m := by omega
        have hcl := hH.cell (k / 8) (by omega)
        have hfr := hH.frozen (k / 8)
        have hpw := pow_u8 (k % 8) (Nat.mod_lt _ (by decide))
        have hby := byte_at (upB_byte l' m k) (k / 8)
        have hor := or_u8 _ _ hby hpw
        have hat := HA.out k hlt
        have HU : Same (upB l' (zeros m) (k + 1)) (if l'.getD k false then bset (upB l' (zeros m) k) k else upB l' (zeros m) k) := ⟨rfl⟩
        have hset : bset (upB l' (zeros m) k) k = (upB l' (zeros m) k).set (k / 8) ((upB l' (zeros m) k).getD (k / 8) 0 ||| 2 ^ (k % 8)) := rfl
        rw [hset] at HU
        clear hset hm8 hNe hlen
        generalize hy : (upB l' (zeros m) k).getD (k / 8) 0 = y at *
        have HE : Same (bits BinOp.or IntKind.u8 (y : Int) (2 ^ (k % 8) % 256)) (((y ||| 2 ^ (k % 8) : Nat)) : Int) := ⟨by
          rw [← hor]
          congr 1
          have e : ((2 : Int) ^ (k % 8)) = ((2 ^ (k % 8) : Nat) : Int) := by simp
          rw [e]
          generalize 2 ^ (k % 8) = p at hpw ⊢
          omega⟩
        clear hor hpw hH hB hy
        by_cases hkl : k = l.length
        · first
          | (exfalso; omega)
          | (skip
             have hq : ((k : Int) == ((l.length : Nat) : Int)) = true := by rw [beq_iff_eq]; omega
             have ht : l'.getD k false = true := by rw [hat]; simp [hkl]
             rw [ht, if_pos rfl] at HU
             clear ht hat hkl
             go_wp2
             refine wp_region_quiet_tail 13 (by kernel_rfl) (by kernel_rfl) ?_
             simp only [List.take_succ_cons, List.take_zero, List.drop_succ_cons, List.drop_zero]
             repeat (go_big_quiet_step (fail))
             refine wpQuiet_nil ?_
             intro _ hw'
             obtain ⟨nq, hw''⟩ := hw'
             subst hw''
             go_wp2
             rw [HE.out]
             exact ⟨⟨k + 1, by omega, by go_num, by rw [HU.out]; exact (HHH.out.drewN nq).set (k / 8) _, below_only (below_drewN HBB.out nq) ⟨rfl, rfl, rfl, by simp [World.setCell], fun j hj => heap_setCell_other (wr.drewN nq) ⟨w.heap.size, k / 8, none⟩ j _ hj⟩ (Nat.le_refl _)⟩, by simp [intOf]; omega⟩)
        · have hq : ((k : Int) == ((l.length : Nat) : Int)) = false := by rw [beq_eq_false_iff_ne]; omega
          have hkl2 : k < l.length := by omega
          obtain ⟨b, off, rfl, hcc⟩ : ∃ b off, ao = some ⟨b, off, none⟩ ∧ ∀ i, i < l.length → w.cell? ⟨b, off + i, none⟩ = some (.bool (l.getD i false)) := by
            rcases hc with hc | hc
            · omega
            · exact hc
          have hcr := (HBB.out.cell (p := ⟨b, off + k, none⟩) (block_lt_of_cell (hcc k hkl2))).trans (hcc k hkl2)
          have ht : l'.getD k false = l.getD k false := by rw [hat]; simp [hkl]
          rw [ht] at HU
          clear hat ht hcc hc hkl
          obtain ⟨t, ht⟩ : ∃ t, l.getD k false = t := ⟨_, rfl⟩
          rw [ht] at hcr HU
          clear ht
          cases t
          · go_wp2
            exact ⟨⟨k + 1, by omega, by go_num, by rw [HU.out]; exact HHH.out, HBB.out⟩, by simp [intOf]; omega⟩
          · rw [if_pos rfl] at HU
            go_wp2
            refine wp_region_quiet_tail 13 (by kernel_rfl) (by kernel_rfl) ?_
            simp only [List.take_succ_cons, List.take_zero, List.drop_succ_cons, List.drop_zero]
            repeat (go_big_quiet_step (fail))
            refine wpQuiet_nil ?_
            intro _ hw'
            obtain ⟨nq, hw''⟩ := hw'
            subst hw''
            go_wp2
            rw [HE.out]
            exact ⟨⟨k + 1, by omega, by go_num, by rw [HU.out]; exact (HHH.out.drewN nq).set (k / 8) _, below_only (below_drewN HBB.out nq) ⟨rfl, rfl, rfl, by simp [World.setCell], fun j hj => heap_setCell_other (wr.drewN nq) ⟨w.heap.size, k / 8, none⟩ j _ hj⟩ (Nat.le_refl _)⟩, by simp [intOf]; omega⟩
      · obtain rfl : k = N := by omega
        clear hNe hH hB
        go_wp2
        go_ret
        refine ⟨_, rfl, ?_, HBB.out⟩
        have hr := HHH.out.row (Nat.le_refl _) (by rw [hlen]; unfold maxLen; have := HM.out; omega)
        rw [hlen] at hr
        rw [HP.out]
        exact hr
end Go.Proofs.Ytckmdofmplkdfaa
