/- Contract of the document's Branch. -/
import Derived.Test.YtfekefgaahoigaaDoorRefV
namespace Go.Proofs.YtfekefgaahoigaaDoor
open Go.RowKit
set_option linter.unusedVariables false

/-- A part of a slice of roots. -/
theorem sub_roots (ao : Option Addr) (cap : Nat) (rs : List (List Nat)) (w : World) (hcap : rs.length ≤ cap) (hm : cap ≤ maxLen) (hnil : ao = none → cap = 0) (hR : RootsAt w ao rs) (l h : Nat) (hlh : l ≤ h) (hh : h ≤ rs.length) :
    ∃ ao' cap', h - l ≤ cap' ∧ cap' ≤ maxLen ∧ RootsAt w ao' ((rs.drop l).take (h - l)) ∧
      ∀ (o : Oper) (a : Act) (wq : World) (x y z : Operand), o.op = .slice 33 x (some y) (some z) none → a.eval x = .slice ao rs.length cap → a.eval y = .int .i64 (l : Int) → a.eval z = .int .i64 (h : Int) →
        (execOp a.eval o).run Tryd.prog wq = .ok (.value (.slice ao' (h - l) cap')) wq := by
  have hm' := hm
  unfold maxLen at hm
  rcases ao with _ | ⟨b, off, spot⟩
  · obtain rfl := hnil rfl
    obtain rfl : h = 0 := by omega
    obtain rfl : l = 0 := by omega
    refine ⟨none, 0, by omega, by decide, by simpa using RootsAt.nil w none, ?_⟩
    intro o a wq x y z ho hx hy hz
    have h0 : rs.length = 0 := by omega
    rw [h0] at hx
    unfold execOp
    simp only [ho, hx, hy, hz, Option.map]
    go_simp
  · by_cases hlc : l < cap
    · have hs : spot = none ∨ rs.length = 0 := by
        by_cases h0 : rs.length = 0
        · exact .inr h0
        · left
          obtain ⟨b', off', e, _⟩ := hR.addr (by omega)
          cases e
          rfl
      refine ⟨some ((⟨b, off, spot⟩ : Addr).add (l * 32)), cap - l, by omega, by unfold maxLen; omega, ?_, ?_⟩
      · by_cases h0 : rs.length = 0
        · rw [show (rs.drop l).take (h - l) = [] by rw [List.eq_nil_of_length_eq_zero h0]; simp]
          exact RootsAt.nil w _
        · obtain rfl := hs.resolve_right h0
          rw [Addr.add_lit, Nat.mul_comm]
          exact hR.part l (h - l)
      · intro o a wq x y z ho hx hy hz
        have hhc : h ≤ cap := by omega
        have hne : ¬ cap = l := by omega
        unfold execOp
        simp only [ho, hx, hy, hz, Option.map]
        go_simp
    · obtain rfl : l = cap := by omega
      obtain rfl : h = l := by omega
      refine ⟨some ⟨b, off, spot⟩, 0, by omega, by decide, by rw [Nat.sub_self, List.take_zero]; exact RootsAt.nil w _, ?_⟩
      intro o a wq x y z ho hx hy hz
      unfold execOp
      simp only [ho, hx, hy, hz, Option.map]
      go_simp

theorem beside_part (rs : List (List Nat)) (i t F pt l h : Nat) (hF : (i / 2 ^ t ^^^ 1) * 2 ^ t = F) (hpt : 2 ^ t = pt) (hl : l = min F rs.length) (hh : h = min (F + pt) rs.length) :
    fullR t ((rs.drop l).take (h - l)) = beside pr (zeros 32) rs i t := by
  unfold beside fullR
  rw [hF]
  by_cases h1 : rs.length ≤ F
  · rw [List.drop_eq_nil_of_le h1, List.drop_eq_nil_of_le (by omega), List.take_nil]
  · have e1 : l = F := by omega
    rw [e1]
    by_cases h2 : F + pt ≤ rs.length
    · rw [show h - F = pt by omega]
      exact full_take pr (zeros 32) t pt _ (by omega)
    · rw [List.take_of_length_le (by rw [List.length_drop]; omega)]
theorem beside_bound (i t F pt p : Nat) (hi : i < p) (hp : p ≤ 2 ^ 40) (ht : t < 40) (hF : (i / 2 ^ t ^^^ 1) * 2 ^ t = F) (hpt : 2 ^ t = pt) : F < 2 ^ 42 ∧ pt < 2 ^ 40 := by
  have h1 : pt < 2 ^ 40 := by rw [← hpt]; exact Nat.pow_lt_pow_right (by decide) ht
  have h2 : i / 2 ^ t ^^^ 1 ≤ i / 2 ^ t + 1 := by rw [xor_one]; generalize i / 2 ^ t = y; split <;> omega
  have h3 : F ≤ (i / 2 ^ t + 1) * 2 ^ t := by rw [← hF]; exact Nat.mul_le_mul_right _ h2
  have h4 : i / 2 ^ t * 2 ^ t ≤ i := Nat.div_mul_le_self _ _
  rw [Nat.add_mul, Nat.one_mul, hpt] at h3
  rw [hpt] at h4
  generalize i / pt * pt = y at *
  exact ⟨by omega, h1⟩

set_option maxRecDepth 100000 in
set_option maxHeartbeats 4000000 in
theorem rbranch_any (ao : Option Addr) (cap : Nat) (rs : List (List Nat)) (d i : Nat) (w : World) (hcap : rs.length ≤ cap) (hm : cap ≤ maxLen) (hnil : ao = none → cap = 0) (hR : RootsAt w ao rs) (hd : d ≤ 40) (hi : i < 2 ^ d) (hrl : rs.length ≤ 2 ^ d) :
    Calls Tryd.prog 22 #[.slice ao rs.length cap, .int .i64 d, .int .i64 i] w fun e w' => ∃ v, e = .returned (.tuple #[v, .bool true]) ∧ w'.ownsRow w.heap.size 26 32 v d (cellsOf (braR rs i d)) ∧ Below w.heap.size w w' := by
  have hm' := hm
  unfold maxLen at hm
  have hp40 : 2 ^ d ≤ 2 ^ 40 := Nat.pow_le_pow_right (by decide) hd
  obtain ⟨p, hp⟩ : ∃ p, 2 ^ d = p := ⟨_, rfl⟩
  have hw2 : wrap64 ((2 : Int) ^ d) = (p : Int) := by
    have e : ((2 : Int) ^ d) = ((2 ^ d : Nat) : Int) := by simp
    rw [e, hp]; unfold wrap64; rw [hp] at hp40; omega
  rw [hp] at hp40 hi hrl
  have hg1 : ¬ p ≤ i := by omega
  have hg2 : ¬ p < rs.length := by omega
  clear hp
  go_enter Tryd.func22, Tryd.ntmps22
  go_wp2_with fail
  go_loopw [8, 9, 10, 11] (fun v k _ _ wr => ∃ t : Nat, t ≤ d ∧ k = .int .i64 t ∧ wr.ownsRow w.heap.size 26 32 v t (cellsOf (braR rs i t)) ∧ Below w.heap.size w wr) (fun _ k _ _ _ => d - (intOf k).toNat)
  case atStart => exact ⟨0, by omega, rfl, World.ownsRow_nil _ _ _ _, Below.refl _ _⟩
  case round =>
    obtain ⟨t, ht, rfl, hown, HW⟩ := hrel
    by_cases hlt : t < d
    · obtain ⟨q, hq⟩ : ∃ q, Hid (i / 2 ^ t = q) := ⟨_, hid rfl⟩
      obtain ⟨x, hx⟩ : ∃ x, Hid (q ^^^ 1 = x) := ⟨_, hid rfl⟩
      obtain ⟨F, hF⟩ : ∃ F, Hid (x * 2 ^ t = F) := ⟨_, hid rfl⟩
      obtain ⟨pt, hpt⟩ : ∃ pt, Hid (1 * 2 ^ t = pt) := ⟨_, hid rfl⟩
      have hFe : (i / 2 ^ t ^^^ 1) * 2 ^ t = F := by rw [hq.out, hx.out, hF.out]
      have hpte : 2 ^ t = pt := by rw [← hpt.out, Nat.one_mul]
      obtain ⟨hFb, hptb⟩ := beside_bound i t F pt p hi hp40 (by omega) hFe hpte
      have hqi : q ≤ i := by rw [← hq.out]; exact Nat.div_le_self _ _
      obtain ⟨bs, hBe⟩ : ∃ bs, Hid (beside pr (zeros 32) rs i t = bs) := ⟨_, hid rfl⟩
      have hbr : Rt bs := by rw [← hBe.out]; exact beside_rt rs hR.rts i t
      have hnx : Hid (braR rs i t ++ [bs] = braR rs i (t + 1)) := hid (by rw [← hBe.out]; exact (branch_succ pr (zeros 32) rs i t).symm)
      have hsz := HW.size
      by_cases hc1 : rs.length < F
      · have hc2 : rs.length < F + pt := by omega
        obtain ⟨ao', cap', s1, s2, s3, s4⟩ := sub_roots ao cap rs w hcap hm' hnil hR rs.length rs.length (by omega) (by omega)
        have hbe := beside_part rs i t F pt rs.length rs.length hFe hpte (by omega) (by omega)
        have hLl : ((rs.drop rs.length).take (rs.length - rs.length)).length = rs.length - rs.length := by rw [List.length_take, List.length_drop]; omega
        obtain ⟨n, hn⟩ : ∃ n, rs.length - rs.length = n := ⟨_, rfl⟩
        rw [hn] at hbe hLl s1 s3 s4
        have HSub := hid s4
        have hRL := s3.keep HW
        have HFu := rfull_any t (by omega) ao' cap' ((rs.drop rs.length).take n) wr (by omega) s2 hRL
        rw [hLl, hbe, hBe.out] at HFu
        replace HFu := hid HFu
        clear s4 s3 hRL hLl hbe hFe hpte hn
        go_wp2_with (first
          | (refine wpList_run rfl _ (run_shr 3 3 (.tmp 40) (.tmp 41) rfl i t q rfl rfl (by omega) hq) ?_)
          | (refine wpList_run rfl _ (run_xor 3 3 (.tmp 42) (.const (.int .i64 1)) rfl q 1 x rfl rfl (by omega) (by omega) hx) ?_)
          | (refine wpList_run rfl _ (run_shl 3 3 (.tmp 43) (.tmp 44) rfl x t F rfl rfl (by omega) hF (by omega)) ?_)
          | (refine wpList_run rfl _ (run_shl 3 3 (.const (.int .i64 1)) (.tmp 47) rfl 1 t pt rfl rfl (by omega) hpt (by omega)) ?_)
          | (refine wpList_run rfl _ (HSub.out _ _ _ (.tmp 63) (.tmp 64) (.tmp 65) rfl rfl rfl rfl) ?_)
          | (go_at_call 29; refine HFu.out.mono ?_; rintro e w2 ⟨rfl, B2⟩; have own2 := own_keep hown B2; have Bw2 := below_more HW B2 (Nat.le_refl _))
          | (refine wpList_one_root rfl 33 26 (.tmp 68) rfl Tryd.underlying33 Tryd.root26 bs rfl hbr.len ?_; intro w3 H3 B3 S3; have own3 := own_keep own2 B3; have Bw3 := below_more Bw2 B3 (Nat.le_refl _))
          | (refine wpList_append_roots rfl (.tmp 62) (.tmp 69) 33 rfl w.heap.size 26 Tryd.underlying33 Tryd.root26 _ t (braR rs i t) [bs] rfl own3 hbr.one ⟨w2.heap.size, 0, none⟩ 1 rfl (by intro j hj; rw [Addr.add_lit, Nat.zero_add, H3.cell j (by rw [hbr.len]; simpa using hj)]; simp) (by simp; omega) Bw3.size ?_; intro v' w4 own4 grow4; have Bw4 := below_grownR Bw3 own3 (Nat.le_refl _) grow4))
        go_roundw
        case rel =>
          rw [hnx.out] at own4
          exact ⟨t + 1, by omega, by go_num, own4, Bw4⟩
        case measure => simp [intOf]; omega
      · by_cases hc2 : rs.length < F + pt
        ·
          obtain ⟨ao', cap', s1, s2, s3, s4⟩ := sub_roots ao cap rs w hcap hm' hnil hR F rs.length (by omega) (by omega)
          have hbe := beside_part rs i t F pt F rs.length hFe hpte (by omega) (by omega)
          have hLl : ((rs.drop F).take (rs.length - F)).length = rs.length - F := by rw [List.length_take, List.length_drop]; omega
          obtain ⟨n, hn⟩ : ∃ n, rs.length - F = n := ⟨_, rfl⟩
          rw [hn] at hbe hLl s1 s3 s4
          have HSub := hid s4
          have hRL := s3.keep HW
          have HFu := rfull_any t (by omega) ao' cap' ((rs.drop F).take n) wr (by omega) s2 hRL
          rw [hLl, hbe, hBe.out] at HFu
          replace HFu := hid HFu
          clear s4 s3 hRL hLl hbe hFe hpte hn
          go_wp2_with (first
            | (refine wpList_run rfl _ (run_shr 3 3 (.tmp 40) (.tmp 41) rfl i t q rfl rfl (by omega) hq) ?_)
            | (refine wpList_run rfl _ (run_xor 3 3 (.tmp 42) (.const (.int .i64 1)) rfl q 1 x rfl rfl (by omega) (by omega) hx) ?_)
            | (refine wpList_run rfl _ (run_shl 3 3 (.tmp 43) (.tmp 44) rfl x t F rfl rfl (by omega) hF (by omega)) ?_)
            | (refine wpList_run rfl _ (run_shl 3 3 (.const (.int .i64 1)) (.tmp 47) rfl 1 t pt rfl rfl (by omega) hpt (by omega)) ?_)
            | (refine wpList_run rfl _ (HSub.out _ _ _ (.tmp 63) (.tmp 64) (.tmp 65) rfl rfl rfl rfl) ?_)
            | (go_at_call 29; refine HFu.out.mono ?_; rintro e w2 ⟨rfl, B2⟩; have own2 := own_keep hown B2; have Bw2 := below_more HW B2 (Nat.le_refl _))
            | (refine wpList_one_root rfl 33 26 (.tmp 68) rfl Tryd.underlying33 Tryd.root26 bs rfl hbr.len ?_; intro w3 H3 B3 S3; have own3 := own_keep own2 B3; have Bw3 := below_more Bw2 B3 (Nat.le_refl _))
            | (refine wpList_append_roots rfl (.tmp 62) (.tmp 69) 33 rfl w.heap.size 26 Tryd.underlying33 Tryd.root26 _ t (braR rs i t) [bs] rfl own3 hbr.one ⟨w2.heap.size, 0, none⟩ 1 rfl (by intro j hj; rw [Addr.add_lit, Nat.zero_add, H3.cell j (by rw [hbr.len]; simpa using hj)]; simp) (by simp; omega) Bw3.size ?_; intro v' w4 own4 grow4; have Bw4 := below_grownR Bw3 own3 (Nat.le_refl _) grow4))
          go_roundw
          case rel =>
            rw [hnx.out] at own4
            exact ⟨t + 1, by omega, by go_num, own4, Bw4⟩
          case measure => simp [intOf]; omega
        ·
          obtain ⟨ao', cap', s1, s2, s3, s4⟩ := sub_roots ao cap rs w hcap hm' hnil hR F (F + pt) (by omega) (by omega)
          have hbe := beside_part rs i t F pt F (F + pt) hFe hpte (by omega) (by omega)
          have hLl : ((rs.drop F).take ((F + pt) - F)).length = (F + pt) - F := by rw [List.length_take, List.length_drop]; omega
          obtain ⟨n, hn⟩ : ∃ n, (F + pt) - F = n := ⟨_, rfl⟩
          rw [hn] at hbe hLl s1 s3 s4
          have HSub := hid s4
          have hRL := s3.keep HW
          have HFu := rfull_any t (by omega) ao' cap' ((rs.drop F).take n) wr (by omega) s2 hRL
          rw [hLl, hbe, hBe.out] at HFu
          replace HFu := hid HFu
          clear s4 s3 hRL hLl hbe hFe hpte hn
          go_wp2_with (first
            | (refine wpList_run rfl _ (run_shr 3 3 (.tmp 40) (.tmp 41) rfl i t q rfl rfl (by omega) hq) ?_)
            | (refine wpList_run rfl _ (run_xor 3 3 (.tmp 42) (.const (.int .i64 1)) rfl q 1 x rfl rfl (by omega) (by omega) hx) ?_)
            | (refine wpList_run rfl _ (run_shl 3 3 (.tmp 43) (.tmp 44) rfl x t F rfl rfl (by omega) hF (by omega)) ?_)
            | (refine wpList_run rfl _ (run_shl 3 3 (.const (.int .i64 1)) (.tmp 47) rfl 1 t pt rfl rfl (by omega) hpt (by omega)) ?_)
            | (refine wpList_run rfl _ (HSub.out _ _ _ (.tmp 63) (.tmp 64) (.tmp 65) rfl rfl rfl rfl) ?_)
            | (go_at_call 29; refine HFu.out.mono ?_; rintro e w2 ⟨rfl, B2⟩; have own2 := own_keep hown B2; have Bw2 := below_more HW B2 (Nat.le_refl _))
            | (refine wpList_one_root rfl 33 26 (.tmp 68) rfl Tryd.underlying33 Tryd.root26 bs rfl hbr.len ?_; intro w3 H3 B3 S3; have own3 := own_keep own2 B3; have Bw3 := below_more Bw2 B3 (Nat.le_refl _))
            | (refine wpList_append_roots rfl (.tmp 62) (.tmp 69) 33 rfl w.heap.size 26 Tryd.underlying33 Tryd.root26 _ t (braR rs i t) [bs] rfl own3 hbr.one ⟨w2.heap.size, 0, none⟩ 1 rfl (by intro j hj; rw [Addr.add_lit, Nat.zero_add, H3.cell j (by rw [hbr.len]; simpa using hj)]; simp) (by simp; omega) Bw3.size ?_; intro v' w4 own4 grow4; have Bw4 := below_grownR Bw3 own3 (Nat.le_refl _) grow4))
          go_roundw
          case rel =>
            rw [hnx.out] at own4
            exact ⟨t + 1, by omega, by go_num, own4, Bw4⟩
          case measure => simp [intOf]; omega
    · have ht2 : t = d := by omega
      subst ht2
      go_wp2_with fail
      refine bodyPost_ret (results_tmp_tmp rfl _ _) rfl ?_
      exact ⟨_, rfl, hown, HW⟩
end Go.Proofs.YtfekefgaahoigaaDoor
