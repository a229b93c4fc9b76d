/- moveAll’s closure; moved. -/
import Derived.Test.YtibblghdemmkjaaDoorPg8
namespace Go.Proofs.YtibblghdemmkjaaDoor
open Go.RowKit
set_option linter.unusedVariables false
set_option maxRecDepth 100000

theorem run_shr8 {P : Program} {o : Oper} {a : Act} {w : World} (t u : TypeId) (x y : Operand) (ho : o.op = .binOp .shr t x y u) (n d q : Nat) (hx : a.eval x = .int .u8 (n : Int)) (hy : a.eval y = .int .u64 (d : Int)) (hd : d ≤ 8) (hq : Hid (n / 2 ^ d = q)) :
    (execOp a.eval o).run P w = .ok (.value (.int .u8 (q : Int))) w := by
  have e : (n : Int) / 2 ^ min (d : Int).toNat 8 = ((q : Nat) : Int) := by rw [Int.toNat_natCast, Nat.min_eq_left hd, ← hq.out]; simp
  have hs := shift_shr_any .u8 .u64 (n : Int) (d : Int) (by omega)
  rw [show IntKind.u8.bits = 8 from rfl, e] at hs
  have hb2 : binOp .shr t (.int .u8 (n : Int)) (.int .u64 (d : Int)) = pure (.int .u8 (q : Int)) := by rw [binOp_shr, hs]
  unfold execOp
  simp only [ho, hx, hy]
  simp [hb2, eqGuard_shr]
theorem low_bit (x : Nat) (h : x < 256) : bits .and .u8 (x : Int) 1 = ((x % 2 : Nat) : Int) := by
  rw [show (1 : Int) = ((1 : Nat) : Int) from rfl, u8_and_nat _ _ h (by decide), Nat.and_one_is_mod]
theorem flipI {p n i f : Nat} (h : f = (p + n - i) % n) (hi : i ≤ p + n) : ((p : Int) + (n : Int) - (i : Int)) % (n : Int) = (f : Int) := by
  rw [h, Int.natCast_emod, show ((p + n - i : Nat) : Int) = (p : Int) + (n : Int) - (i : Int) by omega]

set_option maxHeartbeats 1000000 in
theorem cloB_any (at_ gp b N : Nat) (rs : List (List Nat)) (hl : rs.length = N) (ha : at_ < N) (hN : N ≤ 1099511627776) (w : World) (hP : w.heap[gp]? = some (.cells #[.slice (some ⟨b, 0, none⟩) N N] 70 (0, 0))) (hR : RootsAt w (some ⟨b, 0, none⟩) rs) :
    Calls Tryd.prog 27 #[.int .u64 at_, .pointer (some ⟨gp, 0, none⟩)] w fun e w' => e = .returned (.agg (nums .u8 (rs.getD at_ []))) ∧ Below w.heap.size w w' := by
  have hlt : gp < w.heap.size := (Array.getElem?_eq_some_iff.1 hP).1
  have hD : Rt (rs.getD at_ []) := ⟨(hR.rts.at at_ (by omega)).1, (hR.rts.at at_ (by omega)).2⟩
  obtain ⟨D, hDe⟩ : ∃ D, Hid (rs.getD at_ [] = D) := ⟨_, rfl⟩
  rw [hDe.out] at hD ⊢
  have HL := hid hl
  clear hl
  go_enter Tryd.func27, Tryd.ntmps27
  go_wp2_with (first
    | (refine wpList_alloc_has rfl 3 rfl 24 rfl .u8 32 Tryd.zero24 ?_; intro w1 H1 B1 S1; have hR1 := hR.keep B1; have hc := cell_of_one ((B1.block gp hlt).trans hP))
    | (refine wpList_load_named rfl 24 (.tmp 6) rfl b 0 at_ rs D hDe (by first | (rw [Nat.mul_comm 32 at_]; rfl) | (rw [Nat.mul_comm 32 at_, Nat.zero_add]; rfl)) hR1 (by rw [HL.out]; exact ha) _ _ Tryd.und24 Tryd.size24 ?_)
    | (refine wpList_store_has rfl 24 (.tmp 3) (.tmp 7) rfl w.heap.size .u8 D (zeros 32) rfl rfl 24 H1 (hD.size _ Tryd.size24) (by rw [hD.len, zeros_length]) ?_; intro w9 H9 O9))
  refine bodyPost_ret (results_has rfl _ _ w.heap.size 24 .u8 D _ _ rfl H9 Tryd.und24 (hD.size _ Tryd.size24)) rfl ?_
  exact ⟨rfl, below_only B1 O9 (by omega)⟩

set_option maxHeartbeats 4000000 in
theorem movedA_any (i n r gs gr : Nat) (s : List Nat) (hs : Rt s) (hr : r < 256) (hn : n ≤ 1099511627776) (hi : i < n) (w : World) (hT : Tabs w) (hG : Has w gs 24 .u8 s) (hR : Has w gr 5 .u8 [r]) :
    Calls Tryd.prog 11 #[.int .u64 i, .int .u64 n, .int .u64 (pv s r n : Nat), .func (.func 13) #[] #[.pointer (some ⟨gs, 0, none⟩), .pointer (some ⟨gr, 0, none⟩)]] w fun e w' => e = .returned (.int .u64 (mv s r n i : Nat)) ∧ Below w.heap.size w w' := by
  have hp := pv_lt s r (show 0 < n by omega)
  have hfl := fl_lt s r i (show 0 < n by omega)
  have hfd : fl s r n i = (pv s r n + n - i) % n := rfl
  obtain ⟨f, hfe⟩ : ∃ f, Hid (fl s r n i = f) := ⟨_, rfl⟩
  rw [hfe.out] at hfl hfd
  obtain ⟨p, hpe⟩ : ∃ p, Hid (pv s r n = p) := ⟨_, rfl⟩
  rw [hpe.out] at hp hfd ⊢
  have hfI : ((p : Int) + (n : Int) - (i : Int)) % (n : Int) = (f : Int) := by
    exact flipI hfd (by omega)
  clear hfd hpe
  by_cases hif : i < f
  · have hmaxI : max (i : Int) (f : Int) = (f : Int) := by omega
    obtain ⟨q, hq⟩ : ∃ q, f / 256 = q := ⟨_, rfl⟩
    have hqI : (f : Int) / 256 = (q : Int) := by omega
    obtain ⟨k, hk⟩ : ∃ k, f % 256 / 8 = k := ⟨_, rfl⟩
    have hkI : (f : Int) % 256 / 8 = (k : Int) := by omega
    have hk32 : k < 32 := by omega
    obtain ⟨d, hd⟩ : ∃ d, f % 8 = d := ⟨_, rfl⟩
    have hdI : (f : Int) % 8 = (d : Int) := by omega
    have hd8 : d < 8 := by omega
    have htb : tb s r f = (pg s r q).getD k 0 / 2 ^ d % 2 := by unfold tb; rw [hq, hk, hd]
    have hD := pg_rt s r q
    have HC := hid (fun (_ : Unit) => cloA_any q r gs gr s hs hr (by omega) w hT hG hR)
    obtain ⟨D, hDe⟩ : ∃ D, Same (pg s r q) D := ⟨_, ⟨rfl⟩⟩
    rw [hDe.out] at hD htb HC
    obtain ⟨y, hy⟩ : ∃ y, D.getD k 0 = y := ⟨_, rfl⟩
    have hy8 : y < 256 := by rw [← hy]; exact hD.getD k
    obtain ⟨c, hce⟩ : ∃ c, Hid (y / 2 ^ d = c) := ⟨_, rfl⟩
    have hc8 : c < 256 := by rw [← hce.out]; exact Nat.lt_of_le_of_lt (Nat.div_le_self _ _) hy8
    rw [hy, hce.out] at htb
    have hlow : bits .and .u8 ((y : Int) / 2 ^ d) 1 = ((c % 2 : Nat) : Int) := by
      rw [show (y : Int) / 2 ^ d = (c : Int) by rw [← hce.out]; simp]
      exact low_bit c hc8
    have HY := hid hy
    clear hy
    have hmv : mv s r n i = if c % 2 = 1 then f else i := by
      unfold mv
      rw [hfe.out, show max i f = f by omega, htb]
    have HM := hid hmv
    clear hmv htb hq hk hd
    rcases (show c % 2 = 1 ∨ c % 2 = 0 by omega) with hm | hm
    all_goals
      rw [HM.out]
      have hmI : ((c % 2 : Nat) : Int) = _ := congrArg Nat.cast hm
      rw [hm] at hlow
      simp only [hm, if_pos, Nat.zero_ne_one, if_false]
      clear HM
      go_enter Tryd.func11, Tryd.ntmps11
      go_wp2_with (first
        | (go_at_call 13; refine (HC.out ()).mono ?_; rintro e w1 ⟨rfl, B1⟩)
        | (refine wpList_alloc_has rfl 11 rfl 24 rfl .u8 32 Tryd.zero24 ?_; intro w2 H2 B2 S2)
        | (refine wpList_store_has rfl 24 (.tmp 11) (.tmp 25) rfl w1.heap.size .u8 D (zeros 32) rfl rfl 24 H2 (hD.size _ Tryd.size24) (by rw [hD.len, zeros_length]) ?_; intro w3 H3 O3; have hcell := H3.cell k (by rw [hD.len]; exact hk32); rw [HY.out] at hcell; have HB3 := hid (below_only (below_more B1 B2 (Nat.le_refl _)) O3 (by have := B1.size; omega)))
        )
      go_ret
      exact ⟨rfl, HB3.out⟩
  · have hmaxI : max (i : Int) (f : Int) = (i : Int) := by omega
    obtain ⟨q, hq⟩ : ∃ q, i / 256 = q := ⟨_, rfl⟩
    have hqI : (i : Int) / 256 = (q : Int) := by omega
    obtain ⟨k, hk⟩ : ∃ k, i % 256 / 8 = k := ⟨_, rfl⟩
    have hkI : (i : Int) % 256 / 8 = (k : Int) := by omega
    have hk32 : k < 32 := by omega
    obtain ⟨d, hd⟩ : ∃ d, i % 8 = d := ⟨_, rfl⟩
    have hdI : (i : Int) % 8 = (d : Int) := by omega
    have hd8 : d < 8 := by omega
    have htb : tb s r i = (pg s r q).getD k 0 / 2 ^ d % 2 := by unfold tb; rw [hq, hk, hd]
    have hD := pg_rt s r q
    have HC := hid (fun (_ : Unit) => cloA_any q r gs gr s hs hr (by omega) w hT hG hR)
    obtain ⟨D, hDe⟩ : ∃ D, Same (pg s r q) D := ⟨_, ⟨rfl⟩⟩
    rw [hDe.out] at hD htb HC
    obtain ⟨y, hy⟩ : ∃ y, D.getD k 0 = y := ⟨_, rfl⟩
    have hy8 : y < 256 := by rw [← hy]; exact hD.getD k
    obtain ⟨c, hce⟩ : ∃ c, Hid (y / 2 ^ d = c) := ⟨_, rfl⟩
    have hc8 : c < 256 := by rw [← hce.out]; exact Nat.lt_of_le_of_lt (Nat.div_le_self _ _) hy8
    rw [hy, hce.out] at htb
    have hlow : bits .and .u8 ((y : Int) / 2 ^ d) 1 = ((c % 2 : Nat) : Int) := by
      rw [show (y : Int) / 2 ^ d = (c : Int) by rw [← hce.out]; simp]
      exact low_bit c hc8
    have HY := hid hy
    clear hy
    have hmv : mv s r n i = if c % 2 = 1 then f else i := by
      unfold mv
      rw [hfe.out, show max i f = i by omega, htb]
    have HM := hid hmv
    clear hmv htb hq hk hd
    rcases (show c % 2 = 1 ∨ c % 2 = 0 by omega) with hm | hm
    all_goals
      rw [HM.out]
      have hmI : ((c % 2 : Nat) : Int) = _ := congrArg Nat.cast hm
      rw [hm] at hlow
      simp only [hm, if_pos, Nat.zero_ne_one, if_false]
      clear HM
      go_enter Tryd.func11, Tryd.ntmps11
      go_wp2_with (first
        | (go_at_call 13; refine (HC.out ()).mono ?_; rintro e w1 ⟨rfl, B1⟩)
        | (refine wpList_alloc_has rfl 11 rfl 24 rfl .u8 32 Tryd.zero24 ?_; intro w2 H2 B2 S2)
        | (refine wpList_store_has rfl 24 (.tmp 11) (.tmp 25) rfl w1.heap.size .u8 D (zeros 32) rfl rfl 24 H2 (hD.size _ Tryd.size24) (by rw [hD.len, zeros_length]) ?_; intro w3 H3 O3; have hcell := H3.cell k (by rw [hD.len]; exact hk32); rw [HY.out] at hcell; have HB3 := hid (below_only (below_more B1 B2 (Nat.le_refl _)) O3 (by have := B1.size; omega)))
        )
      go_ret
      exact ⟨rfl, HB3.out⟩

set_option maxHeartbeats 4000000 in
theorem movedB_any (i n r gp b N : Nat) (s : List Nat) (rs : List (List Nat)) (hl : rs.length = N) (hpg : ∀ q, q < N → rs.getD q [] = pg s r q) (hN : N ≤ 1099511627776) (hnN : (n - 1) / 256 < N) (hs : Rt s) (hr : r < 256) (hn : n ≤ 1099511627776) (hi : i < n) (w : World) (hP : w.heap[gp]? = some (.cells #[.slice (some ⟨b, 0, none⟩) N N] 70 (0, 0))) (hR : RootsAt w (some ⟨b, 0, none⟩) rs) :
    Calls Tryd.prog 11 #[.int .u64 i, .int .u64 n, .int .u64 (pv s r n : Nat), .func (.func 27) #[] #[.pointer (some ⟨gp, 0, none⟩)]] w fun e w' => e = .returned (.int .u64 (mv s r n i : Nat)) ∧ Below w.heap.size w w' := by
  have hp := pv_lt s r (show 0 < n by omega)
  have hfl := fl_lt s r i (show 0 < n by omega)
  have hfd : fl s r n i = (pv s r n + n - i) % n := rfl
  obtain ⟨f, hfe⟩ : ∃ f, Hid (fl s r n i = f) := ⟨_, rfl⟩
  rw [hfe.out] at hfl hfd
  obtain ⟨p, hpe⟩ : ∃ p, Hid (pv s r n = p) := ⟨_, rfl⟩
  rw [hpe.out] at hp hfd ⊢
  have hfI : ((p : Int) + (n : Int) - (i : Int)) % (n : Int) = (f : Int) := by
    exact flipI hfd (by omega)
  clear hfd hpe
  by_cases hif : i < f
  · have hmaxI : max (i : Int) (f : Int) = (f : Int) := by omega
    obtain ⟨q, hq⟩ : ∃ q, f / 256 = q := ⟨_, rfl⟩
    have hqI : (f : Int) / 256 = (q : Int) := by omega
    obtain ⟨k, hk⟩ : ∃ k, f % 256 / 8 = k := ⟨_, rfl⟩
    have hkI : (f : Int) % 256 / 8 = (k : Int) := by omega
    have hk32 : k < 32 := by omega
    obtain ⟨d, hd⟩ : ∃ d, f % 8 = d := ⟨_, rfl⟩
    have hdI : (f : Int) % 8 = (d : Int) := by omega
    have hd8 : d < 8 := by omega
    have htb : tb s r f = (pg s r q).getD k 0 / 2 ^ d % 2 := by unfold tb; rw [hq, hk, hd]
    have hD := pg_rt s r q
    have hqN : q < N := by omega
    have HC := hid (fun (_ : Unit) => cloB_any q gp b N rs hl hqN hN w hP hR)
    rw [hpg q hqN] at HC
    obtain ⟨D, hDe⟩ : ∃ D, Same (pg s r q) D := ⟨_, ⟨rfl⟩⟩
    rw [hDe.out] at hD htb HC
    obtain ⟨y, hy⟩ : ∃ y, D.getD k 0 = y := ⟨_, rfl⟩
    have hy8 : y < 256 := by rw [← hy]; exact hD.getD k
    obtain ⟨c, hce⟩ : ∃ c, Hid (y / 2 ^ d = c) := ⟨_, rfl⟩
    have hc8 : c < 256 := by rw [← hce.out]; exact Nat.lt_of_le_of_lt (Nat.div_le_self _ _) hy8
    rw [hy, hce.out] at htb
    have hlow : bits .and .u8 ((y : Int) / 2 ^ d) 1 = ((c % 2 : Nat) : Int) := by
      rw [show (y : Int) / 2 ^ d = (c : Int) by rw [← hce.out]; simp]
      exact low_bit c hc8
    have HY := hid hy
    clear hy
    have hmv : mv s r n i = if c % 2 = 1 then f else i := by
      unfold mv
      rw [hfe.out, show max i f = f by omega, htb]
    have HM := hid hmv
    clear hmv htb hq hk hd
    rcases (show c % 2 = 1 ∨ c % 2 = 0 by omega) with hm | hm
    all_goals
      rw [HM.out]
      have hmI : ((c % 2 : Nat) : Int) = _ := congrArg Nat.cast hm
      rw [hm] at hlow
      simp only [hm, if_pos, Nat.zero_ne_one, if_false]
      clear HM
      go_enter Tryd.func11, Tryd.ntmps11
      go_wp2_with (first
        | (go_at_call 27; refine (HC.out ()).mono ?_; rintro e w1 ⟨rfl, B1⟩)
        | (refine wpList_alloc_has rfl 11 rfl 24 rfl .u8 32 Tryd.zero24 ?_; intro w2 H2 B2 S2)
        | (refine wpList_store_has rfl 24 (.tmp 11) (.tmp 25) rfl w1.heap.size .u8 D (zeros 32) rfl rfl 24 H2 (hD.size _ Tryd.size24) (by rw [hD.len, zeros_length]) ?_; intro w3 H3 O3; have hcell := H3.cell k (by rw [hD.len]; exact hk32); rw [HY.out] at hcell; have HB3 := hid (below_only (below_more B1 B2 (Nat.le_refl _)) O3 (by have := B1.size; omega)))
        )
      go_ret
      exact ⟨rfl, HB3.out⟩
  · have hmaxI : max (i : Int) (f : Int) = (i : Int) := by omega
    obtain ⟨q, hq⟩ : ∃ q, i / 256 = q := ⟨_, rfl⟩
    have hqI : (i : Int) / 256 = (q : Int) := by omega
    obtain ⟨k, hk⟩ : ∃ k, i % 256 / 8 = k := ⟨_, rfl⟩
    have hkI : (i : Int) % 256 / 8 = (k : Int) := by omega
    have hk32 : k < 32 := by omega
    obtain ⟨d, hd⟩ : ∃ d, i % 8 = d := ⟨_, rfl⟩
    have hdI : (i : Int) % 8 = (d : Int) := by omega
    have hd8 : d < 8 := by omega
    have htb : tb s r i = (pg s r q).getD k 0 / 2 ^ d % 2 := by unfold tb; rw [hq, hk, hd]
    have hD := pg_rt s r q
    have hqN : q < N := by omega
    have HC := hid (fun (_ : Unit) => cloB_any q gp b N rs hl hqN hN w hP hR)
    rw [hpg q hqN] at HC
    obtain ⟨D, hDe⟩ : ∃ D, Same (pg s r q) D := ⟨_, ⟨rfl⟩⟩
    rw [hDe.out] at hD htb HC
    obtain ⟨y, hy⟩ : ∃ y, D.getD k 0 = y := ⟨_, rfl⟩
    have hy8 : y < 256 := by rw [← hy]; exact hD.getD k
    obtain ⟨c, hce⟩ : ∃ c, Hid (y / 2 ^ d = c) := ⟨_, rfl⟩
    have hc8 : c < 256 := by rw [← hce.out]; exact Nat.lt_of_le_of_lt (Nat.div_le_self _ _) hy8
    rw [hy, hce.out] at htb
    have hlow : bits .and .u8 ((y : Int) / 2 ^ d) 1 = ((c % 2 : Nat) : Int) := by
      rw [show (y : Int) / 2 ^ d = (c : Int) by rw [← hce.out]; simp]
      exact low_bit c hc8
    have HY := hid hy
    clear hy
    have hmv : mv s r n i = if c % 2 = 1 then f else i := by
      unfold mv
      rw [hfe.out, show max i f = i by omega, htb]
    have HM := hid hmv
    clear hmv htb hq hk hd
    rcases (show c % 2 = 1 ∨ c % 2 = 0 by omega) with hm | hm
    all_goals
      rw [HM.out]
      have hmI : ((c % 2 : Nat) : Int) = _ := congrArg Nat.cast hm
      rw [hm] at hlow
      simp only [hm, if_pos, Nat.zero_ne_one, if_false]
      clear HM
      go_enter Tryd.func11, Tryd.ntmps11
      go_wp2_with (first
        | (go_at_call 27; refine (HC.out ()).mono ?_; rintro e w1 ⟨rfl, B1⟩)
        | (refine wpList_alloc_has rfl 11 rfl 24 rfl .u8 32 Tryd.zero24 ?_; intro w2 H2 B2 S2)
        | (refine wpList_store_has rfl 24 (.tmp 11) (.tmp 25) rfl w1.heap.size .u8 D (zeros 32) rfl rfl 24 H2 (hD.size _ Tryd.size24) (by rw [hD.len, zeros_length]) ?_; intro w3 H3 O3; have hcell := H3.cell k (by rw [hD.len]; exact hk32); rw [HY.out] at hcell; have HB3 := hid (below_only (below_more B1 B2 (Nat.le_refl _)) O3 (by have := B1.size; omega)))
        )
      go_ret
      exact ⟨rfl, HB3.out⟩
end Go.Proofs.YtibblghdemmkjaaDoor
