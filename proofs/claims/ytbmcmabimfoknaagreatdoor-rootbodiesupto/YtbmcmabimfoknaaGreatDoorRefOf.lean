/- Contract of the document's digest of bytes. -/
import Derived.Test.YtbmcmabimfoknaaGreatDoorTail
namespace Go.Proofs.YtbmcmabimfoknaaGreatDoor
set_option maxRecDepth 100000
open Go.RowKit
set_option linter.unusedVariables false

theorem Tryz.zero22 : (Tryz.prog.info? 22).map (fun i => (i.zero, i.size)) = some (some (.agg (nums .u8 (zeros 32))), 32) := by kernel_rfl
theorem Tryz.size22 : (Tryz.prog.info? 22).map (·.size) = some 32 := by kernel_rfl

theorem or_four (a b c d : Nat) (ha : a < 256) (hb : b < 256) (hc : c < 256) (hd : d < 256) :
    bits .or .u32 (bits .or .u32 (bits .or .u32 ((a : Int) * 16777216) ((b : Int) * 65536)) ((c : Int) * 256)) (d : Int) = ((((a * 256 + b) * 256 + c) * 256 + d : Nat) : Int) := by
  have e1 : (a : Int) * 16777216 = ((a * 16777216 : Nat) : Int) := by simp
  have e2 : (b : Int) * 65536 = ((b * 65536 : Nat) : Int) := by simp
  have e3 : (c : Int) * 256 = ((c * 256 : Nat) : Int) := by simp
  rw [e1, e2, e3, u32_or_nat _ _ (by omega) (by omega), nat_join 24 (a * 16777216) (b * 65536) (by omega) (by omega), u32_or_nat _ _ (by omega) (by omega),
    nat_join 16 (a * 16777216 + b * 65536) (c * 256) (by omega) (by omega), u32_or_nat _ _ (by omega) (by omega), nat_join 8 _ d (by omega) (by omega)]
  have e4 : a * 16777216 + b * 65536 + c * 256 + d = ((a * 256 + b) * 256 + c) * 256 + d := by omega
  rw [e4]
theorem sched_walk (p x r y : Nat) (hx : x < 4294967296) (hy : y < 4294967296) :
    ((p : Int) + bits .xor .u32 (bits .xor .u32 (rr 7 x : Nat) (rr 18 x : Nat)) ((x : Int) / 8) + (r : Int) + bits .xor .u32 (bits .xor .u32 (rr 17 y : Nat) (rr 19 y : Nat)) ((y : Int) / 1024)) % 4294967296 = (((p + sg0 x + r + sg1 y) % 4294967296 : Nat) : Int) := by
  rw [sg0_walk x hx, sg1_walk y hy]; simp
theorem mix_eight (a b c d e f g h a' b' c' d' e' f' g' h' : Nat) :
    addUp [a, b, c, d, e, f, g, h] [a', b', c', d', e', f', g', h'] 8 = [(a + a') % 4294967296, (b + b') % 4294967296, (c + c') % 4294967296, (d + d') % 4294967296, (e + e') % 4294967296, (f + f') % 4294967296, (g + g') % 4294967296, (h + h') % 4294967296] := by
  simp [addUp]
theorem sum_mod (x y : Nat) : ((x : Int) + (y : Int)) % 4294967296 = (((x + y) % 4294967296 : Nat) : Int) := by simp

set_option maxRecDepth 100000 in
set_option maxHeartbeats 4000000 in
theorem rof_any (ao : Option Addr) (cap : Nat) (zs : List Nat) (w : World) (hcap : zs.length ≤ cap) (hm : cap ≤ maxLen) (hL : zs.length ≤ 140737488355328) (hby : ∀ z ∈ zs, z < 256) (hz : Reads w ao zs) :
    Calls Tryz.prog 93 #[.slice ao zs.length cap] w fun e w' => e = .returned (.agg (nums .u8 (sha zs))) ∧ Below w.heap.size w w' := by
  have hpt : zs.length + 9 ≤ padTo zs.length ∧ padTo zs.length ≤ zs.length + 72 := by unfold padTo; omega
  have hpe : ((zs.length : Int) + 9 + 63) / 64 * 64 = (padTo zs.length : Nat) := by unfold padTo; omega
  have HPE := hid hpe
  obtain ⟨M, hM⟩ : ∃ M, padTo zs.length = M := ⟨_, rfl⟩
  rw [hM] at hpt
  have HM := hid hM
  clear hpe hM
  go_enter Tryz.func93, Tryz.ntmps93
  go_wp2_with (first
    | (refine wpList_alloc_has rfl 2 rfl 22 rfl .u8 32 Tryz.zero22 ?_; intro w1 H1 B1 S1)
    | (refine wpList_build_has rfl 152 _ rfl .u32 startNums (by kernel_rfl) ?_)
    | (refine wpList_alloc_has rfl 3 rfl 152 rfl .u32 8 Tryz.zero152 ?_; intro w2 H2 B2 S2)
    | (refine wpList_store_has rfl 152 (.tmp 3) (.tmp 26) rfl w1.heap.size .u32 startNums (zeros 8) rfl rfl 152 H2 Tryz.size152 (by rw [zeros_length]; rfl) ?_; intro w3 H3 O3)
    | (go_at_call 108; refine (numbers_any _).mono ?_; rintro e w4 ⟨rfl, B4⟩)
    | (refine wpList_alloc_has rfl 4 rfl 164 rfl .u32 64 Tryz.zero164 ?_; intro w5 H5 B5 S5)
    | (refine wpList_store_has rfl 164 (.tmp 4) (.tmp 27) rfl w4.heap.size .u32 kNums (zeros 64) rfl rfl 164 H5 Tryz.size164 (by rw [zeros_length]; rfl) ?_; intro w6 H6 O6)
    | (refine wpList_make_has rfl (.tmp 33) (.tmp 33) 99 rfl 5 .u8 Tryz.underlying99 Tryz.zero5 .i64 .i64 _ _ M rfl rfl (by rw [HPE.out, HM.out]) (by rw [HPE.out, HM.out]) (by omega) ?_; intro w7 H7 B7; have HW3 : Below w.heap.size w w3 := below_only (B1.trans (B2.mono (by omega))) O3 (by omega); have HW4 := below_more HW3 B4 (Nat.le_refl _); have HW5 := below_more HW4 B5 (Nat.le_refl _); have HW6 := below_only HW5 O6 HW4.size; have HW7 := below_more HW6 B7 (Nat.le_refl _); have HA4 := ((H1.keep B2).only O3 (by omega)).keep B4; have HA7 := ((HA4.keep B5).only O6 (Nat.ne_of_lt HA4.lt)).keep B7; have HB4 := H3.keep B4; have HB7 := ((HB4.keep B5).only O6 (Nat.ne_of_lt HB4.lt)).keep B7; have HC7 := H6.keep B7; have hn4 := HB4.lt; have hn6 := H6.lt; have hol : (over (zeros M) 0 zs).length = M := by rw [over_length _ _ _ (by rw [zeros_length]; omega), zeros_length])
    | (refine wpList_copy_has rfl (.tmp 35) (.tmp 36) 99 99 rfl 5 Tryz.underlying99 Tryz.one5 _ _ _ _ _ _ rfl rfl w6.heap.size 0 .u8 (zeros M) 5 H7 zs (by simp [Nat.min_def]; omega) (fun h0 => ⟨rfl, (hz.keep HW7).src h0⟩) (by rw [zeros_length]; omega) ?_; intro w8 H8 O8; have c8 := H8.cell zs.length (by rw [hol]; omega); have f8 := H8.frozen zs.length))
  have O9 := O8.trans (Only.setCell w8 w6.heap.size zs.length (.int .u8 128))
  have HP9 := H8.set zs.length 128
  have HA9 := HA7.only O9 (by omega)
  have HB9 := HB7.only O9 (by omega)
  have HC9 := HC7.only O9 (by omega)
  have HW9 := below_only HW7 O9 (by omega)
  rw [S1] at HB9 hn4
  have HPD : Same (pad zs M (8 * zs.length)) (beUp ((over (zeros M) 0 zs).set zs.length 128) M (8 * zs.length) 8) := ⟨by rw [pad]⟩
  have hol2 : ((over (zeros M) 0 zs).set zs.length 128).length = M := by rw [List.length_set]; exact hol
  have HOL := hid hol2
  clear H1 B1 H2 B2 S2 H3 O3 B4 H5 B5 S5 H6 O6 H7 B7 HW3 HW4 HW5 HW6 HW7 HA4 HA7 HB4 HB7 HC7 hol H8 O8 c8 f8 O9 S1 hol2 HPE
  generalize (over (zeros M) 0 zs).set zs.length 128 = l0 at *
  generalize w8.setCell ⟨w6.heap.size, zs.length, none⟩ (.int .u8 128) = w9 at *
  generalize w6.heap.size = Mb at *
  generalize w4.heap.size = Kb at *
  go_loopw [6] (fun i wr => ∃ k : Nat, k ≤ 8 ∧ i = .int .i64 k ∧ Has wr Mb 5 .u8 (beUp l0 M (8 * zs.length) k) ∧ Has wr w.heap.size 22 .u8 (zeros 32) ∧ Has wr (w.heap.size + 1) 152 .u32 startNums ∧ Has wr Kb 164 .u32 kNums ∧ Below w.heap.size w wr) (fun i _ => 8 - (intOf i).toNat)
  case atStart => exact ⟨0, by omega, rfl, HP9, HA9, HB9, HC9, HW9⟩
  case round =>
    clear HP9 HA9 HB9 HC9 HW9
    obtain ⟨k, hk, rfl, HP, HA, HB, HC, HW⟩ := hrel
    by_cases hlt : k < 8
    · have hlen := beUp_length l0 M (8 * zs.length) k
      have c1 := HP.cell (M - 1 - k) (by rw [hlen, HOL.out]; omega)
      have f1 := HP.frozen (M - 1 - k)
      have HBW := hid (byte_walk zs.length k)
      have HS : Same (beUp l0 M (8 * zs.length) (k + 1)) ((beUp l0 M (8 * zs.length) k).set (M - 1 - k) (8 * zs.length / 256 ^ k % 256)) := ⟨by rw [beUp]⟩
      have et2 : ((M : Int) - 1 - (k : Int)).toNat = M - 1 - k := by omega
      clear hlen
      go_wp2
      go_roundw
      case rel =>
        rw [HBW.out]
        have HO := Only.setCell wr Mb (M - 1 - k) (.int .u8 ((8 * zs.length / 256 ^ k % 256 : Nat) : Int))
        exact ⟨k + 1, by omega, by go_num, by rw [HS.out]; exact HP.set (M - 1 - k) _, HA.only HO (by omega), HB.only HO (by omega), HC.only HO (by omega), below_only HW HO (by omega)⟩
      case measure => simp [intOf]; omega
    · have hk8 : k = 8 := by omega
      subst hk8
      rw [show ((8 : Nat) : Int) = 8 from rfl]
      rw [← HPD.out] at HP
      have hpl := hid (pad_length zs M (8 * zs.length) (by omega))
      have hpb := hid (pad_bytes zs M (8 * zs.length) hby)
      have hM64 : M = 64 * (M / 64) := by have := HM.out; unfold padTo at this; omega
      have HM64 := hid hM64
      have hMb : M ≤ 140737488355400 := by omega
      have HSH : Same (sha zs) (joinUp (absorb startNums (pad zs M (8 * zs.length)) (M / 64)) 32) := ⟨by rw [sha, HM.out]⟩
      clear HPD HOL hz hby hlt hk hM64
      generalize pad zs M (8 * zs.length) = ps at *
      go_wp2
      clear hpt
      go_loopw [7] (fun i wr => ∃ q : Nat, 64 * q ≤ M ∧ i = .int .i64 ((64 * q : Nat) : Int) ∧ Has wr Mb 5 .u8 ps ∧ Has wr w.heap.size 22 .u8 (zeros 32) ∧ Has wr (w.heap.size + 1) 152 .u32 (absorb startNums ps q) ∧ Has wr Kb 164 .u32 kNums ∧ Below w.heap.size w wr) (fun i _ => M - (intOf i).toNat)
      case atStart => exact ⟨0, by omega, rfl, HP, HA, HB, HC, HW⟩
      case round =>
        clear HP HA HB HC HW
        obtain ⟨q, hq, rfl, HP, HA, HB, HC, HW⟩ := hrel
        by_cases hlt : 64 * q < M
        · have hq2 : 64 * q + 64 ≤ M := by have := HM64.out; omega
          have hzl := hid (blk_length ps q (by rw [hpl.out]; omega))
          have hzb := hid (blk_mem ps q hpb.out)
          have hzc : Hid (∀ wx, Has wx Mb 5 .u8 ps → ∀ i, i < 64 → wx.cell? ⟨Mb, 64 * q + i, none⟩ = some (.int .u8 ((blk ps q).getD i 0 : Nat))) := fun wx hx i hi => by
            rw [blk_getD ps q i hi]; exact hx.cell (64 * q + i) (by rw [hpl.out]; omega)
          go_wp2_with (first
            | (refine wpList_build_has rfl 164 _ rfl .u32 (zeros 64) (by kernel_rfl) ?_)
            | (refine wpList_alloc_has rfl 8 rfl 164 rfl .u32 64 Tryz.zero164 ?_; intro wa H1 B1 S1)
            | (refine wpList_store_has rfl 164 (.tmp 8) (.tmp 67) rfl wr.heap.size .u32 (zeros 64) (zeros 64) rfl rfl 164 H1 (by rw [zeros_length]; exact Tryz.size164) rfl ?_; intro wb H2 O2))
          have hn8 := HP.lt
          have HP2 := (HP.keep B1).only O2 (by omega)
          have HA2 := (HA.keep B1).only O2 (by omega)
          have HB2 := (HB.keep B1).only O2 (by omega)
          have HC2 := (HC.keep B1).only O2 (by omega)
          have HW2 := below_only (below_more HW B1 (Nat.le_refl _)) O2 HW.size
          clear HP HA HB HC HW H1 B1 O2 S1
          generalize wr.heap.size = Wb at *
          go_loopw [9] (fun i wr => ∃ t : Nat, t ≤ 64 ∧ i = .int .i64 t ∧ Has wr Wb 164 .u32 (fill (blk ps q) t) ∧ Has wr Mb 5 .u8 ps ∧ Has wr w.heap.size 22 .u8 (zeros 32) ∧ Has wr (w.heap.size + 1) 152 .u32 (absorb startNums ps q) ∧ Has wr Kb 164 .u32 kNums ∧ Below w.heap.size w wr) (fun i _ => 64 - (intOf i).toNat)
          case atStart => exact ⟨0, by omega, rfl, by rw [fill]; exact H2, HP2, HA2, HB2, HC2, HW2⟩
          case round =>
            clear HP2 HA2 HB2 HC2 HW2 H2
            obtain ⟨t, ht, rfl, HD, HP, HA, HB, HC, HW⟩ := hrel
            by_cases h64 : t < 64
            · by_cases h16 : t < 16
              ·
                have c0 := hzc.out wr HP (4 * t + 0) (by omega)
                have c1 := hzc.out wr HP (4 * t + 1) (by omega)
                have c2 := hzc.out wr HP (4 * t + 2) (by omega)
                have c3 := hzc.out wr HP (4 * t + 3) (by omega)
                have b0 := bytes_getD (blk ps q) hzb.out (4 * t + 0)
                have b1 := bytes_getD (blk ps q) hzb.out (4 * t + 1)
                have b2 := bytes_getD (blk ps q) hzb.out (4 * t + 2)
                have b3 := bytes_getD (blk ps q) hzb.out (4 * t + 3)
                have HF : Same (fill (blk ps q) (t + 1)) ((fill (blk ps q) t).set t ((((blk ps q).getD (4 * t + 0) 0 * 256 + (blk ps q).getD (4 * t + 1) 0) * 256 + (blk ps q).getD (4 * t + 2) 0) * 256 + (blk ps q).getD (4 * t + 3) 0)) := ⟨by rw [fill, if_pos h16]; simp [wpart]⟩
                generalize (blk ps q).getD (4 * t + 0) 0 = x0 at *
                generalize (blk ps q).getD (4 * t + 1) 0 = x1 at *
                generalize (blk ps q).getD (4 * t + 2) 0 = x2 at *
                generalize (blk ps q).getD (4 * t + 3) 0 = x3 at *
                rw [Nat.add_zero] at c0
                rw [← Nat.add_assoc] at c1 c2 c3
                have cw := HD.cell t (by rw [fill_length]; omega)
                have fw := HD.frozen t
                generalize fill (blk ps q) t = lf at *
                have i0 : (0 : Int) ≤ 64 * (q : Int) + 4 * (t : Int) := by omega
                have i1 : 64 * (q : Int) + 4 * (t : Int) + 3 < (M : Int) := by omega
                have i2 : (0 : Int) ≤ (t : Int) := by omega
                have i3 : (t : Int) < 64 := by omega
                go_wp2
                refine wp_region_quiet_tail 31 (by kernel_rfl) (by kernel_rfl) ?_
                simp only [List.take_succ_cons, List.take_zero, List.drop_succ_cons, List.drop_zero]
                repeat (go_big_quiet_step (fail))
                refine wpQuiet_nil ?_
                intro _ hw'
                obtain ⟨nq, hw''⟩ := hw'
                subst hw''
                go_wp2
                go_roundw
                case rel =>
                  rw [or_four x0 x1 x2 x3 b0 b1 b2 b3]
                  have HO := Only.setCell (wr.drewN nq) Wb t (.int .u32 ((((x0 * 256 + x1) * 256 + x2) * 256 + x3 : Nat) : Int))
                  exact ⟨t + 1, by omega, by go_num, by rw [HF.out]; exact (HD.drewN nq).set t _, (HP.drewN nq).only HO (by omega), (HA.drewN nq).only HO (by omega), (HB.drewN nq).only HO (by omega), (HC.drewN nq).only HO (by omega), below_only (below_drewN HW nq) HO (by omega)⟩
                case measure => simp [intOf]; omega
              ·
                have c15 := HD.cell (t - 15) (by rw [fill_length]; omega)
                have c2 := HD.cell (t - 2) (by rw [fill_length]; omega)
                have c16 := HD.cell (t - 16) (by rw [fill_length]; omega)
                have c7 := HD.cell (t - 7) (by rw [fill_length]; omega)
                have c0 := HD.cell t (by rw [fill_length]; omega)
                have hft := HD.frozen t
                have b15 := fill_lt (blk ps q) hzb.out t (t - 15)
                have b2 := fill_lt (blk ps q) hzb.out t (t - 2)
                have b16 := fill_lt (blk ps q) hzb.out t (t - 16)
                have b7 := fill_lt (blk ps q) hzb.out t (t - 7)
                have HF : Same (fill (blk ps q) (t + 1)) ((fill (blk ps q) t).set t (((fill (blk ps q) t).getD (t - 16) 0 + sg0 ((fill (blk ps q) t).getD (t - 15) 0) + (fill (blk ps q) t).getD (t - 7) 0 + sg1 ((fill (blk ps q) t).getD (t - 2) 0)) % 4294967296)) := ⟨by rw [← fill_next (blk ps q) t h16, nextW]⟩
                generalize (fill (blk ps q) t).getD (t - 15) 0 = x15 at *
                generalize (fill (blk ps q) t).getD (t - 2) 0 = x2 at *
                generalize (fill (blk ps q) t).getD (t - 16) 0 = x16 at *
                generalize (fill (blk ps q) t).getD (t - 7) 0 = x7 at *
                generalize fill (blk ps q) t = lf at *
                go_wp2
                go_quiet (fail)
                go_wp2
                refine wp_region_quiet_tail 29 (by kernel_rfl) (by kernel_rfl) ?_
                simp only [List.take_succ_cons, List.take_zero, List.drop_succ_cons, List.drop_zero]
                repeat (go_big_quiet_step ((go_at_call 109; refine quiet_some (rright_any _ _ ?_ ?_ ?_ _) <;> omega)))
                refine wpQuiet_nil ?_
                intro _ hw'
                obtain ⟨nq2, hw''⟩ := hw'
                subst hw''
                go_wp2
                go_roundw
                case rel =>
                  rw [sched_walk x16 x15 x7 x2 b15 b2]
                  have HO := Only.setCell (wr.drewN (nq + nq2)) Wb t (.int .u32 (((x16 + sg0 x15 + x7 + sg1 x2) % 4294967296 : Nat) : Int))
                  exact ⟨t + 1, by omega, by go_num, by rw [HF.out]; exact (HD.drewN (nq + nq2)).set t _, (HP.drewN _).only HO (by omega), (HA.drewN _).only HO (by omega), (HB.drewN _).only HO (by omega), (HC.drewN _).only HO (by omega), below_only (below_drewN HW _) HO (by omega)⟩
                case measure => simp [intOf]; omega
            ·
              have ht2 : t = 64 := by omega
              subst ht2
              rw [show ((64 : Nat) : Int) = 64 from rfl]
              have hreg := absorb_reg startNums ps start_reg q
              have hfl := hid (fill_length (blk ps q) 64)
              have hfb := hid (fill_lt (blk ps q) hzb.out 64)
              have HMX : Same (absorb startNums ps (q + 1)) (addUp (absorb startNums ps q) (rnds (absorb startNums ps q) (fill (blk ps q) 64) 64) 8) := ⟨by rw [absorb, mixL]⟩
              generalize fill (blk ps q) 64 = ws at *
              generalize absorb startNums ps q = hs at *
              obtain ⟨ha, hb, hc, hd, he, hf, hg, hh, rfl⟩ := eight hs hreg.1
              obtain ⟨c0, c1, c2, c3, c4, c5, c6, c7⟩ := HB.cells8
              clear ht h64 hzc hzb hzl
              go_wp2
              go_quiet (fail)
              go_wp2
              clear c0 c1 c2 c3 c4 c5 c6 c7
              go_loopw [13, 14, 15, 16, 17, 18, 19, 20, 21] (fun va vb vc vd ve vf vg vh i wr => ∃ t a b c d e f g h : Nat, t ≤ 64 ∧ i = .int .i64 t ∧ va = .int .u32 a ∧ vb = .int .u32 b ∧ vc = .int .u32 c ∧ vd = .int .u32 d ∧ ve = .int .u32 e ∧ vf = .int .u32 f ∧ vg = .int .u32 g ∧ vh = .int .u32 h ∧ Same (rnds [ha, hb, hc, hd, he, hf, hg, hh] ws t) [a, b, c, d, e, f, g, h] ∧ Has wr Wb 164 .u32 ws ∧ Has wr Mb 5 .u8 ps ∧ Has wr w.heap.size 22 .u8 (zeros 32) ∧ Has wr (w.heap.size + 1) 152 .u32 [ha, hb, hc, hd, he, hf, hg, hh] ∧ Has wr Kb 164 .u32 kNums ∧ Below w.heap.size w wr) (fun _ _ _ _ _ _ _ _ i _ => 64 - (intOf i).toNat)
              case atStart => exact ⟨0, ha, hb, hc, hd, he, hf, hg, hh, by omega, rfl, rfl, rfl, rfl, rfl, rfl, rfl, rfl, rfl, ⟨by rw [rnds]⟩, HD.drewN _, HP.drewN _, HA.drewN _, HB.drewN _, HC.drewN _, below_drewN HW _⟩
              case round =>
                clear HD HP HA HB HC HW
                obtain ⟨t, ra, rb, rc, rd, re, rf, rg, rh, ht, rfl, rfl, rfl, rfl, rfl, rfl, rfl, rfl, rfl, HS, HD, HP, HA, HB, HC, HW⟩ := hrel
                by_cases hlt4 : t < 64
                ·
                  have hrg := rnds_reg [ha, hb, hc, hd, he, hf, hg, hh] ws hreg t
                  have HS1 : Same (rnds [ha, hb, hc, hd, he, hf, hg, hh] ws (t + 1)) (rnd [ra, rb, rc, rd, re, rf, rg, rh] (kNums.getD t 0) (ws.getD t 0)) := ⟨by rw [rnds, HS.out]⟩
                  rw [HS.out] at hrg
                  have hall := hrg.2
                  simp only [List.mem_cons, List.not_mem_nil, or_false, forall_eq_or_imp, forall_eq] at hall
                  obtain ⟨ba, bb, bc, bd, be, bf, bg, bh⟩ := hall
                  have ck := HC.cell t (show t < 64 from hlt4)
                  have cw := HD.cell t (by rw [hfl.out]; omega)
                  have bk := kNums_lt t
                  have bw := hfb.out t
                  have HS2 := HS1.out
                  clear HS HS1 hrg
                  generalize kNums.getD t 0 = kk at *
                  generalize ws.getD t 0 = wt at *
                  rw [show rnd [ra, rb, rc, rd, re, rf, rg, rh] kk wt = [(tOne re rf rg rh kk wt + tTwo ra rb rc) % 4294967296, ra, rb, rc, (rd + tOne re rf rg rh kk wt) % 4294967296, re, rf, rg] from rfl] at HS2
                  have HS : Same _ _ := ⟨HS2⟩
                  clear HS2
                  have hsg := u32_unsigned
                  have q1 := t1_walk re rf rg rh kk wt be bf bg
                  have q2 := t2_walk ra rb rc ba bb bc
                  have l1 := tOne_lt re rf rg rh kk wt
                  have l2 := tTwo_lt ra rb rc
                  generalize tOne re rf rg rh kk wt = t1 at *
                  generalize tTwo ra rb rc = t2 at *
                  go_wp2
                  go_quiet ((go_at_call 109; first | (refine quiet_some (rright_any _ _ ?_ ?_ ?_ _) <;> omega) | (refine Calls.quiet_of (rright_any _ _ ?_ ?_ ?_ _) <;> omega)))
                  go_wp2_with (go_at_call 109; refine (rright_any _ _ (by omega) (by omega) (by omega) _).mono ?_; rintro e w' ⟨rfl, m, rfl⟩)
                  go_roundw
                  case rel =>
                    exact ⟨t + 1, (t1 + t2) % 4294967296, ra, rb, rc, (rd + t1) % 4294967296, re, rf, rg, by omega, by go_num, by rw [← sum_mod], rfl, rfl, rfl, by rw [← sum_mod], rfl, rfl, rfl, HS, HD.drewN _, HP.drewN _, HA.drewN _, HB.drewN _, HC.drewN _, below_drewN HW _⟩
                  case measure => simp [intOf]; omega
                ·
                  have ht3 : t = 64 := by omega
                  subst ht3
                  rw [show ((64 : Nat) : Int) = 64 from rfl]
                  obtain ⟨c0, c1, c2, c3, c4, c5, c6, c7⟩ := HB.cells8
                  have f5 := HB.frozen
                  have HX : Same (absorb startNums ps (q + 1)) [(ha + ra) % 4294967296, (hb + rb) % 4294967296, (hc + rc) % 4294967296, (hd + rd) % 4294967296, (he + re) % 4294967296, (hf + rf) % 4294967296, (hg + rg) % 4294967296, (hh + rh) % 4294967296] := ⟨by rw [HMX.out, HS.out, mix_eight]⟩
                  clear HS HMX hfb hfl hreg
                  go_wp2
                  go_roundw
                  case rel =>
                    simp only [sum_mod]
                    obtain ⟨H6, O6⟩ := HB.set8 rfl ((ha + ra) % 4294967296) ((hb + rb) % 4294967296) ((hc + rc) % 4294967296) ((hd + rd) % 4294967296) ((he + re) % 4294967296) ((hf + rf) % 4294967296) ((hg + rg) % 4294967296) ((hh + rh) % 4294967296)
                    exact ⟨q + 1, by omega, by go_num, HP.only O6 (by omega), HA.only O6 (by omega), by rw [HX.out]; exact H6, HC.only O6 (by omega), below_only HW O6 (by omega)⟩
                  case measure => simp [intOf]; omega
        ·
          have hqe : M / 64 = q := by have := HM64.out; omega
          rw [hqe] at HSH
          have hreg := absorb_reg startNums ps start_reg q
          generalize absorb startNums ps q = hs at *
          have h8 := hreg.1
          clear hqe HM64 HM hpl hpb
          go_wp2_with (first
            | (refine wpList_build_has rfl 22 _ rfl .u8 (zeros 32) (by kernel_rfl) ?_)
            | (refine wpList_alloc_has rfl 24 rfl 22 rfl .u8 32 Tryz.zero22 ?_; intro wa H1 B1 S1)
            | (refine wpList_store_has rfl 22 (.tmp 24) (.tmp 265) rfl wr.heap.size .u8 (zeros 32) (zeros 32) rfl rfl 22 H1 (by rw [zeros_length]; exact Tryz.size22) rfl ?_; intro wb H2 O2))
          have hn8 := HP.lt
          have HA2 := (HA.keep B1).only O2 (by omega)
          have HB2 := (HB.keep B1).only O2 (by omega)
          have HW2 := below_only (below_more HW B1 (Nat.le_refl _)) O2 HW.size
          clear HP HA HB HC HW H1 B1 O2 S1
          generalize wr.heap.size = Ob at *
          go_loopw [25] (fun i wr => ∃ t : Nat, t ≤ 32 ∧ i = .int .i64 t ∧ Has wr Ob 22 .u8 (joinUp hs t) ∧ Has wr w.heap.size 22 .u8 (zeros 32) ∧ Has wr (w.heap.size + 1) 152 .u32 hs ∧ Below w.heap.size w wr) (fun i _ => 32 - (intOf i).toNat)
          case atStart => exact ⟨0, by omega, rfl, by rw [joinUp]; exact H2, HA2, HB2, HW2⟩
          case round =>
            clear HA2 HB2 HW2 H2
            obtain ⟨t, ht, rfl, HC, HA, HB, HW⟩ := hrel
            by_cases h32 : t < 32
            · have c1 := HB.cell (t / 4) (by omega)
              have c2 := HC.cell t (by rw [joinUp_length]; omega)
              have f2 := HC.frozen t
              have HS : Same (joinUp hs (t + 1)) ((joinUp hs t).set t (hs.getD (t / 4) 0 / 2 ^ (24 - 8 * (t % 4)) % 256)) := ⟨by rw [joinUp]⟩
              have bx := reg_getD hs hreg (t / 4)
              generalize hs.getD (t / 4) 0 = x at *
              generalize joinUp hs t = jl at *
              go_wp2
              go_roundw
              case rel =>
                have e1 : (x : Int) / 2 ^ (24 - 8 * (t % 4)) % 256 = ((x / 2 ^ (24 - 8 * (t % 4)) % 256 : Nat) : Int) := by simp
                rw [e1]
                have HO := Only.setCell wr Ob t (.int .u8 ((x / 2 ^ (24 - 8 * (t % 4)) % 256 : Nat) : Int))
                exact ⟨t + 1, by omega, by go_num, by rw [HS.out]; exact HC.set t _, HA.only HO (by omega), HB.only HO (by omega), below_only HW HO (by omega)⟩
              case measure => simp [intOf]; omega
            · have ht2 : t = 32 := by omega
              subst ht2
              rw [← HSH.out] at HC
              clear HSH
              go_wp2_with (first
                | (refine wpList_load_has rfl 22 (.tmp 24) rfl Ob .u8 (sha zs) rfl 22 HC _ _ Tryz.underlying22 (by rw [sha_length]; exact Tryz.size22) ?_)
                | (refine wpList_store_has rfl 22 (.tmp 2) (.tmp 282) rfl w.heap.size .u8 (sha zs) (zeros 32) rfl rfl 22 HA (by rw [sha_length]; exact Tryz.size22) (by rw [sha_length, zeros_length]) ?_; intro w9 H9 O9))
              refine bodyPost_ret (results_has rfl _ _ w.heap.size 22 .u8 (sha zs) _ _ rfl H9 Tryz.underlying22 (by rw [sha_length]; exact Tryz.size22)) rfl ?_
              exact ⟨rfl, below_only HW O9 (Nat.le_refl _)⟩
end Go.Proofs.YtbmcmabimfoknaaGreatDoor
