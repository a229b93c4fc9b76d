/- Contract of digest.mix: one block taken into the registers. -/
import Derived.Test.YtbmcmabimfoknaaGreatDoorWords
namespace Go.Proofs.YtbmcmabimfoknaaGreatDoor
set_option maxRecDepth 100000
open Go.RowKit
set_option linter.unusedVariables false

theorem Tryz.zero152 : (Tryz.prog.info? 152).map (fun i => (i.zero, i.size)) = some (some (.agg (nums .u32 (zeros 8))), 8) := by kernel_rfl
theorem Tryz.size152 : (Tryz.prog.info? 152).map (·.size) = some 8 := by kernel_rfl

/-- The tables stand as the program's text lays them. -/
def TabR (w : World) : Prop := ∀ i, i < 64 → w.cell? ⟨1, i, none⟩ = some (.int .u32 (kNums.getD i 0 : Nat))
theorem TabR.keep {w w' : World} (h : TabR w) (hb : Below w.heap.size w w') : TabR w' := fun i hi =>
  (hb.cell (p := ⟨1, i, none⟩) (block_lt_of_cell (h i hi))).trans (h i hi)

theorem not_word (x : Nat) (hx : x < 4294967296) : 4294967295 ^^^ x = 4294967295 - x := by
  have h1 : (BitVec.allOnes 32 ^^^ BitVec.ofNat 32 x).toNat = (~~~ BitVec.ofNat 32 x).toNat := by rw [BitVec.allOnes_xor]
  rw [BitVec.toNat_xor, BitVec.toNat_not, BitVec.toNat_ofNat, Nat.mod_eq_of_lt (by omega), BitVec.toNat_allOnes] at h1
  exact h1
theorem not_walk (x : Nat) (hx : x < 4294967296) : bits .xor .u32 IntKind.u32.max (x : Int) = ((4294967295 - x : Nat) : Int) := by
  have e : IntKind.u32.max = ((4294967295 : Nat) : Int) := by decide
  rw [e, u32_xor_nat _ _ (by decide) hx, not_word x hx]
theorem t1_walk (e f g h k w : Nat) (he : e < 4294967296) (hf : f < 4294967296) (hg : g < 4294967296) :
    ((h : Int) + bits .xor .u32 (bits .xor .u32 (rr 6 e : Nat) (rr 11 e : Nat)) (rr 25 e : Nat) + bits .xor .u32 (bits .and .u32 (e : Int) (f : Int)) (bits .and .u32 (bits .xor .u32 IntKind.u32.max (e : Int)) (g : Int)) + (k : Int) + (w : Int)) % 4294967296 = (tOne e f g h k w : Nat) := by
  have h1 := rr_lt 6 e he
  have h2 := rr_lt 11 e he
  have h3 := rr_lt 25 e he
  rw [not_walk e he, u32_xor_nat _ _ h1 h2, u32_xor_nat _ _ (Nat.xor_lt_two_pow (n := 32) h1 h2) h3, u32_and_nat _ _ he hf, u32_and_nat _ _ (by omega) hg,
    u32_xor_nat _ _ (Nat.and_lt_two_pow (n := 32) _ hf) (Nat.and_lt_two_pow (n := 32) _ hg)]
  unfold tOne
  simp
theorem t2_walk (a b c : Nat) (ha : a < 4294967296) (hb : b < 4294967296) (hc : c < 4294967296) :
    (bits .xor .u32 (bits .xor .u32 (rr 2 a : Nat) (rr 13 a : Nat)) (rr 22 a : Nat) + bits .xor .u32 (bits .xor .u32 (bits .and .u32 (a : Int) (b : Int)) (bits .and .u32 (a : Int) (c : Int))) (bits .and .u32 (b : Int) (c : Int))) % 4294967296 = (tTwo a b c : Nat) := by
  have h1 := rr_lt 2 a ha
  have h2 := rr_lt 13 a ha
  have h3 := rr_lt 22 a ha
  have h4 := Nat.and_lt_two_pow (n := 32) a hb
  have h5 := Nat.and_lt_two_pow (n := 32) a hc
  have h6 := Nat.and_lt_two_pow (n := 32) b hc
  rw [u32_xor_nat _ _ h1 h2, u32_xor_nat _ _ (Nat.xor_lt_two_pow (n := 32) h1 h2) h3, u32_and_nat _ _ ha hb, u32_and_nat _ _ ha hc, u32_and_nat _ _ hb hc,
    u32_xor_nat _ _ h4 h5, u32_xor_nat _ _ (Nat.xor_lt_two_pow (n := 32) h4 h5) h6]
  unfold tTwo
  simp
theorem tOne_lt (e f g h k w : Nat) : tOne e f g h k w < 4294967296 := Nat.mod_lt _ (by decide)
theorem tTwo_lt (a b c : Nat) : tTwo a b c < 4294967296 := Nat.mod_lt _ (by decide)
theorem Tryz.one151 : (Tryz.prog.info? 151).map (·.size) = some 1 := by kernel_rfl
theorem u32_unsigned : IntKind.u32.signed = false := rfl

set_option maxRecDepth 100000 in
set_option maxHeartbeats 2000000 in
theorem mix_any (hs : List Nat) (hr : Reg hs) (b off cap : Nat) (zs : List Nat) (w : World) (hT : TabR w) (hl : zs.length = 64) (hcap : 64 ≤ cap) (hm : cap ≤ maxLen) (hby : ∀ z ∈ zs, z < 256)
    (hc : ∀ i, i < 64 → w.cell? ⟨b, off + i, none⟩ = some (.int .u8 (zs.getD i 0 : Nat))) :
    Calls Tryz.prog 98 #[.agg (nums .u32 hs), .slice (some ⟨b, off, none⟩) 64 cap] w fun e w' => e = .returned (.agg (nums .u32 (mixL hs zs))) ∧ Below w.heap.size w w' := by
  have hbl := block_lt_of_cell (hc 0 (by omega))
  go_enter Tryz.func98, Tryz.ntmps98
  go_wp2_with (first
    | (refine wpList_box_has rfl 2 rfl 152 (.tmp 0) rfl .u32 hs rfl ?_; intro w1 H1 B1 S1)
    | (refine wpList_alloc_has rfl 4 rfl 152 rfl .u32 8 Tryz.zero152 ?_; intro w2 H2 B2 S2)
    | (go_at_call 110; fail))
  rw [S1] at H2 B2 S2
  have H12 : Has w2 w.heap.size 152 .u32 hs := H1.keep (by rw [S1]; exact B2)
  have B02 : Below w.heap.size w w2 := B1.trans (B2.mono (by omega))
  clear B1 B2 H1
  refine (words_any b off cap zs w2 hl hcap hm hby (fun i hi => (B02.cell (p := ⟨b, off + i, none⟩) hbl).trans (hc i hi))).mono ?_
  rintro e w3 ⟨rfl, B3⟩
  have H13 := H12.keep B3
  have H23 := H2.keep B3
  have B03 := below_more B02 B3 (Nat.le_refl _)
  have Z3 : w.heap.size + 2 ≤ w3.heap.size := by have := B3.size; omega
  clear B3 B02 H12 H2 S2 S1
  have hf := fill_length zs 64
  go_wp2_with (first
    | (refine wpList_alloc_has rfl 5 rfl 164 rfl .u32 64 Tryz.zero164 ?_; intro w4 H4 B4 S4)
    | (refine wpList_store_has rfl 164 (.tmp 5) (.tmp 18) rfl w3.heap.size .u32 (fill zs 64) (zeros 64) rfl rfl 164 H4 (by rw [hf]; exact Tryz.size164) (by rw [hf, zeros_length]) ?_; intro w5 H5 O5)
    | (refine wpList_load_has rfl 152 (.tmp 2) rfl w.heap.size .u32 hs rfl 152 ((H13.keep B4).only O5 (by omega)) _ _ Tryz.underlying152 (by rw [hr.1]; exact Tryz.size152) ?_)
    | (refine wpList_alloc_has rfl 6 rfl 152 rfl .u32 8 Tryz.zero152 ?_; intro w6 H6 B6 S6)
    | (refine wpList_store_has rfl 152 (.tmp 6) (.tmp 19) rfl w5.heap.size .u32 hs (zeros 8) rfl rfl 152 H6 (by rw [hr.1]; exact Tryz.size152) (by rw [hr.1, zeros_length]) ?_; intro w7 H7 O7))
  have e5 : w5.heap.size = w3.heap.size + 1 := by rw [O5.size, S4]
  have HA : Has w7 w.heap.size 152 .u32 hs := ((((H13.keep B4).only O5 (by omega)).keep B6).only O7 (by omega))
  have HB : Has w7 (w.heap.size + 1) 152 .u32 (zeros 8) := ((((H23.keep B4).only O5 (by omega)).keep B6).only O7 (by omega))
  have HC : Has w7 w3.heap.size 164 .u32 (fill zs 64) := ((H5.keep B6).only O7 (by omega))
  have HW : Below w.heap.size w w7 := below_only ((below_only (B03.trans (B4.mono (by omega))) O5 (by omega)).trans (B6.mono (by omega))) O7 (by omega)
  have hRM : w3.heap.size < w5.heap.size := by omega
  have hwl : ∀ i, (fill zs 64).getD i 0 < 4294967296 := fill_lt zs hby 64
  have HM : Hid (mixL hs zs = addUp hs (rnds hs (fill zs 64) 64) 8) := rfl
  clear H13 H23 B03 H4 B4 H5 O5 H6 B6 O7 e5 S4 S6 hc hby hcap hm hl
  generalize w5.heap.size = R at *
  generalize w3.heap.size = M at *
  generalize fill zs 64 = ws at *
  go_loopw [20] (fun i wr => ∃ t : Nat, t ≤ 64 ∧ i = .int .i64 t ∧ Has wr w.heap.size 152 .u32 hs ∧ Has wr (w.heap.size + 1) 152 .u32 (zeros 8) ∧ Has wr M 164 .u32 ws ∧ Has wr R 152 .u32 (rnds hs ws t) ∧ Below w.heap.size w wr) (fun i _ => 64 - (intOf i).toNat)
  case atStart => exact ⟨0, by omega, rfl, HA, HB, HC, H7, HW⟩
  case round =>
    clear HA HB HC H7 HW
    obtain ⟨t, ht, rfl, HA, HB, HC, HD, HW⟩ := hrel
    have hreg := rnds_reg hs ws hr t
    by_cases hlt : t < 64
    · have HS : Hid (rnds hs ws (t + 1) = rnd (rnds hs ws t) (kNums.getD t 0) (ws.getD t 0)) := rfl
      have ck := (HW.cell (p := ⟨1, t, none⟩) (block_lt_of_cell (hT t hlt))).trans (hT t hlt)
      have cw := HC.cell t (by omega)
      have bk := kNums_lt t
      have bw := hwl t
      generalize rnds hs ws t = s at *
      generalize kNums.getD t 0 = kk at *
      generalize ws.getD t 0 = wt at *
      obtain ⟨ra, rb, rc, rd, re, rf, rg, rh, rfl⟩ := eight s hreg.1
      have hall := hreg.2
      simp only [List.mem_cons, List.not_mem_nil, or_false, forall_eq_or_imp, forall_eq] at hall
      obtain ⟨ba, bb, bc, bd, be, bf, bg, bh⟩ := hall
      have c0 := HD.cell 0 (by simp)
      have c1 := HD.cell 1 (by simp)
      have c2 := HD.cell 2 (by simp)
      have c4 := HD.cell 4 (by simp)
      have c5 := HD.cell 5 (by simp)
      have c6 := HD.cell 6 (by simp)
      have c7 := HD.cell 7 (by simp)
      simp only [List.getD_cons_zero, List.getD_cons_succ] at c0 c1 c2 c4 c5 c6 c7
      have hsg := u32_unsigned
      have q1 := t1_walk re rf rg rh kk wt be bf bg
      have q2 := t2_walk ra rb rc ba bb bc
      have l1 := tOne_lt re rf rg rh kk wt
      have l2 := tTwo_lt ra rb rc
      have HE : Hid (rnd [ra, rb, rc, rd, re, rf, rg, rh] kk wt = [(tOne re rf rg rh kk wt + tTwo ra rb rc) % 4294967296, ra, rb, rc, (rd + tOne re rf rg rh kk wt) % 4294967296, re, rf, rg]) := rfl
      generalize tOne re rf rg rh kk wt = t1 at *
      generalize tTwo ra rb rc = t2 at *
      go_wp2
      go_quiet (fail)
      go_wp2
      go_quiet (fail)
      go_wp2
      go_quiet ((go_at_call 111; refine quiet_same (right_any _ _ ?_ ?_ ?_ _) <;> omega))
      go_wp2_with (go_at_call 111; refine (right_any _ _ (by omega) (by omega) (by omega) _).mono ?_; rintro e w' ⟨rfl, rfl⟩)
      have HSRC : ∀ j, j < 7 → wr.cell? (Addr.add ⟨R, 0, none⟩ j) = some (.int .u32 ([ra, rb, rc, rd, re, rf, rg].getD j 0 : Nat)) := by
        intro j hj
        rw [Addr.add_lit, Nat.zero_add, HD.cell j (by simp; omega)]
        match j, hj with
        | 0, _ | 1, _ | 2, _ | 3, _ | 4, _ | 5, _ | 6, _ => rfl
      simp only [q2]
      clear q1 q2 c0 c1 c2 c4 c5 c6 c7 ck cw hsg
      go_region_law (refine step_copy_has rfl (.tmp 83) (.tmp 84) 169 169 rfl 151 Tryz.underlying169 Tryz.one151 _ _ _ _ _ _ rfl rfl R 1 .u32 [ra, rb, rc, rd, re, rf, rg, rh] 152 (by exact HD) [ra, rb, rc, rd, re, rf, rg] rfl (fun _ => ⟨rfl, _, rfl, by exact HSRC⟩) (by simp) ?_; intro w8 H8 O8)
      all_goals
        have HV : Hid (over [ra, rb, rc, rd, re, rf, rg, rh] 1 [ra, rb, rc, rd, re, rf, rg] = [ra, ra, rb, rc, rd, re, rf, rg]) := rfl
        rw [HV.out] at H8
        have c4 : w8.cell? ⟨R, 4, none⟩ = some (.int .u32 (rd : Nat)) := H8.cell 4 (by simp)
        have c0 : w8.cell? ⟨R, 0, none⟩ = some (.int .u32 (ra : Nat)) := H8.cell 0 (by simp)
        have f4 := H8.frozen 4
        have f0 := H8.frozen 0
        go_wp2
        go_roundw
        case rel =>
          have e1 : ((rd : Int) + t1) % 4294967296 = (((rd + t1) % 4294967296 : Nat) : Int) := by simp
          have e2 : ((t1 : Int) + t2) % 4294967296 = (((t1 + t2) % 4294967296 : Nat) : Int) := by simp
          rw [e1, e2]
          have HO1 := Only.setCell w8 R 4 (.int .u32 (((rd + t1) % 4294967296 : Nat) : Int))
          have HO2 := Only.setCell (w8.setCell ⟨R, 4, none⟩ (.int .u32 (((rd + t1) % 4294967296 : Nat) : Int))) R 0 (.int .u32 (((t1 + t2) % 4294967296 : Nat) : Int))
          refine ⟨t + 1, by omega, by go_num, ((((HA.drewN _).drew).only O8 (by omega)).only HO1 (by omega)).only HO2 (by omega), ((((HB.drewN _).drew).only O8 (by omega)).only HO1 (by omega)).only HO2 (by omega), ((((HC.drewN _).drew).only O8 (by omega)).only HO1 (by omega)).only HO2 (by omega), ?_, below_only (below_only (below_only (below_drewN HW _).drew O8 (by omega)) HO1 (by omega)) HO2 (by omega)⟩
          rw [HS.out, HE.out]
          exact (H8.set 4 _).set 0 _
        case measure => simp [intOf]; omega
    · have ht2 : t = 64 := by omega
      subst ht2
      clear hlt hwl
      generalize rnds hs ws 64 = rs at *
      have h8 := hr.1
      have r8 := hreg.1
      go_wp2
      go_loopw [96] (fun i wr => ∃ t : Nat, t ≤ 8 ∧ i = .int .i64 t ∧ Has wr w.heap.size 152 .u32 (addUp hs rs t) ∧ Has wr (w.heap.size + 1) 152 .u32 (zeros 8) ∧ Has wr R 152 .u32 rs ∧ Below w.heap.size w wr) (fun i _ => 8 - (intOf i).toNat)
      case atStart => exact ⟨0, by omega, rfl, HA, HB, HD, HW⟩
      case round =>
        clear HA HB HC HD HW
        obtain ⟨t, ht, rfl, HA, HB, HD, HW⟩ := hrel
        by_cases hlt : t < 8
        · have c1 := HA.cell t (by rw [addUp_length]; omega)
          have c2 := HD.cell t (by omega)
          have f1 := HA.frozen t
          rw [addUp_old hs rs t t (Nat.le_refl _)] at c1
          have HS : Hid (addUp hs rs (t + 1) = (addUp hs rs t).set t ((hs.getD t 0 + rs.getD t 0) % 4294967296)) := rfl
          generalize hs.getD t 0 = x at *
          generalize rs.getD t 0 = y at *
          go_wp2
          go_region
          all_goals
            go_wp2
            go_roundw
            case rel =>
              have e1 : ((x : Int) + y) % 4294967296 = (((x + y) % 4294967296 : Nat) : Int) := by simp
              rw [e1]
              have HO1 := Only.setCell wr.drew w.heap.size t (.int .u32 (((x + y) % 4294967296 : Nat) : Int))
              exact ⟨t + 1, by omega, by go_num, by rw [HS.out]; exact HA.drew.set t _, HB.drew.only HO1 (by omega), HD.drew.only HO1 (by omega), below_only HW.drew HO1 (by omega)⟩
            case measure => simp [intOf]; omega
        · have ht3 : t = 8 := by omega
          subst ht3
          rw [← HM.out] at HA
          have h9 : (mixL hs zs).length = 8 := by rw [HM.out, addUp_length]; exact h8
          go_wp2_with (first
            | (refine wpList_load_has rfl 152 (.tmp 2) rfl w.heap.size .u32 (mixL hs zs) rfl 152 HA _ _ Tryz.underlying152 (by rw [h9]; exact Tryz.size152) ?_)
            | (refine wpList_store_has rfl 152 (.tmp 4) (.tmp 108) rfl (w.heap.size + 1) .u32 (mixL hs zs) (zeros 8) rfl rfl 152 HB (by rw [h9]; exact Tryz.size152) (by rw [h9, zeros_length]) ?_; intro w9 H9 O9))
          refine bodyPost_ret (results_has rfl _ _ (w.heap.size + 1) 152 .u32 (mixL hs zs) _ _ rfl H9 Tryz.underlying152 (by rw [h9]; exact Tryz.size152)) rfl ?_
          exact ⟨rfl, below_only HW O9 (by omega)⟩
end Go.Proofs.YtbmcmabimfoknaaGreatDoor
