/- Contract of digest.Of: the digest of bytes. -/
import Derived.Test.YtbmcmabimfoknaaGreatDoorEnding
import Derived.Deep.RegionWith
namespace Go.Proofs.YtbmcmabimfoknaaGreatDoor
set_option maxRecDepth 100000
open Go.RowKit
set_option linter.unusedVariables false

/-- Both tables stand as the program's text lays them. -/
def Tabs (w : World) : Prop := (∀ i, i < 8 → w.cell? ⟨0, i, none⟩ = some (.int .u32 (startNums.getD i 0 : Nat))) ∧ TabR w
theorem Tabs.keep {w w' : World} (h : Tabs w) (hb : Below w.heap.size w w') : Tabs w' := ⟨fun i hi =>
  (hb.cell (p := ⟨0, i, none⟩) (block_lt_of_cell (h.1 i hi))).trans (h.1 i hi), h.2.keep hb⟩

theorem hid {p : Prop} (h : p) : Hid p := h
/-- An equation of lists that nothing looks into (a bare one, and one inside 'Hid', is laid open at every step of a walk: both sides are reckoned). -/
structure Same {α : Type} (a b : α) : Prop where
  out : a = b

/-- Eight words, as cells, one by one. -/
theorem nums8 (a b c d e f g h : Nat) : nums .u32 [a, b, c, d, e, f, g, h] = #[.int .u32 a, .int .u32 b, .int .u32 c, .int .u32 d, .int .u32 e, .int .u32 f, .int .u32 g, .int .u32 h] := rfl
theorem Has.cells8 {w : World} {B : Nat} {t : TypeId} {a b c d e f g h : Nat} (H : Has w B t .u32 [a, b, c, d, e, f, g, h]) :
    w.cell? ⟨B, 0, none⟩ = some (.int .u32 a) ∧ w.cell? ⟨B, 1, none⟩ = some (.int .u32 b) ∧ w.cell? ⟨B, 2, none⟩ = some (.int .u32 c) ∧ w.cell? ⟨B, 3, none⟩ = some (.int .u32 d) ∧
    w.cell? ⟨B, 4, none⟩ = some (.int .u32 e) ∧ w.cell? ⟨B, 5, none⟩ = some (.int .u32 f) ∧ w.cell? ⟨B, 6, none⟩ = some (.int .u32 g) ∧ w.cell? ⟨B, 7, none⟩ = some (.int .u32 h) :=
  ⟨H.cell 0 (by simp), H.cell 1 (by simp), H.cell 2 (by simp), H.cell 3 (by simp), H.cell 4 (by simp), H.cell 5 (by simp), H.cell 6 (by simp), H.cell 7 (by simp)⟩
theorem Has.set8 {w : World} {B : Nat} {t : TypeId} {l : List Nat} (H : Has w B t .u32 l) (hl : l.length = 8) (a b c d e f g h : Nat) :
    Has ((((((((w.setCell ⟨B, 0, none⟩ (.int .u32 a)).setCell ⟨B, 1, none⟩ (.int .u32 b)).setCell ⟨B, 2, none⟩ (.int .u32 c)).setCell ⟨B, 3, none⟩ (.int .u32 d)).setCell ⟨B, 4, none⟩ (.int .u32 e)).setCell ⟨B, 5, none⟩ (.int .u32 f)).setCell ⟨B, 6, none⟩ (.int .u32 g)).setCell ⟨B, 7, none⟩ (.int .u32 h)) B t .u32 [a, b, c, d, e, f, g, h] ∧
    Only B w ((((((((w.setCell ⟨B, 0, none⟩ (.int .u32 a)).setCell ⟨B, 1, none⟩ (.int .u32 b)).setCell ⟨B, 2, none⟩ (.int .u32 c)).setCell ⟨B, 3, none⟩ (.int .u32 d)).setCell ⟨B, 4, none⟩ (.int .u32 e)).setCell ⟨B, 5, none⟩ (.int .u32 f)).setCell ⟨B, 6, none⟩ (.int .u32 g)).setCell ⟨B, 7, none⟩ (.int .u32 h)) := by
  constructor
  · obtain ⟨x0, x1, x2, x3, x4, x5, x6, x7, rfl⟩ := eight l hl
    exact (((((((H.set 0 a).set 1 b).set 2 c).set 3 d).set 4 e).set 5 f).set 6 g).set 7 h
  · exact (((((((Only.setCell _ B 0 _).trans (Only.setCell _ B 1 _)).trans (Only.setCell _ B 2 _)).trans (Only.setCell _ B 3 _)).trans (Only.setCell _ B 4 _)).trans (Only.setCell _ B 5 _)).trans (Only.setCell _ B 6 _)).trans (Only.setCell _ B 7 _)

/-- The length of a slice that a slot holds. -/
def lenOf : Value → Nat | .slice _ n _ => n | _ => 0

set_option maxRecDepth 100000 in
set_option maxHeartbeats 1000000 in
theorem of_any (ao : Option Addr) (cap : Nat) (zs : List Nat) (w : World) (hT : Tabs w) (hcap : zs.length ≤ cap) (hm : cap ≤ maxLen) (hL : zs.length ≤ 281474976710656) (hby : ∀ z ∈ zs, z < 256) (hz : Reads w ao zs) :
    Calls Tryz.prog 89 #[.slice ao zs.length cap] w fun e w' => e = .returned (.agg (nums .u8 (sha zs))) ∧ Below w.heap.size w w' := by
  go_enter Tryz.func89, Tryz.ntmps89
  go_wp2_with (first
    | (refine wpList_alloc_has rfl 2 rfl 23 rfl .u8 32 Tryz.zero23 ?_; intro w1 H1 B1 S1)
    | (refine wpList_load_cells rfl 152 (.global 0) rfl 0 .u32 startNums rfl (hT.keep B1).1 _ _ Tryz.underlying152 Tryz.size152 ?_)
    | (refine wpList_alloc_has rfl 3 rfl 152 rfl .u32 8 Tryz.zero152 ?_; intro w2 H2 B2 S2)
    | (refine wpList_store_has rfl 152 (.tmp 3) (.tmp 6) rfl w1.heap.size .u32 startNums (zeros 8) rfl rfl 152 H2 Tryz.size152 (by rw [zeros_length]; rfl) ?_; intro w3 H3 O3))
  rw [S1] at H2 B2 S2 H3 O3
  have HA : Has w3 w.heap.size 23 .u8 (zeros 32) := (H1.keep (by rw [S1]; exact B2)).only O3 (by omega)
  have HW : Below w.heap.size w w3 := below_only (B1.trans (B2.mono (by omega))) O3 (by omega)
  clear H1 B1 H2 B2 O3 S1 S2
  unfold maxLen at hm
  go_loopw [4] (fun v wr => ∃ k ap, 64 * k ≤ zs.length ∧ v = .slice ap (zs.length - 64 * k) (cap - 64 * k) ∧ Reads w ap (zs.drop (64 * k)) ∧ Has wr w.heap.size 23 .u8 (zeros 32) ∧ Has wr (w.heap.size + 1) 152 .u32 (absorb startNums zs k) ∧ Below w.heap.size w wr) (fun v _ => lenOf v)
  case atStart => exact ⟨0, ao, by omega, rfl, by rw [Nat.mul_zero, List.drop_zero]; exact hz, HA, H3, HW⟩
  case round =>
    clear HA H3 HW hz
    obtain ⟨k, ap, hk, rfl, HR, HA, HB, HW⟩ := hrel
    have hreg := absorb_reg startNums zs start_reg k
    have h8 := hreg.1
    by_cases hlt : 64 ≤ zs.length - 64 * k
    · have hcs : ∃ b off, ap = some ⟨b, off, none⟩ ∧ ∀ i, i < zs.length - 64 * k → wr.cell? ⟨b, off + i, none⟩ = some (.int .u8 (zs.getD (64 * k + i) 0 : Nat)) := by
        rcases HR.keep HW with HR | ⟨b, off, rfl, hc⟩
        · rw [List.length_drop] at HR; omega
        · exact ⟨b, off, rfl, fun i hi => by have := hc i (by rw [List.length_drop]; exact hi); rw [drop_getD] at this; exact this⟩
      obtain ⟨b, off, rfl, hc⟩ := hcs
      have HM : ∀ w', Tabs w' → (∀ i, i < 64 → w'.cell? ⟨b, off + i, none⟩ = some (.int .u8 ((blk zs k).getD i 0 : Nat))) → Calls Tryz.prog 98 #[.agg (nums .u32 (absorb startNums zs k)), .slice (some ⟨b, off, none⟩) 64 (cap - 64 * k)] w' fun e w'' => e = .returned (.agg (nums .u32 (absorb startNums zs (k + 1)))) ∧ Below w'.heap.size w' w'' := fun w' ht hcc =>
        mix_any (absorb startNums zs k) hreg b off (cap - 64 * k) (blk zs k) w' ht.2 (blk_length zs k (by omega)) (by omega) (by unfold maxLen; omega) (blk_mem zs k hby) hcc
      have HM2 := HM wr.drew ((hT.keep HW).keep (Below.refl _ _).drew) (fun i hi => by rw [blk_getD zs k i hi]; exact hc i (by omega))
      have hreg2 := absorb_reg startNums zs start_reg (k + 1)
      have h82 := hreg2.1
      have HBd : Has wr.drew (w.heap.size + 1) 152 .u32 (absorb startNums zs k) := HB
      clear HM
      generalize absorb startNums zs k = hs at *
      generalize hs2e : absorb startNums zs (k + 1) = hs2 at *
      have HS2 := hid hs2e
      have HC := hid hc
      clear hs2e hc
      obtain ⟨ra, rb, rc, rd, re, rf, rg, rh, rfl⟩ := eight hs h8
      obtain ⟨sa, sb, sc, sd, se, sf, sg, sh, rfl⟩ := eight hs2 h82
      obtain ⟨c0, c1, c2, c3, c4, c5, c6, c7⟩ := HB.cells8
      rw [nums8, nums8] at HM2
      have HQ := hid HM2
      clear HM2
      go_wp2
      go_region_with (go_at_call 98; refine HQ.out.mono ?_; rintro e w5 ⟨rfl, B5⟩; have HB5 := HBd.keep B5; obtain ⟨d0, d1, d2, d3, d4, d5, d6, d7⟩ := HB5.cells8; have f5 := HB5.frozen)
      all_goals
        obtain ⟨H6, O6⟩ := HB5.set8 rfl sa sb sc sd se sf sg sh
        have HA6 := (HA.drew.keep B5).only O6 (by omega)
        have HW6 := below_only (below_more HW.drew B5 (Nat.le_refl _)) O6 (by omega)
        have HR2 : Hid (∀ i, i < zs.length - 64 * k → w.cell? ⟨b, off + i, none⟩ = some (.int .u8 (zs.getD (64 * k + i) 0 : Nat))) := by
          rcases HR with HR | ⟨b', off', he, hc⟩
          · rw [List.length_drop] at HR; omega
          · obtain ⟨rfl, rfl⟩ : b = b' ∧ off = off' := by simpa using he
            exact fun i hi => by have := hc i (by rw [List.length_drop]; exact hi); rw [drop_getD] at this; exact this
        rw [← HS2.out] at H6
        have hk2 : 64 * (k + 1) ≤ zs.length := by omega
        have e1 : zs.length - 64 * k - 64 = zs.length - 64 * (k + 1) := by omega
        have e2 : cap - 64 * k - 64 = cap - 64 * (k + 1) := by omega
        have E1 := hid e1
        have E2 := hid e2
        clear d0 d1 d2 d3 d4 d5 d6 d7 c0 c1 c2 c3 c4 c5 c6 c7 f5 HC HBd HB5 HQ e1 e2 O6
        generalize ((((((((w5.setCell ⟨w.heap.size + 1, 0, none⟩ (.int .u32 sa)).setCell ⟨w.heap.size + 1, 1, none⟩ (.int .u32 sb)).setCell ⟨w.heap.size + 1, 2, none⟩ (.int .u32 sc)).setCell ⟨w.heap.size + 1, 3, none⟩ (.int .u32 sd)).setCell ⟨w.heap.size + 1, 4, none⟩ (.int .u32 se)).setCell ⟨w.heap.size + 1, 5, none⟩ (.int .u32 sf)).setCell ⟨w.heap.size + 1, 6, none⟩ (.int .u32 sg)).setCell ⟨w.heap.size + 1, 7, none⟩ (.int .u32 sh)) = w6 at *
        by_cases hce : cap - 64 * k = 64
        · go_wp2
          go_roundw
          case rel =>
            refine ⟨k + 1, some ⟨b, off, none⟩, hk2, by rw [← E1.out, ← E2.out, hce], .inl (by rw [List.length_drop]; omega), HA6, H6, HW6⟩
          case measure => simp [lenOf]; omega
        · go_wp2
          go_roundw
          case rel =>
            refine ⟨k + 1, _, hk2, by rw [← E1.out, ← E2.out], .inr ⟨b, off + 64, rfl, fun i hi => ?_⟩, HA6, H6, HW6⟩
            rw [List.length_drop] at hi
            rw [drop_getD, Nat.add_assoc, HR2.out (64 + i) (by omega)]
            congr 4; omega
          case measure => simp [lenOf]; omega
    · go_wp2_with fail
      have hkq : k = zs.length / 64 := by omega
      have HSH : Same (sha zs) _ := ⟨sha_parts zs k hkq (if zs.length - 64 * k + 9 ≤ 64 then 64 else 128) rfl⟩
      have HE := ending_any ap (cap - 64 * k) (zs.drop (64 * k)) zs.length (if zs.length - 64 * k + 9 ≤ 64 then 64 else 128) (by rw [List.length_drop]) (by rw [List.length_drop]; omega) (by omega) wr (HR.keep HW)
      rw [List.length_drop] at HE
      have hL2 : (if zs.length - 64 * k + 9 ≤ 64 then 64 else 128) = 64 ∨ (if zs.length - 64 * k + 9 ≤ 64 then 64 else 128) = 128 := by split <;> simp
      have hpl := pad_length (zs.drop (64 * k)) (if zs.length - 64 * k + 9 ≤ 64 then 64 else 128) (8 * zs.length) (by rw [List.length_drop]; split <;> omega)
      have hpb : ∀ z ∈ pad (zs.drop (64 * k)) (if zs.length - 64 * k + 9 ≤ 64 then 64 else 128) (8 * zs.length), z < 256 := pad_bytes _ _ _ (fun z hz => hby z (List.mem_of_mem_drop hz))
      generalize (if zs.length - 64 * k + 9 ≤ 64 then 64 else 128) = L at *
      generalize pad (zs.drop (64 * k)) L (8 * zs.length) = ps at *
      generalize absorb startNums zs k = hs0 at *
      have HEQ := hid HE
      have HPL := hid hpl
      have HL2 := hid hL2
      have HPB := hid hpb
      clear HE hkq hpl hL2 hpb
      refine HEQ.out.mono ?_
      rintro e w4 ⟨rfl, H4, B4⟩
      have HA4 := HA.keep B4
      have HB4 := HB.keep B4
      have HW4 := below_more HW B4 (Nat.le_refl _)
      have hE : w.heap.size + 1 < wr.heap.size := HB.lt
      have HEE := hid hE
      clear HEQ HA HB HW B4 HR
      generalize wr.heap.size = E at *
      go_wp2
      generalize decide ((64 : Int) ≤ ((zs.length - 64 * k : Nat) : Int)) = bb
      clear hlt hk hby hL hcap hm
      go_loopw [5] (fun v wr => ∃ j ap, 64 * j ≤ L ∧ v = .slice ap (L - 64 * j) (L - 64 * j) ∧ (0 < L - 64 * j → ap = some ⟨E, 64 * j, none⟩) ∧ Has wr E 5 .u8 ps ∧ Has wr w.heap.size 23 .u8 (zeros 32) ∧ Has wr (w.heap.size + 1) 152 .u32 (absorb hs0 ps j) ∧ Below w.heap.size w wr) (fun v _ => lenOf v)
      case atStart => exact ⟨0, _, by omega, rfl, fun _ => rfl, H4, HA4, HB4, HW4⟩
      case round =>
        clear HA4 HB4 HW4 H4 h8
        obtain ⟨j, aq, hj, rfl, hap, HP, HA, HB, HW⟩ := hrel
        have hreg1 := absorb_reg hs0 ps hreg j
        have h8 := hreg1.1
        have hLb : L ≤ 128 := by rcases HL2.out with h | h <;> omega
        have hL3 := HL2.out
        by_cases hlt : 64 ≤ L - 64 * j
        · obtain rfl := hap (by omega)
          have HM2 := mix_any (absorb hs0 ps j) hreg1 E (64 * j) (L - 64 * j) (blk ps j) wr.drew ((hT.keep HW).keep (Below.refl _ _).drew).2 (blk_length ps j (by rw [HPL.out]; omega)) (by omega) (by unfold maxLen; omega) (blk_mem ps j HPB.out) (fun i hi => by
            rw [blk_getD ps j i hi]; exact HP.cell (64 * j + i) (by rw [HPL.out]; omega))
          have hreg2 := absorb_reg hs0 ps hreg (j + 1)
          have h82 := hreg2.1
          have HBd : Has wr.drew (w.heap.size + 1) 152 .u32 (absorb hs0 ps j) := HB
          rw [show mixL (absorb hs0 ps j) (blk ps j) = absorb hs0 ps (j + 1) from by rw [absorb]] at HM2
          generalize absorb hs0 ps j = hs at *
          generalize hs2e : absorb hs0 ps (j + 1) = hs2 at *
          have HS2 := hid hs2e
          clear hs2e hap hL3
          obtain ⟨ra, rb, rc, rd, re, rf, rg, rh, rfl⟩ := eight hs h8
          obtain ⟨sa, sb, sc, sd, se, sf, sg, sh, rfl⟩ := eight hs2 h82
          obtain ⟨c0, c1, c2, c3, c4, c5, c6, c7⟩ := HB.cells8
          rw [nums8, nums8] at HM2
          have HQ := hid HM2
          clear HM2
          go_wp2
          go_region_with (go_at_call 98; refine HQ.out.mono ?_; rintro e w5 ⟨rfl, B5⟩; have HB5 := HBd.keep B5; obtain ⟨d0, d1, d2, d3, d4, d5, d6, d7⟩ := HB5.cells8; have f5 := HB5.frozen)
          all_goals
            obtain ⟨H6, O6⟩ := HB5.set8 rfl sa sb sc sd se sf sg sh
            have HA6 := (HA.drew.keep B5).only O6 (by omega)
            have HP6 := (HP.drew.keep B5).only O6 (by omega)
            have HW6 := below_only (below_more HW.drew B5 (Nat.le_refl _)) O6 (by omega)
            rw [← HS2.out] at H6
            have e1 : L - 64 * j - 64 = L - 64 * (j + 1) := by omega
            have hk2 : 64 * (j + 1) ≤ L := by omega
            have E1 := hid e1
            clear d0 d1 d2 d3 d4 d5 d6 d7 c0 c1 c2 c3 c4 c5 c6 c7 f5 HBd HB5 HQ e1 O6
            generalize ((((((((w5.setCell ⟨w.heap.size + 1, 0, none⟩ (.int .u32 sa)).setCell ⟨w.heap.size + 1, 1, none⟩ (.int .u32 sb)).setCell ⟨w.heap.size + 1, 2, none⟩ (.int .u32 sc)).setCell ⟨w.heap.size + 1, 3, none⟩ (.int .u32 sd)).setCell ⟨w.heap.size + 1, 4, none⟩ (.int .u32 se)).setCell ⟨w.heap.size + 1, 5, none⟩ (.int .u32 sf)).setCell ⟨w.heap.size + 1, 6, none⟩ (.int .u32 sg)).setCell ⟨w.heap.size + 1, 7, none⟩ (.int .u32 sh)) = w6 at *
            by_cases hce : L - 64 * j = 64
            · go_wp2
              go_roundw
              case rel =>
                refine ⟨j + 1, some ⟨E, 64 * j, none⟩, hk2, by rw [← E1.out, hce], fun h => by omega, HP6, HA6, H6, HW6⟩
              case measure => simp [lenOf]; omega
            · go_wp2
              go_roundw
              case rel =>
                refine ⟨j + 1, _, hk2, by rw [← E1.out], fun _ => by rw [Nat.mul_add], HP6, HA6, H6, HW6⟩
              case measure => simp [lenOf]; omega
        · have hjl : L / 64 = j := by omega
          have HS : Same (sha zs) (joinUp (absorb hs0 ps j) 32) := by rw [hjl] at HSH; exact HSH
          clear hjl hL3 hap HP HSH HEE
          generalize absorb hs0 ps j = hs at *
          go_wp2_with (first
            | (refine wpList_load_has rfl 152 (.tmp 3) rfl (w.heap.size + 1) .u32 hs rfl 152 HB _ _ Tryz.underlying152 (by rw [h8]; exact Tryz.size152) ?_)
            | (go_at_call 100; refine (join_any hs hreg1 _).mono ?_; rintro e w7 ⟨rfl, B7⟩; rw [← HS.out])
            | (refine wpList_store_has rfl 23 (.tmp 2) (.tmp 32) rfl w.heap.size .u8 (sha zs) (zeros 32) rfl rfl 23 (HA.keep B7) (by rw [sha_length]; exact Tryz.size23) (by rw [sha_length, zeros_length]) ?_; intro w9 H9 O9))
          refine bodyPost_ret (results_has rfl _ _ w.heap.size 23 .u8 (sha zs) _ _ rfl H9 Tryz.und23 (by rw [sha_length]; exact Tryz.size23)) rfl ?_
          exact ⟨rfl, below_only (below_more HW B7 (Nat.le_refl _)) O9 (Nat.le_refl _)⟩
end Go.Proofs.YtbmcmabimfoknaaGreatDoor
