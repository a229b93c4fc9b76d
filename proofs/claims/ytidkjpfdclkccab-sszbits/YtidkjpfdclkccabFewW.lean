/- The walk of SszFew. -/
import Derived.Test.YtidkjpfdclkccabDecB
namespace Go.Proofs.Ytidkjpfdclkccab
open Go.RowKit Go.Shelf
set_option linter.unusedVariables false
set_option maxRecDepth 100000

theorem IsV.form {w : World} {v : Value} {x : Vt} (h : IsV w v x) : ∃ n r sb sk, v = .agg (valL n r sb sk).toArray ∧ r.length = 32 ∧ isSl sb ∧ isSl sk ∧ x.num = n ∧ x.root = r ∧ VAt w x sb sk := by
  obtain ⟨sb, sk, rfl, h⟩ := h
  have h' := h
  cases x with
  | mk n r b k =>
    rw [VAt] at h'
    obtain ⟨⟨_, h1, _⟩, h2, ao, cap, rfl, _⟩ := h'
    exact ⟨_, _, _, _, rfl, h1, h2.sl, trivial, rfl, rfl, h⟩

set_option maxHeartbeats 2000000 in
theorem few_walk (v0 : Value) (bs : List Nat) (i1 : Int) (w : World) (hB : IsB w v0 bs) (hi1 : -9223372036854775808 ≤ i1 ∧ i1 ≤ 9223372036854775807) :
    Calls Try.prog 4 #[v0, .int .i64 i1] w fun e w' => e = .returned (.bool true) ∧ Below w.heap.size w w' := by
  have hB' := hB
  obtain ⟨⟨ao, cap, rfl, hcap, hcm, hnil, hR⟩, h8⟩ := hB
  have hcm2 := hcm
  unfold maxLen at hcm2
  have HB := hid hB'
  clear hB' hR
  go_enter Try.func4, Try.ntmps4
  go_wp2_with fail
  refine (awake_any w).mono ?_
  rintro e w1 ⟨rfl, B1⟩
  by_cases h3 : 1000 < bs.length
  · go_wp2
    go_ret
    exact ⟨rfl, B1⟩
  · have h3' : ¬ (1000 : Int) < ((bs.length : Nat) : Int) := by omega
    have HB1 := hid B1
    have BA : Below w1.heap.size w1 (w1.alloc (.cells #[] 5)) := (Below.refl _ w1).alloc (Nat.le_refl _) _
    have HSR := hid ((HB.out.keep B1).keep BA).src
    have HO := hid (own_bytes w1)
    have HBA := hid BA
    clear B1 BA
    go_wp2_with (at_builtin; refine wpList_append_b rfl (.tmp 15) (.tmp 16) 23 rfl w1.heap.size _ [] rfl (by exact HO.out) _ bs rfl (by exact HSR.out) (by simp; omega) (by exact HBA.out.size) ?_; intro v2 w2 r1 r2 r3)
    rw [List.nil_append] at r1
    have I2 := r1.isB h8
    have B2 := hid (below_more HB1.out (below_row HBA.out (Nat.le_refl _) HO.out r2) (Nat.le_refl _))
    refine (takeFew_any v2 bs i1 w2 I2 hi1 (by omega)).mono ?_
    rintro e w3 ⟨hres, B3⟩
    have HB3 := hid (below_more B2.out B3 (Nat.le_refl _))
    clear r1 r2 r3 I2 B2 B3 HSR HO HBA HB1
    by_cases hn : i1 < 1 ∨ 20000 < i1
    · have hf : fewB bs i1 = none := by
        rw [fewB, if_pos]
        rcases hn with h | h
        · exact .inl h
        · exact .inr (.inl (by omega))
      rcases hres with ⟨_, _, h, _⟩ | ⟨_, rfl⟩
      · rw [hf] at h; cases h
      rcases hn with hn | hn
      · go_wp2
        go_ret
        exact ⟨rfl, HB3.out⟩
      · have hn' : ¬ i1 < 1 := by omega
        go_wp2
        go_ret
        exact ⟨rfl, HB3.out⟩
    · obtain ⟨m, rfl⟩ : ∃ m : Nat, i1 = (m : Int) := ⟨i1.toNat, by omega⟩
      have hn1 : ¬ (m : Int) < 1 := by omega
      have hn2 : ¬ (20000 : Int) < (m : Int) := by omega
      have HFi := hid (few_iff bs m h8 (by omega))
      have HF : Hid (fewB bs m = if (m : Int) < 1 ∨ bs.length ≠ (m + 7) / 8 ∨ bs.getD (bs.length - 1) 0 / 2 ^ ((m - 1) % 8 + 1) ≠ 0 then none else some (bitsL bs m)) := by rw [fewB, Int.toNat_natCast]; exact hid rfl
      have HI3 := hid (HB.out.keep HB3.out)
      clear hn
      rcases hres with ⟨l, u, hfl, rfl, hT⟩ | ⟨hfn, rfl⟩
      · have hif : ¬ ((m : Int) < 1 ∨ bs.length ≠ (m + 7) / 8 ∨ bs.getD (bs.length - 1) 0 / 2 ^ ((m - 1) % 8 + 1) ≠ 0) := fun h => by rw [HF.out, if_pos h] at hfl; cases hfl
        rw [HF.out, if_neg hif] at hfl
        cases hfl
        simp only [not_or, Classical.not_not] at hif
        have HOK : Hid (bs.length = (m + 7) / 8 ∧ putB (bitsL bs m) false = bs) := ⟨hif.2.1, (HFi.out hif.2.1).2 hif.2.2⟩
        obtain ⟨bo, bl, bc, rfl⟩ := hT.sl.ex
        have HT := hid hT
        clear hif hT HF HFi
        go_wp2_with fail
        have BX : Below w3.heap.size w3 (w3.alloc (.cells #[.int .i64 6, .int .i64 (m : Int), .slice none 0 0] 29)) := (Below.refl _ w3).alloc (Nat.le_refl _) _
        refine (decode_few _ bs m w3.heap.size _ (HI3.out.keep BX) (by simp) (by simp) (by omega) (by omega)).mono ?_
        rintro e w4 ⟨u4, t4, ok, rfl, hV4, B4, hiff, hokt⟩
        obtain rfl : ok = true := hiff.2 HOK.out
        obtain rfl := hokt rfl
        have B34 := below_more BX B4 (Nat.le_refl _)
        obtain ⟨n4, r4, sb4, sk4, rfl, hr4, hs4, hk4, _, _, hVA⟩ := hV4.form
        have X4 := hid (And.intro hV4 (And.intro (HT.out.keep B34) (below_more HB3.out B34 (Nat.le_refl _))))
        clear hiff hokt B4 B34 BX hVA hV4 HT
        go_wp2_with ((with_reducible refine at_list ?_); first
          | (refine wpList_alloc_val rfl 7 rfl rfl ?_; intro w5 H5 B5 S5)
          | (refine wpList_store_val rfl (.tmp 7) (.tmp 41) rfl w4.heap.size n4 r4 sb4 sk4 rfl rfl hr4 hs4 hk4 _ _ _ _ H5 zeros32 ?_; intro w6 H6 O6; have B46 := below_only B5 O6 (Nat.le_refl _); have X6 := hid (And.intro (X4.out.1.keep B46) (And.intro (X4.out.2.1.keep B46) (And.intro (below_more X4.out.2.2 B46 (Nat.le_refl _)) H6))); clear H5 B5 S5 B46 O6)
          | (go_big_want; refine wp_run (run_buildOp _ #[(2, .tmp 62)] rfl #[(2, .slice bo bl bc)] rfl _ (build_bits bo bl bc _)) ?_)
          | (go_big_want; refine wp_run (run_mid 37 (.tmp 7) rfl w4.heap.size 0 rfl _ (X6.out.2.2.2.boxed hr4).all _ Try.underlying37 rfl (by rw [valL_length _ _ _ _ hr4]; exact sizeVal)) ?_))
        have hS := sameV_refl (bitsV (bitsL bs m))
        have HS := hid hS
        clear hS
        refine (same_any (bitsV (bitsL bs m)) (bitsV (bitsL bs m)) _ _ _ (by exact isV_bits X6.out.2.1) (by exact X6.out.1)).mono ?_
        rintro e w7 ⟨rfl, B7⟩
        rw [HS.out]
        have X7 := hid (below_more X6.out.2.2.1 B7 (Nat.le_refl _))
        clear B7 X6 H6 HS
        go_wp2
        go_ret
        exact ⟨rfl, X7.out⟩
      · have HNO : Hid (¬ (bs.length = (m + 7) / 8 ∧ putB (bitsL bs m) false = bs)) := fun h => by
          rw [HF.out, if_neg (by
            rintro (h1 | h1 | h1)
            · omega
            · exact h1 h.1
            · exact h1 ((HFi.out h.1).1 h.2))] at hfn
          cases hfn
        clear hfn HF HFi
        go_wp2_with fail
        have BX : Below w3.heap.size w3 (w3.alloc (.cells #[.int .i64 6, .int .i64 (m : Int), .slice none 0 0] 29)) := (Below.refl _ w3).alloc (Nat.le_refl _) _
        refine (decode_few _ bs m w3.heap.size _ (HI3.out.keep BX) (by simp) (by simp) (by omega) (by omega)).mono ?_
        rintro e w4 ⟨u4, t4, ok, rfl, hV4, B4, hiff, hokt⟩
        obtain rfl : ok = false := by
          cases ok
          · rfl
          · exact absurd (hiff.1 rfl) HNO.out
        have B34 := below_more BX B4 (Nat.le_refl _)
        obtain ⟨n4, r4, sb4, sk4, rfl, hr4, hs4, hk4, _, _, hVA⟩ := hV4.form
        have X4 := hid (below_more HB3.out B34 (Nat.le_refl _))
        clear hiff hokt B4 B34 BX hVA hV4
        go_wp2_with ((with_reducible refine at_list ?_); first
          | (refine wpList_alloc_val rfl 7 rfl rfl ?_; intro w5 H5 B5 S5)
          | (refine wpList_store_val rfl (.tmp 7) (.tmp 41) rfl w4.heap.size n4 r4 sb4 sk4 rfl rfl hr4 hs4 hk4 _ _ _ _ H5 zeros32 ?_; intro w6 H6 O6; have X6 := hid (below_more X4.out (below_only B5 O6 (Nat.le_refl _)) (Nat.le_refl _)); clear H5 B5 S5 O6 H6))
        go_ret
        exact ⟨rfl, X6.out⟩
end Go.Proofs.Ytidkjpfdclkccab
