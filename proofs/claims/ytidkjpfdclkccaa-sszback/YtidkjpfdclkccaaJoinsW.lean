/- The walk of SszJoins. -/
import Derived.Test.YtidkjpfdclkccaaJoinPure
namespace Go.Proofs.Ytidkjpfdclkccaa
open Go.RowKit Go.Shelf
set_option linter.unusedVariables false
set_option maxRecDepth 100000

theorem lenB_bound (bss : List (List Nat)) (h : ∀ b ∈ bss, b.length ≤ reachBytes) : lenB bss ≤ bss.length * reachBytes := by
  induction bss with
  | nil => simp [lenB]
  | cons b r ih =>
    have h1 := h b (by simp)
    have h2 := ih (fun c hc => h c (by simp [hc]))
    rw [lenB_cons, List.length_cons, Nat.add_mul]
    omega
theorem IsBs.at {w : World} {v : Value} {bss : List (List Nat)} (h : IsBs w v bss) (hl : 0 < bss.length) : ∃ b off cap, v = .slice (some ⟨b, off, none⟩) bss.length cap ∧ bss.length ≤ cap ∧ ∀ i x, bss[i]? = some x → ∃ u, w.cell? ⟨b, off + i, none⟩ = some u ∧ IsB w u x := by
  obtain ⟨ao, cap, rfl, h1, h2, h3, h4⟩ := h
  rcases h4 with h4 | ⟨b, off, rfl, hc⟩
  · omega
  · exact ⟨b, off, cap, rfl, h1, hc⟩
theorem IsBs.byte {w : World} {v : Value} {bss : List (List Nat)} (h : IsBs w v bss) : ∀ b ∈ bss, ∀ z ∈ b, z < 256 := by
  intro b hb
  obtain ⟨i, hi, rfl⟩ := List.mem_iff_getElem.1 hb
  obtain ⟨_, _, _, _, _, hc⟩ := h.at (by omega)
  obtain ⟨u, _, hI⟩ := hc i _ (List.getElem?_eq_getElem hi)
  exact hI.by8
theorem IsBs.form {w : World} {v : Value} {bss : List (List Nat)} (h : IsBs w v bss) : ∃ ao cap, v = .slice ao bss.length cap := by
  obtain ⟨ao, cap, rfl, _⟩ := h; exact ⟨ao, cap, rfl⟩

set_option maxHeartbeats 2000000 in
theorem joins_walk (v0 : Value) (bss : List (List Nat)) (limit : Int) (w : World) (hB : IsBs w v0 bss) (hr : ∀ b ∈ bss, b.length ≤ reachBytes) (hlim : -9223372036854775808 ≤ limit ∧ limit ≤ 9223372036854775807) :
    Calls Try.prog 7 #[v0, .int .i64 limit] w fun e w' => e = .returned (.bool true) ∧ Below w.heap.size w w' := by
  have hB' := hB
  obtain ⟨ao, cap, rfl, hcap, hcm, _, hc4⟩ := hB
  have hcm2 := hcm
  unfold maxLen at hcm2
  by_cases h100 : 100 < bss.length
  · go_enter Try.func7, Try.ntmps7
    go_wp2_with fail
    refine (awake_any w).mono ?_
    rintro e w1 ⟨rfl, B1⟩
    obtain ⟨b, off, rfl, hcc⟩ : ∃ b off, ao = some ⟨b, off, none⟩ ∧ ∀ i x, bss[i]? = some x → ∃ u, w.cell? ⟨b, off + i, none⟩ = some u ∧ IsB w u x := by
      rcases hc4 with h | h
      · omega
      · exact h
    have HB1 := hid B1
    clear B1 hc4
    go_wp2
    go_loop [5, 7, 16] (fun n _ i => ∃ (k : Nat) (x : Int), k ≤ bss.length ∧ i = .int .i64 k ∧ n = .int .i64 x) (fun _ _ i => bss.length - (intOf i).toNat)
    case atStart => exact ⟨0, 0, Nat.zero_le _, rfl, rfl⟩
    case round =>
      obtain ⟨k, x, hk, rfl, rfl⟩ := hrel
      by_cases hlt : k < bss.length
      · obtain ⟨u, hu, hI⟩ := hcc k _ (List.getElem?_eq_getElem hlt)
        have hu1 := (HB1.out.cell (p := ⟨b, off + k, none⟩) (block_lt_of_cell hu)).trans hu
        obtain ⟨⟨ao2, cap2, rfl, _⟩, _⟩ := hI
        go_wp2
        go_round
        case rel => exact ⟨k + 1, _, by omega, by go_num, rfl⟩
        case measure => simp [intOf]; omega
      · go_wp2
        go_ret
        exact ⟨rfl, HB1.out⟩
  · have hlb := lenB_bound bss hr
    have hrb := reachBytes_lt
    have hlb2 : lenB bss ≤ 100 * 140737488355328 := by
      have : bss.length * reachBytes ≤ 100 * reachBytes := Nat.mul_le_mul_right _ (by omega)
      have : (2 : Nat) ^ 47 = 140737488355328 := by decide
      omega
    clear hlb hrb hr
    have h8 := hB'.byte
    have HB' := hid hB'
    go_enter Try.func7, Try.ntmps7
    go_wp2_with fail
    refine (awake_any w).mono ?_
    rintro e w1 ⟨rfl, B1⟩
    have HB1 := hid B1
    clear B1 hB'
    go_wp2
    go_loop [5, 7, 16] (fun n _ i => ∃ k : Nat, k ≤ bss.length ∧ i = .int .i64 k ∧ n = .int .i64 ((lenB (bss.take k) : Nat) : Int)) (fun _ _ i => bss.length - (intOf i).toNat)
    case atStart => exact ⟨0, Nat.zero_le _, rfl, rfl⟩
    case round =>
      obtain ⟨k, hk, rfl, rfl⟩ := hrel
      by_cases hlt : k < bss.length
      · obtain ⟨b, off, rfl, hcc⟩ : ∃ b off, ao = some ⟨b, off, none⟩ ∧ ∀ i x, bss[i]? = some x → ∃ u, w.cell? ⟨b, off + i, none⟩ = some u ∧ IsB w u x := by
          rcases hc4 with h | h
          · omega
          · exact h
        obtain ⟨u, hu, hI⟩ := hcc k _ (List.getElem?_eq_getElem hlt)
        have hu1 := (HB1.out.cell (p := ⟨b, off + k, none⟩) (block_lt_of_cell hu)).trans hu
        have hsx := lenB_succ bss k _ (List.getElem?_eq_getElem hlt)
        have htk := lenB_take bss (k + 1)
        rw [hsx] at htk
        have HS := hid hsx
        obtain ⟨⟨ao2, cap2, rfl, _⟩, _⟩ := hI
        clear hsx hcc hu hc4
        generalize lenB (bss.take k) = x at *
        go_wp2
        go_round
        case rel => exact ⟨k + 1, by omega, by go_num, by rw [HS.out]; go_num⟩
        case measure => simp [intOf]; omega
      · obtain rfl : k = bss.length := by omega
        rw [List.take_length]
        by_cases h3 : 3000 < lenB bss
        · have h3' : (3000 : Int) < ((lenB bss : Nat) : Int) := by omega
          go_wp2
          go_ret
          exact ⟨rfl, HB1.out⟩
        · have h3' : ¬ (3000 : Int) < ((lenB bss : Nat) : Int) := by omega
          have hbnd : 4 * bss.length + lenB bss < 4294967296 := by omega
          have haj := apart_join bss hbnd limit
          have hjl := joinB_length bss
          go_wp2_with fail
          refine (join_any _ bss _ (HB'.out.keep HB1.out) (by omega) (by omega)).mono ?_
          rintro e w2 ⟨u2, rfl, R2, B2⟩
          have I2 := R2.isB (joinB_byte h8)
          obtain ⟨ao2, cap2, rfl, _⟩ := R2.form
          have HB2 := hid (below_more HB1.out B2 (Nat.le_refl _))
          have HI2 := hid I2
          have HJL := hid hjl
          have HAJ := hid haj
          clear R2 B2 I2 hjl haj
          go_wp2_with fail
          refine (apart_any _ (joinB bss) limit _ HI2.out (by rw [HJL.out]; omega) hlim).mono ?_
          rintro e w3 ⟨hres, B3⟩
          have HB3 := hid (below_more HB2.out B3 (Nat.le_refl _))
          clear B3
          rw [HAJ.out] at hres
          by_cases hif : 0 < bss.length ∧ limit < ((bss.length : Nat) : Int)
          · rw [if_pos hif] at hres
            rcases hres with ⟨_, _, h, _⟩ | ⟨_, rfl⟩
            · cases h
            have hif1 : (0 : Int) < ((bss.length : Nat) : Int) := by omega
            have hif2 := hif.2
            go_wp2
            go_ret
            exact ⟨rfl, HB3.out⟩
          · rw [if_neg hif] at hres
            rcases hres with ⟨bss', u3, h, rfl, hI3⟩ | ⟨h, _⟩
            rotate_left
            · cases h
            cases h
            obtain ⟨ao3, cap3, rfl⟩ := hI3.form
            have HI3 := hid hI3
            clear hI3
            have hne : ((((joinB bss).length : Nat) : Int) != (((lenB bss : Nat) : Int) + 4 * ((bss.length : Nat) : Int))) = false := by
              rw [HJL.out]; simp; omega
            have hne2 : ((((joinB bss).length : Nat) : Int) != (((lenB bss : Nat) : Int) + ((bss.length : Nat) : Int) * 4)) = false := by
              rw [HJL.out]; simp; omega
            by_cases hz : 0 < bss.length
            · have hif1 : (0 : Int) < ((bss.length : Nat) : Int) := by omega
              have hif2 : ¬ limit < ((bss.length : Nat) : Int) := fun h => hif ⟨hz, h⟩
              obtain ⟨b, off, cp, he, hcp, hcc⟩ := (HB'.out.keep HB3.out).at hz
              simp only [Value.slice.injEq] at he
              obtain ⟨rfl, _, rfl⟩ := he
              obtain ⟨b3, off3, cp3, he, hcp3, hcc3⟩ := HI3.out.at hz
              simp only [Value.slice.injEq] at he
              obtain ⟨rfl, _, rfl⟩ := he
              have HCC := hid hcc
              have HCC3 := hid hcc3
              clear hcc hcc3 hc4 hif
              go_wp2_with fail
              go_loopw [11, 77] (fun _ i wr => ∃ k n : Nat, k ≤ bss.length ∧ i = .int .i64 k ∧ wr = w3.drewN n) (fun _ i _ => bss.length - (intOf i).toNat)
              case atStart => exact ⟨0, 0, Nat.zero_le _, rfl, rfl⟩
              case round =>
                obtain ⟨k, n, hk, rfl, rfl⟩ := hrel
                by_cases hlt : k < bss.length
                · obtain ⟨u4, hu4, hI4⟩ := HCC.out k _ (List.getElem?_eq_getElem hlt)
                  obtain ⟨u5, hu5, hI5⟩ := HCC3.out k _ (List.getElem?_eq_getElem hlt)
                  have hv4 : ∀ m, (convert 30 9 u4).run Try.prog (w3.drewN m) = .ok (.string (strOf bss[k])) (w3.drewN m) := fun m => conv_b ⟨by obtain ⟨ao, cap, h1, h2, h3, h4, h5⟩ := hI4.ex; exact ⟨ao, cap, h1, h2, h3, h4, h5⟩, hI4.by8⟩
                  have hv5 : ∀ m, (convert 30 9 u5).run Try.prog (w3.drewN m) = .ok (.string (strOf bss[k])) (w3.drewN m) := fun m => conv_b ⟨by obtain ⟨ao, cap, h1, h2, h3, h4, h5⟩ := hI5.ex; exact ⟨ao, cap, h1, h2, h3, h4, h5⟩, hI5.by8⟩
                  generalize strOf bss[k] = sk at hv4 hv5
                  clear hI4 hI5
                  go_wp2
                  go_quiet (fail)
                  go_wp2
                  go_roundw
                  case rel => exact ⟨k + 1, n + nq, by omega, by go_num, rfl⟩
                  case measure => simp [intOf]; omega
                · go_wp2
                  go_ret
                  exact ⟨rfl, below_drew0 HB3.out n⟩
            · have hif1 : ¬ (0 : Int) < ((bss.length : Nat) : Int) := by omega
              have hz0 : bss.length = 0 := by omega
              clear hif
              go_wp2_with fail
              go_loopw [11, 77] (fun _ i wr => i = .int .i64 0 ∧ wr = w3) (fun _ _ _ => 0)
              case atStart => exact ⟨rfl, rfl⟩
              case round =>
                obtain ⟨rfl, rfl⟩ := hrel
                go_wp2
                go_ret
                exact ⟨rfl, HB3.out⟩
end Go.Proofs.Ytidkjpfdclkccaa
