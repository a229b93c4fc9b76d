/- Own texts of the proof, joined: ListsW OpenB Open OpenNm. -/
import Derived.Test.YtelgjencpafnnaaH2
import Derived.ProofKit
import Derived.OpenShut
import Derived.ShutString
import Derived.ChangeOld
import Derived.Deep.Slices
import Derived.SizedLaws
/- SszLists answers true. -/
namespace Go.Proofs.Ytelgjencpafnnaa
open Go.RowKit Go.Shelf
set_option linter.unusedVariables false
set_option linter.unusedSimpArgs false
set_option maxRecDepth 100000

theorem own_keep {w w' : World} {base n s : Nat} {e : TypeId} {v : Value} {xs : List Value} (h : w.ownsRow base e s v n xs) (hb : Below w.heap.size w w') : w'.ownsRow base e s v n xs := by
  obtain ⟨h1, h2 | ⟨g, cap, cur, hv, hbg, hg, h3⟩⟩ := h
  · exact ⟨h1, .inl h2⟩
  · exact ⟨h1, .inr ⟨g, cap, cur, hv, hbg, by rw [hb.block g (Array.getElem?_eq_some_iff.1 hg).1]; exact hg, h3⟩⟩
theorem IsBs.at {w : World} {v : Value} {bss : List (List Nat)} (h : IsBs w v bss) (hl : 0 < bss.length) : ∃ b off cap, v = .slice (some ⟨b, off, none⟩) bss.length cap ∧ bss.length ≤ cap ∧ ∀ i x, bss[i]? = some x → ∃ u, w.cell? ⟨b, off + i, none⟩ = some u ∧ IsB w u x := by
  obtain ⟨ao, cap, rfl, h1, h2, h3, h4⟩ := h
  rcases h4 with h4 | ⟨b, off, rfl, hc⟩
  · omega
  · exact ⟨b, off, cap, rfl, h1, hc⟩
theorem IsBs.byte {w : World} {v : Value} {bss : List (List Nat)} (h : IsBs w v bss) : ∀ b ∈ bss, ∀ z ∈ b, z < 256 := by
  intro b hb
  obtain ⟨i, hi, rfl⟩ := List.mem_iff_getElem.1 hb
  obtain ⟨_, _, _, _, _, hc⟩ := h.at (by omega)
  obtain ⟨u, _, hI⟩ := hc i _ (List.getElem?_eq_getElem hi)
  exact hI.by8
theorem IsS.at {w : World} {ss : List (List Nat)} {ao : Option Addr} {n cap : Nat} (h : IsS w (.slice ao n cap) ss) (hl : 0 < ss.length) : ∃ b off, ao = some ⟨b, off, none⟩ ∧ ∀ i, i < ss.length → w.cell? ⟨b, off + i, none⟩ = some (.string (strOf (ss.getD i []))) := by
  obtain ⟨⟨ao2, cap2, e, h1, h2, h3⟩, _⟩ := h
  cases e
  rcases h3 with h3 | h3
  · omega
  · exact h3
theorem IsN.at {w : World} {ns : List Nat} {ao : Option Addr} {n cap : Nat} (h : IsN w (.slice ao n cap) ns) (hl : 0 < ns.length) : ∃ b off, ao = some ⟨b, off, none⟩ ∧ ∀ i, i < ns.length → w.cell? ⟨b, off + i, none⟩ = some (.int .u64 (ns.getD i 0 : Nat)) := by
  obtain ⟨⟨ao2, cap2, e, h1, h2, h3⟩, _⟩ := h
  cases e
  rcases h3 with h3 | h3
  · omega
  · exact h3
theorem bang_add (ss : List (List Nat)) (x : List Nat) : bang (ss ++ [x]) = (bang ss || (x.head? == some 33)) := by
  unfold bang
  rw [List.any_append]
  simp
theorem strOf_first (c : Nat) (r : List Nat) (s : ByteArray) (hs : strOf (c :: r) = s) (hc : c < 256) : ∀ h : 0 < s.size, (s[0]'h).toNat = c := by
  subst hs
  intro h
  have h1 := strOf_data (c :: r)
  have h2 : (strOf (c :: r)).data[0]? = some (UInt8.ofNat c) := by
    rw [← Array.getElem?_toList, h1]
    rfl
  have h3 : ((strOf (c :: r))[0]'h) = UInt8.ofNat c := by
    have := Array.getElem?_eq_some_iff.1 h2
    exact this.2
  rw [h3]
  simp [Nat.mod_eq_of_lt hc]
theorem lsS_one (limit : Int) : (lsS limit).toArray.all (·.oneCell') = true := by simp [lsS, Value.oneCell']
set_option maxHeartbeats 4000000 in
theorem lists_walk (v0 v1 : Value) (ns : List Nat) (bss : List (List Nat)) (limit : Int) (w : World) (hN : IsN w v0 ns) (hB : IsBs w v1 bss) (hlim : -9223372036854775808 ≤ limit ∧ limit ≤ 9223372036854775807) :
    Calls Try.prog 4 #[v0, v1, .int .i64 limit] w fun e w' => e = .returned (.bool true) ∧ Below w.heap.size w w' := by
  have hB' := hB
  have hN' := hN
  obtain ⟨⟨nao, ncap, rfl, hncap, hnmx, hnc⟩, h64⟩ := hN
  obtain ⟨ao, cap, rfl, hcap, hcm, _, hc4⟩ := hB
  have hm0 : maxLen ≤ 9223372036854775807 := by decide
  have hnm : ns.length ≤ 9223372036854775807 := by omega
  have hbm : bss.length ≤ 9223372036854775807 := by omega
  have HN := hid hN'
  have HB := hid hB'
  have H64 := hid h64
  clear hnc hB' hN' h64 hncap hnmx hcap hcm hm0
  go_enter Try.func4, Try.ntmps4
  go_wp2_with fail
  refine (awake_any w).mono ?_
  rintro e w1 ⟨rfl, B1⟩
  have HB1 := hid B1
  clear B1
  by_cases h200 : (200 : Int) < ((ns.length : Nat) : Int)
  · go_wp2
    go_ret
    exact ⟨rfl, HB1.out⟩
  by_cases h100 : (100 : Int) < ((bss.length : Nat) : Int)
  · go_wp2
    go_ret
    exact ⟨rfl, HB1.out⟩
  have HC4 := hid hc4
  clear hc4
  go_wp2
  go_loop [8, 35] (fun _ i => ∃ k : Nat, k ≤ bss.length ∧ i = .int .i64 k ∧ Hid (∀ b ∈ bss.take k, b.length ≤ 50)) (fun _ i => bss.length - (intOf i).toNat)
  case atStart => exact ⟨0, Nat.zero_le _, rfl, hid (by simp)⟩
  case round =>
    obtain ⟨k, hk, rfl, h50⟩ := hrel
    by_cases hlt : k < bss.length
    · obtain ⟨b, off, rfl, hcc⟩ : ∃ b off, ao = some ⟨b, off, none⟩ ∧ ∀ i x, bss[i]? = some x → ∃ u, w.cell? ⟨b, off + i, none⟩ = some u ∧ IsB w u x := by
        rcases HC4.out with h | h
        · omega
        · exact h
      obtain ⟨u, hu, hI⟩ := hcc k _ (List.getElem?_eq_getElem hlt)
      have hu1 := (HB1.out.cell (p := ⟨b, off + k, none⟩) (block_lt_of_cell hu)).trans hu
      obtain ⟨⟨ao2, cap2, rfl, hl2, hl3, _⟩, _⟩ := hI
      have hl4 : bss[k].length ≤ 9223372036854775807 := by
        have : maxLen ≤ 9223372036854775807 := by decide
        omega
      have hx := hid (show bss.take (k + 1) = bss.take k ++ [bss[k]] by rw [List.take_add_one, List.getElem?_eq_getElem hlt]; rfl)
      obtain ⟨n, hn⟩ : ∃ n, bss[k].length = n := ⟨_, rfl⟩
      have HNN := hid hn
      rw [hn] at hu hu1 hl4
      clear hcc hu hl2 hl3 hn
      by_cases h5 : (50 : Int) < ((n : Nat) : Int)
      · go_wp2
        go_ret
        exact ⟨rfl, HB1.out⟩
      · go_wp2
        go_round
        case rel =>
          refine ⟨k + 1, by omega, by go_num, hid ?_⟩
          rw [hx.out]
          intro s hs
          rcases List.mem_append.1 hs with hs | hs
          · exact h50.out s hs
          · obtain rfl : s = bss[k] := by simpa using hs
            have := HNN.out
            omega
        case measure => simp [intOf]; omega
    · obtain rfl : k = bss.length := by omega
      have HS : Hid (∀ s ∈ bss, s.length ≤ 50) := hid (by have := h50.out; rwa [List.take_length] at this)
      clear h50 hlt hk
      obtain ⟨L, hL, hL12⟩ : ∃ L : Nat, wrap64 ((IntKind.u64.wrap limit).tmod 12) = (L : Int) ∧ L < 12 := by
        have h0 : 0 ≤ IntKind.u64.wrap limit := by
          show 0 ≤ limit % 18446744073709551616
          omega
        have h1 : (IntKind.u64.wrap limit).tmod 12 = IntKind.u64.wrap limit % 12 := Int.tmod_eq_emod_of_nonneg h0
        refine ⟨(IntKind.u64.wrap limit % 12).toNat, ?_, by omega⟩
        rw [h1, Go.IntWalk.wrap64_in _ (by omega)]
        omega
      clear hlim
      go_wp2_with ((with_reducible refine at_list' ?_); first
        | (simp only [hL]; refine wpList_alloc_c Try.ty39 rfl 9 rfl rfl ?_; intro w2 H2 B2 S2)
        | (refine wpList_store_c Try.ty39 rfl (.tmp 9) (.tmp 48) rfl w1.heap.size (lsN L) rfl rfl rfl (lsN_one _) _ H2 rfl ?_; intro w3 H3 O3)
        | (refine wpList_alloc_c Try.ty43 rfl 10 rfl rfl ?_; intro w4 H4 B4 S4)
        | (refine wpList_store_c Try.ty43 rfl (.tmp 10) (.tmp 50) rfl w3.heap.size (lsS L) rfl rfl rfl (lsS_one _) _ H4 rfl ?_; intro w5 H5 O5))
      have HB5 : Hid (HasC w5 w1.heap.size 39 (lsN L) ∧ HasC w5 w3.heap.size 43 (lsS L) ∧ Below w.heap.size w w5) :=
        hid ⟨(H3.keep B4).only O5 (fun e => by have := H3.lt; omega), H5, below_only ((below_only (below_more HB1.out B2 (Nat.le_refl _)) O3 HB1.out.size).trans (B4.mono (by have := HB1.out.size; have := O3.size; omega))) O5 (by have := HB1.out.size; have := O3.size; omega)⟩
      clear H2 B2 S2 H3 O3 H4 B4 S4 H5 O5
      obtain ⟨g1, hg1⟩ : ∃ g, w1.heap.size = g := ⟨_, rfl⟩
      obtain ⟨g2, hg2⟩ : ∃ g, w3.heap.size = g := ⟨_, rfl⟩
      rw [hg1, hg2] at HB5 ⊢
      clear hg1 hg2 hL w2 w3 w4
      go_loopw [11, 13, 53] (fun t _ i wr => ∃ k : Nat, k ≤ bss.length ∧ i = .int .i64 k ∧ wr.ownsRow w5.heap.size 9 1 t k (sCells (bss.take k)) ∧ Below w5.heap.size w5 wr) (fun _ _ i _ => bss.length - (intOf i).toNat)
      case atStart => exact ⟨0, Nat.zero_le _, rfl, World.ownsRow_nil _ _ _ _, Below.refl _ _⟩
      case round =>
        obtain ⟨k, hk, rfl, how, hbe⟩ := hrel
        by_cases hlt : k < bss.length
        · obtain ⟨b, off, rfl, hcc⟩ : ∃ b off, ao = some ⟨b, off, none⟩ ∧ ∀ i x, bss[i]? = some x → ∃ u, w.cell? ⟨b, off + i, none⟩ = some u ∧ IsB w u x := by
            rcases HC4.out with h | h
            · omega
            · exact h
          obtain ⟨u, hu, hI⟩ := hcc k _ (List.getElem?_eq_getElem hlt)
          have hbw := below_more HB5.out.2.2 hbe (Nat.le_refl _)
          have hu1 := cell_keep hbw hu
          have hcv := conv_b (hI.keep hbw)
          obtain ⟨⟨ao2, cap2, rfl, _⟩, _⟩ := hI
          have hx := hid (show sCells (bss.take (k + 1)) = sCells (bss.take k) ++ [.string (strOf bss[k])] by rw [List.take_add_one, List.getElem?_eq_getElem hlt]; unfold sCells; rw [List.map_append]; rfl)
          obtain ⟨n, hn⟩ : ∃ n, bss[k].length = n := ⟨_, rfl⟩
          obtain ⟨s, hs⟩ : ∃ s, strOf bss[k] = s := ⟨_, rfl⟩
          rw [hn] at hu hu1 hcv
          rw [hs] at hcv hx
          obtain ⟨xs, hxs⟩ : ∃ xs, sCells (bss.take k) = xs := ⟨_, rfl⟩
          rw [hxs] at how hx
          obtain ⟨ta, tn, tc, rfl⟩ := own_slice how
          have HH := hid (And.intro how hbe)
          obtain ⟨i0, hi, hz0, hz1, hz2⟩ := infS
          clear hcc hu hbw hn hs how hbe hxs
          have B2 : Below wr.heap.size wr (wr.alloc (.cells #[.string s] 9)) := (Below.refl _ _).alloc (Nat.le_refl _) _
          have hcn := heap_alloc_new wr (.cells #[.string s] 9)
          have HD2 := hid (And.intro (own_keep HH.out.1 B2) (And.intro (cell_of_row _ wr.heap.size 0 _ _ (0, 0) hcn) (And.intro (below_more HH.out.2 B2 (Nat.le_refl _)) (Nat.le_trans HH.out.2.size B2.size))))
          clear B2 hcn
          go_wp2_with ((with_reducible refine at_list' ?_); first
            | (refine wpList_append_own _ rfl (.tmp 57) (.tmp 60) 44 rfl w5.heap.size 9 i0 (.string ByteArray.empty) 1 16 Try.underlying44 hi hz0 hz1 hz2 rfl (by decide) _ k xs rfl HD2.out.1 ⟨wr.heap.size, 0, none⟩ 1 1 [.string s] rfl rfl ?c1 ?c2 ?c3 ?c4 ?c5 ?_))
          case c1 =>
            intro j u hj
            match j, hj with
            | 0, hj => cases hj; exact HD2.out.2.1
          case c2 => intro u hu; simp at hu; subst hu; rfl
          case c3 => unfold maxLen; omega
          case c4 => omega
          case c5 => exact HD2.out.2.2.2
          · intro v' w4 r1 r2 r3
            rw [← hx.out] at r1
            have HR := hid (And.intro r1 (below_grownR HD2.out.2.2.1 HD2.out.1 (Nat.le_refl _) r2))
            clear r1 r2 r3 HD2 HH hcv hi hz0 hz1 hz2
            go_wp2
            go_round
            case rel => exact ⟨k + 1, by omega, by go_num, HR.out.1, HR.out.2⟩
            case measure => simp [intOf]; omega
        · obtain rfl : k = bss.length := by omega
          rw [List.take_length] at how
          have hbyte : ∀ s ∈ bss, (∀ z ∈ s, z < 256) ∧ s.length ≤ 1000 := fun s hs => ⟨HB.out.byte s hs, by have := HS.out s hs; omega⟩
          have hIS := isS_own how hbyte
          have hbl : ns.length ≤ 200 := by omega
          have hcl : bss.length ≤ 100 := by omega
          obtain ⟨⟨ta, tc, rfl, _⟩, _⟩ := id hIS
          obtain ⟨w6, hw6⟩ : ∃ w6, w6 = wr := ⟨_, rfl⟩
          rw [← hw6] at how hbe hIS ⊢
          clear hw6
          have T6 := hid (below_more HB5.out.2.2 hbe (Nat.le_refl _))
          have HX := hid (And.intro (HB5.out.1.keep hbe) (And.intro (HB5.out.2.1.keep hbe) hIS))
          have HENC := hid (fun wq (hb : Below w6.heap.size w6 wq) => (lenc_any (L : Int) (.slice nao ns.length ncap) ns wq (HN.out.keep (below_more T6.out hb (Nat.le_refl _))) (by omega)).mono (fun e w' h => show ∃ u, e = .returned u ∧ IsB w' u (bytesN ns) ∧ Below wq.heap.size wq w' from by
            obtain ⟨u, h1, h2, h3⟩ := h
            exact ⟨u, h1, h2.isB (bytesN_byte ns), h3⟩))
          have HDEC := hid (fun v wq (h : IsB wq v (bytesN ns)) => ndec_any (L : Int) v ns wq h hbl H64.out)
          clear how hbe hIS hlt hk
          go_wp2_with fail
          refine wp_region_flowM 8 7 (fun i v wq => match i with
            | 0 => v = .agg (lsN L).toArray
            | 1 => v = .agg (lsN L).toArray
            | 2 => v = .slice nao ns.length ncap
            | 3 => IsB wq v (bytesN ns)
            | 4 => ∃ u, v = .tuple #[u, .int .i64 (wantN ns L)] ∧ AnsN L ns wq u
            | 5 => ∃ u, v = .tuple #[u, .int .i64 (wantN ns L)] ∧ AnsN L ns wq u
            | 6 => AnsN L ns wq v
            | _ => v = .int .i64 (wantN ns L)) (by kernel_rfl) (by kernel_rfl) (fun _ d _ _ _ h => by cases d <;> exact h) ?_ ?_ ?_ ?_ ?_
          · intro i o g b hi ho hg v wq hv
            match i, hi with
            | 0, _ => cases ho; cases hg
            | 1, _ => cases ho; cases hg
            | 2, _ => cases ho; cases hg
            | 3, _ => cases ho; cases hg
            | 4, _ => cases ho; cases hg
            | 5, _ => cases ho; cases hg
            | 6, _ => cases ho; cases hg
            | 7, _ => cases ho; cases hg
            | (k + 8), hk => exact absurd hk (by omega)
          · intro i v wq wq' hi hv hb
            match i, hi with
            | 0, _ => exact hv
            | 1, _ => exact hv
            | 2, _ => exact hv
            | 3, _ => exact hv.keep hb
            | 4, _ => exact (by obtain ⟨u, e, h⟩ := hv; exact ⟨u, e, h.keep hb⟩)
            | 5, _ => exact (by obtain ⟨u, e, h⟩ := hv; exact ⟨u, e, h.keep hb⟩)
            | 6, _ => exact hv.keep hb
            | 7, _ => exact hv
            | (k + 8), hk => exact absurd hk (by omega)
          · intro i o hi ho aq wq hc hk hdep
            match i, hi with
            | 0, _ =>
              cases ho
              exact flow_value _ (run_mid 39 (.tmp 9) rfl g1 0 (by simpa [Act.eval] using hk 9 (by decide)) (lsN L) ((HX.out.1.keep hc.bel).range 0 (lsN L) (fun j v hv => by rw [Nat.zero_add]; exact hv)) _ Try.underlying39 rfl Try.ty39.size) rfl
            | 1, _ =>
              cases ho
              exact flow_value _ (run_mid 39 (.tmp 9) rfl g1 0 (by simpa [Act.eval] using hk 9 (by decide)) (lsN L) ((HX.out.1.keep hc.bel).range 0 (lsN L) (fun j v hv => by rw [Nat.zero_add]; exact hv)) _ Try.underlying39 rfl Try.ty39.size) rfl
            | 2, _ =>
              cases ho
              exact flow_move (.tmp 0) rfl (hk 0 (by decide))
            | 3, _ =>
              cases ho
              have e1 : aq.tmps.getD 65 undef = .agg (lsN L).toArray := hdep 1 65 rfl (by kernel_rfl)
              have e2 : aq.tmps.getD 66 undef = .slice nao ns.length ncap := hdep 2 66 rfl (by kernel_rfl)
              refine flow_fun 14 _ _ rfl (fun _ _ => by simp [go_sem]) #[.agg (lsN L).toArray, .slice nao ns.length ncap] (by rw [show (#[Operand.tmp 65, Operand.tmp 66] : Array Operand).map aq.eval = #[aq.tmps.getD 65 undef, aq.tmps.getD 66 undef] from by simp [Act.eval], e1, e2]) ?_
              refine (HENC.out wq hc.bel).mono ?_
              rintro e w' ⟨u, rfl, R, B⟩
              exact ⟨_, rfl, R, B⟩
            | 4, _ =>
              cases ho
              have e1 : aq.tmps.getD 64 undef = .agg (lsN L).toArray := hdep 0 64 rfl (by kernel_rfl)
              have e2 : IsB wq (aq.tmps.getD 67 undef) (bytesN ns) := hdep 3 67 rfl (by kernel_rfl)
              refine flow_fun 13 _ _ rfl (fun _ _ => by simp [go_sem]) #[.agg (lsN L).toArray, aq.tmps.getD 67 undef] (by rw [show (#[Operand.tmp 64, Operand.tmp 67] : Array Operand).map aq.eval = #[aq.tmps.getD 64 undef, aq.tmps.getD 67 undef] from by simp [Act.eval], e1]) ?_
              refine (HDEC.out _ wq e2).mono ?_
              rintro e w' ⟨u, rfl, R, B⟩
              exact ⟨_, rfl, ⟨u, rfl, R⟩, B⟩
            | 5, _ =>
              cases ho
              exact flow_move (.tmp 68) rfl (hdep 4 68 rfl (by kernel_rfl))
            | 6, _ =>
              cases ho
              obtain ⟨u, e0, h⟩ : ∃ u, aq.tmps.getD 63 undef = .tuple #[u, .int .i64 (wantN ns L)] ∧ AnsN L ns wq u := hdep 5 63 rfl (by kernel_rfl)
              exact flow_extract (.tmp 63) 0 _ _ rfl (by simpa [Act.eval] using e0) rfl h
            | 7, _ =>
              cases ho
              obtain ⟨u, e0, h⟩ : ∃ u, aq.tmps.getD 63 undef = .tuple #[u, .int .i64 (wantN ns L)] ∧ AnsN L ns wq u := hdep 5 63 rfl (by kernel_rfl)
              exact flow_extract (.tmp 63) 1 _ _ rfl (by simpa [Act.eval] using e0) rfl rfl
            | (k + 8), hk => exact absurd hk (by omega)
          · intro o h7 ho aq wq hc hk hdep
            cases ho
            obtain ⟨u, e0, h⟩ : ∃ u, aq.tmps.getD 63 undef = .tuple #[u, .int .i64 (wantN ns L)] ∧ AnsN L ns wq u := hdep 5 63 rfl (by kernel_rfl)
            exact ⟨_, fun w => run_extract (.tmp 63) 1 _ _ rfl (by simpa [Act.eval] using e0) rfl, rfl⟩
          intro vf wN hc hv
          have e6 : AnsN L ns wN (vf 6) := hv 6 69 (by decide) rfl
          have e7 : vf 7 = _ := hv 7 70 (by decide) rfl
          clear hv
          simp only [List.take_succ_cons, List.take_zero, List.drop_succ_cons, List.drop_zero, putAll, Act.put, List.setIfInBounds_toArray, List.set_cons_succ, List.set_cons_zero]
          obtain ⟨xv, hxv⟩ : ∃ xv, vf 6 = xv := ⟨_, rfl⟩
          rw [hxv] at e6 ⊢
          rw [e7]
          clear hxv e7
          have T7 := hid (below_more T6.out hc.bel (Nat.le_refl _))
          have A7 := hid e6
          have HX := hid (And.intro (HX.out.1.keep hc.bel) (And.intro (HX.out.2.1.keep hc.bel) (HX.out.2.2.keep hc.bel)))
          clear e6 hc HENC HDEC T6
          have HENC := hid (fun wq (hb : Below wN.heap.size wN wq) => (senc_any (L : Int) (.slice ta bss.length tc) bss wq (HX.out.2.2.keep hb) (by omega)).mono (fun e w' h => show ∃ u, e = .returned u ∧ IsB w' u (cont (partF bss)) ∧ Below wq.heap.size wq w' from by
            obtain ⟨u, h1, h2, h3⟩ := h
            exact ⟨u, h1, h2.isB (by rw [partF_join]; exact joinB_byte (fun b hb => (hbyte b hb).1)), h3⟩))
          have HDEC := hid (fun v wq (h : IsB wq v (cont (partF bss))) => tdec_any (L : Int) v bss wq h hcl hbyte ⟨by omega, by omega⟩)
          go_wp2_with fail
          refine wp_region_flowM 8 7 (fun i v wq => match i with
            | 0 => v = .agg (lsS L).toArray
            | 1 => v = .agg (lsS L).toArray
            | 2 => v = .slice ta bss.length tc
            | 3 => IsB wq v (cont (partF bss))
            | 4 => ∃ u, v = .tuple #[u, .int .i64 (wantS bss L)] ∧ AnsS L bss wq u
            | 5 => ∃ u, v = .tuple #[u, .int .i64 (wantS bss L)] ∧ AnsS L bss wq u
            | 6 => AnsS L bss wq v
            | _ => v = .int .i64 (wantS bss L)) (by kernel_rfl) (by kernel_rfl) (fun _ d _ _ _ h => by cases d <;> exact h) ?_ ?_ ?_ ?_ ?_
          · intro i o g b hi ho hg v wq hv
            match i, hi with
            | 0, _ => cases ho; cases hg
            | 1, _ => cases ho; cases hg
            | 2, _ => cases ho; cases hg
            | 3, _ => cases ho; cases hg
            | 4, _ => cases ho; cases hg
            | 5, _ => cases ho; cases hg
            | 6, _ => cases ho; cases hg
            | 7, _ => cases ho; cases hg
            | (k + 8), hk => exact absurd hk (by omega)
          · intro i v wq wq' hi hv hb
            match i, hi with
            | 0, _ => exact hv
            | 1, _ => exact hv
            | 2, _ => exact hv
            | 3, _ => exact hv.keep hb
            | 4, _ => exact (by obtain ⟨u, e, h⟩ := hv; exact ⟨u, e, h.keep hb⟩)
            | 5, _ => exact (by obtain ⟨u, e, h⟩ := hv; exact ⟨u, e, h.keep hb⟩)
            | 6, _ => exact hv.keep hb
            | 7, _ => exact hv
            | (k + 8), hk => exact absurd hk (by omega)
          · intro i o hi ho aq wq hc hk hdep
            match i, hi with
            | 0, _ =>
              cases ho
              exact flow_value _ (run_mid 43 (.tmp 10) rfl g2 0 (by simpa [Act.eval] using hk 10 (by decide)) (lsS L) ((HX.out.2.1.keep hc.bel).range 0 (lsS L) (fun j v hv => by rw [Nat.zero_add]; exact hv)) _ Try.underlying43 rfl Try.ty43.size) rfl
            | 1, _ =>
              cases ho
              exact flow_value _ (run_mid 43 (.tmp 10) rfl g2 0 (by simpa [Act.eval] using hk 10 (by decide)) (lsS L) ((HX.out.2.1.keep hc.bel).range 0 (lsS L) (fun j v hv => by rw [Nat.zero_add]; exact hv)) _ Try.underlying43 rfl Try.ty43.size) rfl
            | 2, _ =>
              cases ho
              exact flow_move (.tmp 11) rfl (hk 11 (by decide))
            | 3, _ =>
              cases ho
              have e1 : aq.tmps.getD 73 undef = .agg (lsS L).toArray := hdep 1 73 rfl (by kernel_rfl)
              have e2 : aq.tmps.getD 74 undef = .slice ta bss.length tc := hdep 2 74 rfl (by kernel_rfl)
              refine flow_fun 16 _ _ rfl (fun _ _ => by simp [go_sem]) #[.agg (lsS L).toArray, .slice ta bss.length tc] (by rw [show (#[Operand.tmp 73, Operand.tmp 74] : Array Operand).map aq.eval = #[aq.tmps.getD 73 undef, aq.tmps.getD 74 undef] from by simp [Act.eval], e1, e2]) ?_
              refine (HENC.out wq hc.bel).mono ?_
              rintro e w' ⟨u, rfl, R, B⟩
              exact ⟨_, rfl, R, B⟩
            | 4, _ =>
              cases ho
              have e1 : aq.tmps.getD 72 undef = .agg (lsS L).toArray := hdep 0 72 rfl (by kernel_rfl)
              have e2 : IsB wq (aq.tmps.getD 75 undef) (cont (partF bss)) := hdep 3 75 rfl (by kernel_rfl)
              refine flow_fun 15 _ _ rfl (fun _ _ => by simp [go_sem]) #[.agg (lsS L).toArray, aq.tmps.getD 75 undef] (by rw [show (#[Operand.tmp 72, Operand.tmp 75] : Array Operand).map aq.eval = #[aq.tmps.getD 72 undef, aq.tmps.getD 75 undef] from by simp [Act.eval], e1]) ?_
              refine (HDEC.out _ wq e2).mono ?_
              rintro e w' ⟨u, rfl, R, B⟩
              exact ⟨_, rfl, ⟨u, rfl, R⟩, B⟩
            | 5, _ =>
              cases ho
              exact flow_move (.tmp 76) rfl (hdep 4 76 rfl (by kernel_rfl))
            | 6, _ =>
              cases ho
              obtain ⟨u, e0, h⟩ : ∃ u, aq.tmps.getD 71 undef = .tuple #[u, .int .i64 (wantS bss L)] ∧ AnsS L bss wq u := hdep 5 71 rfl (by kernel_rfl)
              exact flow_extract (.tmp 71) 0 _ _ rfl (by simpa [Act.eval] using e0) rfl h
            | 7, _ =>
              cases ho
              obtain ⟨u, e0, h⟩ : ∃ u, aq.tmps.getD 71 undef = .tuple #[u, .int .i64 (wantS bss L)] ∧ AnsS L bss wq u := hdep 5 71 rfl (by kernel_rfl)
              exact flow_extract (.tmp 71) 1 _ _ rfl (by simpa [Act.eval] using e0) rfl rfl
            | (k + 8), hk => exact absurd hk (by omega)
          · intro o h7 ho aq wq hc hk hdep
            cases ho
            obtain ⟨u, e0, h⟩ : ∃ u, aq.tmps.getD 71 undef = .tuple #[u, .int .i64 (wantS bss L)] ∧ AnsS L bss wq u := hdep 5 71 rfl (by kernel_rfl)
            exact ⟨_, fun w => run_extract (.tmp 71) 1 _ _ rfl (by simpa [Act.eval] using e0) rfl, rfl⟩
          intro vf wN hc hv
          have e6 : AnsS L bss wN (vf 6) := hv 6 77 (by decide) rfl
          have e7 : vf 7 = _ := hv 7 78 (by decide) rfl
          clear hv
          simp only [List.take_succ_cons, List.take_zero, List.drop_succ_cons, List.drop_zero, putAll, Act.put, List.setIfInBounds_toArray, List.set_cons_succ, List.set_cons_zero]
          obtain ⟨yv, hyv⟩ : ∃ yv, vf 6 = yv := ⟨_, rfl⟩
          rw [hyv] at e6 ⊢
          rw [e7]
          clear hyv e7
          have T8 := hid (below_more T7.out hc.bel (Nat.le_refl _))
          have A7 := hid (A7.out.keep hc.bel)
          have A8 := hid e6
          have HX := hid (HX.out.2.2.keep hc.bel)
          clear e6 hc HENC HDEC T7
          go_wp2_with fail
          go_loop [18, 20, 81] (fun f _ i => ∃ k : Nat, k ≤ bss.length ∧ i = .int .i64 k ∧ f = .int .i64 (if bang (bss.take k) = true then 47 else 0)) (fun _ _ i => bss.length - (intOf i).toNat)
          case atStart => exact ⟨0, Nat.zero_le _, rfl, by simp [bang]⟩
          case round =>
            obtain ⟨k, hk, rfl, rfl⟩ := hrel
            by_cases hlt : k < bss.length
            · obtain ⟨b2, o2, rfl, hcc⟩ := HX.out.at (by omega)
              have hu1 := hcc k hlt
              obtain ⟨s, hs⟩ : ∃ s, strOf bss[k] = s := ⟨_, rfl⟩
              have hsz := strOf_sz bss[k]
              have hgd : bss.getD k [] = bss[k] := by rw [List.getD_eq_getElem?_getD, List.getElem?_eq_getElem hlt]; rfl
              rw [hgd, hs] at hu1
              rw [hs] at hsz
              have hx := hid (show bss.take (k + 1) = bss.take k ++ [bss[k]] by rw [List.take_add_one, List.getElem?_eq_getElem hlt]; rfl)
              obtain ⟨f0, hf0⟩ : ∃ f0 : Int, (if bang (bss.take k) = true then 47 else 0) = f0 := ⟨_, rfl⟩
              rw [hf0]
              have HF0 := hid hf0
              clear hcc hgd hf0
              have hb8 := hbyte bss[k] (List.getElem_mem hlt)
              have hba := bang_add (bss.take k) bss[k]
              rw [← hx.out] at hba
              rcases hbk : bss[k] with _ | ⟨c, r⟩
              · rw [hbk] at hba hsz
                have HBA := hid hba
                clear hb8 hba hbk hs
                simp only [List.length_nil] at hsz
                go_wp2
                go_round
                case rel => exact ⟨k + 1, by omega, by go_num, by rw [HBA.out, ← HF0.out]; simp⟩
                case measure => simp [intOf]; omega
              · rw [hbk] at hba hb8 hs
                have hc8 := hb8.1 c (by simp)
                have hg := strOf_first c r s hs hc8
                rw [hbk] at hsz
                have hsz0 : 0 < s.size := by rw [hsz]; simp
                have hsz1 : s.size ≤ 1000 := by rw [hsz]; exact hb8.2
                have HBA := hid hba
                clear hb8 hba hbk hs hsz
                obtain ⟨n, hn⟩ : ∃ n, s.size = n := ⟨_, rfl⟩
                rw [hn] at hsz0 hsz1
                by_cases h33 : c = 33
                · subst h33
                  go_wp2
                  go_round
                  case rel => exact ⟨k + 1, by omega, by go_num, by rw [HBA.out]; simp⟩
                  case measure => simp [intOf]; omega
                · have h33' : ¬ ((c : Nat) : Int) = 33 := by omega
                  go_wp2
                  go_round
                  case rel => exact ⟨k + 1, by omega, by go_num, by rw [HBA.out, ← HF0.out]; simp [h33]⟩
                  case measure => simp [intOf]; omega
            · obtain rfl : k = bss.length := by omega
              rw [List.take_length]
              clear hlt hk
              have HN8 := hid (HN.out.keep T8.out)
              have A7o := A7.out
              have A8o := A8.out
              clear A7 A8
              unfold AnsN at A7o
              unfold AnsS at A8o
              rcases A7o with ⟨eN, hle, hA⟩ | ⟨eN, hle, rfl⟩
              · obtain ⟨⟨xa, xc, rfl, _⟩, _⟩ := id hA
                have HA := hid hA
                clear hA
                rw [eN]
                clear eN
                by_cases hmany : (L : Int) < ((bss.length : Nat) : Int)
                · have eS : wantS bss L = 3 := by unfold wantS; rw [if_pos hmany]
                  rcases A8o with ⟨h, _⟩ | ⟨_, rfl⟩
                  · rw [eS] at h; exact absurd h (by decide)
                  rw [eS]
                  clear eS
                  generalize (if bang bss = true then (47 : Int) else 0) = f0
                  go_wp2
                  go_loopw [21, 134] (fun _ i wr => ∃ k n : Nat, k ≤ ns.length ∧ i = .int .i64 k ∧ wr = wN.drewN n) (fun _ i _ => ns.length - (intOf i).toNat)
                  case atStart => exact ⟨0, 0, Nat.zero_le _, rfl, rfl⟩
                  case round =>
                    obtain ⟨k, n, hk, rfl, rfl⟩ := hrel
                    by_cases hlt : k < ns.length
                    · obtain ⟨b, off, rfl, hcc⟩ := HA.out.at (by omega)
                      obtain ⟨b0, off0, rfl, hcc0⟩ := HN8.out.at (by omega)
                      have hu1 := hcc k hlt
                      have hu2 := hcc0 k hlt
                      obtain ⟨z, hz⟩ : ∃ z : Int, ((ns.getD k 0 : Nat) : Int) = z := ⟨_, rfl⟩
                      rw [hz] at hu1 hu2
                      clear hcc hcc0 hz
                      go_wp2
                      go_quiet (fail)
                      go_wp2
                      go_roundw
                      case rel => exact ⟨k + 1, n + nq, by omega, by go_num, rfl⟩
                      case measure => simp [intOf]; omega
                    · obtain rfl : k = ns.length := by omega
                      clear hlt hk
                      have T9 := hid (below_drew0 T8.out n)
                      generalize wN.drewN n = wM at *
                      go_wp2
                      go_loopw [22, 149] (fun _ i wr => ∃ k n : Nat, k ≤ 0 ∧ i = .int .i64 k ∧ wr = wM.drewN n) (fun _ i _ => 0 - (intOf i).toNat)
                      case atStart => exact ⟨0, 0, Nat.zero_le _, rfl, rfl⟩
                      case round =>
                        obtain ⟨k, n, hk, rfl, rfl⟩ := hrel
                        by_cases hlt : k < 0
                        · exact absurd hlt (by omega)
                        · obtain rfl : k = 0 := by omega
                          clear hlt hk
                          go_wp2
                          go_ret
                          exact ⟨rfl, below_drew0 T9.out n⟩
                by_cases hbang : bang bss = true
                · have eS : wantS bss L = 47 := by unfold wantS; rw [if_neg hmany, if_pos hbang]
                  rcases A8o with ⟨h, _⟩ | ⟨_, rfl⟩
                  · rw [eS] at h; exact absurd h (by decide)
                  rw [eS, if_pos hbang]
                  clear eS hbang
                  go_wp2
                  go_loopw [21, 134] (fun _ i wr => ∃ k n : Nat, k ≤ ns.length ∧ i = .int .i64 k ∧ wr = wN.drewN n) (fun _ i _ => ns.length - (intOf i).toNat)
                  case atStart => exact ⟨0, 0, Nat.zero_le _, rfl, rfl⟩
                  case round =>
                    obtain ⟨k, n, hk, rfl, rfl⟩ := hrel
                    by_cases hlt : k < ns.length
                    · obtain ⟨b, off, rfl, hcc⟩ := HA.out.at (by omega)
                      obtain ⟨b0, off0, rfl, hcc0⟩ := HN8.out.at (by omega)
                      have hu1 := hcc k hlt
                      have hu2 := hcc0 k hlt
                      obtain ⟨z, hz⟩ : ∃ z : Int, ((ns.getD k 0 : Nat) : Int) = z := ⟨_, rfl⟩
                      rw [hz] at hu1 hu2
                      clear hcc hcc0 hz
                      go_wp2
                      go_quiet (fail)
                      go_wp2
                      go_roundw
                      case rel => exact ⟨k + 1, n + nq, by omega, by go_num, rfl⟩
                      case measure => simp [intOf]; omega
                    · obtain rfl : k = ns.length := by omega
                      clear hlt hk
                      have T9 := hid (below_drew0 T8.out n)
                      generalize wN.drewN n = wM at *
                      go_wp2
                      go_loopw [22, 149] (fun _ i wr => ∃ k n : Nat, k ≤ 0 ∧ i = .int .i64 k ∧ wr = wM.drewN n) (fun _ i _ => 0 - (intOf i).toNat)
                      case atStart => exact ⟨0, 0, Nat.zero_le _, rfl, rfl⟩
                      case round =>
                        obtain ⟨k, n, hk, rfl, rfl⟩ := hrel
                        by_cases hlt : k < 0
                        · exact absurd hlt (by omega)
                        · obtain rfl : k = 0 := by omega
                          clear hlt hk
                          go_wp2
                          go_ret
                          exact ⟨rfl, below_drew0 T9.out n⟩
                · have eS : wantS bss L = 0 := by unfold wantS; rw [if_neg hmany, if_neg hbang]
                  rcases A8o with ⟨_, hC⟩ | ⟨h, _⟩
                  rotate_left
                  · exact absurd eS h
                  obtain ⟨⟨ya, yc, rfl, _⟩, _⟩ := id hC
                  have HC := hid hC
                  rw [eS, if_neg hbang]
                  clear eS hbang hC
                  go_wp2
                  go_loopw [21, 134] (fun _ i wr => ∃ k n : Nat, k ≤ ns.length ∧ i = .int .i64 k ∧ wr = wN.drewN n) (fun _ i _ => ns.length - (intOf i).toNat)
                  case atStart => exact ⟨0, 0, Nat.zero_le _, rfl, rfl⟩
                  case round =>
                    obtain ⟨k, n, hk, rfl, rfl⟩ := hrel
                    by_cases hlt : k < ns.length
                    · obtain ⟨b, off, rfl, hcc⟩ := HA.out.at (by omega)
                      obtain ⟨b0, off0, rfl, hcc0⟩ := HN8.out.at (by omega)
                      have hu1 := hcc k hlt
                      have hu2 := hcc0 k hlt
                      obtain ⟨z, hz⟩ : ∃ z : Int, ((ns.getD k 0 : Nat) : Int) = z := ⟨_, rfl⟩
                      rw [hz] at hu1 hu2
                      clear hcc hcc0 hz
                      go_wp2
                      go_quiet (fail)
                      go_wp2
                      go_roundw
                      case rel => exact ⟨k + 1, n + nq, by omega, by go_num, rfl⟩
                      case measure => simp [intOf]; omega
                    · obtain rfl : k = ns.length := by omega
                      clear hlt hk
                      have T9 := hid (below_drew0 T8.out n)
                      have HB9 := hid (HC.out.keep (below_drew0 (Below.refl wN.heap.size wN) n))
                      have HX9 := hid (HX.out.keep (below_drew0 (Below.refl wN.heap.size wN) n))
                      generalize wN.drewN n = wM at *
                      go_wp2
                      go_loopw [22, 149] (fun _ i wr => ∃ k n : Nat, k ≤ bss.length ∧ i = .int .i64 k ∧ wr = wM.drewN n) (fun _ i _ => bss.length - (intOf i).toNat)
                      case atStart => exact ⟨0, 0, Nat.zero_le _, rfl, rfl⟩
                      case round =>
                        obtain ⟨k, n, hk, rfl, rfl⟩ := hrel
                        by_cases hlt : k < bss.length
                        · obtain ⟨b, off, rfl, hcc⟩ := HB9.out.at (by omega)
                          obtain ⟨b0, off0, rfl, hcc0⟩ := HX9.out.at (by omega)
                          have hu1 := hcc k hlt
                          have hu2 := hcc0 k hlt
                          obtain ⟨z, hz⟩ : ∃ z, strOf (bss.getD k []) = z := ⟨_, rfl⟩
                          rw [hz] at hu1 hu2
                          clear hcc hcc0 hz
                          go_wp2
                          go_quiet (fail)
                          go_wp2
                          go_roundw
                          case rel => exact ⟨k + 1, n + nq, by omega, by go_num, rfl⟩
                          case measure => simp [intOf]; omega
                        · obtain rfl : k = bss.length := by omega
                          clear hlt hk
                          go_wp2
                          go_ret
                          exact ⟨rfl, below_drew0 T9.out n⟩
              · skip
                rw [eN]
                clear eN
                by_cases hmany : (L : Int) < ((bss.length : Nat) : Int)
                · have eS : wantS bss L = 3 := by unfold wantS; rw [if_pos hmany]
                  rcases A8o with ⟨h, _⟩ | ⟨_, rfl⟩
                  · rw [eS] at h; exact absurd h (by decide)
                  rw [eS]
                  clear eS
                  generalize (if bang bss = true then (47 : Int) else 0) = f0
                  go_wp2
                  go_loopw [21, 134] (fun _ i wr => ∃ k n : Nat, k ≤ 0 ∧ i = .int .i64 k ∧ wr = wN.drewN n) (fun _ i _ => 0 - (intOf i).toNat)
                  case atStart => exact ⟨0, 0, Nat.zero_le _, rfl, rfl⟩
                  case round =>
                    obtain ⟨k, n, hk, rfl, rfl⟩ := hrel
                    by_cases hlt : k < 0
                    · exact absurd hlt (by omega)
                    · obtain rfl : k = 0 := by omega
                      clear hlt hk
                      have T9 := hid (below_drew0 T8.out n)
                      generalize wN.drewN n = wM at *
                      go_wp2
                      go_loopw [22, 149] (fun _ i wr => ∃ k n : Nat, k ≤ 0 ∧ i = .int .i64 k ∧ wr = wM.drewN n) (fun _ i _ => 0 - (intOf i).toNat)
                      case atStart => exact ⟨0, 0, Nat.zero_le _, rfl, rfl⟩
                      case round =>
                        obtain ⟨k, n, hk, rfl, rfl⟩ := hrel
                        by_cases hlt : k < 0
                        · exact absurd hlt (by omega)
                        · obtain rfl : k = 0 := by omega
                          clear hlt hk
                          go_wp2
                          go_ret
                          exact ⟨rfl, below_drew0 T9.out n⟩
                by_cases hbang : bang bss = true
                · have eS : wantS bss L = 47 := by unfold wantS; rw [if_neg hmany, if_pos hbang]
                  rcases A8o with ⟨h, _⟩ | ⟨_, rfl⟩
                  · rw [eS] at h; exact absurd h (by decide)
                  rw [eS, if_pos hbang]
                  clear eS hbang
                  go_wp2
                  go_loopw [21, 134] (fun _ i wr => ∃ k n : Nat, k ≤ 0 ∧ i = .int .i64 k ∧ wr = wN.drewN n) (fun _ i _ => 0 - (intOf i).toNat)
                  case atStart => exact ⟨0, 0, Nat.zero_le _, rfl, rfl⟩
                  case round =>
                    obtain ⟨k, n, hk, rfl, rfl⟩ := hrel
                    by_cases hlt : k < 0
                    · exact absurd hlt (by omega)
                    · obtain rfl : k = 0 := by omega
                      clear hlt hk
                      have T9 := hid (below_drew0 T8.out n)
                      generalize wN.drewN n = wM at *
                      go_wp2
                      go_loopw [22, 149] (fun _ i wr => ∃ k n : Nat, k ≤ 0 ∧ i = .int .i64 k ∧ wr = wM.drewN n) (fun _ i _ => 0 - (intOf i).toNat)
                      case atStart => exact ⟨0, 0, Nat.zero_le _, rfl, rfl⟩
                      case round =>
                        obtain ⟨k, n, hk, rfl, rfl⟩ := hrel
                        by_cases hlt : k < 0
                        · exact absurd hlt (by omega)
                        · obtain rfl : k = 0 := by omega
                          clear hlt hk
                          go_wp2
                          go_ret
                          exact ⟨rfl, below_drew0 T9.out n⟩
                · have eS : wantS bss L = 0 := by unfold wantS; rw [if_neg hmany, if_neg hbang]
                  rcases A8o with ⟨_, hC⟩ | ⟨h, _⟩
                  rotate_left
                  · exact absurd eS h
                  obtain ⟨⟨ya, yc, rfl, _⟩, _⟩ := id hC
                  have HC := hid hC
                  rw [eS, if_neg hbang]
                  clear eS hbang hC
                  go_wp2
                  go_loopw [21, 134] (fun _ i wr => ∃ k n : Nat, k ≤ 0 ∧ i = .int .i64 k ∧ wr = wN.drewN n) (fun _ i _ => 0 - (intOf i).toNat)
                  case atStart => exact ⟨0, 0, Nat.zero_le _, rfl, rfl⟩
                  case round =>
                    obtain ⟨k, n, hk, rfl, rfl⟩ := hrel
                    by_cases hlt : k < 0
                    · exact absurd hlt (by omega)
                    · obtain rfl : k = 0 := by omega
                      clear hlt hk
                      have T9 := hid (below_drew0 T8.out n)
                      have HB9 := hid (HC.out.keep (below_drew0 (Below.refl wN.heap.size wN) n))
                      have HX9 := hid (HX.out.keep (below_drew0 (Below.refl wN.heap.size wN) n))
                      generalize wN.drewN n = wM at *
                      go_wp2
                      go_loopw [22, 149] (fun _ i wr => ∃ k n : Nat, k ≤ bss.length ∧ i = .int .i64 k ∧ wr = wM.drewN n) (fun _ i _ => bss.length - (intOf i).toNat)
                      case atStart => exact ⟨0, 0, Nat.zero_le _, rfl, rfl⟩
                      case round =>
                        obtain ⟨k, n, hk, rfl, rfl⟩ := hrel
                        by_cases hlt : k < bss.length
                        · obtain ⟨b, off, rfl, hcc⟩ := HB9.out.at (by omega)
                          obtain ⟨b0, off0, rfl, hcc0⟩ := HX9.out.at (by omega)
                          have hu1 := hcc k hlt
                          have hu2 := hcc0 k hlt
                          obtain ⟨z, hz⟩ : ∃ z, strOf (bss.getD k []) = z := ⟨_, rfl⟩
                          rw [hz] at hu1 hu2
                          clear hcc hcc0 hz
                          go_wp2
                          go_quiet (fail)
                          go_wp2
                          go_roundw
                          case rel => exact ⟨k + 1, n + nq, by omega, by go_num, rfl⟩
                          case measure => simp [intOf]; omega
                        · obtain rfl : k = bss.length := by omega
                          clear hlt hk
                          go_wp2
                          go_ret
                          exact ⟨rfl, below_drew0 T9.out n⟩
end Go.Proofs.Ytelgjencpafnnaa

/- Bytes that came in. -/
namespace Go.Proofs.Ytelgjencpafnnaa
open Go.RowKit Go.Deep Go.ChangeShapes Go.WideShapes Go.ChangeAt
set_option linter.unusedVariables false

theorem cells5 : Try.prog.cellsOf 5 = 1 := by kernel_rfl
theorem bytes5 : Try.prog.bytesOf 5 = 1 := by kernel_rfl
section
variable {H : Type} {enc : TypeId × Value → H} {W : World} {b0 : Nat} {sp : Nat → Bool} {held : Bool}
theorem b_of_trod {fuel : Nat} {cs : List Value} {x : DataW H × List MemPlace} (h : DataW.trod enc Try.prog W b0 sp held fuel 22 cs = some x) :
    ∃ v bs, cs = [v] ∧ IsB W v bs ∧ (bs.length = 0 ∨ ∃ n, bs.length ≤ n ∧ n ∈ x.1.weights Try.prog 22) := by
  rcases open_ints Try.underlying22 Try.underlying5 cells5 h with ⟨rfl, _⟩ | ⟨a, len, cap, zs, rfl, _, hl, hm, hz, hx, hcell, hwz⟩
  · exact ⟨_, [], rfl, ⟨⟨none, 0, rfl, Nat.le_refl _, by decide, fun _ => rfl, .inl rfl⟩, fun z hz => by cases hz⟩, .inl rfl⟩
  · have hzl : len ≤ zs.length := by rw [hz]; split <;> omega
    have hbl : ((zs.take len).map Int.toNat).length = len := by simp; omega
    refine ⟨_, (zs.take len).map Int.toNat, rfl, ⟨⟨some a, cap, by rw [hbl], by omega, hm, (fun e => by cases e), ?_⟩, fun z hz' => ?_⟩, .inr ⟨(((zs.take len).length) + (zs.drop len).length) * 1, by rw [hbl]; simp; omega, ?_⟩⟩
    · by_cases h0 : len = 0
      · exact .inl (by rw [hbl]; exact h0)
      · obtain ⟨b, off, rfl, hc'⟩ := ints_at hcell (by omega)
        refine .inr ⟨b, off, rfl, fun i hi => ?_⟩
        rw [hbl] at hi
        rw [hc' i (by omega)]
        have hb := bounds_u8 (hwz (zs.getD i 0) (by rw [List.getD_eq_getElem?_getD, List.getElem?_eq_getElem (by omega)]; exact List.getElem_mem _))
        have e : ((zs.take len).map Int.toNat).getD i 0 = (zs.getD i 0).toNat := by
          simp [List.getD_eq_getElem?_getD, hi, show i < zs.length by omega]
        rw [e]
        congr 2
        omega
    · obtain ⟨y, hy, rfl⟩ := List.mem_map.1 hz'
      have := bounds_u8 (hwz y (List.mem_of_mem_take hy))
      omega
    · rw [hx]
      simp [DataW.weights, Try.underlying22, bytes5, lits]
/-- Bytes that came in. -/
theorem open_b {v : Value} {d : DataW H} {p : List MemPlace} (hs : ∃ ao len cap, v = .slice ao len cap) (h : DataW.Trod enc Try.prog W b0 sp held 22 v d p) : ∃ bs, IsB W v bs := by
  obtain ⟨fuel, hf⟩ := h
  obtain ⟨v', bs, he, hI, _⟩ := b_of_trod hf
  obtain ⟨ao, len, cap, rfl⟩ := hs
  simp [Value.cells] at he
  subst he
  exact ⟨bs, hI⟩
end
end Go.Proofs.Ytelgjencpafnnaa

/- Slices of bytes that came in. -/
namespace Go.Proofs.Ytelgjencpafnnaa
open Go.RowKit Go.Deep Go.ChangeShapes Go.WideShapes Go.ChangeAt
set_option linter.unusedVariables false

theorem cells30 : Try.prog.cellsOf 22 = 1 := by kernel_rfl
section
variable {H : Type} {enc : TypeId × Value → H} {W : World} {b0 : Nat} {sp : Nat → Bool} {held : Bool}
theorem weightsAll_mem {P : Program} {e : TypeId} {n : Nat} : ∀ {l : List (DataW H)} {d : DataW H}, d ∈ l → n ∈ d.weights P e → n ∈ DataW.weightsAll P e l
  | d0 :: l, d, hd, hn => by
    rw [DataW.weightsAll, List.mem_append]
    rcases List.mem_cons.1 hd with rfl | hd
    · exact .inl hn
    · exact .inr (weightsAll_mem hd hn)
/-- Slices of bytes that came in; none is longer than the reach. -/
theorem open_bss {v : Value} {d : DataW H} {p : List MemPlace} (hs : ∃ ao len cap, v = .slice ao len cap) (h : DataW.Trod enc Try.prog W b0 sp held 32 v d p) (hr : ∀ n ∈ d.weights Try.prog 32, n ≤ reachBytes) :
    ∃ bss, IsBs W v bss ∧ ∀ b ∈ bss, b.length ≤ reachBytes := by
  obtain ⟨fuel, hf⟩ := h
  obtain ⟨ao, len, cap, rfl⟩ := hs
  rcases open_slice Try.underlying32 hf with ⟨hcs, _⟩ | ⟨a, len', cap', m, n, D, Pl, hcs, _, hl, hm, hmm, hd, hx⟩
  · simp [Value.cells] at hcs
    obtain ⟨rfl, rfl, rfl⟩ := hcs
    exact ⟨[], ⟨none, 0, rfl, Nat.le_refl _, by decide, fun _ => rfl, .inl rfl⟩, fun b hb => by cases hb⟩
  · simp [Value.cells] at hcs
    obtain ⟨rfl, rfl, rfl⟩ := hcs
    rw [cells30] at hx
    have hlm : len ≤ m := by rw [hmm]; split <;> omega
    have each : ∀ i, i < len → ∃ bs : List Nat, bs.length ≤ reachBytes ∧ ∃ u, W.cell? (a.add i) = some u ∧ IsB W u bs := by
      intro i hi
      obtain ⟨cs', hc, ht⟩ := hx i (by omega)
      obtain ⟨u, bs, rfl, hI, hw⟩ := b_of_trod ht
      refine ⟨bs, ?_, u, ?_, hI⟩
      · rcases hw with hw | ⟨q, h1, h2⟩
        · rw [hw]; exact Nat.zero_le _
        · refine Nat.le_trans h1 (hr q ?_)
          have hd' : d = .slice ((List.range len).map D) ((List.range (m - len)).map fun j => D (len + j)) := congrArg Prod.fst hd
          rw [hd', DataW.weights, Try.underlying32]
          refine List.mem_cons_of_mem _ (List.mem_append.2 (.inl (weightsAll_mem (d := D i) (List.mem_map.2 ⟨i, List.mem_range.2 hi, rfl⟩) h2)))
      · have := (World.cells?_some hc).2.2 0 (by decide)
        rw [Nat.mul_one] at this
        simpa [Addr.add] using this
    have hf : ∃ f : Nat → List Nat, ∀ i, i < len → (f i).length ≤ reachBytes ∧ ∃ u, W.cell? (a.add i) = some u ∧ IsB W u (f i) :=
      ⟨fun i => if h : i < len then Classical.choose (each i h) else [], fun i hi => by simp only [hi, dif_pos]; exact Classical.choose_spec (each i hi)⟩
    obtain ⟨f, hf⟩ := hf
    refine ⟨(List.range len).map f, ⟨some a, cap, by simp, by simpa using hl, hm, (fun e => by cases e), ?_⟩, fun b hb => by obtain ⟨i, hi, rfl⟩ := List.mem_map.1 hb; exact (hf i (List.mem_range.1 hi)).1⟩
    by_cases h0 : len = 0
    · exact .inl (by simp [h0])
    · obtain ⟨b, off, spot⟩ := a
      obtain ⟨u0, hu0, _⟩ := (hf 0 (by omega)).2
      have hspot : spot = none := by simpa [Addr.add] using World.cell?_spot hu0
      subst hspot
      refine .inr ⟨b, off, rfl, fun i x hx => ?_⟩
      have hi : i < len := by have := (List.getElem?_eq_some_iff.1 hx).1; simpa using this
      have hx' : x = f i := by simp [hi] at hx; exact hx.symm
      subst hx'
      obtain ⟨u, hu, hI⟩ := (hf i hi).2
      rw [Addr.add_lit] at hu
      exact ⟨u, hu, hI⟩
end
end Go.Proofs.Ytelgjencpafnnaa

/- Numbers that came in. -/
namespace Go.Proofs.Ytelgjencpafnnaa
open Go.RowKit Go.Deep Go.ChangeShapes Go.WideShapes Go.ChangeAt
set_option linter.unusedVariables false

theorem cellsU64 : Try.prog.cellsOf 33 = 1 := by kernel_rfl
section
variable {H : Type} {enc : TypeId × Value → H} {W : World} {b0 : Nat} {sp : Nat → Bool} {held : Bool}
theorem nums_of_trod {fuel : Nat} {cs : List Value} {x : DataW H × List MemPlace} (h : DataW.trod enc Try.prog W b0 (fun _ => true) held fuel 31 cs = some x) : ∃ (ao : Option Addr) (c : Nat) (l : List Nat), cs = [.slice ao l.length c] ∧ IsN W (.slice ao l.length c) l := by
  rcases Go.ChangeShapes.open_ints Try.underlying31 Try.underlying33 cellsU64 h with ⟨hcs, _⟩ | ⟨a, len, cap, zs, hcs, _, hl, hm, hzl, _, hcell, hwf⟩
  · exact ⟨none, 0, [], hcs, ⟨none, 0, rfl, Nat.le_refl _, by decide, .inl rfl⟩, fun _ h => absurd h List.not_mem_nil⟩
  · simp only [if_true] at hzl
    have hln : ((zs.take len).map Int.toNat).length = len := by rw [List.length_map, List.length_take, hzl, Nat.min_eq_left hl]
    refine ⟨some a, cap, (zs.take len).map Int.toNat, by rw [hln]; exact hcs, ⟨some a, cap, rfl, by rw [hln]; exact hl, hm, ?_⟩, ?_⟩
    · by_cases h0 : len = 0
      · exact .inl (by rw [hln]; exact h0)
      · obtain ⟨b, off, spot⟩ := a
        obtain rfl : spot = none := by
          have := hcell 0 (by omega)
          simpa [Addr.add] using World.cell?_spot this
        refine .inr ⟨b, off, rfl, fun i hi => ?_⟩
        rw [hln] at hi
        have hiz : i < zs.length := by omega
        have h1 := hcell i hiz
        rw [Addr.add_lit] at h1
        have hb := bounds_u64 (hwf (zs.getD i 0) (by rw [List.getD_eq_getElem?_getD, List.getElem?_eq_getElem hiz]; exact List.getElem_mem hiz))
        rw [h1]
        have e1 : ((zs.take len).map Int.toNat).getD i 0 = (zs.getD i 0).toNat := by
          rw [List.getD_eq_getElem?_getD, List.getElem?_map, List.getElem?_take, if_pos hi, List.getD_eq_getElem?_getD, List.getElem?_eq_getElem hiz]
          rfl
        rw [e1, Int.toNat_of_nonneg hb.1]
    · intro n hn
      obtain ⟨z, hz, rfl⟩ := List.mem_map.1 hn
      have hb := bounds_u64 (hwf z (List.mem_of_mem_take hz))
      omega
/-- Numbers that came in. -/
theorem open_ns {v : Value} {d : DataW H} {p : List MemPlace} (hs : ∃ ao len cap, v = .slice ao len cap) (h : DataW.Trod enc Try.prog W b0 (fun _ => true) held 31 v d p) : ∃ ns, IsN W v ns := by
  obtain ⟨fuel, hf⟩ := h
  obtain ⟨ao, c, l, he, hI⟩ := nums_of_trod hf
  obtain ⟨ao', len, cap, rfl⟩ := hs
  simp [Value.cells] at he
  obtain ⟨rfl, rfl, rfl⟩ := he
  exact ⟨l, hI⟩
end
end Go.Proofs.Ytelgjencpafnnaa

