/- The walk of SszReads. -/
import Derived.Test.YtfnemggfmifpaaaReadsP
import Derived.Test.YtfnemggfmifpaaaJoinsW
namespace Go.Proofs.Ytfnemggfmifpaaa
open Go.RowKit Go.Shelf
set_option linter.unusedVariables false
set_option maxRecDepth 100000

theorem IsB.sub2 {w : World} {ao : Option Addr} {cap : Nat} {bs : List Nat} (h : IsB w (.slice ao bs.length cap) bs) (f t : Nat) (h1 : f ≤ t) (h2 : t ≤ bs.length) : IsB w (.slice (if cap = f then ao else ao.map fun x => x.add f) (t - f) (cap - f)) ((bs.drop f).take (t - f)) := by
  have h' := h
  obtain ⟨⟨ao', cap', he, hc1, hc2, hc3, hR⟩, h8⟩ := h
  simp only [Value.slice.injEq] at he
  obtain ⟨rfl, _, rfl⟩ := he
  have hl : ((bs.drop f).take (t - f)).length = t - f := by simp; omega
  refine ⟨⟨(if cap = f then ao else ao.map fun x => x.add f), cap - f, by rw [hl], by omega, by omega, fun e => ?_, ?_⟩, fun z hz => h8 z (List.mem_of_mem_drop (List.mem_of_mem_take hz))⟩
  · by_cases e2 : cap = f
    · omega
    · rw [if_neg e2] at e
      cases ao with
      | none => have := hc3 rfl; omega
      | some a => cases e
  · by_cases e2 : t = f
    · exact .inl (by omega)
    · obtain ⟨b, off, rfl, hcc⟩ := h'.drop_reads f (t - f) (by omega) (by omega)
      exact .inr ⟨b, off + f, by rw [if_neg (by omega), Option.map_some, Addr.add_lit], fun i hi => hcc i (by omega)⟩
theorem IsB.drewN {w : World} {v : Value} {bs : List Nat} (h : IsB w v bs) (n : Nat) : IsB (w.drewN n) v bs := ⟨by obtain ⟨ao, cap, h1, h2, h3, h4, h5⟩ := h.ex; exact ⟨ao, cap, h1, h2, h3, h4, h5⟩, h.by8⟩
theorem conv_all {w : World} {v : Value} {bs : List Nat} (h : IsB w v bs) : ∀ m, (convert 30 9 v).run Try.prog (w.drewN m) = .ok (.string (strOf bs)) (w.drewN m) := fun m => conv_b (h.drewN m)
theorem Rd.drewN {w : World} {g : Nat} {S : Nat → Prop} {bs : List Nat} {size taken : Nat} {ps : List Nat} {wrong : Bool} (h : Rd w g S bs size taken ps wrong) (n : Nat) : Rd (w.drewN n) g S bs size taken ps wrong := h.keep (Nat.le_refl _) (fun _ _ => rfl) rfl
theorem read_int (v : Value) (bs : List Nat) (i : Int) (size : Nat) (h : i = (size : Int)) (w : World) (hB : IsB w v bs) (hs : size ≤ 4611686018427387904) (hl : bs.length ≤ 140737488355328) :
    Calls Try.prog 17 #[v, .int .i64 i] w fun e w' => ∃ g S, w.heap.size ≤ g ∧ e = .returned (.pointer (some ⟨g, 0, none⟩)) ∧ Rd w' g S bs size 0 [] (decide (bs.length < size)) ∧ (∀ k, S k → w.heap.size ≤ k) ∧ Below w.heap.size w w' := by
  subst h; exact read_any v bs size w hB hs hl
theorem wrongs {bs : List Nat} {size taken : Nat} {ps : List Nat} : partW bs size taken ps true = true := by rw [partW, fixW, Bool.true_or, Bool.true_or]

set_option maxHeartbeats 8000000 in
theorem reads_walk (v0 : Value) (bs : List Nat) (i1 i2 : Int) (b3 : Bool) (w : World) (hB : IsB w v0 bs) (hi1 : -9223372036854775808 ≤ i1 ∧ i1 ≤ 9223372036854775807) (hi2 : -9223372036854775808 ≤ i2 ∧ i2 ≤ 9223372036854775807) :
    Calls Try.prog 5 #[v0, .int .i64 i1, .int .i64 i2, .bool b3] w fun e w' => e = .returned (.bool true) ∧ Below w.heap.size w w' := by
  obtain ⟨i0, hi, hz0, hz1, hz2⟩ := info_parts Try.info3
  have hB' := hB
  obtain ⟨⟨ao, cap, rfl, hcap, hcm, hnil, hR⟩, h8⟩ := hB
  have hcm2 := hcm
  unfold maxLen at hcm2
  have HB := hid hB'
  clear hB' hR
  go_enter Try.func5, Try.ntmps5
  go_wp2_with fail
  refine (awake_any w).mono ?_
  rintro e w1 ⟨rfl, B1⟩
  by_cases h3 : 3000 < bs.length
  · go_wp2
    go_ret
    exact ⟨rfl, B1⟩
  · have h3' : ¬ (3000 : Int) < ((bs.length : Nat) : Int) := by omega
    obtain ⟨n1, hn1⟩ : ∃ n1 : Nat, IntKind.u64.wrap i1 = (n1 : Int) := ⟨(IntKind.u64.wrap i1).toNat, by have := wrap_u64_nonneg i1; omega⟩
    obtain ⟨n2, hn2⟩ : ∃ n2 : Nat, IntKind.u64.wrap i2 = (n2 : Int) := ⟨(IntKind.u64.wrap i2).toNat, by have := wrap_u64_nonneg i2; omega⟩
    obtain ⟨fx, hfx, hfl⟩ : ∃ fx : Nat, (n1 : Int) % 20 = (fx : Int) ∧ fx < 20 := ⟨n1 % 20, by omega, by omega⟩
    obtain ⟨pt, hpx, hpl⟩ : ∃ pt : Nat, (n2 : Int) % 6 = (pt : Int) ∧ pt < 6 := ⟨n2 % 6, by omega, by omega⟩
    have HB1 := hid B1
    have BA : Below w1.heap.size w1 (w1.alloc (.cells #[] 5)) := (Below.refl _ w1).alloc (Nat.le_refl _) _
    have HSR := hid ((HB.out.keep B1).keep BA).src
    have HO := hid (own_bytes w1)
    have HBA := hid BA
    clear B1 BA
    cases b3
    · obtain ⟨sz, hsz⟩ : ∃ sz : Nat, fx + 0 + 4 * pt = sz := ⟨_, rfl⟩
      go_wp2_with (refine wpList_append_b rfl (.tmp 42) (.tmp 43) 30 rfl w1.heap.size _ [] rfl (by exact HO.out) _ bs rfl (by exact HSR.out) (by simp; omega) (by exact HBA.out.size) ?_; intro v2 w2 r1 r2 r3)
      rw [List.nil_append] at r1
      have I2 := r1.isB h8
      have B2 := hid (below_more HB1.out (below_row HBA.out (Nat.le_refl _) HO.out r2) (Nat.le_refl _))
      refine (read_int v2 bs _ sz (by omega) w2 I2 (by omega) (by omega)).mono ?_
      rintro e w3 ⟨g, S, hg, rfl, hRd, _, B3⟩
      have s2 := B2.out.size
      have HB3 := hid (below_more B2.out B3 (Nat.le_refl _))
      have hgw : w.heap.size ≤ g := by omega
      have HRd := hid hRd
      clear r1 r2 r3 I2 hRd B3 HSR HO HBA B2 s2
      rw [show ((fx : Int) + 4 * (pt : Int)) = ((sz : Nat) : Int) from by omega]
      clear hn1 hn2
      have HFX := hid (And.intro hfx hpx)
      clear hfx hpx
      go_wp2_with fail
      refine (fixed_any fx _ HRd.out (by omega) (by omega) (by omega)).mono ?_
      rintro e w4 ⟨v4, rfl, r1, r2, r3⟩
      have hts4 : (fixB bs sz 0 fx (decide (bs.length < sz))).length = fx := fixB_length (Nat.zero_le _) (fun h => by simpa using h)
      have I4 := r1.isB (fixB_byte h8 sz 0 fx _)
      have B4 := HB3.out.grown r3 HB3.out.size (fun j e => by cases e; exact hgw)
      obtain ⟨ao4, cap4, hv4, _⟩ := r1.form
      rw [hts4] at hv4
      subst hv4
      have HR4 := hid r2
      have HB4 := hid B4
      clear r1 r2 r3 B4 HRd HB3
      by_cases hbad : bs.length < sz
      · have hbad' : (bs.length : Int) < (sz : Int) := by omega
        have hdt : decide (bs.length < sz) = true := by simpa using hbad
        rw [hdt] at I4 HR4
        have hw1 : fixW sz 0 fx true = true := by simp [fixW]
        rw [hw1] at HR4
        clear hdt hw1 I4
        go_wp2_with fail
        go_quiet (fail)
        have HRX := hid (HR4.out.drewN nq)
        have HBX := hid (below_drew0 HB4.out nq)
        generalize w4.drewN nq = wX at *
        clear HR4 HB4
        go_wp2_with fail
        go_loopw [14] (fun i wr => ∃ k : Nat, k ≤ pt ∧ i = .int .i64 k ∧ (∃ S t, Rd wr g S bs sz t [] true) ∧ Below w.heap.size w wr) (fun i _ => pt - (intOf i).toNat)
        case atStart => exact ⟨0, Nat.zero_le _, rfl, ⟨_, _, HRX.out⟩, HBX.out⟩
        case round =>
          obtain ⟨k, hk, rfl, ⟨S5, t5, hR5⟩, hB5⟩ := hrel
          have HR5 := hid hR5
          have HB5 := hid hB5
          clear hR5 hB5
          by_cases hlt : k < pt
          · go_wp2_with fail
            refine (rpart_any _ HR5.out (by omega) (by omega) (by decide)).mono ?_
            rintro e w6 ⟨⟨u6, rfl⟩, r1, r2⟩
            have B6 := HB5.out.grown r2 HB5.out.size (fun j e => by cases e; exact hgw)
            rw [partS, wrongs, if_pos rfl] at r1
            have Z := hid (And.intro r1 B6)
            clear r1 r2 B6
            go_wp2
            go_roundw
            case rel => exact ⟨k + 1, by omega, by go_num, ⟨_, _, Z.out.1⟩, Z.out.2⟩
            case measure => simp [intOf]; omega
          · go_wp2_with fail
            refine (parts_bad _ HR5.out (.inl rfl) (by omega) (by omega) (by decide)).mono ?_
            rintro e w6 ⟨rfl, n6, rfl⟩
            have hB6 : Below w.heap.size w (wr.drewN n6) := below_drew0 HB5.out n6
            have s6 := hB6.size
            have HB6 := hid hB6
            clear hB6
            generalize wr.drewN n6 = w7 at *
            go_wp2_with fail
            go_loopw [17, 18, 19] (fun a i _ wr => a = .slice none 0 0 ∧ i = .int .i64 0 ∧ wr = w7) (fun _ _ _ _ => 0)
            case atStart => exact ⟨rfl, rfl, rfl⟩
            case round =>
              obtain ⟨rfl, rfl, hwr⟩ := hrel
              replace hwr := hwr.symm
              subst hwr
              have hown := World.ownsRow_nil w7 w.heap.size 3 1
              have HON := hid hown
              clear hown
              by_cases hp0 : (0 : Int) < (pt : Int)
              all_goals
                go_wp2_with (at_builtin; refine wpList_append_i rfl (.tmp 131) (.tmp 134) rfl w.heap.size _ [] rfl (by exact HON.out.alloc _) w7.heap.size bs.length rfl (by simp) (by decide) (by simp; omega) ?_; intro v8 w8 own8 grow8)
                · have B8 := hid ((HB6.out.alloc (by omega) _).grown grow8 (by simp; omega) (fun j hj => by cases hj))
                  obtain ⟨g8, cap8, hg8, hg8', rfl, hcp8, hc8⟩ := own8.form (by simp)
                  clear own8 grow8
                  have hc80 := hc8 0 (by simp)
                  have hc81 : w8.cell? ⟨g8, 0, none⟩ = some (.int .i64 (bs.length : Nat)) := hc80
                  clear hc8 hc80
                  go_wp2_with fail
                  go_loopw [12, 20] (fun b i wr => b = .bool true ∧ i = .int .i64 1 ∧ wr = w8) (fun _ _ _ => 0)
                  case atStart => exact ⟨rfl, rfl, rfl⟩
                  case round =>
                    obtain ⟨rfl, rfl, hwr⟩ := hrel
                    replace hwr := hwr.symm
                    subst hwr
                    go_wp2_with fail
                    go_quiet (fail)
                    go_wp2_with fail
                    go_loopw [21, 200] (fun _ i wr => i = .int .i64 0 ∧ ∃ n, wr = w8.drewN n) (fun _ _ _ => 0)
                    case atStart => exact ⟨rfl, _, rfl⟩
                    case round =>
                      obtain ⟨rfl, n9, rfl⟩ := hrel
                      go_wp2
                      go_ret
                      exact ⟨rfl, below_drew0 B8.out n9⟩
      · have hbad' : ¬ (bs.length : Int) < (sz : Int) := by omega
        have hdt : decide (bs.length < sz) = false := by simpa using hbad
        rw [hdt] at I4 HR4
        have hw1 : fixW sz 0 fx false = false := by simp [fixW]; omega
        have hb1 : fixB bs sz 0 fx false = bs.take fx := by rw [fixB, hw1]; simp
        have ht1 : fixT sz 0 fx false = fx := by rw [fixT, hw1]; simp
        rw [hw1, ht1] at HR4
        rw [hb1] at I4
        have hcv4 := conv_all I4
        have IB : IsB w4 (.slice ao fx cap) (bs.take fx) := by
          have := (HB.out.keep HB4.out).sub2 0 fx (by omega) (by omega)
          obtain ⟨⟨a', c', he, q1, q2, q3, q4⟩, q5⟩ := HB.out.keep HB4.out
          simp only [Value.slice.injEq] at he
          obtain ⟨rfl, _, rfl⟩ := he
          refine ⟨⟨ao, cap, by rw [List.length_take, Nat.min_eq_left (by omega)], by rw [List.length_take]; omega, q2, q3, ?_⟩, fun z hz => q5 z (List.mem_of_mem_take hz)⟩
          rcases q4 with q4 | ⟨b, off, rfl, hc⟩
          · exact .inl (by rw [List.length_take]; omega)
          · refine .inr ⟨b, off, rfl, fun i hi => ?_⟩
            rw [List.length_take] at hi
            rw [hc i (by omega), List.getD_eq_getElem?_getD, List.getD_eq_getElem?_getD, List.getElem?_take, if_pos (by omega)]
        have hcvB := conv_all IB
        generalize strOf (bs.take fx) = sx at hcv4 hcvB
        clear hdt hw1 hb1 ht1 I4 IB
        go_wp2_with fail
        go_quiet (fail)
        obtain ⟨t, htt⟩ : ∃ t, fx = t := ⟨_, rfl⟩
        have HRX := hid (HR4.out.drewN nq)
        have HBX := hid (below_drew0 HB4.out nq)
        rw [htt] at HRX
        generalize w4.drewN nq = wX at *
        have htp : t + 4 * pt = sz := by omega
        have HTT := hid htt
        clear HR4 HB4 hcv4 hcvB htt
        go_wp2_with fail
        go_loopw [14] (fun i wr => ∃ k : Nat, k ≤ pt ∧ i = .int .i64 k ∧ After wr g bs sz t k ∧ Below w.heap.size w wr) (fun i _ => pt - (intOf i).toNat)
        case atStart => exact ⟨0, Nat.zero_le _, rfl, ⟨_, t, [], false, HRX.out, Nat.le_refl _, fun _ => ⟨rfl, rfl, rfl⟩, fun h => by simp [goodB] at h⟩, HBX.out⟩
        case round =>
          obtain ⟨k, hk, rfl, hA5, hB5⟩ := hrel
          have HA5 := hid hA5
          have HB5 := hid hB5
          clear hA5 hB5
          by_cases hlt : k < pt
          · go_wp2_with fail
            refine (HA5.out.step (by omega) (by omega) (by omega) (by omega)).mono ?_
            rintro e w6 ⟨⟨u6, rfl⟩, r1, r2⟩
            have B6 := HB5.out.grown r2 HB5.out.size (fun j e => by cases e; exact hgw)
            have Z := hid (And.intro r1 B6)
            clear r1 r2 B6
            go_wp2
            go_roundw
            case rel => exact ⟨k + 1, by omega, by go_num, Z.out.1, Z.out.2⟩
            case measure => simp [intOf]; omega
          · obtain rfl : k = pt := by omega
            obtain ⟨okF, hokF⟩ : ∃ okF, (if k = 0 then decide (bs.length = sz) else goodB bs sz t k) = okF := ⟨_, rfl⟩
            have HParts : Hid (Calls Try.prog 22 #[.pointer (some ⟨g, 0, none⟩)] wr fun e w' => (∃ u, e = .returned (.tuple #[u, .bool okF]) ∧ IsBs w' u (if okF then cutL bs (places bs t k) else [])) ∧ Below wr.heap.size wr w') := by
              obtain ⟨S6, tkn, ps, wrong, hR6, hpl6, q1, q2⟩ := HA5.out.ex
              have nilB : ∀ W : World, IsBs W (.slice none 0 0) [] := fun W => ⟨none, 0, rfl, Nat.le_refl _, by decide, fun _ => rfl, .inl rfl⟩
              by_cases hk0 : k = 0
              · subst hk0
                rw [if_pos rfl] at hokF
                obtain ⟨e1, rfl, rfl⟩ := q1 rfl
                have e2 : tkn = sz := by omega
                subst e2
                by_cases hls : bs.length = tkn
                · have hz : okF = true := by rw [← hokF]; simpa using hls
                  subst hz
                  refine (parts_ok wr hR6 (fun _ => hls) (fun i hi => by rw [places_length] at hi; omega) (by omega) (by omega) (by rw [places_length]; omega)).mono ?_
                  rintro e w' ⟨u, rfl, r1, r2⟩
                  exact ⟨⟨u, rfl, r1⟩, r2⟩
                · have hz : okF = false := by rw [← hokF]; simpa using hls
                  subst hz
                  refine (parts_bad wr hR6 (.inr (.inr ⟨rfl, hls⟩)) (by omega) (by omega) (by rw [places_length]; omega)).mono ?_
                  rintro e w' ⟨rfl, n, rfl⟩
                  exact ⟨⟨_, rfl, nilB _⟩, below_drew0 (Below.refl _ _) n⟩
              · rw [if_neg hk0] at hokF
                cases okF
                · obtain rfl := q2 hokF
                  refine (parts_bad wr hR6 (.inl rfl) (by omega) (by omega) (by omega)).mono ?_
                  rintro e w' ⟨rfl, n, rfl⟩
                  exact ⟨⟨_, rfl, nilB _⟩, below_drew0 (Below.refl _ _) n⟩
                · obtain ⟨e1, rfl, rfl⟩ := q1 hokF
                  obtain rfl : tkn = sz := by omega
                  refine (parts_ok wr hR6 (fun e => absurd (congrArg List.length e) (by rw [places_length]; simp; omega)) (good_cuts hokF (by omega)) (by omega) (by omega) (by rw [places_length]; omega)).mono ?_
                  rintro e w' ⟨u, rfl, r1, r2⟩
                  exact ⟨⟨u, rfl, r1⟩, r2⟩
            have HOK := hid hokF
            clear hokF HA5
            go_wp2_with fail
            refine HParts.out.mono ?_
            rintro e w7 ⟨⟨u7, rfl, hI7⟩, B7⟩
            obtain ⟨gots, hgots⟩ : ∃ gots, (if okF then cutL bs (places bs t k) else []) = gots := ⟨_, rfl⟩
            rw [hgots] at hI7
            have HGS := hid hgots
            clear hgots
            have HB7 := hid (below_more HB5.out B7 (Nat.le_refl _))
            obtain ⟨ao7, cap7, hu7⟩ := hI7.form
            subst hu7
            have HI7 := hid hI7
            have s7 := HB7.out.size
            clear hI7 B7 HParts HB5 HRX HBX
            have hst : (sz : Int) - 4 * (k : Int) = (t : Int) := by omega
            go_wp2_with fail
            go_loopw [17, 18, 19] (fun a i _ wr => ∃ j : Nat, j ≤ k ∧ i = .int .i64 j ∧ RowI wr w7.heap.size a (places bs t j) ∧ Below w7.heap.size w7 wr) (fun _ i _ _ => k - (intOf i).toNat)
            case atStart => exact ⟨0, Nat.zero_le _, rfl, World.ownsRow_nil _ _ _ _, Below.refl _ _⟩
            case round =>
              obtain ⟨j, hj, rfl, hRow, hBj⟩ := hrel
              have HRow := hid hRow
              have HBj := hid hBj
              have sj := hBj.size
              clear hRow hBj
              by_cases hlt2 : j < k
              · have hIj : IsB wr (.slice (Option.map (fun x => x.add (t + 4 * j)) ao) 4 (cap - (t + 4 * j))) ((bs.drop (t + 4 * j)).take 4) := by
                  have := ((HB.out.keep HB7.out).keep HBj.out).sub2 (t + 4 * j) (t + 4 * j + 4) (by omega) (by omega)
                  rw [if_neg (by omega), show t + 4 * j + 4 - (t + 4 * j) = 4 by omega] at this
                  exact this
                have hpl := placeAt_lt h8 t j (by omega)
                have HIj := hid hIj
                have HPS : Same (places bs t (j + 1)) (places bs t j ++ [placeAt bs t j]) := ⟨places_succ bs t j⟩
                have HPL := hid (places_length bs t j)
                clear hIj
                go_wp2_with fail
                refine (rtake_isB _ _ _ HIj.out).mono ?_
                rintro e w8 ⟨rfl, rfl⟩
                rw [show tk ((bs.drop (t + 4 * j)).take 4) = placeAt bs t j from rfl]
                obtain ⟨pl, hpe⟩ : ∃ pl, placeAt bs t j = pl := ⟨_, rfl⟩
                rw [hpe] at hpl HPS ⊢
                clear hpe HIj
                go_wp2_with (at_builtin; refine wpList_append_i rfl (.tmp 121) (.tmp 129) rfl w7.heap.size _ (places bs t j) rfl (by exact HRow.out.alloc _) w8.heap.size pl rfl (by simp) (by rw [HPL.out]; omega) (by simp; omega) ?_; intro v9 w9 own9 grow9)
                have B9 := hid ((HBj.out.alloc (by omega) _).grown grow9 (by simp; omega) (fun q hq => (World.ownsRow.lt HRow.out q hq).1))
                have O9 := hid own9
                clear own9 grow9
                go_wp2
                go_roundw
                case rel => exact ⟨j + 1, by omega, by go_num, by rw [HPS.out]; exact O9.out, B9.out⟩
                case measure => simp [intOf]; omega
              · obtain rfl : j = k := by omega
                have HPL := hid (places_length bs t j)
                go_wp2_with (at_builtin; refine wpList_append_i rfl (.tmp 131) (.tmp 134) rfl w7.heap.size _ (places bs t j) rfl (by exact HRow.out.alloc _) wr.heap.size bs.length rfl (by simp) (by rw [HPL.out]; omega) (by simp; omega) ?_; intro v9 w9 own9 grow9)
                have B9 := hid ((HBj.out.alloc (by omega) _).grown grow9 (by simp; omega) (fun q hq => (World.ownsRow.lt HRow.out q hq).1))
                have own10 : RowI w9 w7.heap.size v9 (atL bs t j) := own9
                have hal := atL_length bs t j
                obtain ⟨g9, cap9, hg9, hg9', rfl, hcp9, hc9⟩ := own10.form (by omega)
                obtain ⟨la, hla⟩ : ∃ la, (atL bs t j).length = la := ⟨_, rfl⟩
                rw [hla] at hcp9 hc9 ⊢
                have hla1 : la = j + 1 := by omega
                have hla0 : (0 : Int) < (la : Int) := by omega
                have hla0n : 0 < la := by omega
                have hlaj : (la : Int) - 1 = (j : Int) := by omega
                have HLA := hid hla1
                clear hla hla1
                have HW9 := hid (below_more HB7.out B9.out (Nat.le_refl _))
                have HC9 := hid hc9
                clear own9 own10 grow9 hc9 hal HRow HBj
                obtain ⟨a0, ha0⟩ : ∃ a0, (atL bs t j).getD 0 0 = a0 := ⟨_, rfl⟩
                have hc90 := HC9.out 0 (by have := HLA.out; omega)
                rw [ha0] at hc90
                have hX : okF = (decide (a0 = sz) && upB2 (atL bs t j) (j + 1)) := by
                  rw [← HOK.out, ← ha0]
                  by_cases hj0 : j = 0
                  · subst hj0
                    rw [if_pos rfl, Nat.zero_add, upB2_one, Bool.and_true, atL_last]
                  · rw [if_neg hj0]
                    exact good_iff bs sz t j (by omega) (by omega)
                have HA0 := hid ha0
                have HX := hid hX
                clear ha0 hX hlt hlt2
                obtain ⟨bb, hbb⟩ : ∃ bb, (((a0 : Nat) : Int) != ((sz : Nat) : Int)) = bb := ⟨_, rfl⟩
                have hbb2 : bb = !decide (a0 = sz) := by
                  rw [← hbb]
                  by_cases e : a0 = sz
                  · simp [e]
                  · have : ((a0 : Int) != (sz : Int)) = true := by rw [bne_iff_ne]; omega
                    simp [e, this]
                have HBB := hid hbb2
                clear hbb2
                go_wp2_with fail
                go_simp
                go_wp2_with fail
                go_loopw [12, 20] (fun b i wr => ∃ (q n : Nat) (bv : Bool), q ≤ j ∧ i = .int .i64 ((q : Int) + 1) ∧ b = .bool bv ∧ bv = !(decide (a0 = sz) && upB2 (atL bs t j) (q + 1)) ∧ wr = w9.drewN n) (fun b i _ => j + 1 - (intOf i).toNat)
                case atStart => exact ⟨0, 0, bb, Nat.zero_le _, rfl, rfl, by rw [HBB.out, Nat.zero_add, upB2_one, Bool.and_true], rfl⟩
                case round =>
                  obtain ⟨q, n, bv, hq, rfl, rfl, hbv, rfl⟩ := hrel
                  have HBV := hid hbv
                  clear hbv
                  by_cases hcont : q < j ∧ bv = false
                  · obtain ⟨hqj, rfl⟩ := hcont
                    have hqj' : (q : Int) + 1 < (la : Int) := by omega
                    have hcq := HC9.out q (by omega)
                    have hcq1 := HC9.out (q + 1) (by omega)
                    have hup := upB2_succ (atL bs t j) (q + 1) (by omega)
                    rw [show q + 1 - 1 = q by omega] at hup
                    have hold : (decide (a0 = sz) && upB2 (atL bs t j) (q + 1)) = true := by have := HBV.out; simpa using this.symm
                    rw [Bool.and_eq_true] at hold
                    obtain ⟨x0, hx0⟩ : ∃ x, (atL bs t j).getD q 0 = x := ⟨_, rfl⟩
                    obtain ⟨x1, hx1⟩ : ∃ x, (atL bs t j).getD (q + 1) 0 = x := ⟨_, rfl⟩
                    rw [hx0] at hcq hup
                    rw [hx1] at hcq1 hup
                    have HN : Hid (decide (x1 < x0) = !(decide (a0 = sz) && upB2 (atL bs t j) (q + 1 + 1))) := by
                      show decide (x1 < x0) = _
                      rw [hup, hold.1, hold.2, Bool.true_and, Bool.true_and, ← decide_not]
                      simp
                    clear hup hold hx0 hx1 HBV
                    go_wp2_with fail
                    go_quiet (fail)
                    go_wp2
                    go_roundw
                    case rel => exact ⟨q + 1, n + nq, decide (x1 < x0), by omega, by go_num, by simp, HN.out, rfl⟩
                    case measure => simp [intOf]; omega
                  · have hfin : bv = !okF := by
                      rw [HX.out]
                      by_cases hqj : q < j
                      · have hbt : bv = true := by
                          cases bv
                          · exact absurd ⟨hqj, rfl⟩ hcont
                          · rfl
                        have h1 := HBV.out
                        rw [hbt] at h1
                        have h2 : (decide (a0 = sz) && upB2 (atL bs t j) (q + 1)) = false := by
                          cases hh : (decide (a0 = sz) && upB2 (atL bs t j) (q + 1))
                          · rfl
                          · rw [hh] at h1; cases h1
                        rw [hbt]
                        rcases Bool.and_eq_false_iff.1 h2 with h | h
                        · rw [h]; rfl
                        · rw [upB2_false h (by omega), Bool.and_false]; rfl
                      · rw [HBV.out, show q = j by omega]
                    subst hfin
                    have hcs : ¬ ((q : Int) + 1 < (la : Int)) ∨ okF = false := by
                      by_cases hqj : q < j
                      · right; cases okF
                        · rfl
                        · exact absurd ⟨hqj, rfl⟩ hcont
                      · left; omega
                    clear HBV hcont
                    cases okF
                    · have hgz : gots = [] := HGS.out.symm
                      subst hgz
                      by_cases hqj' : (q : Int) + 1 < (la : Int)
                      all_goals
                        go_wp2_with fail
                        go_quiet (fail)
                        go_wp2_with fail
                        go_loopw [21, 200] (fun _ i wr => i = .int .i64 0 ∧ ∃ n, wr = w9.drewN n) (fun _ _ _ => 0)
                        case atStart => exact ⟨rfl, _, rfl⟩
                        case round =>
                          obtain ⟨rfl, n9, rfl⟩ := hrel
                          go_wp2
                          go_ret
                          exact ⟨rfl, below_drew0 HW9.out n9⟩
                    · have hqj' : ¬ ((q : Int) + 1 < (la : Int)) := by
                        rcases hcs with h | h
                        · exact h
                        · cases h
                      have hgl : gots.length = j := by rw [← HGS.out, if_pos rfl, cutL_length, places_length]
                      have ha0s : a0 = sz := by
                        have := HX.out.symm
                        rw [Bool.and_eq_true, decide_eq_true_eq] at this
                        exact this.1
                      have hcl := HC9.out j (by omega)
                      rw [atL_last] at hcl
                      have hls : ¬ (bs.length : Int) < (a0 : Int) := by omega
                      have hgl' : (((gots.length : Nat) : Int) != ((j : Nat) : Int)) = false := by rw [hgl]; simp
                      have HGL := hid hgl
                      clear hcs hgl
                      go_wp2_with fail
                      go_quiet (fail)
                      go_wp2_with fail
                      have hUP : upB2 (atL bs t j) (j + 1) = true := by
                        have := HX.out.symm
                        rw [Bool.and_eq_true] at this
                        exact this.2
                      have HUP := hid hUP
                      have HI9 := hid (HI7.out.keep B9.out)
                      have HIB := hid (HB.out.keep HW9.out)
                      have HJL : Hid (((gots.length : Nat) : Int) = (j : Int)) := by show _ = _; rw [HGL.out]
                      clear hUP hcl hls hc90 hgl'
                      go_loopw [21, 200] (fun _ i wr => ∃ m n : Nat, m ≤ j ∧ i = .int .i64 m ∧ wr = w9.drewN n) (fun _ i _ => j - (intOf i).toNat)
                      case atStart => exact ⟨0, _, Nat.zero_le _, rfl, rfl⟩
                      case round =>
                        obtain ⟨m, n, hm, rfl, rfl⟩ := hrel
                        by_cases hmj : m < j
                        · obtain ⟨b7, off7, cp7, he, hcp7, hcc7⟩ := HI9.out.at (by have := HGL.out; omega)
                          simp only [Value.slice.injEq] at he
                          obtain ⟨rfl, _, rfl⟩ := he
                          have hgm := cut_at bs t j m hmj
                          rw [show cutL bs (places bs t j) = gots from HGS.out] at hgm
                          obtain ⟨u8, hu8, hI8⟩ := hcc7 m _ hgm
                          have hcm := HC9.out m (by have := HLA.out; omega)
                          have hcm1 := HC9.out (m + 1) (by have := HLA.out; omega)
                          have hle1 := upB2_le HUP.out m (m + 1) (by omega) (by omega)
                          have hle2 := upB2_le HUP.out (m + 1) j (by omega) (by omega)
                          rw [atL_last] at hle2
                          obtain ⟨x0, hx0⟩ : ∃ x, (atL bs t j).getD m 0 = x := ⟨_, rfl⟩
                          obtain ⟨x1, hx1⟩ : ∃ x, (atL bs t j).getD (m + 1) 0 = x := ⟨_, rfl⟩
                          rw [hx0] at hcm hle1 hI8
                          rw [hx1] at hcm1 hle1 hle2 hI8
                          have hv8 := conv_all hI8
                          have hvb := conv_all (HIB.out.sub2 x0 x1 hle1 hle2)
                          generalize strOf ((bs.drop x0).take (x1 - x0)) = sk at hv8 hvb
                          have hmg : (m : Int) < ((gots.length : Nat) : Int) := by have := HJL.out; omega
                          have hmg' : m < gots.length := by omega
                          have hmla : (m : Int) < (la : Int) := by omega
                          have hmla' : (m : Int) + 1 < (la : Int) := by omega
                          clear hI8 hgm hx0 hx1 hcc7 hlaj hst
                          go_wp2_with fail
                          go_quiet (fail)
                          go_wp2
                          go_roundw
                          case rel => exact ⟨m + 1, n + nq, by omega, by go_num, rfl⟩
                          case measure => simp [intOf]; omega
                        · have hmg : ¬ (m : Int) < ((gots.length : Nat) : Int) := by have := HJL.out; omega
                          go_wp2
                          go_ret
                          exact ⟨rfl, below_drew0 HW9.out n⟩
    · obtain ⟨sz, hsz⟩ : ∃ sz : Nat, fx + 1 + 4 * pt = sz := ⟨_, rfl⟩
      go_wp2_with (refine wpList_append_b rfl (.tmp 42) (.tmp 43) 30 rfl w1.heap.size _ [] rfl (by exact HO.out) _ bs rfl (by exact HSR.out) (by simp; omega) (by exact HBA.out.size) ?_; intro v2 w2 r1 r2 r3)
      rw [List.nil_append] at r1
      have I2 := r1.isB h8
      have B2 := hid (below_more HB1.out (below_row HBA.out (Nat.le_refl _) HO.out r2) (Nat.le_refl _))
      refine (read_int v2 bs _ sz (by omega) w2 I2 (by omega) (by omega)).mono ?_
      rintro e w3 ⟨g, S, hg, rfl, hRd, _, B3⟩
      have s2 := B2.out.size
      have HB3 := hid (below_more B2.out B3 (Nat.le_refl _))
      have hgw : w.heap.size ≤ g := by omega
      have HRd := hid hRd
      clear r1 r2 r3 I2 hRd B3 HSR HO HBA B2 s2
      rw [show ((fx : Int) + 4 * (pt : Int) + 1) = ((sz : Nat) : Int) from by omega]
      clear hn1 hn2
      have HFX := hid (And.intro hfx hpx)
      clear hfx hpx
      go_wp2_with fail
      refine (fixed_any fx _ HRd.out (by omega) (by omega) (by omega)).mono ?_
      rintro e w4 ⟨v4, rfl, r1, r2, r3⟩
      have hts4 : (fixB bs sz 0 fx (decide (bs.length < sz))).length = fx := fixB_length (Nat.zero_le _) (fun h => by simpa using h)
      have I4 := r1.isB (fixB_byte h8 sz 0 fx _)
      have B4 := HB3.out.grown r3 HB3.out.size (fun j e => by cases e; exact hgw)
      obtain ⟨ao4, cap4, hv4, _⟩ := r1.form
      rw [hts4] at hv4
      subst hv4
      have HR4 := hid r2
      have HB4 := hid B4
      clear r1 r2 r3 B4 HRd HB3
      by_cases hbad : bs.length < sz
      · have hbad' : (bs.length : Int) < (sz : Int) := by omega
        have hdt : decide (bs.length < sz) = true := by simpa using hbad
        rw [hdt] at I4 HR4
        have hw1 : fixW sz 0 fx true = true := by simp [fixW]
        rw [hw1] at HR4
        clear hdt hw1 I4
        go_wp2_with fail
        go_quiet (fail)
        have HR5 := hid (HR4.out.drewN nq)
        have HB5 := hid (below_drew0 HB4.out nq)
        generalize w4.drewN nq = w5 at *
        clear HR4 HB4
        go_wp2_with fail
        refine (rbool_any _ HR5.out (by omega) (by omega)).mono ?_
        rintro e w6 ⟨rfl, r1, r2⟩
        have hz1 : fixW sz (fixT sz 0 fx true) 1 true = true := by simp [fixW]
        have hz2 : tk (fixB bs sz (fixT sz 0 fx true) 1 true) = 0 := by rw [fixB, hz1]; rfl
        rw [hz1, Bool.true_or] at r1
        rw [hz2]
        have HRX := hid r1
        have HBX := hid (HB5.out.grown r2 HB5.out.size (fun j e => by cases e; exact hgw))
        clear r1 r2 hz1 hz2 HR5 HB5
        generalize w6 = wX at *
        go_wp2_with fail
        go_loopw [14] (fun i wr => ∃ k : Nat, k ≤ pt ∧ i = .int .i64 k ∧ (∃ S t, Rd wr g S bs sz t [] true) ∧ Below w.heap.size w wr) (fun i _ => pt - (intOf i).toNat)
        case atStart => exact ⟨0, Nat.zero_le _, rfl, ⟨_, _, HRX.out⟩, HBX.out⟩
        case round =>
          obtain ⟨k, hk, rfl, ⟨S5, t5, hR5⟩, hB5⟩ := hrel
          have HR5 := hid hR5
          have HB5 := hid hB5
          clear hR5 hB5
          by_cases hlt : k < pt
          · go_wp2_with fail
            refine (rpart_any _ HR5.out (by omega) (by omega) (by decide)).mono ?_
            rintro e w6 ⟨⟨u6, rfl⟩, r1, r2⟩
            have B6 := HB5.out.grown r2 HB5.out.size (fun j e => by cases e; exact hgw)
            rw [partS, wrongs, if_pos rfl] at r1
            have Z := hid (And.intro r1 B6)
            clear r1 r2 B6
            go_wp2
            go_roundw
            case rel => exact ⟨k + 1, by omega, by go_num, ⟨_, _, Z.out.1⟩, Z.out.2⟩
            case measure => simp [intOf]; omega
          · go_wp2_with fail
            refine (parts_bad _ HR5.out (.inl rfl) (by omega) (by omega) (by decide)).mono ?_
            rintro e w6 ⟨rfl, n6, rfl⟩
            have hB6 : Below w.heap.size w (wr.drewN n6) := below_drew0 HB5.out n6
            have s6 := hB6.size
            have HB6 := hid hB6
            clear hB6
            generalize wr.drewN n6 = w7 at *
            go_wp2_with fail
            go_loopw [17, 18, 19] (fun a i _ wr => a = .slice none 0 0 ∧ i = .int .i64 0 ∧ wr = w7) (fun _ _ _ _ => 0)
            case atStart => exact ⟨rfl, rfl, rfl⟩
            case round =>
              obtain ⟨rfl, rfl, hwr⟩ := hrel
              replace hwr := hwr.symm
              subst hwr
              have hown := World.ownsRow_nil w7 w.heap.size 3 1
              have HON := hid hown
              clear hown
              by_cases hp0 : (0 : Int) < (pt : Int)
              all_goals
                go_wp2_with (at_builtin; refine wpList_append_i rfl (.tmp 131) (.tmp 134) rfl w.heap.size _ [] rfl (by exact HON.out.alloc _) w7.heap.size bs.length rfl (by simp) (by decide) (by simp; omega) ?_; intro v8 w8 own8 grow8)
                · have B8 := hid ((HB6.out.alloc (by omega) _).grown grow8 (by simp; omega) (fun j hj => by cases hj))
                  obtain ⟨g8, cap8, hg8, hg8', rfl, hcp8, hc8⟩ := own8.form (by simp)
                  clear own8 grow8
                  have hc80 := hc8 0 (by simp)
                  have hc81 : w8.cell? ⟨g8, 0, none⟩ = some (.int .i64 (bs.length : Nat)) := hc80
                  clear hc8 hc80
                  go_wp2_with fail
                  go_loopw [12, 20] (fun b i wr => b = .bool true ∧ i = .int .i64 1 ∧ wr = w8) (fun _ _ _ => 0)
                  case atStart => exact ⟨rfl, rfl, rfl⟩
                  case round =>
                    obtain ⟨rfl, rfl, hwr⟩ := hrel
                    replace hwr := hwr.symm
                    subst hwr
                    go_wp2_with fail
                    go_quiet (fail)
                    go_wp2_with fail
                    go_loopw [21, 200] (fun _ i wr => i = .int .i64 0 ∧ ∃ n, wr = w8.drewN n) (fun _ _ _ => 0)
                    case atStart => exact ⟨rfl, _, rfl⟩
                    case round =>
                      obtain ⟨rfl, n9, rfl⟩ := hrel
                      go_wp2
                      go_ret
                      exact ⟨rfl, below_drew0 B8.out n9⟩
      · have hbad' : ¬ (bs.length : Int) < (sz : Int) := by omega
        have hdt : decide (bs.length < sz) = false := by simpa using hbad
        rw [hdt] at I4 HR4
        have hw1 : fixW sz 0 fx false = false := by simp [fixW]; omega
        have hb1 : fixB bs sz 0 fx false = bs.take fx := by rw [fixB, hw1]; simp
        have ht1 : fixT sz 0 fx false = fx := by rw [fixT, hw1]; simp
        rw [hw1, ht1] at HR4
        rw [hb1] at I4
        have hcv4 := conv_all I4
        have IB : IsB w4 (.slice ao fx cap) (bs.take fx) := by
          have := (HB.out.keep HB4.out).sub2 0 fx (by omega) (by omega)
          obtain ⟨⟨a', c', he, q1, q2, q3, q4⟩, q5⟩ := HB.out.keep HB4.out
          simp only [Value.slice.injEq] at he
          obtain ⟨rfl, _, rfl⟩ := he
          refine ⟨⟨ao, cap, by rw [List.length_take, Nat.min_eq_left (by omega)], by rw [List.length_take]; omega, q2, q3, ?_⟩, fun z hz => q5 z (List.mem_of_mem_take hz)⟩
          rcases q4 with q4 | ⟨b, off, rfl, hc⟩
          · exact .inl (by rw [List.length_take]; omega)
          · refine .inr ⟨b, off, rfl, fun i hi => ?_⟩
            rw [List.length_take] at hi
            rw [hc i (by omega), List.getD_eq_getElem?_getD, List.getD_eq_getElem?_getD, List.getElem?_take, if_pos (by omega)]
        have hcvB := conv_all IB
        generalize strOf (bs.take fx) = sx at hcv4 hcvB
        clear hdt hw1 hb1 ht1 I4 IB
        go_wp2_with fail
        go_quiet (fail)
        have HR5 := hid (HR4.out.drewN nq)
        have HB5 := hid (below_drew0 HB4.out nq)
        generalize w4.drewN nq = w5 at *
        clear HR4 HB4 hcv4 hcvB
        obtain ⟨b, off, rfl, hcc⟩ := (HB.out.keep HB5.out).drop_reads fx 1 (by omega) (by omega)
        have hcy := hcc 0 (by omega)
        obtain ⟨y, hy⟩ : ∃ y, ((bs.drop fx).take 1).getD 0 0 = y := ⟨_, rfl⟩
        rw [hy, Nat.add_zero] at hcy
        have hyl : y < 256 := by rw [← hy]; exact byte_at (fun z hz => h8 z (List.mem_of_mem_drop (List.mem_of_mem_take hz))) 0
        have htake : (bs.drop fx).take 1 = [y] := by
          have hl : ((bs.drop fx).take 1).length = 1 := by simp; omega
          obtain ⟨a, ha⟩ := List.length_eq_one_iff.1 hl
          rw [ha] at hy ⊢
          simpa using hy
        have hw2 : fixW sz fx 1 false = false := by simp [fixW]; omega
        have hb2 : fixB bs sz fx 1 false = [y] := by rw [fixB, hw2]; simpa using htake
        have ht2 : fixT sz fx 1 false = fx + 1 := by rw [fixT, hw2]; simp
        have htk : tk [y] = y := by simp [tk, takeV, takeL]
        have HK : Hid (∀ {W}, Rd W g S bs sz fx [] false → Calls Try.prog 24 #[.pointer (some ⟨g, 0, none⟩)] W fun e w' => e = .returned (.bool (decide (y = 1))) ∧ Rd w' g S bs sz (fx + 1) [] (decide (1 < y)) ∧ W.grownBy w' (some g)) := by
          intro W hW
          have := rbool_any W hW (by omega) (by omega)
          rw [hw2, hb2, ht2, htk, Bool.false_or] at this
          exact this
        clear hcc hy htake hw2 hb2 ht2 htk
        go_wp2_with fail
        refine (HK.out HR5.out).mono ?_
        rintro e w6 ⟨rfl, r1, r2⟩
        have hB6 := HB5.out.grown r2 HB5.out.size (fun j e => by cases e; exact hgw)
        have hcy6 : w6.cell? ⟨b, off + fx, none⟩ = some (.int .u8 (y : Nat)) := by
          obtain ⟨b', off', he, hcc⟩ := (HB.out.keep hB6).drop_reads fx 1 (by omega) (by omega)
          cases he
          obtain ⟨b'', off'', he, hcc5⟩ := (HB.out.keep HB5.out).drop_reads fx 1 (by omega) (by omega)
          cases he
          have h5 := hcc5 0 (by omega)
          rw [Nat.add_zero, hcy] at h5
          have h6 := hcc 0 (by omega)
          rw [Nat.add_zero, ← h5] at h6
          exact h6
        have HBX := hid hB6
        clear r2 hB6 hcy HB5 HR5 HK
        have hfxl : (fx : Int) < ((bs.length : Nat) : Int) := by omega
        by_cases hy1 : 1 < y
        · have hy1' : (1 : Int) < (y : Int) := by omega
          have e1 : decide (1 < y) = true := by simpa using hy1
          rw [e1] at r1
          have HRX := hid r1
          clear r1 e1
          generalize decide (y = 1) = dy
          generalize w6 = wX at *
          go_wp2_with fail
          go_simp
          go_wp2_with fail
          go_loopw [14] (fun i wr => ∃ k : Nat, k ≤ pt ∧ i = .int .i64 k ∧ (∃ S t, Rd wr g S bs sz t [] true) ∧ Below w.heap.size w wr) (fun i _ => pt - (intOf i).toNat)
          case atStart => exact ⟨0, Nat.zero_le _, rfl, ⟨_, _, HRX.out⟩, HBX.out⟩
          case round =>
            obtain ⟨k, hk, rfl, ⟨S5, t5, hR5⟩, hB5⟩ := hrel
            have HR5 := hid hR5
            have HB5 := hid hB5
            clear hR5 hB5
            by_cases hlt : k < pt
            · go_wp2_with fail
              refine (rpart_any _ HR5.out (by omega) (by omega) (by decide)).mono ?_
              rintro e w6 ⟨⟨u6, rfl⟩, r1, r2⟩
              have B6 := HB5.out.grown r2 HB5.out.size (fun j e => by cases e; exact hgw)
              rw [partS, wrongs, if_pos rfl] at r1
              have Z := hid (And.intro r1 B6)
              clear r1 r2 B6
              go_wp2
              go_roundw
              case rel => exact ⟨k + 1, by omega, by go_num, ⟨_, _, Z.out.1⟩, Z.out.2⟩
              case measure => simp [intOf]; omega
            · go_wp2_with fail
              refine (parts_bad _ HR5.out (.inl rfl) (by omega) (by omega) (by decide)).mono ?_
              rintro e w6 ⟨rfl, n6, rfl⟩
              have hB6 : Below w.heap.size w (wr.drewN n6) := below_drew0 HB5.out n6
              have s6 := hB6.size
              have HB6 := hid hB6
              clear hB6
              generalize wr.drewN n6 = w7 at *
              go_wp2_with fail
              go_loopw [17, 18, 19] (fun a i _ wr => a = .slice none 0 0 ∧ i = .int .i64 0 ∧ wr = w7) (fun _ _ _ _ => 0)
              case atStart => exact ⟨rfl, rfl, rfl⟩
              case round =>
                obtain ⟨rfl, rfl, hwr⟩ := hrel
                replace hwr := hwr.symm
                subst hwr
                have hown := World.ownsRow_nil w7 w.heap.size 3 1
                have HON := hid hown
                clear hown
                by_cases hp0 : (0 : Int) < (pt : Int)
                all_goals
                  go_wp2_with (at_builtin; refine wpList_append_i rfl (.tmp 131) (.tmp 134) rfl w.heap.size _ [] rfl (by exact HON.out.alloc _) w7.heap.size bs.length rfl (by simp) (by decide) (by simp; omega) ?_; intro v8 w8 own8 grow8)
                  · have B8 := hid ((HB6.out.alloc (by omega) _).grown grow8 (by simp; omega) (fun j hj => by cases hj))
                    obtain ⟨g8, cap8, hg8, hg8', rfl, hcp8, hc8⟩ := own8.form (by simp)
                    clear own8 grow8
                    have hc80 := hc8 0 (by simp)
                    have hc81 : w8.cell? ⟨g8, 0, none⟩ = some (.int .i64 (bs.length : Nat)) := hc80
                    clear hc8 hc80
                    go_wp2_with fail
                    go_loopw [12, 20] (fun b i wr => b = .bool true ∧ i = .int .i64 1 ∧ wr = w8) (fun _ _ _ => 0)
                    case atStart => exact ⟨rfl, rfl, rfl⟩
                    case round =>
                      obtain ⟨rfl, rfl, hwr⟩ := hrel
                      replace hwr := hwr.symm
                      subst hwr
                      go_wp2_with fail
                      go_quiet (fail)
                      go_wp2_with fail
                      go_loopw [21, 200] (fun _ i wr => i = .int .i64 0 ∧ ∃ n, wr = w8.drewN n) (fun _ _ _ => 0)
                      case atStart => exact ⟨rfl, _, rfl⟩
                      case round =>
                        obtain ⟨rfl, n9, rfl⟩ := hrel
                        go_wp2
                        go_ret
                        exact ⟨rfl, below_drew0 B8.out n9⟩
        · have e1 : decide (1 < y) = false := by simpa using hy1
          rw [e1] at r1
          obtain ⟨t, htt⟩ : ∃ t, fx + 1 = t := ⟨_, rfl⟩
          rw [htt] at r1
          have HRX := hid r1
          have htp : t + 4 * pt = sz := by omega
          have HTT := hid htt
          clear r1 e1 htt
          generalize w6 = wX at *
          have hy01 : y = 0 ∨ y = 1 := by omega
          rcases hy01 with rfl | rfl
          all_goals
            go_wp2_with fail
            go_simp
            go_wp2_with fail
            go_loopw [14] (fun i wr => ∃ k : Nat, k ≤ pt ∧ i = .int .i64 k ∧ After wr g bs sz t k ∧ Below w.heap.size w wr) (fun i _ => pt - (intOf i).toNat)
            case atStart => exact ⟨0, Nat.zero_le _, rfl, ⟨_, t, [], false, HRX.out, Nat.le_refl _, fun _ => ⟨rfl, rfl, rfl⟩, fun h => by simp [goodB] at h⟩, HBX.out⟩
            case round =>
              obtain ⟨k, hk, rfl, hA5, hB5⟩ := hrel
              have HA5 := hid hA5
              have HB5 := hid hB5
              clear hA5 hB5
              by_cases hlt : k < pt
              · go_wp2_with fail
                refine (HA5.out.step (by omega) (by omega) (by omega) (by omega)).mono ?_
                rintro e w6 ⟨⟨u6, rfl⟩, r1, r2⟩
                have B6 := HB5.out.grown r2 HB5.out.size (fun j e => by cases e; exact hgw)
                have Z := hid (And.intro r1 B6)
                clear r1 r2 B6
                go_wp2
                go_roundw
                case rel => exact ⟨k + 1, by omega, by go_num, Z.out.1, Z.out.2⟩
                case measure => simp [intOf]; omega
              · obtain rfl : k = pt := by omega
                obtain ⟨okF, hokF⟩ : ∃ okF, (if k = 0 then decide (bs.length = sz) else goodB bs sz t k) = okF := ⟨_, rfl⟩
                have HParts : Hid (Calls Try.prog 22 #[.pointer (some ⟨g, 0, none⟩)] wr fun e w' => (∃ u, e = .returned (.tuple #[u, .bool okF]) ∧ IsBs w' u (if okF then cutL bs (places bs t k) else [])) ∧ Below wr.heap.size wr w') := by
                  obtain ⟨S6, tkn, ps, wrong, hR6, hpl6, q1, q2⟩ := HA5.out.ex
                  have nilB : ∀ W : World, IsBs W (.slice none 0 0) [] := fun W => ⟨none, 0, rfl, Nat.le_refl _, by decide, fun _ => rfl, .inl rfl⟩
                  by_cases hk0 : k = 0
                  · subst hk0
                    rw [if_pos rfl] at hokF
                    obtain ⟨e1, rfl, rfl⟩ := q1 rfl
                    have e2 : tkn = sz := by omega
                    subst e2
                    by_cases hls : bs.length = tkn
                    · have hz : okF = true := by rw [← hokF]; simpa using hls
                      subst hz
                      refine (parts_ok wr hR6 (fun _ => hls) (fun i hi => by rw [places_length] at hi; omega) (by omega) (by omega) (by rw [places_length]; omega)).mono ?_
                      rintro e w' ⟨u, rfl, r1, r2⟩
                      exact ⟨⟨u, rfl, r1⟩, r2⟩
                    · have hz : okF = false := by rw [← hokF]; simpa using hls
                      subst hz
                      refine (parts_bad wr hR6 (.inr (.inr ⟨rfl, hls⟩)) (by omega) (by omega) (by rw [places_length]; omega)).mono ?_
                      rintro e w' ⟨rfl, n, rfl⟩
                      exact ⟨⟨_, rfl, nilB _⟩, below_drew0 (Below.refl _ _) n⟩
                  · rw [if_neg hk0] at hokF
                    cases okF
                    · obtain rfl := q2 hokF
                      refine (parts_bad wr hR6 (.inl rfl) (by omega) (by omega) (by omega)).mono ?_
                      rintro e w' ⟨rfl, n, rfl⟩
                      exact ⟨⟨_, rfl, nilB _⟩, below_drew0 (Below.refl _ _) n⟩
                    · obtain ⟨e1, rfl, rfl⟩ := q1 hokF
                      obtain rfl : tkn = sz := by omega
                      refine (parts_ok wr hR6 (fun e => absurd (congrArg List.length e) (by rw [places_length]; simp; omega)) (good_cuts hokF (by omega)) (by omega) (by omega) (by rw [places_length]; omega)).mono ?_
                      rintro e w' ⟨u, rfl, r1, r2⟩
                      exact ⟨⟨u, rfl, r1⟩, r2⟩
                have HOK := hid hokF
                clear hokF HA5
                go_wp2_with fail
                refine HParts.out.mono ?_
                rintro e w7 ⟨⟨u7, rfl, hI7⟩, B7⟩
                obtain ⟨gots, hgots⟩ : ∃ gots, (if okF then cutL bs (places bs t k) else []) = gots := ⟨_, rfl⟩
                rw [hgots] at hI7
                have HGS := hid hgots
                clear hgots
                have HB7 := hid (below_more HB5.out B7 (Nat.le_refl _))
                obtain ⟨ao7, cap7, hu7⟩ := hI7.form
                subst hu7
                have HI7 := hid hI7
                have s7 := HB7.out.size
                clear hI7 B7 HParts HB5 HRX HBX
                have hst : (sz : Int) - 4 * (k : Int) = (t : Int) := by omega
                go_wp2_with fail
                go_loopw [17, 18, 19] (fun a i _ wr => ∃ j : Nat, j ≤ k ∧ i = .int .i64 j ∧ RowI wr w7.heap.size a (places bs t j) ∧ Below w7.heap.size w7 wr) (fun _ i _ _ => k - (intOf i).toNat)
                case atStart => exact ⟨0, Nat.zero_le _, rfl, World.ownsRow_nil _ _ _ _, Below.refl _ _⟩
                case round =>
                  obtain ⟨j, hj, rfl, hRow, hBj⟩ := hrel
                  have HRow := hid hRow
                  have HBj := hid hBj
                  have sj := hBj.size
                  clear hRow hBj
                  by_cases hlt2 : j < k
                  · have hIj : IsB wr (.slice (some ⟨b, off + (t + 4 * j), none⟩) 4 (cap - (t + 4 * j))) ((bs.drop (t + 4 * j)).take 4) := by
                      have := ((HB.out.keep HB7.out).keep HBj.out).sub2 (t + 4 * j) (t + 4 * j + 4) (by omega) (by omega)
                      rw [if_neg (by omega), show t + 4 * j + 4 - (t + 4 * j) = 4 by omega, Option.map_some, Addr.add_lit] at this
                      exact this
                    have hpl := placeAt_lt h8 t j (by omega)
                    have HIj := hid hIj
                    have HPS : Same (places bs t (j + 1)) (places bs t j ++ [placeAt bs t j]) := ⟨places_succ bs t j⟩
                    have HPL := hid (places_length bs t j)
                    clear hIj
                    go_wp2_with fail
                    refine (rtake_isB _ _ _ HIj.out).mono ?_
                    rintro e w8 ⟨rfl, rfl⟩
                    rw [show tk ((bs.drop (t + 4 * j)).take 4) = placeAt bs t j from rfl]
                    obtain ⟨pl, hpe⟩ : ∃ pl, placeAt bs t j = pl := ⟨_, rfl⟩
                    rw [hpe] at hpl HPS ⊢
                    clear hpe HIj
                    go_wp2_with (at_builtin; refine wpList_append_i rfl (.tmp 121) (.tmp 129) rfl w7.heap.size _ (places bs t j) rfl (by exact HRow.out.alloc _) w8.heap.size pl rfl (by simp) (by rw [HPL.out]; omega) (by simp; omega) ?_; intro v9 w9 own9 grow9)
                    have B9 := hid ((HBj.out.alloc (by omega) _).grown grow9 (by simp; omega) (fun q hq => (World.ownsRow.lt HRow.out q hq).1))
                    have O9 := hid own9
                    clear own9 grow9
                    go_wp2
                    go_roundw
                    case rel => exact ⟨j + 1, by omega, by go_num, by rw [HPS.out]; exact O9.out, B9.out⟩
                    case measure => simp [intOf]; omega
                  · obtain rfl : j = k := by omega
                    have HPL := hid (places_length bs t j)
                    go_wp2_with (at_builtin; refine wpList_append_i rfl (.tmp 131) (.tmp 134) rfl w7.heap.size _ (places bs t j) rfl (by exact HRow.out.alloc _) wr.heap.size bs.length rfl (by simp) (by rw [HPL.out]; omega) (by simp; omega) ?_; intro v9 w9 own9 grow9)
                    have B9 := hid ((HBj.out.alloc (by omega) _).grown grow9 (by simp; omega) (fun q hq => (World.ownsRow.lt HRow.out q hq).1))
                    have own10 : RowI w9 w7.heap.size v9 (atL bs t j) := own9
                    have hal := atL_length bs t j
                    obtain ⟨g9, cap9, hg9, hg9', rfl, hcp9, hc9⟩ := own10.form (by omega)
                    obtain ⟨la, hla⟩ : ∃ la, (atL bs t j).length = la := ⟨_, rfl⟩
                    rw [hla] at hcp9 hc9 ⊢
                    have hla1 : la = j + 1 := by omega
                    have hla0 : (0 : Int) < (la : Int) := by omega
                    have hla0n : 0 < la := by omega
                    have hlaj : (la : Int) - 1 = (j : Int) := by omega
                    have HLA := hid hla1
                    clear hla hla1
                    have HW9 := hid (below_more HB7.out B9.out (Nat.le_refl _))
                    have HC9 := hid hc9
                    clear own9 own10 grow9 hc9 hal HRow HBj
                    obtain ⟨a0, ha0⟩ : ∃ a0, (atL bs t j).getD 0 0 = a0 := ⟨_, rfl⟩
                    have hc90 := HC9.out 0 (by have := HLA.out; omega)
                    rw [ha0] at hc90
                    have hX : okF = (decide (a0 = sz) && upB2 (atL bs t j) (j + 1)) := by
                      rw [← HOK.out, ← ha0]
                      by_cases hj0 : j = 0
                      · subst hj0
                        rw [if_pos rfl, Nat.zero_add, upB2_one, Bool.and_true, atL_last]
                      · rw [if_neg hj0]
                        exact good_iff bs sz t j (by omega) (by omega)
                    have HA0 := hid ha0
                    have HX := hid hX
                    clear ha0 hX hlt hlt2
                    obtain ⟨bb, hbb⟩ : ∃ bb, (((a0 : Nat) : Int) != ((sz : Nat) : Int)) = bb := ⟨_, rfl⟩
                    have hbb2 : bb = !decide (a0 = sz) := by
                      rw [← hbb]
                      by_cases e : a0 = sz
                      · simp [e]
                      · have : ((a0 : Int) != (sz : Int)) = true := by rw [bne_iff_ne]; omega
                        simp [e, this]
                    have HBB := hid hbb2
                    clear hbb2
                    go_wp2_with fail
                    go_simp
                    go_wp2_with fail
                    go_loopw [12, 20] (fun b i wr => ∃ (q n : Nat) (bv : Bool), q ≤ j ∧ i = .int .i64 ((q : Int) + 1) ∧ b = .bool bv ∧ bv = !(decide (a0 = sz) && upB2 (atL bs t j) (q + 1)) ∧ wr = w9.drewN n) (fun b i _ => j + 1 - (intOf i).toNat)
                    case atStart => exact ⟨0, 0, bb, Nat.zero_le _, rfl, rfl, by rw [HBB.out, Nat.zero_add, upB2_one, Bool.and_true], rfl⟩
                    case round =>
                      obtain ⟨q, n, bv, hq, rfl, rfl, hbv, rfl⟩ := hrel
                      have HBV := hid hbv
                      clear hbv
                      by_cases hcont : q < j ∧ bv = false
                      · obtain ⟨hqj, rfl⟩ := hcont
                        have hqj' : (q : Int) + 1 < (la : Int) := by omega
                        have hcq := HC9.out q (by omega)
                        have hcq1 := HC9.out (q + 1) (by omega)
                        have hup := upB2_succ (atL bs t j) (q + 1) (by omega)
                        rw [show q + 1 - 1 = q by omega] at hup
                        have hold : (decide (a0 = sz) && upB2 (atL bs t j) (q + 1)) = true := by have := HBV.out; simpa using this.symm
                        rw [Bool.and_eq_true] at hold
                        obtain ⟨x0, hx0⟩ : ∃ x, (atL bs t j).getD q 0 = x := ⟨_, rfl⟩
                        obtain ⟨x1, hx1⟩ : ∃ x, (atL bs t j).getD (q + 1) 0 = x := ⟨_, rfl⟩
                        rw [hx0] at hcq hup
                        rw [hx1] at hcq1 hup
                        have HN : Hid (decide (x1 < x0) = !(decide (a0 = sz) && upB2 (atL bs t j) (q + 1 + 1))) := by
                          show decide (x1 < x0) = _
                          rw [hup, hold.1, hold.2, Bool.true_and, Bool.true_and, ← decide_not]
                          simp
                        clear hup hold hx0 hx1 HBV
                        go_wp2_with fail
                        go_quiet (fail)
                        go_wp2
                        go_roundw
                        case rel => exact ⟨q + 1, n + nq, decide (x1 < x0), by omega, by go_num, by simp, HN.out, rfl⟩
                        case measure => simp [intOf]; omega
                      · have hfin : bv = !okF := by
                          rw [HX.out]
                          by_cases hqj : q < j
                          · have hbt : bv = true := by
                              cases bv
                              · exact absurd ⟨hqj, rfl⟩ hcont
                              · rfl
                            have h1 := HBV.out
                            rw [hbt] at h1
                            have h2 : (decide (a0 = sz) && upB2 (atL bs t j) (q + 1)) = false := by
                              cases hh : (decide (a0 = sz) && upB2 (atL bs t j) (q + 1))
                              · rfl
                              · rw [hh] at h1; cases h1
                            rw [hbt]
                            rcases Bool.and_eq_false_iff.1 h2 with h | h
                            · rw [h]; rfl
                            · rw [upB2_false h (by omega), Bool.and_false]; rfl
                          · rw [HBV.out, show q = j by omega]
                        subst hfin
                        have hcs : ¬ ((q : Int) + 1 < (la : Int)) ∨ okF = false := by
                          by_cases hqj : q < j
                          · right; cases okF
                            · rfl
                            · exact absurd ⟨hqj, rfl⟩ hcont
                          · left; omega
                        clear HBV hcont
                        cases okF
                        · have hgz : gots = [] := HGS.out.symm
                          subst hgz
                          by_cases hqj' : (q : Int) + 1 < (la : Int)
                          all_goals
                            go_wp2_with fail
                            go_quiet (fail)
                            go_wp2_with fail
                            go_loopw [21, 200] (fun _ i wr => i = .int .i64 0 ∧ ∃ n, wr = w9.drewN n) (fun _ _ _ => 0)
                            case atStart => exact ⟨rfl, _, rfl⟩
                            case round =>
                              obtain ⟨rfl, n9, rfl⟩ := hrel
                              go_wp2
                              go_ret
                              exact ⟨rfl, below_drew0 HW9.out n9⟩
                        · have hqj' : ¬ ((q : Int) + 1 < (la : Int)) := by
                            rcases hcs with h | h
                            · exact h
                            · cases h
                          have hgl : gots.length = j := by rw [← HGS.out, if_pos rfl, cutL_length, places_length]
                          have ha0s : a0 = sz := by
                            have := HX.out.symm
                            rw [Bool.and_eq_true, decide_eq_true_eq] at this
                            exact this.1
                          have hcl := HC9.out j (by omega)
                          rw [atL_last] at hcl
                          have hls : ¬ (bs.length : Int) < (a0 : Int) := by omega
                          have hgl' : (((gots.length : Nat) : Int) != ((j : Nat) : Int)) = false := by rw [hgl]; simp
                          have HGL := hid hgl
                          clear hcs hgl
                          go_wp2_with fail
                          go_quiet (fail)
                          go_wp2_with fail
                          have hUP : upB2 (atL bs t j) (j + 1) = true := by
                            have := HX.out.symm
                            rw [Bool.and_eq_true] at this
                            exact this.2
                          have HUP := hid hUP
                          have HI9 := hid (HI7.out.keep B9.out)
                          have HIB := hid (HB.out.keep HW9.out)
                          have HJL : Hid (((gots.length : Nat) : Int) = (j : Int)) := by show _ = _; rw [HGL.out]
                          clear hUP hcl hls hc90 hgl'
                          go_loopw [21, 200] (fun _ i wr => ∃ m n : Nat, m ≤ j ∧ i = .int .i64 m ∧ wr = w9.drewN n) (fun _ i _ => j - (intOf i).toNat)
                          case atStart => exact ⟨0, _, Nat.zero_le _, rfl, rfl⟩
                          case round =>
                            obtain ⟨m, n, hm, rfl, rfl⟩ := hrel
                            by_cases hmj : m < j
                            · obtain ⟨b7, off7, cp7, he, hcp7, hcc7⟩ := HI9.out.at (by have := HGL.out; omega)
                              simp only [Value.slice.injEq] at he
                              obtain ⟨rfl, _, rfl⟩ := he
                              have hgm := cut_at bs t j m hmj
                              rw [show cutL bs (places bs t j) = gots from HGS.out] at hgm
                              obtain ⟨u8, hu8, hI8⟩ := hcc7 m _ hgm
                              have hcm := HC9.out m (by have := HLA.out; omega)
                              have hcm1 := HC9.out (m + 1) (by have := HLA.out; omega)
                              have hle1 := upB2_le HUP.out m (m + 1) (by omega) (by omega)
                              have hle2 := upB2_le HUP.out (m + 1) j (by omega) (by omega)
                              rw [atL_last] at hle2
                              obtain ⟨x0, hx0⟩ : ∃ x, (atL bs t j).getD m 0 = x := ⟨_, rfl⟩
                              obtain ⟨x1, hx1⟩ : ∃ x, (atL bs t j).getD (m + 1) 0 = x := ⟨_, rfl⟩
                              rw [hx0] at hcm hle1 hI8
                              rw [hx1] at hcm1 hle1 hle2 hI8
                              have hv8 := conv_all hI8
                              have hvb := conv_all (HIB.out.sub2 x0 x1 hle1 hle2)
                              simp only [Option.map_some, Addr.add_lit] at hvb
                              generalize strOf ((bs.drop x0).take (x1 - x0)) = sk at hv8 hvb
                              have hmg : (m : Int) < ((gots.length : Nat) : Int) := by have := HJL.out; omega
                              have hmg' : m < gots.length := by omega
                              have hmla : (m : Int) < (la : Int) := by omega
                              have hmla' : (m : Int) + 1 < (la : Int) := by omega
                              clear hI8 hgm hx0 hx1 hcc7 hlaj hst
                              go_wp2_with fail
                              go_quiet (fail)
                              go_wp2
                              go_roundw
                              case rel => exact ⟨m + 1, n + nq, by omega, by go_num, rfl⟩
                              case measure => simp [intOf]; omega
                            · have hmg : ¬ (m : Int) < ((gots.length : Nat) : Int) := by have := HJL.out; omega
                              go_wp2
                              go_ret
                              exact ⟨rfl, below_drew0 HW9.out n⟩
end Go.Proofs.Ytfnemggfmifpaaa
