/- Lists of numbers: Encode, pieces. -/
import Derived.Test.YtelgjencpafnnaaNumS
namespace Go.Proofs.Ytelgjencpafnnaa
open Go.RowKit Go.Shelf
set_option linter.unusedVariables false
set_option linter.unusedSimpArgs false
set_option maxRecDepth 100000

theorem numF_succ (ns : List Nat) (t : Nat) (h : t < ns.length) : numF (ns.take t) ++ [(le (ns.getD t 0) 8, false)] = numF (ns.take (t + 1)) := by
  unfold numF
  rw [List.take_add_one, List.getElem?_eq_getElem h, List.getD_eq_getElem?_getD, List.getElem?_eq_getElem h, List.map_append]
  rfl
theorem numF_length (ns : List Nat) : (numF ns).length = ns.length := by simp [numF]
set_option maxHeartbeats 2000000 in
theorem lenc_any (limit : Int) (v : Value) (ns : List Nat) (w : World) (hN : IsN w v ns) (hl : ns.length ≤ 100000000) :
    Calls Try.prog 14 #[.agg (lsN limit).toArray, v] w fun x w' => ∃ u, x = .returned u ∧ Row w' w.heap.size u (bytesN ns) ∧ Below w.heap.size w w' := by
  obtain ⟨⟨nao, ncap, rfl, hcap, hmx, hc⟩, h64⟩ := hN
  have HC := hid hc
  have H64 := hid h64
  clear hc h64
  go_enter Try.func14, Try.ntmps14
  go_wp2_with ((with_reducible refine at_list' ?_); first
    | (refine wpList_box_c rfl 2 rfl (.tmp 0) rfl (lsN limit) rfl ?_; intro w1 H1 B1 S1; have hc0 := H1.cell (j := 0) (v := .int .i64 8) rfl))
  have W2 := wr_new w1
  have B2 : Below w1.heap.size w1 (w1.alloc (.cells #[.int .i64 0, .pointer none] 56)) := (Below.refl _ w1).alloc (Nat.le_refl _) _
  have S2 := World.size_alloc w1 (.cells #[.int .i64 0, .pointer none] 56)
  rw [S1] at W2
  generalize w1.alloc (.cells #[.int .i64 0, .pointer none] 56) = w2 at W2 B2 S2 ⊢
  have hg2 := W2.gt
  have W2' : Wr w2 (w.heap.size + 1) (more (fun _ => False) w2 w2) [] := W2.grow (fun k a => a.elim) (fun a => by rcases a with a | a; exact a; omega) (fun k a => by rcases a with a | a; exact a.elim; omega)
  have HX := hid (And.intro (H1.keep B2) (And.intro W2' (B1.trans (B2.mono (by omega)))))
  have s2 : w2.heap.size = w.heap.size + 2 := by omega
  clear H1 B1 S1 hc0 W2 W2' B2 S2
  go_loopw [7, 13] (fun _ i wr => ∃ t : Nat, t ≤ ns.length ∧ i = .int .i64 t ∧ Wr wr (w.heap.size + 1) (more (fun _ => False) w2 wr) (numF (ns.take t)) ∧ w2.grownBy wr (some (w.heap.size + 1))) (fun _ i _ => ns.length - (intOf i).toNat)
  case atStart => exact ⟨0, Nat.zero_le _, rfl, HX.out.2.1, grown_refl _ _⟩
  case round =>
    obtain ⟨t, ht, rfl, hW, hG⟩ := hrel
    have H0 := hid (And.intro hW hG)
    have hbl : Below w.heap.size w wr := ⟨hG.os.trans HX.out.2.2.os, hG.tape.trans HX.out.2.2.tape, hG.output.trans HX.out.2.2.output, by have := hG.size; omega, fun j hj => (hG.block j (by omega) (fun h => by have := Option.some.inj h; omega)).trans (HX.out.2.2.block j hj)⟩
    have hLs := HX.out.1.grown hG (by omega)
    have hgs := hG.size
    have HB := hid hbl
    clear hW hG hbl
    by_cases hlt : t < ns.length
    · obtain ⟨b, off, rfl, hcc⟩ := HC.out.resolve_left (by omega)
      have hct := cell_keep HB.out (hcc t hlt)
      have hn64 : ns.getD t 0 < 18446744073709551616 := by
        rw [List.getD_eq_getElem?_getD, List.getElem?_eq_getElem hlt]
        exact H64.out _ (List.getElem_mem hlt)
      have hsu := numF_succ ns t hlt
      obtain ⟨x, HX1⟩ : ∃ x, Hid (ns.getD t 0 = x) := ⟨_, hid rfl⟩
      rw [HX1.out] at hct hn64 hsu
      have hc0 := hLs.cell (j := 0) (v := .int .i64 8) rfl
      have HL := hid hLs
      have HSU := hid hsu
      have HP := hid (lput_any limit x wr hn64)
      clear hcc hLs hsu hn64
      go_wp2_with ((with_reducible refine at_list' ?_); first
        | (refine wpList_load_c Try.ty39 rfl (.tmp 2) rfl w.heap.size (lsN limit) rfl rfl HL.out ?_))
      refine HP.out.mono ?_
      rintro e w3 ⟨u, rfl, R, B3⟩
      have hI := R.isB (le_byte x 8)
      have s3 := B3.size
      have W3 := hid (Wr.start H0.out.1 B3 (by omega) (fun a => a) (fun k a => a.elim) hgs)
      have HF := hid (fixed_wr (w.heap.size + 1) _ _ u (le x 8) w3 W3.out hI (by rw [numF_length, List.length_take]; omega) (by rw [le_length]; omega))
      obtain ⟨ua, uc, hu, _⟩ := R.form
      subst hu
      have HG3 := hid (grown_below H0.out.2 B3)
      clear R B3 hI hct hc0 HP
      go_wp2_with fail
      refine HF.out.mono ?_
      rintro e w4 ⟨⟨u4, rfl⟩, q1, q2⟩
      have W4 := hid (Wr.next (show w.heap.size + 1 < w2.heap.size by omega) (fun a => a) (fun k a => a.elim) (Nat.le_trans hgs s3) q2.size q1)
      have G4 := hid (grown_trans HG3.out q2)
      clear q1 q2 HF
      go_wp2
      exact ⟨⟨t + 1, by omega, by simp, by rw [← HSU.out]; exact W4.out, G4.out⟩, by simp [intOf]; omega⟩
    · obtain rfl : t = ns.length := by omega
      rw [List.take_length] at H0
      have HB5 := hid (bytes_any (w.heap.size + 1) _ _ wr H0.out.1 (by rw [numF_length]; omega) (by rw [lenF_numF]; omega))
      clear hLs
      go_wp2_with fail
      refine HB5.out.mono ?_
      rintro e w5 ⟨u, rfl, R, B5⟩
      rw [cont_numF] at R
      have HY := hid (And.intro R B5)
      clear R B5 HB5
      go_wp2
      go_ret
      exact ⟨u, rfl, HY.out.1.base HB.out.size, below_more HB.out HY.out.2 (Nat.le_refl _)⟩

theorem split8_ok (v : Value) (bs : List Nat) (k : Nat) (limit : Int) (w : World) (hI : IsB w v bs) (hk : bs.length = k * 8) (hlen : bs.length ≤ 1099511627776) (hkl : (k : Int) ≤ limit) :
    Calls Try.prog 6 #[v, .int .i64 8, .int .i64 limit] w fun x w' => ∃ u bo bz, x = .returned (.tuple #[.func (.func 23) #[] #[.pointer (some ⟨bo, 0, none⟩), .pointer (some ⟨bz, 0, none⟩)], .int .i64 0]) ∧ w.heap.size ≤ bo ∧ w.heap.size ≤ bz ∧
      w'.heap[bo]? = some (.cells #[u] 22 (0, 0)) ∧ w'.heap[bz]? = some (.cells #[.int .i64 8] 3 (0, 0)) ∧ IsB w' u bs ∧ Below w.heap.size w w' := by
  have h := split_ok v bs 8 k limit w hI (by decide) hk hlen hkl (by decide)
  rw [show ((8 : Nat) : Int) = 8 from rfl] at h
  exact h
set_option maxHeartbeats 1000000 in
theorem pieces_ok (v : Value) (bs : List Nat) (k : Nat) (limit : Int) (w : World) (hI : IsB w v bs) (hk : bs.length = k * 8) (hlen : bs.length ≤ 1099511627776) (hkl : (k : Int) ≤ limit) :
    Calls Try.prog 24 #[.agg (lsN limit).toArray, v] w fun x w' => ∃ u bo bz, x = .returned (.tuple #[.func (.func 23) #[] #[.pointer (some ⟨bo, 0, none⟩), .pointer (some ⟨bz, 0, none⟩)], .int .i64 0]) ∧ w.heap.size ≤ bo ∧ w.heap.size ≤ bz ∧
      w'.heap[bo]? = some (.cells #[u] 22 (0, 0)) ∧ w'.heap[bz]? = some (.cells #[.int .i64 8] 3 (0, 0)) ∧ IsB w' u bs ∧ Below w.heap.size w w' := by
  have HD := hid (fun w' (hb : Below w.heap.size w w') => split8_ok v bs k limit w' (hI.keep hb) hk hlen hkl)
  obtain ⟨⟨ao, cap, rfl, _⟩, _⟩ := hI
  clear hk hlen hkl
  go_enter Try.func24, Try.ntmps24
  go_wp2_with ((with_reducible refine at_list' ?_); first
    | (refine wpList_box_c rfl 2 rfl (.tmp 0) rfl (lsN limit) rfl ?_; intro w1 H1 B1 S1; have hc0 := H1.cell (j := 0) (v := .int .i64 8) rfl; have hc1 := H1.cell (j := 1) (v := .int .i64 limit) rfl))
  have HX := hid B1
  have HD2 := hid (HD.out w1 B1)
  clear H1 B1 hc0 hc1 HD
  refine HD2.out.mono ?_
  rintro e w2 ⟨u, bo, bz, rfl, q1, q2, q3, q4, q5, q6⟩
  have HY := hid (And.intro q1 (And.intro q2 (And.intro q3 (And.intro q4 (And.intro q5 q6)))))
  clear q1 q2 q3 q4 q5 q6 HD2
  go_wp2
  refine bodyPost_ret (v := .tuple #[.func (.func 23) #[] #[.pointer (some ⟨bo, 0, none⟩), .pointer (some ⟨bz, 0, none⟩)], .int .i64 0]) (by simp [results, Try.results24, go_sem]) rfl ?_
  exact ⟨u, bo, bz, rfl, by have := HY.out.1; omega, by have := HY.out.2.1; omega, HY.out.2.2.1, HY.out.2.2.2.1, HY.out.2.2.2.2.1, below_more HX.out HY.out.2.2.2.2.2 (Nat.le_refl _)⟩
set_option maxHeartbeats 1000000 in
theorem pieces_bad (v : Value) (bs : List Nat) (limit : Int) (w : World) (hI : IsB w v bs) (hlen : bs.length ≤ 1099511627776) (hbad : ((bs.length : Int).tmod 8 ≠ 0) ∨ limit < (bs.length : Int).tdiv 8) :
    Calls Try.prog 24 #[.agg (lsN limit).toArray, v] w fun x w' => x = .returned (.tuple #[.nilFunc, .int .i64 3]) ∧ Below w.heap.size w w' := by
  have HD := hid (fun w' (hb : Below w.heap.size w w') => split_bad v bs 8 limit w' (hI.keep hb) hlen (by decide) (.inr hbad))
  obtain ⟨⟨ao, cap, rfl, _⟩, _⟩ := hI
  go_enter Try.func24, Try.ntmps24
  go_wp2_with ((with_reducible refine at_list' ?_); first
    | (refine wpList_box_c rfl 2 rfl (.tmp 0) rfl (lsN limit) rfl ?_; intro w1 H1 B1 S1; have hc0 := H1.cell (j := 0) (v := .int .i64 8) rfl; have hc1 := H1.cell (j := 1) (v := .int .i64 limit) rfl))
  have HX := hid B1
  have HD2 := hid (HD.out w1 B1)
  clear H1 B1 hc0 hc1 HD
  refine HD2.out.mono ?_
  rintro e w2 ⟨rfl, q6⟩
  have HY := hid q6
  clear q6 HD2
  go_wp2
  refine bodyPost_ret (v := .tuple #[.nilFunc, .int .i64 3]) (by simp [results, Try.results24, go_sem]) rfl ?_
  exact ⟨rfl, below_more HX.out HY.out (Nat.le_refl _)⟩
end Go.Proofs.Ytelgjencpafnnaa
