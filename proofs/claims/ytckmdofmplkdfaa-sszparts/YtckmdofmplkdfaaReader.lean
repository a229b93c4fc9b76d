/- ssz's Reader: what it holds; Read, Fail, Fixed. -/
import Derived.Test.YtckmdofmplkdfaaChainI
import Derived.Test.YtckmdofmplkdfaaWriterB
import Derived.Test.YtckmdofmplkdfaaBits
import Derived.Test.YtckmdofmplkdfaaConv
namespace Go.Proofs.Ytckmdofmplkdfaa
open Go.RowKit Go.Shelf
set_option linter.unusedVariables false
set_option maxRecDepth 100000

/-- The Reader at block g: its bytes, its size, how many are taken, its places, and whether something was wrong. -/
structure Rd (w : World) (g : Nat) (S : Nat → Prop) (bs : List Nat) (size taken : Nat) (ps : List Nat) (wrong : Bool) : Prop where
  ex : ∃ v q, w.heap[g]? = some (.cells #[v, .int .i64 (size : Nat), .int .i64 (taken : Nat), .int .i64 (ps.length : Nat), .pointer q, .bool wrong] 79 (0, 0)) ∧ IsB w v bs ∧ inS S v ∧ ChnI S w (.pointer q) ps.reverse
  out : ¬ S g
  lt : ∀ k, S k → k < w.heap.size
  ts : taken ≤ size
  ok : wrong = false → size ≤ bs.length
theorem Rd.keep {w w' : World} {g : Nat} {S : Nat → Prop} {bs : List Nat} {size taken : Nat} {ps : List Nat} {wrong : Bool} (h : Rd w g S bs size taken ps wrong) (hs : w.heap.size ≤ w'.heap.size) (hk : ∀ k, S k → w'.heap[k]? = w.heap[k]?) (hg : w'.heap[g]? = w.heap[g]?) : Rd w' g S bs size taken ps wrong := by
  obtain ⟨⟨v, q, h1, h2, h3, h4⟩, h5, h6, h7, h8⟩ := h
  exact ⟨⟨v, q, hg.trans h1, h2.keepS h3 fun k a _ => hk k a, h3, h4.keepS fun k a _ => hk k a⟩, h5, fun k a => Nat.lt_of_lt_of_le (h6 k a) hs, h7, h8⟩
theorem Rd.gt {w : World} {g : Nat} {S : Nat → Prop} {bs : List Nat} {size taken : Nat} {ps : List Nat} {wrong : Bool} (h : Rd w g S bs size taken ps wrong) : g < w.heap.size := by
  obtain ⟨⟨v, q, h1, _⟩, _⟩ := h; exact (Array.getElem?_eq_some_iff.1 h1).1
theorem Rd.below {w w' : World} {g : Nat} {S : Nat → Prop} {bs : List Nat} {size taken : Nat} {ps : List Nat} {wrong : Bool} (h : Rd w g S bs size taken ps wrong) (hb : Below w.heap.size w w') : Rd w' g S bs size taken ps wrong :=
  h.keep hb.size (fun k a => hb.block k (h.lt k a)) (hb.block g h.gt)
/-- The Reader's own block, written over. -/
theorem Rd.set {w w' : World} {g : Nat} {S : Nat → Prop} {bs : List Nat} {size taken : Nat} {ps : List Nat} {wrong : Bool} (h : Rd w g S bs size taken ps wrong) (hG : w.grownBy w' (some g)) (taken' : Nat) (wrong' : Bool) (hts : taken' ≤ size) (hok : wrong' = false → size ≤ bs.length)
    (hg : ∀ v q, w.heap[g]? = some (.cells #[v, .int .i64 (size : Nat), .int .i64 (taken : Nat), .int .i64 (ps.length : Nat), .pointer q, .bool wrong] 79 (0, 0)) → w'.heap[g]? = some (.cells #[v, .int .i64 (size : Nat), .int .i64 (taken' : Nat), .int .i64 (ps.length : Nat), .pointer q, .bool wrong'] 79 (0, 0))) : Rd w' g S bs size taken' ps wrong' := by
  obtain ⟨⟨v, q, h1, h2, h3, h4⟩, h5, h6, h7, h8⟩ := h
  have hk : ∀ k, S k → w'.heap[k]? = w.heap[k]? := fun k a => hG.block k (h6 k a) (fun e => h5 (by cases e; exact a))
  exact ⟨⟨v, q, hg v q h1, h2.keepS h3 fun k a _ => hk k a, h3, h4.keepS fun k a _ => hk k a⟩, h5, fun k a => Nat.lt_of_lt_of_le (h6 k a) hG.size, hts, hok⟩
/-- The cells of a Reader. -/
theorem Rd.cells {w : World} {g : Nat} {S : Nat → Prop} {bs : List Nat} {size taken : Nat} {ps : List Nat} {wrong : Bool} (h : Rd w g S bs size taken ps wrong) :
    ∃ ao cap q, w.cell? ⟨g, 0, none⟩ = some (.slice ao bs.length cap) ∧ w.cell? ⟨g, 1, none⟩ = some (.int .i64 (size : Nat)) ∧ w.cell? ⟨g, 2, none⟩ = some (.int .i64 (taken : Nat)) ∧ w.cell? ⟨g, 3, none⟩ = some (.int .i64 (ps.length : Nat)) ∧ w.cell? ⟨g, 4, none⟩ = some (.pointer q) ∧ w.cell? ⟨g, 5, none⟩ = some (.bool wrong) ∧
      (w.frozen? ⟨g, 2, none⟩ = false ∧ w.frozen? ⟨g, 3, none⟩ = false ∧ w.frozen? ⟨g, 4, none⟩ = false ∧ w.frozen? ⟨g, 5, none⟩ = false) ∧ IsB w (.slice ao bs.length cap) bs ∧ inBlk S ao ∧ ChnI S w (.pointer q) ps.reverse ∧
      w.heap[g]? = some (.cells #[.slice ao bs.length cap, .int .i64 (size : Nat), .int .i64 (taken : Nat), .int .i64 (ps.length : Nat), .pointer q, .bool wrong] 79 (0, 0)) := by
  obtain ⟨⟨v, q, h1, h2, h3, h4⟩, _⟩ := h
  have h2' := h2
  obtain ⟨⟨ao, cap, rfl, _⟩, _⟩ := h2'
  exact ⟨ao, cap, q, cell_of_row w _ 0 _ _ (0, 0) h1, cell_of_row w _ 1 _ _ (0, 0) h1, cell_of_row w _ 2 _ _ (0, 0) h1, cell_of_row w _ 3 _ _ (0, 0) h1, cell_of_row w _ 4 _ _ (0, 0) h1, cell_of_row w _ 5 _ _ (0, 0) h1,
    ⟨frozen_of_row w g 2 _ _ h1, frozen_of_row w g 3 _ _ h1, frozen_of_row w g 4 _ _ h1, frozen_of_row w g 5 _ _ h1⟩, h2, h3, h4, h1⟩

set_option maxHeartbeats 1000000 in
theorem read_any (v : Value) (bs : List Nat) (size : Nat) (w : World) (hB : IsB w v bs) (hs : size ≤ 4611686018427387904) (hl : bs.length ≤ 140737488355328) :
    Calls Try.prog 15 #[v, .int .i64 (size : Nat)] w fun e w' => ∃ g S, w.heap.size ≤ g ∧ e = .returned (.pointer (some ⟨g, 0, none⟩)) ∧ Rd w' g S bs size 0 [] (decide (bs.length < size)) ∧ (∀ k, S k → w.heap.size ≤ k) ∧ Below w.heap.size w w' := by
  have hB' := hB
  obtain ⟨⟨ao, cap, rfl, _⟩, _⟩ := hB
  have h0 : ¬ ((size : Int) < 0) := by omega
  go_enter Try.func15, Try.ntmps15
  go_wp2_with fail
  refine (clone_any _ bs _ hB' hl).mono ?_
  rintro e w1 ⟨v1, rfl, R1, B1⟩
  have I1 := R1.isB hB'.by8
  have J1 := R1.inS
  have I1' := I1
  obtain ⟨⟨ao1, cap1, rfl, _⟩, _⟩ := I1'
  have S1 := B1.size
  have X := hid (And.intro I1 J1)
  clear R1 I1 J1
  go_wp2
  go_ret
  have BA : Below w1.heap.size w1 (w1.alloc (.cells #[.slice ao1 bs.length cap1, .int .i64 (size : Nat), .int .i64 0, .int .i64 0, .pointer none, .bool (decide (bs.length < size))] 79)) := (Below.refl _ w1).alloc (Nat.le_refl _) _
  refine ⟨w1.heap.size, fun k => w.heap.size ≤ k ∧ k < w1.heap.size, S1, rfl, ⟨⟨_, none, heap_alloc_new w1 _, X.out.1.keep BA, X.out.2, rfl⟩, fun h => Nat.lt_irrefl _ h.2, fun k h => by rw [World.size_alloc]; omega, Nat.zero_le _, fun h => by simpa using h⟩, fun k h => h.1, below_more B1 BA (Nat.le_refl _)⟩

set_option maxHeartbeats 1000000 in
theorem fail_any {g : Nat} {S : Nat → Prop} {bs : List Nat} {size taken : Nat} {ps : List Nat} {wrong : Bool} (w : World) (h : Rd w g S bs size taken ps wrong) :
    Calls Try.prog 36 #[.pointer (some ⟨g, 0, none⟩)] w fun e w' => (∃ u, e = .returned u) ∧ Rd w' g S bs size taken ps true ∧ w.grownBy w' (some g) ∧ w'.heap.size = w.heap.size := by
  obtain ⟨ao, cap, q, c0, c1, c2, c3, c4, c5, ⟨f2, f3, f4, f5⟩, _, _, _, hg⟩ := h.cells
  have HR := hid h
  clear h c0 c1 c2 c3 c4
  go_enter Try.func36, Try.ntmps36
  go_wp2
  go_end0
  have hG : w.grownBy (w.setCell ⟨g, 5, none⟩ (.bool true)) (some g) := ⟨rfl, rfl, rfl, by simp [World.setCell], fun k _ hk => heap_setCell_other w ⟨g, 5, none⟩ k _ (fun e => hk (by rw [e]))⟩
  refine ⟨⟨_, rfl⟩, HR.out.set hG taken true HR.out.ts (fun e => by cases e) (fun v q' hv => ?_), hG, by simp [World.setCell]⟩
  exact heap_setCell_same w g 5 _ _ _ hv

/-- Is something wrong behind Fixed(n)? -/
def fixW (size taken n : Nat) (wrong : Bool) : Bool := wrong || decide (size - taken < n)
/-- What Fixed(n) answers. -/
def fixB (bs : List Nat) (size taken n : Nat) (wrong : Bool) : List Nat := if fixW size taken n wrong then zeros n else (bs.drop taken).take n
def fixT (size taken n : Nat) (wrong : Bool) : Nat := if fixW size taken n wrong then taken else taken + n
theorem le_zero (n : Nat) : le 0 n = zeros n := by
  unfold le zeros
  apply List.ext_getElem
  · simp
  · intro i h1 h2; simp
theorem putz_any (n : Nat) (hn : n ≤ 2147483647) (w : World) :
    Calls Try.prog 25 #[.int .u64 0, .int .i64 (n : Nat)] w fun e w' => ∃ v, e = .returned v ∧ Row w' w.heap.size v (zeros n) ∧ Below w.heap.size w w' := by
  by_cases h0 : n = 0
  · subst h0
    refine (put_none 0 0 (by omega) w).mono ?_
    rintro e w' ⟨rfl, rfl⟩
    exact ⟨_, rfl, Row.nil _ _, Below.refl _ _⟩
  · refine (put8_isB 0 n (by decide) (by omega) hn w).mono ?_
    rintro e w' ⟨cap, rfl, h1, h2⟩
    rw [le_zero] at h1
    exact ⟨_, rfl, h1, h2⟩
theorem IsB.drop_reads {w : World} {ao : Option Addr} {cap : Nat} {bs : List Nat} (h : IsB w (.slice ao bs.length cap) bs) (t n : Nat) (htn : t + n ≤ bs.length) (h0 : 0 < n) : ∃ b off, ao = some ⟨b, off, none⟩ ∧ ∀ j, j < n → w.cell? ⟨b, off + t + j, none⟩ = some (.int .u8 (((bs.drop t).take n).getD j 0 : Nat)) := by
  obtain ⟨⟨ao', cap', he, _, _, _, hR⟩, _⟩ := h
  simp only [Value.slice.injEq] at he
  obtain ⟨rfl, _, rfl⟩ := he
  rcases hR with h | ⟨b, off, rfl, hc⟩
  · omega
  · refine ⟨b, off, rfl, fun j hj => ?_⟩
    rw [Nat.add_assoc, hc (t + j) (by omega), List.getD_eq_getElem?_getD, List.getD_eq_getElem?_getD, List.getElem?_take, if_pos hj, List.getElem?_drop]
theorem over_all (l r : List Nat) (h : l.length = r.length) : over l 0 r = r := by
  unfold over
  rw [List.take_zero, Nat.zero_add, ← h, List.drop_length]; simp

set_option maxHeartbeats 2000000 in
theorem fixed_any {g : Nat} {S : Nat → Prop} {bs : List Nat} {size taken : Nat} {ps : List Nat} {wrong : Bool} (n : Nat) (w : World) (h : Rd w g S bs size taken ps wrong) (hn : n ≤ 2147483647) (hs : size ≤ 4611686018427387904) (hl : bs.length ≤ 140737488355328) :
    Calls Try.prog 34 #[.pointer (some ⟨g, 0, none⟩), .int .i64 (n : Nat)] w fun e w' => ∃ v, e = .returned v ∧ Row w' w.heap.size v (fixB bs size taken n wrong) ∧ Rd w' g S bs size (fixT size taken n wrong) ps (fixW size taken n wrong) ∧ w.grownBy w' (some g) := by
  obtain ⟨ao, cap, q, c0, c1, c2, c3, c4, c5, ⟨f2, f3, f4, f5⟩, hIs, hin, hch, hg⟩ := h.cells
  have hts := h.ts
  have hgl := h.gt
  have h0 : ¬ ((n : Int) < 0) := by omega
  have h0' : decide ((n : Int) < 0) = false := by simp
  have HR := hid h
  by_cases hc : size - taken < n
  · have hc' : ((size : Int) - (taken : Int) < (n : Int)) := by omega
    have e1 : fixW size taken n wrong = true := by simp [fixW, hc]
    simp only [fixB, fixT, e1, if_true]
    have HS := hid hIs
    clear hIs hg hch c3 c4 f3 f4 h
    go_enter Try.func34, Try.ntmps34
    go_wp2_with fail
    go_quiet (fail)
    go_wp2_with fail
    have hRd : Rd (w.drewN nq) g S bs size taken ps wrong := HR.out.keep (Nat.le_refl _) (fun _ _ => rfl) rfl
    refine (fail_any _ hRd).mono ?_
    rintro e w1 ⟨⟨u, rfl⟩, h1, g1, s1⟩
    obtain ⟨_, _, _, _, _, _, _, _, d5, _⟩ := h1.cells
    have g1' : w.grownBy w1 (some g) := ⟨g1.os, g1.tape, g1.output, g1.size, g1.block⟩
    have Y := hid (And.intro h1 g1')
    clear h1 g1 g1' hRd c0 c1 c2 c5 f2 f5
    go_wp2_with fail
    refine (putz_any n hn _).mono ?_
    rintro e w2 ⟨v2, rfl, R2, B2⟩
    have s1' : w.heap.size ≤ w1.heap.size := Y.out.2.size
    have X := hid (And.intro (R2.base s1') B2)
    clear R2 B2
    go_wp2
    go_ret
    exact ⟨_, rfl, X.out.1, Y.out.1.below X.out.2, grown_below Y.out.2 X.out.2⟩
  · have hc' : ¬ ((size : Int) - (taken : Int) < (n : Int)) := by omega
    cases wrong
    · have hok := h.ok rfl
      have e1 : fixW size taken n false = false := by simp [fixW]; omega
      simp only [fixB, fixT, e1, Bool.false_eq_true, if_false]
      have HS := hid hIs
      have HG := hid hg
      clear hIs hg hch c3 c4 f3 f4 f5 h
      go_enter Try.func34, Try.ntmps34
      go_wp2_with fail
      go_quiet (fail)
      have hcap := HS.out.ex
      obtain ⟨ao', cap', he, hcap, _, hnil, _⟩ := hcap
      simp only [Value.slice.injEq] at he
      obtain ⟨rfl, _, rfl⟩ := he
      go_wp2_with (refine wpList_make_has rfl _ _ 24 rfl 5 .u8 Try.underlying24 Try.zero5 .i64 .i64 _ _ n rfl rfl rfl rfl (by omega) ?_; intro w1 H1 B1)
      have H1' : Has w1 w.heap.size 5 .u8 (zeros n) := H1
      have B1' : Below w.heap.size w w1 := ⟨B1.os, B1.tape, B1.output, B1.size, B1.block⟩
      have k0 := (B1'.cell (p := ⟨g, 0, none⟩) hgl).trans c0
      have k2 := (B1'.cell (p := ⟨g, 2, none⟩) hgl).trans c2
      have kf := (B1'.frozen (p := ⟨g, 2, none⟩) hgl).trans f2
      have HB1 := hid B1'
      have HH1 := hid H1'
      clear B1 B1' c0 c1 c2 c5 f2 H1 H1'
      refine wp_region_quiet_tail 10 (by kernel_rfl) (by kernel_rfl) ?_
      simp only [List.take_succ_cons, List.take_zero, List.drop_succ_cons, List.drop_zero]
      repeat (go_big_quiet_step (fail))
      refine wpQuiet_nil ?_
      intro _ hw'
      obtain ⟨nq2, hw''⟩ := hw'
      subst hw''
      have hcl : ((bs.drop taken).take n).length = n := by simp; omega
      have HCL := hid hcl
      have HN : Hid (((bs.drop taken).take n).length = Nat.min (bs.length - taken) n) := by show _ = _; rw [hcl]; simp [Nat.min_def]; omega
      have HP : Hid (0 < ((bs.drop taken).take n).length → some (⟨w.heap.size, 0, none⟩ : Addr) = some ⟨w.heap.size, 0, none⟩ ∧ ∃ ad, (if cap = taken then ao else Option.map (fun x => x.add taken) ao) = some ad ∧ ∀ j, j < ((bs.drop taken).take n).length → (w1.drewN nq2).cell? (ad.add j) = some (.int .u8 (((bs.drop taken).take n).getD j 0 : Nat))) := by
        intro hpos
        rw [hcl] at hpos ⊢
        obtain ⟨b, off, rfl, hcc⟩ := (HS.out.keep HB1.out).drop_reads taken n (by omega) hpos
        rw [if_neg (by omega)]
        exact ⟨rfl, ⟨b, off + taken, none⟩, by rw [Option.map_some, Addr.add_lit], fun j hj => by rw [Addr.add_lit]; exact hcc j hj⟩
      have HO : Hid (over (zeros n) 0 ((bs.drop taken).take n) = (bs.drop taken).take n) := over_all _ _ (by rw [zeros_length, hcl])
      clear hcl
      go_wp2_with (refine wpList_copy_has rfl (.tmp 33) (.tmp 42) 24 24 rfl 5 Try.underlying24 Try.one5 _ _ _ _ _ _ rfl rfl w.heap.size 0 .u8 (zeros n) 5 (by exact HH1.out.drewN nq2) ((bs.drop taken).take n) HN.out HP.out (by rw [HCL.out, zeros_length]; omega) ?_; intro w2 H2 O2; have m2 : w2.cell? ⟨g, 2, none⟩ = some (.int .i64 (taken : Nat)) := (World.cell?_of_block (O2.block g (by omega))).trans k2; have mf : w2.frozen? ⟨g, 2, none⟩ = false := (World.frozen?_of_block (O2.block g (by omega))).trans kf; replace H2 := hid H2; replace O2 := hid O2)
      all_goals
        go_ret
        have hw2 : w2.heap.size = w1.heap.size := O2.out.size
        have s1 := HB1.out.size
        have hG2 : w2.heap[g]? = w.heap[g]? := (O2.out.block g (by omega)).trans (HB1.out.block g hgl)
        have GW : w.grownBy (w2.setCell ⟨g, 2, none⟩ (.int .i64 ((taken : Int) + (n : Int)))) (some g) := ⟨O2.out.os.trans HB1.out.os, O2.out.tape.trans HB1.out.tape, O2.out.output.trans HB1.out.output, by simp [World.setCell]; omega, fun k hk hne => (heap_setCell_other w2 ⟨g, 2, none⟩ k _ (fun e => hne (by rw [e]))).trans ((O2.out.block k (by omega)).trans (HB1.out.block k hk))⟩
        refine ⟨_, rfl, ?_, HR.out.set GW (taken + n) false (by omega) (fun _ => hok) (fun v' q' hv => ?_), GW⟩
        · have h2 := H2.out
          rw [HO.out] at h2
          have hh := Has.row (w := w2.setCell ⟨g, 2, none⟩ (.int .i64 ((taken : Int) + (n : Int)))) (base := w.heap.size) (Has.only h2 (Only.setCell w2 g 2 _) (by omega)) (Nat.le_refl _) (by rw [HCL.out]; unfold maxLen; omega)
          rw [HCL.out] at hh
          exact hh
        · rw [show (((taken + n : Nat)) : Int) = (taken : Int) + (n : Int) from by simp]
          exact heap_setCell_same w2 g 2 _ _ _ (hG2.trans hv)
    · have e1 : fixW size taken n true = true := by simp [fixW]
      simp only [fixB, fixT, e1, if_true]
      have HS := hid hIs
      have HG := hid hg
      clear hIs hg hch c3 c4 f3 f4 f5 h
      go_enter Try.func34, Try.ntmps34
      go_wp2_with fail
      go_quiet (fail)
      go_wp2_with fail
      refine (putz_any n hn _).mono ?_
      rintro e w2 ⟨v2, rfl, R2, B2⟩
      have B2' : Below w.heap.size w w2 := ⟨B2.os, B2.tape, B2.output, B2.size, B2.block⟩
      have X := hid (And.intro R2 B2')
      clear R2 B2 B2'
      go_wp2
      go_ret
      exact ⟨_, rfl, X.out.1, HR.out.below X.out.2, ⟨X.out.2.os, X.out.2.tape, X.out.2.output, X.out.2.size, fun k hk _ => X.out.2.block k hk⟩⟩
end Go.Proofs.Ytckmdofmplkdfaa
