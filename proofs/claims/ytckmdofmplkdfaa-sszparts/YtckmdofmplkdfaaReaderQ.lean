/- ssz's Reader: Part. -/
import Derived.Test.YtckmdofmplkdfaaReaderP
namespace Go.Proofs.Ytckmdofmplkdfaa
open Go.RowKit Go.Shelf
set_option linter.unusedVariables false
set_option maxRecDepth 100000

theorem fixB_length {bs : List Nat} {size taken n : Nat} {wrong : Bool} (hts : taken ≤ size) (hok : wrong = false → size ≤ bs.length) : (fixB bs size taken n wrong).length = n := by
  unfold fixB
  by_cases h : fixW size taken n wrong = true
  · rw [if_pos h, zeros_length]
  · rw [if_neg h]
    simp only [fixW, Bool.or_eq_true, decide_eq_true_eq, not_or, Bool.not_eq_true] at h
    have := hok h.1
    simp; omega
theorem tk_lt4 (bs : List Nat) (h : ∀ z ∈ bs, z < 256) (hl : bs.length = 4) : tk bs < 4294967296 := by
  unfold tk takeV
  have h1 := takeL_lt ((bs.map fun n : Nat => (n : Int)).take 8) (fun x hx => by obtain ⟨n, hn, rfl⟩ := List.mem_map.1 (List.mem_of_mem_take hx); have := h n hn; omega)
  have h2 : ((bs.map fun n : Nat => (n : Int)).take 8).length = 4 := by simp [hl]
  rw [h2] at h1
  exact h1
/-- The place that Part takes. -/
def partP (bs : List Nat) (size taken : Nat) (wrong : Bool) : Nat := tk (fixB bs size taken 4 wrong)
/-- Is something wrong behind Part? -/
def partW (bs : List Nat) (size taken : Nat) (ps : List Nat) (wrong : Bool) : Bool := fixW size taken 4 wrong || !folB bs size ps (partP bs size taken wrong)
def partS (bs : List Nat) (size taken : Nat) (ps : List Nat) (wrong : Bool) : List Nat := if partW bs size taken ps wrong then ps else ps ++ [partP bs size taken wrong]
theorem Rd.grow {w w' : World} {g : Nat} {S T : Nat → Prop} {bs : List Nat} {size taken : Nat} {ps : List Nat} {wrong : Bool} (h : Rd w g S bs size taken ps wrong) (hST : ∀ k, S k → T k) (hg : ¬ T g) (hl : ∀ k, T k → k < w.heap.size) : Rd w g T bs size taken ps wrong := by
  obtain ⟨⟨v, q, h1, h2, h3, h4⟩, h5, h6, h7, h8⟩ := h
  exact ⟨⟨v, q, h1, h2, h3.mono hST, h4.mono hST⟩, hg, hl, h7, h8⟩
theorem Rd.more {w w' : World} {g : Nat} {S : Nat → Prop} {bs : List Nat} {size taken : Nat} {ps : List Nat} {wrong : Bool} (h : Rd w' g S bs size taken ps wrong) (hl : ∀ k, S k → k < w.heap.size) (hg : g < w.heap.size) (hs : w.heap.size ≤ w'.heap.size) : Rd w' g (more S w w') bs size taken ps wrong :=
  h.grow (w' := w') (fun k a => .inl a) (fun a => by rcases a with a | a; exact h.out a; omega) (fun k a => by rcases a with a | a; exact Nat.lt_of_lt_of_le (hl k a) hs; exact a.2)

set_option maxHeartbeats 1000000 in
theorem rpart_any {g : Nat} {S : Nat → Prop} {bs : List Nat} {size taken : Nat} {ps : List Nat} {wrong : Bool} (w : World) (h : Rd w g S bs size taken ps wrong) (hs : size ≤ 4611686018427387904) (hl : bs.length ≤ 140737488355328) (hp : ps.length < 2147483647) :
    Calls Try.prog 16 #[.pointer (some ⟨g, 0, none⟩)] w fun e w' => (∃ u, e = .returned u) ∧ Rd w' g (more S w w') bs size (fixT size taken 4 wrong) (partS bs size taken ps wrong) (partW bs size taken ps wrong) ∧ w.grownBy w' (some g) := by
  have hgl := h.gt
  have hSl := h.lt
  have hSo := h.out
  have hb4 := fixB_byte h.byte size taken 4 wrong
  have hpl : partP bs size taken wrong < 4294967296 := tk_lt4 _ hb4 (fixB_length h.ts h.ok)
  go_enter Try.func16, Try.ntmps16
  go_wp2_with fail
  refine (fixed_any 4 w h (by decide) hs hl).mono ?_
  rintro e w1 ⟨v, rfl, r1, r2, r3⟩
  have I := hid (r1.isB hb4)
  have s1 := r3.size
  have X := hid (And.intro r2 r3)
  clear r1 r2 r3 h
  go_wp2_with fail
  refine (take_isB _ _ _ I.out).mono ?_
  rintro e w2 ⟨rfl, rfl⟩
  rw [show tk (fixB bs size taken 4 wrong) = partP bs size taken wrong from rfl]
  obtain ⟨pl, hpe⟩ : ∃ pl, partP bs size taken wrong = pl := ⟨_, rfl⟩
  have HE := hid hpe
  rw [hpe] at hpl ⊢
  clear hpe I hb4
  go_wp2_with fail
  refine (follows_any pl _ X.out.1 (by omega)).mono ?_
  rintro e w3 ⟨rfl, rfl⟩
  obtain ⟨fb, hfe⟩ : ∃ fb, folB bs size ps pl = fb := ⟨_, rfl⟩
  have HF := hid hfe
  rw [hfe]
  clear hfe
  obtain ⟨wr1, hwe⟩ : ∃ x, fixW size taken 4 wrong = x := ⟨_, rfl⟩
  have HWW := hid hwe
  rw [hwe] at X
  clear hwe
  have hPW : partW bs size taken ps wrong = (wr1 || !fb) := by rw [partW, HWW.out, HE.out, HF.out]
  cases fb
  · have HP := hid (show partW bs size taken ps wrong = true from by rw [hPW]; simp)
    clear hPW
    go_wp2_with fail
    refine (fail_any _ X.out.1).mono ?_
    rintro e w3 ⟨⟨u, rfl⟩, r4, r5, _⟩
    obtain ⟨_, _, _, _, _, _, _, _, d5, _⟩ := r4.cells
    have s5 := r5.size
    have Y := hid (And.intro r4 (grown_trans X.out.2 r5))
    clear r4 r5
    go_wp2
    go_end0
    rw [partS, HP.out, if_pos rfl]
    exact ⟨⟨_, rfl⟩, Y.out.1.more hSl hgl Y.out.2.size, Y.out.2⟩
  · cases wr1
    · have HP := hid (show partW bs size taken ps wrong = false from by rw [hPW]; simp)
      clear hPW
      have hok := X.out.1.ok rfl
      have hts := X.out.1.ts
      obtain ⟨ao, cap, q, c0, c1, c2, c3, c4, c5, ⟨f2, f3, f4, f5⟩, hIs, hin, hch, hg1⟩ := X.out.1.cells
      have HX := hid (And.intro hIs (And.intro hin (And.intro hch hg1)))
      clear hIs hin hch hg1 c1 c2 f2 f5
      have hok := hid hok
      go_wp2_with fail
      refine (withI_any ps.length q pl _ (by omega)).mono ?_
      rintro e w4 ⟨b, hb, rfl, hw4, B4⟩
      have s4 := B4.size
      have k3 := (B4.cell (p := ⟨g, 3, none⟩) (by show g < _; omega)).trans c3
      have k4 := (B4.cell (p := ⟨g, 4, none⟩) (by show g < _; omega)).trans c4
      have kf3 := (B4.frozen (p := ⟨g, 3, none⟩) (by show g < _; omega)).trans f3
      have kf4 := (B4.frozen (p := ⟨g, 4, none⟩) (by show g < _; omega)).trans f4
      have Y := hid (And.intro hw4 B4)
      clear hw4 B4 c3 c4 c5 f3 f4
      go_wp2
      go_end0
      obtain ⟨hw4, B4⟩ := Y.out
      obtain ⟨hIs, hin, hch, hg1⟩ := HX.out
      obtain ⟨W, hW⟩ : ∃ W, (w4.setCell ⟨g, 3, none⟩ (.int .i64 ((ps.length : Int) + 1))).setCell ⟨g, 4, none⟩ (.pointer (some ⟨b, 0, none⟩)) = W := ⟨_, rfl⟩
      have hz : W.heap.size = w4.heap.size := by rw [← hW]; simp [World.setCell]
      have hoth : ∀ k, k ≠ g → W.heap[k]? = w4.heap[k]? := fun k hk => by rw [← hW]; exact (heap_setCell_other _ ⟨g, 4, none⟩ k _ hk).trans (heap_setCell_other _ ⟨g, 3, none⟩ k _ hk)
      have hgW : W.heap[g]? = some (.cells #[.slice ao bs.length cap, .int .i64 (size : Nat), .int .i64 (fixT size taken 4 wrong : Nat), .int .i64 ((ps.length : Int) + 1), .pointer (some ⟨b, 0, none⟩), .bool false] 79 (0, 0)) := by
        rw [← hW]
        exact heap_setCell_same _ _ _ _ _ _ (heap_setCell_same _ _ _ _ _ _ ((B4.block g (by omega)).trans hg1))
      have hos : W.os = w4.os ∧ W.tape = w4.tape ∧ W.output = w4.output := by rw [← hW]; exact ⟨rfl, rfl, rfl⟩
      have hbl : b < w4.heap.size := (Array.getElem?_eq_some_iff.1 hw4).1
      have G1 := X.out.2
      have old : ∀ k, k < w3.heap.size → k ≠ g → W.heap[k]? = w3.heap[k]? := fun k h1 h2 => (hoth k h2).trans (B4.block k h1)
      rw [hW, partS, HP.out]
      simp only [Bool.false_eq_true, if_false]
      rw [HE.out]
      refine ⟨⟨_, rfl⟩, ⟨⟨_, some ⟨b, 0, none⟩, ?_, hIs.keepS (S := S) hin (fun k a hk => old k hk (fun e => hSo (e ▸ a))), inBlk.mono hin (fun k a => .inl a), ?_⟩, ?_, ?_, hts, fun _ => hok.out⟩, ?_⟩
      · rw [List.length_append]
        exact hgW
      · rw [List.reverse_append]
        exact ⟨b, q, rfl, .inr ⟨by omega, by omega⟩, (hoth b (by omega)).trans hw4, (hch.keepS (S := S) (fun k a hk => old k hk (fun e => hSo (e ▸ a)))).mono fun k a => .inl a⟩
      · rintro (a | a)
        · exact hSo a
        · omega
      · rintro k (a | a)
        · have := hSl k a; omega
        · exact a.2
      · exact ⟨hos.1.trans (B4.os.trans G1.os), hos.2.1.trans (B4.tape.trans G1.tape), hos.2.2.trans (B4.output.trans G1.output), by omega, fun k hk hne => (old k (by omega) (fun e => hne (by rw [e]))).trans (G1.block k hk hne)⟩
    · have HP := hid (show partW bs size taken ps wrong = true from by rw [hPW]; simp)
      clear hPW
      obtain ⟨_, _, _, _, _, _, _, _, d5, _⟩ := X.out.1.cells
      go_wp2
      go_end0
      rw [partS, HP.out, if_pos rfl]
      exact ⟨⟨_, rfl⟩, X.out.1.more hSl hgl s1, X.out.2⟩
end Go.Proofs.Ytckmdofmplkdfaa
