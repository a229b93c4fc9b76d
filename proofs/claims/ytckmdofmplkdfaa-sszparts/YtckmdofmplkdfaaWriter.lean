/- ssz's Writer: what it holds, put, Fixed, Part. -/
import Derived.Test.YtckmdofmplkdfaaChain
namespace Go.Proofs.Ytckmdofmplkdfaa
open Go.RowKit Go.Shelf
set_option linter.unusedVariables false

/-- The fields' slices read as these bytes, in S. -/
def Holds (S : Nat → Prop) (w : World) : List Fl → List (List Nat × Bool) → Prop
  | [], [] => True
  | f :: rs, x :: xs => f.any = x.2 ∧ IsB w (.slice f.ao f.n f.cap) x.1 ∧ inBlk S f.ao ∧ Holds S w rs xs
  | _, _ => False
theorem Holds.length {S : Nat → Prop} {w : World} : ∀ {rs : List Fl} {xs : List (List Nat × Bool)}, Holds S w rs xs → rs.length = xs.length
  | [], [], _ => rfl
  | f :: rs, x :: xs, h => by simp [Holds.length h.2.2.2]
  | [], _ :: _, h => h.elim
  | _ :: _, [], h => h.elim
theorem Holds.keepS {S : Nat → Prop} {w w' : World} (hk : ∀ k, S k → k < w.heap.size → w'.heap[k]? = w.heap[k]?) : ∀ {rs : List Fl} {xs : List (List Nat × Bool)}, Holds S w rs xs → Holds S w' rs xs
  | [], [], _ => trivial
  | f :: rs, x :: xs, h => ⟨h.1, h.2.1.keepS h.2.2.1 hk, h.2.2.1, Holds.keepS hk h.2.2.2⟩
  | [], _ :: _, h => h.elim
  | _ :: _, [], h => h.elim
theorem inBlk.mono {S T : Nat → Prop} {ao : Option Addr} (h : inBlk S ao) (hST : ∀ k, S k → T k) : inBlk T ao := by
  cases ao
  · exact trivial
  · exact hST _ h
theorem Holds.mono {S T : Nat → Prop} {w : World} (hST : ∀ k, S k → T k) : ∀ {rs : List Fl} {xs : List (List Nat × Bool)}, Holds S w rs xs → Holds T w rs xs
  | [], [], _ => trivial
  | f :: rs, x :: xs, h => ⟨h.1, h.2.1, h.2.2.1.mono hST, Holds.mono hST h.2.2.2⟩
  | [], _ :: _, h => h.elim
  | _ :: _, [], h => h.elim
theorem Holds.append {S : Nat → Prop} {w : World} : ∀ {rs rs' : List Fl} {xs xs' : List (List Nat × Bool)}, Holds S w rs xs → Holds S w rs' xs' → Holds S w (rs ++ rs') (xs ++ xs')
  | [], _, [], _, _, k => k
  | f :: rs, _, x :: xs, _, h, k => ⟨h.1, h.2.1, h.2.2.1, Holds.append h.2.2.2 k⟩
  | [], _, _ :: _, _, h, _ => h.elim
  | _ :: _, _, [], _, h, _ => h.elim
theorem Holds.reverse {S : Nat → Prop} {w : World} : ∀ {rs : List Fl} {xs : List (List Nat × Bool)}, Holds S w rs xs → Holds S w rs.reverse xs.reverse
  | [], [], _ => trivial
  | f :: rs, x :: xs, h => by rw [List.reverse_cons, List.reverse_cons]; exact Holds.append (Holds.reverse h.2.2.2) ⟨h.1, h.2.1, h.2.2.1, trivial⟩
  | [], _ :: _, h => h.elim
  | _ :: _, [], h => h.elim

/-- The Writer at block g has these fields; their memory lies in S. -/
structure Wr (w : World) (g : Nat) (S : Nat → Prop) (fs : List (List Nat × Bool)) : Prop where
  ex : ∃ rs q, w.heap[g]? = some (.cells #[.int .i64 ((fs.length : Nat) : Int), .pointer q] 47 (0, 0)) ∧ Chn S w (.pointer q) rs ∧ Holds S w rs fs.reverse
  out : ¬ S g
  lt : ∀ k, S k → k < w.heap.size
theorem Wr.keep {w w' : World} {g : Nat} {S : Nat → Prop} {fs : List (List Nat × Bool)} (h : Wr w g S fs) (hs : w.heap.size ≤ w'.heap.size) (hk : ∀ k, S k → w'.heap[k]? = w.heap[k]?) (hg : w'.heap[g]? = w.heap[g]?) : Wr w' g S fs := by
  obtain ⟨⟨rs, q, h1, h2, h3⟩, h4, h5⟩ := h
  exact ⟨⟨rs, q, hg.trans h1, h2.keepS fun k a _ => hk k a, h3.keepS fun k a _ => hk k a⟩, h4, fun k a => Nat.lt_of_lt_of_le (h5 k a) hs⟩
theorem Wr.below {w w' : World} {g : Nat} {S : Nat → Prop} {fs : List (List Nat × Bool)} (h : Wr w g S fs) (hb : Below w.heap.size w w') : Wr w' g S fs :=
  h.keep hb.size (fun k a => hb.block k (h.lt k a)) (hb.block g (by obtain ⟨⟨_, _, h1, _⟩, _⟩ := h; exact (Array.getElem?_eq_some_iff.1 h1).1))
/-- What was, and the blocks from w's end up to w's successor's. -/
def more (S : Nat → Prop) (w w' : World) : Nat → Prop := fun k => S k ∨ (w.heap.size ≤ k ∧ k < w'.heap.size)

set_option maxRecDepth 100000 in
set_option maxHeartbeats 1000000 in
theorem put_wr (g : Nat) (S : Nat → Prop) (fs : List (List Nat × Bool)) (v : Value) (bs : List Nat) (any : Bool) (w : World) (hW : Wr w g S fs) (hB : IsB w v bs) (hn : fs.length < 2147483647) (hlen : bs.length ≤ 140737488355328) :
    Calls Try.prog 26 #[.pointer (some ⟨g, 0, none⟩), .agg #[v, .bool any]] w fun e w' => (∃ u, e = .returned u) ∧ Wr w' g (more S w w') (fs ++ [(bs, any)]) ∧ w.grownBy w' (some g) := by
  have hB' := hB
  obtain ⟨⟨ao, cap, rfl, _⟩, _⟩ := hB
  obtain ⟨⟨rs, q, hg, hC, hH⟩, ho, hlt⟩ := hW
  have hgl : g < w.heap.size := (Array.getElem?_eq_some_iff.1 hg).1
  have BA : Below w.heap.size w (w.alloc (.cells #[.slice ao bs.length cap, .bool any] 67)) := (Below.refl _ w).alloc (Nat.le_refl _) _
  have hBA := hB'.keep BA
  go_enter Try.func26, Try.ntmps26
  go_wp2_with fail
  refine (clone_any _ bs _ hBA hlen).mono ?_
  rintro e w1 ⟨v1, rfl, R1, B1⟩
  have I1 := R1.isB hB'.by8
  have J1 := R1.inS
  have S1 := B1.size
  rw [World.size_alloc] at S1 J1 B1
  obtain ⟨⟨ao1, cap1, rfl, c1, c2, c3, c4⟩, c5⟩ := I1
  have hx : w1.heap[w.heap.size]? = some (.cells #[.slice ao bs.length cap, .bool any] 67 (0, 0)) := (B1.block _ (by omega)).trans (heap_alloc_new w _)
  have L1 : Below w.heap.size w w1 := BA.trans (B1.mono (by omega))
  have hg1 := (L1.block g hgl).trans hg
  have x0 : w1.cell? ⟨w.heap.size, 0, none⟩ = some (.slice ao bs.length cap) := cell_of_row w1 _ 0 _ _ (0, 0) hx
  have x1 : w1.cell? ⟨w.heap.size, 1, none⟩ = some (.bool any) := cell_of_row w1 _ 1 _ _ (0, 0) hx
  have x2 := frozen_of_row w1 w.heap.size 0 _ _ hx
  have g0 : w1.cell? ⟨g, 0, none⟩ = some (.int .i64 ((fs.length : Nat) : Int)) := cell_of_row w1 _ 0 _ _ (0, 0) hg1
  have g1 : w1.cell? ⟨g, 1, none⟩ = some (.pointer q) := cell_of_row w1 _ 1 _ _ (0, 0) hg1
  have g2 := frozen_of_row w1 g 0 _ _ hg1
  have g3 := frozen_of_row w1 g 1 _ _ hg1
  have hne : ¬ g = w.heap.size := by omega
  have hne' : ¬ w.heap.size = g := by omega
  have HX := hid hx
  have HG := hid hg1
  have HR := hid R1
  clear hx hg hg1 R1
  go_wp2_with fail
  have HWith := hid (fun W => withF_any fs.length q ⟨ao1, bs.length, cap1, any⟩ W (by omega))
  refine wp_mono (Q := fun e a' w' => e = .normal ∧ a'.defers = [] ∧ ∃ b w3, w1.heap.size ≤ b ∧ w3.heap[b]? = some (.cells #[.pointer q, .slice ao1 bs.length cap1, .bool any] 91 (0, 0)) ∧ Below w1.heap.size (w1.setCell ⟨w.heap.size, 0, none⟩ (.slice ao1 bs.length cap1)) w3 ∧ w' = (w3.setCell ⟨g, 0, none⟩ (.int .i64 ((fs.length + 1 : Nat) : Int))).setCell ⟨g, 1, none⟩ (.pointer (some ⟨b, 0, none⟩))) ?_ ?_
  · have hs1 : (w1.setCell ⟨w.heap.size, 0, none⟩ (.slice ao1 bs.length cap1)).drew.heap.size = w1.heap.size := by simp [World.drew, World.setCell]
    have HKk : Hid (∀ w3, Below (w1.setCell ⟨w.heap.size, 0, none⟩ (.slice ao1 bs.length cap1)).drew.heap.size (w1.setCell ⟨w.heap.size, 0, none⟩ (.slice ao1 bs.length cap1)).drew w3 → w3.heap[g]? = some (.cells #[.int .i64 ((fs.length : Nat) : Int), .pointer q] 47 (0, 0)) ∧ Below w1.heap.size (w1.setCell ⟨w.heap.size, 0, none⟩ (.slice ao1 bs.length cap1)) w3) := by
      intro w3 h
      rw [hs1] at h
      exact ⟨(h.block g (by omega)).trans ((heap_setCell_other w1 ⟨w.heap.size, 0, none⟩ g _ hne).trans HG.out), ⟨h.os, h.tape, h.output, h.size, h.block⟩⟩
    have HS := hid hs1
    clear hs1
    go_region_law (go_simp; go_at_call 40; refine (HWith.out _).mono ?_; rintro e w3 ⟨b, hb, rfl, hw3, B3⟩; have k1 := (HKk.out _ B3).1; have k2 : w3.cell? ⟨g, 0, none⟩ = some (.int .i64 ((fs.length : Nat) : Int)) := cell_of_row w3 _ 0 _ _ (0, 0) k1; have k3 : w3.cell? ⟨g, 1, none⟩ = some (.pointer q) := cell_of_row w3 _ 1 _ _ (0, 0) k1; have k4 := frozen_of_row w3 g 0 _ _ k1; have k5 := frozen_of_row w3 g 1 _ _ k1; have K2 := hid hw3; replace hb := hid hb; replace B3 := hid B3; clear k1 hw3)
    all_goals exact ⟨rfl, rfl, b, w3, by have := hb.out; rw [HS.out] at this; exact this, K2.out, (HKk.out _ B3.out).2, rfl⟩
  · rintro _ a' w4 ⟨rfl, hd, b, w3, hb, hw3, B3, hw4⟩
    have HW4 : Same _ _ := ⟨hw4⟩
    clear hw4
    go_wp2
    obtain rfl := HW4.out
    refine bodyPost_end (results_none rfl _ _ _) hd ?_
    have hgw : w3.heap[g]? = some (.cells #[.int .i64 ((fs.length : Nat) : Int), .pointer q] 47 (0, 0)) := (B3.block g (by omega)).trans ((heap_setCell_other w1 ⟨w.heap.size, 0, none⟩ g _ hne).trans HG.out)
    have s3 := B3.size
    have hz1 : (w1.setCell ⟨w.heap.size, 0, none⟩ (.slice ao1 bs.length cap1)).heap.size = w1.heap.size := by simp [World.setCell]
    rw [hz1] at s3
    have hg4 : ((w3.setCell ⟨g, 0, none⟩ (.int .i64 ((fs.length + 1 : Nat) : Int))).setCell ⟨g, 1, none⟩ (.pointer (some ⟨b, 0, none⟩))).heap[g]? = some (.cells #[.int .i64 ((fs.length + 1 : Nat) : Int), .pointer (some ⟨b, 0, none⟩)] 47 (0, 0)) :=
      heap_setCell_same _ _ _ _ _ _ (heap_setCell_same _ _ _ _ _ _ hgw)
    have hz4 : ((w3.setCell ⟨g, 0, none⟩ (.int .i64 ((fs.length + 1 : Nat) : Int))).setCell ⟨g, 1, none⟩ (.pointer (some ⟨b, 0, none⟩))).heap.size = w3.heap.size := by simp [World.setCell]
    have ho4 : ∀ k, k ≠ g → ((w3.setCell ⟨g, 0, none⟩ (.int .i64 ((fs.length + 1 : Nat) : Int))).setCell ⟨g, 1, none⟩ (.pointer (some ⟨b, 0, none⟩))).heap[k]? = w3.heap[k]? := fun k hk => (heap_setCell_other _ ⟨g, 1, none⟩ k _ hk).trans (heap_setCell_other _ ⟨g, 0, none⟩ k _ hk)
    have hos : ((w3.setCell ⟨g, 0, none⟩ (.int .i64 ((fs.length + 1 : Nat) : Int))).setCell ⟨g, 1, none⟩ (.pointer (some ⟨b, 0, none⟩))).os = w3.os ∧ ((w3.setCell ⟨g, 0, none⟩ (.int .i64 ((fs.length + 1 : Nat) : Int))).setCell ⟨g, 1, none⟩ (.pointer (some ⟨b, 0, none⟩))).tape = w3.tape ∧ ((w3.setCell ⟨g, 0, none⟩ (.int .i64 ((fs.length + 1 : Nat) : Int))).setCell ⟨g, 1, none⟩ (.pointer (some ⟨b, 0, none⟩))).output = w3.output := ⟨rfl, rfl, rfl⟩
    generalize ((w3.setCell ⟨g, 0, none⟩ (.int .i64 ((fs.length + 1 : Nat) : Int))).setCell ⟨g, 1, none⟩ (.pointer (some ⟨b, 0, none⟩))) = W4 at *
    have hbl : b < w3.heap.size := (Array.getElem?_eq_some_iff.1 hw3).1
    have old1 : ∀ k, k < w1.heap.size → k ≠ g → k ≠ w.heap.size → W4.heap[k]? = w1.heap[k]? := fun k h1 h2 h3 => (ho4 k h2).trans ((B3.block k h1).trans (heap_setCell_other w1 ⟨w.heap.size, 0, none⟩ k _ h3))
    have old : ∀ k, k < w.heap.size → k ≠ g → W4.heap[k]? = w.heap[k]? := fun k h1 h2 => (old1 k (by omega) h2 (by omega)).trans (L1.block k h1)
    refine ⟨⟨_, rfl⟩, ⟨⟨⟨ao1, bs.length, cap1, any⟩ :: rs, some ⟨b, 0, none⟩, by rw [List.length_append]; exact hg4, ⟨b, q, rfl, .inr ⟨by omega, by omega⟩, (ho4 b (by omega)).trans hw3, (hC.keepS fun k a hk => old k hk (fun e => ho (e ▸ a))).mono fun k a => .inl a⟩, ?_⟩, ?_, ?_⟩, ⟨hos.1.trans (B3.os.trans L1.os), hos.2.1.trans (B3.tape.trans L1.tape), hos.2.2.trans (B3.output.trans L1.output), by omega, fun k hk hne => old k hk (fun e => hne (by rw [e]))⟩⟩
    · rw [List.reverse_append]
      refine ⟨rfl, IsB.keepS (S := fun k => w.heap.size + 1 ≤ k ∧ k < w1.heap.size) ⟨⟨ao1, cap1, rfl, c1, c2, c3, c4⟩, c5⟩ J1 (fun k a _ => old1 k a.2 (by omega) (by omega)), ?_, (hH.keepS fun k a hk => old k hk (fun e => ho (e ▸ a))).mono fun k a => .inl a⟩
      exact inBlk.mono (S := fun k => w.heap.size + 1 ≤ k ∧ k < w1.heap.size) J1 fun k a => .inr ⟨by omega, by omega⟩
    · rintro (h | ⟨h, _⟩)
      · exact ho h
      · omega
    · rintro k (h | ⟨_, h⟩)
      · have := hlt k h; omega
      · exact h

set_option maxRecDepth 100000 in
set_option maxHeartbeats 1000000 in
theorem fixed_wr (g : Nat) (S : Nat → Prop) (fs : List (List Nat × Bool)) (v : Value) (bs : List Nat) (w : World) (hW : Wr w g S fs) (hB : IsB w v bs) (hn : fs.length < 2147483647) (hlen : bs.length ≤ 140737488355328) :
    Calls Try.prog 24 #[.pointer (some ⟨g, 0, none⟩), v] w fun e w' => (∃ u, e = .returned u) ∧ Wr w' g (more S w w') (fs ++ [(bs, false)]) ∧ w.grownBy w' (some g) := by
  have HP := put_wr g S fs v bs false w hW hB hn hlen
  obtain ⟨⟨ao, cap, rfl, _⟩, _⟩ := hB
  have HP := hid HP
  go_enter Try.func24, Try.ntmps24
  go_wp2_with fail
  refine HP.out.mono ?_
  rintro e w1 ⟨⟨u, rfl⟩, h1, h2⟩
  go_wp2
  go_end0
  exact ⟨⟨_, rfl⟩, h1, h2⟩
set_option maxRecDepth 100000 in
set_option maxHeartbeats 1000000 in
theorem part_wr (g : Nat) (S : Nat → Prop) (fs : List (List Nat × Bool)) (v : Value) (bs : List Nat) (w : World) (hW : Wr w g S fs) (hB : IsB w v bs) (hn : fs.length < 2147483647) (hlen : bs.length ≤ 140737488355328) :
    Calls Try.prog 10 #[.pointer (some ⟨g, 0, none⟩), v] w fun e w' => (∃ u, e = .returned u) ∧ Wr w' g (more S w w') (fs ++ [(bs, true)]) ∧ w.grownBy w' (some g) := by
  have HP := put_wr g S fs v bs true w hW hB hn hlen
  obtain ⟨⟨ao, cap, rfl, _⟩, _⟩ := hB
  have HP := hid HP
  go_enter Try.func10, Try.ntmps10
  go_wp2_with fail
  refine HP.out.mono ?_
  rintro e w1 ⟨⟨u, rfl⟩, h1, h2⟩
  go_wp2
  go_end0
  exact ⟨⟨_, rfl⟩, h1, h2⟩
end Go.Proofs.Ytckmdofmplkdfaa
