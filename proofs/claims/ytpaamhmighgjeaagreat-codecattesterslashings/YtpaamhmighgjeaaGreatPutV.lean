/- Votes put. -/
import Derived.Test.YtpaamhmighgjeaaGreatPut5
namespace Go.Proofs.YtpaamhmighgjeaaGreat
open Go.RowKit Go.Shelf
set_option linter.unusedVariables false
set_option maxRecDepth 100000

theorem get_mid {pre mid post : List Value} {n j : Nat} {v : Value} (hn : pre.length = n) (h : mid[j]? = some v) : (pre ++ (mid ++ post))[n + j]? = some v := by
  have hj := (List.getElem?_eq_some_iff.1 h).1
  rw [List.getElem?_append_right (by omega), hn, Nat.add_sub_cancel_left, List.getElem?_append_left hj]
  exact h
/-- A Vote's cells. -/
def vtC (sl ix : Nat) (b : List Nat) (es : Nat) (rs : List Nat) (et : Nat) (rt : List Nat) : List Value := [.int .u64 (sl : Nat), .int .u64 (ix : Nat)] ++ (cellsB b ++ (cpC es rs ++ (cpC et rt ++ [])))
def vtF (sl ix : Nat) (b : List Nat) (es : Nat) (rs : List Nat) (et : Nat) (rt : List Nat) : List (List Nat × Bool) := numF [sl, ix] ++ (rootF [b] ++ (cpF es rs ++ cpF et rt))
theorem vtC_src (sl ix : Nat) (b : List Nat) (es : Nat) (rs : List Nat) (et : Nat) (rt : List Nat) : vtC sl ix b es rs et rt = ([.int .u64 (sl : Nat), .int .u64 (ix : Nat)] ++ cellsB b) ++ (cpC es rs ++ cpC et rt) := by simp [vtC]
theorem vtC_tgt (sl ix : Nat) (b : List Nat) (es : Nat) (rs : List Nat) (et : Nat) (rt : List Nat) : vtC sl ix b es rs et rt = ([.int .u64 (sl : Nat), .int .u64 (ix : Nat)] ++ (cellsB b ++ cpC es rs)) ++ (cpC et rt ++ []) := by simp [vtC]

set_option maxHeartbeats 1000000 in
theorem putVt_any (g : Nat) (S : Nat → Prop) (fs : List (List Nat × Bool)) (sl ix : Nat) (b : List Nat) (es : Nat) (rs : List Nat) (et : Nat) (rt : List Nat) (w : World) (hW : Wr w g S fs) (hn : fs.length + 7 < 2147483647) (h1 : sl < 18446744073709551616) (h2 : ix < 18446744073709551616) (hb : b.length = 32) (hb8 : ∀ z ∈ b, z < 256)
    (hes : es < 18446744073709551616) (hrs : rs.length = 32) (hrs8 : ∀ z ∈ rs, z < 256) (het : et < 18446744073709551616) (hrt : rt.length = 32) (hrt8 : ∀ z ∈ rt, z < 256) :
    Calls Tryz.prog 28 #[.pointer (some ⟨g, 0, none⟩), .agg (vtC sl ix b es rs et rt).toArray] w fun x w' => (∃ u, x = .returned u) ∧ Wr w' g (more S w w') (fs ++ vtF sl ix b es rs et rt) ∧ w.grownBy w' (some g) := by
  have hg := hW.gt
  have hS := hW.out
  have hl := hW.lt
  have hW0 : Wr w g (more S w w) fs := hW.grow (fun k a => .inl a) (fun a => by rcases a with a | a; exact hS a; omega) (fun k a => by rcases a with a | a; exact hl k a; omega)
  have HW := hid hW0
  have HBB := hid (And.intro hb hb8)
  have HRS := hid (And.intro hrs hrs8)
  have HRT := hid (And.intro hrt hrt8)
  clear hW hW0 hb hb8 hrs hrs8 hrt hrt8
  go_enter Tryz.func28, Tryz.ntmps28
  go_wp2_with (first
    | (refine wpList_box_c rfl 3 rfl (.tmp 1) rfl (vtC sl ix b es rs et rt) rfl ?_; intro w1 H1 B1 S1; have hc0 := H1.cell (j := 0) (v := .int .u64 (sl : Nat)) rfl; have hc1 := H1.cell (j := 1) (v := .int .u64 (ix : Nat)) rfl))
  have B2 : Below w1.heap.size w1 (w1.alloc (.cells #[.int .u64 (sl : Nat), .int .u64 (ix : Nat)] 23)) := (Below.refl _ w1).alloc (Nat.le_refl _) _
  have H2 := heap_alloc_new w1 (.cells #[.int .u64 (sl : Nat), .int .u64 (ix : Nat)] 23)
  have S2 := World.size_alloc w1 (.cells #[.int .u64 (sl : Nat), .int .u64 (ix : Nat)] 23)
  rw [S1] at H2
  generalize w1.alloc (.cells #[.int .u64 (sl : Nat), .int .u64 (ix : Nat)] 23) = w2 at B2 H2 S2 ⊢
  have W2 := hid ((HW.out.start B1 hg hS hl (Nat.le_refl _)).start (B2.mono (Nat.le_refl _)) hg hS hl (by omega))
  have B12 : Below w.heap.size w w2 := B1.trans (B2.mono (by omega))
  have HC := hid (num_wr g (more S w w2) fs [sl, ix] (w.heap.size + 1) 0 2 w2 W2.out (by omega) (by simp; omega) (by simpa using And.intro h1 h2) (fun i hi => by
    have : i = 0 ∨ i = 1 := by simp at hi; omega
    rcases this with rfl | rfl
    · exact cell_of_row w2 _ 0 _ _ (0, 0) H2
    · exact cell_of_row w2 _ 1 _ _ (0, 0) H2) (by simp))
  have HB := hid B12
  have HX := hid (H1.keep B2)
  have s2 : w2.heap.size = w.heap.size + 2 := by omega
  clear B1 B2 H2 S1 S2 H1 hc0 hc1 B12
  refine HC.out.mono ?_
  rintro x w3 ⟨⟨u3, rfl⟩, q1, q2⟩
  have s3 := q2.size
  have W3 := hid (Wr.next hg hS hl (by omega) s3 q1)
  have G3 := hid (grown_trans (grown_below (grown_refl w g) HB.out) q2)
  have X3 := hid (HX.out.grown q2 (by omega))
  clear q1 q2 HC W2 HX
  go_wp2_with (first
    | (refine wpList_load_mid rfl 25 (.tmp 12) rfl w.heap.size 2 (by exact rfl) (cellsB b) _ (X3.out.range 2 (cellsB b) (fun j v hv => get_mid rfl hv)) Tryz.und25 rfl (by rw [cellsB_length, HBB.out.1]; exact Tryz.size25) ?_)
    | (refine wpList_roots rfl 121 25 1 _ rfl Tryz.underlying121 Tryz.rootInfo [b] [.tmp 13] rfl rfl (by simpa using HBB.out.1) rfl (by omega) (by omega) ?_; intro w4 H4 B4 S4))
  have W4 := hid (W3.out.start B4 hg hS hl (by omega))
  have HC := hid (roots_wr g (more S w w4) (fs ++ numF [sl, ix]) [b] w3.heap.size 0 1 w4 W4.out (by omega) (by simp [numF]; omega) (by simpa using HBB.out.1) (by simpa using HBB.out.2) (H4.rsAt (by simpa using HBB.out.1)) (by simp))
  have G4 := hid (grown_below G3.out B4)
  have X4 := hid (X3.out.keep B4)
  have s4 := B4.size
  clear H4 B4 S4
  refine HC.out.mono ?_
  rintro x w5 ⟨⟨u5, rfl⟩, q1, q2⟩
  have s5 := q2.size
  have W5 := hid (Wr.next hg hS hl (by omega) s5 q1)
  have G5 := hid (grown_trans G4.out q2)
  have X5 := hid (X4.out.grown q2 (by omega))
  clear q1 q2 HC W4 X4 G4 X3 G3
  go_wp2_with (first
    | (refine wpList_load_mid rfl 27 (.tmp 17) rfl w.heap.size 34 (by exact rfl) (cpC es rs) _ (X5.out.range 34 (cpC es rs) (fun j v hv => by rw [vtC_src]; exact get_mid (by simp [cellsB_length, HBB.out.1]) hv)) Tryz.underlying27 rfl (by rw [cpC_length _ HRS.out.1]; exact Tryz.ty27.size) ?_))
  have HC := hid (putCp_any g (more S w w5) _ es rs w5 W5.out (by simp [numF, rootF]; omega) hes HRS.out.1 HRS.out.2)
  refine HC.out.mono ?_
  rintro x w6 ⟨⟨u6, rfl⟩, q1, q2⟩
  have s6 := q2.size
  have W6 := hid (Wr.next hg hS hl (by omega) s6 q1)
  have G6 := hid (grown_trans G5.out q2)
  have X6 := hid (X5.out.grown q2 (by omega))
  clear q1 q2 HC W5 X5 G5
  go_wp2_with (first
    | (refine wpList_load_mid rfl 27 (.tmp 21) rfl w.heap.size 67 (by exact rfl) (cpC et rt) _ (X6.out.range 67 (cpC et rt) (fun j v hv => by rw [vtC_tgt]; exact get_mid (by simp [cellsB_length, HBB.out.1, cpC_length _ HRS.out.1]) hv)) Tryz.underlying27 rfl (by rw [cpC_length _ HRT.out.1]; exact Tryz.ty27.size) ?_))
  have HC := hid (putCp_any g (more S w w6) _ et rt w6 W6.out (by simp [numF, rootF, cpF]; omega) het HRT.out.1 HRT.out.2)
  refine HC.out.mono ?_
  rintro x w7 ⟨⟨u7, rfl⟩, q1, q2⟩
  have s7 := q2.size
  have W7 := hid (Wr.next hg hS hl (by omega) s7 q1)
  have G7 := hid (grown_trans G6.out q2)
  clear q1 q2 HC W6 X6 G6
  go_wp2
  go_end0
  refine ⟨⟨_, rfl⟩, ?_, G7.out⟩
  have := W7.out
  simp only [List.append_assoc] at this
  exact this
end Go.Proofs.YtpaamhmighgjeaaGreat
