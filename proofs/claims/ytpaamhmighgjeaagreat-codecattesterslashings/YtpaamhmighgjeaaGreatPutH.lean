/- The put of a Header and of an Eth. -/
import Derived.Test.YtpaamhmighgjeaaGreatPutV
namespace Go.Proofs.YtpaamhmighgjeaaGreat
open Go.RowKit Go.Shelf
set_option linter.unusedVariables false
set_option maxRecDepth 100000

def hdC (sl pr : Nat) (a b c : List Nat) : List Value := [.int .u64 (sl : Nat), .int .u64 (pr : Nat)] ++ (cellsB a ++ (cellsB b ++ (cellsB c ++ [])))
def hdF (sl pr : Nat) (a b c : List Nat) : List (List Nat × Bool) := numF [sl, pr] ++ rootF [a, b, c]
theorem hdC_2 (sl pr : Nat) (a b c : List Nat) (j : Nat) (v : Value) (h : (cellsB a)[j]? = some v) : (hdC sl pr a b c)[2 + j]? = some v := get_mid rfl h
theorem hdC_34 (sl pr : Nat) (a b c : List Nat) (ha : a.length = 32) (j : Nat) (v : Value) (h : (cellsB b)[j]? = some v) : (hdC sl pr a b c)[34 + j]? = some v := by
  have e : hdC sl pr a b c = ([.int .u64 (sl : Nat), .int .u64 (pr : Nat)] ++ cellsB a) ++ (cellsB b ++ (cellsB c ++ [])) := by unfold hdC; rw [List.append_assoc]
  rw [e]; exact get_mid (by simp [cellsB_length, ha]) h
theorem hdC_66 (sl pr : Nat) (a b c : List Nat) (ha : a.length = 32) (hb : b.length = 32) (j : Nat) (v : Value) (h : (cellsB c)[j]? = some v) : (hdC sl pr a b c)[66 + j]? = some v := by
  have e : hdC sl pr a b c = ([.int .u64 (sl : Nat), .int .u64 (pr : Nat)] ++ (cellsB a ++ cellsB b)) ++ (cellsB c ++ []) := by unfold hdC; simp only [List.append_assoc]
  rw [e]; exact get_mid (by simp [cellsB_length, ha, hb]) h
theorem hdC_length (sl pr : Nat) (a b c : List Nat) (ha : a.length = 32) (hb : b.length = 32) (hc : c.length = 32) : (hdC sl pr a b c).length = 98 := by simp [hdC, cellsB_length, ha, hb, hc]

set_option maxHeartbeats 2000000 in
theorem putHd_any (g : Nat) (S : Nat → Prop) (fs : List (List Nat × Bool)) (sl pr : Nat) (a b c : List Nat) (w : World) (hW : Wr w g S fs) (hn : fs.length + 5 < 2147483647) (h1 : sl < 18446744073709551616) (h2 : pr < 18446744073709551616) (ha : a.length = 32) (ha8 : ∀ z ∈ a, z < 256) (hb : b.length = 32) (hb8 : ∀ z ∈ b, z < 256) (hc : c.length = 32) (hc8 : ∀ z ∈ c, z < 256) :
    Calls Tryz.prog 51 #[.pointer (some ⟨g, 0, none⟩), .agg (hdC sl pr a b c).toArray] w fun x w' => (∃ u, x = .returned u) ∧ Wr w' g (more S w w') (fs ++ hdF sl pr a b c) ∧ w.grownBy w' (some g) := by
  have hg := hW.gt
  have hS := hW.out
  have hl := hW.lt
  have hW0 : Wr w g (more S w w) fs := hW.grow (fun k a => .inl a) (fun a => by rcases a with a | a; exact hS a; omega) (fun k a => by rcases a with a | a; exact hl k a; omega)
  have HW := hid hW0
  have HA := hid (And.intro ha ha8)
  have HBB := hid (And.intro hb hb8)
  have HCC := hid (And.intro hc hc8)
  clear hW hW0 ha ha8 hb hb8 hc hc8
  go_enter Tryz.func51, Tryz.ntmps51
  go_wp2_with (first
    | (refine wpList_box_c rfl 3 rfl (.tmp 1) rfl (hdC sl pr a b c) rfl ?_; intro w1 H1 B1 S1; have hc0 := H1.cell (j := 0) (v := .int .u64 (sl : Nat)) rfl; have hc1 := H1.cell (j := 1) (v := .int .u64 (pr : Nat)) rfl))
  have B2 : Below w1.heap.size w1 (w1.alloc (.cells #[.int .u64 (sl : Nat), .int .u64 (pr : Nat)] 23)) := (Below.refl _ w1).alloc (Nat.le_refl _) _
  have H2 := heap_alloc_new w1 (.cells #[.int .u64 (sl : Nat), .int .u64 (pr : Nat)] 23)
  have S2 := World.size_alloc w1 (.cells #[.int .u64 (sl : Nat), .int .u64 (pr : Nat)] 23)
  rw [S1] at H2
  generalize w1.alloc (.cells #[.int .u64 (sl : Nat), .int .u64 (pr : Nat)] 23) = w2 at B2 H2 S2 ⊢
  have W2 := hid ((HW.out.start B1 hg hS hl (Nat.le_refl _)).start (B2.mono (Nat.le_refl _)) hg hS hl (by omega))
  have B12 : Below w.heap.size w w2 := B1.trans (B2.mono (by omega))
  have HC := hid (num_wr g (more S w w2) fs [sl, pr] (w.heap.size + 1) 0 2 w2 W2.out (by omega) (by simp; omega) (by simpa using And.intro h1 h2) (fun i hi => by
    have : i = 0 ∨ i = 1 := by simp at hi; omega
    rcases this with rfl | rfl
    · exact cell_of_row w2 _ 0 _ _ (0, 0) H2
    · exact cell_of_row w2 _ 1 _ _ (0, 0) H2) (by simp))
  have HB := hid B12
  have HX := hid (H1.keep B2)
  have s2 : w2.heap.size = w.heap.size + 2 := by omega
  clear B1 B2 H2 S1 S2 H1 hc0 hc1 B12
  refine HC.out.mono ?_
  rintro x w3 ⟨⟨u3, rfl⟩, q1, q2⟩
  have s3 := q2.size
  have W3 := hid (Wr.next hg hS hl (by omega) s3 q1)
  have G3 := hid (grown_trans (grown_below (grown_refl w g) HB.out) q2)
  have X3 := hid (HX.out.grown q2 (by omega))
  clear q1 q2 HC W2 HX
  go_wp2_with (first
    | (refine wpList_load_mid rfl 25 (.tmp 12) rfl w.heap.size 2 (by exact rfl) (cellsB a) _ (X3.out.range 2 (cellsB a) (hdC_2 sl pr a b c)) Tryz.und25 rfl (by rw [cellsB_length, HA.out.1]; exact Tryz.size25) ?_)
    | (refine wpList_load_mid rfl 25 (.tmp 14) rfl w.heap.size 34 (by exact rfl) (cellsB b) _ (X3.out.range 34 (cellsB b) (hdC_34 sl pr a b c HA.out.1)) Tryz.und25 rfl (by rw [cellsB_length, HBB.out.1]; exact Tryz.size25) ?_)
    | (refine wpList_load_mid rfl 25 (.tmp 16) rfl w.heap.size 66 (by exact rfl) (cellsB c) _ (X3.out.range 66 (cellsB c) (hdC_66 sl pr a b c HA.out.1 HBB.out.1)) Tryz.und25 rfl (by rw [cellsB_length, HCC.out.1]; exact Tryz.size25) ?_)
    | (refine wpList_roots rfl 121 25 3 _ rfl Tryz.underlying121 Tryz.rootInfo [a, b, c] [.tmp 13, .tmp 15, .tmp 17] rfl rfl (by simpa using And.intro HA.out.1 (And.intro HBB.out.1 HCC.out.1)) rfl (by omega) (by omega) ?_; intro w4 H4 B4 S4))
  have W4 := hid (W3.out.start B4 hg hS hl (by omega))
  have HC := hid (roots_wr g (more S w w4) (fs ++ numF [sl, pr]) [a, b, c] w3.heap.size 0 3 w4 W4.out (by omega) (by simp [numF]; omega) (by simpa using And.intro HA.out.1 (And.intro HBB.out.1 HCC.out.1)) (by simpa using And.intro HA.out.2 (And.intro HBB.out.2 HCC.out.2)) (H4.rsAt (by simpa using And.intro HA.out.1 (And.intro HBB.out.1 HCC.out.1))) (by simp))
  have G4 := hid (grown_below G3.out B4)
  clear H4 B4
  refine HC.out.mono ?_
  rintro x w5 ⟨⟨u5, rfl⟩, q1, q2⟩
  have s5 := q2.size
  have W5 := hid (Wr.next hg hS hl (by omega) s5 q1)
  have G5 := hid (grown_trans G4.out q2)
  clear q1 q2 HC W4
  go_wp2
  go_end0
  refine ⟨⟨_, rfl⟩, ?_, G5.out⟩
  have := W5.out
  rw [List.append_assoc] at this
  exact this

def ethC (r : List Nat) (n : Nat) : List Value := cellsB r ++ [.int .u64 (n : Nat)]
def ethF (r : List Nat) (n : Nat) : List (List Nat × Bool) := rootF [r] ++ numF [n]
theorem ethC_length (r : List Nat) (n : Nat) (h : r.length = 32) : (ethC r n).length = 33 := by simp [ethC, cellsB_length, h]
theorem ethC_0 (r : List Nat) (n : Nat) (j : Nat) (v : Value) (h : (cellsB r)[j]? = some v) : (ethC r n)[0 + j]? = some v := by
  rw [Nat.zero_add]
  unfold ethC
  rw [List.getElem?_append_left (List.getElem?_eq_some_iff.1 h).1]; exact h
theorem ethC_32 (r : List Nat) (n : Nat) (h : r.length = 32) : (ethC r n)[32]? = some (.int .u64 (n : Nat)) := by
  unfold ethC
  rw [List.getElem?_append_right (by rw [cellsB_length, h]; exact Nat.le_refl _), cellsB_length, h]; rfl
set_option maxHeartbeats 2000000 in
theorem putEth_any (g : Nat) (S : Nat → Prop) (fs : List (List Nat × Bool)) (r : List Nat) (n : Nat) (w : World) (hW : Wr w g S fs) (hn : fs.length + 2 < 2147483647) (h1 : n < 18446744073709551616) (ha : r.length = 32) (ha8 : ∀ z ∈ r, z < 256) :
    Calls Tryz.prog 52 #[.pointer (some ⟨g, 0, none⟩), .agg (ethC r n).toArray] w fun x w' => (∃ u, x = .returned u) ∧ Wr w' g (more S w w') (fs ++ ethF r n) ∧ w.grownBy w' (some g) := by
  have hg := hW.gt
  have hS := hW.out
  have hl := hW.lt
  have hW0 : Wr w g (more S w w) fs := hW.grow (fun k a => .inl a) (fun a => by rcases a with a | a; exact hS a; omega) (fun k a => by rcases a with a | a; exact hl k a; omega)
  have HW := hid hW0
  have HA := hid (And.intro ha ha8)
  clear hW hW0 ha ha8
  go_enter Tryz.func52, Tryz.ntmps52
  go_wp2_with (first
    | (refine wpList_box_c rfl 3 rfl (.tmp 1) rfl (ethC r n) rfl ?_; intro w1 H1 B1 S1; have hc0 := H1.cell (ethC_32 r n HA.out.1))
    | (refine wpList_load_mid rfl 25 (.tmp 5) rfl w.heap.size 0 (by exact rfl) (cellsB r) _ (H1.range 0 (cellsB r) (ethC_0 r n)) Tryz.und25 rfl (by rw [cellsB_length, HA.out.1]; exact Tryz.size25) ?_)
    | (refine wpList_roots rfl 121 25 1 _ rfl Tryz.underlying121 Tryz.rootInfo [r] [.tmp 6] rfl rfl (by simpa using HA.out.1) rfl (by omega) (by omega) ?_; intro w2 H2 B2 S2; rw [S1] at H2 S2))
  have W2 := hid ((HW.out.start B1 hg hS hl (Nat.le_refl _)).start B2 hg hS hl (by omega))
  have HX := hid (H1.keep B2)
  have B12 := hid (B1.trans (B2.mono (by omega)))
  have HC := hid (roots_wr g (more S w w2) fs [r] (w.heap.size + 1) 0 1 w2 W2.out (by omega) (by simp; omega) (by simpa using HA.out.1) (by simpa using HA.out.2) (H2.rsAt (by simpa using HA.out.1)) (by simp))
  clear B1 B2 H2 H1 S1 hc0
  refine HC.out.mono ?_
  rintro x w3 ⟨⟨u3, rfl⟩, q1, q2⟩
  have s3 := q2.size
  have W3 := hid (Wr.next hg hS hl (by omega) s3 q1)
  have G3 := hid (grown_trans (grown_below (grown_refl w g) B12.out) q2)
  have X3 := HX.out.grown q2 (by omega)
  have hc3 := X3.cell (ethC_32 r n HA.out.1)
  clear q1 q2 HC W2 HX
  go_wp2_with fail
  have B4 : Below w3.heap.size w3 (w3.alloc (.cells #[.int .u64 (n : Nat)] 23)) := (Below.refl _ w3).alloc (Nat.le_refl _) _
  have H4 := heap_alloc_new w3 (.cells #[.int .u64 (n : Nat)] 23)
  have S4 := World.size_alloc w3 (.cells #[.int .u64 (n : Nat)] 23)
  generalize w3.alloc (.cells #[.int .u64 (n : Nat)] 23) = w4 at B4 H4 S4 ⊢
  have W4 := hid (W3.out.start B4 hg hS hl (by omega))
  have G4 := hid (grown_below G3.out B4)
  have HC := hid (num_wr g (more S w w4) (fs ++ rootF [r]) [n] w3.heap.size 0 1 w4 W4.out (by omega) (by simp [rootF]; omega) (by simpa using h1) (fun i hi => by
    have : i = 0 := by simpa using hi
    subst this
    exact cell_of_row w4 _ 0 _ _ (0, 0) H4) (by simp))
  clear B4 H4 hc3 X3
  refine HC.out.mono ?_
  rintro x w5 ⟨⟨u5, rfl⟩, q1, q2⟩
  have s5 := q2.size
  have W5 := hid (Wr.next hg hS hl (by omega) s5 q1)
  have G5 := hid (grown_trans G4.out q2)
  clear q1 q2 HC W4
  go_wp2
  go_end0
  refine ⟨⟨_, rfl⟩, ?_, G5.out⟩
  have := W5.out
  rw [List.append_assoc] at this
  exact this
end Go.Proofs.YtpaamhmighgjeaaGreat
