/- SszLists: the list of numbers, its put and take. -/
import Derived.Test.YtelgjencpafnnaaCells
import Derived.Test.YtelgjencpafnnaaSplitC
import Derived.Test.YtelgjencpafnnaaEqF
import Derived.Test.YtelgjencpafnnaaBytesT
import Derived.Test.YtelgjencpafnnaaReaderQ
import Derived.Test.YtelgjencpafnnaaLenB
import Derived.Test.YtelgjencpafnnaaNew4
import Derived.Test.YtelgjencpafnnaaTkLe
namespace Go.Proofs.Ytelgjencpafnnaa
open Go.RowKit Go.Shelf
set_option linter.unusedVariables false
set_option linter.unusedSimpArgs false
set_option maxRecDepth 100000

theorem cell_keep {w w' : World} (hb : Below w.heap.size w w') {p : Addr} {v : Value} (h : w.cell? p = some v) : w'.cell? p = some v := (hb.cell (p := p) (block_lt_of_cell h)).trans h
/-- A slice of numbers. -/
structure IsN (w : World) (v : Value) (ns : List Nat) : Prop where
  ex : ∃ ao cap, v = .slice ao ns.length cap ∧ ns.length ≤ cap ∧ cap ≤ maxLen ∧ (ns.length = 0 ∨ ∃ b off, ao = some ⟨b, off, none⟩ ∧ ∀ i, i < ns.length → w.cell? ⟨b, off + i, none⟩ = some (.int .u64 (ns.getD i 0 : Nat)))
  by64 : ∀ n ∈ ns, n < 18446744073709551616
theorem IsN.keep {w w' : World} {v : Value} {ns : List Nat} (h : IsN w v ns) (hb : Below w.heap.size w w') : IsN w' v ns := by
  obtain ⟨⟨ao, cap, e, h1, h2, h3⟩, h4⟩ := h
  refine ⟨⟨ao, cap, e, h1, h2, ?_⟩, h4⟩
  rcases h3 with h3 | ⟨b, off, e2, hc⟩
  · exact .inl h3
  · exact .inr ⟨b, off, e2, fun i hi => (World.cell?_of_block (hb.block b (block_lt_of_cell (hc i hi)))).trans (hc i hi)⟩
/-- The bytes of numbers. -/
def bytesN (ns : List Nat) : List Nat := (ns.map fun n => le n 8).flatten
theorem cont_fixed : ∀ fs : List (List Nat × Bool), (∀ f ∈ fs, f.2 = false) → cont fs = (fs.map (·.1)).flatten := by
  intro fs h
  have hb : backB fs = [] := by
    unfold backB
    rw [List.flatMap_eq_nil_iff]
    intro f hf
    rw [h f hf]
    rfl
  have hf : ∀ (fs : List (List Nat × Bool)) (p : Nat), (∀ f ∈ fs, f.2 = false) → frontB p fs = (fs.map (·.1)).flatten := by
    intro fs
    induction fs with
    | nil => intro p _; rfl
    | cons f fs ih =>
      intro p h
      have h1 := h f (by simp)
      simp only [frontB, h1, List.map_cons, List.flatten_cons]
      simp only [Bool.false_eq_true, if_false]
      rw [ih _ (fun x hx => h x (List.mem_cons_of_mem _ hx))]
  unfold cont
  rw [hb, hf fs _ h, List.append_nil]
theorem cont_numF (ns : List Nat) : cont (numF ns) = bytesN ns := by
  rw [cont_fixed _ (by intro f hf; simp only [numF, List.mem_map] at hf; obtain ⟨n, _, rfl⟩ := hf; rfl)]
  simp [numF, bytesN, List.map_map, Function.comp_def]
theorem bytesN_length (ns : List Nat) : (bytesN ns).length = 8 * ns.length := by
  unfold bytesN
  induction ns with
  | nil => rfl
  | cons n ns ih => simp only [List.map_cons, List.flatten_cons, List.length_append, ih, le_length, List.length_cons]; omega
theorem bytesN_byte (ns : List Nat) : ∀ z ∈ bytesN ns, z < 256 := by
  intro z hz
  unfold bytesN at hz
  simp only [List.mem_flatten, List.mem_map] at hz
  obtain ⟨l, ⟨n, _, rfl⟩, h⟩ := hz
  exact le_byte n 8 z h
theorem lenF_numF (ns : List Nat) : lenF (numF ns) = 8 * ns.length := by
  induction ns with
  | nil => rfl
  | cons n ns ih => simp only [numF, lenF, List.map_cons, List.flatten_cons, List.length_append, List.sum_cons, le_length, List.length_cons] at ih ⊢; omega

/-- A list of numbers of at most so many. -/
def lsN (limit : Int) : List Value := [.int .i64 8, .int .i64 limit, .func (.func 7) #[] #[], .func (.func 9) #[] #[]]
theorem Try.ty39 : Ty Try.prog 39 [.int .i64 0, .int .i64 0, .nilFunc, .nilFunc] := ⟨by kernel_rfl, _, Try.underlying39, rfl⟩
theorem lsN_one (limit : Int) : (lsN limit).toArray.all (·.oneCell') = true := by simp [lsN, Value.oneCell']
theorem refput_le (i : Int) (n : Nat) (size : Nat) (h : i = (n : Int)) (hn : n < 18446744073709551616) (hs : size ≤ 2147483647) (w : World) :
    Calls Try.prog 8 #[.int .u64 i, .int .i64 (size : Nat)] w fun e w' => ∃ v, e = .returned v ∧ Row w' w.heap.size v (le n size) ∧ Below w.heap.size w w' := by
  subst h
  refine (refPut_any n (size : Int) hn (by omega) w).mono ?_
  rintro e w' ⟨v, rfl, h1, h2⟩
  refine ⟨v, rfl, ?_, h2⟩
  rw [Int.toNat_natCast, putL_le] at h1
  unfold Row
  rw [le_length]
  exact h1

theorem rtake_isB (v : Value) (bs : List Nat) (w : World) (h : IsB w v bs) :
    Calls Try.prog 10 #[v] w fun e w' => e = .returned (.int .u64 (tk bs : Nat)) ∧ w' = w := by
  obtain ⟨⟨ao, cap, rfl, h1, h2, h3, hR⟩, h8⟩ := h
  refine refTake_any ao bs.length cap (bs.map fun n : Nat => (n : Int)) w (by omega) ⟨by simp, fun z hz => ?_, ?_⟩
  · obtain ⟨n, hn, rfl⟩ := List.mem_map.1 hz; have := h8 n hn; omega
  · rcases hR with h | ⟨b, off, rfl, hc⟩
    · exact .inl h
    · refine .inr ⟨b, off, rfl, fun i hi => ?_⟩
      rw [hc i hi]
      simp [hi]
theorem num1_any (n : Nat) (w : World) (hn : n < 18446744073709551616) :
    Calls Try.prog 7 #[.int .u64 (n : Nat)] w fun x w' => ∃ v, x = .returned v ∧ Row w' w.heap.size v (le n 8) ∧ Below w.heap.size w w' := by
  have HD := hid (refput_le n n 8 rfl hn (by decide) w)
  go_enter Try.func7, Try.ntmps7
  go_wp2_with fail
  refine HD.out.mono ?_
  rintro e w5 ⟨v, rfl, R, B⟩
  have HB := hid (And.intro R B)
  clear R B
  go_wp2
  go_ret
  exact ⟨v, rfl, HB.out.1, HB.out.2⟩
theorem num2_any (v : Value) (xb : List Nat) (w : World) (hI : IsB w v xb) (h8 : xb.length = 8) :
    Calls Try.prog 9 #[v] w fun e w' => e = .returned (.tuple #[.int .u64 (tk xb : Nat), .int .i64 0]) ∧ Below w.heap.size w w' := by
  have HD := hid (rtake_isB v xb w hI)
  obtain ⟨⟨ao, cap, rfl, _⟩, _⟩ := hI
  obtain ⟨n, hn0⟩ : ∃ n, tk xb = n := ⟨_, rfl⟩
  rw [hn0] at HD ⊢
  clear hn0 h8
  go_enter Try.func9, Try.ntmps9
  go_wp2_with fail
  refine HD.out.mono ?_
  rintro e w5 ⟨rfl, rfl⟩
  go_wp2
  refine bodyPost_ret (v := .tuple #[.int .u64 (n : Nat), .int .i64 0]) (by simp [results, Try.results9, go_sem]) rfl ⟨rfl, Below.refl _ _⟩
theorem eqPut (f : Nat) (l : Array Value) (w : World) : (binOp .eql 35 (.func (.func f) #[] l) .nilFunc).run Try.prog w = .ok (.bool false) w := eqF_some _ _ Try.underlying35 ⟨_, _, _, rfl⟩ f l w
theorem eqTake (f : Nat) (l : Array Value) (w : World) : (binOp .eql 37 (.func (.func f) #[] l) .nilFunc).run Try.prog w = .ok (.bool false) w := eqF_some _ _ Try.underlying37 ⟨_, _, _, rfl⟩ f l w
set_option maxHeartbeats 1000000 in
theorem lput_any (limit : Int) (n : Nat) (w : World) (hn : n < 18446744073709551616) :
    Calls Try.prog 27 #[.agg (lsN limit).toArray, .int .u64 (n : Nat)] w fun x w' => ∃ v, x = .returned v ∧ Row w' w.heap.size v (le n 8) ∧ Below w.heap.size w w' := by
  go_enter Try.func27, Try.ntmps27
  go_wp2_with ((with_reducible refine at_list' ?_); first
    | (refine wpList_box_c rfl 2 rfl (.tmp 0) rfl (lsN limit) rfl ?_; intro w1 H1 B1 S1; have hc2 := H1.cell (j := 2) (v := .func (.func 7) #[] #[]) rfl; have heq := eqPut 7 #[] w1))
  have HD := hid (num1_any n w1 hn)
  have HB := hid B1
  clear H1 B1 hc2 heq
  refine HD.out.mono ?_
  rintro e w5 ⟨v, rfl, R, B⟩
  have HX := hid (And.intro R B)
  clear R B HD
  go_wp2
  go_ret
  exact ⟨v, rfl, HX.out.1.base (by omega), below_more HB.out HX.out.2 (Nat.le_refl _)⟩
set_option maxHeartbeats 1000000 in
theorem ltake_any (limit : Int) (v : Value) (xb : List Nat) (w : World) (hI : IsB w v xb) (h8 : xb.length = 8) :
    Calls Try.prog 25 #[.agg (lsN limit).toArray, v] w fun x w' => x = .returned (.tuple #[.int .u64 (tk xb : Nat), .int .i64 0]) ∧ Below w.heap.size w w' := by
  have HD := hid (fun w' (hb : Below w.heap.size w w') => num2_any v xb w' (hI.keep hb) h8)
  obtain ⟨⟨ao, cap, rfl, _⟩, _⟩ := hI
  obtain ⟨n, hn0⟩ : ∃ n, tk xb = n := ⟨_, rfl⟩
  rw [hn0] at HD ⊢
  clear hn0 h8
  go_enter Try.func25, Try.ntmps25
  go_wp2_with ((with_reducible refine at_list' ?_); first
    | (refine wpList_box_c rfl 2 rfl (.tmp 0) rfl (lsN limit) rfl ?_; intro w1 H1 B1 S1; have hc3 := H1.cell (j := 3) (v := .func (.func 9) #[] #[]) rfl; have heq := eqTake 9 #[] w1))
  have HX := hid B1
  have HD2 := hid (HD.out w1 B1)
  clear H1 B1 hc3 heq HD
  refine HD2.out.mono ?_
  rintro e w5 ⟨rfl, B⟩
  have HB := hid B
  clear B HD2
  go_wp2
  refine bodyPost_ret (v := .tuple #[.int .u64 (n : Nat), .int .i64 0]) (by simp [results, Try.results25, go_sem]) rfl ⟨rfl, below_more HX.out HB.out (Nat.le_refl _)⟩
end Go.Proofs.Ytelgjencpafnnaa
