/- ssz's Writer: Num. -/
import Derived.Test.YtckmdofmplkdfaaWriter
namespace Go.Proofs.Ytckmdofmplkdfaa
open Go.RowKit Go.Shelf
set_option linter.unusedVariables false

/-- The k lowest bytes of n, the lowest first. -/
def le (n k : Nat) : List Nat := (List.range k).map fun i => n / 256 ^ i % 256
theorem le_length (n k : Nat) : (le n k).length = k := by simp [le]
theorem le_byte (n k : Nat) : ∀ z ∈ le n k, z < 256 := fun z hz => by
  obtain ⟨i, _, rfl⟩ := List.mem_map.1 hz
  exact Nat.mod_lt _ (by decide)
theorem putL_le (n k : Nat) : (putL n k).map (Value.int .u8) = cellsB (le n k) := by
  simp [putL, cellsB, le, byteAt]
theorem put8_isB (n size : Nat) (hn : n < 18446744073709551616) (h0 : 0 < size) (hs : size ≤ 2147483647) (w : World) :
    Calls Try.prog 25 #[.int .u64 n, .int .i64 size] w fun e w' => ∃ cap, e = .returned (.slice (some ⟨w.heap.size, 0, none⟩) size cap) ∧ Row w' w.heap.size (.slice (some ⟨w.heap.size, 0, none⟩) size cap) (le n size) ∧ Below w.heap.size w w' := by
  refine (put_any n size hn h0 hs w).mono ?_
  rintro e w' ⟨cap, rfl, h1, h2⟩
  refine ⟨cap, rfl, ?_, h2⟩
  rw [putL_le] at h1
  unfold Row
  rw [le_length]
  exact h1
theorem Wr.gt {w : World} {g : Nat} {S : Nat → Prop} {fs : List (List Nat × Bool)} (h : Wr w g S fs) : g < w.heap.size := by
  obtain ⟨⟨_, _, h1, _⟩, _⟩ := h; exact (Array.getElem?_eq_some_iff.1 h1).1
theorem Wr.grow {w : World} {g : Nat} {S T : Nat → Prop} {fs : List (List Nat × Bool)} (h : Wr w g S fs) (hST : ∀ k, S k → T k) (hg : ¬ T g) (hl : ∀ k, T k → k < w.heap.size) : Wr w g T fs := by
  obtain ⟨⟨rs, q, h1, h2, h3⟩, h4, h5⟩ := h
  exact ⟨⟨rs, q, h1, h2.mono hST, h3.mono hST⟩, hg, hl⟩
/-- One step more behind others. -/
theorem Wr.next {w wr w2 : World} {g : Nat} {S : Nat → Prop} {fs : List (List Nat × Bool)} (hg : g < w.heap.size) (hS : ¬ S g) (hl : ∀ k, S k → k < w.heap.size) (h1 : w.heap.size ≤ wr.heap.size) (h2 : wr.heap.size ≤ w2.heap.size) (h : Wr w2 g (more (more S w wr) wr w2) fs) : Wr w2 g (more S w w2) fs :=
  h.grow (fun k hk => by
    rcases hk with (hk | hk) | hk
    · exact .inl hk
    · exact .inr ⟨hk.1, by omega⟩
    · exact .inr ⟨by omega, hk.2⟩) (fun hk => by
    rcases hk with hk | hk
    · exact hS hk
    · omega) (fun k hk => by
    rcases hk with hk | hk
    · have := hl k hk; omega
    · exact hk.2)
theorem Wr.start {w wr : World} {g : Nat} {S : Nat → Prop} {fs : List (List Nat × Bool)} (h : Wr wr g (more S w wr) fs) {wc : World} (hb : Below wr.heap.size wr wc) (hg : g < w.heap.size) (hS : ¬ S g) (hl : ∀ k, S k → k < w.heap.size) (h1 : w.heap.size ≤ wr.heap.size) : Wr wc g (more S w wc) fs :=
  (h.below hb).grow (fun k hk => by
    rcases hk with hk | hk
    · exact .inl hk
    · exact .inr ⟨hk.1, Nat.lt_of_lt_of_le hk.2 hb.size⟩) (fun hk => by
    rcases hk with hk | hk
    · exact hS hk
    · omega) (fun k hk => by
    have := hb.size
    rcases hk with hk | hk
    · have := hl k hk; omega
    · exact hk.2)
theorem grown_below {w w1 w2 : World} {g : Nat} (h : w.grownBy w1 (some g)) (k : Below w1.heap.size w1 w2) : w.grownBy w2 (some g) :=
  ⟨k.os.trans h.os, k.tape.trans h.tape, k.output.trans h.output, Nat.le_trans h.size k.size, fun j hj hne => (k.block j (Nat.lt_of_lt_of_le hj h.size)).trans (h.block j hj hne)⟩
theorem grown_trans {w w1 w2 : World} {g : Nat} (h : w.grownBy w1 (some g)) (k : w1.grownBy w2 (some g)) : w.grownBy w2 (some g) :=
  ⟨k.os.trans h.os, k.tape.trans h.tape, k.output.trans h.output, Nat.le_trans h.size k.size, fun j hj hne => (k.block j (Nat.lt_of_lt_of_le hj h.size) hne).trans (h.block j hj hne)⟩
theorem grown_refl (w : World) (g : Nat) : w.grownBy w (some g) := ⟨rfl, rfl, rfl, Nat.le_refl _, fun _ _ _ => rfl⟩
/-- What numbers put. -/
def numF (ns : List Nat) : List (List Nat × Bool) := ns.map fun n => (le n 8, false)

set_option maxRecDepth 100000 in
set_option maxHeartbeats 1000000 in
theorem num_wr (g : Nat) (S : Nat → Prop) (fs : List (List Nat × Bool)) (ns : List Nat) (b off cap : Nat) (w : World) (hW : Wr w g S fs) (hbg : b ≠ g) (hn : fs.length + ns.length < 2147483647) (h64 : ∀ n ∈ ns, n < 18446744073709551616)
    (hc : ∀ i, i < ns.length → w.cell? ⟨b, off + i, none⟩ = some (.int .u64 (ns.getD i 0 : Nat))) (hcap : ns.length ≤ cap) :
    Calls Try.prog 9 #[.pointer (some ⟨g, 0, none⟩), .slice (some ⟨b, off, none⟩) ns.length cap] w fun e w' => (∃ u, e = .returned u) ∧ Wr w' g (more S w w') (fs ++ numF ns) ∧ w.grownBy w' (some g) := by
  have hg := hW.gt
  have hS := hW.out
  have hl := hW.lt
  have hW0 : Wr w g (more S w w) fs := hW.grow (fun k a => .inl a) (fun a => by rcases a with a | a; exact hS a; omega) (fun k a => by rcases a with a | a; exact hl k a; omega)
  go_enter Try.func9, Try.ntmps9
  go_wp2
  go_loopw [5, 8] (fun _ i wr => ∃ k : Nat, k ≤ ns.length ∧ i = .int .i64 k ∧ Wr wr g (more S w wr) (fs ++ numF (ns.take k)) ∧ w.grownBy wr (some g)) (fun _ i _ => ns.length - (intOf i).toNat)
  case atStart => exact ⟨0, Nat.zero_le _, rfl, by simpa [numF] using hW0, grown_refl w g⟩
  case round =>
    clear hW hW0
    obtain ⟨k, hk, rfl, hWr, hG⟩ := hrel
    by_cases hlt : k < ns.length
    · have hcr : wr.cell? ⟨b, off + k, none⟩ = some (.int .u64 (ns.getD k 0 : Nat)) := hG.cell (hc k hlt) (by simpa using hbg)
      have hgs := hG.size
      have hnk : ns.getD k 0 < 18446744073709551616 := h64 _ (by rw [List.getD_eq_getElem?_getD, List.getElem?_eq_getElem hlt]; exact List.getElem_mem _)
      have HT : Same (numF (ns.take (k + 1))) (numF (ns.take k) ++ [(le (ns.getD k 0) 8, false)]) := ⟨by
        rw [List.take_succ_eq_append_getElem hlt, numF, numF, List.map_append, List.getD_eq_getElem?_getD, List.getElem?_eq_getElem hlt]; rfl⟩
      have hfl : (fs ++ numF (ns.take k)).length < 2147483647 := by rw [List.length_append, numF, List.length_map, List.length_take]; omega
      obtain ⟨x, hx⟩ : ∃ x, ns.getD k 0 = x := ⟨_, rfl⟩
      rw [hx] at hcr hnk HT
      have HW := hid hWr
      have HGG := hid hG
      have hHl := hid hfl
      clear hWr hG hx hfl
      go_wp2_with fail
      refine (put8_isB x 8 hnk (by decide) (by decide) wr).mono ?_
      rintro e w1 ⟨cp, rfl, R1, B1⟩
      have W1 := hid (HW.out.start B1 hg hS hl hgs)
      have I1 := R1.isB (le_byte x 8)
      have S1 := B1.size
      have G1 := hid (grown_below HGG.out B1)
      have HF := hid (fixed_wr g (more S w w1) (fs ++ numF (ns.take k)) _ (le x 8) w1 W1.out I1 hHl.out (by rw [le_length]; decide))
      clear I1 R1 B1
      go_wp2_with fail
      refine HF.out.mono ?_
      rintro e w2 ⟨⟨u, rfl⟩, h1, h2⟩
      have S2 := h2.size
      have G2 := hid (grown_trans G1.out h2)
      have W2 := hid (Wr.next hg hS hl (by omega) S2 h1)
      clear h1 h2 HF W1 G1
      go_wp2
      go_roundw
      case rel => exact ⟨k + 1, by omega, by go_num, by rw [HT.out, ← List.append_assoc]; exact W2.out, G2.out⟩
      case measure => simp [intOf]; omega
    · obtain rfl : k = ns.length := by omega
      rw [List.take_length] at hWr
      have HW := hid hWr
      have HGG := hid hG
      clear hWr hG
      go_wp2
      go_end0
      exact ⟨⟨_, rfl⟩, HW.out, HGG.out⟩
end Go.Proofs.Ytckmdofmplkdfaa
