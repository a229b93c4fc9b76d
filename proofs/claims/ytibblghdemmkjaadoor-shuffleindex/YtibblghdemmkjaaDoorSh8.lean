/- The program's pivot and page. -/
import Derived.Test.YtibblghdemmkjaaDoorPure8
namespace Go.Proofs.YtibblghdemmkjaaDoor
open Go.RowKit
set_option linter.unusedVariables false
set_option maxRecDepth 100000

theorem own_byte (w : World) (r : Nat) : Row (w.alloc (.cells #[.int .u8 (r : Nat)] 5)) w.heap.size (.slice (some ⟨w.heap.size, 0, none⟩) 1 1) [r] := by
  refine ⟨by simp [cellsB], .inr ⟨w.heap.size, _, _, rfl, Nat.le_refl _, heap_alloc_new w _, Nat.le_refl _, by unfold maxLen; omega, by simp, by simp [cellsB]⟩⟩
theorem Has.isB {w : World} {b : Nat} {t : TypeId} {l : List Nat} (h : Has w b t .u8 l) (hl : l.length ≤ maxLen) (hb : ∀ z ∈ l, z < 256) : IsB w (.slice (some ⟨b, 0, none⟩) l.length l.length) l :=
  ⟨⟨_, _, rfl, Nat.le_refl _, hl, (fun e => by cases e), .inr ⟨b, 0, rfl, fun i hi => by rw [Nat.zero_add]; exact h.cell i hi⟩⟩, hb⟩
theorem one_byte {r : Nat} (hr : r < 256) : ∀ z ∈ [r], z < 256 := fun z hz => by rw [List.mem_singleton.1 hz]; exact hr
theorem byte_app {a b : List Nat} (ha : ∀ z ∈ a, z < 256) (hb : ∀ z ∈ b, z < 256) : ∀ z ∈ a ++ b, z < 256 := fun z hz => (List.mem_append.1 hz).elim (ha z) (hb z)

set_option maxHeartbeats 600000 in
theorem pivot_any (n r : Nat) (s : List Nat) (hs : Rt s) (hr : r < 256) (h0 : 0 < n) (hn : n < 18446744073709551616) (w : World) (hT : Tabs w) :
    Calls Tryd.prog 12 #[.int .u64 n, .agg (nums .u8 s), .int .u8 r] w fun e w' => e = .returned (.int .u64 (pv s r n : Nat)) ∧ Below w.heap.size w w' := by
  have hD := sha_rt (s ++ [r])
  obtain ⟨D, hDe⟩ : ∃ D, Same (sha (s ++ [r])) D := ⟨_, ⟨rfl⟩⟩
  have hpv : pv s r n = tk D % n := by rw [← hDe.out]; rfl
  rw [hDe.out] at hD
  rw [hpv]
  clear hpv
  have hlt := tk_lt D hD.byte
  have hbb := byte_app hs.byte (one_byte hr)
  have hbr := one_byte hr
  go_enter Tryd.func12, Tryd.ntmps12
  go_wp2_with (first
    | (refine wpList_box_has rfl 4 rfl 24 (.tmp 1) rfl .u8 s rfl ?_; intro w1 H1 B1 S1)
    | (at_builtin; refine wpList_append_full rfl (.tmp 8) (.tmp 10) 58 rfl w1.heap.size ⟨w.heap.size, 0, none⟩ s 32 hs.len rfl (fun j hj => by rw [Addr.add_lit, Nat.zero_add]; exact (H1.keep ((Below.refl _ w1).alloc (Nat.le_refl _) _)).cell j hj) (.slice (some ⟨w.heap.size + 1, 0, none⟩) 1 1) [r] rfl (by rw [← S1]; exact ((own_byte w1 r).isB hbr).src) (by simp) (by rw [hs.len]; simp) (by simp) ?_; intro v2 w2 R2 B2; go_loud (have T2 := below_more (below_more B1 ((Below.refl _ w1).alloc (Nat.le_refl _) _) (Nat.le_refl _)) B2 (Nat.le_refl _); have HO := hid (of_isB v2 _ w2 (hT.keep T2) (R2.isB hbb) (by simp [hs.len])); rw [hDe.out] at HO))
    | (go_at_call 22; refine HO.out.mono ?_; rintro e w3 ⟨rfl, B3⟩)
    | (refine wpList_alloc_has rfl 7 rfl 24 rfl .u8 32 Tryd.zero24 ?_; intro w4 H4 B4 S4)
    | (refine wpList_store_has rfl 24 (.tmp 7) (.tmp 12) rfl w3.heap.size .u8 D (zeros 32) rfl rfl 24 H4 (hD.size _ Tryd.size24) (by rw [hD.len, zeros_length]) ?_; intro w5 H5 O5; have HI := hid (H5.isB (by rw [hD.len]; unfold maxLen; omega) hD.byte); rw [hD.len] at HI)
    | (go_at_call 23; refine (take_isB _ _ _ HI.out).mono ?_; rintro e w6 ⟨rfl, rfl⟩)
    | fail)
  go_ret
  exact ⟨by rw [Int.natCast_emod]; rfl, below_only (below_more (below_more T2 B3 (Nat.le_refl _)) B4 (Nat.le_refl _)) O5 (by have := T2.size; have := B3.size; omega)⟩

/-- A slice of one byte, in a flow. -/
theorem flow_byte {w : World} {o : Oper} {a : Act} {Q : Exit → Act → World → Prop} {I : Value → World → Prop} (x : Operand) (ho : o.op = .buildSlice 58 1 #[(0, x)]) (r : Nat) (hx : a.eval x = .int .u8 (r : Nat))
    (h : ∀ w', Row w' w.heap.size (.slice (some ⟨w.heap.size, 0, none⟩) 1 1) [r] → I (.slice (some ⟨w.heap.size, 0, none⟩) 1 1) w') : o.wp Tryd.prog a w (fun a' w' => ∃ v, a' = a.put o.dst v ∧ I v w' ∧ Below w.heap.size w w') Q := by
  obtain ⟨i0, hi, hz0, hz1, hz2⟩ := info_parts Tryd.info5
  refine wp_buildSlice 58 5 1 _ ho #[.int .u8 (r : Nat)] i0 (.int .u8 0) Tryd.underlying58 hi hz0 (by rw [hz1]; decide) (by rw [hz1]; decide) ?_ ⟨_, rfl, h _ (own_byte w r), (Below.refl _ w).alloc (Nat.le_refl _) _⟩
  rw [hz1]
  simp only [List.map_toArray, List.map_cons, List.map_nil, hx]
  have e : ((Array.range (1 * 1)).map fun x => (Value.int IntKind.u8 0).cells[x % (Value.int IntKind.u8 0).cells.size]!) = #[Value.int .u8 0] := by kernel_rfl
  rw [e]
  simp [Instr.fill, Value.cells]
/-- A slice of three slices of bytes, in a flow. -/
theorem flow_slices3 {w : World} {o : Oper} {a : Act} {Q : Exit → Act → World → Prop} {I : Value → World → Prop} (x y z : Operand) (ho : o.op = .buildSlice 77 3 #[(0, x), (1, y), (2, z)]) (b0 b1 b2 : List Nat) (h0 : IsB w (a.eval x) b0) (h1 : IsB w (a.eval y) b1) (h2 : IsB w (a.eval z) b2)
    (h : ∀ w' vs, BsAt w' w.heap.size vs [b0, b1, b2] → I (.slice (some ⟨w.heap.size, 0, none⟩) 3 3) w') : o.wp Tryd.prog a w (fun a' w' => ∃ v, a' = a.put o.dst v ∧ I v w' ∧ Below w.heap.size w w') Q := by
  obtain ⟨i0, hi, hz0, hz1⟩ : ∃ i, Tryd.prog.info? 58 = some i ∧ i.zero = some (.slice none 0 0) ∧ i.size = 1 := by
    have : (Tryd.prog.info? 58).map (fun i => (i.zero, i.size)) = some (some (.slice none 0 0), 1) := by kernel_rfl
    cases hq : Tryd.prog.info? 58 with
    | none => simp [hq] at this
    | some i => simp [hq] at this; exact ⟨i, rfl, this.1, this.2⟩
  have hB := (Below.refl w.heap.size w).alloc (Nat.le_refl _) (.cells #[a.eval x, a.eval y, a.eval z] 58)
  have k0 := h0.keep hB
  have k1 := h1.keep hB
  have k2 := h2.keep hB
  refine wp_buildSlice 77 58 3 _ ho #[a.eval x, a.eval y, a.eval z] i0 (.slice none 0 0) (by kernel_rfl) hi hz0 (by rw [hz1]; decide) (by rw [hz1]; decide) ?_ ⟨_, rfl, h _ [a.eval x, a.eval y, a.eval z] ⟨heap_alloc_new w _, rfl, fun k hk => ?_⟩, hB⟩
  · rw [hz1]
    obtain ⟨⟨_, _, e0, _⟩, _⟩ := h0
    obtain ⟨⟨_, _, e1, _⟩, _⟩ := h1
    obtain ⟨⟨_, _, e2, _⟩, _⟩ := h2
    simp only [List.map_toArray, List.map_cons, List.map_nil, e0, e1, e2]
    have e : ((Array.range (3 * 1)).map fun x => (Value.slice none 0 0).cells[x % (Value.slice none 0 0).cells.size]!) = #[Value.slice none 0 0, Value.slice none 0 0, Value.slice none 0 0] := by kernel_rfl
    rw [e]
    simp [Instr.fill, Value.cells]
  · match k, hk with
    | 0, _ => exact k0
    | 1, _ => exact k1
    | 2, _ => exact k2
    | (k + 3), hk => exact absurd hk (by simp)
end Go.Proofs.YtibblghdemmkjaaDoor
