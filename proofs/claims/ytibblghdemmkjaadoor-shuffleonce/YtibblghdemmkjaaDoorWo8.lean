/- The walk of ShuffleOnce. -/
import Derived.Test.YtibblghdemmkjaaDoorWk8
namespace Go.Proofs.YtibblghdemmkjaaDoor
open Go.RowKit
set_option linter.unusedVariables false
set_option maxRecDepth 100000

/-- A block of truths. -/
def HasT (w : World) (g : Nat) (l : List Bool) : Prop := w.heap[g]? = some (.cells (l.map Value.bool).toArray 4 (0, 0))
theorem HasT.lt {w : World} {g : Nat} {l : List Bool} (h : HasT w g l) : g < w.heap.size := (Array.getElem?_eq_some_iff.1 h).1
theorem HasT.cell {w : World} {g : Nat} {l : List Bool} (h : HasT w g l) (i : Nat) (hi : i < l.length) : w.cell? ⟨g, i, none⟩ = some (.bool (l.getD i false)) := by
  rw [cell_of_row w g i _ 4 (0, 0) h]
  simp [List.getD_eq_getElem?_getD, hi]
theorem HasT.frozen {w : World} {g : Nat} {l : List Bool} (h : HasT w g l) (i : Nat) : w.frozen? ⟨g, i, none⟩ = false := frozen_of_row w g i _ 4 h
theorem HasT.set {w : World} {g : Nat} {l : List Bool} (h : HasT w g l) (i : Nat) (b : Bool) : HasT (w.setCell ⟨g, i, none⟩ (.bool b)) g (l.set i b) := by
  unfold HasT
  rw [heap_setCell_same w g i _ 4 _ h]
  simp
theorem HasT.keep {w w' : World} {g : Nat} {l : List Bool} (h : HasT w g l) (hb : Below w.heap.size w w') : HasT w' g l := (hb.block g h.lt).trans h
theorem wpList_make_bools {w : World} {ops : Array Oper} {rest : List Oper} {o : Oper} {a : Act} {Q : Exit → Act → World → Prop} (hgd : o.guard = none) (l c : Operand) (ho : o.op = Op.makeSlice 36 l c) (kl kc : IntKind) (L C : Int) (n : Nat) (hl : a.eval l = .int kl L) (hc : a.eval c = .int kc C) (hL : L = (n : Int)) (hC : C = (n : Int)) (b2 : n ≤ 1099511627776)
    (h : ∀ w', HasT w' w.heap.size (List.replicate n false) → Below w.heap.size w w' → wpList Tryd.prog ops Q rest (a.put o.dst (.slice (some ⟨w.heap.size, 0, none⟩) n n)) w') : wpList Tryd.prog ops Q (o :: rest) a w := by
  obtain ⟨i0, hi, hz0, hz1, hz2⟩ : ∃ i, Tryd.prog.info? 4 = some i ∧ i.zero = some (.bool false) ∧ i.size = 1 ∧ i.bytes = 1 := by
    have hz : (Tryd.prog.info? 4).map (fun i => (i.zero, i.size, i.bytes)) = some (some (.bool false), 1, 1) := by kernel_rfl
    cases hq : Tryd.prog.info? 4 with
    | none => simp [hq] at hz
    | some i => simp [hq] at hz; exact ⟨i, rfl, hz.1, hz.2.1, hz.2.2⟩
  refine wpList_make_full w hgd l c 36 ho w.heap.size 4 i0 (.bool false) 1 (by kernel_rfl) hi hz0 hz1 kl kc L C n hl hc hL hC (by rw [hz2]; omega) (by unfold maxLen; omega) (Nat.le_refl _) fun w' hown hgrow => ?_
  refine h w' ?_ ((Below.refl _ _).grown hgrow (Nat.le_refl _) (by simp))
  obtain ⟨hlen, ⟨hv, _⟩ | ⟨g, cap, cur, hv, hb, hg, hnc, hm, hcs, htk⟩⟩ := hown
  · cases hv
  · simp only [Value.slice.injEq, Option.some.injEq, Addr.mk.injEq] at hv
    obtain ⟨⟨hv1, _, _⟩, hv2, hv3⟩ := hv
    subst hv1
    subst hv3
    rw [List.take_of_length_le (by simp [hcs])] at htk
    unfold HasT
    rw [hg]
    have : cur = ((List.replicate n false).map Value.bool).toArray := by
      apply Array.toList_inj.1
      rw [htk]
      apply List.ext_getElem?
      intro j
      by_cases hj : j < n
      · simp [madeCells, hj, Value.cells, Nat.mod_one]
      · simp [madeCells, hj]
    rw [this]
/-- What has been seen stood among the first k. -/
def SeenBy (f : Nat → Nat) (k : Nat) (l : List Bool) : Prop := ∀ j, l.getD j false = true → ∃ t, t < k ∧ f t = j
theorem SeenBy.zero (f : Nat → Nat) (n : Nat) : SeenBy f 0 (List.replicate n false) := fun j h => by
  by_cases hj : j < n
  · simp [List.getD_eq_getElem?_getD, hj] at h
  · simp [List.getD_eq_getElem?_getD, hj] at h
theorem SeenBy.next {f : Nat → Nat} {k : Nat} {l : List Bool} (h : SeenBy f k l) : SeenBy f (k + 1) (l.set (f k) true) := fun j hj => by
  by_cases hjk : f k = j
  · exact ⟨k, by omega, hjk⟩
  · rw [List.getD_eq_getElem?_getD, List.getElem?_set_ne hjk, ← List.getD_eq_getElem?_getD] at hj
    obtain ⟨t, ht, e⟩ := h j hj
    exact ⟨t, by omega, e⟩

set_option maxHeartbeats 2000000 in
theorem shuffleOnce_walk (n far : Nat) (s : List Nat) (hs : Rt s) (hn : n < 18446744073709551616) (hf : far < 18446744073709551616) (w : World) (hT : Tabs w) :
    Calls Tryd.prog 5 #[.int .u64 n, .int .u64 far, .agg (nums .u8 s)] w fun e w' => e = .returned (.bool true) ∧ Below w.heap.size w w' := by
  obtain ⟨m, hm⟩ : ∃ m, n % 3000 = m := ⟨_, rfl⟩
  have hmI : (n : Int) % 3000 = (m : Int) := by omega
  have hm7 : m < 3000 := by omega
  clear hm
  have HT := hid hT
  have HLO := hid (fun wq hq => list_ok m s hs (by omega) wq hq)
  have hln := ordK_length s m 5
  have hlx : ∀ k, k < m → (ordK s m 5).getD k 0 < m := fun k hk => by rw [ordK_get s m 5 k hk]; exact ix_lt s 5 hk
  have hli : ∀ i j, i < m → j < m → (ordK s m 5).getD i 0 = (ordK s m 5).getD j 0 → i = j := fun i j hi hj h => by
    rw [ordK_get s m 5 i hi, ordK_get s m 5 j hj] at h
    exact ix_inj s 5 hi hj h
  obtain ⟨l, hl⟩ : ∃ l, Same (ordK s m 5) l := ⟨_, ⟨rfl⟩⟩
  rw [hl.out] at HLO hln hlx hli
  have HLX := hid hlx
  have HLI := hid hli
  have HLN := hid hln
  clear hT hln hlx hli hl
  go_enter Tryd.func5, Tryd.ntmps5
  go_wp2_with (refine wpList_box_has rfl 5 rfl 24 (.tmp 2) rfl .u8 s rfl ?_; intro w1 H1 B1 S1)
  refine (awake_any w1 (HT.out.keep B1)).mono ?_
  rintro e w2 ⟨rfl, B2⟩
  have H2 := H1.keep B2
  have HB2 := below_more B1 B2 (Nat.le_refl _)
  clear H1 B1 B2
  go_wp2_with (refine wpList_load_has rfl 24 (.tmp 5) rfl w.heap.size .u8 s rfl 24 H2 _ _ Tryd.und24 (hs.size _ Tryd.size24) ?_)
  refine (HLO.out w2 (HT.out.keep HB2)).mono ?_
  rintro e w3 ⟨g, hg, rfl, hL3, B3⟩
  have hS3 := H2.keep B3
  have hB3 := below_more HB2 B3 (Nat.le_refl _)
  clear H2 HB2 B3
  go_wp2_with (at_make; refine wpList_make_bools rfl (.tmp 33) (.tmp 33) rfl .u64 .u64 _ _ m rfl rfl rfl rfl (by omega) ?_; intro w4 H4 B4)
  have hgl := hL3.lt
  have HL4 := hid (hL3.keep B4)
  have HS4 := hid (hS3.keep B4)
  have HB4 := hid (below_more hB3 B4 (Nat.le_refl _))
  obtain ⟨g2, hg2⟩ : ∃ g, w3.heap.size = g := ⟨_, rfl⟩
  have hsz := hB3.size
  have hsl := hS3.lt
  rw [hg2] at H4 hgl hsz hsl ⊢
  have HK4 := hid H4
  clear hL3 hS3 hB3 H4 B4 hg2
  go_loopw [11, 37] (fun _ c wr => ∃ (k : Nat) (q : List Bool), k ≤ m ∧ c = .int .i64 (k : Nat) ∧ HasT wr g2 q ∧ q.length = m ∧ SeenBy (fun t => l.getD t 0) k q ∧ Has wr g 22 .u64 l ∧ Has wr w.heap.size 24 .u8 s ∧ Below w.heap.size w wr) (fun _ c _ => m - (intOf c).toNat)
  case atStart => exact ⟨0, _, by omega, rfl, HK4.out, by simp, SeenBy.zero _ _, HL4.out, HS4.out, HB4.out⟩
  case round =>
    clear HL4 HS4 HB4 HK4
    obtain ⟨k, q, hk, rfl, hQ, hql, hqs, hL, hS, hB⟩ := hrel
    by_cases hkm : k < m
    · have hc := hL.cell k (by rw [HLN.out]; exact hkm)
      have hxm := HLX.out k hkm
      have hno : q.getD (l.getD k 0) false = false := by
        cases hq : q.getD (l.getD k 0) false with
        | false => rfl
        | true =>
          obtain ⟨t, ht, e⟩ := hqs _ hq
          have := HLI.out t k (by omega) hkm e
          omega
      have hqn : SeenBy (fun t => l.getD t 0) (k + 1) (q.set (l.getD k 0) true) := hqs.next
      obtain ⟨x, hx⟩ : ∃ x, l.getD k 0 = x := ⟨_, rfl⟩
      rw [hx] at hc hxm hno hqn
      have hqc := hQ.cell x (by omega)
      have hqf := hQ.frozen x
      rw [hno] at hqc
      have HQ := hid hQ
      have HQN := hid hqn
      have HQL := hid hql
      have HL := hid hL
      have HS := hid hS
      have HB := hid hB
      clear hno hqn hx hql hqs hQ hL hS hB
      go_wp2
      go_roundw
      case rel =>
        have O := Only.setCell wr g2 x (.bool true)
        exact ⟨k + 1, q.set x true, by omega, by go_num, HQ.out.set x true, by rw [List.length_set]; exact HQL.out, HQN.out, HL.out.only O (by omega), HS.out.only O (by omega), below_only HB.out O (by omega)⟩
      case measure => simp [intOf]; omega
    · have hke : m = k := by omega
      subst hke
      have HB := hid hB
      have HS := hid hS
      clear hL hS hB hQ hql hqs
      by_cases hfar : far ≤ 1048576
      · go_wp2
        go_ret
        exact ⟨rfl, HB.out⟩
      · go_wp2_with (refine wpList_load_has rfl 24 (.tmp 5) rfl w.heap.size .u8 s rfl 24 HS.out _ _ Tryd.und24 (hs.size _ Tryd.size24) ?_)
        refine (list_bad far s hf (by omega) wr).mono ?_
        rintro e w5 ⟨rfl, B5⟩
        have HB5 := hid (below_more HB.out B5 (Nat.le_refl _))
        clear B5
        go_wp2
        go_ret
        exact ⟨rfl, HB5.out⟩
end Go.Proofs.YtibblghdemmkjaaDoor
