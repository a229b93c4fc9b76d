/- Own texts of the proof, joined: NumsV VIn CoDepositData CoDeposit VIDepositData VIDeposit RunEq LwDeposit Laid OpenD. -/
import Derived.Test.YtfmecdmkepnlmaaDoorH5
import Derived.LaidMore
import Derived.MakeChecks
import Derived.Lib.LaidTab
import Derived.Lib.LaidU8
import Derived.FnData
import Derived.ProofKit
import Derived.OpenShut
import Derived.ShutString
import Derived.ChangeOld
import Derived.Deep.Slices
import Derived.SevenTiedAt
import Derived.Stop.Joined
import Derived.Deep.Grids
import Derived.ChangeSlices
/- A list of numbers as a value of the document. -/
namespace Go.Proofs.YtfmecdmkepnlmaaDoor
open Go.RowKit Go.Shelf
set_option linter.unusedVariables false
set_option maxRecDepth 100000

def numsV (ns : List Nat) : Vt := .mk 0 (zeros 32) [] (ns.map fun n => .mk n (zeros 32) [] [])
theorem rowV_nums (ns : List Nat) : (rowV (ns.map fun n => (Vt.mk n (zeros 32) [] [], nilS, nilS))).flatten = rowN ns := by
  induction ns with
  | nil => rfl
  | cons n ns ih => rw [List.map_cons, rowV, List.flatten_cons, ih]; rfl
/-- A row of numbers' values is such a list. -/
theorem vAt_nums {w : World} {base : Nat} {u : Value} {ns : List Nat} (h : w.ownsRow base 40 35 u ns.length (rowN ns)) (h64 : ∀ n ∈ ns, n < 18446744073709551616) : VAt w (numsV ns) nilS u := by
  rw [numsV, VAt]
  refine ⟨⟨by decide, zeros32, zeros_byte 32⟩, isT_nil w, ?_⟩
  rcases h.2 with ⟨rfl, h0⟩ | ⟨g, cap, cur, rfl, hb, hg, hnc, hm, hcs, htk⟩
  · have hz : ns = [] := List.eq_nil_of_length_eq_zero h0
    subst hz
    exact ⟨none, 0, rfl, Nat.le_refl _, by decide, .inl rfl⟩
  · refine ⟨some ⟨g, 0, none⟩, cap, by rw [List.length_map], by rw [List.length_map]; exact hnc, hm, .inr ⟨g, 0, rfl, ?_⟩⟩
    have hC : HasC w g 40 cur.toList := by unfold HasC; rw [Array.toArray_toList]; exact hg
    have hk := ksAt_of hC (ns.map fun n => (Vt.mk n (zeros 32) [] [], nilS, nilS)) 0 (fun j v hj => by
      rw [rowV_nums, ← htk] at hj
      rw [Nat.zero_add]
      have hjl := (List.getElem?_eq_some_iff.1 hj).1
      rw [List.getElem?_take] at hj
      split at hj
      · exact hj
      · cases hj) (fun x hx => by
      obtain ⟨n, hn, rfl⟩ := List.mem_map.1 hx
      exact vAt_leaf w (h64 n hn) zeros32 (zeros_byte 32))
    rw [List.map_map] at hk
    exact hk
end Go.Proofs.YtfmecdmkepnlmaaDoor

/- Values of the document, and which blocks they lie in: whoever leaves these as they are leaves the value as it is. -/
namespace Go.Proofs.YtfmecdmkepnlmaaDoor
open Go.RowKit Go.Shelf
set_option linter.unusedVariables false
set_option linter.unusedSimpArgs false
set_option maxRecDepth 100000

/-- The second world has the first one's blocks, where P says so. -/
def Agr (P : Nat → Prop) (w w' : World) : Prop := ∀ b, P b → b < w.heap.size → w'.heap[b]? = w.heap[b]?
theorem Agr.refl (P : Nat → Prop) (w : World) : Agr P w w := fun _ _ _ => rfl
theorem Agr.below {P : Nat → Prop} {w w' w'' : World} (h : Agr P w' w'') (hb : Below w.heap.size w w') : Agr P w w'' := fun b hp hl => (h b hp (Nat.lt_of_lt_of_le hl hb.size)).trans (hb.block b hl)
theorem Agr.only {P : Nat → Prop} {w w' w'' : World} {g : Nat} (h : Agr P w' w'') (ho : Only g w w') : Agr (fun b => P b ∧ b ≠ g) w w'' := fun b hp hl => (h b hp.1 (by rw [ho.size]; exact hl)).trans (ho.block b hp.2)
theorem Agr.mono {P Q : Nat → Prop} {w w' : World} (h : Agr P w w') (hq : ∀ b, Q b → P b) : Agr Q w w' := fun b hb hl => h b (hq b hb) hl
/-- A value that lies in such blocks. -/
def VIn (P : Nat → Prop) (w : World) (x : Vt) (sb sk : Value) : Prop := ∀ w', Agr P w w' → VAt w' x sb sk
def KIn (P : Nat → Prop) (w : World) (ks : List Vt) (b off : Nat) : Prop := ∀ w', Agr P w w' → KsAt w' ks b off
def TIn (P : Nat → Prop) (w : World) (v : Value) (l : List Bool) : Prop := ∀ w', Agr P w w' → IsT w' v l
theorem VIn.at {P : Nat → Prop} {w : World} {x : Vt} {sb sk : Value} (h : VIn P w x sb sk) : VAt w x sb sk := h w (Agr.refl P w)
theorem VIn.keep {P : Nat → Prop} {w w' : World} {x : Vt} {sb sk : Value} (h : VIn P w x sb sk) (hb : Below w.heap.size w w') : VIn P w' x sb sk := fun w'' ha => h w'' (ha.below hb)
theorem VIn.only {P : Nat → Prop} {w w' : World} {x : Vt} {sb sk : Value} {g : Nat} (h : VIn (fun b => P b ∧ b ≠ g) w x sb sk) (ho : Only g w w') : VIn P w' x sb sk := fun w'' ha => h w'' (ha.only ho)
theorem VIn.mono {P Q : Nat → Prop} {w : World} {x : Vt} {sb sk : Value} (h : VIn P w x sb sk) (hq : ∀ b, P b → Q b) : VIn Q w x sb sk := fun w' ha => h w' (ha.mono hq)
theorem KIn.keep {P : Nat → Prop} {w w' : World} {ks : List Vt} {b off : Nat} (h : KIn P w ks b off) (hb : Below w.heap.size w w') : KIn P w' ks b off := fun w'' ha => h w'' (ha.below hb)
theorem KIn.only {P : Nat → Prop} {w w' : World} {ks : List Vt} {b off : Nat} {g : Nat} (h : KIn (fun b => P b ∧ b ≠ g) w ks b off) (ho : Only g w w') : KIn P w' ks b off := fun w'' ha => h w'' (ha.only ho)
theorem TIn.at {P : Nat → Prop} {w : World} {v : Value} {l : List Bool} (h : TIn P w v l) : IsT w v l := h w (Agr.refl P w)
theorem TIn.keep {P : Nat → Prop} {w w' : World} {v : Value} {l : List Bool} (h : TIn P w v l) (hb : Below w.heap.size w w') : TIn P w' v l := fun w'' ha => h w'' (ha.below hb)
/-- What lay there when the call began lies apart from its own variable. -/
theorem TIn.apart {P : Nat → Prop} {w wq : World} {v : Value} {l : List Bool} {g : Nat} (h : TIn P w v l) (hb : Below w.heap.size w wq) (hg : w.heap.size ≤ g) : TIn (fun b => P b ∧ b ≠ g) wq v l :=
  fun w'' ha => h w'' fun b hp hl => (ha b ⟨hp, by omega⟩ (Nat.lt_of_lt_of_le hl hb.size)).trans (hb.block b hl)
def IsVI (P : Nat → Prop) (w : World) (v : Value) (x : Vt) : Prop := ∃ sb sk, v = .agg (valL x.num x.root sb sk).toArray ∧ VIn P w x sb sk
theorem IsVI.keep {P : Nat → Prop} {w w' : World} {v : Value} {x : Vt} (h : IsVI P w v x) (hb : Below w.heap.size w w') : IsVI P w' v x := by
  obtain ⟨sb, sk, e, h⟩ := h
  exact ⟨sb, sk, e, h.keep hb⟩
theorem IsVI.isV {P : Nat → Prop} {w : World} {v : Value} {x : Vt} (h : IsVI P w v x) : IsV w v x := by
  obtain ⟨sb, sk, e, h⟩ := h
  exact ⟨sb, sk, e, h.at⟩
theorem IsVI.leaf (P : Nat → Prop) (w : World) {n : Nat} {r : List Nat} (hn : n < 18446744073709551616) (hr : r.length = 32) (h8 : ∀ z ∈ r, z < 256) : IsVI P w (.agg (valL n r nilS nilS).toArray) (.mk n r [] []) := ⟨nilS, nilS, rfl, fun w' _ => vAt_leaf w' hn hr h8⟩
theorem IsVI.bits {P : Nat → Prop} {w : World} {ao : Option Addr} {c : Nat} {l : List Bool} (h : TIn P w (.slice ao l.length c) l) : IsVI P w (.agg (valL 0 (zeros 32) (.slice ao l.length c) nilS).toArray) (.mk 0 (zeros 32) l []) := by
  refine ⟨_, nilS, rfl, fun w' ha => ?_⟩
  rw [VAt]
  exact ⟨⟨by decide, zeros32, zeros_byte 32⟩, h w' ha, none, 0, rfl, Nat.le_refl _, by decide, .inl rfl⟩
theorem HasC.agr {P : Nat → Prop} {w w' : World} {b : Nat} {t : TypeId} {cs : List Value} (h : HasC w b t cs) (ha : Agr P w w') (hp : P b) : HasC w' b t cs := by
  have hl := h.lt
  unfold HasC at h ⊢
  rw [ha b hp hl]
  exact h
theorem own_agr {P : Nat → Prop} {w w' : World} {base n s : Nat} {e : TypeId} {v : Value} {xs : List Value} (h : w.ownsRow base e s v n xs) (ha : Agr P w w') (hp : ∀ b, base ≤ b → P b) : w'.ownsRow base e s v n xs := by
  obtain ⟨h1, h2 | ⟨g, cap, cur, hv, hbg, hg, h3⟩⟩ := h
  · exact ⟨h1, .inl h2⟩
  · exact ⟨h1, .inr ⟨g, cap, cur, hv, hbg, by rw [ha g (hp g hbg) (Array.getElem?_eq_some_iff.1 hg).1]; exact hg, h3⟩⟩
theorem vIn_nums {P : Nat → Prop} {w : World} {base : Nat} {u : Value} {ns : List Nat} (h : w.ownsRow base 40 35 u ns.length (rowN ns)) (h64 : ∀ n ∈ ns, n < 18446744073709551616) (hp : ∀ b, base ≤ b → P b) : VIn P w (numsV ns) nilS u := fun w' ha => vAt_nums (own_agr h ha hp) h64
/-- A row of values, made. -/
theorem kIn_of {P : Nat → Prop} {w w' : World} {t : TypeId} {cs : List Value} (hg : HasC w' w.heap.size t cs) (hb : Below w.heap.size w w') (hp : P w.heap.size) (xs : List (Vt × Value × Value)) (h : ∀ (j : Nat) (v : Value), (rowV xs).flatten[j]? = some v → cs[0 + j]? = some v) (hv : ∀ x ∈ xs, VIn P w x.1 x.2.1 x.2.2) : KIn P w' (xs.map (·.1)) w.heap.size 0 :=
  fun w'' ha => ksAt_of (hg.agr ha hp) xs 0 h (fun x hx => hv x hx w'' (ha.below hb))
theorem vIn_all {P : Nat → Prop} {w : World} {b k : Nat} {ks : List Vt} (hk : ks.length = k) (hm : k ≤ maxLen) (h : KIn P w ks b 0) : VIn P w (.mk 0 (zeros 32) [] ks) nilS (.slice (some ⟨b, 0, none⟩) k k) := fun w' ha => isV_all hk hm (h w' ha)
end Go.Proofs.YtfmecdmkepnlmaaDoor

/- The root of a struct (DepositData), by the program. -/
namespace Go.Proofs.YtfmecdmkepnlmaaDoor
open Go.RowKit Go.Shelf
set_option linter.unusedVariables false
set_option linter.unusedSimpArgs false
set_option maxRecDepth 100000

def ddP (zk : List Nat) (zcr : List Nat) (zam : Nat) (zsg : List Nat) : List (List Value) := [cellsB zk, cellsB zcr, [.int .u64 (zam : Nat)], cellsB zsg]
def ddC (zk : List Nat) (zcr : List Nat) (zam : Nat) (zsg : List Nat) : List Value := (ddP zk zcr zam zsg).flatten
theorem ddC_length (zk : List Nat) (zcr : List Nat) (zam : Nat) (zsg : List Nat) (hzk : zk.length = 32) (hzcr : zcr.length = 32) (hzsg : zsg.length = 32) : (ddC zk zcr zam zsg).length = 97 := by simp [ddC, ddP, cellsB_length, hzk, hzcr, hzsg]
def ddR (zk : List Nat) (zcr : List Nat) (zam : Nat) (zsg : List Nat) : List Nat := fullR (depth (([zk, zcr, wUp zam 8, zsg] : List (List Nat)).length : Nat)) [zk, zcr, wUp zam 8, zsg]
theorem ddR_rt (zk : List Nat) (zcr : List Nat) (zam : Nat) (zsg : List Nat) (hzk : Rt zk) (hzcr : Rt zcr) (hzsg : Rt zsg) : Rt (ddR zk zcr zam zsg) := full_rt _ _ (Rts.more hzk (Rts.more hzcr (Rts.more (wUp_rt zam 8) (Rts.more hzsg Rts.nil))))
set_option maxHeartbeats 2000000 in
theorem ddR_any (zk : List Nat) (zcr : List Nat) (zam : Nat) (zsg : List Nat) (hzk : Rt zk) (hzcr : Rt zcr) (hzam : zam < 18446744073709551616) (hzsg : Rt zsg) (w : World) (hT : Tabs w) :
    Calls Tryd.prog 24 #[.agg (ddC zk zcr zam zsg).toArray] w fun x w' => x = .returned (.agg (nums .u8 (ddR zk zcr zam zsg))) ∧ Below w.heap.size w w' := by
  have hfr := ddR_rt zk zcr zam zsg hzk hzcr hzsg
  obtain ⟨W, HW⟩ : ∃ W, Hid (ddR zk zcr zam zsg = W) := ⟨_, hid rfl⟩
  rw [HW.out] at hfr ⊢
  go_enter Tryd.func24, Tryd.ntmps24
  go_wp2_with ((with_reducible refine at_list' ?_); first
    | (refine wpList_box_c rfl 1 rfl (.tmp 0) rfl (ddC zk zcr zam zsg) rfl ?_; intro w1 H1 B1 S1)
    | (refine wpList_alloc_has rfl 2 rfl 25 rfl .u8 32 Tryd.zero25 ?_; intro w2 H2 B2 S2; rw [S1] at H2 S2; rw [S1]))
  have HX := hid (H1.keep B2)
  have HY := hid H2
  have HB := hid (B1.trans (B2.mono (by omega)))
  have HT := hid (hT.keep HB.out)
  have s2 : w2.heap.size = w.heap.size + 2 := by omega
  clear H1 B1 S1 H2 B2 S2
  try simp only [Act.put, List.setIfInBounds_toArray, List.set_cons_succ, List.set_cons_zero]
  refine wp_region_flow 11 11 (fun i v wq => match i with
    | 0 => v = .pointer (some ⟨w.heap.size, 0, none⟩)
    | 1 => v = .agg (nums .u8 zk)
    | 2 => v = .pointer (some ⟨w.heap.size, 32, none⟩)
    | 3 => v = .agg (nums .u8 zcr)
    | 4 => v = .pointer (some ⟨w.heap.size, 64, none⟩)
    | 5 => v = .int .u64 (zam : Nat)
    | 6 => v = .agg (nums .u8 (wUp zam 8))
    | 7 => v = .pointer (some ⟨w.heap.size, 65, none⟩)
    | 8 => v = .agg (nums .u8 zsg)
    | 9 => ∃ b, v = .slice (some ⟨b, 0, none⟩) 4 4 ∧ RootsAt wq (some ⟨b, 0, none⟩) [zk, zcr, wUp zam 8, zsg]
    | _ => v = .agg (nums .u8 W)) (by kernel_rfl) (by kernel_rfl) (fun _ d _ _ _ h => by cases d <;> exact h) ?_ ?_ ?_ ?_
  · intro i v wq wq' hi hv hb
    match i, hi with
    | 0, _ => exact hv
    | 1, _ => exact hv
    | 2, _ => exact hv
    | 3, _ => exact hv
    | 4, _ => exact hv
    | 5, _ => exact hv
    | 6, _ => exact hv
    | 7, _ => exact hv
    | 8, _ => exact hv
    | 9, _ => obtain ⟨b, h1, h2⟩ := hv; exact ⟨b, h1, h2.keep hb⟩
    | 10, _ => exact hv
    | (k + 11), hk => exact absurd hk (by omega)
  · intro i o hi ho aq wq hc hk hdep
    match i, hi with
    | 0, _ =>
      cases ho
      have e1 : aq.tmps.getD 1 undef = .pointer (some ⟨w.heap.size, 0, none⟩) := hk 1 (by decide)
      exact flow_value _ (run_fieldAt 50 (.tmp 1) 0 rfl _ _ e1 (by kernel_rfl)) rfl
    | 1, _ =>
      cases ho
      have e0 : aq.tmps.getD 3 undef = .pointer (some ⟨w.heap.size, 0, none⟩) := hdep 0 3 rfl (by kernel_rfl)
      exact flow_value _ (run_mid 25 (.tmp 3) rfl w.heap.size 0 e0 (cellsB zk) ((HX.out.keep (hcB hc)).range 0 (cellsB zk) (seg (ps := ddP zk zcr zam zsg) (i := 0) (off := 0) rfl (by simp [ddP, cellsB_length, hzk.len, hzcr.len, hzsg.len]))) _ Tryd.und25 rfl (by rw [cellsB_length, hzk.len]; exact Tryd.size25)) rfl
    | 2, _ =>
      cases ho
      have e1 : aq.tmps.getD 1 undef = .pointer (some ⟨w.heap.size, 0, none⟩) := hk 1 (by decide)
      exact flow_value _ (run_fieldAt 50 (.tmp 1) 1 rfl _ _ e1 (by kernel_rfl)) rfl
    | 3, _ =>
      cases ho
      have e0 : aq.tmps.getD 5 undef = .pointer (some ⟨w.heap.size, 32, none⟩) := hdep 2 5 rfl (by kernel_rfl)
      exact flow_value _ (run_mid 25 (.tmp 5) rfl w.heap.size 32 e0 (cellsB zcr) ((HX.out.keep (hcB hc)).range 32 (cellsB zcr) (seg (ps := ddP zk zcr zam zsg) (i := 1) (off := 32) rfl (by simp [ddP, cellsB_length, hzk.len, hzcr.len, hzsg.len]))) _ Tryd.und25 rfl (by rw [cellsB_length, hzcr.len]; exact Tryd.size25)) rfl
    | 4, _ =>
      cases ho
      have e1 : aq.tmps.getD 1 undef = .pointer (some ⟨w.heap.size, 0, none⟩) := hk 1 (by decide)
      exact flow_value _ (run_fieldAt 50 (.tmp 1) 2 rfl _ _ e1 (by kernel_rfl)) rfl
    | 5, _ =>
      cases ho
      have e0 : aq.tmps.getD 7 undef = .pointer (some ⟨w.heap.size, 64, none⟩) := hdep 4 7 rfl (by kernel_rfl)
      exact flow_value _ (run_cell 23 (.tmp 7) rfl _ e0 _ ((HX.out.keep (hcB hc)).cell (seg (ps := ddP zk zcr zam zsg) (i := 2) (off := 64) rfl (by simp [ddP, cellsB_length, hzk.len, hzcr.len, hzsg.len]) 0 _ rfl)) _ Tryd.underlying23 rfl) rfl
    | 6, _ =>
      cases ho
      have e0 : aq.tmps.getD 8 undef = .int .u64 (zam : Nat) := hdep 5 8 rfl (by kernel_rfl)
      refine flow_fun 58 _ _ rfl (fun _ _ => by simp [go_sem]) #[.int .u64 (zam : Nat)] (by rw [show (#[Operand.tmp 8] : Array Operand).map aq.eval = #[aq.tmps.getD 8 undef] from by simp [Act.eval], e0]) ?_
      refine (number_any zam hzam wq).mono ?_
      rintro x w' ⟨rfl, q⟩
      exact ⟨_, rfl, rfl, q⟩
    | 7, _ =>
      cases ho
      have e1 : aq.tmps.getD 1 undef = .pointer (some ⟨w.heap.size, 0, none⟩) := hk 1 (by decide)
      exact flow_value _ (run_fieldAt 50 (.tmp 1) 3 rfl _ _ e1 (by kernel_rfl)) rfl
    | 8, _ =>
      cases ho
      have e0 : aq.tmps.getD 10 undef = .pointer (some ⟨w.heap.size, 65, none⟩) := hdep 7 10 rfl (by kernel_rfl)
      exact flow_value _ (run_mid 25 (.tmp 10) rfl w.heap.size 65 e0 (cellsB zsg) ((HX.out.keep (hcB hc)).range 65 (cellsB zsg) (seg (ps := ddP zk zcr zam zsg) (i := 3) (off := 65) rfl (by simp [ddP, cellsB_length, hzk.len, hzcr.len, hzsg.len]))) _ Tryd.und25 rfl (by rw [cellsB_length, hzsg.len]; exact Tryd.size25)) rfl
    | 9, _ =>
      cases ho
      have e0 : aq.tmps.getD 4 undef = .agg (nums .u8 zk) := hdep 1 4 rfl (by kernel_rfl)
      have e1 : aq.tmps.getD 6 undef = .agg (nums .u8 zcr) := hdep 3 6 rfl (by kernel_rfl)
      have e2 : aq.tmps.getD 9 undef = .agg (nums .u8 (wUp zam 8)) := hdep 6 9 rfl (by kernel_rfl)
      have e3 : aq.tmps.getD 11 undef = .agg (nums .u8 zsg) := hdep 8 11 rfl (by kernel_rfl)
      exact flow_rows 96 25 4 32 _ rfl Tryd.underlying96 rootInfo6 [cellsB (zk), cellsB (zcr), cellsB (wUp zam 8), cellsB (zsg)] [.tmp 4, .tmp 6, .tmp 9, .tmp 11] rfl (by rw [show [Operand.tmp 4, Operand.tmp 6, Operand.tmp 9, Operand.tmp 11].map aq.eval = [aq.tmps.getD 4 undef, aq.tmps.getD 6 undef, aq.tmps.getD 9 undef, aq.tmps.getD 11 undef] from rfl, e0, e1, e2, e3]; rfl) (by simp [cellsB_length, (hzk).len, (hzcr).len, ((wUp_rt zam 8)).len, (hzsg).len]) rfl (by decide) (by decide) (by decide) (fun w' h => ⟨_, rfl, hasC_roots (rs := [zk, zcr, wUp zam 8, zsg]) h (Rts.more hzk (Rts.more hzcr (Rts.more (wUp_rt zam 8) (Rts.more hzsg Rts.nil))))⟩)
    | 10, _ =>
      cases ho
      obtain ⟨b, e6, h6⟩ := hdep 9 12 rfl (by kernel_rfl)
      refine flow_fun 36 _ _ rfl (fun _ _ => by simp [go_sem]) #[.slice (some ⟨b, 0, none⟩) 4 4] (by rw [show (#[Operand.tmp 12] : Array Operand).map aq.eval = #[aq.tmps.getD 12 undef] from by simp [Act.eval], e6]) ?_
      refine (cont_any (some ⟨b, 0, none⟩) 4 [zk, zcr, wUp zam 8, zsg] wq (HT.out.keep (hcB hc)) (Nat.le_refl _) (by decide) (by show 4 ≤ 1048576; decide) h6).mono ?_
      rintro x w' ⟨rfl, q⟩
      exact ⟨_, rfl, (by rw [← HW.out]; rfl), q⟩
    | (k + 11), hk => exact absurd hk (by omega)
  · intro o h11 ho
    omega
  intro vf w8 hc hv
  have e7 : vf 10 = _ := hv 10 13 (by decide) rfl
  have B8 := HB.out.trans ((hcB hc).mono (by omega))
  have H8v := HY.out.keep (hcB hc)
  have s8 := (hcB hc).size
  clear hv hc
  simp only [List.take_succ_cons, List.take_zero, List.drop_succ_cons, List.drop_zero, putAll, Act.put, List.setIfInBounds_toArray, List.set_cons_succ, List.set_cons_zero]
  rw [e7]
  have HB8 := hid B8
  clear B8 e7 HB
  go_wp2_with ((with_reducible refine at_list' ?_); first
    | (refine wpList_store_has rfl 25 (.tmp 2) (.tmp 13) rfl (w.heap.size + 1) .u8 W (zeros 32) rfl rfl 25 H8v (hfr.size _ Tryd.size25) (by rw [hfr.len, zeros_length]) ?_; intro w9 H9 O9))
  refine bodyPost_ret (results_has rfl _ _ (w.heap.size + 1) 25 .u8 W _ _ rfl H9 Tryd.und25 (hfr.size _ Tryd.size25)) rfl ?_
  exact ⟨rfl, below_only HB8.out O9 (by omega)⟩
end Go.Proofs.YtfmecdmkepnlmaaDoor

/- The root of a Deposit, by the program. -/
namespace Go.Proofs.YtfmecdmkepnlmaaDoor
open Go.RowKit Go.Shelf
set_option linter.unusedVariables false
set_option linter.unusedSimpArgs false
set_option maxRecDepth 100000

def dpP (zp : List (List Nat)) (zdzk : List Nat) (zdzcr : List Nat) (zdzam : Nat) (zdzsg : List Nat) : List (List Value) := [cellsOf zp, ddC zdzk zdzcr zdzam zdzsg]
def dpC (zp : List (List Nat)) (zdzk : List Nat) (zdzcr : List Nat) (zdzam : Nat) (zdzsg : List Nat) : List Value := (dpP zp zdzk zdzcr zdzam zdzsg).flatten
theorem dpC_length (zp : List (List Nat)) (zdzk : List Nat) (zdzcr : List Nat) (zdzam : Nat) (zdzsg : List Nat) (hzp : Rts zp) (hzpl : zp.length = 6) (h1 : zdzk.length = 32) (h2 : zdzcr.length = 32) (h3 : zdzsg.length = 32) : (dpC zp zdzk zdzcr zdzam zdzsg).length = 289 := by simp [dpC, dpP, cellsOf_length zp hzp, hzpl, ddC_length zdzk zdzcr zdzam zdzsg h1 h2 h3]
def dpR (zp : List (List Nat)) (zdzk : List Nat) (zdzcr : List Nat) (zdzam : Nat) (zdzsg : List Nat) : List Nat := fullR (depth (([(fullR (depth ((6 : Nat) : Int)) zp), ddR zdzk zdzcr zdzam zdzsg] : List (List Nat)).length : Nat)) [(fullR (depth ((6 : Nat) : Int)) zp), ddR zdzk zdzcr zdzam zdzsg]
theorem dpR_rt (zp : List (List Nat)) (zdzk : List Nat) (zdzcr : List Nat) (zdzam : Nat) (zdzsg : List Nat) (hzp : Rts zp) (h1 : Rt zdzk) (h2 : Rt zdzcr) (h3 : Rt zdzsg) : Rt (dpR zp zdzk zdzcr zdzam zdzsg) := full_rt _ _ (Rts.more (full_rt _ _ hzp) (Rts.more (ddR_rt zdzk zdzcr zdzam zdzsg h1 h2 h3) Rts.nil))
theorem dp_roots {w : World} {g : Nat} {t : TypeId} (zp : List (List Nat)) (zdzk : List Nat) (zdzcr : List Nat) (zdzam : Nat) (zdzsg : List Nat) (hzp : Rts zp) (h : HasC w g t (dpC zp zdzk zdzcr zdzam zdzsg)) : RootsAt w (some ⟨g, 0, none⟩) zp :=
  ⟨hzp, .inr ⟨g, 0, rfl, fun i hi => by
    rw [Nat.zero_add]
    refine h.cell ?_
    rw [dpC, dpP, List.flatten_cons, List.getElem?_append_left (by rw [cellsOf, List.length_map]; exact hi), cellsOf, List.getElem?_map, List.getElem?_eq_getElem hi, List.getD_eq_getElem?_getD, List.getElem?_eq_getElem hi]
    rfl⟩⟩
theorem run_slice6 {o : Oper} {a : Act} {w : World} (x : Operand) (ho : o.op = .slice 48 x none none none) (g : Nat) (hx : a.eval x = .pointer (some ⟨g, 0, none⟩)) : (execOp a.eval o).run Tryd.prog w = .ok (.value (.slice (some ⟨g, 0, none⟩) 6 6)) w := by
  unfold execOp
  simp only [ho, hx, Option.map]
  go_simp
set_option maxHeartbeats 2000000 in
theorem dpR_any (zp : List (List Nat)) (zdzk : List Nat) (zdzcr : List Nat) (zdzam : Nat) (zdzsg : List Nat) (hzp : Rts zp) (hzpl : zp.length = 6) (hzdzk : Rt zdzk) (hzdzcr : Rt zdzcr) (hzdzam : zdzam < 18446744073709551616) (hzdzsg : Rt zdzsg) (w : World) (hT : Tabs w) :
    Calls Tryd.prog 15 #[.agg (dpC zp zdzk zdzcr zdzam zdzsg).toArray] w fun x w' => x = .returned (.agg (nums .u8 (dpR zp zdzk zdzcr zdzam zdzsg))) ∧ Below w.heap.size w w' := by
  have hfr := dpR_rt zp zdzk zdzcr zdzam zdzsg hzp hzdzk hzdzcr hzdzsg
  unfold dpR at hfr ⊢
  have hX6 : Rt (fullR (depth ((6 : Nat) : Int)) zp) := full_rt _ _ hzp
  have hD6 := ddR_rt zdzk zdzcr zdzam zdzsg hzdzk hzdzcr hzdzsg
  obtain ⟨X6, HX6⟩ : ∃ X, Same (fullR (depth ((6 : Nat) : Int)) zp) X := ⟨_, ⟨rfl⟩⟩
  obtain ⟨D6, HD6⟩ : ∃ X, Same (ddR zdzk zdzcr zdzam zdzsg) X := ⟨_, ⟨rfl⟩⟩
  rw [HX6.out] at hfr hX6 ⊢
  rw [HD6.out] at hfr hD6 ⊢
  obtain ⟨W, HW⟩ : ∃ W, Same (fullR (depth (([X6, D6] : List (List Nat)).length : Nat)) [X6, D6]) W := ⟨_, ⟨rfl⟩⟩
  rw [HW.out] at hfr ⊢
  go_enter Tryd.func15, Tryd.ntmps15
  go_wp2_with ((with_reducible refine at_list' ?_); first
    | (refine wpList_box_c rfl 1 rfl (.tmp 0) rfl (dpC zp zdzk zdzcr zdzam zdzsg) rfl ?_; intro w1 H1 B1 S1)
    | (refine wpList_alloc_has rfl 2 rfl 25 rfl .u8 32 Tryd.zero25 ?_; intro w2 H2 B2 S2; rw [S1] at H2 S2; rw [S1]))
  have HX := hid (H1.keep B2)
  have HY := hid H2
  have HB := hid (B1.trans (B2.mono (by omega)))
  have HT := hid (hT.keep HB.out)
  have s2 : w2.heap.size = w.heap.size + 2 := by omega
  clear H1 B1 S1 H2 B2 S2
  try simp only [Act.put, List.setIfInBounds_toArray, List.set_cons_succ, List.set_cons_zero]
  refine wp_region_flow 8 8 (fun i v wq => match i with
    | 0 => v = .pointer (some ⟨w.heap.size, 0, none⟩)
    | 1 => v = .slice (some ⟨w.heap.size, 0, none⟩) 6 6
    | 2 => v = .agg (nums .u8 X6)
    | 3 => v = .pointer (some ⟨w.heap.size, 192, none⟩)
    | 4 => v = .agg (ddC zdzk zdzcr zdzam zdzsg).toArray
    | 5 => v = .agg (nums .u8 D6)
    | 6 => ∃ b, v = .slice (some ⟨b, 0, none⟩) 2 2 ∧ RootsAt wq (some ⟨b, 0, none⟩) [X6, D6]
    | _ => v = .agg (nums .u8 W)) (by kernel_rfl) (by kernel_rfl) (fun _ d _ _ _ h => by cases d <;> exact h) ?_ ?_ ?_ ?_
  · intro i v wq wq' hi hv hb
    match i, hi with
    | 0, _ => exact hv
    | 1, _ => exact hv
    | 2, _ => exact hv
    | 3, _ => exact hv
    | 4, _ => exact hv
    | 5, _ => exact hv
    | 6, _ => obtain ⟨b, h1, h2⟩ := hv; exact ⟨b, h1, h2.keep hb⟩
    | 7, _ => exact hv
    | (k + 8), hk => exact absurd hk (by omega)
  · intro i o hi ho aq wq hc hk hdep
    match i, hi with
    | 0, _ =>
      cases ho
      have e1 : aq.tmps.getD 1 undef = .pointer (some ⟨w.heap.size, 0, none⟩) := hk 1 (by decide)
      exact flow_value _ (run_fieldAt 52 (.tmp 1) 0 rfl _ _ e1 (by kernel_rfl)) rfl
    | 1, _ =>
      cases ho
      have e0 : aq.tmps.getD 3 undef = .pointer (some ⟨w.heap.size, 0, none⟩) := hdep 0 3 rfl (by kernel_rfl)
      exact flow_value _ (run_slice6 (.tmp 3) rfl w.heap.size e0) rfl
    | 2, _ =>
      cases ho
      have e0 : aq.tmps.getD 4 undef = .slice (some ⟨w.heap.size, 0, none⟩) 6 6 := hdep 1 4 rfl (by kernel_rfl)
      refine flow_fun 36 _ _ rfl (fun _ _ => by simp [go_sem]) #[.slice (some ⟨w.heap.size, 0, none⟩) 6 6] (by rw [show (#[Operand.tmp 4] : Array Operand).map aq.eval = #[aq.tmps.getD 4 undef] from by simp [Act.eval], e0]) ?_
      have hcc := cont_any (some ⟨w.heap.size, 0, none⟩) 6 zp wq (HT.out.keep (hcB hc)) (by omega) (by decide) (by omega) (dp_roots zp zdzk zdzcr zdzam zdzsg hzp (HX.out.keep (hcB hc)))
      rw [hzpl] at hcc
      refine hcc.mono ?_
      rintro x w' ⟨rfl, q⟩
      exact ⟨_, rfl, (by rw [← HX6.out]; rfl), q⟩
    | 3, _ =>
      cases ho
      have e1 : aq.tmps.getD 1 undef = .pointer (some ⟨w.heap.size, 0, none⟩) := hk 1 (by decide)
      exact flow_value _ (run_fieldAt 52 (.tmp 1) 1 rfl _ _ e1 (by kernel_rfl)) rfl
    | 4, _ =>
      cases ho
      have e0 : aq.tmps.getD 6 undef = .pointer (some ⟨w.heap.size, 192, none⟩) := hdep 3 6 rfl (by kernel_rfl)
      exact flow_value _ (run_mid 50 (.tmp 6) rfl w.heap.size 192 e0 (ddC zdzk zdzcr zdzam zdzsg) ((HX.out.keep (hcB hc)).range 192 (ddC zdzk zdzcr zdzam zdzsg) (seg (ps := dpP zp zdzk zdzcr zdzam zdzsg) (i := 1) (off := 192) rfl (by simp [dpP, cellsOf_length zp hzp, hzpl]))) _ Tryd.underlying50 rfl (by rw [ddC_length zdzk zdzcr zdzam zdzsg hzdzk.len hzdzcr.len hzdzsg.len]; kernel_rfl)) rfl
    | 5, _ =>
      cases ho
      have e0 : aq.tmps.getD 7 undef = .agg (ddC zdzk zdzcr zdzam zdzsg).toArray := hdep 4 7 rfl (by kernel_rfl)
      refine flow_fun 24 _ _ rfl (fun _ _ => by simp [go_sem]) #[.agg (ddC zdzk zdzcr zdzam zdzsg).toArray] (by rw [show (#[Operand.tmp 7] : Array Operand).map aq.eval = #[aq.tmps.getD 7 undef] from by simp [Act.eval], e0]) ?_
      refine (ddR_any zdzk zdzcr zdzam zdzsg hzdzk hzdzcr hzdzam hzdzsg wq (HT.out.keep (hcB hc))).mono ?_
      rintro x w' ⟨rfl, q⟩
      exact ⟨_, rfl, (by rw [← HD6.out]; rfl), q⟩
    | 6, _ =>
      cases ho
      have e0 : aq.tmps.getD 5 undef = .agg (nums .u8 X6) := hdep 2 5 rfl (by kernel_rfl)
      have e1 : aq.tmps.getD 8 undef = .agg (nums .u8 D6) := hdep 5 8 rfl (by kernel_rfl)
      exact flow_rows 96 25 2 32 _ rfl Tryd.underlying96 rootInfo6 [cellsB X6, cellsB D6] [.tmp 5, .tmp 8] rfl (by rw [show [Operand.tmp 5, Operand.tmp 8].map aq.eval = [aq.tmps.getD 5 undef, aq.tmps.getD 8 undef] from rfl, e0, e1]; rfl) (by simp [cellsB_length, hX6.len, hD6.len]) rfl (by decide) (by decide) (by decide) (fun w' h => ⟨_, rfl, hasC_roots (rs := [X6, D6]) h (Rts.more hX6 (Rts.more hD6 Rts.nil))⟩)
    | 7, _ =>
      cases ho
      obtain ⟨b, e6, h6⟩ := hdep 6 9 rfl (by kernel_rfl)
      refine flow_fun 36 _ _ rfl (fun _ _ => by simp [go_sem]) #[.slice (some ⟨b, 0, none⟩) 2 2] (by rw [show (#[Operand.tmp 9] : Array Operand).map aq.eval = #[aq.tmps.getD 9 undef] from by simp [Act.eval], e6]) ?_
      refine (cont_any (some ⟨b, 0, none⟩) 2 [X6, D6] wq (HT.out.keep (hcB hc)) (Nat.le_refl _) (by decide) (by show 2 ≤ 1048576; decide) h6).mono ?_
      rintro x w' ⟨rfl, q⟩
      exact ⟨_, rfl, (by rw [← HW.out]; rfl), q⟩
    | (k + 8), hk => exact absurd hk (by omega)
  · intro o h8 ho
    omega
  intro vf w8 hc hv
  have e7 : vf 7 = _ := hv 7 10 (by decide) rfl
  have B8 := HB.out.trans ((hcB hc).mono (by omega))
  have H8v := HY.out.keep (hcB hc)
  have s8 := (hcB hc).size
  clear hv hc
  simp only [List.take_succ_cons, List.take_zero, List.drop_succ_cons, List.drop_zero, putAll, Act.put, List.setIfInBounds_toArray, List.set_cons_succ, List.set_cons_zero]
  rw [e7]
  have HB8 := hid B8
  clear B8 e7 HB
  go_wp2_with ((with_reducible refine at_list' ?_); first
    | (refine wpList_store_has rfl 25 (.tmp 2) (.tmp 10) rfl (w.heap.size + 1) .u8 W (zeros 32) rfl rfl 25 H8v (hfr.size _ Tryd.size25) (by rw [hfr.len, zeros_length]) ?_; intro w9 H9 O9))
  refine bodyPost_ret (results_has rfl _ _ (w.heap.size + 1) 25 .u8 W _ _ rfl H9 Tryd.und25 (hfr.size _ Tryd.size25)) rfl ?_
  exact ⟨rfl, below_only HB8.out O9 (by omega)⟩
end Go.Proofs.YtfmecdmkepnlmaaDoor

/- The document's value of a struct (DepositData), and where it lies. -/
namespace Go.Proofs.YtfmecdmkepnlmaaDoor
open Go.RowKit Go.Shelf
set_option linter.unusedVariables false
set_option linter.unusedSimpArgs false
set_option maxRecDepth 100000

def ddU (zk : List Nat) (zcr : List Nat) (zam : Nat) (zsg : List Nat) : Vt := .mk 0 (zeros 32) [] [.mk 0 zk [] [], .mk 0 zcr [] [], .mk zam (zeros 32) [] [], .mk 0 zsg [] []]
set_option maxHeartbeats 2000000 in
theorem ddW_any (P : Nat → Prop) (zk : List Nat) (zcr : List Nat) (zam : Nat) (zsg : List Nat) (hzk : Rt zk) (hzcr : Rt zcr) (hzam : zam < 18446744073709551616) (hzsg : Rt zsg) (w : World) (hP : ∀ b, w.heap.size ≤ b → P b) : Calls Tryd.prog 26 #[.agg (ddC zk zcr zam zsg).toArray] w fun x w' => ∃ v, x = .returned v ∧ IsVI P w' v (ddU zk zcr zam zsg) ∧ Below w.heap.size w w' := by
  go_enter Tryd.func26, Tryd.ntmps26
  go_wp2_with ((with_reducible refine at_list' ?_); first
    | (refine wpList_box_c rfl 1 rfl (.tmp 0) rfl (ddC zk zcr zam zsg) rfl ?_; intro w1 H1 B1 S1)
    | (refine wpList_alloc_c Tryd.ty40 rfl 2 rfl rfl ?_; intro w2 H2 B2 S2; rw [S1] at H2 S2; rw [S1]))
  have HX := hid (H1.keep B2)
  have HY := hid H2
  have HB := hid (B1.trans (B2.mono (by omega)))
  have s2 : w2.heap.size = w.heap.size + 2 := by omega
  obtain ⟨P1, hP1⟩ : ∃ P1 : Nat → Prop, Same (fun b => P b ∧ b ≠ w.heap.size + 1) P1 := ⟨_, ⟨rfl⟩⟩
  have HP1 := hid (fun (wq : World) (h : w2.heap.size ≤ wq.heap.size) b (hb : wq.heap.size ≤ b) => show P1 b by rw [← hP1.out]; exact ⟨hP b (by omega), by omega⟩)
  clear H1 B1 S1 H2 B2 S2
  try simp only [Act.put, List.setIfInBounds_toArray, List.set_cons_succ, List.set_cons_zero]
  refine wp_region_flow 14 14 (fun i v wq => match i with
    | 0 => v = .pointer (some ⟨w.heap.size, 0, none⟩)
    | 1 => v = .agg (nums .u8 zk)
    | 2 => IsVI P1 wq v (.mk 0 zk [] [])
    | 3 => v = .pointer (some ⟨w.heap.size, 32, none⟩)
    | 4 => v = .agg (nums .u8 zcr)
    | 5 => IsVI P1 wq v (.mk 0 zcr [] [])
    | 6 => v = .pointer (some ⟨w.heap.size, 64, none⟩)
    | 7 => v = .int .u64 (zam : Nat)
    | 8 => IsVI P1 wq v (.mk zam (zeros 32) [] [])
    | 9 => v = .pointer (some ⟨w.heap.size, 65, none⟩)
    | 10 => v = .agg (nums .u8 zsg)
    | 11 => IsVI P1 wq v (.mk 0 zsg [] [])
    | 12 => ∃ b, v = .slice (some ⟨b, 0, none⟩) 4 4 ∧ KIn P1 wq [.mk 0 zk [] [], .mk 0 zcr [] [], .mk zam (zeros 32) [] [], .mk 0 zsg [] []] b 0
    | _ => ∃ b, v = .agg (valL 0 (zeros 32) nilS (.slice (some ⟨b, 0, none⟩) 4 4)).toArray ∧ KIn P1 wq [.mk 0 zk [] [], .mk 0 zcr [] [], .mk zam (zeros 32) [] [], .mk 0 zsg [] []] b 0) (by kernel_rfl) (by kernel_rfl) (fun _ d _ _ _ h => by cases d <;> exact h) ?_ ?_ ?_ ?_
  · intro i v wq wq' hi hv hb
    match i, hi with
    | 0, _ => exact hv
    | 1, _ => exact hv
    | 2, _ => exact hv.keep hb
    | 3, _ => exact hv
    | 4, _ => exact hv
    | 5, _ => exact hv.keep hb
    | 6, _ => exact hv
    | 7, _ => exact hv
    | 8, _ => exact hv.keep hb
    | 9, _ => exact hv
    | 10, _ => exact hv
    | 11, _ => exact hv.keep hb
    | 12, _ => obtain ⟨b, h1, h2⟩ := hv; exact ⟨b, h1, h2.keep hb⟩
    | 13, _ => obtain ⟨b, h1, h2⟩ := hv; exact ⟨b, h1, h2.keep hb⟩
    | (k + 14), hk => exact absurd hk (by omega)
  · intro i o hi ho aq wq hc hk hdep
    match i, hi with
    | 0, _ =>
      cases ho
      have e1 : aq.tmps.getD 1 undef = .pointer (some ⟨w.heap.size, 0, none⟩) := hk 1 (by decide)
      exact flow_value _ (run_fieldAt 50 (.tmp 1) 0 rfl _ _ e1 (by kernel_rfl)) rfl
    | 1, _ =>
      cases ho
      have e0 : aq.tmps.getD 3 undef = .pointer (some ⟨w.heap.size, 0, none⟩) := hdep 0 3 rfl (by kernel_rfl)
      exact flow_value _ (run_mid 25 (.tmp 3) rfl w.heap.size 0 e0 (cellsB zk) ((HX.out.keep (hcB hc)).range 0 (cellsB zk) (seg (ps := ddP zk zcr zam zsg) (i := 0) (off := 0) rfl (by simp [ddP, cellsB_length, hzk.len, hzcr.len, hzsg.len]))) _ Tryd.und25 rfl (by rw [cellsB_length, hzk.len]; exact Tryd.size25)) rfl
    | 2, _ =>
      cases ho
      have e0 : aq.tmps.getD 4 undef = .agg (nums .u8 zk) := hdep 1 4 rfl (by kernel_rfl)
      refine flow_fun 53 _ _ rfl (fun _ _ => by simp [go_sem]) #[.agg (nums .u8 zk)] (by rw [show (#[Operand.tmp 4] : Array Operand).map aq.eval = #[aq.tmps.getD 4 undef] from by simp [Act.eval], e0]) ?_
      refine (r_any zk hzk.len wq).mono ?_
      rintro x w' ⟨rfl, q⟩
      exact ⟨_, rfl, IsVI.leaf P1 w' (by decide) hzk.len hzk.byte, q⟩
    | 3, _ =>
      cases ho
      have e1 : aq.tmps.getD 1 undef = .pointer (some ⟨w.heap.size, 0, none⟩) := hk 1 (by decide)
      exact flow_value _ (run_fieldAt 50 (.tmp 1) 1 rfl _ _ e1 (by kernel_rfl)) rfl
    | 4, _ =>
      cases ho
      have e0 : aq.tmps.getD 6 undef = .pointer (some ⟨w.heap.size, 32, none⟩) := hdep 3 6 rfl (by kernel_rfl)
      exact flow_value _ (run_mid 25 (.tmp 6) rfl w.heap.size 32 e0 (cellsB zcr) ((HX.out.keep (hcB hc)).range 32 (cellsB zcr) (seg (ps := ddP zk zcr zam zsg) (i := 1) (off := 32) rfl (by simp [ddP, cellsB_length, hzk.len, hzcr.len, hzsg.len]))) _ Tryd.und25 rfl (by rw [cellsB_length, hzcr.len]; exact Tryd.size25)) rfl
    | 5, _ =>
      cases ho
      have e0 : aq.tmps.getD 7 undef = .agg (nums .u8 zcr) := hdep 4 7 rfl (by kernel_rfl)
      refine flow_fun 53 _ _ rfl (fun _ _ => by simp [go_sem]) #[.agg (nums .u8 zcr)] (by rw [show (#[Operand.tmp 7] : Array Operand).map aq.eval = #[aq.tmps.getD 7 undef] from by simp [Act.eval], e0]) ?_
      refine (r_any zcr hzcr.len wq).mono ?_
      rintro x w' ⟨rfl, q⟩
      exact ⟨_, rfl, IsVI.leaf P1 w' (by decide) hzcr.len hzcr.byte, q⟩
    | 6, _ =>
      cases ho
      have e1 : aq.tmps.getD 1 undef = .pointer (some ⟨w.heap.size, 0, none⟩) := hk 1 (by decide)
      exact flow_value _ (run_fieldAt 50 (.tmp 1) 2 rfl _ _ e1 (by kernel_rfl)) rfl
    | 7, _ =>
      cases ho
      have e0 : aq.tmps.getD 9 undef = .pointer (some ⟨w.heap.size, 64, none⟩) := hdep 6 9 rfl (by kernel_rfl)
      exact flow_value _ (run_cell 23 (.tmp 9) rfl _ e0 _ ((HX.out.keep (hcB hc)).cell (seg (ps := ddP zk zcr zam zsg) (i := 2) (off := 64) rfl (by simp [ddP, cellsB_length, hzk.len, hzcr.len, hzsg.len]) 0 _ rfl)) _ Tryd.underlying23 rfl) rfl
    | 8, _ =>
      cases ho
      have e0 : aq.tmps.getD 10 undef = .int .u64 (zam : Nat) := hdep 7 10 rfl (by kernel_rfl)
      refine flow_fun 57 _ _ rfl (fun _ _ => by simp [go_sem]) #[.int .u64 (zam : Nat)] (by rw [show (#[Operand.tmp 10] : Array Operand).map aq.eval = #[aq.tmps.getD 10 undef] from by simp [Act.eval], e0]) ?_
      refine (n_any zam wq).mono ?_
      rintro x w' ⟨rfl, q⟩
      exact ⟨_, rfl, IsVI.leaf P1 w' hzam zeros32 (zeros_byte 32), q⟩
    | 9, _ =>
      cases ho
      have e1 : aq.tmps.getD 1 undef = .pointer (some ⟨w.heap.size, 0, none⟩) := hk 1 (by decide)
      exact flow_value _ (run_fieldAt 50 (.tmp 1) 3 rfl _ _ e1 (by kernel_rfl)) rfl
    | 10, _ =>
      cases ho
      have e0 : aq.tmps.getD 12 undef = .pointer (some ⟨w.heap.size, 65, none⟩) := hdep 9 12 rfl (by kernel_rfl)
      exact flow_value _ (run_mid 25 (.tmp 12) rfl w.heap.size 65 e0 (cellsB zsg) ((HX.out.keep (hcB hc)).range 65 (cellsB zsg) (seg (ps := ddP zk zcr zam zsg) (i := 3) (off := 65) rfl (by simp [ddP, cellsB_length, hzk.len, hzcr.len, hzsg.len]))) _ Tryd.und25 rfl (by rw [cellsB_length, hzsg.len]; exact Tryd.size25)) rfl
    | 11, _ =>
      cases ho
      have e0 : aq.tmps.getD 13 undef = .agg (nums .u8 zsg) := hdep 10 13 rfl (by kernel_rfl)
      refine flow_fun 53 _ _ rfl (fun _ _ => by simp [go_sem]) #[.agg (nums .u8 zsg)] (by rw [show (#[Operand.tmp 13] : Array Operand).map aq.eval = #[aq.tmps.getD 13 undef] from by simp [Act.eval], e0]) ?_
      refine (r_any zsg hzsg.len wq).mono ?_
      rintro x w' ⟨rfl, q⟩
      exact ⟨_, rfl, IsVI.leaf P1 w' (by decide) hzsg.len hzsg.byte, q⟩
    | 12, _ =>
      cases ho
      obtain ⟨sb0, sk0, e0, h0_⟩ := hdep 2 5 rfl (by kernel_rfl)
      obtain ⟨sb1, sk1, e1, h1_⟩ := hdep 5 8 rfl (by kernel_rfl)
      obtain ⟨sb2, sk2, e2, h2_⟩ := hdep 8 11 rfl (by kernel_rfl)
      obtain ⟨sb3, sk3, e3, h3_⟩ := hdep 11 14 rfl (by kernel_rfl)
      refine flow_rowsB 38 40 4 35 _ rfl Tryd.underlying38 valInfo [valL 0 zk sb0 sk0, valL 0 zcr sb1 sk1, valL zam (zeros 32) sb2 sk2, valL 0 zsg sb3 sk3] [.tmp 5, .tmp 8, .tmp 11, .tmp 14] rfl (by rw [show [Operand.tmp 5, Operand.tmp 8, Operand.tmp 11, Operand.tmp 14].map aq.eval = [aq.tmps.getD 5 undef, aq.tmps.getD 8 undef, aq.tmps.getD 11 undef, aq.tmps.getD 14 undef] from rfl, e0, e1, e2, e3]; rfl) (by simp [valL_length, zeros32, hzk.len, hzcr.len, hzsg.len]) rfl (by decide) (by decide) (by decide) (fun w' h hb => ⟨_, rfl, kIn_of h hb (HP1.out wq (hcB hc).size _ (Nat.le_refl _)) [(.mk 0 zk [] [], sb0, sk0), (.mk 0 zcr [] [], sb1, sk1), (.mk zam (zeros 32) [] [], sb2, sk2), (.mk 0 zsg [] [], sb3, sk3)] (fun j v hj => by rw [Nat.zero_add]; exact hj) (fun x hx => ?_)⟩)
      simp only [List.mem_cons, List.not_mem_nil, or_false] at hx
      rcases hx with rfl | rfl | rfl | rfl
      · exact h0_
      · exact h1_
      · exact h2_
      · exact h3_
    | 13, _ =>
      cases ho
      obtain ⟨b, e6, h6⟩ := hdep 12 15 rfl (by kernel_rfl)
      refine flow_fun 51 _ _ rfl (fun _ _ => by simp [go_sem]) #[.slice (some ⟨b, 0, none⟩) 4 4] (by rw [show (#[Operand.tmp 15] : Array Operand).map aq.eval = #[aq.tmps.getD 15 undef] from by simp [Act.eval], e6]) ?_
      refine (all_any (some ⟨b, 0, none⟩) 4 4 wq).mono ?_
      rintro x w' ⟨rfl, q⟩
      exact ⟨_, rfl, ⟨b, rfl, h6.keep q⟩, q⟩
    | (k + 14), hk => exact absurd hk (by omega)
  · intro o h14 ho
    omega
  intro vf w8 hc hv
  have e7 : ∃ b, vf 13 = _ ∧ KIn P1 w8 _ b 0 := hv 13 16 (by decide) rfl
  obtain ⟨b, e7, h7⟩ := e7
  have B8 := HB.out.trans ((hcB hc).mono (by omega))
  have H8v := HY.out.keep (hcB hc)
  have s8 := (hcB hc).size
  clear hv hc
  simp only [List.take_succ_cons, List.take_zero, List.drop_succ_cons, List.drop_zero, putAll, Act.put, List.setIfInBounds_toArray, List.set_cons_succ, List.set_cons_zero]
  rw [e7]
  have HB8 := hid B8
  have HK := hid h7
  clear B8 h7 e7 HB
  go_wp2_with ((with_reducible refine at_list' ?_); first
    | (refine wpList_store_c Tryd.ty40 rfl (.tmp 2) (.tmp 16) rfl (w.heap.size + 1) (valL 0 (zeros 32) nilS (.slice (some ⟨b, 0, none⟩) 4 4)) rfl rfl rfl (valL_oneC _ _ _ _ trivial trivial) _ H8v rfl ?_; intro w9 H9 O9))
  refine bodyPost_ret (results_c1 Tryd.ty40 rfl _ w9 (w.heap.size + 1) _ rfl H9 rfl) rfl ⟨_, rfl, ⟨nilS, _, rfl, ?_⟩, below_only HB8.out O9 (by omega)⟩
  have hk := HK.out
  rw [← hP1.out] at hk
  exact vIn_all (ks := [.mk 0 zk [] [], .mk 0 zcr [] [], .mk zam (zeros 32) [] [], .mk 0 zsg [] []]) rfl (by decide) (hk.only O9)
end Go.Proofs.YtfmecdmkepnlmaaDoor

/- The document's value of a Deposit, and where it lies. -/
namespace Go.Proofs.YtfmecdmkepnlmaaDoor
open Go.RowKit Go.Shelf
set_option linter.unusedVariables false
set_option linter.unusedSimpArgs false
set_option maxRecDepth 100000

/-- The cells of roots as values. -/
def rowR (rs : List (List Nat)) : List Value := (rs.map fun r => valL 0 r nilS nilS).flatten
def vecV (rs : List (List Nat)) : Vt := .mk 0 (zeros 32) [] (rs.map fun r => .mk 0 r [] [])
theorem rowV_vec (rs : List (List Nat)) : (rowV (rs.map fun r => (Vt.mk 0 r [] [], nilS, nilS))).flatten = rowR rs := by
  induction rs with
  | nil => rfl
  | cons n ns ih => rw [List.map_cons, rowV, List.flatten_cons, ih]; rfl
theorem vAt_vec {w : World} {base : Nat} {u : Value} {rs : List (List Nat)} (h : w.ownsRow base 40 35 u rs.length (rowR rs)) (hr : Rts rs) : VAt w (vecV rs) nilS u := by
  rw [vecV, VAt]
  refine ⟨⟨by decide, zeros32, zeros_byte 32⟩, isT_nil w, ?_⟩
  rcases h.2 with ⟨rfl, h0⟩ | ⟨g, cap, cur, rfl, hb, hg, hnc, hm, hcs, htk⟩
  · have hz : rs = [] := List.eq_nil_of_length_eq_zero h0
    subst hz
    exact ⟨none, 0, rfl, Nat.le_refl _, by decide, .inl rfl⟩
  · refine ⟨some ⟨g, 0, none⟩, cap, by rw [List.length_map], by rw [List.length_map]; exact hnc, hm, .inr ⟨g, 0, rfl, ?_⟩⟩
    have hC : HasC w g 40 cur.toList := by unfold HasC; rw [Array.toArray_toList]; exact hg
    have hk := ksAt_of hC (rs.map fun r => (Vt.mk 0 r [] [], nilS, nilS)) 0 (fun j v hj => by
      rw [rowV_vec, ← htk] at hj
      rw [Nat.zero_add]
      rw [List.getElem?_take] at hj
      split at hj
      · exact hj
      · cases hj) (fun x hx => by
      obtain ⟨n, hn, rfl⟩ := List.mem_map.1 hx
      exact vAt_leaf w (by decide) (hr.len n hn) (hr.byte n hn))
    rw [List.map_map] at hk
    exact hk
theorem vIn_vec {P : Nat → Prop} {w : World} {base : Nat} {u : Value} {rs : List (List Nat)} (h : w.ownsRow base 40 35 u rs.length (rowR rs)) (hr : Rts rs) (hp : ∀ b, base ≤ b → P b) : VIn P w (vecV rs) nilS u := fun w' ha => vAt_vec (own_agr h ha hp) hr
theorem val_srcR {w : World} {b : Nat} {x : List Nat} (h : HasC w b 40 (valL 0 x nilS nilS)) (hx : x.length = 32) : Src Tryd.prog 35 38 (.slice (some ⟨b, 0, none⟩) 1 1) 1 (valL 0 x nilS nilS) w := by
  refine Src.ofSlice w Tryd.underlying38 ⟨b, 0, none⟩ 1 1 _ (by rw [valL_length _ _ _ _ hx]) (fun j u hj => by rw [Addr.add_lit, Nat.zero_add]; exact h.cell hj) (fun u hu => ?_)
  have := valL_oneC 0 x nilS nilS trivial trivial
  exact (Array.all_eq_true_iff_forall_mem.1 this) u (by simpa using hu)
theorem rowR_succ (rs : List (List Nat)) (t : Nat) (h : t < rs.length) : rowR (rs.take t) ++ valL 0 (rs.getD t []) nilS nilS = rowR (rs.take (t + 1)) := by
  unfold rowR
  rw [List.take_add_one, List.getElem?_eq_getElem h, List.getD_eq_getElem?_getD, List.getElem?_eq_getElem h]
  show _ = (List.map (fun r => valL 0 r nilS nilS) (rs.take t ++ [rs[t]])).flatten
  rw [List.map_append, List.flatten_append]
  simp only [List.map_cons, List.map_nil, List.flatten_cons, List.flatten_nil, List.append_nil]
  rfl
theorem run_at6 {o : Oper} {a : Act} {w : World} (x y : Operand) (ho : o.op = .indexAddr 48 x y) (g i : Nat) (hx : a.eval x = .pointer (some ⟨g, 0, none⟩)) (hy : a.eval y = .int .i64 (i : Int)) (hi : i < 6) : (execOp a.eval o).run Tryd.prog w = .ok (.value (.pointer (some ⟨g, i * 32, none⟩))) w := by
  have hl : ¬ (6 : Int) ≤ (i : Int) := by omega
  unfold execOp
  simp only [ho, hx, hy]
  go_simp
theorem dp_range (zp : List (List Nat)) (zdzk : List Nat) (zdzcr : List Nat) (zdzam : Nat) (zdzsg : List Nat) (t : Nat) (x : List Nat) (hlt : t < 6) (hzp : Rts zp) (hzpl : zp.length = 6) (hx : Same (zp.getD t []) x) {w : World} {g : Nat} {ty : TypeId} (h : HasC w g ty (dpC zp zdzk zdzcr zdzam zdzsg)) : w.rangeAt g (t * 32) (cellsB x) := by
  have h1 := (dp_roots zp zdzk zdzcr zdzam zdzsg hzp h).range t (by omega)
  rw [hx.out, Nat.zero_add, Nat.mul_comm] at h1
  exact h1
def dpU (zp : List (List Nat)) (zdzk : List Nat) (zdzcr : List Nat) (zdzam : Nat) (zdzsg : List Nat) : Vt := .mk 0 (zeros 32) [] [vecV zp, ddU zdzk zdzcr zdzam zdzsg]
set_option maxHeartbeats 2000000 in
theorem dpW_any (P : Nat → Prop) (zp : List (List Nat)) (zdzk : List Nat) (zdzcr : List Nat) (zdzam : Nat) (zdzsg : List Nat) (hzp : Rts zp) (hzpl : zp.length = 6) (hzdzk : Rt zdzk) (hzdzcr : Rt zdzcr) (hzdzam : zdzam < 18446744073709551616) (hzdzsg : Rt zdzsg) (w : World) (hP : ∀ b, w.heap.size ≤ b → P b) : Calls Tryd.prog 17 #[.agg (dpC zp zdzk zdzcr zdzam zdzsg).toArray] w fun x w' => ∃ v, x = .returned v ∧ IsVI P w' v (dpU zp zdzk zdzcr zdzam zdzsg) ∧ Below w.heap.size w w' := by
  obtain ⟨P1, hP1⟩ : ∃ P1 : Nat → Prop, Same (fun b => P b ∧ b ≠ w.heap.size + 1) P1 := ⟨_, ⟨rfl⟩⟩
  have HP0 := hid (fun b (hb : w.heap.size + 3 ≤ b) => show P1 b by rw [← hP1.out]; exact ⟨hP b (by omega), by omega⟩)
  go_enter Tryd.func17, Tryd.ntmps17
  go_wp2_with ((with_reducible refine at_list' ?_); first
    | (refine wpList_box_c rfl 1 rfl (.tmp 0) rfl (dpC zp zdzk zdzcr zdzam zdzsg) rfl ?_; intro w0 H0 B0 S0)
    | (refine wpList_alloc_c Tryd.ty40 rfl 2 rfl rfl ?_; intro w1 H1 B1 S1; rw [S0] at H1 S1; simp only [S0])
    | (refine wpList_build_c rfl _ rfl #[] (by simp) _ (build_none _) ?_)
    | (refine wpList_alloc_c Tryd.ty40 rfl 3 rfl rfl ?_; intro w2 H2 B2 S2; rw [S1] at H2 S2; simp only [S1])
    | (refine wpList_store_c Tryd.ty40 rfl (.tmp 3) (.tmp 5) rfl (w.heap.size + 1 + 1) (valL 0 (zeros 32) nilS nilS) rfl rfl rfl (valL_oneC _ _ _ _ trivial trivial) _ H2 rfl ?_; intro w3 H3 O3))
  have L3 := below_only (below_more (below_more B0 B1 (Nat.le_refl _)) B2 (Nat.le_refl _)) O3 (by omega)
  have X3 := hid (And.intro H3 (And.intro ((H1.keep B2).only O3 (by omega)) (And.intro (((H0.keep B1).keep B2).only O3 (by omega)) L3)))
  clear H0 B0 S0 H1 B1 S1 H2 B2 S2 H3 O3 L3
  go_loopw [4] (fun i wr => ∃ (t : Nat) (u : Value), t ≤ 6 ∧ i = .int .i64 t ∧ HasC wr (w.heap.size + 2) 40 (valL 0 (zeros 32) nilS u) ∧ wr.ownsRow (w.heap.size + 3) 40 35 u t (rowR (zp.take t)) ∧ HasC wr (w.heap.size + 1) 40 (valL 0 (zeros 32) nilS nilS) ∧ HasC wr w.heap.size 52 (dpC zp zdzk zdzcr zdzam zdzsg) ∧ Below w.heap.size w wr) (fun i _ => 6 - (intOf i).toNat)
  case atStart => exact ⟨0, nilS, Nat.zero_le _, rfl, X3.out.1, World.ownsRow_nil _ _ _ _, X3.out.2.1, X3.out.2.2.1, X3.out.2.2.2⟩
  case round =>
    clear X3
    obtain ⟨t, u, ht, rfl, hX, hown, hA, hZ, hW⟩ := hrel
    have hxl := hX.lt
    have hwl := hW.size
    have hol := fun g hg => (own_lt hown g hg)
    by_cases hlt : t < 6
    · have hsu := rowR_succ zp t (by omega)
      have hxr := hzp.rt t (by omega)
      obtain ⟨x, hxq⟩ : ∃ x, Same (zp.getD t []) x := ⟨_, ⟨rfl⟩⟩
      rw [hxq.out] at hsu hxr
      have HF := hid (And.intro hX (And.intro (fun e => by have := (hol _ e).1; omega : u.ownBlock ≠ some (w.heap.size + 2)) (And.intro hZ (And.intro (fun e => by have := (hol _ e).1; omega : u.ownBlock ≠ some w.heap.size) (And.intro (fun g hg => (hol g hg).2 : ∀ g, u.ownBlock = some g → g < wr.heap.size) (And.intro hown (show w.heap.size + 3 ≤ wr.heap.size by omega)))))))
      have HO := hid (And.intro hA (And.intro hW (And.intro hsu (fun g hg => (hol g hg).1 : ∀ g, u.ownBlock = some g → w.heap.size + 3 ≤ g))))
      clear hsu hX hown hA hW hol hZ
      go_wp2_with fail
      try simp only [Act.put, List.setIfInBounds_toArray, List.set_cons_succ, List.set_cons_zero]
      refine wp_region_flowR (AppR u (w.heap.size + 3) t (rowR (zp.take t)) (rowR (zp.take t) ++ (valL 0 x nilS nilS))) 10 10 (fun i v wq => match i with
        | 0 => v = .pointer (some ⟨w.heap.size + 2, 34, none⟩)
        | 1 => v = u
        | 2 => v = .int .i64 (t : Nat)
        | 3 => v = .pointer (some ⟨w.heap.size, 0, none⟩)
        | 4 => v = .pointer (some ⟨w.heap.size, t * 32, none⟩)
        | 5 => v = .agg (nums .u8 x)
        | 6 => v = .agg (valL 0 x nilS nilS).toArray
        | 7 => ∃ b, wr.heap.size ≤ b ∧ v = .slice (some ⟨b, 0, none⟩) 1 1 ∧ HasC wq b 40 (valL 0 x nilS nilS)
        | 8 => wq.ownsRow (w.heap.size + 3) 40 35 v (t + 1) (rowR (zp.take t) ++ (valL 0 x nilS nilS))
        | _ => v = .pointer (some ⟨w.heap.size + 2, 34, none⟩)) (by kernel_rfl) (by kernel_rfl) (AppR.refl) (fun _ _ _ h k => h.trans k) (AppR.drew) (fun _ d _ _ _ h => by cases d <;> exact h) ?_ ?_ ?_ ?_ ?_
      · intro i o g b hi ho hg v wq hv
        match i, hi with
        | 0, _ => cases ho; cases hg
        | 1, _ => cases ho; cases hg
        | 2, _ => cases ho; cases hg
        | 3, _ => cases ho; cases hg
        | 4, _ => cases ho; cases hg
        | 5, _ => cases ho; cases hg
        | 6, _ => cases ho; cases hg
        | 7, _ => cases ho; cases hg
        | 8, _ => cases ho; cases hg
        | 9, _ => cases ho; cases hg
        | (k + 10), hk => exact absurd hk (by omega)
      · intro i v wq wq' hi hv hb
        match i, hi with
        | 0, _ => exact hv
        | 1, _ => exact hv
        | 2, _ => exact hv
        | 3, _ => exact hv
        | 4, _ => exact hv
        | 5, _ => exact hv
        | 6, _ => exact hv
        | 7, _ => obtain ⟨b, h1, h2, h3⟩ := hv; exact ⟨b, h1, h2, h3.grownO hb.grown (fun e => by have := HF.out.2.2.2.2.1 _ e; omega)⟩
        | 8, _ => exact hb.new _ hv
        | 9, _ => exact hv
        | (k + 10), hk => exact absurd hk (by omega)
      · intro i o hi ho aq wq hc hk hdep
        match i, hi with
        | 0, _ =>
          cases ho
          refine flowR_of (fun w' h => AppR.of_below h) ?_
          have e1 : aq.tmps.getD 3 undef = .pointer (some ⟨w.heap.size + 2, 0, none⟩) := hk 3 (by decide)
          exact flow_value _ (run_fieldAt 40 (.tmp 3) 3 rfl _ _ e1 (by kernel_rfl)) rfl
        | 1, _ =>
          cases ho
          refine flowR_of (fun w' h => AppR.of_below h) ?_
          have e0 : aq.tmps.getD 10 undef = .pointer (some ⟨w.heap.size + 2, 34, none⟩) := hdep 0 10 rfl (by kernel_rfl)
          exact flow_value _ (run_cell 38 (.tmp 10) rfl _ e0 _ ((HF.out.1.grownO hc.grown HF.out.2.1).cell (valL_34 0 (zeros 32) nilS u zeros32)) _ Tryd.underlying38 rfl) rfl
        | 2, _ =>
          cases ho
          refine flowR_of (fun w' h => AppR.of_below h) ?_
          exact flow_move (.tmp 4) rfl (hk 4 (by decide))
        | 3, _ =>
          cases ho
          refine flowR_of (fun w' h => AppR.of_below h) ?_
          have e1 : aq.tmps.getD 1 undef = .pointer (some ⟨w.heap.size, 0, none⟩) := hk 1 (by decide)
          exact flow_value _ (run_fieldAt 52 (.tmp 1) 0 rfl _ _ e1 (by kernel_rfl)) rfl
        | 4, _ =>
          cases ho
          refine flowR_of (fun w' h => AppR.of_below h) ?_
          have e0 : aq.tmps.getD 13 undef = .pointer (some ⟨w.heap.size, 0, none⟩) := hdep 3 13 rfl (by kernel_rfl)
          have e1 : aq.tmps.getD 12 undef = .int .i64 (t : Nat) := hdep 2 12 rfl (by kernel_rfl)
          exact flow_value _ (run_at6 (.tmp 13) (.tmp 12) rfl w.heap.size t e0 e1 hlt) rfl
        | 5, _ =>
          cases ho
          refine flowR_of (fun w' h => AppR.of_below h) ?_
          have e0 : aq.tmps.getD 14 undef = .pointer (some ⟨w.heap.size, t * 32, none⟩) := hdep 4 14 rfl (by kernel_rfl)
          exact flow_value _ (run_mid 25 (.tmp 14) rfl w.heap.size (t * 32) e0 (cellsB x) (dp_range zp zdzk zdzcr zdzam zdzsg t x hlt hzp hzpl hxq ((HF.out.2.2.1).grownO hc.grown HF.out.2.2.2.1)) _ Tryd.und25 rfl (by rw [cellsB_length, hxr.len]; exact Tryd.size25)) rfl
        | 6, _ =>
          cases ho
          refine flowR_of (fun w' h => AppR.of_below h) ?_
          have e0 : aq.tmps.getD 15 undef = .agg (nums .u8 x) := hdep 5 15 rfl (by kernel_rfl)
          refine flow_fun 53 _ _ rfl (fun _ _ => by simp [go_sem]) #[.agg (nums .u8 x)] (by rw [show (#[Operand.tmp 15] : Array Operand).map aq.eval = #[aq.tmps.getD 15 undef] from by simp [Act.eval], e0]) ?_
          refine (r_any x hxr.len wq).mono ?_
          rintro e w' ⟨rfl, q⟩
          exact ⟨_, rfl, rfl, q⟩
        | 7, _ =>
          cases ho
          refine flowR_of (fun w' h => AppR.of_below h) ?_
          have e0 : aq.tmps.getD 16 undef = .agg (valL 0 x nilS nilS).toArray := hdep 6 16 rfl (by kernel_rfl)
          refine flow_rowsB 38 40 1 35 _ rfl Tryd.underlying38 valInfo [(valL 0 x nilS nilS)] [.tmp 16] rfl (by rw [show [Operand.tmp 16].map aq.eval = [aq.tmps.getD 16 undef] from rfl, e0]; rfl) (by simp [valL_length, hxr.len]) rfl (by decide) (by decide) (by decide) (fun w' h hb => ⟨wq.heap.size, hc.grown.size, rfl, (by simpa using h)⟩)
        | 8, _ =>
          cases ho
          obtain ⟨b, h1, e1, h3⟩ := hdep 7 17 rfl (by kernel_rfl)
          have e0 : aq.tmps.getD 11 undef = u := hdep 1 11 rfl (by kernel_rfl)
          obtain ⟨i0, hi, hz0, hz1, hz2⟩ := info_parts valInfo3
          obtain ⟨v2, w2, hrun, hown2, hg2, hmv, hk1, hk2⟩ := run_append_kept (P := Tryd.prog) wq (w.heap.size + 3) 38 38 38 40 i0 _ 35 _ Tryd.underlying38 hi hz0 hz1 hz2 rfl (by decide) u t _ (hc.old HF.out.2.2.2.2.2.1) (.slice (some ⟨b, 0, none⟩) 1 1) 1 (valL 0 x nilS nilS) (val_srcR h3 hxr.len) (by unfold maxLen; omega) (by omega) (by have := hc.grown.size; have := HF.out.2.2.2.2.2.2; omega)
          exact wp_runW (run_call_append (.tmp 11) (.tmp 17) 38 38 rfl u (.slice (some ⟨b, 0, none⟩) 1 1) v2 e0 e1 hrun) ⟨v2, rfl, hown2, ⟨hg2, fun _ => hk1, hk2⟩⟩
        | 9, _ =>
          cases ho
          refine flowR_of (fun w' h => AppR.of_below h) ?_
          have e1 : aq.tmps.getD 3 undef = .pointer (some ⟨w.heap.size + 2, 0, none⟩) := hk 3 (by decide)
          exact flow_value _ (run_fieldAt 40 (.tmp 3) 3 rfl _ _ e1 (by kernel_rfl)) rfl
        | (k + 10), hk => exact absurd hk (by omega)
      · intro o h10 ho
        omega
      intro vf w8 hc hv hv2
      have e9 : vf 9 = _ := hv 9 19 (by decide) rfl
      have h8 : w8.ownsRow (w.heap.size + 3) 40 35 (vf 8) (t + 1) _ := hv 8 18 (by decide) rfl
      obtain ⟨g1, cap1, e8⟩ := ownsRow_succ h8
      rw [e8, HO.out.2.2.1] at h8
      have hX8 := HF.out.1.grownO hc.grown HF.out.2.1
      have hA8 := HO.out.1.grownO hc.grown (fun e => by have := HO.out.2.2.2 _ e; omega)
      have hZ8 := HF.out.2.2.1.grownO hc.grown HF.out.2.2.2.1
      have L8 := HO.out.2.1.grown hc.grown hwl (fun k hk => by have := HO.out.2.2.2 _ hk; omega)
      clear hv hv2 hc
      simp only [List.take_succ_cons, List.take_zero, List.drop_succ_cons, List.drop_zero, putAll, Act.put, List.setIfInBounds_toArray, List.set_cons_succ, List.set_cons_zero]
      rw [e8, e9]
      have c34 := hX8.cell (valL_34 0 (zeros 32) nilS u zeros32)
      have f34 := frozen_of_row w8 (w.heap.size + 2) 34 _ _ hX8
      have Y8 := hid (And.intro h8 (And.intro hX8 (And.intro hA8 (And.intro hZ8 L8))))
      clear e8 e9 h8 hX8 hA8 L8 hZ8
      go_wp2_with fail
      have hO := Only.setCell w8 (w.heap.size + 2) 34 (.slice (some ⟨g1, 0, none⟩) (t + 1) cap1)
      have hX9 := Y8.out.2.1.setCell 34 (.slice (some ⟨g1, 0, none⟩) (t + 1) cap1)
      rw [valL_set34] at hX9
      have hg1 := (own_lt Y8.out.1 g1 rfl).1
      refine ⟨⟨t + 1, _, by omega, by go_num, hX9, own_only Y8.out.1 hO (fun _ => by simp [Value.ownBlock]; omega) (by simp [Value.ownBlock]; omega), Y8.out.2.2.1.only hO (by omega), Y8.out.2.2.2.1.only hO (by omega), below_only Y8.out.2.2.2.2 hO (by omega)⟩, by simp [intOf]; omega⟩
    · have ht2 : t = 6 := by omega
      subst ht2
      rw [List.take_of_length_le (by omega), ← hzpl] at hown
      have husl : isSl u := by
        rcases hown.2 with ⟨rfl, _⟩ | ⟨g, cap, cur, rfl, _⟩ <;> trivial
      have HO := hid (And.intro hX (And.intro hown (And.intro hA (And.intro hZ hW))))
      have HP1 := hid (fun (wq : World) (h : wr.heap.size ≤ wq.heap.size) b (hb : wq.heap.size ≤ b) => HP0.out b (by omega))
      clear hX hown hA hW hol hZ
      go_wp2_with fail
      try simp only [Act.put, List.setIfInBounds_toArray, List.set_cons_succ, List.set_cons_zero]
      refine wp_region_flow 6 6 (fun i v wq => match i with
        | 0 => v = .agg (valL 0 (zeros 32) nilS u).toArray
        | 1 => v = .pointer (some ⟨w.heap.size, 192, none⟩)
        | 2 => v = .agg (ddC zdzk zdzcr zdzam zdzsg).toArray
        | 3 => IsVI P1 wq v (ddU zdzk zdzcr zdzam zdzsg)
        | 4 => ∃ b, v = .slice (some ⟨b, 0, none⟩) 2 2 ∧ KIn P1 wq [vecV zp, ddU zdzk zdzcr zdzam zdzsg] b 0
        | _ => ∃ b, v = .agg (valL 0 (zeros 32) nilS (.slice (some ⟨b, 0, none⟩) 2 2)).toArray ∧ KIn P1 wq [vecV zp, ddU zdzk zdzcr zdzam zdzsg] b 0) (by kernel_rfl) (by kernel_rfl) (fun _ d _ _ _ h => by cases d <;> exact h) ?_ ?_ ?_ ?_
      · intro i v wq wq' hi hv hb
        match i, hi with
        | 0, _ => exact hv
        | 1, _ => exact hv
        | 2, _ => exact hv
        | 3, _ => exact hv.keep hb
        | 4, _ => obtain ⟨b, h1, h2⟩ := hv; exact ⟨b, h1, h2.keep hb⟩
        | 5, _ => obtain ⟨b, h1, h2⟩ := hv; exact ⟨b, h1, h2.keep hb⟩
        | (k + 6), hk => exact absurd hk (by omega)
      · intro i o hi ho aq wq hc hk hdep
        match i, hi with
        | 0, _ =>
          cases ho
          have e1 : aq.tmps.getD 3 undef = .pointer (some ⟨w.heap.size + 2, 0, none⟩) := hk 3 (by decide)
          exact flow_value _ (run_mid 40 (.tmp 3) rfl (w.heap.size + 2) 0 e1 (valL 0 (zeros 32) nilS u) ((HO.out.1.keep (hcB hc)).range 0 (valL 0 (zeros 32) nilS u) (fun j v hv => by rw [Nat.zero_add]; exact hv)) _ Tryd.underlying40 rfl (by rw [valL_length _ _ _ _ zeros32]; kernel_rfl)) rfl
        | 1, _ =>
          cases ho
          have e1 : aq.tmps.getD 1 undef = .pointer (some ⟨w.heap.size, 0, none⟩) := hk 1 (by decide)
          exact flow_value _ (run_fieldAt 52 (.tmp 1) 1 rfl _ _ e1 (by kernel_rfl)) rfl
        | 2, _ =>
          cases ho
          have e0 : aq.tmps.getD 21 undef = .pointer (some ⟨w.heap.size, 192, none⟩) := hdep 1 21 rfl (by kernel_rfl)
          exact flow_value _ (run_mid 50 (.tmp 21) rfl w.heap.size 192 e0 (ddC zdzk zdzcr zdzam zdzsg) ((HO.out.2.2.2.1.keep (hcB hc)).range 192 (ddC zdzk zdzcr zdzam zdzsg) (seg (ps := dpP zp zdzk zdzcr zdzam zdzsg) (i := 1) (off := 192) rfl (by simp [dpP, cellsOf_length zp hzp, hzpl]))) _ Tryd.underlying50 rfl (by rw [ddC_length zdzk zdzcr zdzam zdzsg hzdzk.len hzdzcr.len hzdzsg.len]; kernel_rfl)) rfl
        | 3, _ =>
          cases ho
          have e0 : aq.tmps.getD 22 undef = .agg (ddC zdzk zdzcr zdzam zdzsg).toArray := hdep 2 22 rfl (by kernel_rfl)
          refine flow_fun 26 _ _ rfl (fun _ _ => by simp [go_sem]) #[.agg (ddC zdzk zdzcr zdzam zdzsg).toArray] (by rw [show (#[Operand.tmp 22] : Array Operand).map aq.eval = #[aq.tmps.getD 22 undef] from by simp [Act.eval], e0]) ?_
          refine (ddW_any P1 zdzk zdzcr zdzam zdzsg hzdzk hzdzcr hzdzam hzdzsg wq (HP1.out wq (hcB hc).size)).mono ?_
          rintro x w' ⟨v, rfl, h1, q⟩
          exact ⟨v, rfl, h1, q⟩
        | 4, _ =>
          cases ho
          have e0 : aq.tmps.getD 20 undef = .agg (valL 0 (zeros 32) nilS u).toArray := hdep 0 20 rfl (by kernel_rfl)
          obtain ⟨sb1, sk1, e1, h1_⟩ := hdep 3 23 rfl (by kernel_rfl)
          have h0_ : VIn P1 wq (vecV zp) nilS u := vIn_vec (own_keep HO.out.2.1 (hcB hc)) hzp (fun b hb => HP0.out b hb)
          refine flow_rowsB 38 40 2 35 _ rfl Tryd.underlying38 valInfo [(valL 0 (zeros 32) nilS u), valL 0 (zeros 32) sb1 sk1] [.tmp 20, .tmp 23] rfl (by rw [show [Operand.tmp 20, Operand.tmp 23].map aq.eval = [aq.tmps.getD 20 undef, aq.tmps.getD 23 undef] from rfl, e0, e1]; rfl) (by simp [valL_length, zeros32]) rfl (by decide) (by decide) (by decide) (fun w' h hb => ⟨_, rfl, kIn_of h hb (HP1.out wq (hcB hc).size _ (Nat.le_refl _)) [(vecV zp, nilS, u), (ddU zdzk zdzcr zdzam zdzsg, sb1, sk1)] (fun j v hj => by rw [Nat.zero_add]; exact hj) (fun x hx => ?_)⟩)
          simp only [List.mem_cons, List.not_mem_nil, or_false] at hx
          rcases hx with rfl | rfl
          · exact h0_
          · exact h1_
        | 5, _ =>
          cases ho
          obtain ⟨b, e6, h6⟩ := hdep 4 24 rfl (by kernel_rfl)
          refine flow_fun 51 _ _ rfl (fun _ _ => by simp [go_sem]) #[.slice (some ⟨b, 0, none⟩) 2 2] (by rw [show (#[Operand.tmp 24] : Array Operand).map aq.eval = #[aq.tmps.getD 24 undef] from by simp [Act.eval], e6]) ?_
          refine (all_any (some ⟨b, 0, none⟩) 2 2 wq).mono ?_
          rintro x w' ⟨rfl, q⟩
          exact ⟨_, rfl, ⟨b, rfl, h6.keep q⟩, q⟩
        | (k + 6), hk => exact absurd hk (by omega)
      · intro o h6 ho
        omega
      intro vf w8 hc hv
      have e7 : ∃ b, vf 5 = _ ∧ KIn P1 w8 _ b 0 := hv 5 25 (by decide) rfl
      obtain ⟨b, e7, h7⟩ := e7
      have B8 := HO.out.2.2.2.2.trans ((hcB hc).mono (by omega))
      have H8v := HO.out.2.2.1.keep (hcB hc)
      have s8 := (hcB hc).size
      clear hv hc
      simp only [List.take_succ_cons, List.take_zero, List.drop_succ_cons, List.drop_zero, putAll, Act.put, List.setIfInBounds_toArray, List.set_cons_succ, List.set_cons_zero]
      rw [e7]
      have HB8 := hid B8
      have HK := hid h7
      clear B8 h7 e7 HO
      go_wp2_with ((with_reducible refine at_list' ?_); first
        | (refine wpList_store_c Tryd.ty40 rfl (.tmp 2) (.tmp 25) rfl (w.heap.size + 1) (valL 0 (zeros 32) nilS (.slice (some ⟨b, 0, none⟩) 2 2)) rfl rfl rfl (valL_oneC _ _ _ _ trivial trivial) _ H8v rfl ?_; intro w9 H9 O9))
      refine bodyPost_ret (results_c1 Tryd.ty40 rfl _ w9 (w.heap.size + 1) _ rfl H9 rfl) rfl ⟨_, rfl, ⟨nilS, _, rfl, ?_⟩, below_only HB8.out O9 (by omega)⟩
      have hk := HK.out
      rw [← hP1.out] at hk
      exact vIn_all (ks := [vecV zp, ddU zdzk zdzcr zdzam zdzsg]) rfl (by decide) (hk.only O9)
end Go.Proofs.YtfmecdmkepnlmaaDoor

/- Two roots compared. -/
namespace Go.Proofs.YtfmecdmkepnlmaaDoor
open Go.RowKit
set_option linter.unusedVariables false
set_option linter.unusedSimpArgs false
set_option maxRecDepth 100000

theorem run_same_root {o : Oper} {a : Act} {w : World} (x y : Operand) (ho : o.op = .binOp .eql 25 x y 25) (r : List Nat) (hr : Rt r) (hx : a.eval x = .agg (nums .u8 r)) (hy : a.eval y = .agg (nums .u8 r)) : (execOp a.eval o).run Tryd.prog w = .ok (.value (.bool true)) w := by
  have h := eql_api r r hr.len hr.len hr.byte hr.byte w
  simp only [decide_true] at h
  unfold execOp
  simp only [ho, hx, hy]
  simp [go_sem, h]
end Go.Proofs.YtfmecdmkepnlmaaDoor

/- RootDeposits answers true for every value. -/
namespace Go.Proofs.YtfmecdmkepnlmaaDoor
open Go.RowKit Go.Shelf
set_option linter.unusedVariables false
set_option linter.unusedSimpArgs false
set_option maxRecDepth 100000

theorem dd_rooted (zdzk zdzcr : List Nat) (zdzam : Nat) (zdzsg : List Nat) : Rooted ddD (ddU zdzk zdzcr zdzam zdzsg) (ddR zdzk zdzcr zdzam zdzsg) := by
  have h := rooted_any ddD (ddU zdzk zdzcr zdzam zdzsg) (by simp [ddD, ddU, dBox, dNum, dRoot, okR, okRs])
  have e : rootV ddD (ddU zdzk zdzcr zdzam zdzsg) = ddR zdzk zdzcr zdzam zdzsg := by
    simp only [ddD, ddU, dBox, dNum, dRoot, ddR, rootV, rootsV]
    simp
  rwa [e] at h
theorem vec_rooted (zp : List (List Nat)) (hzp : Rts zp) (hzpl : zp.length = 6) : Rooted dVec (vecV zp) (fullR (depth ((6 : Nat) : Int)) zp) := by
  have h := Rooted.many4 6 0 3 0 [] (zp.map fun r => Vt.mk 0 r [] []) (zeros 32) [] zp (by decide) (.inl rfl) (by rw [List.length_map]) (by rw [List.length_map]; omega) hzp (fun i x hx => by
    rw [List.getElem?_map] at hx
    cases hq : zp[i]? with
    | none => rw [hq] at hx; cases hx
    | some r =>
      rw [hq] at hx
      obtain rfl := Option.some.inj hx
      have h1 := rooted_any (.mk 3 0 []) (.mk 0 r [] []) (by simp [okR])
      rw [List.getD_eq_getElem?_getD, hq]
      simpa [rootV] using h1)
  rw [treeZ, if_pos (by omega)] at h
  exact h
theorem dp_rooted (zp : List (List Nat)) (zdzk : List Nat) (zdzcr : List Nat) (zdzam : Nat) (zdzsg : List Nat) (hzp : Rts zp) (hzpl : zp.length = 6) (h1 : Rt zdzk) (h2 : Rt zdzcr) (h3 : Rt zdzsg) : Rooted dpD (dpU zp zdzk zdzcr zdzam zdzsg) (dpR zp zdzk zdzcr zdzam zdzsg) := by
  have hX6 : Rt (fullR (depth ((6 : Nat) : Int)) zp) := full_rt _ _ hzp
  have hD6 := ddR_rt zdzk zdzcr zdzam zdzsg h1 h2 h3
  have hv := vec_rooted zp hzp hzpl
  have hd := dd_rooted zdzk zdzcr zdzam zdzsg
  rw [dpR]
  obtain ⟨X6, HX6⟩ : ∃ X, Same (fullR (depth ((6 : Nat) : Int)) zp) X := ⟨_, ⟨rfl⟩⟩
  obtain ⟨D6, HD6⟩ : ∃ X, Same (ddR zdzk zdzcr zdzam zdzsg) X := ⟨_, ⟨rfl⟩⟩
  rw [HX6.out] at hX6 hv ⊢
  rw [HD6.out] at hD6 hd ⊢
  rw [dpD, dpU, dBox]
  refine Rooted.box 0 0 [dVec, ddD] [vecV zp, ddU zdzk zdzcr zdzam zdzsg] (zeros 32) [] [X6, D6] rfl rfl (by decide) (Rts.more hX6 (Rts.more hD6 Rts.nil)) (fun i d x hi hx => ?_)
  match i, hi, hx with
  | 0, hi, hx => simp at hi hx; subst hi; subst hx; exact hv
  | 1, hi, hx => simp at hi hx; subst hi; subst hx; exact hd
  | i + 2, hi, hx => simp at hi
set_option maxHeartbeats 2000000 in
theorem dp_walk (zp : List (List Nat)) (zdzk : List Nat) (zdzcr : List Nat) (zdzam : Nat) (zdzsg : List Nat) (hzp : Rts zp) (hzpl : zp.length = 6) (hzdzk : Rt zdzk) (hzdzcr : Rt zdzcr) (hzdzam : zdzam < 18446744073709551616) (hzdzsg : Rt zdzsg) (w : World) (hT : Tabs w) : Calls Tryd.prog 5 #[.agg (dpC zp zdzk zdzcr zdzam zdzsg).toArray] w fun e w' => e = .returned (.bool true) ∧ Below w.heap.size w w' := by
  have hR1 := dpR_rt zp zdzk zdzcr zdzam zdzsg hzp hzdzk hzdzcr hzdzsg
  have HE := hid (dp_rooted zp zdzk zdzcr zdzam zdzsg hzp hzpl hzdzk hzdzcr hzdzsg)
  obtain ⟨R1, HR⟩ : ∃ R, Same (dpR zp zdzk zdzcr zdzam zdzsg) R := ⟨_, ⟨rfl⟩⟩
  rw [HR.out] at hR1 HE
  go_enter Tryd.func5, Tryd.ntmps5
  go_wp2_with ((with_reducible refine at_list' ?_); first
    | (refine wpList_box_c rfl 1 rfl (.tmp 0) rfl (dpC zp zdzk zdzcr zdzam zdzsg) rfl ?_; intro w1 H1 B1 S1))
  refine (awake_any w1 (hT.keep B1)).mono ?_
  rintro e w2 ⟨rfl, B2⟩
  have HX := hid (H1.keep B2)
  have HB := hid (B1.trans (B2.mono B1.size))
  have HT := hid (hT.keep HB.out)
  clear H1 B1 S1 B2
  go_wp2_with fail
  try simp only [Act.put, List.setIfInBounds_toArray, List.set_cons_succ, List.set_cons_zero]
  refine wp_region_flow 7 7 (fun i v wq => match i with
    | 0 => v = .agg (dpC zp zdzk zdzcr zdzam zdzsg).toArray
    | 1 => v = .agg (nums .u8 R1)
    | 2 => ∃ p, v = .pointer (some ⟨p, 0, none⟩) ∧ DAt wq dpD p
    | 3 => v = .agg (dpC zp zdzk zdzcr zdzam zdzsg).toArray
    | 4 => IsV wq v (dpU zp zdzk zdzcr zdzam zdzsg)
    | 5 => v = .agg (nums .u8 R1)
    | _ => v = .bool true) (by kernel_rfl) (by kernel_rfl) (fun _ d _ _ _ h => by cases d <;> exact h) ?_ ?_ ?_ ?_
  · intro i v wq wq' hi hv hb
    match i, hi with
    | 0, _ => exact hv
    | 1, _ => exact hv
    | 2, _ => obtain ⟨p, h1, h2⟩ := hv; exact ⟨p, h1, DAt.keep hb _ h2⟩
    | 3, _ => exact hv
    | 4, _ => exact hv.keep hb
    | 5, _ => exact hv
    | 6, _ => exact hv
    | (k + 7), hk => exact absurd hk (by omega)
  · intro i o hi ho aq wq hc hk hdep
    match i, hi with
    | 0, _ =>
      cases ho
      have e1 : aq.tmps.getD 1 undef = .pointer (some ⟨w.heap.size, 0, none⟩) := hk 1 (by decide)
      exact flow_value _ (run_mid 52 (.tmp 1) rfl w.heap.size 0 e1 (dpC zp zdzk zdzcr zdzam zdzsg) ((HX.out.keep (hcB hc)).range 0 (dpC zp zdzk zdzcr zdzam zdzsg) (fun j v hv => by rw [Nat.zero_add]; exact hv)) _ Tryd.underlying52 rfl (by rw [dpC_length zp zdzk zdzcr zdzam zdzsg hzp hzpl hzdzk.len hzdzcr.len hzdzsg.len]; kernel_rfl)) rfl
    | 1, _ =>
      cases ho
      have e0 : aq.tmps.getD 5 undef = .agg (dpC zp zdzk zdzcr zdzam zdzsg).toArray := hdep 0 5 rfl (by kernel_rfl)
      refine flow_fun 15 _ _ rfl (fun _ _ => by simp [go_sem]) #[.agg (dpC zp zdzk zdzcr zdzam zdzsg).toArray] (by rw [show (#[Operand.tmp 5] : Array Operand).map aq.eval = #[aq.tmps.getD 5 undef] from by simp [Act.eval], e0]) ?_
      refine (dpR_any zp zdzk zdzcr zdzam zdzsg hzp hzpl hzdzk hzdzcr hzdzam hzdzsg wq (HT.out.keep (hcB hc))).mono ?_
      rintro x w' ⟨rfl, q⟩
      exact ⟨_, rfl, (by rw [← HR.out]; rfl), q⟩
    | 2, _ =>
      cases ho
      refine flow_fun 16 _ _ rfl (fun _ _ => by simp [go_sem]) #[] (by simp) ?_
      refine (dpD_any wq).mono ?_
      rintro x w' ⟨p, rfl, h1, q⟩
      exact ⟨_, rfl, ⟨p, rfl, h1⟩, q⟩
    | 3, _ =>
      cases ho
      have e1 : aq.tmps.getD 1 undef = .pointer (some ⟨w.heap.size, 0, none⟩) := hk 1 (by decide)
      exact flow_value _ (run_mid 52 (.tmp 1) rfl w.heap.size 0 e1 (dpC zp zdzk zdzcr zdzam zdzsg) ((HX.out.keep (hcB hc)).range 0 (dpC zp zdzk zdzcr zdzam zdzsg) (fun j v hv => by rw [Nat.zero_add]; exact hv)) _ Tryd.underlying52 rfl (by rw [dpC_length zp zdzk zdzcr zdzam zdzsg hzp hzpl hzdzk.len hzdzcr.len hzdzsg.len]; kernel_rfl)) rfl
    | 4, _ =>
      cases ho
      have e0 : aq.tmps.getD 8 undef = .agg (dpC zp zdzk zdzcr zdzam zdzsg).toArray := hdep 3 8 rfl (by kernel_rfl)
      refine flow_fun 17 _ _ rfl (fun _ _ => by simp [go_sem]) #[.agg (dpC zp zdzk zdzcr zdzam zdzsg).toArray] (by rw [show (#[Operand.tmp 8] : Array Operand).map aq.eval = #[aq.tmps.getD 8 undef] from by simp [Act.eval], e0]) ?_
      refine (dpW_any (fun _ => True) zp zdzk zdzcr zdzam zdzsg hzp hzpl hzdzk hzdzcr hzdzam hzdzsg wq (fun _ _ => trivial)).mono ?_
      rintro x w' ⟨v, rfl, h1, q⟩
      exact ⟨v, rfl, h1.isV, q⟩
    | 5, _ =>
      cases ho
      obtain ⟨p, e0, h0⟩ := hdep 2 7 rfl (by kernel_rfl)
      have h1 : IsV wq (aq.tmps.getD 9 undef) (dpU zp zdzk zdzcr zdzam zdzsg) := hdep 4 9 rfl (by kernel_rfl)
      refine flow_fun 9 _ _ rfl (fun _ _ => by simp [go_sem]) #[.pointer (some ⟨p, 0, none⟩), aq.tmps.getD 9 undef] (by rw [show (#[Operand.tmp 7, Operand.tmp 9] : Array Operand).map aq.eval = #[aq.tmps.getD 7 undef, aq.tmps.getD 9 undef] from by simp [Act.eval], e0]) ?_
      refine (HE.out p _ wq h0 h1).mono ?_
      rintro x w' ⟨rfl, q⟩
      exact ⟨_, rfl, rfl, q⟩
    | 6, _ =>
      cases ho
      have e0 : aq.tmps.getD 6 undef = .agg (nums .u8 R1) := hdep 1 6 rfl (by kernel_rfl)
      have e1 : aq.tmps.getD 10 undef = .agg (nums .u8 R1) := hdep 5 10 rfl (by kernel_rfl)
      exact flow_value _ (run_same_root (.tmp 6) (.tmp 10) rfl R1 hR1 e0 e1) rfl
    | (k + 7), hk => exact absurd hk (by omega)
  · intro o h7 ho
    omega
  intro vf w8 hc hv
  have e7 : vf 6 = _ := hv 6 11 (by decide) rfl
  have B8 := HB.out.trans ((hcB hc).mono HB.out.size)
  clear hv hc
  simp only [List.take_succ_cons, List.take_zero, List.drop_succ_cons, List.drop_zero, putAll, Act.put, List.setIfInBounds_toArray, List.set_cons_succ, List.set_cons_zero]
  rw [e7]
  have HB8 := hid B8
  clear B8 e7 HB HX HT
  go_wp2
  go_ret
  exact ⟨rfl, HB8.out⟩
end Go.Proofs.YtfmecdmkepnlmaaDoor

/- From the rows' condition on the two tables to what the contracts ask of them. -/
namespace Go.Proofs.YtfmecdmkepnlmaaDoor
open Go.RowKit
set_option linter.unusedVariables false
set_option maxRecDepth 100000

def laidTwo : List (String × DataW Unit) := [("keystone/digest.starts", Rows.laid_keystone_digest_starts), ("keystone/digest.rounds", Rows.laid_keystone_digest_rounds)]
theorem gStarts : Tryd.prog.globalNamed "keystone/digest.starts" = some 0 := by kernel_rfl
theorem gRounds : Tryd.prog.globalNamed "keystone/digest.rounds" = some 1 := by kernel_rfl
theorem tStarts : (Tryd.prog.globals[0]?).map (·.type) = some 120 := by kernel_rfl
theorem tRounds : (Tryd.prog.globals[1]?).map (·.type) = some 124 := by kernel_rfl
theorem dStarts {H : Type} : (Rows.laid_keystone_digest_starts : DataW H) = Lib.tabData .u32 (startNums.map fun n : Nat => (n : Int)) := rfl
theorem dRounds {H : Type} : (Rows.laid_keystone_digest_rounds : DataW H) = Lib.tabData .u32 (kNums.map fun n : Nat => (n : Int)) := rfl

theorem tabs_of_laid {W : World} (h : laidMetH Tryd.prog laidTwo W) : Tabs W := by
  rw [MakeChecks.laidMetH_plain _ _ _ (by kernel_rfl)] at h
  have h1 := Lib.laidMet.reads h (n := "keystone/digest.starts") (d := Rows.laid_keystone_digest_starts) (.head _)
  have h2 := Lib.laidMet.reads h (n := "keystone/digest.rounds") (d := Rows.laid_keystone_digest_rounds) (.tail _ (.head _))
  refine ⟨fun i hi => ?_, fun i hi => ?_⟩
  · obtain ⟨g, t, cs, fuel, p, hg, hty, hvar, hd⟩ := h1
    obtain rfl := Option.some.inj (gStarts.symm.trans hg)
    obtain rfl := Option.some.inj (tStarts.symm.trans hty)
    rw [dStarts] at hd
    have hcs := Lib.cells_of_tab Tryd.underlying120 Tryd.underlying119 (by kernel_rfl) (by kernel_rfl) hd
    rw [World.var?_cell hg hvar i, ← Array.getElem?_toList, hcs, List.map_map, List.getElem?_map]
    have hl : i < startNums.length := hi
    rw [List.getElem?_eq_getElem hl]
    simp [hl]
  · obtain ⟨g, t, cs, fuel, p, hg, hty, hvar, hd⟩ := h2
    obtain rfl := Option.some.inj (gRounds.symm.trans hg)
    obtain rfl := Option.some.inj (tRounds.symm.trans hty)
    rw [dRounds] at hd
    have hcs := Lib.cells_of_tab Tryd.underlying124 Tryd.underlying119 (by kernel_rfl) (by kernel_rfl) hd
    rw [World.var?_cell hg hvar i, ← Array.getElem?_toList, hcs, List.map_map, List.getElem?_map]
    have hl : i < kNums.length := hi
    rw [List.getElem?_eq_getElem hl]
    simp [hl]
end Go.Proofs.YtfmecdmkepnlmaaDoor

/- Structs that came in by value. -/
namespace Go.Proofs.YtfmecdmkepnlmaaDoor
open Go.RowKit Go.Deep Go.WideShapes
set_option linter.unusedVariables false
set_option linter.unusedSimpArgs false
set_option maxRecDepth 100000

theorem cellsRt : Tryd.prog.cellsOf 25 = 32 := by kernel_rfl
theorem cellsU8 : Tryd.prog.cellsOf 5 = 1 := by kernel_rfl
theorem cellsU64 : Tryd.prog.cellsOf 23 = 1 := by kernel_rfl
theorem cellsBo : Tryd.prog.cellsOf 4 = 1 := by kernel_rfl
/-- Parts of a list, one behind the other. -/
def cutAt {α : Type} (cs : List α) : Nat → List Nat → List (List α)
  | _, [] => []
  | o, k :: ks => (cs.drop o).take k :: cutAt cs (o + k) ks
theorem cut_flat {α : Type} (cs : List α) : ∀ (ks : List Nat) (o : Nat), o + ks.sum = cs.length → cs.drop o = (cutAt cs o ks).flatten := by
  intro ks
  induction ks with
  | nil => intro o h; simp at h; rw [h, List.drop_length]; rfl
  | cons k ks ih =>
    intro o h
    rw [cutAt, List.flatten_cons, ← ih (o + k) (by simp at h; omega), ← List.drop_drop, List.take_append_drop]
section
variable {H : Type} {enc : TypeId × Value → H} {W : World} {b0 : Nat} {sp : Nat → Bool} {held : Bool}
theorem root_of_trod {fuel : Nat} {cs : List Value} {x : DataW H × List MemPlace} (h : DataW.trod enc Tryd.prog W b0 sp held fuel 25 cs = some x) : ∃ r : List Nat, cs = (nums .u8 r).toList ∧ Rt r := by
  obtain ⟨xs, m, _, _, hl, hxs, hel⟩ := DataW.trod_array Tryd.und25 h
  rw [cellsRt] at hl
  have key : ∀ i (hi : i < cs.length), ∃ n : Nat, cs[i] = .int .u8 (n : Int) ∧ n < 256 := by
    intro i hi
    have h1 := hel i (by omega)
    rw [cellsU8, Nat.mul_one, List.getElem?_eq_getElem (by omega)] at h1
    obtain ⟨n, e1, _, hw⟩ := DataW.trod_int Tryd.underlying5 h1
    have hb := bounds_u8 hw
    have e2 : (cs.drop i).take 1 = [cs[i]] := by
      rw [List.drop_eq_getElem_cons hi, List.take_succ_cons, List.take_zero]
    have e3 : [cs[i]] = [Value.int .u8 n] := e2.symm.trans e1
    refine ⟨n.toNat, ?_, by omega⟩
    have e4 : cs[i] = Value.int .u8 n := by simpa using e3
    rw [e4]
    congr 1
    omega
  refine ⟨cs.map fun v => (intOf v).toNat, ?_, by simp [hl], ?_⟩
  · unfold nums
    apply List.ext_getElem
    · simp
    · intro i h1 h2
      obtain ⟨n, e, hn⟩ := key i h1
      simp [e, intOf]
  · intro z hz
    obtain ⟨v, hv, rfl⟩ := List.mem_map.1 hz
    obtain ⟨i, hi, rfl⟩ := List.mem_iff_getElem.1 hv
    obtain ⟨n, e, hn⟩ := key i hi
    simp [e, intOf, hn]
theorem num_of_trod {fuel : Nat} {cs : List Value} {x : DataW H × List MemPlace} (h : DataW.trod enc Tryd.prog W b0 sp held fuel 23 cs = some x) : ∃ n : Nat, cs = [.int .u64 (n : Nat)] ∧ n < 18446744073709551616 := by
  obtain ⟨i, e, _, hw⟩ := DataW.trod_int Tryd.underlying23 h
  have hb := bounds_u64 hw
  refine ⟨i.toNat, ?_, by omega⟩
  rw [e, Int.toNat_of_nonneg hb.1]
theorem bool_of_trod {fuel : Nat} {cs : List Value} {x : DataW H × List MemPlace} (h : DataW.trod enc Tryd.prog W b0 sp held fuel 4 cs = some x) : ∃ b : Bool, cs = [.bool b] := by
  obtain ⟨b, e, _⟩ := DataW.trod_bool Tryd.underlying4 h
  exact ⟨b, e⟩
theorem cells_dd : Tryd.prog.cellsOf 50 = 97 := by kernel_rfl
theorem dd_of_trod {fuel : Nat} {cs : List Value} {x : DataW H × List MemPlace} (h : DataW.trod enc Tryd.prog W b0 sp held fuel 50 cs = some x) : ∃ (zk : List Nat) (zcr : List Nat) (zam : Nat) (zsg : List Nat), cs = ddC zk zcr zam zsg ∧ Rt zk ∧ Rt zcr ∧ zam < 18446744073709551616 ∧ Rt zsg := by
  obtain ⟨xs, n, _, _, hl, hlen, hf⟩ := DataW.trod_struct Tryd.underlying50 h
  rw [cells_dd] at hl
  have hx : xs.length = 4 := hlen
  have f0 : ∃ y, DataW.trod enc Tryd.prog W b0 sp held n 25 ((cs.drop 0).take 32) = some y := by
    have := hf 0 _ rfl
    change DataW.trod enc Tryd.prog W b0 sp held n 25 (List.take (Tryd.prog.cellsOf 25) (List.drop 0 cs)) = xs[0]? at this
    rw [cellsRt, List.getElem?_eq_getElem (by omega)] at this
    exact ⟨_, this⟩
  obtain ⟨y0, f0⟩ := f0
  obtain ⟨zk, e0, hzk⟩ := root_of_trod f0
  have f1 : ∃ y, DataW.trod enc Tryd.prog W b0 sp held n 25 ((cs.drop 32).take 32) = some y := by
    have := hf 1 _ rfl
    change DataW.trod enc Tryd.prog W b0 sp held n 25 (List.take (Tryd.prog.cellsOf 25) (List.drop 32 cs)) = xs[1]? at this
    rw [cellsRt, List.getElem?_eq_getElem (by omega)] at this
    exact ⟨_, this⟩
  obtain ⟨y1, f1⟩ := f1
  obtain ⟨zcr, e1, hzcr⟩ := root_of_trod f1
  have f2 : ∃ y, DataW.trod enc Tryd.prog W b0 sp held n 23 ((cs.drop 64).take 1) = some y := by
    have := hf 2 _ rfl
    change DataW.trod enc Tryd.prog W b0 sp held n 23 (List.take (Tryd.prog.cellsOf 23) (List.drop 64 cs)) = xs[2]? at this
    rw [cellsU64, List.getElem?_eq_getElem (by omega)] at this
    exact ⟨_, this⟩
  obtain ⟨y2, f2⟩ := f2
  obtain ⟨zam, e2, hzam⟩ := num_of_trod f2
  have f3 : ∃ y, DataW.trod enc Tryd.prog W b0 sp held n 25 ((cs.drop 65).take 32) = some y := by
    have := hf 3 _ rfl
    change DataW.trod enc Tryd.prog W b0 sp held n 25 (List.take (Tryd.prog.cellsOf 25) (List.drop 65 cs)) = xs[3]? at this
    rw [cellsRt, List.getElem?_eq_getElem (by omega)] at this
    exact ⟨_, this⟩
  obtain ⟨y3, f3⟩ := f3
  obtain ⟨zsg, e3, hzsg⟩ := root_of_trod f3
  have hc := cut_flat cs [32, 32, 1, 32] 0 (by rw [hl]; rfl)
  rw [List.drop_zero] at e0
  simp only [cutAt, List.drop_zero, Nat.zero_add, Nat.reduceAdd, e0, e1, e2, e3] at hc
  refine ⟨zk, zcr, zam, zsg, hc, hzk, hzcr, hzam, hzsg⟩
theorem open_dd {base : Nat} {v : Value} {d : DataW H} {p : List MemPlace} (hv : Value.okWide Tryd.prog W .any base 50 v) (h : DataW.Trod enc Tryd.prog W b0 sp held 50 v d p) : ∃ (zk : List Nat) (zcr : List Nat) (zam : Nat) (zsg : List Nat), v = .agg (ddC zk zcr zam zsg).toArray ∧ Rt zk ∧ Rt zcr ∧ zam < 18446744073709551616 ∧ Rt zsg := by
  obtain ⟨cs, rfl, _⟩ := okWide_struct Tryd.underlying50 hv
  obtain ⟨fuel, hf⟩ := h
  obtain ⟨zk, zcr, zam, zsg, e, hzk, hzcr, hzam, hzsg⟩ := dd_of_trod hf
  exact ⟨zk, zcr, zam, zsg, by rw [← Array.toList_inj.1 (show cs.toList = (ddC zk zcr zam zsg).toArray.toList from e)], hzk, hzcr, hzam, hzsg⟩
theorem cells_v6 : Tryd.prog.cellsOf 48 = 192 := by kernel_rfl
theorem cells_dp : Tryd.prog.cellsOf 52 = 289 := by kernel_rfl
theorem und_v6 : Tryd.prog.underlying 48 = some (.array 6 25) := by kernel_rfl
theorem v6_of_trod {fuel : Nat} {cs : List Value} {x : DataW H × List MemPlace} (h : DataW.trod enc Tryd.prog W b0 sp held fuel 48 cs = some x) : ∃ rs : List (List Nat), cs = cellsOf rs ∧ Rts rs ∧ rs.length = 6 := by
  obtain ⟨xs, m, _, _, hl, hxs, hel⟩ := DataW.trod_array und_v6 h
  rw [cells_v6] at hl
  have each : ∀ i, i < 6 → ∃ r : List Nat, (cs.drop (i * 32)).take 32 = (nums .u8 r).toList ∧ Rt r := by
    intro i hi
    have h1 := hel i (by omega)
    rw [cellsRt, List.getElem?_eq_getElem (by omega)] at h1
    exact root_of_trod h1
  have hf : ∃ f : Nat → List Nat, ∀ i, i < 6 → (cs.drop (i * 32)).take 32 = (nums .u8 (f i)).toList ∧ Rt (f i) :=
    ⟨fun i => if h : i < 6 then Classical.choose (each i h) else [], fun i hi => by simp only [hi, dif_pos]; exact Classical.choose_spec (each i hi)⟩
  obtain ⟨f, hf⟩ := hf
  have hc := cut_flat cs [32, 32, 32, 32, 32, 32] 0 (by rw [hl]; rfl)
  have e0 := (hf 0 (by decide)).1
  have e1 := (hf 1 (by decide)).1
  have e2 := (hf 2 (by decide)).1
  have e3 := (hf 3 (by decide)).1
  have e4 := (hf 4 (by decide)).1
  have e5 := (hf 5 (by decide)).1
  simp only [Nat.zero_mul, Nat.one_mul, Nat.reduceMul, List.drop_zero] at e0 e1 e2 e3 e4 e5
  simp only [cutAt, List.drop_zero, Nat.zero_add, Nat.reduceAdd, e0, e1, e2, e3, e4, e5] at hc
  refine ⟨[f 0, f 1, f 2, f 3, f 4, f 5], ?_, ⟨fun r hr => ?_, fun r hr => ?_⟩, rfl⟩
  · rw [hc]
    simp [cellsOf, nums]
  · simp only [List.mem_cons, List.not_mem_nil, or_false] at hr
    rcases hr with rfl | rfl | rfl | rfl | rfl | rfl <;> exact (hf _ (by decide)).2.len
  · simp only [List.mem_cons, List.not_mem_nil, or_false] at hr
    rcases hr with rfl | rfl | rfl | rfl | rfl | rfl <;> exact (hf _ (by decide)).2.byte
theorem dp_of_trod {fuel : Nat} {cs : List Value} {x : DataW H × List MemPlace} (h : DataW.trod enc Tryd.prog W b0 sp held fuel 52 cs = some x) : ∃ (zp : List (List Nat)) (zdzk : List Nat) (zdzcr : List Nat) (zdzam : Nat) (zdzsg : List Nat), cs = dpC zp zdzk zdzcr zdzam zdzsg ∧ Rts zp ∧ zp.length = 6 ∧ Rt zdzk ∧ Rt zdzcr ∧ zdzam < 18446744073709551616 ∧ Rt zdzsg := by
  obtain ⟨xs, n, _, _, hl, hlen, hf⟩ := DataW.trod_struct Tryd.underlying52 h
  rw [cells_dp] at hl
  have hx : xs.length = 2 := hlen
  have f0 : ∃ y, DataW.trod enc Tryd.prog W b0 sp held n 48 ((cs.drop 0).take 192) = some y := by
    have := hf 0 _ rfl
    change DataW.trod enc Tryd.prog W b0 sp held n 48 (List.take (Tryd.prog.cellsOf 48) (List.drop 0 cs)) = xs[0]? at this
    rw [cells_v6, List.getElem?_eq_getElem (by omega)] at this
    exact ⟨_, this⟩
  obtain ⟨y0, f0⟩ := f0
  obtain ⟨zp, e0, hzp, hzpl⟩ := v6_of_trod f0
  have f1 : ∃ y, DataW.trod enc Tryd.prog W b0 sp held n 50 ((cs.drop 192).take 97) = some y := by
    have := hf 1 _ rfl
    change DataW.trod enc Tryd.prog W b0 sp held n 50 (List.take (Tryd.prog.cellsOf 50) (List.drop 192 cs)) = xs[1]? at this
    rw [cells_dd, List.getElem?_eq_getElem (by omega)] at this
    exact ⟨_, this⟩
  obtain ⟨y1, f1⟩ := f1
  obtain ⟨zdzk, zdzcr, zdzam, zdzsg, e1, h1, h2, h3, h4⟩ := dd_of_trod f1
  have hc := cut_flat cs [192, 97] 0 (by rw [hl]; rfl)
  rw [List.drop_zero] at e0
  simp only [cutAt, List.drop_zero, Nat.zero_add, Nat.reduceAdd, e0, e1] at hc
  exact ⟨zp, zdzk, zdzcr, zdzam, zdzsg, hc, hzp, hzpl, h1, h2, h3, h4⟩
theorem open_dp {base : Nat} {v : Value} {d : DataW H} {p : List MemPlace} (hv : Value.okWide Tryd.prog W .any base 52 v) (h : DataW.Trod enc Tryd.prog W b0 sp held 52 v d p) : ∃ (zp : List (List Nat)) (zdzk : List Nat) (zdzcr : List Nat) (zdzam : Nat) (zdzsg : List Nat), v = .agg (dpC zp zdzk zdzcr zdzam zdzsg).toArray ∧ Rts zp ∧ zp.length = 6 ∧ Rt zdzk ∧ Rt zdzcr ∧ zdzam < 18446744073709551616 ∧ Rt zdzsg := by
  obtain ⟨cs, rfl, _⟩ := okWide_struct Tryd.underlying52 hv
  obtain ⟨fuel, hf⟩ := h
  obtain ⟨zp, zdzk, zdzcr, zdzam, zdzsg, e, h0, h1, h2, h3, h4, h5⟩ := dp_of_trod hf
  exact ⟨zp, zdzk, zdzcr, zdzam, zdzsg, by rw [← Array.toList_inj.1 (show cs.toList = (dpC zp zdzk zdzcr zdzam zdzsg).toArray.toList from e)], h0, h1, h2, h3, h4, h5⟩
end
end Go.Proofs.YtfmecdmkepnlmaaDoor

