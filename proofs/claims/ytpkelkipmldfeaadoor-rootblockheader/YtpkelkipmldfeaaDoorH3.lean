/- Own texts of the proof, joined: RootD TreZ Elem LsProposerSlashing LsAttesterSlashing LsAttestation LsDeposit LsSignedExit CoEth CoBody CoBlock FlowM. -/
import Derived.Test.YtpkelkipmldfeaaDoorH2
/- The document's Root, at numbers, truths, roots and containers. -/
namespace Go.Proofs.YtpkelkipmldfeaaDoor
open Go.RowKit Go.Shelf
set_option linter.unusedVariables false
set_option maxRecDepth 100000

/-- The tree of leaves within their limit, else zero. -/
def treeZ (m : Nat) (rs : List (List Nat)) : List Nat := if rs.length ≤ m then fullR (depth (m : Nat)) rs else zeros 32
theorem treeZ_rt (m : Nat) (rs : List (List Nat)) (h : Rts rs) : Rt (treeZ m rs) := by
  unfold treeZ
  split
  · exact full_rt _ _ h
  · exact zero_rt
/-- The root of a list of at most n bits. -/
def bitsR (n : Nat) (l : List Bool) : List Nat := pr (treeZ ((n + 255) / 256) (chunks (putB l false))) (wUp l.length 8)
/-- Numbers side by side. -/
def numB (ns : List Nat) : List Nat := (ns.map byte8).flatten
theorem numB_length (ns : List Nat) : (numB ns).length = 8 * ns.length := by
  induction ns with
  | nil => rfl
  | cons n ns ih => rw [show numB (n :: ns) = byte8 n ++ numB ns from rfl, List.length_append, ih, byte8_length, List.length_cons]; omega
theorem numB_byte (ns : List Nat) : ∀ z ∈ numB ns, z < 256 := fun z hz => by
  obtain ⟨l, hl, hz⟩ := List.mem_flatten.1 hz
  obtain ⟨n, _, rfl⟩ := List.mem_map.1 hl
  exact byte8_by8 n z hz
theorem numB_succ (ns : List Nat) (t : Nat) (h : t < ns.length) : numB (ns.take t) ++ byte8 (ns.getD t 0) = numB (ns.take (t + 1)) := by
  unfold numB
  rw [List.take_add_one, List.getElem?_eq_getElem h, List.getD_eq_getElem?_getD, List.getElem?_eq_getElem h]
  show (List.map byte8 (ns.take t)).flatten ++ byte8 ns[t] = (List.map byte8 (ns.take t ++ [ns[t]])).flatten
  rw [List.map_append, List.flatten_append]
  simp only [List.map_cons, List.map_nil, List.flatten_cons, List.flatten_nil, List.append_nil]
/-- The root of a list of at most n numbers. -/
def listR (n : Nat) (ns : List Nat) : List Nat := pr (treeZ ((8 * n + 31) / 32) (chunks (numB ns))) (wUp ns.length 8)
mutual
/-- A value's root. -/
def rootV : Dt → Vt → List Nat
  | .mk f n ds, .mk num r bs ks => if f = 1 ∨ f = 2 then wUp num 8 else if f = 3 then r else if f = 7 then bitsR n bs else if f = 5 then listR n (ks.map Vt.num) else fullR (depth (ds.length : Nat)) (rootsV ds ks)
def rootsV : List Dt → List Vt → List (List Nat)
  | d :: ds, v :: vs => rootV d v :: rootsV ds vs
  | [], _ => []
  | _, [] => []
end
mutual
/-- The kinds and values that this speaks of. -/
def okR : Dt → Vt → Prop
  | .mk f n ds, .mk num r bs ks => f = 1 ∨ f = 2 ∨ f = 3 ∨ (f = 7 ∧ n ≤ 1048576 ∧ bs.length ≤ 20000) ∨ (f = 5 ∧ n ≤ 1048576 ∧ (∃ m0 ds0, ds = [.mk 1 m0 ds0]) ∧ ks.length ≤ 2000) ∨ (f = 8 ∧ ds.length = ks.length ∧ ds.length ≤ 1048576 ∧ okRs ds ks)
def okRs : List Dt → List Vt → Prop
  | d :: ds, v :: vs => okR d v ∧ okRs ds vs
  | [], _ => True
  | _, [] => True
end
theorem okRs_get : ∀ {ds : List Dt} {vs : List Vt} {i : Nat} {d : Dt} {v : Vt}, okRs ds vs → ds[i]? = some d → vs[i]? = some v → okR d v
  | d :: ds, v :: vs, 0, _, _, h, h1, h2 => by simp at h1 h2; subst h1; subst h2; rw [okRs] at h; exact h.1
  | d :: ds, v :: vs, i + 1, _, _, h, h1, h2 => by
    rw [List.getElem?_cons_succ] at h1 h2
    rw [okRs] at h
    exact okRs_get h.2 h1 h2
theorem rootsV_get : ∀ {ds : List Dt} {vs : List Vt} {i : Nat} {d : Dt} {v : Vt}, ds[i]? = some d → vs[i]? = some v → (rootsV ds vs)[i]? = some (rootV d v)
  | d :: ds, v :: vs, 0, _, _, h1, h2 => by simp at h1 h2; subst h1; subst h2; rw [rootsV]; rfl
  | d :: ds, v :: vs, i + 1, _, _, h1, h2 => by
    rw [List.getElem?_cons_succ] at h1 h2
    rw [rootsV, List.getElem?_cons_succ]
    exact rootsV_get h1 h2
theorem rootsV_length : ∀ {ds : List Dt} {vs : List Vt}, ds.length = vs.length → (rootsV ds vs).length = ds.length
  | [], _, _ => by rw [rootsV]; rfl
  | d :: ds, v :: vs, h => by rw [rootsV, List.length_cons, rootsV_length (by simpa using h), List.length_cons]
  | d :: ds, [], h => by simp at h
/-- The roots that a value holds are roots. -/
def goodV (w : World) (x : Vt) : Prop := ∃ sb sk, VAt w x sb sk
mutual
theorem rootV_rt {w : World} : ∀ (d : Dt) (x : Vt) {sb sk : Value}, okR d x → VAt w x sb sk → Rt (rootV d x)
  | .mk f n ds, .mk num r bs ks, sb, sk, ho, h => by
    rw [VAt] at h
    rw [rootV]
    rw [okR] at ho
    split
    · exact wUp_rt _ 8
    · split
      · exact ⟨h.1.2.1, h.1.2.2⟩
      · split
        · exact pr_rt _ _
        split
        · exact pr_rt _ _
        · rename_i h1 h2 h3 h5
          rcases ho with ho | ho | ho | ⟨ho, _⟩ | ⟨ho, _⟩ | ⟨_, hl, _, ho⟩
          · exact absurd (.inl ho) h1
          · exact absurd (.inr ho) h1
          · exact absurd ho h2
          · exact absurd ho h3
          · exact absurd ho h5
          refine full_rt _ _ ?_
          obtain ⟨_, _, ao, cap, _, _, _, hk⟩ := h
          rcases hk with hk | ⟨b, off, _, hk⟩
          · rw [List.length_eq_zero_iff.1 (hl.trans hk), rootsV]; exact Rts.nil
          · exact rootsV_rts ds ks ho hk
theorem rootsV_rts {w : World} : ∀ (ds : List Dt) (xs : List Vt) {b off : Nat}, okRs ds xs → KsAt w xs b off → Rts (rootsV ds xs)
  | d :: ds, x :: xs, b, off, ho, h => by
    rw [KsAt] at h
    rw [okRs] at ho
    rw [rootsV]
    obtain ⟨⟨sb, sk, _, h1⟩, h2⟩ := h
    exact Rts.more (rootV_rt d x ho.1 h1) (rootsV_rts ds xs ho.2 h2)
  | [], _, _, _, _, _ => by rw [rootsV]; exact Rts.nil
  | d :: ds, [], _, _, _, _ => by rw [rootsV] <;> first | exact Rts.nil | simp
end
theorem run_atG {P : Program} {o : Oper} {a : Act} {w : World} (ty e : TypeId) (sz : Nat) (x y : Operand) (ho : o.op = .indexAddr ty x y) (hu : P.underlying ty = some (.slice e)) (hs : (P.info? e).map (·.size) = some sz) (b off n cap i : Nat) (hx : a.eval x = .slice (some ⟨b, off, none⟩) n cap) (hy : a.eval y = .int .i64 (i : Int)) (hi : i < n) :
    (execOp a.eval o).run P w = .ok (.value (.pointer (some ⟨b, off + i * sz, none⟩))) w := by
  have hz : (sizeOf e).run P w = .ok sz w := by
    cases hq : P.info? e with
    | none => rw [hq] at hs; cases hs
    | some ie => rw [hq] at hs; simp only [Option.map_some, Option.some.injEq] at hs; simp [sizeOf, typeInfo, hq, hs, go_sem]
  unfold execOp
  simp only [ho, hx, hy]
  by_cases h0 : i * sz = 0
  · simp [Instr.indexAt, underlying, hu, hz, hi, h0, Addr.add, asIntOf, go_sem]
  · simp [Instr.indexAt, underlying, hu, hz, hi, h0, Addr.add, asIntOf, go_sem]

end Go.Proofs.YtpkelkipmldfeaaDoor

/- The tree of leaves, beyond their limit too, by the program. -/
namespace Go.Proofs.YtpkelkipmldfeaaDoor
open Go.RowKit
set_option linter.unusedVariables false
set_option maxRecDepth 100000

set_option maxHeartbeats 1000000 in
theorem tre_of (v : Value) (m : Int) (W : List Nat) (en : Int) (w : World) (hW : Rt W) (h : ∀ w1, Below w.heap.size w w1 → Calls Tryd.prog 44 #[v, .int .i64 m] w1 fun e w' => e = .returned (.tuple #[.agg (nums .u8 W), .int .i64 en]) ∧ Below w1.heap.size w1 w') :
    Calls Tryd.prog 28 #[v, .int .i64 m] w fun e w' => e = .returned (.agg (nums .u8 W)) ∧ Below w.heap.size w w' := by
  have HC := hid h
  clear h
  go_enter Tryd.func28, Tryd.ntmps28
  go_wp2_with ((with_reducible refine at_list' ?_); first
    | (refine wpList_alloc_has rfl 4 rfl 24 rfl .u8 32 Tryd.zero24 ?_; intro w1 H1 B1 S1))
  refine (HC.out w1 B1).mono ?_
  rintro e w2 ⟨rfl, B2⟩
  have H2 := H1.keep B2
  have HW2 := below_more B1 B2 (Nat.le_refl _)
  have s2 := H2.lt
  clear HC H1 B1 S1 B2
  go_wp2_with ((with_reducible refine at_list' ?_); first
    | (refine wpList_alloc_has rfl 5 rfl 24 rfl .u8 32 Tryd.zero24 ?_; intro w3 H3 B3 S3)
    | (refine wpList_store_has rfl 24 (.tmp 5) (.tmp 11) rfl w2.heap.size .u8 W (zeros 32) rfl rfl 24 H3 (hW.size _ Tryd.size24) (by rw [hW.len, zeros_length]) ?_; intro w4 H4 O4)
    | (refine wpList_load_has rfl 24 (.tmp 5) rfl w2.heap.size .u8 W rfl 24 H4 _ _ Tryd.und24 (hW.size _ Tryd.size24) ?_)
    | (refine wpList_store_has rfl 24 (.tmp 4) (.tmp 13) rfl w.heap.size .u8 W (zeros 32) rfl rfl 24 ((H2.keep B3).only O4 (by omega)) (hW.size _ Tryd.size24) (by rw [hW.len, zeros_length]) ?_; intro w5 H5 O5))
  refine bodyPost_ret (results_has rfl _ _ w.heap.size 24 .u8 W _ _ rfl H5 Tryd.und24 (hW.size _ Tryd.size24)) rfl ?_
  exact ⟨rfl, below_only (below_only (below_more HW2 B3 (Nat.le_refl _)) O4 (by omega)) O5 (by omega)⟩
theorem treZ_any (ao : Option Addr) (cap : Nat) (rs : List (List Nat)) (m : Nat) (w : World) (hT : Tabs w) (hcap : rs.length ≤ cap) (hm : cap ≤ maxLen) (hlen : rs.length ≤ 4398046511104) (hmm : m ≤ 1048576) (hR : RootsAt w ao rs) :
    Calls Tryd.prog 28 #[.slice ao rs.length cap, .int .i64 (m : Nat)] w fun e w' => e = .returned (.agg (nums .u8 (treeZ m rs))) ∧ Below w.heap.size w w' := by
  by_cases hle : rs.length ≤ m
  · rw [treeZ, if_pos hle]
    exact tre_of _ _ _ 0 w (full_rt _ _ hR.rts) (fun w1 hb => tree_any ao cap rs (m : Nat) w1 (hT.keep hb) hcap hm (by omega) (hR.keep hb) (by omega) (by omega))
  · rw [treeZ, if_neg hle]
    exact tre_of _ _ _ 4 w zero_rt (fun w1 hb => tree_bad ao cap rs (m : Nat) w1 hcap hm (by omega) (by omega) (.inr (by omega)))
end Go.Proofs.YtpkelkipmldfeaaDoor

/- Lists of structs: each element's root, by the program. -/
namespace Go.Proofs.YtpkelkipmldfeaaDoor
open Go.RowKit Go.Shelf
set_option linter.unusedVariables false
set_option maxRecDepth 100000

/-- The function F answers the root R of these cells, now and later. -/
structure RootOf (F : FuncId) (w : World) (cs : List Value) (R : List Nat) : Prop where
  rt : Rt R
  call : ∀ w', Below w.heap.size w w' → Calls Tryd.prog F #[.agg cs.toArray] w' fun x w'' => x = .returned (.agg (nums .u8 R)) ∧ Below w'.heap.size w' w''
theorem RootOf.keep {F : FuncId} {w w' : World} {cs : List Value} {R : List Nat} (h : RootOf F w cs R) (hb : Below w.heap.size w w') : RootOf F w' cs R := ⟨h.rt, fun w'' hb' => h.call w'' (hb.trans (hb'.mono hb.size))⟩
/-- A slice of structs of sz cells: what each holds, and what F answers of it. -/
structure Elems (F : FuncId) (sz : Nat) (w : World) (ao : Option Addr) (css : List (List Value)) (Rs : List (List Nat)) : Prop where
  len : Rs.length = css.length
  size : ∀ i, i < css.length → (css.getD i []).length = sz
  one : ∀ i, i < css.length → (css.getD i []).toArray.all (·.oneCell') = true
  mem : css.length = 0 ∨ ∃ b off, ao = some ⟨b, off, none⟩ ∧ ∀ i, i < css.length → w.rangeAt b (off + i * sz) (css.getD i [])
  root : ∀ i, i < css.length → RootOf F w (css.getD i []) (Rs.getD i [])
theorem range_keep {w w' : World} {b o : Nat} {cs : List Value} (h : w.rangeAt b o cs) (hb : Below w.heap.size w w') : w'.rangeAt b o cs := fun j v hv => cell_keep hb (h j v hv)
theorem range_only {w w' : World} {b o g : Nat} {cs : List Value} (h : w.rangeAt b o cs) (ho : Only g w w') (hg : b ≠ g) : w'.rangeAt b o cs := fun j v hv => (World.cell?_of_block (a := ⟨b, o + j, none⟩) (ho.block b hg)).trans (h j v hv)
theorem Elems.keep {F : FuncId} {sz : Nat} {w w' : World} {ao : Option Addr} {css : List (List Value)} {Rs : List (List Nat)} (h : Elems F sz w ao css Rs) (hb : Below w.heap.size w w') : Elems F sz w' ao css Rs := by
  refine ⟨h.len, h.size, h.one, ?_, fun i hi => (h.root i hi).keep hb⟩
  rcases h.mem with e | ⟨b, off, e, hm⟩
  · exact .inl e
  · exact .inr ⟨b, off, e, fun i hi => range_keep (hm i hi) hb⟩
theorem Elems.rts {F : FuncId} {sz : Nat} {w : World} {ao : Option Addr} {css : List (List Value)} {Rs : List (List Nat)} (h : Elems F sz w ao css Rs) : Rts Rs := by
  have key : ∀ r ∈ Rs, Rt r := fun r hr => by
    obtain ⟨i, hi, rfl⟩ := List.mem_iff_getElem.1 hr
    have := (h.root i (by rw [← h.len]; exact hi)).rt
    rwa [List.getD_eq_getElem?_getD, List.getElem?_eq_getElem hi] at this
  exact ⟨fun r hr => (key r hr).len, fun r hr => (key r hr).byte⟩
/-- The zero of a type of structs. -/
noncomputable def zsOf (t : TypeId) : List Value := match (Tryd.prog.info? t).map (fun i : TypeInfo => i.zero) with
  | some (some (Value.agg a)) => a.toList
  | _ => []
/-- The root of a list of at most n structs whose roots these are. -/
def listOf (n : Nat) (Rs : List (List Nat)) : List Nat := pr (treeZ n Rs) (wUp Rs.length 8)
theorem listOf_rt (n : Nat) (Rs : List (List Nat)) : Rt (listOf n Rs) := pr_rt _ _
end Go.Proofs.YtpkelkipmldfeaaDoor

/- The roots of a list of ProposerSlashing, and the list's root, by the program. -/
namespace Go.Proofs.YtpkelkipmldfeaaDoor
open Go.RowKit Go.Shelf
set_option linter.unusedVariables false
set_option maxRecDepth 100000

theorem tyProposerSlashing : Ty Tryd.prog 67 (zsOf 67) := ⟨by kernel_rfl, _, Tryd.underlying67, rfl⟩
theorem zsProposerSlashing : (zsOf 67).length = 260 := by kernel_rfl
set_option maxHeartbeats 2000000 in
theorem rootsProposerSlashing_any (ao : Option Addr) (cap : Nat) (css : List (List Value)) (Rs : List (List Nat)) (w : World) (hcap : css.length ≤ cap) (hm : cap ≤ maxLen) (hlen : css.length ≤ 4398046511104) (hE : Elems 17 260 w ao css Rs) :
    Calls Tryd.prog 31 #[.slice ao css.length cap, .func (.func 17) #[] #[]] w fun e w' => ∃ g, w.heap.size ≤ g ∧ e = .returned (.slice (some ⟨g, 0, none⟩) css.length css.length) ∧ RootsAt w' (some ⟨g, 0, none⟩) Rs ∧ Below w.heap.size w w' := by
  have hm' := hm
  unfold maxLen at hm
  have hX : Rts Rs := hE.rts
  obtain ⟨m, hgm⟩ : ∃ m, css.length = m := ⟨_, rfl⟩
  have hXl : Rs.length = m := hE.len.trans hgm
  rw [hgm] at hcap hlen ⊢
  have HE := hid hE
  have HG := hid hgm
  clear hE hgm
  go_enter Tryd.func31, Tryd.ntmps31
  go_wp2_with ((with_reducible refine at_list' ?_); first
    | (refine wpList_make_roots rfl (.tmp 9) (.tmp 9) 89 rfl 24 Tryd.underlying89 Tryd.rootInfo .i64 .i64 _ _ m rfl rfl rfl rfl (by omega) ?_; intro w3 H3 B3))
  rw [← upTo_zero Rs m] at H3
  go_loopw [6, 7, 13] (fun _ _ i wr => ∃ t : Nat, t ≤ m ∧ i = .int .i64 t ∧ Has wr w.heap.size 24 .u8 (upTo Rs m t).flatten ∧ Below w.heap.size w wr) (fun _ _ i _ => m - (intOf i).toNat)
  case atStart => exact ⟨0, by omega, rfl, H3, B3⟩
  case round =>
    clear H3 B3
    obtain ⟨t, ht, rfl, HN, HW⟩ := hrel
    by_cases hlt : t < m
    · obtain ⟨b, off, rfl, hmem⟩ := HE.out.mem.resolve_left (by have := HG.out; omega)
      obtain ⟨cs, hcs⟩ : ∃ cs, css.getD t [] = cs := ⟨_, rfl⟩
      obtain ⟨R, hR⟩ : ∃ R, Rs.getD t [] = R := ⟨_, rfl⟩
      have hl : cs.length = 260 := by rw [← hcs]; exact HE.out.size t (by rw [HG.out]; exact hlt)
      have h1 : cs.toArray.all (·.oneCell') = true := by rw [← hcs]; exact HE.out.one t (by rw [HG.out]; exact hlt)
      have hrg : wr.rangeAt b (off + t * 260) cs := by rw [← hcs]; exact range_keep (hmem t (by rw [HG.out]; exact hlt)) HW
      have hro : RootOf 17 wr cs R := by rw [← hcs, ← hR]; exact (HE.out.root t (by rw [HG.out]; exact hlt)).keep HW
      have hnx := hid (upTo_next Rs m t hX hXl hlt R hR.symm)
      have hfl := hid (upTo_flat Rs m t hX hXl ht)
      have HRG := hid hrg
      have HRO := hid hro
      have HNW := hid (And.intro HN HW)
      have H1 := hid h1
      have HL := hid hl
      have hws := HW.size
      have hwl := HN.lt
      clear hrg hro HN HW h1 hmem hcs hR hl
      go_wp2_with ((with_reducible refine at_list' ?_); first
        | (refine wpList_run rfl (.agg cs.toArray) (run_mid 67 (.tmp 16) rfl b (off + t * 260) rfl cs HRG.out _ Tryd.underlying67 rfl (by rw [tyProposerSlashing.size, zsProposerSlashing, HL.out])) ?_)
        | (refine wpList_alloc_c tyProposerSlashing rfl 7 rfl rfl ?_; intro w4 H4 B4 S4)
        | (refine wpList_store_c tyProposerSlashing rfl (.tmp 7) (.tmp 17) rfl wr.heap.size cs rfl rfl (by rw [HL.out, zsProposerSlashing]) H1.out _ H4 rfl ?_; intro w5 H5 O5)
        | (refine wpList_load_c tyProposerSlashing rfl (.tmp 7) rfl wr.heap.size cs rfl (by rw [HL.out, zsProposerSlashing]) H5 ?_))
      have B5 : Below wr.heap.size wr w5 := below_only B4 O5 (Nat.le_refl _)
      refine (HRO.out.call w5 B5).mono ?_
      rintro e w6 ⟨rfl, B6⟩
      have B56 := below_more B5 B6 (Nat.le_refl _)
      have HN6 := HNW.out.1.keep B56
      have L6 := hid (HNW.out.2.trans (B56.mono hws))
      have hR2 := HRO.out.rt
      clear H4 B4 S4 H5 O5 B5 B6 B56
      go_wp2_with ((with_reducible refine at_list' ?_); first
        | (refine wpList_store_part rfl 24 (.tmp 23) (.tmp 22) rfl w.heap.size t 24 _ R (by rw [Nat.mul_comm 32 t]; rfl) rfl HN6 hR2.len (by rw [hfl.out]; omega) Tryd.size24 ?_; intro w7 H7 O7))
      rw [hnx.out] at H7
      have X7 := hid (And.intro H7 (below_only L6.out O7 (Nat.le_refl _)))
      clear H7 O7 HN6
      try go_wp2
      go_roundw
      case rel => exact ⟨t + 1, by omega, by go_num, X7.out.1, X7.out.2⟩
      case measure => simp [intOf]; omega
    · have ht2 : t = m := by omega
      subst ht2
      rw [upTo_all _ _ hXl] at HN
      have X := hid (And.intro HN HW)
      clear HN HW
      go_wp2
      go_ret
      exact ⟨w.heap.size, Nat.le_refl _, rfl, HasR.at hX X.out.1, X.out.2⟩
set_option maxHeartbeats 2000000 in
theorem listProposerSlashing_any (ao : Option Addr) (cap n : Nat) (css : List (List Value)) (Rs : List (List Nat)) (w : World) (hT : Tabs w) (hn : n ≤ 1048576) (hcap : css.length ≤ cap) (hm : cap ≤ maxLen) (hlen : css.length ≤ 4398046511104) (hE : Elems 17 260 w ao css Rs) :
    Calls Tryd.prog 16 #[.slice ao css.length cap, .int .i64 (n : Nat), .func (.func 17) #[] #[]] w fun e w' => e = .returned (.agg (nums .u8 (listOf n Rs))) ∧ Below w.heap.size w w' := by
  have hX : Rts Rs := hE.rts
  obtain ⟨T, HTT⟩ : ∃ T, Same (treeZ n Rs) T := ⟨_, ⟨rfl⟩⟩
  have hTr := treeZ_rt n Rs hX
  rw [HTT.out] at hTr
  have hpr := pr_rt T (wUp Rs.length 8)
  obtain ⟨Z, HZ⟩ : ∃ Z, Same (pr T (wUp Rs.length 8)) Z := ⟨_, ⟨rfl⟩⟩
  rw [show listOf n Rs = pr (treeZ n Rs) (wUp Rs.length 8) from rfl, HTT.out, HZ.out]
  have HMX := hid (fun w (hT : Tabs w) => mix_any' T Rs.length hTr (by rw [hE.len]; omega) w hT)
  rw [HZ.out] at hpr HMX
  have HTz := hid (fun ao cap w1 (hT : Tabs w1) (h1 : Rs.length ≤ cap) (h2 : cap ≤ maxLen) (h3 : RootsAt w1 ao Rs) => treZ_any ao cap Rs n w1 hT h1 h2 (by rw [hE.len]; exact hlen) hn h3)
  rw [HTT.out] at HTz
  have HP := hid (fun w1 (hb : Below w.heap.size w w1) => rootsProposerSlashing_any ao cap css Rs w1 hcap hm hlen (hE.keep hb))
  have hRl := hE.len
  rw [hRl] at HMX HTz
  have HT := hid hT
  have HRL := hid hRl
  clear hE hT hRl
  unfold maxLen at hm
  go_enter Tryd.func16, Tryd.ntmps16
  go_wp2_with ((with_reducible refine at_list' ?_); first
    | (refine wpList_alloc_has rfl 6 rfl 24 rfl .u8 32 Tryd.zero24 ?_; intro w1 H1 B1 S1))
  refine (HP.out w1 B1).mono ?_
  rintro e w3 ⟨g, hg, rfl, k3, B3⟩
  have L3 := hid (below_more B1 B3 (Nat.le_refl _))
  have H3 := H1.keep B3
  have HT3 := hid (HTz.out (some ⟨g, 0, none⟩) css.length w3 (HT.out.keep L3.out) (Nat.le_refl _) (by unfold maxLen; omega) k3)
  clear HP k3 hg H1 B1 S1 B3 HTz
  go_wp2_with fail
  refine HT3.out.mono ?_
  rintro e w4 ⟨rfl, B4⟩
  have L4 := hid (below_more L3.out B4 (Nat.le_refl _))
  have H4 := H3.keep B4
  clear HT3 L3 H3 B4
  go_wp2_with fail
  refine (HMX.out w4 (HT.out.keep L4.out)).mono ?_
  rintro e w5 ⟨rfl, B5⟩
  have L5 := hid (below_more L4.out B5 (Nat.le_refl _))
  have H5 := H4.keep B5
  clear L4 H4 B5 HMX
  go_wp2_with ((with_reducible refine at_list' ?_); first
    | (refine wpList_store_has rfl 24 (.tmp 6) (.tmp 15) rfl w.heap.size .u8 Z (zeros 32) rfl rfl 24 H5 (hpr.size _ Tryd.size24) (by rw [hpr.len, zeros_length]) ?_; intro w6 H6 O6))
  refine bodyPost_ret (results_has rfl _ _ w.heap.size 24 .u8 Z _ _ rfl H6 Tryd.und24 (hpr.size _ Tryd.size24)) rfl ?_
  exact ⟨rfl, below_only L5.out O6 (Nat.le_refl _)⟩
end Go.Proofs.YtpkelkipmldfeaaDoor

/- The roots of a list of AttesterSlashing, and the list's root, by the program. -/
namespace Go.Proofs.YtpkelkipmldfeaaDoor
open Go.RowKit Go.Shelf
set_option linter.unusedVariables false
set_option maxRecDepth 100000

theorem tyAttesterSlashing : Ty Tryd.prog 57 (zsOf 57) := ⟨by kernel_rfl, _, Tryd.underlying57, rfl⟩
theorem zsAttesterSlashing : (zsOf 57).length = 266 := by kernel_rfl
set_option maxHeartbeats 2000000 in
theorem rootsAttesterSlashing_any (ao : Option Addr) (cap : Nat) (css : List (List Value)) (Rs : List (List Nat)) (w : World) (hcap : css.length ≤ cap) (hm : cap ≤ maxLen) (hlen : css.length ≤ 4398046511104) (hE : Elems 19 266 w ao css Rs) :
    Calls Tryd.prog 33 #[.slice ao css.length cap, .func (.func 19) #[] #[]] w fun e w' => ∃ g, w.heap.size ≤ g ∧ e = .returned (.slice (some ⟨g, 0, none⟩) css.length css.length) ∧ RootsAt w' (some ⟨g, 0, none⟩) Rs ∧ Below w.heap.size w w' := by
  have hm' := hm
  unfold maxLen at hm
  have hX : Rts Rs := hE.rts
  obtain ⟨m, hgm⟩ : ∃ m, css.length = m := ⟨_, rfl⟩
  have hXl : Rs.length = m := hE.len.trans hgm
  rw [hgm] at hcap hlen ⊢
  have HE := hid hE
  have HG := hid hgm
  clear hE hgm
  go_enter Tryd.func33, Tryd.ntmps33
  go_wp2_with ((with_reducible refine at_list' ?_); first
    | (refine wpList_make_roots rfl (.tmp 9) (.tmp 9) 89 rfl 24 Tryd.underlying89 Tryd.rootInfo .i64 .i64 _ _ m rfl rfl rfl rfl (by omega) ?_; intro w3 H3 B3))
  rw [← upTo_zero Rs m] at H3
  go_loopw [6, 7, 13] (fun _ _ i wr => ∃ t : Nat, t ≤ m ∧ i = .int .i64 t ∧ Has wr w.heap.size 24 .u8 (upTo Rs m t).flatten ∧ Below w.heap.size w wr) (fun _ _ i _ => m - (intOf i).toNat)
  case atStart => exact ⟨0, by omega, rfl, H3, B3⟩
  case round =>
    clear H3 B3
    obtain ⟨t, ht, rfl, HN, HW⟩ := hrel
    by_cases hlt : t < m
    · obtain ⟨b, off, rfl, hmem⟩ := HE.out.mem.resolve_left (by have := HG.out; omega)
      obtain ⟨cs, hcs⟩ : ∃ cs, css.getD t [] = cs := ⟨_, rfl⟩
      obtain ⟨R, hR⟩ : ∃ R, Rs.getD t [] = R := ⟨_, rfl⟩
      have hl : cs.length = 266 := by rw [← hcs]; exact HE.out.size t (by rw [HG.out]; exact hlt)
      have h1 : cs.toArray.all (·.oneCell') = true := by rw [← hcs]; exact HE.out.one t (by rw [HG.out]; exact hlt)
      have hrg : wr.rangeAt b (off + t * 266) cs := by rw [← hcs]; exact range_keep (hmem t (by rw [HG.out]; exact hlt)) HW
      have hro : RootOf 19 wr cs R := by rw [← hcs, ← hR]; exact (HE.out.root t (by rw [HG.out]; exact hlt)).keep HW
      have hnx := hid (upTo_next Rs m t hX hXl hlt R hR.symm)
      have hfl := hid (upTo_flat Rs m t hX hXl ht)
      have HRG := hid hrg
      have HRO := hid hro
      have HNW := hid (And.intro HN HW)
      have H1 := hid h1
      have HL := hid hl
      have hws := HW.size
      have hwl := HN.lt
      clear hrg hro HN HW h1 hmem hcs hR hl
      go_wp2_with ((with_reducible refine at_list' ?_); first
        | (refine wpList_run rfl (.agg cs.toArray) (run_mid 57 (.tmp 16) rfl b (off + t * 266) rfl cs HRG.out _ Tryd.underlying57 rfl (by rw [tyAttesterSlashing.size, zsAttesterSlashing, HL.out])) ?_)
        | (refine wpList_alloc_c tyAttesterSlashing rfl 7 rfl rfl ?_; intro w4 H4 B4 S4)
        | (refine wpList_store_c tyAttesterSlashing rfl (.tmp 7) (.tmp 17) rfl wr.heap.size cs rfl rfl (by rw [HL.out, zsAttesterSlashing]) H1.out _ H4 rfl ?_; intro w5 H5 O5)
        | (refine wpList_load_c tyAttesterSlashing rfl (.tmp 7) rfl wr.heap.size cs rfl (by rw [HL.out, zsAttesterSlashing]) H5 ?_))
      have B5 : Below wr.heap.size wr w5 := below_only B4 O5 (Nat.le_refl _)
      refine (HRO.out.call w5 B5).mono ?_
      rintro e w6 ⟨rfl, B6⟩
      have B56 := below_more B5 B6 (Nat.le_refl _)
      have HN6 := HNW.out.1.keep B56
      have L6 := hid (HNW.out.2.trans (B56.mono hws))
      have hR2 := HRO.out.rt
      clear H4 B4 S4 H5 O5 B5 B6 B56
      go_wp2_with ((with_reducible refine at_list' ?_); first
        | (refine wpList_store_part rfl 24 (.tmp 23) (.tmp 22) rfl w.heap.size t 24 _ R (by rw [Nat.mul_comm 32 t]; rfl) rfl HN6 hR2.len (by rw [hfl.out]; omega) Tryd.size24 ?_; intro w7 H7 O7))
      rw [hnx.out] at H7
      have X7 := hid (And.intro H7 (below_only L6.out O7 (Nat.le_refl _)))
      clear H7 O7 HN6
      try go_wp2
      go_roundw
      case rel => exact ⟨t + 1, by omega, by go_num, X7.out.1, X7.out.2⟩
      case measure => simp [intOf]; omega
    · have ht2 : t = m := by omega
      subst ht2
      rw [upTo_all _ _ hXl] at HN
      have X := hid (And.intro HN HW)
      clear HN HW
      go_wp2
      go_ret
      exact ⟨w.heap.size, Nat.le_refl _, rfl, HasR.at hX X.out.1, X.out.2⟩
set_option maxHeartbeats 2000000 in
theorem listAttesterSlashing_any (ao : Option Addr) (cap n : Nat) (css : List (List Value)) (Rs : List (List Nat)) (w : World) (hT : Tabs w) (hn : n ≤ 1048576) (hcap : css.length ≤ cap) (hm : cap ≤ maxLen) (hlen : css.length ≤ 4398046511104) (hE : Elems 19 266 w ao css Rs) :
    Calls Tryd.prog 18 #[.slice ao css.length cap, .int .i64 (n : Nat), .func (.func 19) #[] #[]] w fun e w' => e = .returned (.agg (nums .u8 (listOf n Rs))) ∧ Below w.heap.size w w' := by
  have hX : Rts Rs := hE.rts
  obtain ⟨T, HTT⟩ : ∃ T, Same (treeZ n Rs) T := ⟨_, ⟨rfl⟩⟩
  have hTr := treeZ_rt n Rs hX
  rw [HTT.out] at hTr
  have hpr := pr_rt T (wUp Rs.length 8)
  obtain ⟨Z, HZ⟩ : ∃ Z, Same (pr T (wUp Rs.length 8)) Z := ⟨_, ⟨rfl⟩⟩
  rw [show listOf n Rs = pr (treeZ n Rs) (wUp Rs.length 8) from rfl, HTT.out, HZ.out]
  have HMX := hid (fun w (hT : Tabs w) => mix_any' T Rs.length hTr (by rw [hE.len]; omega) w hT)
  rw [HZ.out] at hpr HMX
  have HTz := hid (fun ao cap w1 (hT : Tabs w1) (h1 : Rs.length ≤ cap) (h2 : cap ≤ maxLen) (h3 : RootsAt w1 ao Rs) => treZ_any ao cap Rs n w1 hT h1 h2 (by rw [hE.len]; exact hlen) hn h3)
  rw [HTT.out] at HTz
  have HP := hid (fun w1 (hb : Below w.heap.size w w1) => rootsAttesterSlashing_any ao cap css Rs w1 hcap hm hlen (hE.keep hb))
  have hRl := hE.len
  rw [hRl] at HMX HTz
  have HT := hid hT
  have HRL := hid hRl
  clear hE hT hRl
  unfold maxLen at hm
  go_enter Tryd.func18, Tryd.ntmps18
  go_wp2_with ((with_reducible refine at_list' ?_); first
    | (refine wpList_alloc_has rfl 6 rfl 24 rfl .u8 32 Tryd.zero24 ?_; intro w1 H1 B1 S1))
  refine (HP.out w1 B1).mono ?_
  rintro e w3 ⟨g, hg, rfl, k3, B3⟩
  have L3 := hid (below_more B1 B3 (Nat.le_refl _))
  have H3 := H1.keep B3
  have HT3 := hid (HTz.out (some ⟨g, 0, none⟩) css.length w3 (HT.out.keep L3.out) (Nat.le_refl _) (by unfold maxLen; omega) k3)
  clear HP k3 hg H1 B1 S1 B3 HTz
  go_wp2_with fail
  refine HT3.out.mono ?_
  rintro e w4 ⟨rfl, B4⟩
  have L4 := hid (below_more L3.out B4 (Nat.le_refl _))
  have H4 := H3.keep B4
  clear HT3 L3 H3 B4
  go_wp2_with fail
  refine (HMX.out w4 (HT.out.keep L4.out)).mono ?_
  rintro e w5 ⟨rfl, B5⟩
  have L5 := hid (below_more L4.out B5 (Nat.le_refl _))
  have H5 := H4.keep B5
  clear L4 H4 B5 HMX
  go_wp2_with ((with_reducible refine at_list' ?_); first
    | (refine wpList_store_has rfl 24 (.tmp 6) (.tmp 15) rfl w.heap.size .u8 Z (zeros 32) rfl rfl 24 H5 (hpr.size _ Tryd.size24) (by rw [hpr.len, zeros_length]) ?_; intro w6 H6 O6))
  refine bodyPost_ret (results_has rfl _ _ w.heap.size 24 .u8 Z _ _ rfl H6 Tryd.und24 (hpr.size _ Tryd.size24)) rfl ?_
  exact ⟨rfl, below_only L5.out O6 (Nat.le_refl _)⟩
end Go.Proofs.YtpkelkipmldfeaaDoor

/- The roots of a list of Attestation, and the list's root, by the program. -/
namespace Go.Proofs.YtpkelkipmldfeaaDoor
open Go.RowKit Go.Shelf
set_option linter.unusedVariables false
set_option maxRecDepth 100000

theorem tyAttestation : Ty Tryd.prog 60 (zsOf 60) := ⟨by kernel_rfl, _, Tryd.underlying60, rfl⟩
theorem zsAttestation : (zsOf 60).length = 133 := by kernel_rfl
set_option maxHeartbeats 2000000 in
theorem rootsAttestation_any (ao : Option Addr) (cap : Nat) (css : List (List Value)) (Rs : List (List Nat)) (w : World) (hcap : css.length ≤ cap) (hm : cap ≤ maxLen) (hlen : css.length ≤ 4398046511104) (hE : Elems 21 133 w ao css Rs) :
    Calls Tryd.prog 35 #[.slice ao css.length cap, .func (.func 21) #[] #[]] w fun e w' => ∃ g, w.heap.size ≤ g ∧ e = .returned (.slice (some ⟨g, 0, none⟩) css.length css.length) ∧ RootsAt w' (some ⟨g, 0, none⟩) Rs ∧ Below w.heap.size w w' := by
  have hm' := hm
  unfold maxLen at hm
  have hX : Rts Rs := hE.rts
  obtain ⟨m, hgm⟩ : ∃ m, css.length = m := ⟨_, rfl⟩
  have hXl : Rs.length = m := hE.len.trans hgm
  rw [hgm] at hcap hlen ⊢
  have HE := hid hE
  have HG := hid hgm
  clear hE hgm
  go_enter Tryd.func35, Tryd.ntmps35
  go_wp2_with ((with_reducible refine at_list' ?_); first
    | (refine wpList_make_roots rfl (.tmp 9) (.tmp 9) 89 rfl 24 Tryd.underlying89 Tryd.rootInfo .i64 .i64 _ _ m rfl rfl rfl rfl (by omega) ?_; intro w3 H3 B3))
  rw [← upTo_zero Rs m] at H3
  go_loopw [6, 7, 13] (fun _ _ i wr => ∃ t : Nat, t ≤ m ∧ i = .int .i64 t ∧ Has wr w.heap.size 24 .u8 (upTo Rs m t).flatten ∧ Below w.heap.size w wr) (fun _ _ i _ => m - (intOf i).toNat)
  case atStart => exact ⟨0, by omega, rfl, H3, B3⟩
  case round =>
    clear H3 B3
    obtain ⟨t, ht, rfl, HN, HW⟩ := hrel
    by_cases hlt : t < m
    · obtain ⟨b, off, rfl, hmem⟩ := HE.out.mem.resolve_left (by have := HG.out; omega)
      obtain ⟨cs, hcs⟩ : ∃ cs, css.getD t [] = cs := ⟨_, rfl⟩
      obtain ⟨R, hR⟩ : ∃ R, Rs.getD t [] = R := ⟨_, rfl⟩
      have hl : cs.length = 133 := by rw [← hcs]; exact HE.out.size t (by rw [HG.out]; exact hlt)
      have h1 : cs.toArray.all (·.oneCell') = true := by rw [← hcs]; exact HE.out.one t (by rw [HG.out]; exact hlt)
      have hrg : wr.rangeAt b (off + t * 133) cs := by rw [← hcs]; exact range_keep (hmem t (by rw [HG.out]; exact hlt)) HW
      have hro : RootOf 21 wr cs R := by rw [← hcs, ← hR]; exact (HE.out.root t (by rw [HG.out]; exact hlt)).keep HW
      have hnx := hid (upTo_next Rs m t hX hXl hlt R hR.symm)
      have hfl := hid (upTo_flat Rs m t hX hXl ht)
      have HRG := hid hrg
      have HRO := hid hro
      have HNW := hid (And.intro HN HW)
      have H1 := hid h1
      have HL := hid hl
      have hws := HW.size
      have hwl := HN.lt
      clear hrg hro HN HW h1 hmem hcs hR hl
      go_wp2_with ((with_reducible refine at_list' ?_); first
        | (refine wpList_run rfl (.agg cs.toArray) (run_mid 60 (.tmp 16) rfl b (off + t * 133) rfl cs HRG.out _ Tryd.underlying60 rfl (by rw [tyAttestation.size, zsAttestation, HL.out])) ?_)
        | (refine wpList_alloc_c tyAttestation rfl 7 rfl rfl ?_; intro w4 H4 B4 S4)
        | (refine wpList_store_c tyAttestation rfl (.tmp 7) (.tmp 17) rfl wr.heap.size cs rfl rfl (by rw [HL.out, zsAttestation]) H1.out _ H4 rfl ?_; intro w5 H5 O5)
        | (refine wpList_load_c tyAttestation rfl (.tmp 7) rfl wr.heap.size cs rfl (by rw [HL.out, zsAttestation]) H5 ?_))
      have B5 : Below wr.heap.size wr w5 := below_only B4 O5 (Nat.le_refl _)
      refine (HRO.out.call w5 B5).mono ?_
      rintro e w6 ⟨rfl, B6⟩
      have B56 := below_more B5 B6 (Nat.le_refl _)
      have HN6 := HNW.out.1.keep B56
      have L6 := hid (HNW.out.2.trans (B56.mono hws))
      have hR2 := HRO.out.rt
      clear H4 B4 S4 H5 O5 B5 B6 B56
      go_wp2_with ((with_reducible refine at_list' ?_); first
        | (refine wpList_store_part rfl 24 (.tmp 23) (.tmp 22) rfl w.heap.size t 24 _ R (by rw [Nat.mul_comm 32 t]; rfl) rfl HN6 hR2.len (by rw [hfl.out]; omega) Tryd.size24 ?_; intro w7 H7 O7))
      rw [hnx.out] at H7
      have X7 := hid (And.intro H7 (below_only L6.out O7 (Nat.le_refl _)))
      clear H7 O7 HN6
      try go_wp2
      go_roundw
      case rel => exact ⟨t + 1, by omega, by go_num, X7.out.1, X7.out.2⟩
      case measure => simp [intOf]; omega
    · have ht2 : t = m := by omega
      subst ht2
      rw [upTo_all _ _ hXl] at HN
      have X := hid (And.intro HN HW)
      clear HN HW
      go_wp2
      go_ret
      exact ⟨w.heap.size, Nat.le_refl _, rfl, HasR.at hX X.out.1, X.out.2⟩
set_option maxHeartbeats 2000000 in
theorem listAttestation_any (ao : Option Addr) (cap n : Nat) (css : List (List Value)) (Rs : List (List Nat)) (w : World) (hT : Tabs w) (hn : n ≤ 1048576) (hcap : css.length ≤ cap) (hm : cap ≤ maxLen) (hlen : css.length ≤ 4398046511104) (hE : Elems 21 133 w ao css Rs) :
    Calls Tryd.prog 20 #[.slice ao css.length cap, .int .i64 (n : Nat), .func (.func 21) #[] #[]] w fun e w' => e = .returned (.agg (nums .u8 (listOf n Rs))) ∧ Below w.heap.size w w' := by
  have hX : Rts Rs := hE.rts
  obtain ⟨T, HTT⟩ : ∃ T, Same (treeZ n Rs) T := ⟨_, ⟨rfl⟩⟩
  have hTr := treeZ_rt n Rs hX
  rw [HTT.out] at hTr
  have hpr := pr_rt T (wUp Rs.length 8)
  obtain ⟨Z, HZ⟩ : ∃ Z, Same (pr T (wUp Rs.length 8)) Z := ⟨_, ⟨rfl⟩⟩
  rw [show listOf n Rs = pr (treeZ n Rs) (wUp Rs.length 8) from rfl, HTT.out, HZ.out]
  have HMX := hid (fun w (hT : Tabs w) => mix_any' T Rs.length hTr (by rw [hE.len]; omega) w hT)
  rw [HZ.out] at hpr HMX
  have HTz := hid (fun ao cap w1 (hT : Tabs w1) (h1 : Rs.length ≤ cap) (h2 : cap ≤ maxLen) (h3 : RootsAt w1 ao Rs) => treZ_any ao cap Rs n w1 hT h1 h2 (by rw [hE.len]; exact hlen) hn h3)
  rw [HTT.out] at HTz
  have HP := hid (fun w1 (hb : Below w.heap.size w w1) => rootsAttestation_any ao cap css Rs w1 hcap hm hlen (hE.keep hb))
  have hRl := hE.len
  rw [hRl] at HMX HTz
  have HT := hid hT
  have HRL := hid hRl
  clear hE hT hRl
  unfold maxLen at hm
  go_enter Tryd.func20, Tryd.ntmps20
  go_wp2_with ((with_reducible refine at_list' ?_); first
    | (refine wpList_alloc_has rfl 6 rfl 24 rfl .u8 32 Tryd.zero24 ?_; intro w1 H1 B1 S1))
  refine (HP.out w1 B1).mono ?_
  rintro e w3 ⟨g, hg, rfl, k3, B3⟩
  have L3 := hid (below_more B1 B3 (Nat.le_refl _))
  have H3 := H1.keep B3
  have HT3 := hid (HTz.out (some ⟨g, 0, none⟩) css.length w3 (HT.out.keep L3.out) (Nat.le_refl _) (by unfold maxLen; omega) k3)
  clear HP k3 hg H1 B1 S1 B3 HTz
  go_wp2_with fail
  refine HT3.out.mono ?_
  rintro e w4 ⟨rfl, B4⟩
  have L4 := hid (below_more L3.out B4 (Nat.le_refl _))
  have H4 := H3.keep B4
  clear HT3 L3 H3 B4
  go_wp2_with fail
  refine (HMX.out w4 (HT.out.keep L4.out)).mono ?_
  rintro e w5 ⟨rfl, B5⟩
  have L5 := hid (below_more L4.out B5 (Nat.le_refl _))
  have H5 := H4.keep B5
  clear L4 H4 B5 HMX
  go_wp2_with ((with_reducible refine at_list' ?_); first
    | (refine wpList_store_has rfl 24 (.tmp 6) (.tmp 15) rfl w.heap.size .u8 Z (zeros 32) rfl rfl 24 H5 (hpr.size _ Tryd.size24) (by rw [hpr.len, zeros_length]) ?_; intro w6 H6 O6))
  refine bodyPost_ret (results_has rfl _ _ w.heap.size 24 .u8 Z _ _ rfl H6 Tryd.und24 (hpr.size _ Tryd.size24)) rfl ?_
  exact ⟨rfl, below_only L5.out O6 (Nat.le_refl _)⟩
end Go.Proofs.YtpkelkipmldfeaaDoor

/- The roots of a list of Deposit, and the list's root, by the program. -/
namespace Go.Proofs.YtpkelkipmldfeaaDoor
open Go.RowKit Go.Shelf
set_option linter.unusedVariables false
set_option maxRecDepth 100000

theorem tyDeposit : Ty Tryd.prog 78 (zsOf 78) := ⟨by kernel_rfl, _, Tryd.underlying78, rfl⟩
theorem zsDeposit : (zsOf 78).length = 289 := by kernel_rfl
set_option maxHeartbeats 2000000 in
theorem rootsDeposit_any (ao : Option Addr) (cap : Nat) (css : List (List Value)) (Rs : List (List Nat)) (w : World) (hcap : css.length ≤ cap) (hm : cap ≤ maxLen) (hlen : css.length ≤ 4398046511104) (hE : Elems 23 289 w ao css Rs) :
    Calls Tryd.prog 38 #[.slice ao css.length cap, .func (.func 23) #[] #[]] w fun e w' => ∃ g, w.heap.size ≤ g ∧ e = .returned (.slice (some ⟨g, 0, none⟩) css.length css.length) ∧ RootsAt w' (some ⟨g, 0, none⟩) Rs ∧ Below w.heap.size w w' := by
  have hm' := hm
  unfold maxLen at hm
  have hX : Rts Rs := hE.rts
  obtain ⟨m, hgm⟩ : ∃ m, css.length = m := ⟨_, rfl⟩
  have hXl : Rs.length = m := hE.len.trans hgm
  rw [hgm] at hcap hlen ⊢
  have HE := hid hE
  have HG := hid hgm
  clear hE hgm
  go_enter Tryd.func38, Tryd.ntmps38
  go_wp2_with ((with_reducible refine at_list' ?_); first
    | (refine wpList_make_roots rfl (.tmp 9) (.tmp 9) 89 rfl 24 Tryd.underlying89 Tryd.rootInfo .i64 .i64 _ _ m rfl rfl rfl rfl (by omega) ?_; intro w3 H3 B3))
  rw [← upTo_zero Rs m] at H3
  go_loopw [6, 7, 13] (fun _ _ i wr => ∃ t : Nat, t ≤ m ∧ i = .int .i64 t ∧ Has wr w.heap.size 24 .u8 (upTo Rs m t).flatten ∧ Below w.heap.size w wr) (fun _ _ i _ => m - (intOf i).toNat)
  case atStart => exact ⟨0, by omega, rfl, H3, B3⟩
  case round =>
    clear H3 B3
    obtain ⟨t, ht, rfl, HN, HW⟩ := hrel
    by_cases hlt : t < m
    · obtain ⟨b, off, rfl, hmem⟩ := HE.out.mem.resolve_left (by have := HG.out; omega)
      obtain ⟨cs, hcs⟩ : ∃ cs, css.getD t [] = cs := ⟨_, rfl⟩
      obtain ⟨R, hR⟩ : ∃ R, Rs.getD t [] = R := ⟨_, rfl⟩
      have hl : cs.length = 289 := by rw [← hcs]; exact HE.out.size t (by rw [HG.out]; exact hlt)
      have h1 : cs.toArray.all (·.oneCell') = true := by rw [← hcs]; exact HE.out.one t (by rw [HG.out]; exact hlt)
      have hrg : wr.rangeAt b (off + t * 289) cs := by rw [← hcs]; exact range_keep (hmem t (by rw [HG.out]; exact hlt)) HW
      have hro : RootOf 23 wr cs R := by rw [← hcs, ← hR]; exact (HE.out.root t (by rw [HG.out]; exact hlt)).keep HW
      have hnx := hid (upTo_next Rs m t hX hXl hlt R hR.symm)
      have hfl := hid (upTo_flat Rs m t hX hXl ht)
      have HRG := hid hrg
      have HRO := hid hro
      have HNW := hid (And.intro HN HW)
      have H1 := hid h1
      have HL := hid hl
      have hws := HW.size
      have hwl := HN.lt
      clear hrg hro HN HW h1 hmem hcs hR hl
      go_wp2_with ((with_reducible refine at_list' ?_); first
        | (refine wpList_run rfl (.agg cs.toArray) (run_mid 78 (.tmp 16) rfl b (off + t * 289) rfl cs HRG.out _ Tryd.underlying78 rfl (by rw [tyDeposit.size, zsDeposit, HL.out])) ?_)
        | (refine wpList_alloc_c tyDeposit rfl 7 rfl rfl ?_; intro w4 H4 B4 S4)
        | (refine wpList_store_c tyDeposit rfl (.tmp 7) (.tmp 17) rfl wr.heap.size cs rfl rfl (by rw [HL.out, zsDeposit]) H1.out _ H4 rfl ?_; intro w5 H5 O5)
        | (refine wpList_load_c tyDeposit rfl (.tmp 7) rfl wr.heap.size cs rfl (by rw [HL.out, zsDeposit]) H5 ?_))
      have B5 : Below wr.heap.size wr w5 := below_only B4 O5 (Nat.le_refl _)
      refine (HRO.out.call w5 B5).mono ?_
      rintro e w6 ⟨rfl, B6⟩
      have B56 := below_more B5 B6 (Nat.le_refl _)
      have HN6 := HNW.out.1.keep B56
      have L6 := hid (HNW.out.2.trans (B56.mono hws))
      have hR2 := HRO.out.rt
      clear H4 B4 S4 H5 O5 B5 B6 B56
      go_wp2_with ((with_reducible refine at_list' ?_); first
        | (refine wpList_store_part rfl 24 (.tmp 23) (.tmp 22) rfl w.heap.size t 24 _ R (by rw [Nat.mul_comm 32 t]; rfl) rfl HN6 hR2.len (by rw [hfl.out]; omega) Tryd.size24 ?_; intro w7 H7 O7))
      rw [hnx.out] at H7
      have X7 := hid (And.intro H7 (below_only L6.out O7 (Nat.le_refl _)))
      clear H7 O7 HN6
      try go_wp2
      go_roundw
      case rel => exact ⟨t + 1, by omega, by go_num, X7.out.1, X7.out.2⟩
      case measure => simp [intOf]; omega
    · have ht2 : t = m := by omega
      subst ht2
      rw [upTo_all _ _ hXl] at HN
      have X := hid (And.intro HN HW)
      clear HN HW
      go_wp2
      go_ret
      exact ⟨w.heap.size, Nat.le_refl _, rfl, HasR.at hX X.out.1, X.out.2⟩
set_option maxHeartbeats 2000000 in
theorem listDeposit_any (ao : Option Addr) (cap n : Nat) (css : List (List Value)) (Rs : List (List Nat)) (w : World) (hT : Tabs w) (hn : n ≤ 1048576) (hcap : css.length ≤ cap) (hm : cap ≤ maxLen) (hlen : css.length ≤ 4398046511104) (hE : Elems 23 289 w ao css Rs) :
    Calls Tryd.prog 22 #[.slice ao css.length cap, .int .i64 (n : Nat), .func (.func 23) #[] #[]] w fun e w' => e = .returned (.agg (nums .u8 (listOf n Rs))) ∧ Below w.heap.size w w' := by
  have hX : Rts Rs := hE.rts
  obtain ⟨T, HTT⟩ : ∃ T, Same (treeZ n Rs) T := ⟨_, ⟨rfl⟩⟩
  have hTr := treeZ_rt n Rs hX
  rw [HTT.out] at hTr
  have hpr := pr_rt T (wUp Rs.length 8)
  obtain ⟨Z, HZ⟩ : ∃ Z, Same (pr T (wUp Rs.length 8)) Z := ⟨_, ⟨rfl⟩⟩
  rw [show listOf n Rs = pr (treeZ n Rs) (wUp Rs.length 8) from rfl, HTT.out, HZ.out]
  have HMX := hid (fun w (hT : Tabs w) => mix_any' T Rs.length hTr (by rw [hE.len]; omega) w hT)
  rw [HZ.out] at hpr HMX
  have HTz := hid (fun ao cap w1 (hT : Tabs w1) (h1 : Rs.length ≤ cap) (h2 : cap ≤ maxLen) (h3 : RootsAt w1 ao Rs) => treZ_any ao cap Rs n w1 hT h1 h2 (by rw [hE.len]; exact hlen) hn h3)
  rw [HTT.out] at HTz
  have HP := hid (fun w1 (hb : Below w.heap.size w w1) => rootsDeposit_any ao cap css Rs w1 hcap hm hlen (hE.keep hb))
  have hRl := hE.len
  rw [hRl] at HMX HTz
  have HT := hid hT
  have HRL := hid hRl
  clear hE hT hRl
  unfold maxLen at hm
  go_enter Tryd.func22, Tryd.ntmps22
  go_wp2_with ((with_reducible refine at_list' ?_); first
    | (refine wpList_alloc_has rfl 6 rfl 24 rfl .u8 32 Tryd.zero24 ?_; intro w1 H1 B1 S1))
  refine (HP.out w1 B1).mono ?_
  rintro e w3 ⟨g, hg, rfl, k3, B3⟩
  have L3 := hid (below_more B1 B3 (Nat.le_refl _))
  have H3 := H1.keep B3
  have HT3 := hid (HTz.out (some ⟨g, 0, none⟩) css.length w3 (HT.out.keep L3.out) (Nat.le_refl _) (by unfold maxLen; omega) k3)
  clear HP k3 hg H1 B1 S1 B3 HTz
  go_wp2_with fail
  refine HT3.out.mono ?_
  rintro e w4 ⟨rfl, B4⟩
  have L4 := hid (below_more L3.out B4 (Nat.le_refl _))
  have H4 := H3.keep B4
  clear HT3 L3 H3 B4
  go_wp2_with fail
  refine (HMX.out w4 (HT.out.keep L4.out)).mono ?_
  rintro e w5 ⟨rfl, B5⟩
  have L5 := hid (below_more L4.out B5 (Nat.le_refl _))
  have H5 := H4.keep B5
  clear L4 H4 B5 HMX
  go_wp2_with ((with_reducible refine at_list' ?_); first
    | (refine wpList_store_has rfl 24 (.tmp 6) (.tmp 15) rfl w.heap.size .u8 Z (zeros 32) rfl rfl 24 H5 (hpr.size _ Tryd.size24) (by rw [hpr.len, zeros_length]) ?_; intro w6 H6 O6))
  refine bodyPost_ret (results_has rfl _ _ w.heap.size 24 .u8 Z _ _ rfl H6 Tryd.und24 (hpr.size _ Tryd.size24)) rfl ?_
  exact ⟨rfl, below_only L5.out O6 (Nat.le_refl _)⟩
end Go.Proofs.YtpkelkipmldfeaaDoor

/- The roots of a list of SignedExit, and the list's root, by the program. -/
namespace Go.Proofs.YtpkelkipmldfeaaDoor
open Go.RowKit Go.Shelf
set_option linter.unusedVariables false
set_option maxRecDepth 100000

theorem tySignedExit : Ty Tryd.prog 84 (zsOf 84) := ⟨by kernel_rfl, _, Tryd.underlying84, rfl⟩
theorem zsSignedExit : (zsOf 84).length = 34 := by kernel_rfl
set_option maxHeartbeats 2000000 in
theorem rootsSignedExit_any (ao : Option Addr) (cap : Nat) (css : List (List Value)) (Rs : List (List Nat)) (w : World) (hcap : css.length ≤ cap) (hm : cap ≤ maxLen) (hlen : css.length ≤ 4398046511104) (hE : Elems 25 34 w ao css Rs) :
    Calls Tryd.prog 40 #[.slice ao css.length cap, .func (.func 25) #[] #[]] w fun e w' => ∃ g, w.heap.size ≤ g ∧ e = .returned (.slice (some ⟨g, 0, none⟩) css.length css.length) ∧ RootsAt w' (some ⟨g, 0, none⟩) Rs ∧ Below w.heap.size w w' := by
  have hm' := hm
  unfold maxLen at hm
  have hX : Rts Rs := hE.rts
  obtain ⟨m, hgm⟩ : ∃ m, css.length = m := ⟨_, rfl⟩
  have hXl : Rs.length = m := hE.len.trans hgm
  rw [hgm] at hcap hlen ⊢
  have HE := hid hE
  have HG := hid hgm
  clear hE hgm
  go_enter Tryd.func40, Tryd.ntmps40
  go_wp2_with ((with_reducible refine at_list' ?_); first
    | (refine wpList_make_roots rfl (.tmp 9) (.tmp 9) 89 rfl 24 Tryd.underlying89 Tryd.rootInfo .i64 .i64 _ _ m rfl rfl rfl rfl (by omega) ?_; intro w3 H3 B3))
  rw [← upTo_zero Rs m] at H3
  go_loopw [6, 7, 13] (fun _ _ i wr => ∃ t : Nat, t ≤ m ∧ i = .int .i64 t ∧ Has wr w.heap.size 24 .u8 (upTo Rs m t).flatten ∧ Below w.heap.size w wr) (fun _ _ i _ => m - (intOf i).toNat)
  case atStart => exact ⟨0, by omega, rfl, H3, B3⟩
  case round =>
    clear H3 B3
    obtain ⟨t, ht, rfl, HN, HW⟩ := hrel
    by_cases hlt : t < m
    · obtain ⟨b, off, rfl, hmem⟩ := HE.out.mem.resolve_left (by have := HG.out; omega)
      obtain ⟨cs, hcs⟩ : ∃ cs, css.getD t [] = cs := ⟨_, rfl⟩
      obtain ⟨R, hR⟩ : ∃ R, Rs.getD t [] = R := ⟨_, rfl⟩
      have hl : cs.length = 34 := by rw [← hcs]; exact HE.out.size t (by rw [HG.out]; exact hlt)
      have h1 : cs.toArray.all (·.oneCell') = true := by rw [← hcs]; exact HE.out.one t (by rw [HG.out]; exact hlt)
      have hrg : wr.rangeAt b (off + t * 34) cs := by rw [← hcs]; exact range_keep (hmem t (by rw [HG.out]; exact hlt)) HW
      have hro : RootOf 25 wr cs R := by rw [← hcs, ← hR]; exact (HE.out.root t (by rw [HG.out]; exact hlt)).keep HW
      have hnx := hid (upTo_next Rs m t hX hXl hlt R hR.symm)
      have hfl := hid (upTo_flat Rs m t hX hXl ht)
      have HRG := hid hrg
      have HRO := hid hro
      have HNW := hid (And.intro HN HW)
      have H1 := hid h1
      have HL := hid hl
      have hws := HW.size
      have hwl := HN.lt
      clear hrg hro HN HW h1 hmem hcs hR hl
      go_wp2_with ((with_reducible refine at_list' ?_); first
        | (refine wpList_run rfl (.agg cs.toArray) (run_mid 84 (.tmp 16) rfl b (off + t * 34) rfl cs HRG.out _ Tryd.underlying84 rfl (by rw [tySignedExit.size, zsSignedExit, HL.out])) ?_)
        | (refine wpList_alloc_c tySignedExit rfl 7 rfl rfl ?_; intro w4 H4 B4 S4)
        | (refine wpList_store_c tySignedExit rfl (.tmp 7) (.tmp 17) rfl wr.heap.size cs rfl rfl (by rw [HL.out, zsSignedExit]) H1.out _ H4 rfl ?_; intro w5 H5 O5)
        | (refine wpList_load_c tySignedExit rfl (.tmp 7) rfl wr.heap.size cs rfl (by rw [HL.out, zsSignedExit]) H5 ?_))
      have B5 : Below wr.heap.size wr w5 := below_only B4 O5 (Nat.le_refl _)
      refine (HRO.out.call w5 B5).mono ?_
      rintro e w6 ⟨rfl, B6⟩
      have B56 := below_more B5 B6 (Nat.le_refl _)
      have HN6 := HNW.out.1.keep B56
      have L6 := hid (HNW.out.2.trans (B56.mono hws))
      have hR2 := HRO.out.rt
      clear H4 B4 S4 H5 O5 B5 B6 B56
      go_wp2_with ((with_reducible refine at_list' ?_); first
        | (refine wpList_store_part rfl 24 (.tmp 23) (.tmp 22) rfl w.heap.size t 24 _ R (by rw [Nat.mul_comm 32 t]; rfl) rfl HN6 hR2.len (by rw [hfl.out]; omega) Tryd.size24 ?_; intro w7 H7 O7))
      rw [hnx.out] at H7
      have X7 := hid (And.intro H7 (below_only L6.out O7 (Nat.le_refl _)))
      clear H7 O7 HN6
      try go_wp2
      go_roundw
      case rel => exact ⟨t + 1, by omega, by go_num, X7.out.1, X7.out.2⟩
      case measure => simp [intOf]; omega
    · have ht2 : t = m := by omega
      subst ht2
      rw [upTo_all _ _ hXl] at HN
      have X := hid (And.intro HN HW)
      clear HN HW
      go_wp2
      go_ret
      exact ⟨w.heap.size, Nat.le_refl _, rfl, HasR.at hX X.out.1, X.out.2⟩
set_option maxHeartbeats 2000000 in
theorem listSignedExit_any (ao : Option Addr) (cap n : Nat) (css : List (List Value)) (Rs : List (List Nat)) (w : World) (hT : Tabs w) (hn : n ≤ 1048576) (hcap : css.length ≤ cap) (hm : cap ≤ maxLen) (hlen : css.length ≤ 4398046511104) (hE : Elems 25 34 w ao css Rs) :
    Calls Tryd.prog 24 #[.slice ao css.length cap, .int .i64 (n : Nat), .func (.func 25) #[] #[]] w fun e w' => e = .returned (.agg (nums .u8 (listOf n Rs))) ∧ Below w.heap.size w w' := by
  have hX : Rts Rs := hE.rts
  obtain ⟨T, HTT⟩ : ∃ T, Same (treeZ n Rs) T := ⟨_, ⟨rfl⟩⟩
  have hTr := treeZ_rt n Rs hX
  rw [HTT.out] at hTr
  have hpr := pr_rt T (wUp Rs.length 8)
  obtain ⟨Z, HZ⟩ : ∃ Z, Same (pr T (wUp Rs.length 8)) Z := ⟨_, ⟨rfl⟩⟩
  rw [show listOf n Rs = pr (treeZ n Rs) (wUp Rs.length 8) from rfl, HTT.out, HZ.out]
  have HMX := hid (fun w (hT : Tabs w) => mix_any' T Rs.length hTr (by rw [hE.len]; omega) w hT)
  rw [HZ.out] at hpr HMX
  have HTz := hid (fun ao cap w1 (hT : Tabs w1) (h1 : Rs.length ≤ cap) (h2 : cap ≤ maxLen) (h3 : RootsAt w1 ao Rs) => treZ_any ao cap Rs n w1 hT h1 h2 (by rw [hE.len]; exact hlen) hn h3)
  rw [HTT.out] at HTz
  have HP := hid (fun w1 (hb : Below w.heap.size w w1) => rootsSignedExit_any ao cap css Rs w1 hcap hm hlen (hE.keep hb))
  have hRl := hE.len
  rw [hRl] at HMX HTz
  have HT := hid hT
  have HRL := hid hRl
  clear hE hT hRl
  unfold maxLen at hm
  go_enter Tryd.func24, Tryd.ntmps24
  go_wp2_with ((with_reducible refine at_list' ?_); first
    | (refine wpList_alloc_has rfl 6 rfl 24 rfl .u8 32 Tryd.zero24 ?_; intro w1 H1 B1 S1))
  refine (HP.out w1 B1).mono ?_
  rintro e w3 ⟨g, hg, rfl, k3, B3⟩
  have L3 := hid (below_more B1 B3 (Nat.le_refl _))
  have H3 := H1.keep B3
  have HT3 := hid (HTz.out (some ⟨g, 0, none⟩) css.length w3 (HT.out.keep L3.out) (Nat.le_refl _) (by unfold maxLen; omega) k3)
  clear HP k3 hg H1 B1 S1 B3 HTz
  go_wp2_with fail
  refine HT3.out.mono ?_
  rintro e w4 ⟨rfl, B4⟩
  have L4 := hid (below_more L3.out B4 (Nat.le_refl _))
  have H4 := H3.keep B4
  clear HT3 L3 H3 B4
  go_wp2_with fail
  refine (HMX.out w4 (HT.out.keep L4.out)).mono ?_
  rintro e w5 ⟨rfl, B5⟩
  have L5 := hid (below_more L4.out B5 (Nat.le_refl _))
  have H5 := H4.keep B5
  clear L4 H4 B5 HMX
  go_wp2_with ((with_reducible refine at_list' ?_); first
    | (refine wpList_store_has rfl 24 (.tmp 6) (.tmp 15) rfl w.heap.size .u8 Z (zeros 32) rfl rfl 24 H5 (hpr.size _ Tryd.size24) (by rw [hpr.len, zeros_length]) ?_; intro w6 H6 O6))
  refine bodyPost_ret (results_has rfl _ _ w.heap.size 24 .u8 Z _ _ rfl H6 Tryd.und24 (hpr.size _ Tryd.size24)) rfl ?_
  exact ⟨rfl, below_only L5.out O6 (Nat.le_refl _)⟩
end Go.Proofs.YtpkelkipmldfeaaDoor

/- The root of a struct (Eth), by the program. -/
namespace Go.Proofs.YtpkelkipmldfeaaDoor
open Go.RowKit Go.Shelf
set_option linter.unusedVariables false
set_option linter.unusedSimpArgs false
set_option maxRecDepth 100000

def etP (zd : List Nat) (zc : Nat) : List (List Value) := [cellsB zd, [.int .u64 (zc : Nat)]]
def etC (zd : List Nat) (zc : Nat) : List Value := (etP zd zc).flatten
theorem etC_length (zd : List Nat) (zc : Nat) (hzd : zd.length = 32) : (etC zd zc).length = 33 := by simp [etC, etP, cellsB_length, hzd]
def etR (zd : List Nat) (zc : Nat) : List Nat := fullR (depth (([zd, wUp zc 8] : List (List Nat)).length : Nat)) [zd, wUp zc 8]
theorem etR_rt (zd : List Nat) (zc : Nat) (hzd : Rt zd) : Rt (etR zd zc) := full_rt _ _ (Rts.more hzd (Rts.more (wUp_rt zc 8) Rts.nil))
set_option maxHeartbeats 2000000 in
theorem etR_any (zd : List Nat) (zc : Nat) (hzd : Rt zd) (hzc : zc < 18446744073709551616) (w : World) (hT : Tabs w) :
    Calls Tryd.prog 15 #[.agg (etC zd zc).toArray] w fun x w' => x = .returned (.agg (nums .u8 (etR zd zc))) ∧ Below w.heap.size w w' := by
  have hfr := etR_rt zd zc hzd
  obtain ⟨W, HW⟩ : ∃ W, Same (etR zd zc) W := ⟨_, ⟨rfl⟩⟩
  rw [HW.out] at hfr ⊢
  go_enter Tryd.func15, Tryd.ntmps15
  go_wp2_with ((with_reducible refine at_list' ?_); first
    | (refine wpList_box_c rfl 1 rfl (.tmp 0) rfl (etC zd zc) rfl ?_; intro w1 H1 B1 S1)
    | (refine wpList_alloc_has rfl 2 rfl 24 rfl .u8 32 Tryd.zero24 ?_; intro w2 H2 B2 S2; rw [S1] at H2 S2; rw [S1]))
  have HX := hid (H1.keep B2)
  have HY := hid H2
  have HB := hid (B1.trans (B2.mono (by omega)))
  have HT := hid (hT.keep HB.out)
  have s2 : w2.heap.size = w.heap.size + 2 := by omega
  clear H1 B1 S1 H2 B2 S2
  try simp only [Act.put, List.setIfInBounds_toArray, List.set_cons_succ, List.set_cons_zero]
  refine wp_region_flow 7 7 (fun i v wq => match i with
    | 0 => v = .pointer (some ⟨w.heap.size, 0, none⟩)
    | 1 => v = .agg (nums .u8 zd)
    | 2 => v = .pointer (some ⟨w.heap.size, 32, none⟩)
    | 3 => v = .int .u64 (zc : Nat)
    | 4 => v = .agg (nums .u8 (wUp zc 8))
    | 5 => ∃ b, v = .slice (some ⟨b, 0, none⟩) 2 2 ∧ RootsAt wq (some ⟨b, 0, none⟩) [zd, wUp zc 8]
    | _ => v = .agg (nums .u8 W)) (by kernel_rfl) (by kernel_rfl) (fun _ d _ _ _ h => by cases d <;> exact h) ?_ ?_ ?_ ?_
  · intro i v wq wq' hi hv hb
    match i, hi with
    | 0, _ => exact hv
    | 1, _ => exact hv
    | 2, _ => exact hv
    | 3, _ => exact hv
    | 4, _ => exact hv
    | 5, _ => obtain ⟨b, h1, h2⟩ := hv; exact ⟨b, h1, h2.keep hb⟩
    | 6, _ => exact hv
    | (k + 7), hk => exact absurd hk (by omega)
  · intro i o hi ho aq wq hc hk hdep
    match i, hi with
    | 0, _ =>
      cases ho
      have e1 : aq.tmps.getD 1 undef = .pointer (some ⟨w.heap.size, 0, none⟩) := hk 1 (by decide)
      exact flow_value _ (run_fieldAt 26 (.tmp 1) 0 rfl _ _ e1 (by kernel_rfl)) rfl
    | 1, _ =>
      cases ho
      have e0 : aq.tmps.getD 3 undef = .pointer (some ⟨w.heap.size, 0, none⟩) := hdep 0 3 rfl (by kernel_rfl)
      exact flow_value _ (run_mid 24 (.tmp 3) rfl w.heap.size 0 e0 (cellsB zd) ((HX.out.keep (hcB hc)).range 0 (cellsB zd) (seg (ps := etP zd zc) (i := 0) (off := 0) rfl (by simp [etP, cellsB_length, hzd.len]))) _ Tryd.und24 rfl (by rw [cellsB_length, hzd.len]; exact Tryd.size24)) rfl
    | 2, _ =>
      cases ho
      have e1 : aq.tmps.getD 1 undef = .pointer (some ⟨w.heap.size, 0, none⟩) := hk 1 (by decide)
      exact flow_value _ (run_fieldAt 26 (.tmp 1) 1 rfl _ _ e1 (by kernel_rfl)) rfl
    | 3, _ =>
      cases ho
      have e0 : aq.tmps.getD 5 undef = .pointer (some ⟨w.heap.size, 32, none⟩) := hdep 2 5 rfl (by kernel_rfl)
      exact flow_value _ (run_cell 22 (.tmp 5) rfl _ e0 _ ((HX.out.keep (hcB hc)).cell (seg (ps := etP zd zc) (i := 1) (off := 32) rfl (by simp [etP, cellsB_length, hzd.len]) 0 _ rfl)) _ Tryd.underlying22 rfl) rfl
    | 4, _ =>
      cases ho
      have e0 : aq.tmps.getD 6 undef = .int .u64 (zc : Nat) := hdep 3 6 rfl (by kernel_rfl)
      refine flow_fun 26 _ _ rfl (fun _ _ => by simp [go_sem]) #[.int .u64 (zc : Nat)] (by rw [show (#[Operand.tmp 6] : Array Operand).map aq.eval = #[aq.tmps.getD 6 undef] from by simp [Act.eval], e0]) ?_
      refine (number_any zc hzc wq).mono ?_
      rintro x w' ⟨rfl, q⟩
      exact ⟨_, rfl, rfl, q⟩
    | 5, _ =>
      cases ho
      have e0 : aq.tmps.getD 4 undef = .agg (nums .u8 zd) := hdep 1 4 rfl (by kernel_rfl)
      have e1 : aq.tmps.getD 7 undef = .agg (nums .u8 (wUp zc 8)) := hdep 4 7 rfl (by kernel_rfl)
      exact flow_rows 89 24 2 32 _ rfl Tryd.underlying89 rootInfo6 [cellsB (zd), cellsB (wUp zc 8)] [.tmp 4, .tmp 7] rfl (by rw [show [Operand.tmp 4, Operand.tmp 7].map aq.eval = [aq.tmps.getD 4 undef, aq.tmps.getD 7 undef] from rfl, e0, e1]; rfl) (by simp [cellsB_length, (hzd).len, ((wUp_rt zc 8)).len]) rfl (by decide) (by decide) (by decide) (fun w' h => ⟨_, rfl, hasC_roots (rs := [zd, wUp zc 8]) h (Rts.more hzd (Rts.more (wUp_rt zc 8) Rts.nil))⟩)
    | 6, _ =>
      cases ho
      obtain ⟨b, e6, h6⟩ := hdep 5 8 rfl (by kernel_rfl)
      refine flow_fun 14 _ _ rfl (fun _ _ => by simp [go_sem]) #[.slice (some ⟨b, 0, none⟩) 2 2] (by rw [show (#[Operand.tmp 8] : Array Operand).map aq.eval = #[aq.tmps.getD 8 undef] from by simp [Act.eval], e6]) ?_
      refine (cont_any (some ⟨b, 0, none⟩) 2 [zd, wUp zc 8] wq (HT.out.keep (hcB hc)) (Nat.le_refl _) (by decide) (by show 2 ≤ 1048576; decide) h6).mono ?_
      rintro x w' ⟨rfl, q⟩
      exact ⟨_, rfl, (by rw [← HW.out]; rfl), q⟩
    | (k + 7), hk => exact absurd hk (by omega)
  · intro o h7 ho
    omega
  intro vf w8 hc hv
  have e7 : vf 6 = _ := hv 6 9 (by decide) rfl
  have B8 := HB.out.trans ((hcB hc).mono (by omega))
  have H8v := HY.out.keep (hcB hc)
  have s8 := (hcB hc).size
  clear hv hc
  simp only [List.take_succ_cons, List.take_zero, List.drop_succ_cons, List.drop_zero, putAll, Act.put, List.setIfInBounds_toArray, List.set_cons_succ, List.set_cons_zero]
  rw [e7]
  have HB8 := hid B8
  clear B8 e7 HB
  go_wp2_with ((with_reducible refine at_list' ?_); first
    | (refine wpList_store_has rfl 24 (.tmp 2) (.tmp 9) rfl (w.heap.size + 1) .u8 W (zeros 32) rfl rfl 24 H8v (hfr.size _ Tryd.size24) (by rw [hfr.len, zeros_length]) ?_; intro w9 H9 O9))
  refine bodyPost_ret (results_has rfl _ _ (w.heap.size + 1) 24 .u8 W _ _ rfl H9 Tryd.und24 (hfr.size _ Tryd.size24)) rfl ?_
  exact ⟨rfl, below_only HB8.out O9 (by omega)⟩
end Go.Proofs.YtpkelkipmldfeaaDoor

/- The root of a Body, by the program. -/
namespace Go.Proofs.YtpkelkipmldfeaaDoor
open Go.RowKit Go.Shelf
set_option linter.unusedVariables false
set_option linter.unusedSimpArgs false
set_option maxRecDepth 100000

/-- A slice of structs, its elements' roots. -/
def IsL (F : FuncId) (sz : Nat) (w : World) (v : Value) (Rs : List (List Nat)) : Prop := ∃ ao cap css, v = .slice ao css.length cap ∧ css.length ≤ cap ∧ cap ≤ maxLen ∧ css.length ≤ 4398046511104 ∧ Elems F sz w ao css Rs
theorem IsL.keep {F : FuncId} {sz : Nat} {w w' : World} {v : Value} {Rs : List (List Nat)} (h : IsL F sz w v Rs) (hb : Below w.heap.size w w') : IsL F sz w' v Rs := by
  obtain ⟨ao, cap, css, h1, h2, h3, h4, h5⟩ := h
  exact ⟨ao, cap, css, h1, h2, h3, h4, h5.keep hb⟩
theorem listProposerSlashing_l (v : Value) (Rs : List (List Nat)) (w : World) (hT : Tabs w) (h : IsL 17 260 w v Rs) :
    Calls Tryd.prog 16 #[v, .int .i64 2, .func (.func 17) #[] #[]] w fun e w' => e = .returned (.agg (nums .u8 (listOf 2 Rs))) ∧ Below w.heap.size w w' := by
  obtain ⟨ao, cap, css, rfl, h1, h2, h3, h4⟩ := h
  exact listProposerSlashing_any ao cap 2 css Rs w hT (by decide) h1 h2 h3 h4
theorem listAttesterSlashing_l (v : Value) (Rs : List (List Nat)) (w : World) (hT : Tabs w) (h : IsL 19 266 w v Rs) :
    Calls Tryd.prog 18 #[v, .int .i64 1, .func (.func 19) #[] #[]] w fun e w' => e = .returned (.agg (nums .u8 (listOf 1 Rs))) ∧ Below w.heap.size w w' := by
  obtain ⟨ao, cap, css, rfl, h1, h2, h3, h4⟩ := h
  exact listAttesterSlashing_any ao cap 1 css Rs w hT (by decide) h1 h2 h3 h4
theorem listAttestation_l (v : Value) (Rs : List (List Nat)) (w : World) (hT : Tabs w) (h : IsL 21 133 w v Rs) :
    Calls Tryd.prog 20 #[v, .int .i64 8, .func (.func 21) #[] #[]] w fun e w' => e = .returned (.agg (nums .u8 (listOf 8 Rs))) ∧ Below w.heap.size w w' := by
  obtain ⟨ao, cap, css, rfl, h1, h2, h3, h4⟩ := h
  exact listAttestation_any ao cap 8 css Rs w hT (by decide) h1 h2 h3 h4
theorem listDeposit_l (v : Value) (Rs : List (List Nat)) (w : World) (hT : Tabs w) (h : IsL 23 289 w v Rs) :
    Calls Tryd.prog 22 #[v, .int .i64 4, .func (.func 23) #[] #[]] w fun e w' => e = .returned (.agg (nums .u8 (listOf 4 Rs))) ∧ Below w.heap.size w w' := by
  obtain ⟨ao, cap, css, rfl, h1, h2, h3, h4⟩ := h
  exact listDeposit_any ao cap 4 css Rs w hT (by decide) h1 h2 h3 h4
theorem listSignedExit_l (v : Value) (Rs : List (List Nat)) (w : World) (hT : Tabs w) (h : IsL 25 34 w v Rs) :
    Calls Tryd.prog 24 #[v, .int .i64 2, .func (.func 25) #[] #[]] w fun e w' => e = .returned (.agg (nums .u8 (listOf 2 Rs))) ∧ Below w.heap.size w w' := by
  obtain ⟨ao, cap, css, rfl, h1, h2, h3, h4⟩ := h
  exact listSignedExit_any ao cap 2 css Rs w hT (by decide) h1 h2 h3 h4
def bdP (ra : List Nat) (ed : List Nat) (ec : Nat) (gr : List Nat) (v1 v2 v3 v4 v5 : Value) : List (List Value) := [cellsB ra, etC ed ec, cellsB gr, [v1], [v2], [v3], [v4], [v5]]
def bdC (ra : List Nat) (ed : List Nat) (ec : Nat) (gr : List Nat) (v1 v2 v3 v4 v5 : Value) : List Value := (bdP ra ed ec gr v1 v2 v3 v4 v5).flatten
theorem bdC_length (ra : List Nat) (ed : List Nat) (ec : Nat) (gr : List Nat) (v1 v2 v3 v4 v5 : Value) (h1 : ra.length = 32) (h2 : ed.length = 32) (h3 : gr.length = 32) : (bdC ra ed ec gr v1 v2 v3 v4 v5).length = 102 := by simp [bdC, bdP, cellsB_length, h1, h3, etC_length ed ec h2]
def bdRs (ra : List Nat) (ed : List Nat) (ec : Nat) (gr : List Nat) (R1 R2 R3 R4 R5 : List (List Nat)) : List (List Nat) := [ra, etR ed ec, gr, listOf 2 R1, listOf 1 R2, listOf 8 R3, listOf 4 R4, listOf 2 R5]
def bdR (ra : List Nat) (ed : List Nat) (ec : Nat) (gr : List Nat) (R1 R2 R3 R4 R5 : List (List Nat)) : List Nat := fullR (depth (((bdRs ra ed ec gr R1 R2 R3 R4 R5).length : Nat) : Int)) (bdRs ra ed ec gr R1 R2 R3 R4 R5)
theorem bdRs_rt (ra : List Nat) (ed : List Nat) (ec : Nat) (gr : List Nat) (R1 R2 R3 R4 R5 : List (List Nat)) (h1 : Rt ra) (h2 : Rt ed) (h3 : Rt gr) : Rts (bdRs ra ed ec gr R1 R2 R3 R4 R5) := Rts.more h1 (Rts.more (etR_rt ed ec h2) (Rts.more h3 (Rts.more (listOf_rt _ _) (Rts.more (listOf_rt _ _) (Rts.more (listOf_rt _ _) (Rts.more (listOf_rt _ _) (Rts.more (listOf_rt _ _) Rts.nil)))))))
theorem bdR_rt (ra : List Nat) (ed : List Nat) (ec : Nat) (gr : List Nat) (R1 R2 R3 R4 R5 : List (List Nat)) (h1 : Rt ra) (h2 : Rt ed) (h3 : Rt gr) : Rt (bdR ra ed ec gr R1 R2 R3 R4 R5) := full_rt _ _ (bdRs_rt ra ed ec gr R1 R2 R3 R4 R5 h1 h2 h3)
set_option maxHeartbeats 4000000 in
theorem bdR_any (ra : List Nat) (ed : List Nat) (ec : Nat) (gr : List Nat) (v1 v2 v3 v4 v5 : Value) (R1 R2 R3 R4 R5 : List (List Nat)) (hra : Rt ra) (hed : Rt ed) (hec : ec < 18446744073709551616) (hgr : Rt gr) (w : World) (hT : Tabs w) (h1 : IsL 17 260 w v1 R1) (h2 : IsL 19 266 w v2 R2) (h3 : IsL 21 133 w v3 R3) (h4 : IsL 23 289 w v4 R4) (h5 : IsL 25 34 w v5 R5) :
    Calls Tryd.prog 7 #[.agg (bdC ra ed ec gr v1 v2 v3 v4 v5).toArray] w fun x w' => x = .returned (.agg (nums .u8 (bdR ra ed ec gr R1 R2 R3 R4 R5))) ∧ Below w.heap.size w w' := by
  have hfr := bdR_rt ra ed ec gr R1 R2 R3 R4 R5 hra hed hgr
  unfold bdR bdRs at hfr ⊢
  have hE1 := etR_rt ed ec hed
  obtain ⟨E1, HE1⟩ : ∃ X, Same (etR ed ec) X := ⟨_, ⟨rfl⟩⟩
  rw [HE1.out] at hfr hE1 ⊢
  have hL1 := listOf_rt 2 R1
  obtain ⟨L1, HL1⟩ : ∃ X, Same (listOf 2 R1) X := ⟨_, ⟨rfl⟩⟩
  rw [HL1.out] at hfr hL1 ⊢
  have HI1 := hid h1
  have hL2 := listOf_rt 1 R2
  obtain ⟨L2, HL2⟩ : ∃ X, Same (listOf 1 R2) X := ⟨_, ⟨rfl⟩⟩
  rw [HL2.out] at hfr hL2 ⊢
  have HI2 := hid h2
  have hL3 := listOf_rt 8 R3
  obtain ⟨L3, HL3⟩ : ∃ X, Same (listOf 8 R3) X := ⟨_, ⟨rfl⟩⟩
  rw [HL3.out] at hfr hL3 ⊢
  have HI3 := hid h3
  have hL4 := listOf_rt 4 R4
  obtain ⟨L4, HL4⟩ : ∃ X, Same (listOf 4 R4) X := ⟨_, ⟨rfl⟩⟩
  rw [HL4.out] at hfr hL4 ⊢
  have HI4 := hid h4
  have hL5 := listOf_rt 2 R5
  obtain ⟨L5, HL5⟩ : ∃ X, Same (listOf 2 R5) X := ⟨_, ⟨rfl⟩⟩
  rw [HL5.out] at hfr hL5 ⊢
  have HI5 := hid h5
  obtain ⟨W, HW⟩ : ∃ W, Same (fullR (depth ((([ra, E1, gr, L1, L2, L3, L4, L5] : List (List Nat)).length : Nat) : Int)) [ra, E1, gr, L1, L2, L3, L4, L5]) W := ⟨_, ⟨rfl⟩⟩
  rw [HW.out] at hfr ⊢
  clear h1 h2 h3 h4 h5
  go_enter Tryd.func7, Tryd.ntmps7
  go_wp2_with ((with_reducible refine at_list' ?_); first
    | (refine wpList_box_c rfl 1 rfl (.tmp 0) rfl (bdC ra ed ec gr v1 v2 v3 v4 v5) rfl ?_; intro w1 H1 B1 S1)
    | (refine wpList_alloc_has rfl 2 rfl 24 rfl .u8 32 Tryd.zero24 ?_; intro w2 H2 B2 S2; rw [S1] at H2 S2; rw [S1]))
  have HX := hid (H1.keep B2)
  have HY := hid H2
  have HB := hid (B1.trans (B2.mono (by omega)))
  have HT := hid (hT.keep HB.out)
  have s2 : w2.heap.size = w.heap.size + 2 := by omega
  clear H1 B1 S1 H2 B2 S2
  try simp only [Act.put, List.setIfInBounds_toArray, List.set_cons_succ, List.set_cons_zero]
  refine wp_region_flow 24 24 (fun i v wq => match i with
    | 0 => v = .pointer (some ⟨w.heap.size, 0, none⟩)
    | 1 => v = .agg (nums .u8 ra)
    | 2 => v = .pointer (some ⟨w.heap.size, 32, none⟩)
    | 3 => v = .agg (etC ed ec).toArray
    | 4 => v = .agg (nums .u8 E1)
    | 5 => v = .pointer (some ⟨w.heap.size, 65, none⟩)
    | 6 => v = .agg (nums .u8 gr)
    | 7 => v = .pointer (some ⟨w.heap.size, 97, none⟩)
    | 8 => v = v1
    | 9 => v = .agg (nums .u8 L1)
    | 10 => v = .pointer (some ⟨w.heap.size, 98, none⟩)
    | 11 => v = v2
    | 12 => v = .agg (nums .u8 L2)
    | 13 => v = .pointer (some ⟨w.heap.size, 99, none⟩)
    | 14 => v = v3
    | 15 => v = .agg (nums .u8 L3)
    | 16 => v = .pointer (some ⟨w.heap.size, 100, none⟩)
    | 17 => v = v4
    | 18 => v = .agg (nums .u8 L4)
    | 19 => v = .pointer (some ⟨w.heap.size, 101, none⟩)
    | 20 => v = v5
    | 21 => v = .agg (nums .u8 L5)
    | 22 => ∃ b, v = .slice (some ⟨b, 0, none⟩) 8 8 ∧ RootsAt wq (some ⟨b, 0, none⟩) [ra, E1, gr, L1, L2, L3, L4, L5]
    | _ => v = .agg (nums .u8 W)) (by kernel_rfl) (by kernel_rfl) (fun _ d _ _ _ h => by cases d <;> exact h) ?_ ?_ ?_ ?_
  · intro i v wq wq' hi hv hb
    match i, hi with
    | 0, _ => exact hv
    | 1, _ => exact hv
    | 2, _ => exact hv
    | 3, _ => exact hv
    | 4, _ => exact hv
    | 5, _ => exact hv
    | 6, _ => exact hv
    | 7, _ => exact hv
    | 8, _ => exact hv
    | 9, _ => exact hv
    | 10, _ => exact hv
    | 11, _ => exact hv
    | 12, _ => exact hv
    | 13, _ => exact hv
    | 14, _ => exact hv
    | 15, _ => exact hv
    | 16, _ => exact hv
    | 17, _ => exact hv
    | 18, _ => exact hv
    | 19, _ => exact hv
    | 20, _ => exact hv
    | 21, _ => exact hv
    | 22, _ => obtain ⟨b, h1, h2⟩ := hv; exact ⟨b, h1, h2.keep hb⟩
    | 23, _ => exact hv
    | (k + 24), hk => exact absurd hk (by omega)
  · intro i o hi ho aq wq hc hk hdep
    match i, hi with
    | 0, _ =>
      cases ho
      have e1 : aq.tmps.getD 1 undef = .pointer (some ⟨w.heap.size, 0, none⟩) := hk 1 (by decide)
      exact flow_value _ (run_fieldAt 33 (.tmp 1) 0 rfl _ _ e1 (by kernel_rfl)) rfl
    | 1, _ =>
      cases ho
      have e0 : aq.tmps.getD 3 undef = .pointer (some ⟨w.heap.size, 0, none⟩) := hdep 0 3 rfl (by kernel_rfl)
      exact flow_value _ (run_mid 24 (.tmp 3) rfl w.heap.size 0 e0 (cellsB ra) ((HX.out.keep (hcB hc)).range 0 (cellsB ra) (seg (ps := bdP ra ed ec gr v1 v2 v3 v4 v5) (i := 0) (off := 0) rfl (by simp [bdP, cellsB_length, hra.len, hgr.len, etC_length ed ec hed.len]))) _ Tryd.und24 rfl (by rw [cellsB_length, hra.len]; exact Tryd.size24)) rfl
    | 2, _ =>
      cases ho
      have e1 : aq.tmps.getD 1 undef = .pointer (some ⟨w.heap.size, 0, none⟩) := hk 1 (by decide)
      exact flow_value _ (run_fieldAt 33 (.tmp 1) 1 rfl _ _ e1 (by kernel_rfl)) rfl
    | 3, _ =>
      cases ho
      have e0 : aq.tmps.getD 5 undef = .pointer (some ⟨w.heap.size, 32, none⟩) := hdep 2 5 rfl (by kernel_rfl)
      exact flow_value _ (run_mid 26 (.tmp 5) rfl w.heap.size 32 e0 (etC ed ec) ((HX.out.keep (hcB hc)).range 32 (etC ed ec) (seg (ps := bdP ra ed ec gr v1 v2 v3 v4 v5) (i := 1) (off := 32) rfl (by simp [bdP, cellsB_length, hra.len, hgr.len, etC_length ed ec hed.len]))) _ Tryd.underlying26 rfl (by rw [etC_length ed ec hed.len]; kernel_rfl)) rfl
    | 4, _ =>
      cases ho
      have e0 : aq.tmps.getD 6 undef = .agg (etC ed ec).toArray := hdep 3 6 rfl (by kernel_rfl)
      refine flow_fun 15 _ _ rfl (fun _ _ => by simp [go_sem]) #[.agg (etC ed ec).toArray] (by rw [show (#[Operand.tmp 6] : Array Operand).map aq.eval = #[aq.tmps.getD 6 undef] from by simp [Act.eval], e0]) ?_
      refine (etR_any ed ec hed hec wq (HT.out.keep (hcB hc))).mono ?_
      rintro x w' ⟨rfl, q⟩
      exact ⟨_, rfl, (by rw [← HE1.out]; rfl), q⟩
    | 5, _ =>
      cases ho
      have e1 : aq.tmps.getD 1 undef = .pointer (some ⟨w.heap.size, 0, none⟩) := hk 1 (by decide)
      exact flow_value _ (run_fieldAt 33 (.tmp 1) 2 rfl _ _ e1 (by kernel_rfl)) rfl
    | 6, _ =>
      cases ho
      have e0 : aq.tmps.getD 8 undef = .pointer (some ⟨w.heap.size, 65, none⟩) := hdep 5 8 rfl (by kernel_rfl)
      exact flow_value _ (run_mid 24 (.tmp 8) rfl w.heap.size 65 e0 (cellsB gr) ((HX.out.keep (hcB hc)).range 65 (cellsB gr) (seg (ps := bdP ra ed ec gr v1 v2 v3 v4 v5) (i := 2) (off := 65) rfl (by simp [bdP, cellsB_length, hra.len, hgr.len, etC_length ed ec hed.len]))) _ Tryd.und24 rfl (by rw [cellsB_length, hgr.len]; exact Tryd.size24)) rfl
    | 7, _ =>
      cases ho
      have e1 : aq.tmps.getD 1 undef = .pointer (some ⟨w.heap.size, 0, none⟩) := hk 1 (by decide)
      exact flow_value _ (run_fieldAt 33 (.tmp 1) 3 rfl _ _ e1 (by kernel_rfl)) rfl
    | 8, _ =>
      cases ho
      have e0 : aq.tmps.getD 10 undef = .pointer (some ⟨w.heap.size, 97, none⟩) := hdep 7 10 rfl (by kernel_rfl)
      exact flow_value _ (run_cell 27 (.tmp 10) rfl _ e0 _ ((HX.out.keep (hcB hc)).cell (seg (ps := bdP ra ed ec gr v1 v2 v3 v4 v5) (i := 3) (off := 97) rfl (by simp [bdP, cellsB_length, hra.len, hgr.len, etC_length ed ec hed.len]) 0 _ rfl)) _ Tryd.underlying27 rfl) rfl
    | 9, _ =>
      cases ho
      have e0 : aq.tmps.getD 11 undef = v1 := hdep 8 11 rfl (by kernel_rfl)
      refine flow_fun 16 _ _ rfl (fun _ _ => by simp [go_sem]) #[v1, .int .i64 2, .func (.func 17) #[] #[]] (by rw [show (#[Operand.tmp 11, Operand.const (.int .i64 2), Operand.func 17] : Array Operand).map aq.eval = #[aq.tmps.getD 11 undef, .int .i64 2, .func (.func 17) #[] #[]] from by simp [Act.eval], e0]) ?_
      refine (listProposerSlashing_l v1 R1 wq (HT.out.keep (hcB hc)) (HI1.out.keep (HB.out.trans ((hcB hc).mono HB.out.size)))).mono ?_
      rintro x w' ⟨rfl, q⟩
      exact ⟨_, rfl, (by rw [← HL1.out]; rfl), q⟩
    | 10, _ =>
      cases ho
      have e1 : aq.tmps.getD 1 undef = .pointer (some ⟨w.heap.size, 0, none⟩) := hk 1 (by decide)
      exact flow_value _ (run_fieldAt 33 (.tmp 1) 4 rfl _ _ e1 (by kernel_rfl)) rfl
    | 11, _ =>
      cases ho
      have e0 : aq.tmps.getD 13 undef = .pointer (some ⟨w.heap.size, 98, none⟩) := hdep 10 13 rfl (by kernel_rfl)
      exact flow_value _ (run_cell 28 (.tmp 13) rfl _ e0 _ ((HX.out.keep (hcB hc)).cell (seg (ps := bdP ra ed ec gr v1 v2 v3 v4 v5) (i := 4) (off := 98) rfl (by simp [bdP, cellsB_length, hra.len, hgr.len, etC_length ed ec hed.len]) 0 _ rfl)) _ Tryd.underlying28 rfl) rfl
    | 12, _ =>
      cases ho
      have e0 : aq.tmps.getD 14 undef = v2 := hdep 11 14 rfl (by kernel_rfl)
      refine flow_fun 18 _ _ rfl (fun _ _ => by simp [go_sem]) #[v2, .int .i64 1, .func (.func 19) #[] #[]] (by rw [show (#[Operand.tmp 14, Operand.const (.int .i64 1), Operand.func 19] : Array Operand).map aq.eval = #[aq.tmps.getD 14 undef, .int .i64 1, .func (.func 19) #[] #[]] from by simp [Act.eval], e0]) ?_
      refine (listAttesterSlashing_l v2 R2 wq (HT.out.keep (hcB hc)) (HI2.out.keep (HB.out.trans ((hcB hc).mono HB.out.size)))).mono ?_
      rintro x w' ⟨rfl, q⟩
      exact ⟨_, rfl, (by rw [← HL2.out]; rfl), q⟩
    | 13, _ =>
      cases ho
      have e1 : aq.tmps.getD 1 undef = .pointer (some ⟨w.heap.size, 0, none⟩) := hk 1 (by decide)
      exact flow_value _ (run_fieldAt 33 (.tmp 1) 5 rfl _ _ e1 (by kernel_rfl)) rfl
    | 14, _ =>
      cases ho
      have e0 : aq.tmps.getD 16 undef = .pointer (some ⟨w.heap.size, 99, none⟩) := hdep 13 16 rfl (by kernel_rfl)
      exact flow_value _ (run_cell 29 (.tmp 16) rfl _ e0 _ ((HX.out.keep (hcB hc)).cell (seg (ps := bdP ra ed ec gr v1 v2 v3 v4 v5) (i := 5) (off := 99) rfl (by simp [bdP, cellsB_length, hra.len, hgr.len, etC_length ed ec hed.len]) 0 _ rfl)) _ Tryd.underlying29 rfl) rfl
    | 15, _ =>
      cases ho
      have e0 : aq.tmps.getD 17 undef = v3 := hdep 14 17 rfl (by kernel_rfl)
      refine flow_fun 20 _ _ rfl (fun _ _ => by simp [go_sem]) #[v3, .int .i64 8, .func (.func 21) #[] #[]] (by rw [show (#[Operand.tmp 17, Operand.const (.int .i64 8), Operand.func 21] : Array Operand).map aq.eval = #[aq.tmps.getD 17 undef, .int .i64 8, .func (.func 21) #[] #[]] from by simp [Act.eval], e0]) ?_
      refine (listAttestation_l v3 R3 wq (HT.out.keep (hcB hc)) (HI3.out.keep (HB.out.trans ((hcB hc).mono HB.out.size)))).mono ?_
      rintro x w' ⟨rfl, q⟩
      exact ⟨_, rfl, (by rw [← HL3.out]; rfl), q⟩
    | 16, _ =>
      cases ho
      have e1 : aq.tmps.getD 1 undef = .pointer (some ⟨w.heap.size, 0, none⟩) := hk 1 (by decide)
      exact flow_value _ (run_fieldAt 33 (.tmp 1) 6 rfl _ _ e1 (by kernel_rfl)) rfl
    | 17, _ =>
      cases ho
      have e0 : aq.tmps.getD 19 undef = .pointer (some ⟨w.heap.size, 100, none⟩) := hdep 16 19 rfl (by kernel_rfl)
      exact flow_value _ (run_cell 30 (.tmp 19) rfl _ e0 _ ((HX.out.keep (hcB hc)).cell (seg (ps := bdP ra ed ec gr v1 v2 v3 v4 v5) (i := 6) (off := 100) rfl (by simp [bdP, cellsB_length, hra.len, hgr.len, etC_length ed ec hed.len]) 0 _ rfl)) _ Tryd.underlying30 rfl) rfl
    | 18, _ =>
      cases ho
      have e0 : aq.tmps.getD 20 undef = v4 := hdep 17 20 rfl (by kernel_rfl)
      refine flow_fun 22 _ _ rfl (fun _ _ => by simp [go_sem]) #[v4, .int .i64 4, .func (.func 23) #[] #[]] (by rw [show (#[Operand.tmp 20, Operand.const (.int .i64 4), Operand.func 23] : Array Operand).map aq.eval = #[aq.tmps.getD 20 undef, .int .i64 4, .func (.func 23) #[] #[]] from by simp [Act.eval], e0]) ?_
      refine (listDeposit_l v4 R4 wq (HT.out.keep (hcB hc)) (HI4.out.keep (HB.out.trans ((hcB hc).mono HB.out.size)))).mono ?_
      rintro x w' ⟨rfl, q⟩
      exact ⟨_, rfl, (by rw [← HL4.out]; rfl), q⟩
    | 19, _ =>
      cases ho
      have e1 : aq.tmps.getD 1 undef = .pointer (some ⟨w.heap.size, 0, none⟩) := hk 1 (by decide)
      exact flow_value _ (run_fieldAt 33 (.tmp 1) 7 rfl _ _ e1 (by kernel_rfl)) rfl
    | 20, _ =>
      cases ho
      have e0 : aq.tmps.getD 22 undef = .pointer (some ⟨w.heap.size, 101, none⟩) := hdep 19 22 rfl (by kernel_rfl)
      exact flow_value _ (run_cell 31 (.tmp 22) rfl _ e0 _ ((HX.out.keep (hcB hc)).cell (seg (ps := bdP ra ed ec gr v1 v2 v3 v4 v5) (i := 7) (off := 101) rfl (by simp [bdP, cellsB_length, hra.len, hgr.len, etC_length ed ec hed.len]) 0 _ rfl)) _ Tryd.underlying31 rfl) rfl
    | 21, _ =>
      cases ho
      have e0 : aq.tmps.getD 23 undef = v5 := hdep 20 23 rfl (by kernel_rfl)
      refine flow_fun 24 _ _ rfl (fun _ _ => by simp [go_sem]) #[v5, .int .i64 2, .func (.func 25) #[] #[]] (by rw [show (#[Operand.tmp 23, Operand.const (.int .i64 2), Operand.func 25] : Array Operand).map aq.eval = #[aq.tmps.getD 23 undef, .int .i64 2, .func (.func 25) #[] #[]] from by simp [Act.eval], e0]) ?_
      refine (listSignedExit_l v5 R5 wq (HT.out.keep (hcB hc)) (HI5.out.keep (HB.out.trans ((hcB hc).mono HB.out.size)))).mono ?_
      rintro x w' ⟨rfl, q⟩
      exact ⟨_, rfl, (by rw [← HL5.out]; rfl), q⟩
    | 22, _ =>
      cases ho
      have e0 : aq.tmps.getD 4 undef = .agg (nums .u8 ra) := hdep 1 4 rfl (by kernel_rfl)
      have e1 : aq.tmps.getD 7 undef = .agg (nums .u8 E1) := hdep 4 7 rfl (by kernel_rfl)
      have e2 : aq.tmps.getD 9 undef = .agg (nums .u8 gr) := hdep 6 9 rfl (by kernel_rfl)
      have e3 : aq.tmps.getD 12 undef = .agg (nums .u8 L1) := hdep 9 12 rfl (by kernel_rfl)
      have e4 : aq.tmps.getD 15 undef = .agg (nums .u8 L2) := hdep 12 15 rfl (by kernel_rfl)
      have e5 : aq.tmps.getD 18 undef = .agg (nums .u8 L3) := hdep 15 18 rfl (by kernel_rfl)
      have e6 : aq.tmps.getD 21 undef = .agg (nums .u8 L4) := hdep 18 21 rfl (by kernel_rfl)
      have e7 : aq.tmps.getD 24 undef = .agg (nums .u8 L5) := hdep 21 24 rfl (by kernel_rfl)
      exact flow_rows 89 24 8 32 _ rfl Tryd.underlying89 rootInfo6 [cellsB ra, cellsB E1, cellsB gr, cellsB L1, cellsB L2, cellsB L3, cellsB L4, cellsB L5] [.tmp 4, .tmp 7, .tmp 9, .tmp 12, .tmp 15, .tmp 18, .tmp 21, .tmp 24] rfl (by rw [show [Operand.tmp 4, Operand.tmp 7, Operand.tmp 9, Operand.tmp 12, Operand.tmp 15, Operand.tmp 18, Operand.tmp 21, Operand.tmp 24].map aq.eval = [aq.tmps.getD 4 undef, aq.tmps.getD 7 undef, aq.tmps.getD 9 undef, aq.tmps.getD 12 undef, aq.tmps.getD 15 undef, aq.tmps.getD 18 undef, aq.tmps.getD 21 undef, aq.tmps.getD 24 undef] from rfl, e0, e1, e2, e3, e4, e5, e6, e7]; rfl) (by simp [cellsB_length, hra.len, hE1.len, hgr.len, hL1.len, hL2.len, hL3.len, hL4.len, hL5.len]) rfl (by decide) (by decide) (by decide) (fun w' h => ⟨_, rfl, hasC_roots (rs := [ra, E1, gr, L1, L2, L3, L4, L5]) h (Rts.more hra (Rts.more hE1 (Rts.more hgr (Rts.more hL1 (Rts.more hL2 (Rts.more hL3 (Rts.more hL4 (Rts.more hL5 Rts.nil))))))))⟩)
    | 23, _ =>
      cases ho
      obtain ⟨b, e6, h6⟩ := hdep 22 25 rfl (by kernel_rfl)
      refine flow_fun 14 _ _ rfl (fun _ _ => by simp [go_sem]) #[.slice (some ⟨b, 0, none⟩) 8 8] (by rw [show (#[Operand.tmp 25] : Array Operand).map aq.eval = #[aq.tmps.getD 25 undef] from by simp [Act.eval], e6]) ?_
      refine (cont_any (some ⟨b, 0, none⟩) 8 [ra, E1, gr, L1, L2, L3, L4, L5] wq (HT.out.keep (hcB hc)) (Nat.le_refl _) (by decide) (by show 8 ≤ 1048576; decide) h6).mono ?_
      rintro x w' ⟨rfl, q⟩
      exact ⟨_, rfl, (by rw [← HW.out]; rfl), q⟩
    | (k + 24), hk => exact absurd hk (by omega)
  · intro o h24 ho
    omega
  intro vf w8 hc hv
  have e7 : vf 23 = _ := hv 23 26 (by decide) rfl
  have B8 := HB.out.trans ((hcB hc).mono (by omega))
  have H8v := HY.out.keep (hcB hc)
  have s8 := (hcB hc).size
  clear hv hc
  simp only [List.take_succ_cons, List.take_zero, List.drop_succ_cons, List.drop_zero, putAll, Act.put, List.setIfInBounds_toArray, List.set_cons_succ, List.set_cons_zero]
  rw [e7]
  have HB8 := hid B8
  clear B8 e7 HB
  go_wp2_with ((with_reducible refine at_list' ?_); first
    | (refine wpList_store_has rfl 24 (.tmp 2) (.tmp 26) rfl (w.heap.size + 1) .u8 W (zeros 32) rfl rfl 24 H8v (hfr.size _ Tryd.size24) (by rw [hfr.len, zeros_length]) ?_; intro w9 H9 O9))
  refine bodyPost_ret (results_has rfl _ _ (w.heap.size + 1) 24 .u8 W _ _ rfl H9 Tryd.und24 (hfr.size _ Tryd.size24)) rfl ?_
  exact ⟨rfl, below_only HB8.out O9 (by omega)⟩
end Go.Proofs.YtpkelkipmldfeaaDoor

/- A block's header and root, by the program. -/
namespace Go.Proofs.YtpkelkipmldfeaaDoor
open Go.RowKit Go.Shelf
set_option linter.unusedVariables false
set_option linter.unusedSimpArgs false
set_option maxRecDepth 100000

def bkP (sl pr0 : Nat) (pa st : List Nat) (bc : List Value) : List (List Value) := [[.int .u64 (sl : Nat)], [.int .u64 (pr0 : Nat)], cellsB pa, cellsB st, bc]
def bkC (sl pr0 : Nat) (pa st : List Nat) (bc : List Value) : List Value := (bkP sl pr0 pa st bc).flatten
theorem bkC_length (sl pr0 : Nat) (pa st : List Nat) (bc : List Value) (h1 : pa.length = 32) (h2 : st.length = 32) (h3 : bc.length = 102) : (bkC sl pr0 pa st bc).length = 168 := by simp [bkC, bkP, cellsB_length, h1, h2, h3]
theorem tyHeader : Ty Tryd.prog 39 (zsOf 39) := ⟨by kernel_rfl, _, Tryd.underlying39, rfl⟩
theorem zsHeader : (zsOf 39).length = 98 := by kernel_rfl
theorem zs1Header : (zsOf 39).toArray.all (·.oneCell') = true := by kernel_rfl
theorem hdC_one (zs zp : Nat) (zpa zst zbo : List Nat) : (hdC zs zp zpa zst zbo).toArray.all (·.oneCell') = true := by
  simp [hdC, hdP, cellsB, Value.oneCell']
theorem hdOut (sl pr0 : Nat) (pa st R : List Nat) : outC #[(0, Value.int .u64 (sl : Nat)), (1, Value.int .u64 (pr0 : Nat)), (2, Value.agg (nums .u8 pa)), (3, Value.agg (nums .u8 st)), (4, Value.agg (nums .u8 R))].toList = hdC sl pr0 pa st R := rfl
theorem hdBuild (sl pr0 : Nat) (pa st R : List Nat) (h1 : pa.length = 32) (h2 : st.length = 32) (h3 : R.length = 32) (w : World) : (Instr.build 39 #[(0, .int .u64 (sl : Nat)), (1, .int .u64 (pr0 : Nat)), (2, .agg (nums .u8 pa)), (3, .agg (nums .u8 st)), (4, .agg (nums .u8 R))]).run Tryd.prog w = .ok (.agg (hdC sl pr0 pa st R).toArray) w := by
  have h := build_all tyHeader _ Tryd.underlying39 #[(0, 1), (1, 1), (2, 32), (34, 32), (66, 32)] (fun w => by kernel_rfl) #[(0, .int .u64 (sl : Nat)), (1, .int .u64 (pr0 : Nat)), (2, .agg (nums .u8 pa)), (3, .agg (nums .u8 st)), (4, .agg (nums .u8 R))]
    (by
      have e2 : (Value.agg (nums .u8 pa)).cells.size = 32 := (nums_size _ _).trans h1
      have e3 : (Value.agg (nums .u8 st)).cells.size = 32 := (nums_size _ _).trans h2
      have e4 : (Value.agg (nums .u8 R)).cells.size = 32 := (nums_size _ _).trans h3
      refine ⟨rfl, rfl, ?_, ?_, ?_, trivial⟩ <;> (try rw [e4]) <;> (try rw [e3]) <;> rw [e2] <;> rfl) (by rw [hdOut, hdC_length sl pr0 pa st R h1 h2 h3, zsHeader]) w
  rw [hdOut] at h
  exact h
set_option maxHeartbeats 4000000 in
theorem toHeader_any (sl pr0 : Nat) (pa st : List Nat) (bc : List Value) (R : List Nat) (hpa : Rt pa) (hst : Rt st) (hbl : bc.length = 102) (w : World) (hB : RootOf 7 w bc R) :
    Calls Tryd.prog 6 #[.agg (bkC sl pr0 pa st bc).toArray] w fun x w' => x = .returned (.agg (hdC sl pr0 pa st R).toArray) ∧ Below w.heap.size w w' := by
  have hR := hB.rt
  have hH : (hdC sl pr0 pa st R).length = 98 := hdC_length sl pr0 pa st R hpa.len hst.len hR.len
  have HR := hid hB
  clear hB
  go_enter Tryd.func6, Tryd.ntmps6
  go_wp2_with ((with_reducible refine at_list' ?_); first
    | (refine wpList_box_c rfl 1 rfl (.tmp 0) rfl (bkC sl pr0 pa st bc) rfl ?_; intro w1 H1 B1 S1)
    | (refine wpList_alloc_c tyHeader rfl 2 rfl rfl ?_; intro w2 H2 B2 S2; rw [S1] at H2 S2; rw [S1]))
  have HX := hid (H1.keep B2)
  have HY := hid H2
  have HB := hid (B1.trans (B2.mono (by omega)))
  have s2 : w2.heap.size = w.heap.size + 2 := by omega
  clear H1 B1 S1 H2 B2 S2
  try simp only [Act.put, List.setIfInBounds_toArray, List.set_cons_succ, List.set_cons_zero]
  refine wp_region_flow 12 12 (fun i v wq => match i with
    | 0 => v = .pointer (some ⟨w.heap.size, 0, none⟩)
    | 1 => v = .int .u64 (sl : Nat)
    | 2 => v = .pointer (some ⟨w.heap.size, 1, none⟩)
    | 3 => v = .int .u64 (pr0 : Nat)
    | 4 => v = .pointer (some ⟨w.heap.size, 2, none⟩)
    | 5 => v = .agg (nums .u8 pa)
    | 6 => v = .pointer (some ⟨w.heap.size, 34, none⟩)
    | 7 => v = .agg (nums .u8 st)
    | 8 => v = .pointer (some ⟨w.heap.size, 66, none⟩)
    | 9 => v = .agg bc.toArray
    | 10 => v = .agg (nums .u8 R)
    | _ => v = .agg (hdC sl pr0 pa st R).toArray) (by kernel_rfl) (by kernel_rfl) (fun _ d _ _ _ h => by cases d <;> exact h) ?_ ?_ ?_ ?_
  · intro i v wq wq' hi hv hb
    match i, hi with
    | 0, _ => exact hv
    | 1, _ => exact hv
    | 2, _ => exact hv
    | 3, _ => exact hv
    | 4, _ => exact hv
    | 5, _ => exact hv
    | 6, _ => exact hv
    | 7, _ => exact hv
    | 8, _ => exact hv
    | 9, _ => exact hv
    | 10, _ => exact hv
    | 11, _ => exact hv
    | (k + 12), hk => exact absurd hk (by omega)
  · intro i o hi ho aq wq hc hk hdep
    match i, hi with
    | 0, _ =>
      cases ho
      have e1 : aq.tmps.getD 1 undef = .pointer (some ⟨w.heap.size, 0, none⟩) := hk 1 (by decide)
      exact flow_value _ (run_fieldAt 35 (.tmp 1) 0 rfl _ _ e1 (by kernel_rfl)) rfl
    | 1, _ =>
      cases ho
      have e0 : aq.tmps.getD 3 undef = .pointer (some ⟨w.heap.size, 0, none⟩) := hdep 0 3 rfl (by kernel_rfl)
      exact flow_value _ (run_cell 22 (.tmp 3) rfl _ e0 _ ((HX.out.keep (hcB hc)).cell (seg (ps := bkP sl pr0 pa st bc) (i := 0) (off := 0) rfl (by simp [bkP, cellsB_length, hpa.len, hst.len]) 0 _ rfl)) _ Tryd.underlying22 rfl) rfl
    | 2, _ =>
      cases ho
      have e1 : aq.tmps.getD 1 undef = .pointer (some ⟨w.heap.size, 0, none⟩) := hk 1 (by decide)
      exact flow_value _ (run_fieldAt 35 (.tmp 1) 1 rfl _ _ e1 (by kernel_rfl)) rfl
    | 3, _ =>
      cases ho
      have e0 : aq.tmps.getD 5 undef = .pointer (some ⟨w.heap.size, 1, none⟩) := hdep 2 5 rfl (by kernel_rfl)
      exact flow_value _ (run_cell 22 (.tmp 5) rfl _ e0 _ ((HX.out.keep (hcB hc)).cell (seg (ps := bkP sl pr0 pa st bc) (i := 1) (off := 1) rfl (by simp [bkP, cellsB_length, hpa.len, hst.len]) 0 _ rfl)) _ Tryd.underlying22 rfl) rfl
    | 4, _ =>
      cases ho
      have e1 : aq.tmps.getD 1 undef = .pointer (some ⟨w.heap.size, 0, none⟩) := hk 1 (by decide)
      exact flow_value _ (run_fieldAt 35 (.tmp 1) 2 rfl _ _ e1 (by kernel_rfl)) rfl
    | 5, _ =>
      cases ho
      have e0 : aq.tmps.getD 7 undef = .pointer (some ⟨w.heap.size, 2, none⟩) := hdep 4 7 rfl (by kernel_rfl)
      exact flow_value _ (run_mid 24 (.tmp 7) rfl w.heap.size 2 e0 (cellsB pa) ((HX.out.keep (hcB hc)).range 2 (cellsB pa) (seg (ps := bkP sl pr0 pa st bc) (i := 2) (off := 2) rfl (by simp [bkP, cellsB_length, hpa.len, hst.len]))) _ Tryd.und24 rfl (by rw [cellsB_length, hpa.len]; exact Tryd.size24)) rfl
    | 6, _ =>
      cases ho
      have e1 : aq.tmps.getD 1 undef = .pointer (some ⟨w.heap.size, 0, none⟩) := hk 1 (by decide)
      exact flow_value _ (run_fieldAt 35 (.tmp 1) 3 rfl _ _ e1 (by kernel_rfl)) rfl
    | 7, _ =>
      cases ho
      have e0 : aq.tmps.getD 9 undef = .pointer (some ⟨w.heap.size, 34, none⟩) := hdep 6 9 rfl (by kernel_rfl)
      exact flow_value _ (run_mid 24 (.tmp 9) rfl w.heap.size 34 e0 (cellsB st) ((HX.out.keep (hcB hc)).range 34 (cellsB st) (seg (ps := bkP sl pr0 pa st bc) (i := 3) (off := 34) rfl (by simp [bkP, cellsB_length, hpa.len, hst.len]))) _ Tryd.und24 rfl (by rw [cellsB_length, hst.len]; exact Tryd.size24)) rfl
    | 8, _ =>
      cases ho
      have e1 : aq.tmps.getD 1 undef = .pointer (some ⟨w.heap.size, 0, none⟩) := hk 1 (by decide)
      exact flow_value _ (run_fieldAt 35 (.tmp 1) 4 rfl _ _ e1 (by kernel_rfl)) rfl
    | 9, _ =>
      cases ho
      have e0 : aq.tmps.getD 11 undef = .pointer (some ⟨w.heap.size, 66, none⟩) := hdep 8 11 rfl (by kernel_rfl)
      exact flow_value _ (run_mid 33 (.tmp 11) rfl w.heap.size 66 e0 bc ((HX.out.keep (hcB hc)).range 66 bc (seg (ps := bkP sl pr0 pa st bc) (i := 4) (off := 66) rfl (by simp [bkP, cellsB_length, hpa.len, hst.len]))) _ Tryd.underlying33 rfl (by rw [hbl]; kernel_rfl)) rfl
    | 10, _ =>
      cases ho
      have e0 : aq.tmps.getD 12 undef = .agg bc.toArray := hdep 9 12 rfl (by kernel_rfl)
      refine flow_fun 7 _ _ rfl (fun _ _ => by simp [go_sem]) #[.agg bc.toArray] (by rw [show (#[Operand.tmp 12] : Array Operand).map aq.eval = #[aq.tmps.getD 12 undef] from by simp [Act.eval], e0]) ?_
      refine (HR.out.call wq (HB.out.trans ((hcB hc).mono HB.out.size))).mono ?_
      rintro x w' ⟨rfl, q⟩
      exact ⟨_, rfl, rfl, q⟩
    | 11, _ =>
      cases ho
      have e0 : aq.tmps.getD 4 undef = .int .u64 (sl : Nat) := hdep 1 4 rfl (by kernel_rfl)
      have e1 : aq.tmps.getD 6 undef = .int .u64 (pr0 : Nat) := hdep 3 6 rfl (by kernel_rfl)
      have e2 : aq.tmps.getD 8 undef = .agg (nums .u8 pa) := hdep 5 8 rfl (by kernel_rfl)
      have e3 : aq.tmps.getD 10 undef = .agg (nums .u8 st) := hdep 7 10 rfl (by kernel_rfl)
      have e4 : aq.tmps.getD 13 undef = .agg (nums .u8 R) := hdep 10 13 rfl (by kernel_rfl)
      refine flow_value _ (run_buildOp 39 #[(0, .tmp 4), (1, .tmp 6), (2, .tmp 8), (3, .tmp 10), (4, .tmp 13)] rfl #[(0, .int .u64 (sl : Nat)), (1, .int .u64 (pr0 : Nat)), (2, .agg (nums .u8 pa)), (3, .agg (nums .u8 st)), (4, .agg (nums .u8 R))] ?_ _ (hdBuild sl pr0 pa st R hpa.len hst.len hR.len wq)) rfl
      rw [show (#[(0, Operand.tmp 4), (1, Operand.tmp 6), (2, Operand.tmp 8), (3, Operand.tmp 10), (4, Operand.tmp 13)] : Array (Nat × Operand)).map (fun p => (p.1, aq.eval p.2)) = #[(0, aq.tmps.getD 4 undef), (1, aq.tmps.getD 6 undef), (2, aq.tmps.getD 8 undef), (3, aq.tmps.getD 10 undef), (4, aq.tmps.getD 13 undef)] from by simp [Act.eval], e0, e1, e2, e3, e4]
    | (k + 12), hk => exact absurd hk (by omega)
  · intro o h12 ho
    omega
  intro vf w8 hc hv
  have e7 : vf 11 = _ := hv 11 14 (by decide) rfl
  have B8 := HB.out.trans ((hcB hc).mono (by omega))
  have H8v := HY.out.keep (hcB hc)
  have s8 := (hcB hc).size
  clear hv hc
  simp only [List.take_succ_cons, List.take_zero, List.drop_succ_cons, List.drop_zero, putAll, Act.put, List.setIfInBounds_toArray, List.set_cons_succ, List.set_cons_zero]
  rw [e7]
  have HB8 := hid B8
  clear B8 e7 HB
  go_wp2_with ((with_reducible refine at_list' ?_); first
    | (refine wpList_store_c tyHeader rfl (.tmp 2) (.tmp 14) rfl (w.heap.size + 1) (hdC sl pr0 pa st R) rfl rfl (by rw [hH, zsHeader]) (hdC_one _ _ _ _ _) _ H8v rfl ?_; intro w9 H9 O9))
  refine bodyPost_ret (results_c1 tyHeader rfl _ _ (w.heap.size + 1) (hdC sl pr0 pa st R) rfl H9 (by rw [hH, zsHeader])) rfl ?_
  exact ⟨rfl, below_only HB8.out O9 (by omega)⟩
theorem tyBlock : Ty Tryd.prog 35 (zsOf 35) := ⟨by kernel_rfl, _, Tryd.underlying35, rfl⟩
theorem zsBlock : (zsOf 35).length = 168 := by kernel_rfl
set_option maxHeartbeats 4000000 in
theorem block_any (sl pr0 : Nat) (pa st : List Nat) (bc : List Value) (R : List Nat) (hsl : sl < 18446744073709551616) (hpr : pr0 < 18446744073709551616) (hpa : Rt pa) (hst : Rt st) (hbl : bc.length = 102) (w : World) (hT : Tabs w) (hB : RootOf 7 w bc R) :
    Calls Tryd.prog 9 #[.agg (bkC sl pr0 pa st bc).toArray] w fun x w' => x = .returned (.agg (nums .u8 (hdR sl pr0 pa st R))) ∧ Below w.heap.size w w' := by
  have hR := hB.rt
  have hfr := hdR_rt sl pr0 pa st R hpa hst hR
  have hlb := bkC_length sl pr0 pa st bc hpa.len hst.len hbl
  have HH := hid (fun w (hT : Tabs w) => hdR_any sl pr0 pa st R hsl hpr hpa hst hR w hT)
  obtain ⟨W, HW⟩ : ∃ W, Same (hdR sl pr0 pa st R) W := ⟨_, ⟨rfl⟩⟩
  rw [HW.out] at hfr HH ⊢
  have HTH := hid (fun w1 (hb : Below w.heap.size w w1) => toHeader_any sl pr0 pa st bc R hpa hst hbl w1 (hB.keep hb))
  obtain ⟨H, HHC⟩ : ∃ H, Same (hdC sl pr0 pa st R) H := ⟨_, ⟨rfl⟩⟩
  rw [HHC.out] at HH HTH
  obtain ⟨C, HC⟩ : ∃ C, Same (bkC sl pr0 pa st bc) C := ⟨_, ⟨rfl⟩⟩
  rw [HC.out] at hlb HTH ⊢
  have HT := hid hT
  clear hB hT
  go_enter Tryd.func9, Tryd.ntmps9
  go_wp2_with ((with_reducible refine at_list' ?_); first
    | (refine wpList_box_c rfl 1 rfl (.tmp 0) rfl C rfl ?_; intro w1 H1 B1 S1)
    | (refine wpList_alloc_has rfl 2 rfl 24 rfl .u8 32 Tryd.zero24 ?_; intro w2 H2 B2 S2; rw [S1] at H2 S2; rw [S1]; have HX := H1.keep B2)
    | (refine wpList_load_c tyBlock rfl (.tmp 1) rfl w.heap.size C rfl (by rw [hlb, zsBlock]) HX ?_))
  have L2 := hid (below_more B1 B2 (Nat.le_refl _))
  refine (HTH.out w2 L2.out).mono ?_
  rintro e w3 ⟨rfl, B3⟩
  have H3 := H2.keep B3
  have L3 := hid (below_more L2.out B3 (Nat.le_refl _))
  clear HTH H1 B1 S1 H2 B2 S2 HX B3 L2
  go_wp2_with fail
  refine (HH.out w3 (HT.out.keep L3.out)).mono ?_
  rintro e w4 ⟨rfl, B4⟩
  have H4 := H3.keep B4
  have L4 := hid (below_more L3.out B4 (Nat.le_refl _))
  clear HH H3 B4 L3
  go_wp2_with ((with_reducible refine at_list' ?_); first
    | (refine wpList_store_has rfl 24 (.tmp 2) (.tmp 5) rfl (w.heap.size + 1) .u8 W (zeros 32) rfl rfl 24 H4 (hfr.size _ Tryd.size24) (by rw [hfr.len, zeros_length]) ?_; intro w9 H9 O9))
  refine bodyPost_ret (results_has rfl _ _ (w.heap.size + 1) 24 .u8 W _ _ rfl H9 Tryd.und24 (hfr.size _ Tryd.size24)) rfl ?_
  exact ⟨rfl, below_only L4.out O9 (by omega)⟩
end Go.Proofs.YtpkelkipmldfeaaDoor

/- Flows whose operations may bear guards that are known to hold, and hang together in chains of any length. -/
namespace Go.Proofs.YtpkelkipmldfeaaDoor
open Go Go.RowKit
section
variable {P : Program}
/-- Those below k that one of m waits for, itself or by others, and m. -/
def markG (ops : Array Oper) : Nat → List Nat → List Nat
  | 0, m => m
  | k + 1, m => if m.any (fun j => Region.waitsFor .any ops j k) then markG ops k (k :: m) else markG ops k m
def reachM (ops : Array Oper) (t i : Nat) : Bool := (markG ops t [t]).contains i
theorem markG_done {ops : Array Oper} {done : Array Bool} (hcl : ∀ j oj, ops[j]? = some oj → done.getD j false = true → ∀ e ∈ oj.after, Region.binds .any e = true → done.getD e.on false = true) {t : Nat} {o : Oper} (ho : ops[t]? = some o) (hall : ∀ e ∈ o.after, Region.binds .any e = true → done.getD e.on false = true) :
    ∀ k m, (∀ i ∈ m, i = t ∨ done.getD i false = true) → ∀ i ∈ markG ops k m, i = t ∨ done.getD i false = true := by
  intro k
  induction k with
  | zero => intro m hm i hi; exact hm i hi
  | succ k ih =>
    intro m hm i hi
    rw [markG] at hi
    split at hi
    · rename_i hany
      refine ih (k :: m) (fun q hq => ?_) i hi
      rcases List.mem_cons.1 hq with rfl | hq
      · obtain ⟨j, hj, hw⟩ := List.any_eq_true.1 hany
        rcases hm j hj with rfl | hd
        · exact .inr (waits_done ho hall hw)
        · cases hz : ops[j]? with
          | none => unfold Region.waitsFor at hw; rw [hz] at hw; cases hw
          | some oj => exact .inr (waits_done hz (hcl j oj hz hd) hw)
      · exact hm q hq
    · exact ih m hm i hi
theorem reachM_done {ops : Array Oper} {done : Array Bool} (hcl : ∀ j oj, ops[j]? = some oj → done.getD j false = true → ∀ e ∈ oj.after, Region.binds .any e = true → done.getD e.on false = true) {t i : Nat} {o : Oper} (ho : ops[t]? = some o) (hall : ∀ e ∈ o.after, Region.binds .any e = true → done.getD e.on false = true) (h : reachM ops t i = true) (hne : i ≠ t) : done.getD i false = true :=
  (markG_done hcl ho hall t [t] (fun q hq => .inl (List.mem_singleton.1 hq)) i (by unfold reachM at h; simpa using h)).resolve_left hne
/-- What a flow asks of a region's text: its head's guards are known, it waits upwards alone, writes each slot once; its tail waits for all of the head, but for one operation that only reads slots and may come late (late: its place; n: there is none). -/
def flowMB (ops : Array Oper) (n late sz : Nat) : Bool :=
  decide (n < ops.size) && Region.noSelect ops && ((List.range ops.size).all fun t => decide (t < n) || (List.range n).all fun i => decide (i = late) || reachM ops t i) &&
  ((List.range n).all fun i => match ops[i]? with
    | some o => (match o.guard with | none => true | some (g, _) => decide (g < i) && Region.waitsFor .any ops i g && (dstOf ops g).isSome) && (o.after.all fun e => !Region.binds .any e || decide (e.on < i)) && (match o.dst with
      | none => true
      | some d => decide (d < sz) && (List.range n).all fun j => decide (j = i) || decide (dstOf ops j ≠ some d))
    | none => false) && (decide (n ≤ late) || (Region.free .any ops (doneBut ops n late) late && (Region.ready .any ops (doneBut ops n late)).contains late)) &&
  Region.seqB .any ops (ops.size - n) n ((List.range ops.size).map fun i => decide (i < n)).toArray

theorem flowM_any {ops : Array Oper} {n late : Nat} {I : Nat → Value → World → Prop} {w0 : World} {a0 : Act} {Q : Exit → Act → World → Prop} (hB : flowMB ops n late a0.tmps.size = true)
    (hQ : ∀ c d v a w, Q (.panic c) (a.put d v) w → Q (.panic c) a w)
    (hguard : ∀ i o g b, i < n → ops[i]? = some o → o.guard = some (g, b) → ∀ v w, I g v w → v = .bool b)
    (hI : ∀ i v w w', i < n → I i v w → Below w.heap.size w w' → I i v w')
    (hop : ∀ i o, i < n → ops[i]? = some o → ∀ a w, Cls w0 w → (∀ s, (∀ j, j < n → dstOf ops j ≠ some s) → a.tmps.getD s undef = a0.tmps.getD s undef) →
      (∀ j d, dstOf ops j = some d → (o.after.any fun e => Region.binds .any e && e.on == j) = true → I j (a.tmps.getD d undef) w) →
      o.wp P a w (fun a' w' => ∃ v, a' = a.put o.dst v ∧ I i v w' ∧ Below w.heap.size w w') Q)
    (hlate : ∀ o, late < n → ops[late]? = some o → ∀ (a : Act) w, Cls w0 w → (∀ s, (∀ j, j < n → dstOf ops j ≠ some s) → a.tmps.getD s undef = a0.tmps.getD s undef) →
      (∀ j d, dstOf ops j = some d → (o.after.any fun e => Region.binds .any e && e.on == j) = true → I j (a.tmps.getD d undef) w) → ∃ v, (∀ w, (execOp a.eval o).run P w = .ok (.value v) w) ∧ I late v w)
    (htail : ∀ v w, Cls w0 w → (∀ i d, i < n → dstOf ops i = some d → I i (v i) w) → wpAny P .any ops Q (ops.size - n) ((List.range ops.size).map fun i => decide (i < n)).toArray (putAll v (ops.toList.take n) 0 a0) w) :
    ∀ f (done : Array Bool) (a : Act) (w : World), (List.range n).countP (fun i => !done.getD i true) = f → FlowInv ops n I w0 a0 done a w → wpAny P .any ops Q (f + (ops.size - n)) done a w := by
  simp only [flowMB, Bool.and_eq_true, decide_eq_true_eq, List.all_eq_true, List.mem_range, Bool.or_eq_true] at hB
  obtain ⟨⟨⟨⟨⟨hn, hsel⟩, hdir⟩, hall⟩, hlt8⟩, hseq⟩ := hB
  have hat : ∀ i, i < n → ∃ o, ops[i]? = some o := fun i hi => ⟨_, Array.getElem?_eq_getElem (by omega)⟩
  have hgd : ∀ i o, i < n → ops[i]? = some o → (∀ g b, o.guard = some (g, b) → Region.waitsFor .any ops i g = true ∧ ∃ d, dstOf ops g = some d) ∧ (∀ e ∈ o.after, Region.binds .any e = true → e.on < i) ∧ ∀ d, o.dst = some d → d < a0.tmps.size ∧ ∀ j, j < n → j ≠ i → dstOf ops j ≠ some d := by
    intro i o hi ho
    have := hall i hi
    rw [ho] at this
    simp only [Bool.and_eq_true, Array.all_eq_true_iff_forall_mem, Bool.or_eq_true, Bool.not_eq_true', decide_eq_true_eq] at this
    obtain ⟨⟨h1, h2⟩, h3⟩ := this
    refine ⟨fun g b hg => by
      rw [hg] at h1
      simp only [Bool.and_eq_true] at h1
      exact ⟨h1.1.2, Option.isSome_iff_exists.1 h1.2⟩, fun e he hb => (h2 e he).resolve_left (by rw [hb]; decide), fun d hd => ?_⟩
    rw [hd] at h3
    simp only [Bool.and_eq_true, decide_eq_true_eq, List.all_eq_true, List.mem_range, Bool.or_eq_true] at h3
    exact ⟨h3.1, fun j hj hne => (h3.2 j hj).resolve_left hne⟩
  intro f
  induction f with
  | zero =>
    intro done a w hcount inv
    have hdone : ∀ i, i < n → done.getD i true = true := fun i hi => by
      have := List.countP_eq_zero.1 hcount i (List.mem_range.2 hi)
      simpa using this
    have hdn : done = ((List.range ops.size).map fun i => decide (i < n)).toArray := by
      apply Array.ext_getElem?
      intro i
      by_cases hi : i < ops.size
      · have hi' : i < done.size := by rw [inv.head.size]; exact hi
        have h1 : (((List.range ops.size).map fun i => decide (i < n)).toArray)[i]? = some (decide (i < n)) := by simp [hi]
        rw [h1, Array.getElem?_eq_getElem hi']
        by_cases hin : i < n
        · have := hdone i hin
          simp [hi'] at this
          simp [hin, this]
        · have := inv.head.tail i (by omega) hi
          simp [hi'] at this
          simp [hin, this]
      · rw [Array.getElem?_eq_none (by rw [inv.head.size]; omega), Array.getElem?_eq_none (by simp; omega)]
    have hk : ∀ i, i < n → done.getD i false = true := fun i hi => by
      have h1 := hdone i hi
      have hi' : i < done.size := by rw [inv.head.size]; omega
      simp [hi'] at h1 ⊢
      exact h1
    have ha : a = putAll (fun i => match dstOf ops i with | some d => a.tmps.getD d undef | none => undef) (ops.toList.take n) 0 a0 := by
      have hd1 := putAll_defers (fun i => match dstOf ops i with | some d => a.tmps.getD d undef | none => undef) (ops.toList.take n) 0 a0
      have hs1 := putAll_size (fun i => match dstOf ops i with | some d => a.tmps.getD d undef | none => undef) (ops.toList.take n) 0 a0
      have ht1 : ∀ s, a.tmps[s]? = (putAll (fun i => match dstOf ops i with | some d => a.tmps.getD d undef | none => undef) (ops.toList.take n) 0 a0).tmps[s]? := fun s => by
        rw [putAll_get _ s (a.tmps.getD s undef) _ 0 a0 (fun j o hj ho => by
          rw [List.getElem?_take] at hj
          split at hj
          · have : dstOf ops j = some s := by unfold dstOf; rw [Array.getElem?_toList] at hj; rw [hj]; exact ho
            rw [Nat.zero_add, this]
          · cases hj)]
        split
        · rename_i h
          rw [Array.getElem?_eq_getElem (by rw [inv.size]; exact h.2)]
          simp [inv.size, h.2]
        · rename_i h
          by_cases hsz : s < a0.tmps.size
          · refine inv.keep s fun i hi e => h ⟨?_, hsz⟩
            obtain ⟨o, ho⟩ := hat i hi
            refine ⟨o, ?_, by unfold dstOf at e; rw [ho] at e; exact e⟩
            rw [List.mem_take_iff_getElem]
            have := Array.getElem?_eq_some_iff.1 ho
            exact ⟨i, by simp; omega, by simpa using this.2⟩
          · rw [Array.getElem?_eq_none (by rw [inv.size]; omega), Array.getElem?_eq_none (by omega)]
      generalize putAll (fun i => match dstOf ops i with | some d => a.tmps.getD d undef | none => undef) (ops.toList.take n) 0 a0 = b at *
      obtain ⟨ta, da⟩ := a
      obtain ⟨tb, db⟩ := b
      have e1 : ta = tb := Array.ext_getElem? ht1
      have e2 : da = db := inv.defers.trans hd1.symm
      rw [e1, e2]
    rw [Nat.zero_add, ha, hdn]
    refine htail _ w inv.cls fun i d hi hd => ?_
    have := inv.known i hi (hk i hi) d hd
    simpa [hd] using this
  | succ f ih =>
    intro done a w hcount inv
    have hex : ∃ i, i < n ∧ done.getD i true = false := by
      have : 0 < (List.range n).countP (fun i => !done.getD i true) := by omega
      obtain ⟨i, hi, hd⟩ := List.countP_pos_iff.1 this
      exact ⟨i, List.mem_range.1 hi, by simpa using hd⟩
    have hready : ∃ i, i < n ∧ i ∈ Region.ready .any ops done := by
      obtain ⟨i0, hi0, hd0⟩ := hex
      have key : ∀ m, m < n → done.getD m true = false → ∃ i, i < n ∧ i ∈ Region.ready .any ops done := by
        intro m
        induction m using Nat.strongRecOn with
        | _ m ihm =>
          intro hm hd
          obtain ⟨o, ho⟩ := hat m hm
          by_cases hw : ∀ e ∈ o.after, Region.binds .any e = true → done.getD e.on false = true
          · exact ⟨m, hm, mem_ready.2 ⟨hd, o, ho, hw⟩⟩
          · simp only [Classical.not_forall] at hw
            obtain ⟨e, he, hb, hnd⟩ := hw
            have hlt := (hgd m o hm ho).2.1 e he hb
            refine ihm e.on hlt (by omega) ?_
            have hi' : e.on < done.size := by rw [inv.head.size]; omega
            simp [hi'] at hnd ⊢
            exact hnd
      exact key i0 hi0 hd0
    obtain ⟨r, hr, hrr⟩ := hready
    rw [Nat.succ_add]
    have hstep : ∀ i o v w', i < n → i ∈ Region.ready .any ops done → ops[i]? = some o → I i v w' → Below w.heap.size w w' →
        (List.range n).countP (fun j => !(done.setIfInBounds i true).getD j true) = f ∧ FlowInv ops n I w0 a0 (done.setIfInBounds i true) (a.put o.dst v) w' := by
      intro i o v w' hin hi ho hv hB
      obtain ⟨hun, o', ho', hwait⟩ := mem_ready.1 hi
      obtain ⟨g1, g2, g3⟩ := hgd i o hin ho
      refine ⟨?_, inv.head.set hi hin, inv.cls.more hB, by rw [put_defers]; exact inv.defers, by rw [put_size]; exact inv.size, fun s hs' => ?_, fun j hj hdj d hd => ?_⟩
      · have hii : i < done.size := by rw [inv.head.size]; omega
        have hcp := count_step done i hii hun n hin
        omega
      · rw [put_get, if_neg (fun h => hs' i hin (by unfold dstOf; rw [ho]; exact h.1))]
        exact inv.keep s hs'
      · by_cases e : j = i
        · subst e
          have hd' : o.dst = some d := by unfold dstOf at hd; rw [ho] at hd; exact hd
          have : (a.put o.dst v).tmps.getD d undef = v := by
            rw [Array.getD_eq_getD_getElem?, put_get, if_pos ⟨hd', by rw [inv.size]; exact (g3 d hd').1⟩]; rfl
          rw [this]; exact hv
        · have hdj' : done.getD j false = true := by rwa [getD_set_ne false (Ne.symm e)] at hdj
          have : (a.put o.dst v).tmps.getD d undef = a.tmps.getD d undef := by
            rw [Array.getD_eq_getD_getElem?, put_get, if_neg (fun h => (g3 d h.1).2 j hj e hd), ← Array.getD_eq_getD_getElem?]
          rw [this]
          exact hI j _ w w' hj (inv.known j hj hdj' d hd) hB
    have hdeps : ∀ i o, i < n → i ∈ Region.ready .any ops done → ops[i]? = some o → ∀ j d, dstOf ops j = some d → (o.after.any fun e => Region.binds .any e && e.on == j) = true → I j (a.tmps.getD d undef) w := by
      intro i o hin hi ho j d hd hj
      obtain ⟨hun, o', ho', hwait⟩ := mem_ready.1 hi
      obtain rfl : o' = o := Option.some.inj (ho'.symm.trans ho)
      obtain ⟨g1, g2, g3⟩ := hgd i o' hin ho
      obtain ⟨k, hk, hk2⟩ := Array.any_eq_true.1 hj
      simp only [Bool.and_eq_true, beq_iff_eq] at hk2
      have hmem := Array.getElem_mem hk
      have hl := hwait _ hmem hk2.1
      have hlt := g2 _ hmem hk2.1
      rw [hk2.2] at hl hlt
      exact inv.known j (by omega) hl d hd
    have hwant : ∀ i o, i < n → i ∈ Region.ready .any ops done → ops[i]? = some o → Region.wanted o (yielded ops a.tmps) = true := by
      intro i o hin hi ho
      unfold Region.wanted
      cases hg : o.guard with
      | none => rfl
      | some gb =>
        obtain ⟨g, b⟩ := gb
        obtain ⟨q2, d, hd⟩ := (hgd i o hin ho).1 g b hg
        unfold Region.waitsFor at q2
        rw [ho] at q2
        have hv := hguard i o g b hin ho hg _ _ (hdeps i o hin hi ho g d hd q2)
        have hv2 : a.tmps[d]? = some (.bool b) := by
          rw [Array.getD_eq_getD_getElem?] at hv
          cases hq : a.tmps[d]? with
          | none => rw [hq] at hv; cases hv
          | some u => rw [hq] at hv; exact congrArg some hv
        have hy : yielded ops a.tmps g = some b := by
          unfold dstOf at hd
          unfold yielded
          rw [hd]
          simp [hv2]
        simp [hy]
    have hkeep : ∀ s, (∀ j, j < n → dstOf ops j ≠ some s) → a.tmps.getD s undef = a0.tmps.getD s undef := fun s hs' => by rw [Array.getD_eq_getD_getElem?, inv.keep s hs', ← Array.getD_eq_getD_getElem?]
    by_cases hbut : ∀ i, i < n → i ≠ late → done.getD i true = true
    · have hrl : r = late := Classical.byContradiction fun h => by
        have h1 := hbut r hr h
        rw [(mem_ready.1 hrr).1] at h1; cases h1
      subst hrl
      have hdn : done = doneBut ops n r := by
        apply Array.ext_getElem?
        intro i
        by_cases hi : i < ops.size
        · have hi' : i < done.size := by rw [inv.head.size]; exact hi
          have h1 : (doneBut ops n r)[i]? = some (decide (i < n) && decide (i ≠ r)) := by simp [doneBut, hi]
          rw [h1, Array.getElem?_eq_getElem hi']
          by_cases hin : i < n
          · by_cases hir : i = r
            · subst hir
              have := (mem_ready.1 hrr).1
              simp [hi'] at this
              simp [this]
            · have := hbut i hin hir
              simp [hi'] at this
              simp [hin, hir, this]
          · have := inv.head.tail i (by omega) hi
            simp [hi'] at this
            simp [hin, this]
        · rw [Array.getElem?_eq_none (by rw [inv.head.size]; omega), Array.getElem?_eq_none (by simp [doneBut]; omega)]
      obtain ⟨o, ho⟩ := hat r hr
      obtain ⟨v, hrun, hv⟩ := hlate o hr ho a w inv.cls hkeep (hdeps r o hr hrr ho)
      obtain ⟨q1, q2⟩ := hstep r o v w hr hrr ho hv (Below.refl _ w)
      have hw := hwant r o hr hrr ho
      have hfr := hlt8.resolve_left (by omega)
      rw [← hdn] at hfr
      exact wpAny_take ho hsel hfr.1 hfr.2 (fun c a w h => hQ c _ _ a w h) (.inl ⟨hw, hrun⟩) (ih _ _ _ q1 q2)
    · simp only [Classical.not_forall] at hbut
      obtain ⟨u, hu, hul, hud⟩ := hbut
      have hud' : done.getD u false = false := by
        have hi' : u < done.size := by rw [inv.head.size]; omega
        simp [hi'] at hud ⊢
        exact hud
      refine ⟨fun e => (by rw [e] at hrr; cases hrr), fun i hi => ?_⟩
      obtain ⟨hun, o, ho, hwait⟩ := mem_ready.1 hi
      have hin : i < n := Nat.lt_of_not_le fun h => by
        have his : i < ops.size := (Array.getElem?_eq_some_iff.1 ho).1
        have hw := ((hdir i his).resolve_left (by omega) u hu).resolve_left hul
        have := reachM_done inv.head.closed ho hwait hw (by omega)
        rw [hud'] at this
        cases this
      unfold wpOp
      rw [ho]
      have hw := hwant i o hin hi ho
      simp only [hw, if_true]
      refine .inl (Oper.wp_mono ?_ (hop i o hin ho a w inv.cls hkeep (hdeps i o hin hi ho)))
      rintro a' w' ⟨v, rfl, hv, hB⟩
      obtain ⟨q1, q2⟩ := hstep i o v w' hin hi ho hv hB
      exact ih _ _ _ q1 q2

/-- The region, told as a flow. -/
theorem wp_region_flowM {id : Nat} {Q : Exit → Act → World → Prop} {a : Act} {w : World} {l : List Oper} (n late : Nat) (I : Nat → Value → World → Prop) (hm : P.follows .mixedOrders = true) (hB : flowMB l.toArray n late a.tmps.size = true)
    (hQ : ∀ c d v a w, Q (.panic c) (a.put d v) w → Q (.panic c) a w)
    (hguard : ∀ i o g b, i < n → l.toArray[i]? = some o → o.guard = some (g, b) → ∀ v w, I g v w → v = .bool b)
    (hI : ∀ i v w w', i < n → I i v w → Below w.heap.size w w' → I i v w')
    (hop : ∀ i o, i < n → l.toArray[i]? = some o → ∀ a' w', Cls w w' → (∀ s, (∀ j, j < n → dstOf l.toArray j ≠ some s) → a'.tmps.getD s undef = a.tmps.getD s undef) →
      (∀ j d, dstOf l.toArray j = some d → (o.after.any fun e => Region.binds .any e && e.on == j) = true → I j (a'.tmps.getD d undef) w') →
      o.wp P a' w' (fun a'' w'' => ∃ v, a'' = a'.put o.dst v ∧ I i v w'' ∧ Below w'.heap.size w' w'') Q)
    (hlate : ∀ o, late < n → l.toArray[late]? = some o → ∀ (a' : Act) w', Cls w w' → (∀ s, (∀ j, j < n → dstOf l.toArray j ≠ some s) → a'.tmps.getD s undef = a.tmps.getD s undef) →
      (∀ j d, dstOf l.toArray j = some d → (o.after.any fun e => Region.binds .any e && e.on == j) = true → I j (a'.tmps.getD d undef) w') → ∃ v, (∀ w, (execOp a'.eval o).run P w = .ok (.value v) w) ∧ I late v w')
    (htail : ∀ v w', Cls w w' → (∀ i d, i < n → dstOf l.toArray i = some d → I i (v i) w') → wpList P l.toArray Q (l.drop n) (putAll v (l.take n) 0 a) w') : (Code.region id l.toArray true).wp P Q a w := by
  have hB' := hB
  simp only [flowMB, Bool.and_eq_true, decide_eq_true_eq] at hB'
  have hn : n < l.length := by simpa using hB'.1.1.1.1.1
  have h3 : (l.drop n).length = l.toArray.size - n := by simp
  refine wp_region_any hm ?_
  have hc0 : (List.range n).countP (fun i => !(Array.replicate l.toArray.size false).getD i true) = n := by
    have : (List.range n).countP (fun i => !(Array.replicate l.toArray.size false).getD i true) = (List.range n).length := List.countP_eq_length.2 fun i hi => by
      have := List.mem_range.1 hi
      simp [show i < l.length by omega]
    rw [this, List.length_range]
  have K := flowM_any (P := P) (Q := Q) (w0 := w) (a0 := a) hB hQ hguard hI hop hlate (fun v w' hc hv => by
    have := wpAny_of_seq (P := P) (md := .any) (Q' := Q) (l.drop n) n _ _ w' (fun j => by simp [List.getElem?_drop]) (by rw [h3]; exact hB'.2) (htail v w' hc hv)
    rw [h3] at this
    simpa using this) n (Array.replicate l.toArray.size false) a { w with drawn := w.drawn + 1 } hc0
    ⟨⟨by simp, fun j oj _ hx => (by rw [getD_replicate_false] at hx; cases hx), fun t _ ht => getD_in (by simpa using ht) (getD_replicate_false _ _)⟩, ⟨(Below.refl _ w).drew⟩, rfl, rfl, fun _ _ => rfl, fun i _ hx => (by rw [getD_replicate_false] at hx; cases hx)⟩
  rwa [show n + (l.toArray.size - n) = l.toArray.size by simp; omega] at K
end
end Go.Proofs.YtpkelkipmldfeaaDoor

