/- Own texts of the proof, joined: Elem LsProposerSlashing LsAttesterSlashing LsAttestation LsDeposit LsSignedExit CoBody BdRoot FlowM BigS RunEq. -/
import Derived.Test.YtbmcmabimfoknaaGreatDoorH10
/- Lists of structs: each element's root, by the program. -/
namespace Go.Proofs.YtbmcmabimfoknaaGreatDoor
open Go.RowKit Go.Shelf
set_option linter.unusedVariables false
set_option maxRecDepth 100000

/-- The function F answers the root R of these cells, now and later. -/
structure RootOf (F : FuncId) (w : World) (cs : List Value) (R : List Nat) : Prop where
  rt : Rt R
  call : ∀ w', Below w.heap.size w w' → Calls Tryz.prog F #[.agg cs.toArray] w' fun x w'' => x = .returned (.agg (nums .u8 R)) ∧ Below w'.heap.size w' w''
theorem RootOf.keep {F : FuncId} {w w' : World} {cs : List Value} {R : List Nat} (h : RootOf F w cs R) (hb : Below w.heap.size w w') : RootOf F w' cs R := ⟨h.rt, fun w'' hb' => h.call w'' (hb.trans (hb'.mono hb.size))⟩
/-- A slice of structs of sz cells: what each holds, and what F answers of it. -/
structure Elems (F : FuncId) (sz : Nat) (w : World) (ao : Option Addr) (css : List (List Value)) (Rs : List (List Nat)) : Prop where
  len : Rs.length = css.length
  size : ∀ i, i < css.length → (css.getD i []).length = sz
  one : ∀ i, i < css.length → (css.getD i []).toArray.all (·.oneCell') = true
  mem : css.length = 0 ∨ ∃ b off, ao = some ⟨b, off, none⟩ ∧ ∀ i, i < css.length → w.rangeAt b (off + i * sz) (css.getD i [])
  root : ∀ i, i < css.length → RootOf F w (css.getD i []) (Rs.getD i [])
theorem range_keep {w w' : World} {b o : Nat} {cs : List Value} (h : w.rangeAt b o cs) (hb : Below w.heap.size w w') : w'.rangeAt b o cs := fun j v hv => cell_keep hb (h j v hv)
theorem range_only {w w' : World} {b o g : Nat} {cs : List Value} (h : w.rangeAt b o cs) (ho : Only g w w') (hg : b ≠ g) : w'.rangeAt b o cs := fun j v hv => (World.cell?_of_block (a := ⟨b, o + j, none⟩) (ho.block b hg)).trans (h j v hv)
theorem Elems.keep {F : FuncId} {sz : Nat} {w w' : World} {ao : Option Addr} {css : List (List Value)} {Rs : List (List Nat)} (h : Elems F sz w ao css Rs) (hb : Below w.heap.size w w') : Elems F sz w' ao css Rs := by
  refine ⟨h.len, h.size, h.one, ?_, fun i hi => (h.root i hi).keep hb⟩
  rcases h.mem with e | ⟨b, off, e, hm⟩
  · exact .inl e
  · exact .inr ⟨b, off, e, fun i hi => range_keep (hm i hi) hb⟩
theorem Elems.rts {F : FuncId} {sz : Nat} {w : World} {ao : Option Addr} {css : List (List Value)} {Rs : List (List Nat)} (h : Elems F sz w ao css Rs) : Rts Rs := by
  have key : ∀ r ∈ Rs, Rt r := fun r hr => by
    obtain ⟨i, hi, rfl⟩ := List.mem_iff_getElem.1 hr
    have := (h.root i (by rw [← h.len]; exact hi)).rt
    rwa [List.getD_eq_getElem?_getD, List.getElem?_eq_getElem hi] at this
  exact ⟨fun r hr => (key r hr).len, fun r hr => (key r hr).byte⟩
/-- The zero of a type of structs. -/
noncomputable def zsOf (t : TypeId) : List Value := match (Tryz.prog.info? t).map (fun i : TypeInfo => i.zero) with
  | some (some (Value.agg a)) => a.toList
  | _ => []
/-- The root of a list of at most n structs whose roots these are. -/
def listOf (n : Nat) (Rs : List (List Nat)) : List Nat := pr (treeZ n Rs) (wUp Rs.length 8)
theorem listOf_rt (n : Nat) (Rs : List (List Nat)) : Rt (listOf n Rs) := pr_rt _ _
end Go.Proofs.YtbmcmabimfoknaaGreatDoor

/- The roots of a list of ProposerSlashing, and the list's root, by the program. -/
namespace Go.Proofs.YtbmcmabimfoknaaGreatDoor
open Go.RowKit Go.Shelf
set_option linter.unusedVariables false
set_option maxRecDepth 100000

theorem tyProposerSlashing : Ty Tryz.prog 74 (zsOf 74) := ⟨by kernel_rfl, _, Tryz.underlying74, rfl⟩
theorem zsProposerSlashing : (zsOf 74).length = 260 := by kernel_rfl
set_option maxHeartbeats 2000000 in
theorem rootsProposerSlashing_any (ao : Option Addr) (cap : Nat) (css : List (List Value)) (Rs : List (List Nat)) (w : World) (hcap : css.length ≤ cap) (hm : cap ≤ maxLen) (hlen : css.length ≤ 1048576) (hE : Elems 22 260 w ao css Rs) :
    Calls Tryz.prog 64 #[.slice ao css.length cap, .func (.func 22) #[] #[]] w fun e w' => ∃ g, w.heap.size ≤ g ∧ e = .returned (.slice (some ⟨g, 0, none⟩) css.length css.length) ∧ RootsAt w' (some ⟨g, 0, none⟩) Rs ∧ Below w.heap.size w w' := by
  have hm' := hm
  unfold maxLen at hm
  have hX : Rts Rs := hE.rts
  obtain ⟨m, hgm⟩ : ∃ m, css.length = m := ⟨_, rfl⟩
  have hXl : Rs.length = m := hE.len.trans hgm
  rw [hgm] at hcap hlen ⊢
  have HE := hid hE
  have HG := hid hgm
  clear hE hgm
  go_enter Tryz.func64, Tryz.ntmps64
  go_wp2_with ((with_reducible refine at_list' ?_); first
    | (refine wpList_make_roots rfl (.tmp 9) (.tmp 9) 122 rfl 23 Tryz.underlying122 Tryz.rootInfo .i64 .i64 _ _ m rfl rfl rfl rfl (by omega) ?_; intro w3 H3 B3))
  rw [← upTo_zero Rs m] at H3
  go_loopw [6, 7, 13] (fun _ _ i wr => ∃ t : Nat, t ≤ m ∧ i = .int .i64 t ∧ Has wr w.heap.size 23 .u8 (upTo Rs m t).flatten ∧ Below w.heap.size w wr) (fun _ _ i _ => m - (intOf i).toNat)
  case atStart => exact ⟨0, by omega, rfl, H3, B3⟩
  case round =>
    clear H3 B3
    obtain ⟨t, ht, rfl, HN, HW⟩ := hrel
    by_cases hlt : t < m
    · obtain ⟨b, off, rfl, hmem⟩ := HE.out.mem.resolve_left (by have := HG.out; omega)
      obtain ⟨cs, hcs⟩ : ∃ cs, css.getD t [] = cs := ⟨_, rfl⟩
      obtain ⟨R, hR⟩ : ∃ R, Rs.getD t [] = R := ⟨_, rfl⟩
      have hl : cs.length = 260 := by rw [← hcs]; exact HE.out.size t (by rw [HG.out]; exact hlt)
      have h1 : cs.toArray.all (·.oneCell') = true := by rw [← hcs]; exact HE.out.one t (by rw [HG.out]; exact hlt)
      have hrg : wr.rangeAt b (off + t * 260) cs := by rw [← hcs]; exact range_keep (hmem t (by rw [HG.out]; exact hlt)) HW
      have hro : RootOf 22 wr cs R := by rw [← hcs, ← hR]; exact (HE.out.root t (by rw [HG.out]; exact hlt)).keep HW
      have hnx := hid (upTo_next Rs m t hX hXl hlt R hR.symm)
      have hfl := hid (upTo_flat Rs m t hX hXl ht)
      have HRG := hid hrg
      have HRO := hid hro
      have HNW := hid (And.intro HN HW)
      have H1 := hid h1
      have HL := hid hl
      have hws := HW.size
      have hwl := HN.lt
      clear hrg hro HN HW h1 hmem hcs hR hl
      go_wp2_with ((with_reducible refine at_list' ?_); first
        | (refine wpList_run rfl (.agg cs.toArray) (run_mid 74 (.tmp 16) rfl b (off + t * 260) rfl cs HRG.out _ Tryz.underlying74 rfl (by rw [tyProposerSlashing.size, zsProposerSlashing, HL.out])) ?_)
        | (refine wpList_alloc_c tyProposerSlashing rfl 7 rfl rfl ?_; intro w4 H4 B4 S4)
        | (refine wpList_store_c tyProposerSlashing rfl (.tmp 7) (.tmp 17) rfl wr.heap.size cs rfl rfl (by rw [HL.out, zsProposerSlashing]) H1.out _ H4 rfl ?_; intro w5 H5 O5)
        | (refine wpList_load_c tyProposerSlashing rfl (.tmp 7) rfl wr.heap.size cs rfl (by rw [HL.out, zsProposerSlashing]) H5 ?_))
      have B5 : Below wr.heap.size wr w5 := below_only B4 O5 (Nat.le_refl _)
      refine (HRO.out.call w5 B5).mono ?_
      rintro e w6 ⟨rfl, B6⟩
      have B56 := below_more B5 B6 (Nat.le_refl _)
      have HN6 := HNW.out.1.keep B56
      have L6 := hid (HNW.out.2.trans (B56.mono hws))
      have hR2 := HRO.out.rt
      clear H4 B4 S4 H5 O5 B5 B6 B56
      go_wp2_with ((with_reducible refine at_list' ?_); first
        | (refine wpList_store_part rfl 23 (.tmp 23) (.tmp 22) rfl w.heap.size t 23 _ R (by rw [Nat.mul_comm 32 t]; rfl) rfl HN6 hR2.len (by rw [hfl.out]; omega) Tryz.size23 ?_; intro w7 H7 O7))
      rw [hnx.out] at H7
      have X7 := hid (And.intro H7 (below_only L6.out O7 (Nat.le_refl _)))
      clear H7 O7 HN6
      try go_wp2
      go_roundw
      case rel => exact ⟨t + 1, by omega, by go_num, X7.out.1, X7.out.2⟩
      case measure => simp [intOf]; omega
    · have ht2 : t = m := by omega
      subst ht2
      rw [upTo_all _ _ hXl] at HN
      have X := hid (And.intro HN HW)
      clear HN HW
      go_wp2
      go_ret
      exact ⟨w.heap.size, Nat.le_refl _, rfl, HasR.at hX X.out.1, X.out.2⟩
set_option maxHeartbeats 2000000 in
theorem listProposerSlashing_any (ao : Option Addr) (cap n : Nat) (css : List (List Value)) (Rs : List (List Nat)) (w : World) (hT : Tabs w) (hn : n ≤ 1048576) (hcap : css.length ≤ cap) (hm : cap ≤ maxLen) (hlen : css.length ≤ 1048576) (hE : Elems 22 260 w ao css Rs) :
    Calls Tryz.prog 21 #[.slice ao css.length cap, .int .i64 (n : Nat), .func (.func 22) #[] #[]] w fun e w' => e = .returned (.agg (nums .u8 (listOf n Rs))) ∧ Below w.heap.size w w' := by
  have hX : Rts Rs := hE.rts
  obtain ⟨T, HTT⟩ : ∃ T, Same (treeZ n Rs) T := ⟨_, ⟨rfl⟩⟩
  have hTr := treeZ_rt n Rs hX
  rw [HTT.out] at hTr
  have hpr := pr_rt T (wUp Rs.length 8)
  obtain ⟨Z, HZ⟩ : ∃ Z, Same (pr T (wUp Rs.length 8)) Z := ⟨_, ⟨rfl⟩⟩
  rw [show listOf n Rs = pr (treeZ n Rs) (wUp Rs.length 8) from rfl, HTT.out, HZ.out]
  have HMX := hid (fun w (hT : Tabs w) => mix_any' T Rs.length hTr (by rw [hE.len]; omega) w hT)
  rw [HZ.out] at hpr HMX
  have HTz := hid (fun ao cap w1 (hT : Tabs w1) (h1 : Rs.length ≤ cap) (h2 : cap ≤ maxLen) (h3 : RootsAt w1 ao Rs) => treZ_any ao cap Rs n w1 hT h1 h2 (by rw [hE.len]; exact hlen) hn h3)
  rw [HTT.out] at HTz
  have HP := hid (fun w1 (hb : Below w.heap.size w w1) => rootsProposerSlashing_any ao cap css Rs w1 hcap hm hlen (hE.keep hb))
  have hRl := hE.len
  rw [hRl] at HMX HTz
  have HT := hid hT
  have HRL := hid hRl
  clear hE hT hRl
  unfold maxLen at hm
  go_enter Tryz.func21, Tryz.ntmps21
  go_wp2_with ((with_reducible refine at_list' ?_); first
    | (refine wpList_alloc_has rfl 6 rfl 23 rfl .u8 32 Tryz.zero23 ?_; intro w1 H1 B1 S1))
  refine (HP.out w1 B1).mono ?_
  rintro e w3 ⟨g, hg, rfl, k3, B3⟩
  have L3 := hid (below_more B1 B3 (Nat.le_refl _))
  have H3 := H1.keep B3
  have HT3 := hid (HTz.out (some ⟨g, 0, none⟩) css.length w3 (HT.out.keep L3.out) (Nat.le_refl _) (by unfold maxLen; omega) k3)
  clear HP k3 hg H1 B1 S1 B3 HTz
  go_wp2_with fail
  refine HT3.out.mono ?_
  rintro e w4 ⟨rfl, B4⟩
  have L4 := hid (below_more L3.out B4 (Nat.le_refl _))
  have H4 := H3.keep B4
  clear HT3 L3 H3 B4
  go_wp2_with fail
  refine (HMX.out w4 (HT.out.keep L4.out)).mono ?_
  rintro e w5 ⟨rfl, B5⟩
  have L5 := hid (below_more L4.out B5 (Nat.le_refl _))
  have H5 := H4.keep B5
  clear L4 H4 B5 HMX
  go_wp2_with ((with_reducible refine at_list' ?_); first
    | (refine wpList_store_has rfl 23 (.tmp 6) (.tmp 15) rfl w.heap.size .u8 Z (zeros 32) rfl rfl 23 H5 (hpr.size _ Tryz.size23) (by rw [hpr.len, zeros_length]) ?_; intro w6 H6 O6))
  refine bodyPost_ret (results_has rfl _ _ w.heap.size 23 .u8 Z _ _ rfl H6 Tryz.und23 (hpr.size _ Tryz.size23)) rfl ?_
  exact ⟨rfl, below_only L5.out O6 (Nat.le_refl _)⟩
end Go.Proofs.YtbmcmabimfoknaaGreatDoor

/- The roots of a list of AttesterSlashing, and the list's root, by the program. -/
namespace Go.Proofs.YtbmcmabimfoknaaGreatDoor
open Go.RowKit Go.Shelf
set_option linter.unusedVariables false
set_option maxRecDepth 100000

theorem tyAttesterSlashing : Ty Tryz.prog 65 (zsOf 65) := ⟨by kernel_rfl, _, Tryz.underlying65, rfl⟩
theorem zsAttesterSlashing : (zsOf 65).length = 266 := by kernel_rfl
set_option maxHeartbeats 2000000 in
theorem rootsAttesterSlashing_any (ao : Option Addr) (cap : Nat) (css : List (List Value)) (Rs : List (List Nat)) (w : World) (hcap : css.length ≤ cap) (hm : cap ≤ maxLen) (hlen : css.length ≤ 1048576) (hE : Elems 24 266 w ao css Rs) :
    Calls Tryz.prog 66 #[.slice ao css.length cap, .func (.func 24) #[] #[]] w fun e w' => ∃ g, w.heap.size ≤ g ∧ e = .returned (.slice (some ⟨g, 0, none⟩) css.length css.length) ∧ RootsAt w' (some ⟨g, 0, none⟩) Rs ∧ Below w.heap.size w w' := by
  have hm' := hm
  unfold maxLen at hm
  have hX : Rts Rs := hE.rts
  obtain ⟨m, hgm⟩ : ∃ m, css.length = m := ⟨_, rfl⟩
  have hXl : Rs.length = m := hE.len.trans hgm
  rw [hgm] at hcap hlen ⊢
  have HE := hid hE
  have HG := hid hgm
  clear hE hgm
  go_enter Tryz.func66, Tryz.ntmps66
  go_wp2_with ((with_reducible refine at_list' ?_); first
    | (refine wpList_make_roots rfl (.tmp 9) (.tmp 9) 122 rfl 23 Tryz.underlying122 Tryz.rootInfo .i64 .i64 _ _ m rfl rfl rfl rfl (by omega) ?_; intro w3 H3 B3))
  rw [← upTo_zero Rs m] at H3
  go_loopw [6, 7, 13] (fun _ _ i wr => ∃ t : Nat, t ≤ m ∧ i = .int .i64 t ∧ Has wr w.heap.size 23 .u8 (upTo Rs m t).flatten ∧ Below w.heap.size w wr) (fun _ _ i _ => m - (intOf i).toNat)
  case atStart => exact ⟨0, by omega, rfl, H3, B3⟩
  case round =>
    clear H3 B3
    obtain ⟨t, ht, rfl, HN, HW⟩ := hrel
    by_cases hlt : t < m
    · obtain ⟨b, off, rfl, hmem⟩ := HE.out.mem.resolve_left (by have := HG.out; omega)
      obtain ⟨cs, hcs⟩ : ∃ cs, css.getD t [] = cs := ⟨_, rfl⟩
      obtain ⟨R, hR⟩ : ∃ R, Rs.getD t [] = R := ⟨_, rfl⟩
      have hl : cs.length = 266 := by rw [← hcs]; exact HE.out.size t (by rw [HG.out]; exact hlt)
      have h1 : cs.toArray.all (·.oneCell') = true := by rw [← hcs]; exact HE.out.one t (by rw [HG.out]; exact hlt)
      have hrg : wr.rangeAt b (off + t * 266) cs := by rw [← hcs]; exact range_keep (hmem t (by rw [HG.out]; exact hlt)) HW
      have hro : RootOf 24 wr cs R := by rw [← hcs, ← hR]; exact (HE.out.root t (by rw [HG.out]; exact hlt)).keep HW
      have hnx := hid (upTo_next Rs m t hX hXl hlt R hR.symm)
      have hfl := hid (upTo_flat Rs m t hX hXl ht)
      have HRG := hid hrg
      have HRO := hid hro
      have HNW := hid (And.intro HN HW)
      have H1 := hid h1
      have HL := hid hl
      have hws := HW.size
      have hwl := HN.lt
      clear hrg hro HN HW h1 hmem hcs hR hl
      go_wp2_with ((with_reducible refine at_list' ?_); first
        | (refine wpList_run rfl (.agg cs.toArray) (run_mid 65 (.tmp 16) rfl b (off + t * 266) rfl cs HRG.out _ Tryz.underlying65 rfl (by rw [tyAttesterSlashing.size, zsAttesterSlashing, HL.out])) ?_)
        | (refine wpList_alloc_c tyAttesterSlashing rfl 7 rfl rfl ?_; intro w4 H4 B4 S4)
        | (refine wpList_store_c tyAttesterSlashing rfl (.tmp 7) (.tmp 17) rfl wr.heap.size cs rfl rfl (by rw [HL.out, zsAttesterSlashing]) H1.out _ H4 rfl ?_; intro w5 H5 O5)
        | (refine wpList_load_c tyAttesterSlashing rfl (.tmp 7) rfl wr.heap.size cs rfl (by rw [HL.out, zsAttesterSlashing]) H5 ?_))
      have B5 : Below wr.heap.size wr w5 := below_only B4 O5 (Nat.le_refl _)
      refine (HRO.out.call w5 B5).mono ?_
      rintro e w6 ⟨rfl, B6⟩
      have B56 := below_more B5 B6 (Nat.le_refl _)
      have HN6 := HNW.out.1.keep B56
      have L6 := hid (HNW.out.2.trans (B56.mono hws))
      have hR2 := HRO.out.rt
      clear H4 B4 S4 H5 O5 B5 B6 B56
      go_wp2_with ((with_reducible refine at_list' ?_); first
        | (refine wpList_store_part rfl 23 (.tmp 23) (.tmp 22) rfl w.heap.size t 23 _ R (by rw [Nat.mul_comm 32 t]; rfl) rfl HN6 hR2.len (by rw [hfl.out]; omega) Tryz.size23 ?_; intro w7 H7 O7))
      rw [hnx.out] at H7
      have X7 := hid (And.intro H7 (below_only L6.out O7 (Nat.le_refl _)))
      clear H7 O7 HN6
      try go_wp2
      go_roundw
      case rel => exact ⟨t + 1, by omega, by go_num, X7.out.1, X7.out.2⟩
      case measure => simp [intOf]; omega
    · have ht2 : t = m := by omega
      subst ht2
      rw [upTo_all _ _ hXl] at HN
      have X := hid (And.intro HN HW)
      clear HN HW
      go_wp2
      go_ret
      exact ⟨w.heap.size, Nat.le_refl _, rfl, HasR.at hX X.out.1, X.out.2⟩
set_option maxHeartbeats 2000000 in
theorem listAttesterSlashing_any (ao : Option Addr) (cap n : Nat) (css : List (List Value)) (Rs : List (List Nat)) (w : World) (hT : Tabs w) (hn : n ≤ 1048576) (hcap : css.length ≤ cap) (hm : cap ≤ maxLen) (hlen : css.length ≤ 1048576) (hE : Elems 24 266 w ao css Rs) :
    Calls Tryz.prog 23 #[.slice ao css.length cap, .int .i64 (n : Nat), .func (.func 24) #[] #[]] w fun e w' => e = .returned (.agg (nums .u8 (listOf n Rs))) ∧ Below w.heap.size w w' := by
  have hX : Rts Rs := hE.rts
  obtain ⟨T, HTT⟩ : ∃ T, Same (treeZ n Rs) T := ⟨_, ⟨rfl⟩⟩
  have hTr := treeZ_rt n Rs hX
  rw [HTT.out] at hTr
  have hpr := pr_rt T (wUp Rs.length 8)
  obtain ⟨Z, HZ⟩ : ∃ Z, Same (pr T (wUp Rs.length 8)) Z := ⟨_, ⟨rfl⟩⟩
  rw [show listOf n Rs = pr (treeZ n Rs) (wUp Rs.length 8) from rfl, HTT.out, HZ.out]
  have HMX := hid (fun w (hT : Tabs w) => mix_any' T Rs.length hTr (by rw [hE.len]; omega) w hT)
  rw [HZ.out] at hpr HMX
  have HTz := hid (fun ao cap w1 (hT : Tabs w1) (h1 : Rs.length ≤ cap) (h2 : cap ≤ maxLen) (h3 : RootsAt w1 ao Rs) => treZ_any ao cap Rs n w1 hT h1 h2 (by rw [hE.len]; exact hlen) hn h3)
  rw [HTT.out] at HTz
  have HP := hid (fun w1 (hb : Below w.heap.size w w1) => rootsAttesterSlashing_any ao cap css Rs w1 hcap hm hlen (hE.keep hb))
  have hRl := hE.len
  rw [hRl] at HMX HTz
  have HT := hid hT
  have HRL := hid hRl
  clear hE hT hRl
  unfold maxLen at hm
  go_enter Tryz.func23, Tryz.ntmps23
  go_wp2_with ((with_reducible refine at_list' ?_); first
    | (refine wpList_alloc_has rfl 6 rfl 23 rfl .u8 32 Tryz.zero23 ?_; intro w1 H1 B1 S1))
  refine (HP.out w1 B1).mono ?_
  rintro e w3 ⟨g, hg, rfl, k3, B3⟩
  have L3 := hid (below_more B1 B3 (Nat.le_refl _))
  have H3 := H1.keep B3
  have HT3 := hid (HTz.out (some ⟨g, 0, none⟩) css.length w3 (HT.out.keep L3.out) (Nat.le_refl _) (by unfold maxLen; omega) k3)
  clear HP k3 hg H1 B1 S1 B3 HTz
  go_wp2_with fail
  refine HT3.out.mono ?_
  rintro e w4 ⟨rfl, B4⟩
  have L4 := hid (below_more L3.out B4 (Nat.le_refl _))
  have H4 := H3.keep B4
  clear HT3 L3 H3 B4
  go_wp2_with fail
  refine (HMX.out w4 (HT.out.keep L4.out)).mono ?_
  rintro e w5 ⟨rfl, B5⟩
  have L5 := hid (below_more L4.out B5 (Nat.le_refl _))
  have H5 := H4.keep B5
  clear L4 H4 B5 HMX
  go_wp2_with ((with_reducible refine at_list' ?_); first
    | (refine wpList_store_has rfl 23 (.tmp 6) (.tmp 15) rfl w.heap.size .u8 Z (zeros 32) rfl rfl 23 H5 (hpr.size _ Tryz.size23) (by rw [hpr.len, zeros_length]) ?_; intro w6 H6 O6))
  refine bodyPost_ret (results_has rfl _ _ w.heap.size 23 .u8 Z _ _ rfl H6 Tryz.und23 (hpr.size _ Tryz.size23)) rfl ?_
  exact ⟨rfl, below_only L5.out O6 (Nat.le_refl _)⟩
end Go.Proofs.YtbmcmabimfoknaaGreatDoor

/- The roots of a list of Attestation, and the list's root, by the program. -/
namespace Go.Proofs.YtbmcmabimfoknaaGreatDoor
open Go.RowKit Go.Shelf
set_option linter.unusedVariables false
set_option maxRecDepth 100000

theorem tyAttestation : Ty Tryz.prog 67 (zsOf 67) := ⟨by kernel_rfl, _, Tryz.underlying67, rfl⟩
theorem zsAttestation : (zsOf 67).length = 133 := by kernel_rfl
set_option maxHeartbeats 2000000 in
theorem rootsAttestation_any (ao : Option Addr) (cap : Nat) (css : List (List Value)) (Rs : List (List Nat)) (w : World) (hcap : css.length ≤ cap) (hm : cap ≤ maxLen) (hlen : css.length ≤ 1048576) (hE : Elems 26 133 w ao css Rs) :
    Calls Tryz.prog 68 #[.slice ao css.length cap, .func (.func 26) #[] #[]] w fun e w' => ∃ g, w.heap.size ≤ g ∧ e = .returned (.slice (some ⟨g, 0, none⟩) css.length css.length) ∧ RootsAt w' (some ⟨g, 0, none⟩) Rs ∧ Below w.heap.size w w' := by
  have hm' := hm
  unfold maxLen at hm
  have hX : Rts Rs := hE.rts
  obtain ⟨m, hgm⟩ : ∃ m, css.length = m := ⟨_, rfl⟩
  have hXl : Rs.length = m := hE.len.trans hgm
  rw [hgm] at hcap hlen ⊢
  have HE := hid hE
  have HG := hid hgm
  clear hE hgm
  go_enter Tryz.func68, Tryz.ntmps68
  go_wp2_with ((with_reducible refine at_list' ?_); first
    | (refine wpList_make_roots rfl (.tmp 9) (.tmp 9) 122 rfl 23 Tryz.underlying122 Tryz.rootInfo .i64 .i64 _ _ m rfl rfl rfl rfl (by omega) ?_; intro w3 H3 B3))
  rw [← upTo_zero Rs m] at H3
  go_loopw [6, 7, 13] (fun _ _ i wr => ∃ t : Nat, t ≤ m ∧ i = .int .i64 t ∧ Has wr w.heap.size 23 .u8 (upTo Rs m t).flatten ∧ Below w.heap.size w wr) (fun _ _ i _ => m - (intOf i).toNat)
  case atStart => exact ⟨0, by omega, rfl, H3, B3⟩
  case round =>
    clear H3 B3
    obtain ⟨t, ht, rfl, HN, HW⟩ := hrel
    by_cases hlt : t < m
    · obtain ⟨b, off, rfl, hmem⟩ := HE.out.mem.resolve_left (by have := HG.out; omega)
      obtain ⟨cs, hcs⟩ : ∃ cs, css.getD t [] = cs := ⟨_, rfl⟩
      obtain ⟨R, hR⟩ : ∃ R, Rs.getD t [] = R := ⟨_, rfl⟩
      have hl : cs.length = 133 := by rw [← hcs]; exact HE.out.size t (by rw [HG.out]; exact hlt)
      have h1 : cs.toArray.all (·.oneCell') = true := by rw [← hcs]; exact HE.out.one t (by rw [HG.out]; exact hlt)
      have hrg : wr.rangeAt b (off + t * 133) cs := by rw [← hcs]; exact range_keep (hmem t (by rw [HG.out]; exact hlt)) HW
      have hro : RootOf 26 wr cs R := by rw [← hcs, ← hR]; exact (HE.out.root t (by rw [HG.out]; exact hlt)).keep HW
      have hnx := hid (upTo_next Rs m t hX hXl hlt R hR.symm)
      have hfl := hid (upTo_flat Rs m t hX hXl ht)
      have HRG := hid hrg
      have HRO := hid hro
      have HNW := hid (And.intro HN HW)
      have H1 := hid h1
      have HL := hid hl
      have hws := HW.size
      have hwl := HN.lt
      clear hrg hro HN HW h1 hmem hcs hR hl
      go_wp2_with ((with_reducible refine at_list' ?_); first
        | (refine wpList_run rfl (.agg cs.toArray) (run_mid 67 (.tmp 16) rfl b (off + t * 133) rfl cs HRG.out _ Tryz.underlying67 rfl (by rw [tyAttestation.size, zsAttestation, HL.out])) ?_)
        | (refine wpList_alloc_c tyAttestation rfl 7 rfl rfl ?_; intro w4 H4 B4 S4)
        | (refine wpList_store_c tyAttestation rfl (.tmp 7) (.tmp 17) rfl wr.heap.size cs rfl rfl (by rw [HL.out, zsAttestation]) H1.out _ H4 rfl ?_; intro w5 H5 O5)
        | (refine wpList_load_c tyAttestation rfl (.tmp 7) rfl wr.heap.size cs rfl (by rw [HL.out, zsAttestation]) H5 ?_))
      have B5 : Below wr.heap.size wr w5 := below_only B4 O5 (Nat.le_refl _)
      refine (HRO.out.call w5 B5).mono ?_
      rintro e w6 ⟨rfl, B6⟩
      have B56 := below_more B5 B6 (Nat.le_refl _)
      have HN6 := HNW.out.1.keep B56
      have L6 := hid (HNW.out.2.trans (B56.mono hws))
      have hR2 := HRO.out.rt
      clear H4 B4 S4 H5 O5 B5 B6 B56
      go_wp2_with ((with_reducible refine at_list' ?_); first
        | (refine wpList_store_part rfl 23 (.tmp 23) (.tmp 22) rfl w.heap.size t 23 _ R (by rw [Nat.mul_comm 32 t]; rfl) rfl HN6 hR2.len (by rw [hfl.out]; omega) Tryz.size23 ?_; intro w7 H7 O7))
      rw [hnx.out] at H7
      have X7 := hid (And.intro H7 (below_only L6.out O7 (Nat.le_refl _)))
      clear H7 O7 HN6
      try go_wp2
      go_roundw
      case rel => exact ⟨t + 1, by omega, by go_num, X7.out.1, X7.out.2⟩
      case measure => simp [intOf]; omega
    · have ht2 : t = m := by omega
      subst ht2
      rw [upTo_all _ _ hXl] at HN
      have X := hid (And.intro HN HW)
      clear HN HW
      go_wp2
      go_ret
      exact ⟨w.heap.size, Nat.le_refl _, rfl, HasR.at hX X.out.1, X.out.2⟩
set_option maxHeartbeats 2000000 in
theorem listAttestation_any (ao : Option Addr) (cap n : Nat) (css : List (List Value)) (Rs : List (List Nat)) (w : World) (hT : Tabs w) (hn : n ≤ 1048576) (hcap : css.length ≤ cap) (hm : cap ≤ maxLen) (hlen : css.length ≤ 1048576) (hE : Elems 26 133 w ao css Rs) :
    Calls Tryz.prog 25 #[.slice ao css.length cap, .int .i64 (n : Nat), .func (.func 26) #[] #[]] w fun e w' => e = .returned (.agg (nums .u8 (listOf n Rs))) ∧ Below w.heap.size w w' := by
  have hX : Rts Rs := hE.rts
  obtain ⟨T, HTT⟩ : ∃ T, Same (treeZ n Rs) T := ⟨_, ⟨rfl⟩⟩
  have hTr := treeZ_rt n Rs hX
  rw [HTT.out] at hTr
  have hpr := pr_rt T (wUp Rs.length 8)
  obtain ⟨Z, HZ⟩ : ∃ Z, Same (pr T (wUp Rs.length 8)) Z := ⟨_, ⟨rfl⟩⟩
  rw [show listOf n Rs = pr (treeZ n Rs) (wUp Rs.length 8) from rfl, HTT.out, HZ.out]
  have HMX := hid (fun w (hT : Tabs w) => mix_any' T Rs.length hTr (by rw [hE.len]; omega) w hT)
  rw [HZ.out] at hpr HMX
  have HTz := hid (fun ao cap w1 (hT : Tabs w1) (h1 : Rs.length ≤ cap) (h2 : cap ≤ maxLen) (h3 : RootsAt w1 ao Rs) => treZ_any ao cap Rs n w1 hT h1 h2 (by rw [hE.len]; exact hlen) hn h3)
  rw [HTT.out] at HTz
  have HP := hid (fun w1 (hb : Below w.heap.size w w1) => rootsAttestation_any ao cap css Rs w1 hcap hm hlen (hE.keep hb))
  have hRl := hE.len
  rw [hRl] at HMX HTz
  have HT := hid hT
  have HRL := hid hRl
  clear hE hT hRl
  unfold maxLen at hm
  go_enter Tryz.func25, Tryz.ntmps25
  go_wp2_with ((with_reducible refine at_list' ?_); first
    | (refine wpList_alloc_has rfl 6 rfl 23 rfl .u8 32 Tryz.zero23 ?_; intro w1 H1 B1 S1))
  refine (HP.out w1 B1).mono ?_
  rintro e w3 ⟨g, hg, rfl, k3, B3⟩
  have L3 := hid (below_more B1 B3 (Nat.le_refl _))
  have H3 := H1.keep B3
  have HT3 := hid (HTz.out (some ⟨g, 0, none⟩) css.length w3 (HT.out.keep L3.out) (Nat.le_refl _) (by unfold maxLen; omega) k3)
  clear HP k3 hg H1 B1 S1 B3 HTz
  go_wp2_with fail
  refine HT3.out.mono ?_
  rintro e w4 ⟨rfl, B4⟩
  have L4 := hid (below_more L3.out B4 (Nat.le_refl _))
  have H4 := H3.keep B4
  clear HT3 L3 H3 B4
  go_wp2_with fail
  refine (HMX.out w4 (HT.out.keep L4.out)).mono ?_
  rintro e w5 ⟨rfl, B5⟩
  have L5 := hid (below_more L4.out B5 (Nat.le_refl _))
  have H5 := H4.keep B5
  clear L4 H4 B5 HMX
  go_wp2_with ((with_reducible refine at_list' ?_); first
    | (refine wpList_store_has rfl 23 (.tmp 6) (.tmp 15) rfl w.heap.size .u8 Z (zeros 32) rfl rfl 23 H5 (hpr.size _ Tryz.size23) (by rw [hpr.len, zeros_length]) ?_; intro w6 H6 O6))
  refine bodyPost_ret (results_has rfl _ _ w.heap.size 23 .u8 Z _ _ rfl H6 Tryz.und23 (hpr.size _ Tryz.size23)) rfl ?_
  exact ⟨rfl, below_only L5.out O6 (Nat.le_refl _)⟩
end Go.Proofs.YtbmcmabimfoknaaGreatDoor

/- The roots of a list of Deposit, and the list's root, by the program. -/
namespace Go.Proofs.YtbmcmabimfoknaaGreatDoor
open Go.RowKit Go.Shelf
set_option linter.unusedVariables false
set_option maxRecDepth 100000

theorem tyDeposit : Ty Tryz.prog 85 (zsOf 85) := ⟨by kernel_rfl, _, Tryz.underlying85, rfl⟩
theorem zsDeposit : (zsOf 85).length = 289 := by kernel_rfl
set_option maxHeartbeats 2000000 in
theorem rootsDeposit_any (ao : Option Addr) (cap : Nat) (css : List (List Value)) (Rs : List (List Nat)) (w : World) (hcap : css.length ≤ cap) (hm : cap ≤ maxLen) (hlen : css.length ≤ 1048576) (hE : Elems 28 289 w ao css Rs) :
    Calls Tryz.prog 71 #[.slice ao css.length cap, .func (.func 28) #[] #[]] w fun e w' => ∃ g, w.heap.size ≤ g ∧ e = .returned (.slice (some ⟨g, 0, none⟩) css.length css.length) ∧ RootsAt w' (some ⟨g, 0, none⟩) Rs ∧ Below w.heap.size w w' := by
  have hm' := hm
  unfold maxLen at hm
  have hX : Rts Rs := hE.rts
  obtain ⟨m, hgm⟩ : ∃ m, css.length = m := ⟨_, rfl⟩
  have hXl : Rs.length = m := hE.len.trans hgm
  rw [hgm] at hcap hlen ⊢
  have HE := hid hE
  have HG := hid hgm
  clear hE hgm
  go_enter Tryz.func71, Tryz.ntmps71
  go_wp2_with ((with_reducible refine at_list' ?_); first
    | (refine wpList_make_roots rfl (.tmp 9) (.tmp 9) 122 rfl 23 Tryz.underlying122 Tryz.rootInfo .i64 .i64 _ _ m rfl rfl rfl rfl (by omega) ?_; intro w3 H3 B3))
  rw [← upTo_zero Rs m] at H3
  go_loopw [6, 7, 13] (fun _ _ i wr => ∃ t : Nat, t ≤ m ∧ i = .int .i64 t ∧ Has wr w.heap.size 23 .u8 (upTo Rs m t).flatten ∧ Below w.heap.size w wr) (fun _ _ i _ => m - (intOf i).toNat)
  case atStart => exact ⟨0, by omega, rfl, H3, B3⟩
  case round =>
    clear H3 B3
    obtain ⟨t, ht, rfl, HN, HW⟩ := hrel
    by_cases hlt : t < m
    · obtain ⟨b, off, rfl, hmem⟩ := HE.out.mem.resolve_left (by have := HG.out; omega)
      obtain ⟨cs, hcs⟩ : ∃ cs, css.getD t [] = cs := ⟨_, rfl⟩
      obtain ⟨R, hR⟩ : ∃ R, Rs.getD t [] = R := ⟨_, rfl⟩
      have hl : cs.length = 289 := by rw [← hcs]; exact HE.out.size t (by rw [HG.out]; exact hlt)
      have h1 : cs.toArray.all (·.oneCell') = true := by rw [← hcs]; exact HE.out.one t (by rw [HG.out]; exact hlt)
      have hrg : wr.rangeAt b (off + t * 289) cs := by rw [← hcs]; exact range_keep (hmem t (by rw [HG.out]; exact hlt)) HW
      have hro : RootOf 28 wr cs R := by rw [← hcs, ← hR]; exact (HE.out.root t (by rw [HG.out]; exact hlt)).keep HW
      have hnx := hid (upTo_next Rs m t hX hXl hlt R hR.symm)
      have hfl := hid (upTo_flat Rs m t hX hXl ht)
      have HRG := hid hrg
      have HRO := hid hro
      have HNW := hid (And.intro HN HW)
      have H1 := hid h1
      have HL := hid hl
      have hws := HW.size
      have hwl := HN.lt
      clear hrg hro HN HW h1 hmem hcs hR hl
      go_wp2_with ((with_reducible refine at_list' ?_); first
        | (refine wpList_run rfl (.agg cs.toArray) (run_mid 85 (.tmp 16) rfl b (off + t * 289) rfl cs HRG.out _ Tryz.underlying85 rfl (by rw [tyDeposit.size, zsDeposit, HL.out])) ?_)
        | (refine wpList_alloc_c tyDeposit rfl 7 rfl rfl ?_; intro w4 H4 B4 S4)
        | (refine wpList_store_c tyDeposit rfl (.tmp 7) (.tmp 17) rfl wr.heap.size cs rfl rfl (by rw [HL.out, zsDeposit]) H1.out _ H4 rfl ?_; intro w5 H5 O5)
        | (refine wpList_load_c tyDeposit rfl (.tmp 7) rfl wr.heap.size cs rfl (by rw [HL.out, zsDeposit]) H5 ?_))
      have B5 : Below wr.heap.size wr w5 := below_only B4 O5 (Nat.le_refl _)
      refine (HRO.out.call w5 B5).mono ?_
      rintro e w6 ⟨rfl, B6⟩
      have B56 := below_more B5 B6 (Nat.le_refl _)
      have HN6 := HNW.out.1.keep B56
      have L6 := hid (HNW.out.2.trans (B56.mono hws))
      have hR2 := HRO.out.rt
      clear H4 B4 S4 H5 O5 B5 B6 B56
      go_wp2_with ((with_reducible refine at_list' ?_); first
        | (refine wpList_store_part rfl 23 (.tmp 23) (.tmp 22) rfl w.heap.size t 23 _ R (by rw [Nat.mul_comm 32 t]; rfl) rfl HN6 hR2.len (by rw [hfl.out]; omega) Tryz.size23 ?_; intro w7 H7 O7))
      rw [hnx.out] at H7
      have X7 := hid (And.intro H7 (below_only L6.out O7 (Nat.le_refl _)))
      clear H7 O7 HN6
      try go_wp2
      go_roundw
      case rel => exact ⟨t + 1, by omega, by go_num, X7.out.1, X7.out.2⟩
      case measure => simp [intOf]; omega
    · have ht2 : t = m := by omega
      subst ht2
      rw [upTo_all _ _ hXl] at HN
      have X := hid (And.intro HN HW)
      clear HN HW
      go_wp2
      go_ret
      exact ⟨w.heap.size, Nat.le_refl _, rfl, HasR.at hX X.out.1, X.out.2⟩
set_option maxHeartbeats 2000000 in
theorem listDeposit_any (ao : Option Addr) (cap n : Nat) (css : List (List Value)) (Rs : List (List Nat)) (w : World) (hT : Tabs w) (hn : n ≤ 1048576) (hcap : css.length ≤ cap) (hm : cap ≤ maxLen) (hlen : css.length ≤ 1048576) (hE : Elems 28 289 w ao css Rs) :
    Calls Tryz.prog 27 #[.slice ao css.length cap, .int .i64 (n : Nat), .func (.func 28) #[] #[]] w fun e w' => e = .returned (.agg (nums .u8 (listOf n Rs))) ∧ Below w.heap.size w w' := by
  have hX : Rts Rs := hE.rts
  obtain ⟨T, HTT⟩ : ∃ T, Same (treeZ n Rs) T := ⟨_, ⟨rfl⟩⟩
  have hTr := treeZ_rt n Rs hX
  rw [HTT.out] at hTr
  have hpr := pr_rt T (wUp Rs.length 8)
  obtain ⟨Z, HZ⟩ : ∃ Z, Same (pr T (wUp Rs.length 8)) Z := ⟨_, ⟨rfl⟩⟩
  rw [show listOf n Rs = pr (treeZ n Rs) (wUp Rs.length 8) from rfl, HTT.out, HZ.out]
  have HMX := hid (fun w (hT : Tabs w) => mix_any' T Rs.length hTr (by rw [hE.len]; omega) w hT)
  rw [HZ.out] at hpr HMX
  have HTz := hid (fun ao cap w1 (hT : Tabs w1) (h1 : Rs.length ≤ cap) (h2 : cap ≤ maxLen) (h3 : RootsAt w1 ao Rs) => treZ_any ao cap Rs n w1 hT h1 h2 (by rw [hE.len]; exact hlen) hn h3)
  rw [HTT.out] at HTz
  have HP := hid (fun w1 (hb : Below w.heap.size w w1) => rootsDeposit_any ao cap css Rs w1 hcap hm hlen (hE.keep hb))
  have hRl := hE.len
  rw [hRl] at HMX HTz
  have HT := hid hT
  have HRL := hid hRl
  clear hE hT hRl
  unfold maxLen at hm
  go_enter Tryz.func27, Tryz.ntmps27
  go_wp2_with ((with_reducible refine at_list' ?_); first
    | (refine wpList_alloc_has rfl 6 rfl 23 rfl .u8 32 Tryz.zero23 ?_; intro w1 H1 B1 S1))
  refine (HP.out w1 B1).mono ?_
  rintro e w3 ⟨g, hg, rfl, k3, B3⟩
  have L3 := hid (below_more B1 B3 (Nat.le_refl _))
  have H3 := H1.keep B3
  have HT3 := hid (HTz.out (some ⟨g, 0, none⟩) css.length w3 (HT.out.keep L3.out) (Nat.le_refl _) (by unfold maxLen; omega) k3)
  clear HP k3 hg H1 B1 S1 B3 HTz
  go_wp2_with fail
  refine HT3.out.mono ?_
  rintro e w4 ⟨rfl, B4⟩
  have L4 := hid (below_more L3.out B4 (Nat.le_refl _))
  have H4 := H3.keep B4
  clear HT3 L3 H3 B4
  go_wp2_with fail
  refine (HMX.out w4 (HT.out.keep L4.out)).mono ?_
  rintro e w5 ⟨rfl, B5⟩
  have L5 := hid (below_more L4.out B5 (Nat.le_refl _))
  have H5 := H4.keep B5
  clear L4 H4 B5 HMX
  go_wp2_with ((with_reducible refine at_list' ?_); first
    | (refine wpList_store_has rfl 23 (.tmp 6) (.tmp 15) rfl w.heap.size .u8 Z (zeros 32) rfl rfl 23 H5 (hpr.size _ Tryz.size23) (by rw [hpr.len, zeros_length]) ?_; intro w6 H6 O6))
  refine bodyPost_ret (results_has rfl _ _ w.heap.size 23 .u8 Z _ _ rfl H6 Tryz.und23 (hpr.size _ Tryz.size23)) rfl ?_
  exact ⟨rfl, below_only L5.out O6 (Nat.le_refl _)⟩
end Go.Proofs.YtbmcmabimfoknaaGreatDoor

/- The roots of a list of SignedExit, and the list's root, by the program. -/
namespace Go.Proofs.YtbmcmabimfoknaaGreatDoor
open Go.RowKit Go.Shelf
set_option linter.unusedVariables false
set_option maxRecDepth 100000

theorem tySignedExit : Ty Tryz.prog 91 (zsOf 91) := ⟨by kernel_rfl, _, Tryz.underlying91, rfl⟩
theorem zsSignedExit : (zsOf 91).length = 34 := by kernel_rfl
set_option maxHeartbeats 2000000 in
theorem rootsSignedExit_any (ao : Option Addr) (cap : Nat) (css : List (List Value)) (Rs : List (List Nat)) (w : World) (hcap : css.length ≤ cap) (hm : cap ≤ maxLen) (hlen : css.length ≤ 1048576) (hE : Elems 30 34 w ao css Rs) :
    Calls Tryz.prog 73 #[.slice ao css.length cap, .func (.func 30) #[] #[]] w fun e w' => ∃ g, w.heap.size ≤ g ∧ e = .returned (.slice (some ⟨g, 0, none⟩) css.length css.length) ∧ RootsAt w' (some ⟨g, 0, none⟩) Rs ∧ Below w.heap.size w w' := by
  have hm' := hm
  unfold maxLen at hm
  have hX : Rts Rs := hE.rts
  obtain ⟨m, hgm⟩ : ∃ m, css.length = m := ⟨_, rfl⟩
  have hXl : Rs.length = m := hE.len.trans hgm
  rw [hgm] at hcap hlen ⊢
  have HE := hid hE
  have HG := hid hgm
  clear hE hgm
  go_enter Tryz.func73, Tryz.ntmps73
  go_wp2_with ((with_reducible refine at_list' ?_); first
    | (refine wpList_make_roots rfl (.tmp 9) (.tmp 9) 122 rfl 23 Tryz.underlying122 Tryz.rootInfo .i64 .i64 _ _ m rfl rfl rfl rfl (by omega) ?_; intro w3 H3 B3))
  rw [← upTo_zero Rs m] at H3
  go_loopw [6, 7, 13] (fun _ _ i wr => ∃ t : Nat, t ≤ m ∧ i = .int .i64 t ∧ Has wr w.heap.size 23 .u8 (upTo Rs m t).flatten ∧ Below w.heap.size w wr) (fun _ _ i _ => m - (intOf i).toNat)
  case atStart => exact ⟨0, by omega, rfl, H3, B3⟩
  case round =>
    clear H3 B3
    obtain ⟨t, ht, rfl, HN, HW⟩ := hrel
    by_cases hlt : t < m
    · obtain ⟨b, off, rfl, hmem⟩ := HE.out.mem.resolve_left (by have := HG.out; omega)
      obtain ⟨cs, hcs⟩ : ∃ cs, css.getD t [] = cs := ⟨_, rfl⟩
      obtain ⟨R, hR⟩ : ∃ R, Rs.getD t [] = R := ⟨_, rfl⟩
      have hl : cs.length = 34 := by rw [← hcs]; exact HE.out.size t (by rw [HG.out]; exact hlt)
      have h1 : cs.toArray.all (·.oneCell') = true := by rw [← hcs]; exact HE.out.one t (by rw [HG.out]; exact hlt)
      have hrg : wr.rangeAt b (off + t * 34) cs := by rw [← hcs]; exact range_keep (hmem t (by rw [HG.out]; exact hlt)) HW
      have hro : RootOf 30 wr cs R := by rw [← hcs, ← hR]; exact (HE.out.root t (by rw [HG.out]; exact hlt)).keep HW
      have hnx := hid (upTo_next Rs m t hX hXl hlt R hR.symm)
      have hfl := hid (upTo_flat Rs m t hX hXl ht)
      have HRG := hid hrg
      have HRO := hid hro
      have HNW := hid (And.intro HN HW)
      have H1 := hid h1
      have HL := hid hl
      have hws := HW.size
      have hwl := HN.lt
      clear hrg hro HN HW h1 hmem hcs hR hl
      go_wp2_with ((with_reducible refine at_list' ?_); first
        | (refine wpList_run rfl (.agg cs.toArray) (run_mid 91 (.tmp 16) rfl b (off + t * 34) rfl cs HRG.out _ Tryz.underlying91 rfl (by rw [tySignedExit.size, zsSignedExit, HL.out])) ?_)
        | (refine wpList_alloc_c tySignedExit rfl 7 rfl rfl ?_; intro w4 H4 B4 S4)
        | (refine wpList_store_c tySignedExit rfl (.tmp 7) (.tmp 17) rfl wr.heap.size cs rfl rfl (by rw [HL.out, zsSignedExit]) H1.out _ H4 rfl ?_; intro w5 H5 O5)
        | (refine wpList_load_c tySignedExit rfl (.tmp 7) rfl wr.heap.size cs rfl (by rw [HL.out, zsSignedExit]) H5 ?_))
      have B5 : Below wr.heap.size wr w5 := below_only B4 O5 (Nat.le_refl _)
      refine (HRO.out.call w5 B5).mono ?_
      rintro e w6 ⟨rfl, B6⟩
      have B56 := below_more B5 B6 (Nat.le_refl _)
      have HN6 := HNW.out.1.keep B56
      have L6 := hid (HNW.out.2.trans (B56.mono hws))
      have hR2 := HRO.out.rt
      clear H4 B4 S4 H5 O5 B5 B6 B56
      go_wp2_with ((with_reducible refine at_list' ?_); first
        | (refine wpList_store_part rfl 23 (.tmp 23) (.tmp 22) rfl w.heap.size t 23 _ R (by rw [Nat.mul_comm 32 t]; rfl) rfl HN6 hR2.len (by rw [hfl.out]; omega) Tryz.size23 ?_; intro w7 H7 O7))
      rw [hnx.out] at H7
      have X7 := hid (And.intro H7 (below_only L6.out O7 (Nat.le_refl _)))
      clear H7 O7 HN6
      try go_wp2
      go_roundw
      case rel => exact ⟨t + 1, by omega, by go_num, X7.out.1, X7.out.2⟩
      case measure => simp [intOf]; omega
    · have ht2 : t = m := by omega
      subst ht2
      rw [upTo_all _ _ hXl] at HN
      have X := hid (And.intro HN HW)
      clear HN HW
      go_wp2
      go_ret
      exact ⟨w.heap.size, Nat.le_refl _, rfl, HasR.at hX X.out.1, X.out.2⟩
set_option maxHeartbeats 2000000 in
theorem listSignedExit_any (ao : Option Addr) (cap n : Nat) (css : List (List Value)) (Rs : List (List Nat)) (w : World) (hT : Tabs w) (hn : n ≤ 1048576) (hcap : css.length ≤ cap) (hm : cap ≤ maxLen) (hlen : css.length ≤ 1048576) (hE : Elems 30 34 w ao css Rs) :
    Calls Tryz.prog 29 #[.slice ao css.length cap, .int .i64 (n : Nat), .func (.func 30) #[] #[]] w fun e w' => e = .returned (.agg (nums .u8 (listOf n Rs))) ∧ Below w.heap.size w w' := by
  have hX : Rts Rs := hE.rts
  obtain ⟨T, HTT⟩ : ∃ T, Same (treeZ n Rs) T := ⟨_, ⟨rfl⟩⟩
  have hTr := treeZ_rt n Rs hX
  rw [HTT.out] at hTr
  have hpr := pr_rt T (wUp Rs.length 8)
  obtain ⟨Z, HZ⟩ : ∃ Z, Same (pr T (wUp Rs.length 8)) Z := ⟨_, ⟨rfl⟩⟩
  rw [show listOf n Rs = pr (treeZ n Rs) (wUp Rs.length 8) from rfl, HTT.out, HZ.out]
  have HMX := hid (fun w (hT : Tabs w) => mix_any' T Rs.length hTr (by rw [hE.len]; omega) w hT)
  rw [HZ.out] at hpr HMX
  have HTz := hid (fun ao cap w1 (hT : Tabs w1) (h1 : Rs.length ≤ cap) (h2 : cap ≤ maxLen) (h3 : RootsAt w1 ao Rs) => treZ_any ao cap Rs n w1 hT h1 h2 (by rw [hE.len]; exact hlen) hn h3)
  rw [HTT.out] at HTz
  have HP := hid (fun w1 (hb : Below w.heap.size w w1) => rootsSignedExit_any ao cap css Rs w1 hcap hm hlen (hE.keep hb))
  have hRl := hE.len
  rw [hRl] at HMX HTz
  have HT := hid hT
  have HRL := hid hRl
  clear hE hT hRl
  unfold maxLen at hm
  go_enter Tryz.func29, Tryz.ntmps29
  go_wp2_with ((with_reducible refine at_list' ?_); first
    | (refine wpList_alloc_has rfl 6 rfl 23 rfl .u8 32 Tryz.zero23 ?_; intro w1 H1 B1 S1))
  refine (HP.out w1 B1).mono ?_
  rintro e w3 ⟨g, hg, rfl, k3, B3⟩
  have L3 := hid (below_more B1 B3 (Nat.le_refl _))
  have H3 := H1.keep B3
  have HT3 := hid (HTz.out (some ⟨g, 0, none⟩) css.length w3 (HT.out.keep L3.out) (Nat.le_refl _) (by unfold maxLen; omega) k3)
  clear HP k3 hg H1 B1 S1 B3 HTz
  go_wp2_with fail
  refine HT3.out.mono ?_
  rintro e w4 ⟨rfl, B4⟩
  have L4 := hid (below_more L3.out B4 (Nat.le_refl _))
  have H4 := H3.keep B4
  clear HT3 L3 H3 B4
  go_wp2_with fail
  refine (HMX.out w4 (HT.out.keep L4.out)).mono ?_
  rintro e w5 ⟨rfl, B5⟩
  have L5 := hid (below_more L4.out B5 (Nat.le_refl _))
  have H5 := H4.keep B5
  clear L4 H4 B5 HMX
  go_wp2_with ((with_reducible refine at_list' ?_); first
    | (refine wpList_store_has rfl 23 (.tmp 6) (.tmp 15) rfl w.heap.size .u8 Z (zeros 32) rfl rfl 23 H5 (hpr.size _ Tryz.size23) (by rw [hpr.len, zeros_length]) ?_; intro w6 H6 O6))
  refine bodyPost_ret (results_has rfl _ _ w.heap.size 23 .u8 Z _ _ rfl H6 Tryz.und23 (hpr.size _ Tryz.size23)) rfl ?_
  exact ⟨rfl, below_only L5.out O6 (Nat.le_refl _)⟩
end Go.Proofs.YtbmcmabimfoknaaGreatDoor

/- The root of a Body, by the program. -/
namespace Go.Proofs.YtbmcmabimfoknaaGreatDoor
open Go.RowKit Go.Shelf
set_option linter.unusedVariables false
set_option linter.unusedSimpArgs false
set_option maxRecDepth 100000

/-- A slice of structs, its elements' roots. -/
def IsL (F : FuncId) (sz : Nat) (w : World) (v : Value) (Rs : List (List Nat)) : Prop := ∃ ao cap css, v = .slice ao css.length cap ∧ css.length ≤ cap ∧ cap ≤ maxLen ∧ css.length ≤ 1048576 ∧ Elems F sz w ao css Rs
theorem IsL.keep {F : FuncId} {sz : Nat} {w w' : World} {v : Value} {Rs : List (List Nat)} (h : IsL F sz w v Rs) (hb : Below w.heap.size w w') : IsL F sz w' v Rs := by
  obtain ⟨ao, cap, css, h1, h2, h3, h4, h5⟩ := h
  exact ⟨ao, cap, css, h1, h2, h3, h4, h5.keep hb⟩
theorem listProposerSlashing_l (v : Value) (Rs : List (List Nat)) (w : World) (hT : Tabs w) (h : IsL 22 260 w v Rs) :
    Calls Tryz.prog 21 #[v, .int .i64 2, .func (.func 22) #[] #[]] w fun e w' => e = .returned (.agg (nums .u8 (listOf 2 Rs))) ∧ Below w.heap.size w w' := by
  obtain ⟨ao, cap, css, rfl, h1, h2, h3, h4⟩ := h
  exact listProposerSlashing_any ao cap 2 css Rs w hT (by decide) h1 h2 h3 h4
theorem listAttesterSlashing_l (v : Value) (Rs : List (List Nat)) (w : World) (hT : Tabs w) (h : IsL 24 266 w v Rs) :
    Calls Tryz.prog 23 #[v, .int .i64 1, .func (.func 24) #[] #[]] w fun e w' => e = .returned (.agg (nums .u8 (listOf 1 Rs))) ∧ Below w.heap.size w w' := by
  obtain ⟨ao, cap, css, rfl, h1, h2, h3, h4⟩ := h
  exact listAttesterSlashing_any ao cap 1 css Rs w hT (by decide) h1 h2 h3 h4
theorem listAttestation_l (v : Value) (Rs : List (List Nat)) (w : World) (hT : Tabs w) (h : IsL 26 133 w v Rs) :
    Calls Tryz.prog 25 #[v, .int .i64 8, .func (.func 26) #[] #[]] w fun e w' => e = .returned (.agg (nums .u8 (listOf 8 Rs))) ∧ Below w.heap.size w w' := by
  obtain ⟨ao, cap, css, rfl, h1, h2, h3, h4⟩ := h
  exact listAttestation_any ao cap 8 css Rs w hT (by decide) h1 h2 h3 h4
theorem listDeposit_l (v : Value) (Rs : List (List Nat)) (w : World) (hT : Tabs w) (h : IsL 28 289 w v Rs) :
    Calls Tryz.prog 27 #[v, .int .i64 4, .func (.func 28) #[] #[]] w fun e w' => e = .returned (.agg (nums .u8 (listOf 4 Rs))) ∧ Below w.heap.size w w' := by
  obtain ⟨ao, cap, css, rfl, h1, h2, h3, h4⟩ := h
  exact listDeposit_any ao cap 4 css Rs w hT (by decide) h1 h2 h3 h4
theorem listSignedExit_l (v : Value) (Rs : List (List Nat)) (w : World) (hT : Tabs w) (h : IsL 30 34 w v Rs) :
    Calls Tryz.prog 29 #[v, .int .i64 2, .func (.func 30) #[] #[]] w fun e w' => e = .returned (.agg (nums .u8 (listOf 2 Rs))) ∧ Below w.heap.size w w' := by
  obtain ⟨ao, cap, css, rfl, h1, h2, h3, h4⟩ := h
  exact listSignedExit_any ao cap 2 css Rs w hT (by decide) h1 h2 h3 h4
def bdRs (ra : List Nat) (ed : List Nat) (ec : Nat) (gr : List Nat) (R1 R2 R3 R4 R5 : List (List Nat)) : List (List Nat) := [ra, etR ed ec, gr, listOf 2 R1, listOf 1 R2, listOf 8 R3, listOf 4 R4, listOf 2 R5]
def bdR (ra : List Nat) (ed : List Nat) (ec : Nat) (gr : List Nat) (R1 R2 R3 R4 R5 : List (List Nat)) : List Nat := fullR (depth (((bdRs ra ed ec gr R1 R2 R3 R4 R5).length : Nat) : Int)) (bdRs ra ed ec gr R1 R2 R3 R4 R5)
theorem bdRs_rt (ra : List Nat) (ed : List Nat) (ec : Nat) (gr : List Nat) (R1 R2 R3 R4 R5 : List (List Nat)) (h1 : Rt ra) (h2 : Rt ed) (h3 : Rt gr) : Rts (bdRs ra ed ec gr R1 R2 R3 R4 R5) := Rts.more h1 (Rts.more (etR_rt ed ec h2) (Rts.more h3 (Rts.more (listOf_rt _ _) (Rts.more (listOf_rt _ _) (Rts.more (listOf_rt _ _) (Rts.more (listOf_rt _ _) (Rts.more (listOf_rt _ _) Rts.nil)))))))
theorem bdR_rt (ra : List Nat) (ed : List Nat) (ec : Nat) (gr : List Nat) (R1 R2 R3 R4 R5 : List (List Nat)) (h1 : Rt ra) (h2 : Rt ed) (h3 : Rt gr) : Rt (bdR ra ed ec gr R1 R2 R3 R4 R5) := full_rt _ _ (bdRs_rt ra ed ec gr R1 R2 R3 R4 R5 h1 h2 h3)
set_option maxHeartbeats 4000000 in
theorem bdR_any (ra : List Nat) (ed : List Nat) (ec : Nat) (gr : List Nat) (v1 v2 v3 v4 v5 : Value) (R1 R2 R3 R4 R5 : List (List Nat)) (hra : Rt ra) (hed : Rt ed) (hec : ec < 18446744073709551616) (hgr : Rt gr) (w : World) (hT : Tabs w) (h1 : IsL 22 260 w v1 R1) (h2 : IsL 24 266 w v2 R2) (h3 : IsL 26 133 w v3 R3) (h4 : IsL 28 289 w v4 R4) (h5 : IsL 30 34 w v5 R5) :
    Calls Tryz.prog 7 #[.agg (bdC ra ed ec gr v1 v2 v3 v4 v5).toArray] w fun x w' => x = .returned (.agg (nums .u8 (bdR ra ed ec gr R1 R2 R3 R4 R5))) ∧ Below w.heap.size w w' := by
  have hfr := bdR_rt ra ed ec gr R1 R2 R3 R4 R5 hra hed hgr
  unfold bdR bdRs at hfr ⊢
  have hE1 := etR_rt ed ec hed
  obtain ⟨E1, HE1⟩ : ∃ X, Same (etR ed ec) X := ⟨_, ⟨rfl⟩⟩
  rw [HE1.out] at hfr hE1 ⊢
  have hL1 := listOf_rt 2 R1
  obtain ⟨L1, HL1⟩ : ∃ X, Same (listOf 2 R1) X := ⟨_, ⟨rfl⟩⟩
  rw [HL1.out] at hfr hL1 ⊢
  have HI1 := hid h1
  have hL2 := listOf_rt 1 R2
  obtain ⟨L2, HL2⟩ : ∃ X, Same (listOf 1 R2) X := ⟨_, ⟨rfl⟩⟩
  rw [HL2.out] at hfr hL2 ⊢
  have HI2 := hid h2
  have hL3 := listOf_rt 8 R3
  obtain ⟨L3, HL3⟩ : ∃ X, Same (listOf 8 R3) X := ⟨_, ⟨rfl⟩⟩
  rw [HL3.out] at hfr hL3 ⊢
  have HI3 := hid h3
  have hL4 := listOf_rt 4 R4
  obtain ⟨L4, HL4⟩ : ∃ X, Same (listOf 4 R4) X := ⟨_, ⟨rfl⟩⟩
  rw [HL4.out] at hfr hL4 ⊢
  have HI4 := hid h4
  have hL5 := listOf_rt 2 R5
  obtain ⟨L5, HL5⟩ : ∃ X, Same (listOf 2 R5) X := ⟨_, ⟨rfl⟩⟩
  rw [HL5.out] at hfr hL5 ⊢
  have HI5 := hid h5
  obtain ⟨W, HW⟩ : ∃ W, Same (fullR (depth ((([ra, E1, gr, L1, L2, L3, L4, L5] : List (List Nat)).length : Nat) : Int)) [ra, E1, gr, L1, L2, L3, L4, L5]) W := ⟨_, ⟨rfl⟩⟩
  rw [HW.out] at hfr ⊢
  clear h1 h2 h3 h4 h5
  go_enter Tryz.func7, Tryz.ntmps7
  go_wp2_with ((with_reducible refine at_list' ?_); first
    | (refine wpList_box_c rfl 1 rfl (.tmp 0) rfl (bdC ra ed ec gr v1 v2 v3 v4 v5) rfl ?_; intro w1 H1 B1 S1)
    | (refine wpList_alloc_has rfl 2 rfl 23 rfl .u8 32 Tryz.zero23 ?_; intro w2 H2 B2 S2; rw [S1] at H2 S2; rw [S1]))
  have HX := hid (H1.keep B2)
  have HY := hid H2
  have HB := hid (B1.trans (B2.mono (by omega)))
  have HT := hid (hT.keep HB.out)
  have s2 : w2.heap.size = w.heap.size + 2 := by omega
  clear H1 B1 S1 H2 B2 S2
  try simp only [Act.put, List.setIfInBounds_toArray, List.set_cons_succ, List.set_cons_zero]
  refine wp_region_flow 24 24 (fun i v wq => match i with
    | 0 => v = .pointer (some ⟨w.heap.size, 0, none⟩)
    | 1 => v = .agg (nums .u8 ra)
    | 2 => v = .pointer (some ⟨w.heap.size, 32, none⟩)
    | 3 => v = .agg (etC ed ec).toArray
    | 4 => v = .agg (nums .u8 E1)
    | 5 => v = .pointer (some ⟨w.heap.size, 65, none⟩)
    | 6 => v = .agg (nums .u8 gr)
    | 7 => v = .pointer (some ⟨w.heap.size, 97, none⟩)
    | 8 => v = v1
    | 9 => v = .agg (nums .u8 L1)
    | 10 => v = .pointer (some ⟨w.heap.size, 98, none⟩)
    | 11 => v = v2
    | 12 => v = .agg (nums .u8 L2)
    | 13 => v = .pointer (some ⟨w.heap.size, 99, none⟩)
    | 14 => v = v3
    | 15 => v = .agg (nums .u8 L3)
    | 16 => v = .pointer (some ⟨w.heap.size, 100, none⟩)
    | 17 => v = v4
    | 18 => v = .agg (nums .u8 L4)
    | 19 => v = .pointer (some ⟨w.heap.size, 101, none⟩)
    | 20 => v = v5
    | 21 => v = .agg (nums .u8 L5)
    | 22 => ∃ b, v = .slice (some ⟨b, 0, none⟩) 8 8 ∧ RootsAt wq (some ⟨b, 0, none⟩) [ra, E1, gr, L1, L2, L3, L4, L5]
    | _ => v = .agg (nums .u8 W)) (by kernel_rfl) (by kernel_rfl) (fun _ d _ _ _ h => by cases d <;> exact h) ?_ ?_ ?_ ?_
  · intro i v wq wq' hi hv hb
    match i, hi with
    | 0, _ => exact hv
    | 1, _ => exact hv
    | 2, _ => exact hv
    | 3, _ => exact hv
    | 4, _ => exact hv
    | 5, _ => exact hv
    | 6, _ => exact hv
    | 7, _ => exact hv
    | 8, _ => exact hv
    | 9, _ => exact hv
    | 10, _ => exact hv
    | 11, _ => exact hv
    | 12, _ => exact hv
    | 13, _ => exact hv
    | 14, _ => exact hv
    | 15, _ => exact hv
    | 16, _ => exact hv
    | 17, _ => exact hv
    | 18, _ => exact hv
    | 19, _ => exact hv
    | 20, _ => exact hv
    | 21, _ => exact hv
    | 22, _ => obtain ⟨b, h1, h2⟩ := hv; exact ⟨b, h1, h2.keep hb⟩
    | 23, _ => exact hv
    | (k + 24), hk => exact absurd hk (by omega)
  · intro i o hi ho aq wq hc hk hdep
    match i, hi with
    | 0, _ =>
      cases ho
      have e1 : aq.tmps.getD 1 undef = .pointer (some ⟨w.heap.size, 0, none⟩) := hk 1 (by decide)
      exact flow_value _ (run_fieldAt 33 (.tmp 1) 0 rfl _ _ e1 (by kernel_rfl)) rfl
    | 1, _ =>
      cases ho
      have e0 : aq.tmps.getD 3 undef = .pointer (some ⟨w.heap.size, 0, none⟩) := hdep 0 3 rfl (by kernel_rfl)
      exact flow_value _ (run_mid 23 (.tmp 3) rfl w.heap.size 0 e0 (cellsB ra) ((HX.out.keep (hcB hc)).range 0 (cellsB ra) (seg (ps := bdP ra ed ec gr v1 v2 v3 v4 v5) (i := 0) (off := 0) rfl (by simp [bdP, cellsB_length, hra.len, hgr.len, etC_length ed ec hed.len]))) _ Tryz.und23 rfl (by rw [cellsB_length, hra.len]; exact Tryz.size23)) rfl
    | 2, _ =>
      cases ho
      have e1 : aq.tmps.getD 1 undef = .pointer (some ⟨w.heap.size, 0, none⟩) := hk 1 (by decide)
      exact flow_value _ (run_fieldAt 33 (.tmp 1) 1 rfl _ _ e1 (by kernel_rfl)) rfl
    | 3, _ =>
      cases ho
      have e0 : aq.tmps.getD 5 undef = .pointer (some ⟨w.heap.size, 32, none⟩) := hdep 2 5 rfl (by kernel_rfl)
      exact flow_value _ (run_mid 26 (.tmp 5) rfl w.heap.size 32 e0 (etC ed ec) ((HX.out.keep (hcB hc)).range 32 (etC ed ec) (seg (ps := bdP ra ed ec gr v1 v2 v3 v4 v5) (i := 1) (off := 32) rfl (by simp [bdP, cellsB_length, hra.len, hgr.len, etC_length ed ec hed.len]))) _ Tryz.underlying26 rfl (by rw [etC_length ed ec hed.len]; kernel_rfl)) rfl
    | 4, _ =>
      cases ho
      have e0 : aq.tmps.getD 6 undef = .agg (etC ed ec).toArray := hdep 3 6 rfl (by kernel_rfl)
      refine flow_fun 20 _ _ rfl (fun _ _ => by simp [go_sem]) #[.agg (etC ed ec).toArray] (by rw [show (#[Operand.tmp 6] : Array Operand).map aq.eval = #[aq.tmps.getD 6 undef] from by simp [Act.eval], e0]) ?_
      refine (etR_any ed ec hed hec wq (HT.out.keep (hcB hc))).mono ?_
      rintro x w' ⟨rfl, q⟩
      exact ⟨_, rfl, (by rw [← HE1.out]; rfl), q⟩
    | 5, _ =>
      cases ho
      have e1 : aq.tmps.getD 1 undef = .pointer (some ⟨w.heap.size, 0, none⟩) := hk 1 (by decide)
      exact flow_value _ (run_fieldAt 33 (.tmp 1) 2 rfl _ _ e1 (by kernel_rfl)) rfl
    | 6, _ =>
      cases ho
      have e0 : aq.tmps.getD 8 undef = .pointer (some ⟨w.heap.size, 65, none⟩) := hdep 5 8 rfl (by kernel_rfl)
      exact flow_value _ (run_mid 23 (.tmp 8) rfl w.heap.size 65 e0 (cellsB gr) ((HX.out.keep (hcB hc)).range 65 (cellsB gr) (seg (ps := bdP ra ed ec gr v1 v2 v3 v4 v5) (i := 2) (off := 65) rfl (by simp [bdP, cellsB_length, hra.len, hgr.len, etC_length ed ec hed.len]))) _ Tryz.und23 rfl (by rw [cellsB_length, hgr.len]; exact Tryz.size23)) rfl
    | 7, _ =>
      cases ho
      have e1 : aq.tmps.getD 1 undef = .pointer (some ⟨w.heap.size, 0, none⟩) := hk 1 (by decide)
      exact flow_value _ (run_fieldAt 33 (.tmp 1) 3 rfl _ _ e1 (by kernel_rfl)) rfl
    | 8, _ =>
      cases ho
      have e0 : aq.tmps.getD 10 undef = .pointer (some ⟨w.heap.size, 97, none⟩) := hdep 7 10 rfl (by kernel_rfl)
      exact flow_value _ (run_cell 27 (.tmp 10) rfl _ e0 _ ((HX.out.keep (hcB hc)).cell (seg (ps := bdP ra ed ec gr v1 v2 v3 v4 v5) (i := 3) (off := 97) rfl (by simp [bdP, cellsB_length, hra.len, hgr.len, etC_length ed ec hed.len]) 0 _ rfl)) _ Tryz.underlying27 rfl) rfl
    | 9, _ =>
      cases ho
      have e0 : aq.tmps.getD 11 undef = v1 := hdep 8 11 rfl (by kernel_rfl)
      refine flow_fun 21 _ _ rfl (fun _ _ => by simp [go_sem]) #[v1, .int .i64 2, .func (.func 22) #[] #[]] (by rw [show (#[Operand.tmp 11, Operand.const (.int .i64 2), Operand.func 22] : Array Operand).map aq.eval = #[aq.tmps.getD 11 undef, .int .i64 2, .func (.func 22) #[] #[]] from by simp [Act.eval], e0]) ?_
      refine (listProposerSlashing_l v1 R1 wq (HT.out.keep (hcB hc)) (HI1.out.keep (HB.out.trans ((hcB hc).mono HB.out.size)))).mono ?_
      rintro x w' ⟨rfl, q⟩
      exact ⟨_, rfl, (by rw [← HL1.out]; rfl), q⟩
    | 10, _ =>
      cases ho
      have e1 : aq.tmps.getD 1 undef = .pointer (some ⟨w.heap.size, 0, none⟩) := hk 1 (by decide)
      exact flow_value _ (run_fieldAt 33 (.tmp 1) 4 rfl _ _ e1 (by kernel_rfl)) rfl
    | 11, _ =>
      cases ho
      have e0 : aq.tmps.getD 13 undef = .pointer (some ⟨w.heap.size, 98, none⟩) := hdep 10 13 rfl (by kernel_rfl)
      exact flow_value _ (run_cell 28 (.tmp 13) rfl _ e0 _ ((HX.out.keep (hcB hc)).cell (seg (ps := bdP ra ed ec gr v1 v2 v3 v4 v5) (i := 4) (off := 98) rfl (by simp [bdP, cellsB_length, hra.len, hgr.len, etC_length ed ec hed.len]) 0 _ rfl)) _ Tryz.underlying28 rfl) rfl
    | 12, _ =>
      cases ho
      have e0 : aq.tmps.getD 14 undef = v2 := hdep 11 14 rfl (by kernel_rfl)
      refine flow_fun 23 _ _ rfl (fun _ _ => by simp [go_sem]) #[v2, .int .i64 1, .func (.func 24) #[] #[]] (by rw [show (#[Operand.tmp 14, Operand.const (.int .i64 1), Operand.func 24] : Array Operand).map aq.eval = #[aq.tmps.getD 14 undef, .int .i64 1, .func (.func 24) #[] #[]] from by simp [Act.eval], e0]) ?_
      refine (listAttesterSlashing_l v2 R2 wq (HT.out.keep (hcB hc)) (HI2.out.keep (HB.out.trans ((hcB hc).mono HB.out.size)))).mono ?_
      rintro x w' ⟨rfl, q⟩
      exact ⟨_, rfl, (by rw [← HL2.out]; rfl), q⟩
    | 13, _ =>
      cases ho
      have e1 : aq.tmps.getD 1 undef = .pointer (some ⟨w.heap.size, 0, none⟩) := hk 1 (by decide)
      exact flow_value _ (run_fieldAt 33 (.tmp 1) 5 rfl _ _ e1 (by kernel_rfl)) rfl
    | 14, _ =>
      cases ho
      have e0 : aq.tmps.getD 16 undef = .pointer (some ⟨w.heap.size, 99, none⟩) := hdep 13 16 rfl (by kernel_rfl)
      exact flow_value _ (run_cell 29 (.tmp 16) rfl _ e0 _ ((HX.out.keep (hcB hc)).cell (seg (ps := bdP ra ed ec gr v1 v2 v3 v4 v5) (i := 5) (off := 99) rfl (by simp [bdP, cellsB_length, hra.len, hgr.len, etC_length ed ec hed.len]) 0 _ rfl)) _ Tryz.underlying29 rfl) rfl
    | 15, _ =>
      cases ho
      have e0 : aq.tmps.getD 17 undef = v3 := hdep 14 17 rfl (by kernel_rfl)
      refine flow_fun 25 _ _ rfl (fun _ _ => by simp [go_sem]) #[v3, .int .i64 8, .func (.func 26) #[] #[]] (by rw [show (#[Operand.tmp 17, Operand.const (.int .i64 8), Operand.func 26] : Array Operand).map aq.eval = #[aq.tmps.getD 17 undef, .int .i64 8, .func (.func 26) #[] #[]] from by simp [Act.eval], e0]) ?_
      refine (listAttestation_l v3 R3 wq (HT.out.keep (hcB hc)) (HI3.out.keep (HB.out.trans ((hcB hc).mono HB.out.size)))).mono ?_
      rintro x w' ⟨rfl, q⟩
      exact ⟨_, rfl, (by rw [← HL3.out]; rfl), q⟩
    | 16, _ =>
      cases ho
      have e1 : aq.tmps.getD 1 undef = .pointer (some ⟨w.heap.size, 0, none⟩) := hk 1 (by decide)
      exact flow_value _ (run_fieldAt 33 (.tmp 1) 6 rfl _ _ e1 (by kernel_rfl)) rfl
    | 17, _ =>
      cases ho
      have e0 : aq.tmps.getD 19 undef = .pointer (some ⟨w.heap.size, 100, none⟩) := hdep 16 19 rfl (by kernel_rfl)
      exact flow_value _ (run_cell 30 (.tmp 19) rfl _ e0 _ ((HX.out.keep (hcB hc)).cell (seg (ps := bdP ra ed ec gr v1 v2 v3 v4 v5) (i := 6) (off := 100) rfl (by simp [bdP, cellsB_length, hra.len, hgr.len, etC_length ed ec hed.len]) 0 _ rfl)) _ Tryz.underlying30 rfl) rfl
    | 18, _ =>
      cases ho
      have e0 : aq.tmps.getD 20 undef = v4 := hdep 17 20 rfl (by kernel_rfl)
      refine flow_fun 27 _ _ rfl (fun _ _ => by simp [go_sem]) #[v4, .int .i64 4, .func (.func 28) #[] #[]] (by rw [show (#[Operand.tmp 20, Operand.const (.int .i64 4), Operand.func 28] : Array Operand).map aq.eval = #[aq.tmps.getD 20 undef, .int .i64 4, .func (.func 28) #[] #[]] from by simp [Act.eval], e0]) ?_
      refine (listDeposit_l v4 R4 wq (HT.out.keep (hcB hc)) (HI4.out.keep (HB.out.trans ((hcB hc).mono HB.out.size)))).mono ?_
      rintro x w' ⟨rfl, q⟩
      exact ⟨_, rfl, (by rw [← HL4.out]; rfl), q⟩
    | 19, _ =>
      cases ho
      have e1 : aq.tmps.getD 1 undef = .pointer (some ⟨w.heap.size, 0, none⟩) := hk 1 (by decide)
      exact flow_value _ (run_fieldAt 33 (.tmp 1) 7 rfl _ _ e1 (by kernel_rfl)) rfl
    | 20, _ =>
      cases ho
      have e0 : aq.tmps.getD 22 undef = .pointer (some ⟨w.heap.size, 101, none⟩) := hdep 19 22 rfl (by kernel_rfl)
      exact flow_value _ (run_cell 31 (.tmp 22) rfl _ e0 _ ((HX.out.keep (hcB hc)).cell (seg (ps := bdP ra ed ec gr v1 v2 v3 v4 v5) (i := 7) (off := 101) rfl (by simp [bdP, cellsB_length, hra.len, hgr.len, etC_length ed ec hed.len]) 0 _ rfl)) _ Tryz.underlying31 rfl) rfl
    | 21, _ =>
      cases ho
      have e0 : aq.tmps.getD 23 undef = v5 := hdep 20 23 rfl (by kernel_rfl)
      refine flow_fun 29 _ _ rfl (fun _ _ => by simp [go_sem]) #[v5, .int .i64 2, .func (.func 30) #[] #[]] (by rw [show (#[Operand.tmp 23, Operand.const (.int .i64 2), Operand.func 30] : Array Operand).map aq.eval = #[aq.tmps.getD 23 undef, .int .i64 2, .func (.func 30) #[] #[]] from by simp [Act.eval], e0]) ?_
      refine (listSignedExit_l v5 R5 wq (HT.out.keep (hcB hc)) (HI5.out.keep (HB.out.trans ((hcB hc).mono HB.out.size)))).mono ?_
      rintro x w' ⟨rfl, q⟩
      exact ⟨_, rfl, (by rw [← HL5.out]; rfl), q⟩
    | 22, _ =>
      cases ho
      have e0 : aq.tmps.getD 4 undef = .agg (nums .u8 ra) := hdep 1 4 rfl (by kernel_rfl)
      have e1 : aq.tmps.getD 7 undef = .agg (nums .u8 E1) := hdep 4 7 rfl (by kernel_rfl)
      have e2 : aq.tmps.getD 9 undef = .agg (nums .u8 gr) := hdep 6 9 rfl (by kernel_rfl)
      have e3 : aq.tmps.getD 12 undef = .agg (nums .u8 L1) := hdep 9 12 rfl (by kernel_rfl)
      have e4 : aq.tmps.getD 15 undef = .agg (nums .u8 L2) := hdep 12 15 rfl (by kernel_rfl)
      have e5 : aq.tmps.getD 18 undef = .agg (nums .u8 L3) := hdep 15 18 rfl (by kernel_rfl)
      have e6 : aq.tmps.getD 21 undef = .agg (nums .u8 L4) := hdep 18 21 rfl (by kernel_rfl)
      have e7 : aq.tmps.getD 24 undef = .agg (nums .u8 L5) := hdep 21 24 rfl (by kernel_rfl)
      exact flow_rows 122 23 8 32 _ rfl Tryz.underlying122 rootInfo6 [cellsB ra, cellsB E1, cellsB gr, cellsB L1, cellsB L2, cellsB L3, cellsB L4, cellsB L5] [.tmp 4, .tmp 7, .tmp 9, .tmp 12, .tmp 15, .tmp 18, .tmp 21, .tmp 24] rfl (by rw [show [Operand.tmp 4, Operand.tmp 7, Operand.tmp 9, Operand.tmp 12, Operand.tmp 15, Operand.tmp 18, Operand.tmp 21, Operand.tmp 24].map aq.eval = [aq.tmps.getD 4 undef, aq.tmps.getD 7 undef, aq.tmps.getD 9 undef, aq.tmps.getD 12 undef, aq.tmps.getD 15 undef, aq.tmps.getD 18 undef, aq.tmps.getD 21 undef, aq.tmps.getD 24 undef] from rfl, e0, e1, e2, e3, e4, e5, e6, e7]; rfl) (by simp [cellsB_length, hra.len, hE1.len, hgr.len, hL1.len, hL2.len, hL3.len, hL4.len, hL5.len]) rfl (by decide) (by decide) (by decide) (fun w' h => ⟨_, rfl, hasC_roots (rs := [ra, E1, gr, L1, L2, L3, L4, L5]) h (Rts.more hra (Rts.more hE1 (Rts.more hgr (Rts.more hL1 (Rts.more hL2 (Rts.more hL3 (Rts.more hL4 (Rts.more hL5 Rts.nil))))))))⟩)
    | 23, _ =>
      cases ho
      obtain ⟨b, e6, h6⟩ := hdep 22 25 rfl (by kernel_rfl)
      refine flow_fun 19 _ _ rfl (fun _ _ => by simp [go_sem]) #[.slice (some ⟨b, 0, none⟩) 8 8] (by rw [show (#[Operand.tmp 25] : Array Operand).map aq.eval = #[aq.tmps.getD 25 undef] from by simp [Act.eval], e6]) ?_
      refine (cont_any (some ⟨b, 0, none⟩) 8 [ra, E1, gr, L1, L2, L3, L4, L5] wq (HT.out.keep (hcB hc)) (Nat.le_refl _) (by decide) (by show 8 ≤ 1048576; decide) h6).mono ?_
      rintro x w' ⟨rfl, q⟩
      exact ⟨_, rfl, (by rw [← HW.out]; rfl), q⟩
    | (k + 24), hk => exact absurd hk (by omega)
  · intro o h24 ho
    omega
  intro vf w8 hc hv
  have e7 : vf 23 = _ := hv 23 26 (by decide) rfl
  have B8 := HB.out.trans ((hcB hc).mono (by omega))
  have H8v := HY.out.keep (hcB hc)
  have s8 := (hcB hc).size
  clear hv hc
  simp only [List.take_succ_cons, List.take_zero, List.drop_succ_cons, List.drop_zero, putAll, Act.put, List.setIfInBounds_toArray, List.set_cons_succ, List.set_cons_zero]
  rw [e7]
  have HB8 := hid B8
  clear B8 e7 HB
  go_wp2_with ((with_reducible refine at_list' ?_); first
    | (refine wpList_store_has rfl 23 (.tmp 2) (.tmp 26) rfl (w.heap.size + 1) .u8 W (zeros 32) rfl rfl 23 H8v (hfr.size _ Tryz.size23) (by rw [hfr.len, zeros_length]) ?_; intro w9 H9 O9))
  refine bodyPost_ret (results_has rfl _ _ (w.heap.size + 1) 23 .u8 W _ _ rfl H9 Tryz.und23 (hfr.size _ Tryz.size23)) rfl ?_
  exact ⟨rfl, below_only HB8.out O9 (by omega)⟩
end Go.Proofs.YtbmcmabimfoknaaGreatDoor

/- The document's root of a body's elements, and of a body. -/
namespace Go.Proofs.YtbmcmabimfoknaaGreatDoor
open Go.RowKit Go.Shelf
set_option linter.unusedVariables false
set_option linter.unusedSimpArgs false
set_option maxRecDepth 100000
theorem listR_nums (ns : List Nat) : listR 32 ((ns.map fun n => Vt.mk n (zeros 32) [] []).map Vt.num) = numR ns := by
  have e : (ns.map fun n => Vt.mk n (zeros 32) [] []).map Vt.num = ns := by rw [List.map_map]; exact List.map_id'' (fun _ => rfl) ns
  rw [e]
  unfold listR numR
  rfl
theorem ps_rooted (zazhzs : Nat) (zazhzp : Nat) (zazhzpa : List Nat) (zazhzst : List Nat) (zazhzbo : List Nat) (zazsg : List Nat) (zzzhzs : Nat) (zzzhzp : Nat) (zzzhzpa : List Nat) (zzzhzst : List Nat) (zzzhzbo : List Nat) (zzzsg : List Nat) : Rooted psD (psU zazhzs zazhzp zazhzpa zazhzst zazhzbo zazsg zzzhzs zzzhzp zzzhzpa zzzhzst zzzhzbo zzzsg) (psR zazhzs zazhzp zazhzpa zazhzst zazhzbo zazsg zzzhzs zzzhzp zzzhzpa zzzhzst zzzhzbo zzzsg) := by
  have h := rooted_any psD (psU zazhzs zazhzp zazhzpa zazhzst zazhzbo zazsg zzzhzs zzzhzp zzzhzpa zzzhzst zzzhzbo zzzsg) (by simp [hdD, shD, psD, hdU, shU, psU, dBox, dNum, dRoot, dTruth, okR, okRs])
  have e : rootV psD (psU zazhzs zazhzp zazhzpa zazhzst zazhzbo zazsg zzzhzs zzzhzp zzzhzpa zzzhzst zzzhzbo zzzsg) = psR zazhzs zazhzp zazhzpa zazhzst zazhzbo zazsg zzzhzs zzzhzp zzzhzpa zzzhzst zzzhzbo zzzsg := by
    simp only [hdD, shD, psD, hdU, shU, psU, dBox, dNum, dRoot, dTruth, hdR, shR, psR, rootV, rootsV, listR_nums]
    simp
  rwa [e] at h
theorem as_rooted (zazno : Option Addr) (zaznc : Nat) (zaznl : List Nat) (zazdzs : Nat) (zazdzi : Nat) (zazdzb : List Nat) (zazdzcze : Nat) (zazdzczr : List Nat) (zazdztze : Nat) (zazdztzr : List Nat) (zazsg : List Nat) (zzzno : Option Addr) (zzznc : Nat) (zzznl : List Nat) (zzzdzs : Nat) (zzzdzi : Nat) (zzzdzb : List Nat) (zzzdzcze : Nat) (zzzdzczr : List Nat) (zzzdztze : Nat) (zzzdztzr : List Nat) (zzzsg : List Nat) (h1 : zaznl.length ≤ 500) (h2 : zzznl.length ≤ 500) : Rooted asD (asU zazno zaznc zaznl zazdzs zazdzi zazdzb zazdzcze zazdzczr zazdztze zazdztzr zazsg zzzno zzznc zzznl zzzdzs zzzdzi zzzdzb zzzdzcze zzzdzczr zzzdztze zzzdztzr zzzsg) (asR zazno zaznc zaznl zazdzs zazdzi zazdzb zazdzcze zazdzczr zazdztze zazdztzr zazsg zzzno zzznc zzznl zzzdzs zzzdzi zzzdzb zzzdzcze zzzdzczr zzzdztze zzzdztzr zzzsg) := by
  have h := rooted_any asD (asU zazno zaznc zaznl zazdzs zazdzi zazdzb zazdzcze zazdzczr zazdztze zazdztzr zazsg zzzno zzznc zzznl zzzdzs zzzdzi zzzdzb zzzdzcze zzzdzczr zzzdztze zzzdztzr zzzsg) (by simp [cpD, vtD, ixD, asD, cpU, vtU, ixU, asU, dNums, numsV, dBox, dNum, dRoot, dTruth, okR, okRs]; omega)
  have e : rootV asD (asU zazno zaznc zaznl zazdzs zazdzi zazdzb zazdzcze zazdzczr zazdztze zazdztzr zazsg zzzno zzznc zzznl zzzdzs zzzdzi zzzdzb zzzdzcze zzzdzczr zzzdztze zzzdztzr zzzsg) = asR zazno zaznc zaznl zazdzs zazdzi zazdzb zazdzcze zazdzczr zazdztze zazdztzr zazsg zzzno zzznc zzznl zzzdzs zzzdzi zzzdzb zzzdzcze zzzdzczr zzzdztze zzzdztzr zzzsg := by
    simp only [cpD, vtD, ixD, asD, cpU, vtU, ixU, asU, dNums, numsV, dBox, dNum, dRoot, dTruth, cpR, vtR, ixR, asR, rootV, rootsV, listR_nums]
    simp
  rwa [e] at h
theorem at_rooted (zbo : Option Addr) (zbc : Nat) (zbl : List Bool) (zdzs : Nat) (zdzi : Nat) (zdzb : List Nat) (zdzcze : Nat) (zdzczr : List Nat) (zdztze : Nat) (zdztzr : List Nat) (zsg : List Nat) (h1 : zbl.length ≤ 500) : Rooted atD (atU zbo zbc zbl zdzs zdzi zdzb zdzcze zdzczr zdztze zdztzr zsg) (atR zbo zbc zbl zdzs zdzi zdzb zdzcze zdzczr zdztze zdztzr zsg) := by
  have h := rooted_any atD (atU zbo zbc zbl zdzs zdzi zdzb zdzcze zdzczr zdztze zdztzr zsg) (by simp [cpD, vtD, atD, dBits, cpU, vtU, atU, dBox, dNum, dRoot, dTruth, okR, okRs]; omega)
  have e : rootV atD (atU zbo zbc zbl zdzs zdzi zdzb zdzcze zdzczr zdztze zdztzr zsg) = atR zbo zbc zbl zdzs zdzi zdzb zdzcze zdzczr zdztze zdztzr zsg := by
    simp only [cpD, vtD, atD, dBits, cpU, vtU, atU, dBox, dNum, dRoot, dTruth, cpR, vtR, atR, rootV, rootsV, listR_nums]
    simp
  rwa [e] at h
theorem sx_rooted (zxze : Nat) (zxzi : Nat) (zsg : List Nat) : Rooted sxD (sxU zxze zxzi zsg) (sxR zxze zxzi zsg) := by
  have h := rooted_any sxD (sxU zxze zxzi zsg) (by simp [exD, sxD, exU, sxU, dBox, dNum, dRoot, dTruth, okR, okRs])
  have e : rootV sxD (sxU zxze zxzi zsg) = sxR zxze zxzi zsg := by
    simp only [exD, sxD, exU, sxU, dBox, dNum, dRoot, dTruth, exR, sxR, rootV, rootsV, listR_nums]
    simp
  rwa [e] at h
theorem dd_rooted (zdzk zdzcr : List Nat) (zdzam : Nat) (zdzsg : List Nat) : Rooted ddD (ddU zdzk zdzcr zdzam zdzsg) (ddR zdzk zdzcr zdzam zdzsg) := by
  have h := rooted_any ddD (ddU zdzk zdzcr zdzam zdzsg) (by simp [ddD, ddU, dBox, dNum, dRoot, okR, okRs])
  have e : rootV ddD (ddU zdzk zdzcr zdzam zdzsg) = ddR zdzk zdzcr zdzam zdzsg := by
    simp only [ddD, ddU, dBox, dNum, dRoot, ddR, rootV, rootsV]
    simp
  rwa [e] at h
theorem vec_rooted (zp : List (List Nat)) (hzp : Rts zp) (hzpl : zp.length = 6) : Rooted dVec (vecV zp) (fullR (depth ((6 : Nat) : Int)) zp) := by
  have h := Rooted.many4 6 0 3 0 [] (zp.map fun r => Vt.mk 0 r [] []) (zeros 32) [] zp (by decide) (.inl rfl) (by rw [List.length_map]) (by rw [List.length_map]; omega) hzp (fun i x hx => by
    rw [List.getElem?_map] at hx
    cases hq : zp[i]? with
    | none => rw [hq] at hx; cases hx
    | some r =>
      rw [hq] at hx
      obtain rfl := Option.some.inj hx
      have h1 := rooted_any (.mk 3 0 []) (.mk 0 r [] []) (by simp [okR])
      rw [List.getD_eq_getElem?_getD, hq]
      simpa [rootV] using h1)
  rw [treeZ, if_pos (by omega)] at h
  exact h
theorem dp_rooted (zp : List (List Nat)) (zdzk : List Nat) (zdzcr : List Nat) (zdzam : Nat) (zdzsg : List Nat) (hzp : Rts zp) (hzpl : zp.length = 6) (h1 : Rt zdzk) (h2 : Rt zdzcr) (h3 : Rt zdzsg) : Rooted dpD (dpU zp zdzk zdzcr zdzam zdzsg) (dpR zp zdzk zdzcr zdzam zdzsg) := by
  have hX6 : Rt (fullR (depth ((6 : Nat) : Int)) zp) := full_rt _ _ hzp
  have hD6 := ddR_rt zdzk zdzcr zdzam zdzsg h1 h2 h3
  have hv := vec_rooted zp hzp hzpl
  have hd := dd_rooted zdzk zdzcr zdzam zdzsg
  rw [dpR]
  obtain ⟨X6, HX6⟩ : ∃ X, Same (fullR (depth ((6 : Nat) : Int)) zp) X := ⟨_, ⟨rfl⟩⟩
  obtain ⟨D6, HD6⟩ : ∃ X, Same (ddR zdzk zdzcr zdzam zdzsg) X := ⟨_, ⟨rfl⟩⟩
  rw [HX6.out] at hX6 hv ⊢
  rw [HD6.out] at hD6 hd ⊢
  rw [dpD, dpU, dBox]
  refine Rooted.box 0 0 [dVec, ddD] [vecV zp, ddU zdzk zdzcr zdzam zdzsg] (zeros 32) [] [X6, D6] rfl rfl (by decide) (Rts.more hX6 (Rts.more hD6 Rts.nil)) (fun i d x hi hx => ?_)
  match i, hi, hx with
  | 0, hi, hx => simp at hi hx; subst hi; subst hx; exact hv
  | 1, hi, hx => simp at hi hx; subst hi; subst hx; exact hd
  | i + 2, hi, hx => simp at hi
theorem et_rooted (ed : List Nat) (ec : Nat) : Rooted etD (etU ed ec) (etR ed ec) := by
  have h := rooted_any etD (etU ed ec) (by simp [etD, etU, dBox, dNum, dRoot, okR, okRs])
  have e : rootV etD (etU ed ec) = etR ed ec := by
    simp only [etD, etU, dBox, dNum, dRoot, etR, rootV, rootsV]
    simp
  rwa [e] at h
theorem rt_rooted (r : List Nat) : Rooted dRoot (.mk 0 r [] []) r := by
  have h := rooted_any dRoot (.mk 0 r [] []) (by simp [dRoot, okR])
  have e : rootV dRoot (.mk 0 r [] []) = r := by simp [dRoot, rootV]
  rwa [e] at h
/-- A list of elements and their roots. -/
def RtsOf (d : Dt) (Xs : List Vt) (Rs : List (List Nat)) : Prop := Rs.length = Xs.length ∧ Rts Rs ∧ ∀ i, i < Xs.length → Rooted d (Xs.getD i vt0) (Rs.getD i [])
theorem many_rooted (n num f0 m0 : Nat) (ds0 : List Dt) (Xs : List Vt) (r : List Nat) (Rs : List (List Nat)) (hn : n ≤ 1048576) (hf0 : f0 = 3 ∨ f0 = 8) (hl : Xs.length ≤ 2000) (h : RtsOf (.mk f0 m0 ds0) Xs Rs) : Rooted (.mk 5 n [.mk f0 m0 ds0]) (.mk num r [] Xs) (listOf n Rs) := by
  have h1 := Rooted.many5 n num f0 m0 ds0 Xs r [] Rs hn hf0 h.1 hl h.2.1 (fun i x hx => by
    have hi := (List.getElem?_eq_some_iff.1 hx).1
    have := h.2.2 i hi
    rwa [List.getD_eq_getElem?_getD, hx] at this)
  rw [listOf, h.1]
  exact h1
theorem bd_rooted (ra ed : List Nat) (ec : Nat) (gr : List Nat) (X1 X2 X3 X4 X5 : List Vt) (R1 R2 R3 R4 R5 : List (List Nat)) (hra : Rt ra) (hed : Rt ed) (hgr : Rt gr) (l1 : X1.length ≤ 500) (l2 : X2.length ≤ 500) (l3 : X3.length ≤ 500) (l4 : X4.length ≤ 500) (l5 : X5.length ≤ 500)
    (h1 : RtsOf psD X1 R1) (h2 : RtsOf asD X2 R2) (h3 : RtsOf atD X3 R3) (h4 : RtsOf dpD X4 R4) (h5 : RtsOf sxD X5 R5) : Rooted bdD (bdU ra ed ec gr X1 X2 X3 X4 X5) (bdR ra ed ec gr R1 R2 R3 R4 R5) := by
  have q0 := rt_rooted ra
  have q1 := et_rooted ed ec
  have q2 := rt_rooted gr
  have q3 := many_rooted 2 0 8 0 [shD, shD] X1 (zeros 32) R1 (by decide) (.inr rfl) (by omega) h1
  have q4 := many_rooted 1 0 8 0 [ixD, ixD] X2 (zeros 32) R2 (by decide) (.inr rfl) (by omega) h2
  have q5 := many_rooted 8 0 8 0 [dBits, vtD, dRoot] X3 (zeros 32) R3 (by decide) (.inr rfl) (by omega) h3
  have q6 := many_rooted 4 0 8 0 [dVec, ddD] X4 (zeros 32) R4 (by decide) (.inr rfl) (by omega) h4
  have q7 := many_rooted 2 0 8 0 [exD, dRoot] X5 (zeros 32) R5 (by decide) (.inr rfl) (by omega) h5
  have hrt := bdRs_rt ra ed ec gr R1 R2 R3 R4 R5 hra hed hgr
  rw [bdR]
  rw [bdRs] at hrt ⊢
  obtain ⟨E, HE⟩ : ∃ X, Same (etR ed ec) X := ⟨_, ⟨rfl⟩⟩
  obtain ⟨L1, H1⟩ : ∃ X, Same (listOf 2 R1) X := ⟨_, ⟨rfl⟩⟩
  obtain ⟨L2, H2⟩ : ∃ X, Same (listOf 1 R2) X := ⟨_, ⟨rfl⟩⟩
  obtain ⟨L3, H3⟩ : ∃ X, Same (listOf 8 R3) X := ⟨_, ⟨rfl⟩⟩
  obtain ⟨L4, H4⟩ : ∃ X, Same (listOf 4 R4) X := ⟨_, ⟨rfl⟩⟩
  obtain ⟨L5, H5⟩ : ∃ X, Same (listOf 2 R5) X := ⟨_, ⟨rfl⟩⟩
  rw [HE.out] at q1 hrt ⊢
  rw [H1.out] at q3 hrt ⊢
  rw [H2.out] at q4 hrt ⊢
  rw [H3.out] at q5 hrt ⊢
  rw [H4.out] at q6 hrt ⊢
  rw [H5.out] at q7 hrt ⊢
  have h := Rooted.box 0 0 [dRoot, etD, dRoot, .mk 5 2 [psD], .mk 5 1 [asD], .mk 5 8 [atD], .mk 5 4 [dpD], .mk 5 2 [sxD]] [.mk 0 ra [] [], etU ed ec, .mk 0 gr [] [], .mk 0 (zeros 32) [] X1, .mk 0 (zeros 32) [] X2, .mk 0 (zeros 32) [] X3, .mk 0 (zeros 32) [] X4, .mk 0 (zeros 32) [] X5] (zeros 32) [] [ra, E, gr, L1, L2, L3, L4, L5] rfl rfl (by decide) hrt (fun i d x hi hx => ?_)
  · exact h
  match i, hi, hx with
  | 0, hi, hx => simp only [List.getElem?_cons_succ, List.getElem?_cons_zero, Option.some.injEq] at hi hx; subst hi; subst hx; exact q0
  | 1, hi, hx => simp only [List.getElem?_cons_succ, List.getElem?_cons_zero, Option.some.injEq] at hi hx; subst hi; subst hx; exact q1
  | 2, hi, hx => simp only [List.getElem?_cons_succ, List.getElem?_cons_zero, Option.some.injEq] at hi hx; subst hi; subst hx; exact q2
  | 3, hi, hx => simp only [List.getElem?_cons_succ, List.getElem?_cons_zero, Option.some.injEq] at hi hx; subst hi; subst hx; exact q3
  | 4, hi, hx => simp only [List.getElem?_cons_succ, List.getElem?_cons_zero, Option.some.injEq] at hi hx; subst hi; subst hx; exact q4
  | 5, hi, hx => simp only [List.getElem?_cons_succ, List.getElem?_cons_zero, Option.some.injEq] at hi hx; subst hi; subst hx; exact q5
  | 6, hi, hx => simp only [List.getElem?_cons_succ, List.getElem?_cons_zero, Option.some.injEq] at hi hx; subst hi; subst hx; exact q6
  | 7, hi, hx => simp only [List.getElem?_cons_succ, List.getElem?_cons_zero, Option.some.injEq] at hi hx; subst hi; subst hx; exact q7
  | i + 8, hi, hx => simp at hi
end Go.Proofs.YtbmcmabimfoknaaGreatDoor

/- Flows whose operations may bear guards that are known to hold, and hang together in chains of any length. -/
namespace Go.Proofs.YtbmcmabimfoknaaGreatDoor
open Go Go.RowKit
section
variable {P : Program}
/-- Those below k that one of m waits for, itself or by others, and m. -/
def markG (ops : Array Oper) : Nat → List Nat → List Nat
  | 0, m => m
  | k + 1, m => if m.any (fun j => Region.waitsFor .any ops j k) then markG ops k (k :: m) else markG ops k m
def reachM (ops : Array Oper) (t i : Nat) : Bool := (markG ops t [t]).contains i
theorem markG_done {ops : Array Oper} {done : Array Bool} (hcl : ∀ j oj, ops[j]? = some oj → done.getD j false = true → ∀ e ∈ oj.after, Region.binds .any e = true → done.getD e.on false = true) {t : Nat} {o : Oper} (ho : ops[t]? = some o) (hall : ∀ e ∈ o.after, Region.binds .any e = true → done.getD e.on false = true) :
    ∀ k m, (∀ i ∈ m, i = t ∨ done.getD i false = true) → ∀ i ∈ markG ops k m, i = t ∨ done.getD i false = true := by
  intro k
  induction k with
  | zero => intro m hm i hi; exact hm i hi
  | succ k ih =>
    intro m hm i hi
    rw [markG] at hi
    split at hi
    · rename_i hany
      refine ih (k :: m) (fun q hq => ?_) i hi
      rcases List.mem_cons.1 hq with rfl | hq
      · obtain ⟨j, hj, hw⟩ := List.any_eq_true.1 hany
        rcases hm j hj with rfl | hd
        · exact .inr (waits_done ho hall hw)
        · cases hz : ops[j]? with
          | none => unfold Region.waitsFor at hw; rw [hz] at hw; cases hw
          | some oj => exact .inr (waits_done hz (hcl j oj hz hd) hw)
      · exact hm q hq
    · exact ih m hm i hi
theorem reachM_done {ops : Array Oper} {done : Array Bool} (hcl : ∀ j oj, ops[j]? = some oj → done.getD j false = true → ∀ e ∈ oj.after, Region.binds .any e = true → done.getD e.on false = true) {t i : Nat} {o : Oper} (ho : ops[t]? = some o) (hall : ∀ e ∈ o.after, Region.binds .any e = true → done.getD e.on false = true) (h : reachM ops t i = true) (hne : i ≠ t) : done.getD i false = true :=
  (markG_done hcl ho hall t [t] (fun q hq => .inl (List.mem_singleton.1 hq)) i (by unfold reachM at h; simpa using h)).resolve_left hne
/-- What a flow asks of a region's text: its head's guards are known, it waits upwards alone, writes each slot once; its tail waits for all of the head, but for one operation that only reads slots and may come late (late: its place; n: there is none). -/
def flowMB (ops : Array Oper) (n late sz : Nat) : Bool :=
  decide (n < ops.size) && Region.noSelect ops && ((List.range ops.size).all fun t => decide (t < n) || (List.range n).all fun i => decide (i = late) || reachM ops t i) &&
  ((List.range n).all fun i => match ops[i]? with
    | some o => (match o.guard with | none => true | some (g, _) => decide (g < i) && Region.waitsFor .any ops i g && (dstOf ops g).isSome) && (o.after.all fun e => !Region.binds .any e || decide (e.on < i)) && (match o.dst with
      | none => true
      | some d => decide (d < sz) && (List.range n).all fun j => decide (j = i) || decide (dstOf ops j ≠ some d))
    | none => false) && (decide (n ≤ late) || (Region.free .any ops (doneBut ops n late) late && (Region.ready .any ops (doneBut ops n late)).contains late)) &&
  Region.seqB .any ops (ops.size - n) n ((List.range ops.size).map fun i => decide (i < n)).toArray

theorem flowM_any {ops : Array Oper} {n late : Nat} {I : Nat → Value → World → Prop} {w0 : World} {a0 : Act} {Q : Exit → Act → World → Prop} (hB : flowMB ops n late a0.tmps.size = true)
    (hQ : ∀ c d v a w, Q (.panic c) (a.put d v) w → Q (.panic c) a w)
    (hguard : ∀ i o g b, i < n → ops[i]? = some o → o.guard = some (g, b) → ∀ v w, I g v w → v = .bool b)
    (hI : ∀ i v w w', i < n → I i v w → Below w.heap.size w w' → I i v w')
    (hop : ∀ i o, i < n → ops[i]? = some o → ∀ a w, Cls w0 w → (∀ s, (∀ j, j < n → dstOf ops j ≠ some s) → a.tmps.getD s undef = a0.tmps.getD s undef) →
      (∀ j d, dstOf ops j = some d → (o.after.any fun e => Region.binds .any e && e.on == j) = true → I j (a.tmps.getD d undef) w) →
      o.wp P a w (fun a' w' => ∃ v, a' = a.put o.dst v ∧ I i v w' ∧ Below w.heap.size w w') Q)
    (hlate : ∀ o, late < n → ops[late]? = some o → ∀ (a : Act) w, Cls w0 w → (∀ s, (∀ j, j < n → dstOf ops j ≠ some s) → a.tmps.getD s undef = a0.tmps.getD s undef) →
      (∀ j d, dstOf ops j = some d → (o.after.any fun e => Region.binds .any e && e.on == j) = true → I j (a.tmps.getD d undef) w) → ∃ v, (∀ w, (execOp a.eval o).run P w = .ok (.value v) w) ∧ I late v w)
    (htail : ∀ v w, Cls w0 w → (∀ i d, i < n → dstOf ops i = some d → I i (v i) w) → wpAny P .any ops Q (ops.size - n) ((List.range ops.size).map fun i => decide (i < n)).toArray (putAll v (ops.toList.take n) 0 a0) w) :
    ∀ f (done : Array Bool) (a : Act) (w : World), (List.range n).countP (fun i => !done.getD i true) = f → FlowInv ops n I w0 a0 done a w → wpAny P .any ops Q (f + (ops.size - n)) done a w := by
  simp only [flowMB, Bool.and_eq_true, decide_eq_true_eq, List.all_eq_true, List.mem_range, Bool.or_eq_true] at hB
  obtain ⟨⟨⟨⟨⟨hn, hsel⟩, hdir⟩, hall⟩, hlt8⟩, hseq⟩ := hB
  have hat : ∀ i, i < n → ∃ o, ops[i]? = some o := fun i hi => ⟨_, Array.getElem?_eq_getElem (by omega)⟩
  have hgd : ∀ i o, i < n → ops[i]? = some o → (∀ g b, o.guard = some (g, b) → Region.waitsFor .any ops i g = true ∧ ∃ d, dstOf ops g = some d) ∧ (∀ e ∈ o.after, Region.binds .any e = true → e.on < i) ∧ ∀ d, o.dst = some d → d < a0.tmps.size ∧ ∀ j, j < n → j ≠ i → dstOf ops j ≠ some d := by
    intro i o hi ho
    have := hall i hi
    rw [ho] at this
    simp only [Bool.and_eq_true, Array.all_eq_true_iff_forall_mem, Bool.or_eq_true, Bool.not_eq_true', decide_eq_true_eq] at this
    obtain ⟨⟨h1, h2⟩, h3⟩ := this
    refine ⟨fun g b hg => by
      rw [hg] at h1
      simp only [Bool.and_eq_true] at h1
      exact ⟨h1.1.2, Option.isSome_iff_exists.1 h1.2⟩, fun e he hb => (h2 e he).resolve_left (by rw [hb]; decide), fun d hd => ?_⟩
    rw [hd] at h3
    simp only [Bool.and_eq_true, decide_eq_true_eq, List.all_eq_true, List.mem_range, Bool.or_eq_true] at h3
    exact ⟨h3.1, fun j hj hne => (h3.2 j hj).resolve_left hne⟩
  intro f
  induction f with
  | zero =>
    intro done a w hcount inv
    have hdone : ∀ i, i < n → done.getD i true = true := fun i hi => by
      have := List.countP_eq_zero.1 hcount i (List.mem_range.2 hi)
      simpa using this
    have hdn : done = ((List.range ops.size).map fun i => decide (i < n)).toArray := by
      apply Array.ext_getElem?
      intro i
      by_cases hi : i < ops.size
      · have hi' : i < done.size := by rw [inv.head.size]; exact hi
        have h1 : (((List.range ops.size).map fun i => decide (i < n)).toArray)[i]? = some (decide (i < n)) := by simp [hi]
        rw [h1, Array.getElem?_eq_getElem hi']
        by_cases hin : i < n
        · have := hdone i hin
          simp [hi'] at this
          simp [hin, this]
        · have := inv.head.tail i (by omega) hi
          simp [hi'] at this
          simp [hin, this]
      · rw [Array.getElem?_eq_none (by rw [inv.head.size]; omega), Array.getElem?_eq_none (by simp; omega)]
    have hk : ∀ i, i < n → done.getD i false = true := fun i hi => by
      have h1 := hdone i hi
      have hi' : i < done.size := by rw [inv.head.size]; omega
      simp [hi'] at h1 ⊢
      exact h1
    have ha : a = putAll (fun i => match dstOf ops i with | some d => a.tmps.getD d undef | none => undef) (ops.toList.take n) 0 a0 := by
      have hd1 := putAll_defers (fun i => match dstOf ops i with | some d => a.tmps.getD d undef | none => undef) (ops.toList.take n) 0 a0
      have hs1 := putAll_size (fun i => match dstOf ops i with | some d => a.tmps.getD d undef | none => undef) (ops.toList.take n) 0 a0
      have ht1 : ∀ s, a.tmps[s]? = (putAll (fun i => match dstOf ops i with | some d => a.tmps.getD d undef | none => undef) (ops.toList.take n) 0 a0).tmps[s]? := fun s => by
        rw [putAll_get _ s (a.tmps.getD s undef) _ 0 a0 (fun j o hj ho => by
          rw [List.getElem?_take] at hj
          split at hj
          · have : dstOf ops j = some s := by unfold dstOf; rw [Array.getElem?_toList] at hj; rw [hj]; exact ho
            rw [Nat.zero_add, this]
          · cases hj)]
        split
        · rename_i h
          rw [Array.getElem?_eq_getElem (by rw [inv.size]; exact h.2)]
          simp [inv.size, h.2]
        · rename_i h
          by_cases hsz : s < a0.tmps.size
          · refine inv.keep s fun i hi e => h ⟨?_, hsz⟩
            obtain ⟨o, ho⟩ := hat i hi
            refine ⟨o, ?_, by unfold dstOf at e; rw [ho] at e; exact e⟩
            rw [List.mem_take_iff_getElem]
            have := Array.getElem?_eq_some_iff.1 ho
            exact ⟨i, by simp; omega, by simpa using this.2⟩
          · rw [Array.getElem?_eq_none (by rw [inv.size]; omega), Array.getElem?_eq_none (by omega)]
      generalize putAll (fun i => match dstOf ops i with | some d => a.tmps.getD d undef | none => undef) (ops.toList.take n) 0 a0 = b at *
      obtain ⟨ta, da⟩ := a
      obtain ⟨tb, db⟩ := b
      have e1 : ta = tb := Array.ext_getElem? ht1
      have e2 : da = db := inv.defers.trans hd1.symm
      rw [e1, e2]
    rw [Nat.zero_add, ha, hdn]
    refine htail _ w inv.cls fun i d hi hd => ?_
    have := inv.known i hi (hk i hi) d hd
    simpa [hd] using this
  | succ f ih =>
    intro done a w hcount inv
    have hex : ∃ i, i < n ∧ done.getD i true = false := by
      have : 0 < (List.range n).countP (fun i => !done.getD i true) := by omega
      obtain ⟨i, hi, hd⟩ := List.countP_pos_iff.1 this
      exact ⟨i, List.mem_range.1 hi, by simpa using hd⟩
    have hready : ∃ i, i < n ∧ i ∈ Region.ready .any ops done := by
      obtain ⟨i0, hi0, hd0⟩ := hex
      have key : ∀ m, m < n → done.getD m true = false → ∃ i, i < n ∧ i ∈ Region.ready .any ops done := by
        intro m
        induction m using Nat.strongRecOn with
        | _ m ihm =>
          intro hm hd
          obtain ⟨o, ho⟩ := hat m hm
          by_cases hw : ∀ e ∈ o.after, Region.binds .any e = true → done.getD e.on false = true
          · exact ⟨m, hm, mem_ready.2 ⟨hd, o, ho, hw⟩⟩
          · simp only [Classical.not_forall] at hw
            obtain ⟨e, he, hb, hnd⟩ := hw
            have hlt := (hgd m o hm ho).2.1 e he hb
            refine ihm e.on hlt (by omega) ?_
            have hi' : e.on < done.size := by rw [inv.head.size]; omega
            simp [hi'] at hnd ⊢
            exact hnd
      exact key i0 hi0 hd0
    obtain ⟨r, hr, hrr⟩ := hready
    rw [Nat.succ_add]
    have hstep : ∀ i o v w', i < n → i ∈ Region.ready .any ops done → ops[i]? = some o → I i v w' → Below w.heap.size w w' →
        (List.range n).countP (fun j => !(done.setIfInBounds i true).getD j true) = f ∧ FlowInv ops n I w0 a0 (done.setIfInBounds i true) (a.put o.dst v) w' := by
      intro i o v w' hin hi ho hv hB
      obtain ⟨hun, o', ho', hwait⟩ := mem_ready.1 hi
      obtain ⟨g1, g2, g3⟩ := hgd i o hin ho
      refine ⟨?_, inv.head.set hi hin, inv.cls.more hB, by rw [put_defers]; exact inv.defers, by rw [put_size]; exact inv.size, fun s hs' => ?_, fun j hj hdj d hd => ?_⟩
      · have hii : i < done.size := by rw [inv.head.size]; omega
        have hcp := count_step done i hii hun n hin
        omega
      · rw [put_get, if_neg (fun h => hs' i hin (by unfold dstOf; rw [ho]; exact h.1))]
        exact inv.keep s hs'
      · by_cases e : j = i
        · subst e
          have hd' : o.dst = some d := by unfold dstOf at hd; rw [ho] at hd; exact hd
          have : (a.put o.dst v).tmps.getD d undef = v := by
            rw [Array.getD_eq_getD_getElem?, put_get, if_pos ⟨hd', by rw [inv.size]; exact (g3 d hd').1⟩]; rfl
          rw [this]; exact hv
        · have hdj' : done.getD j false = true := by rwa [getD_set_ne false (Ne.symm e)] at hdj
          have : (a.put o.dst v).tmps.getD d undef = a.tmps.getD d undef := by
            rw [Array.getD_eq_getD_getElem?, put_get, if_neg (fun h => (g3 d h.1).2 j hj e hd), ← Array.getD_eq_getD_getElem?]
          rw [this]
          exact hI j _ w w' hj (inv.known j hj hdj' d hd) hB
    have hdeps : ∀ i o, i < n → i ∈ Region.ready .any ops done → ops[i]? = some o → ∀ j d, dstOf ops j = some d → (o.after.any fun e => Region.binds .any e && e.on == j) = true → I j (a.tmps.getD d undef) w := by
      intro i o hin hi ho j d hd hj
      obtain ⟨hun, o', ho', hwait⟩ := mem_ready.1 hi
      obtain rfl : o' = o := Option.some.inj (ho'.symm.trans ho)
      obtain ⟨g1, g2, g3⟩ := hgd i o' hin ho
      obtain ⟨k, hk, hk2⟩ := Array.any_eq_true.1 hj
      simp only [Bool.and_eq_true, beq_iff_eq] at hk2
      have hmem := Array.getElem_mem hk
      have hl := hwait _ hmem hk2.1
      have hlt := g2 _ hmem hk2.1
      rw [hk2.2] at hl hlt
      exact inv.known j (by omega) hl d hd
    have hwant : ∀ i o, i < n → i ∈ Region.ready .any ops done → ops[i]? = some o → Region.wanted o (yielded ops a.tmps) = true := by
      intro i o hin hi ho
      unfold Region.wanted
      cases hg : o.guard with
      | none => rfl
      | some gb =>
        obtain ⟨g, b⟩ := gb
        obtain ⟨q2, d, hd⟩ := (hgd i o hin ho).1 g b hg
        unfold Region.waitsFor at q2
        rw [ho] at q2
        have hv := hguard i o g b hin ho hg _ _ (hdeps i o hin hi ho g d hd q2)
        have hv2 : a.tmps[d]? = some (.bool b) := by
          rw [Array.getD_eq_getD_getElem?] at hv
          cases hq : a.tmps[d]? with
          | none => rw [hq] at hv; cases hv
          | some u => rw [hq] at hv; exact congrArg some hv
        have hy : yielded ops a.tmps g = some b := by
          unfold dstOf at hd
          unfold yielded
          rw [hd]
          simp [hv2]
        simp [hy]
    have hkeep : ∀ s, (∀ j, j < n → dstOf ops j ≠ some s) → a.tmps.getD s undef = a0.tmps.getD s undef := fun s hs' => by rw [Array.getD_eq_getD_getElem?, inv.keep s hs', ← Array.getD_eq_getD_getElem?]
    by_cases hbut : ∀ i, i < n → i ≠ late → done.getD i true = true
    · have hrl : r = late := Classical.byContradiction fun h => by
        have h1 := hbut r hr h
        rw [(mem_ready.1 hrr).1] at h1; cases h1
      subst hrl
      have hdn : done = doneBut ops n r := by
        apply Array.ext_getElem?
        intro i
        by_cases hi : i < ops.size
        · have hi' : i < done.size := by rw [inv.head.size]; exact hi
          have h1 : (doneBut ops n r)[i]? = some (decide (i < n) && decide (i ≠ r)) := by simp [doneBut, hi]
          rw [h1, Array.getElem?_eq_getElem hi']
          by_cases hin : i < n
          · by_cases hir : i = r
            · subst hir
              have := (mem_ready.1 hrr).1
              simp [hi'] at this
              simp [this]
            · have := hbut i hin hir
              simp [hi'] at this
              simp [hin, hir, this]
          · have := inv.head.tail i (by omega) hi
            simp [hi'] at this
            simp [hin, this]
        · rw [Array.getElem?_eq_none (by rw [inv.head.size]; omega), Array.getElem?_eq_none (by simp [doneBut]; omega)]
      obtain ⟨o, ho⟩ := hat r hr
      obtain ⟨v, hrun, hv⟩ := hlate o hr ho a w inv.cls hkeep (hdeps r o hr hrr ho)
      obtain ⟨q1, q2⟩ := hstep r o v w hr hrr ho hv (Below.refl _ w)
      have hw := hwant r o hr hrr ho
      have hfr := hlt8.resolve_left (by omega)
      rw [← hdn] at hfr
      exact wpAny_take ho hsel hfr.1 hfr.2 (fun c a w h => hQ c _ _ a w h) (.inl ⟨hw, hrun⟩) (ih _ _ _ q1 q2)
    · simp only [Classical.not_forall] at hbut
      obtain ⟨u, hu, hul, hud⟩ := hbut
      have hud' : done.getD u false = false := by
        have hi' : u < done.size := by rw [inv.head.size]; omega
        simp [hi'] at hud ⊢
        exact hud
      refine ⟨fun e => (by rw [e] at hrr; cases hrr), fun i hi => ?_⟩
      obtain ⟨hun, o, ho, hwait⟩ := mem_ready.1 hi
      have hin : i < n := Nat.lt_of_not_le fun h => by
        have his : i < ops.size := (Array.getElem?_eq_some_iff.1 ho).1
        have hw := ((hdir i his).resolve_left (by omega) u hu).resolve_left hul
        have := reachM_done inv.head.closed ho hwait hw (by omega)
        rw [hud'] at this
        cases this
      unfold wpOp
      rw [ho]
      have hw := hwant i o hin hi ho
      simp only [hw, if_true]
      refine .inl (Oper.wp_mono ?_ (hop i o hin ho a w inv.cls hkeep (hdeps i o hin hi ho)))
      rintro a' w' ⟨v, rfl, hv, hB⟩
      obtain ⟨q1, q2⟩ := hstep i o v w' hin hi ho hv hB
      exact ih _ _ _ q1 q2

/-- The region, told as a flow. -/
theorem wp_region_flowM {id : Nat} {Q : Exit → Act → World → Prop} {a : Act} {w : World} {l : List Oper} (n late : Nat) (I : Nat → Value → World → Prop) (hm : P.follows .mixedOrders = true) (hB : flowMB l.toArray n late a.tmps.size = true)
    (hQ : ∀ c d v a w, Q (.panic c) (a.put d v) w → Q (.panic c) a w)
    (hguard : ∀ i o g b, i < n → l.toArray[i]? = some o → o.guard = some (g, b) → ∀ v w, I g v w → v = .bool b)
    (hI : ∀ i v w w', i < n → I i v w → Below w.heap.size w w' → I i v w')
    (hop : ∀ i o, i < n → l.toArray[i]? = some o → ∀ a' w', Cls w w' → (∀ s, (∀ j, j < n → dstOf l.toArray j ≠ some s) → a'.tmps.getD s undef = a.tmps.getD s undef) →
      (∀ j d, dstOf l.toArray j = some d → (o.after.any fun e => Region.binds .any e && e.on == j) = true → I j (a'.tmps.getD d undef) w') →
      o.wp P a' w' (fun a'' w'' => ∃ v, a'' = a'.put o.dst v ∧ I i v w'' ∧ Below w'.heap.size w' w'') Q)
    (hlate : ∀ o, late < n → l.toArray[late]? = some o → ∀ (a' : Act) w', Cls w w' → (∀ s, (∀ j, j < n → dstOf l.toArray j ≠ some s) → a'.tmps.getD s undef = a.tmps.getD s undef) →
      (∀ j d, dstOf l.toArray j = some d → (o.after.any fun e => Region.binds .any e && e.on == j) = true → I j (a'.tmps.getD d undef) w') → ∃ v, (∀ w, (execOp a'.eval o).run P w = .ok (.value v) w) ∧ I late v w')
    (htail : ∀ v w', Cls w w' → (∀ i d, i < n → dstOf l.toArray i = some d → I i (v i) w') → wpList P l.toArray Q (l.drop n) (putAll v (l.take n) 0 a) w') : (Code.region id l.toArray true).wp P Q a w := by
  have hB' := hB
  simp only [flowMB, Bool.and_eq_true, decide_eq_true_eq] at hB'
  have hn : n < l.length := by simpa using hB'.1.1.1.1.1
  have h3 : (l.drop n).length = l.toArray.size - n := by simp
  refine wp_region_any hm ?_
  have hc0 : (List.range n).countP (fun i => !(Array.replicate l.toArray.size false).getD i true) = n := by
    have : (List.range n).countP (fun i => !(Array.replicate l.toArray.size false).getD i true) = (List.range n).length := List.countP_eq_length.2 fun i hi => by
      have := List.mem_range.1 hi
      simp [show i < l.length by omega]
    rw [this, List.length_range]
  have K := flowM_any (P := P) (Q := Q) (w0 := w) (a0 := a) hB hQ hguard hI hop hlate (fun v w' hc hv => by
    have := wpAny_of_seq (P := P) (md := .any) (Q' := Q) (l.drop n) n _ _ w' (fun j => by simp [List.getElem?_drop]) (by rw [h3]; exact hB'.2) (htail v w' hc hv)
    rw [h3] at this
    simpa using this) n (Array.replicate l.toArray.size false) a { w with drawn := w.drawn + 1 } hc0
    ⟨⟨by simp, fun j oj _ hx => (by rw [getD_replicate_false] at hx; cases hx), fun t _ ht => getD_in (by simpa using ht) (getD_replicate_false _ _)⟩, ⟨(Below.refl _ w).drew⟩, rfl, rfl, fun _ _ => rfl, fun i _ hx => (by rw [getD_replicate_false] at hx; cases hx)⟩
  rwa [show n + (l.toArray.size - n) = l.toArray.size by simp; omega] at K
end
end Go.Proofs.YtbmcmabimfoknaaGreatDoor

/- Big answers whether the sum of the lengths is over 500. -/
namespace Go.Proofs.YtbmcmabimfoknaaGreatDoor
open Go.RowKit Go.Shelf
set_option linter.unusedVariables false
set_option linter.unusedSimpArgs false
set_option maxRecDepth 100000

theorem run_addW {o : Oper} {a : Act} {w : World} (x y : Operand) (ho : o.op = .binOp .add 3 x y 3) (m n : Int) (hx : a.eval x = .int .i64 m) (hy : a.eval y = .int .i64 n) : (execOp a.eval o).run Tryz.prog w = .ok (.value (.int .i64 (IntKind.i64.wrap (m + n)))) w := by
  unfold execOp
  simp only [ho, hx, hy]
  simp [go_sem]
/-- Structs of sz cells, each with a slice of that length at this place. -/
def HdL (w : World) (ao : Option Addr) (n sz k : Nat) (l : Nat → Nat) : Prop := n = 0 ∨ ∃ b off, ao = some ⟨b, off, none⟩ ∧ ∀ i, i < n → ∃ o c, w.cell? ⟨b, off + i * sz + k, none⟩ = some (.slice o (l i) c)
def sumTo (l : Nat → Nat) : Nat → Nat
  | 0 => 0
  | t + 1 => sumTo l t + l t
theorem sumTo_le (l : Nat → Nat) (n : Nat) (h : ∀ i, i < n → l i ≤ 1048576) : ∀ t, t ≤ n → sumTo l t ≤ t * 1048576
  | 0, _ => by simp [sumTo]
  | t + 1, ht => by
    have h1 := sumTo_le l n h t (by omega)
    have h2 := h t (by omega)
    rw [sumTo]
    omega
set_option maxHeartbeats 4000000 in
theorem bigS_any (ra : List Nat) (ed : List Nat) (ec : Nat) (gr : List Nat) (a1 a2 a3 a4 a5 : Option Addr) (n1 n2 n3 n4 n5 c1 c2 c3 c4 c5 : Nat) (hra : Rt ra) (hed : Rt ed) (hgr : Rt gr) (w : World) (la lb lc : Nat → Nat) (h1 : n1 ≤ 1048576) (h2 : n2 ≤ 1048576) (h3 : n3 ≤ 1048576) (h4 : n4 ≤ 1048576) (h5 : n5 ≤ 1048576) (ha : ∀ i, i < n2 → la i ≤ 1048576) (hb : ∀ i, i < n2 → lb i ≤ 1048576) (hc : ∀ i, i < n3 → lc i ≤ 1048576)
    (hA : HdL w a2 n2 266 0 la) (hB : HdL w a2 n2 266 133 lb) (hC : HdL w a3 n3 133 0 lc) :
    Calls Tryz.prog 6 #[.agg (bdC ra ed ec gr (.slice a1 n1 c1) (.slice a2 n2 c2) (.slice a3 n3 c3) (.slice a4 n4 c4) (.slice a5 n5 c5)).toArray] w fun e w' => e = .returned (.bool (decide (500 < n1 + n2 + n3 + n4 + n5 + (sumTo la n2 + sumTo lb n2) + sumTo lc n3))) ∧ Below w.heap.size w w' := by
  have sgs : ∀ (i off : Nat) (v : Value), (bdP ra ed ec gr (.slice a1 n1 c1) (.slice a2 n2 c2) (.slice a3 n3 c3) (.slice a4 n4 c4) (.slice a5 n5 c5))[i]? = some [v] → ((bdP ra ed ec gr (.slice a1 n1 c1) (.slice a2 n2 c2) (.slice a3 n3 c3) (.slice a4 n4 c4) (.slice a5 n5 c5)).take i).flatten.length = off → (bdC ra ed ec gr (.slice a1 n1 c1) (.slice a2 n2 c2) (.slice a3 n3 c3) (.slice a4 n4 c4) (.slice a5 n5 c5))[off]? = some v := fun i off v h1 h2 => seg (ps := bdP ra ed ec gr (.slice a1 n1 c1) (.slice a2 n2 c2) (.slice a3 n3 c3) (.slice a4 n4 c4) (.slice a5 n5 c5)) (i := i) (off := off) h1 h2 0 v rfl
  have q1 := sgs 3 97 _ rfl (by simp [bdP, cellsB_length, hra.len, hgr.len, etC_length ed ec hed.len])
  have q2 := sgs 4 98 _ rfl (by simp [bdP, cellsB_length, hra.len, hgr.len, etC_length ed ec hed.len])
  have q3 := sgs 5 99 _ rfl (by simp [bdP, cellsB_length, hra.len, hgr.len, etC_length ed ec hed.len])
  have q4 := sgs 6 100 _ rfl (by simp [bdP, cellsB_length, hra.len, hgr.len, etC_length ed ec hed.len])
  have q5 := sgs 7 101 _ rfl (by simp [bdP, cellsB_length, hra.len, hgr.len, etC_length ed ec hed.len])
  obtain ⟨C, HCC⟩ : ∃ C, Same (bdC ra ed ec gr (.slice a1 n1 c1) (.slice a2 n2 c2) (.slice a3 n3 c3) (.slice a4 n4 c4) (.slice a5 n5 c5)) C := ⟨_, ⟨rfl⟩⟩
  rw [HCC.out] at q1 q2 q3 q4 q5 ⊢
  clear sgs HCC
  go_enter Tryz.func6, Tryz.ntmps6
  go_wp2_with ((with_reducible refine at_list' ?_); first
    | (refine wpList_box_c rfl 1 rfl (.tmp 0) rfl C rfl ?_; intro w1 H1 B1 S1; have k1 := H1.cell q1; have k2 := H1.cell q2; have k3 := H1.cell q3; have k4 := H1.cell q4; have k5 := H1.cell q5))
  have HK := hid (And.intro k2 k3)
  have L1 := hid B1
  have SA := sumTo_le la n2 ha
  have SB := sumTo_le lb n2 hb
  have SC := sumTo_le lc n3 hc
  have HSS := hid (And.intro SA (And.intro SB (And.intro SC (And.intro ha (And.intro hb hc)))))
  clear SA SB SC ha hb hc
  have HHA := hid hA
  have HHB := hid hB
  have HHC := hid hC
  clear H1 k1 k2 k3 k4 k5 q1 q2 q3 q4 q5 B1 hA hB hC
  go_loopw [3, 4, 28] (fun n _ i wr => ∃ (z : Nat) (t : Nat), n = .int .i64 (z : Int) ∧ z = n1 + n2 + n3 + n4 + n5 + (sumTo la t + sumTo lb t) ∧ t ≤ n2 ∧ i = .int .i64 (t : Nat) ∧ Below w1.heap.size w1 wr) (fun _ _ i _ => n2 - (intOf i).toNat)
  case atStart => exact ⟨n1 + n2 + n3 + n4 + n5, 0, by go_num, by simp [sumTo], Nat.zero_le _, rfl, Below.refl _ _⟩
  case round =>
    obtain ⟨z, t, rfl, hzz, ht, rfl, HW⟩ := hrel
    have b1 := HSS.out.1 t ht
    have b2 := HSS.out.2.1 t ht
    have hz1 : z ≤ 10000000000000 := by omega
    clear b1 b2
    have HZZ := hid hzz
    clear hzz
    by_cases hlt : t < n2
    · obtain ⟨b, off, rfl, hma⟩ := HHA.out.resolve_left (by omega)
      obtain ⟨b', off', e', hmb⟩ := HHB.out.resolve_left (by omega)
      cases e'
      obtain ⟨oa, ka, ha⟩ := hma t hlt
      have hm1 := HSS.out.2.2.2.1 t hlt
      have hm2 := HSS.out.2.2.2.2.1 t hlt
      obtain ⟨ma, HMA⟩ : ∃ m, Same (la t) m := ⟨_, ⟨rfl⟩⟩
      obtain ⟨mb, HMB⟩ : ∃ m, Same (lb t) m := ⟨_, ⟨rfl⟩⟩
      rw [HMA.out] at ha hm1
      obtain ⟨ob, kb, hb⟩ := hmb t hlt
      rw [HMB.out] at hb hm2
      have HC2 := hid (cell_keep HW HK.out.1)
      have HEa := hid (cell_keep HW (cell_keep L1.out ha))
      have HEb := hid (cell_keep HW (cell_keep L1.out hb))
      have HHW := hid HW
      clear hma hmb ha hb HW
      go_wp2_with fail
      try simp only [Act.put, List.setIfInBounds_toArray, List.set_cons_succ, List.set_cons_zero]
      refine wp_region_flowM 19 19 (fun i v wq => match i with
        | 0 => v = .int .i64 (z : Nat)
        | 1 => v = .pointer (some ⟨w.heap.size, 98, none⟩)
        | 2 => v = .slice (some ⟨b, off, none⟩) n2 c2
        | 3 => v = .int .i64 (t : Nat)
        | 4 => v = .pointer (some ⟨b, off + t * 266, none⟩)
        | 5 => v = .pointer (some ⟨b, off + t * 266, none⟩)
        | 6 => v = .pointer (some ⟨b, off + t * 266, none⟩)
        | 7 => v = .slice oa ma ka
        | 8 => v = .int .i64 (ma : Nat)
        | 9 => v = .pointer (some ⟨w.heap.size, 98, none⟩)
        | 10 => v = .slice (some ⟨b, off, none⟩) n2 c2
        | 11 => v = .int .i64 (t : Nat)
        | 12 => v = .pointer (some ⟨b, off + t * 266, none⟩)
        | 13 => v = .pointer (some ⟨b, off + t * 266 + 133, none⟩)
        | 14 => v = .pointer (some ⟨b, off + t * 266 + 133, none⟩)
        | 15 => v = .slice ob mb kb
        | 16 => v = .int .i64 (mb : Nat)
        | 17 => v = .int .i64 ((ma + mb : Nat) : Int)
        | _ => v = .int .i64 ((z + (ma + mb) : Nat) : Int)) (by kernel_rfl) (by kernel_rfl) (fun _ d _ _ _ h => by cases d <;> exact h) ?_ ?_ ?_ ?_ ?_
      · intro i o g b hi ho hg v wq hv
        match i, hi with
        | 0, _ => cases ho; cases hg
        | 1, _ => cases ho; cases hg
        | 2, _ => cases ho; cases hg
        | 3, _ => cases ho; cases hg
        | 4, _ => cases ho; cases hg
        | 5, _ => cases ho; cases hg
        | 6, _ => cases ho; cases hg
        | 7, _ => cases ho; cases hg
        | 8, _ => cases ho; cases hg
        | 9, _ => cases ho; cases hg
        | 10, _ => cases ho; cases hg
        | 11, _ => cases ho; cases hg
        | 12, _ => cases ho; cases hg
        | 13, _ => cases ho; cases hg
        | 14, _ => cases ho; cases hg
        | 15, _ => cases ho; cases hg
        | 16, _ => cases ho; cases hg
        | 17, _ => cases ho; cases hg
        | 18, _ => cases ho; cases hg
        | (k + 19), hk => exact absurd hk (by omega)
      · intro i v wq wq' hi hv hb
        match i, hi with
        | 0, _ => exact hv
        | 1, _ => exact hv
        | 2, _ => exact hv
        | 3, _ => exact hv
        | 4, _ => exact hv
        | 5, _ => exact hv
        | 6, _ => exact hv
        | 7, _ => exact hv
        | 8, _ => exact hv
        | 9, _ => exact hv
        | 10, _ => exact hv
        | 11, _ => exact hv
        | 12, _ => exact hv
        | 13, _ => exact hv
        | 14, _ => exact hv
        | 15, _ => exact hv
        | 16, _ => exact hv
        | 17, _ => exact hv
        | 18, _ => exact hv
        | (k + 19), hk => exact absurd hk (by omega)
      · intro i o hi ho aq wq hc hk hdep
        match i, hi with
        | 0, _ =>
          cases ho
          exact flow_move (.tmp 3) rfl (hk 3 (by decide))
        | 1, _ =>
          cases ho
          have e1 : aq.tmps.getD 1 undef = .pointer (some ⟨w.heap.size, 0, none⟩) := hk 1 (by decide)
          exact flow_value _ (run_fieldAt 33 (.tmp 1) 4 rfl _ _ e1 (by kernel_rfl)) rfl
        | 2, _ =>
          cases ho
          have e0 : aq.tmps.getD 32 undef = .pointer (some ⟨w.heap.size, 98, none⟩) := hdep 1 32 rfl (by kernel_rfl)
          exact flow_value _ (run_cell 28 (.tmp 32) rfl _ e0 _ (cell_keep (hcB hc) HC2.out) _ Tryz.underlying28 rfl) rfl
        | 3, _ =>
          cases ho
          exact flow_move (.tmp 4) rfl (hk 4 (by decide))
        | 4, _ =>
          cases ho
          have e0 : aq.tmps.getD 33 undef = .slice (some ⟨b, off, none⟩) n2 c2 := hdep 2 33 rfl (by kernel_rfl)
          have e1 : aq.tmps.getD 34 undef = .int .i64 (t : Nat) := hdep 3 34 rfl (by kernel_rfl)
          exact flow_value _ (run_atG 28 65 266 (.tmp 33) (.tmp 34) rfl Tryz.underlying28 (by kernel_rfl) b off n2 c2 t e0 e1 hlt) rfl
        | 5, _ =>
          cases ho
          have e0 : aq.tmps.getD 35 undef = .pointer (some ⟨b, off + t * 266, none⟩) := hdep 4 35 rfl (by kernel_rfl)
          exact flow_value _ (run_fieldAt 65 (.tmp 35) 0 rfl _ _ e0 (by kernel_rfl)) rfl
        | 6, _ =>
          cases ho
          have e0 : aq.tmps.getD 36 undef = .pointer (some ⟨b, off + t * 266, none⟩) := hdep 5 36 rfl (by kernel_rfl)
          exact flow_value _ (run_fieldAt 63 (.tmp 36) 0 rfl _ _ e0 (by kernel_rfl)) rfl
        | 7, _ =>
          cases ho
          have e0 : aq.tmps.getD 37 undef = .pointer (some ⟨b, off + t * 266, none⟩) := hdep 6 37 rfl (by kernel_rfl)
          exact flow_value _ (run_cell 59 (.tmp 37) rfl _ e0 _ (cell_keep (hcB hc) HEa.out) _ Tryz.underlying59 rfl) rfl
        | 8, _ =>
          cases ho
          have e0 : aq.tmps.getD 38 undef = .slice oa ma ka := hdep 7 38 rfl (by kernel_rfl)
          exact flow_value _ (run_len (.tmp 38) 59 rfl oa ma ka e0 _ Tryz.underlying59) rfl
        | 9, _ =>
          cases ho
          have e1 : aq.tmps.getD 1 undef = .pointer (some ⟨w.heap.size, 0, none⟩) := hk 1 (by decide)
          exact flow_value _ (run_fieldAt 33 (.tmp 1) 4 rfl _ _ e1 (by kernel_rfl)) rfl
        | 10, _ =>
          cases ho
          have e0 : aq.tmps.getD 40 undef = .pointer (some ⟨w.heap.size, 98, none⟩) := hdep 9 40 rfl (by kernel_rfl)
          exact flow_value _ (run_cell 28 (.tmp 40) rfl _ e0 _ (cell_keep (hcB hc) HC2.out) _ Tryz.underlying28 rfl) rfl
        | 11, _ =>
          cases ho
          exact flow_move (.tmp 4) rfl (hk 4 (by decide))
        | 12, _ =>
          cases ho
          have e0 : aq.tmps.getD 41 undef = .slice (some ⟨b, off, none⟩) n2 c2 := hdep 10 41 rfl (by kernel_rfl)
          have e1 : aq.tmps.getD 42 undef = .int .i64 (t : Nat) := hdep 11 42 rfl (by kernel_rfl)
          exact flow_value _ (run_atG 28 65 266 (.tmp 41) (.tmp 42) rfl Tryz.underlying28 (by kernel_rfl) b off n2 c2 t e0 e1 hlt) rfl
        | 13, _ =>
          cases ho
          have e0 : aq.tmps.getD 43 undef = .pointer (some ⟨b, off + t * 266, none⟩) := hdep 12 43 rfl (by kernel_rfl)
          exact flow_value _ (run_fieldAt 65 (.tmp 43) 1 rfl _ _ e0 (by kernel_rfl)) rfl
        | 14, _ =>
          cases ho
          have e0 : aq.tmps.getD 44 undef = .pointer (some ⟨b, off + t * 266 + 133, none⟩) := hdep 13 44 rfl (by kernel_rfl)
          exact flow_value _ (run_fieldAt 63 (.tmp 44) 0 rfl _ _ e0 (by kernel_rfl)) rfl
        | 15, _ =>
          cases ho
          have e0 : aq.tmps.getD 45 undef = .pointer (some ⟨b, off + t * 266 + 133, none⟩) := hdep 14 45 rfl (by kernel_rfl)
          exact flow_value _ (run_cell 59 (.tmp 45) rfl _ e0 _ (cell_keep (hcB hc) HEb.out) _ Tryz.underlying59 rfl) rfl
        | 16, _ =>
          cases ho
          have e0 : aq.tmps.getD 46 undef = .slice ob mb kb := hdep 15 46 rfl (by kernel_rfl)
          exact flow_value _ (run_len (.tmp 46) 59 rfl ob mb kb e0 _ Tryz.underlying59) rfl
        | 17, _ =>
          cases ho
          have e0 : aq.tmps.getD 39 undef = .int .i64 (ma : Nat) := hdep 8 39 rfl (by kernel_rfl)
          have e1 : aq.tmps.getD 47 undef = .int .i64 (mb : Nat) := hdep 16 47 rfl (by kernel_rfl)
          exact flow_value _ (run_addW (.tmp 39) (.tmp 47) rfl _ _ e0 e1) (by show (Value.int .i64 (IntKind.i64.wrap ((ma : Int) + (mb : Int))) : Value) = .int .i64 ((ma + mb : Nat) : Int); rw [show IntKind.i64.wrap ((ma : Int) + (mb : Int)) = ((ma + mb : Nat) : Int) from by rw [IntKind.wrap_i64]; omega])
        | 18, _ =>
          cases ho
          have e0 : aq.tmps.getD 31 undef = .int .i64 (z : Nat) := hdep 0 31 rfl (by kernel_rfl)
          have e1 : aq.tmps.getD 48 undef = .int .i64 ((ma + mb : Nat) : Int) := hdep 17 48 rfl (by kernel_rfl)
          exact flow_value _ (run_addW (.tmp 31) (.tmp 48) rfl _ _ e0 e1) (by show (Value.int .i64 (IntKind.i64.wrap ((z : Int) + ((ma + mb : Nat) : Int))) : Value) = .int .i64 ((z + (ma + mb) : Nat) : Int); rw [show IntKind.i64.wrap ((z : Int) + ((ma + mb : Nat) : Int)) = ((z + (ma + mb) : Nat) : Int) from by rw [IntKind.wrap_i64]; omega])
        | (k + 19), hk => exact absurd hk (by omega)
      · intro o h19 ho
        omega
      intro vf w9 hc hv
      have e9 : vf 18 = .int .i64 ((z + (ma + mb) : Nat) : Int) := hv 18 49 (by decide) rfl
      have B9 := hid (HHW.out.trans ((hcB hc).mono HHW.out.size))
      clear hv hc
      simp only [List.take_succ_cons, List.take_zero, List.drop_succ_cons, List.drop_zero, putAll, Act.put, List.setIfInBounds_toArray, List.set_cons_succ, List.set_cons_zero]
      rw [e9]
      clear e9 HC2 HEa HEb
      go_wp2_with fail
      go_roundw
      case rel =>
        have e1 : sumTo la (t + 1) = sumTo la t + ma := by rw [← HMA.out]; rfl
        have e2 : sumTo lb (t + 1) = sumTo lb t + mb := by rw [← HMB.out]; rfl
        have e3 := HZZ.out
        exact ⟨z + (ma + mb), t + 1, rfl, by omega, by omega, by go_num, B9.out⟩
      case measure => simp [intOf]; omega
    · have ht2 : t = n2 := by omega
      subst ht2
      have k3' := cell_keep HW HK.out.2
      have HHW := hid HW
      clear HW
      go_wp2_with fail
      go_loopw [3, 5, 54] (fun n _ i wr => ∃ (z : Nat) (t3 : Nat), n = .int .i64 (z : Int) ∧ z = n1 + t + n3 + n4 + n5 + (sumTo la t + sumTo lb t) + sumTo lc t3 ∧ t3 ≤ n3 ∧ i = .int .i64 (t3 : Nat) ∧ Below w1.heap.size w1 wr) (fun _ _ i _ => n3 - (intOf i).toNat)
      case atStart => exact ⟨z, 0, rfl, by have := HZZ.out; simp only [sumTo]; omega, Nat.zero_le _, rfl, HHW.out⟩
      case round =>
        clear k3'
        obtain ⟨z3, t3, rfl, hz3, ht3, rfl, HW3⟩ := hrel
        have b1 := HSS.out.1 t (Nat.le_refl _)
        have b2 := HSS.out.2.1 t (Nat.le_refl _)
        have b3 := HSS.out.2.2.1 t3 ht3
        have hzb : z3 ≤ 10000000000000 := by omega
        clear b1 b2 b3
        have HZ3 := hid hz3
        clear hz3
        by_cases hlt3 : t3 < n3
        · obtain ⟨b, off, rfl, hma⟩ := HHC.out.resolve_left (by omega)
          obtain ⟨oa, ka, ha⟩ := hma t3 hlt3
          have hm3 := HSS.out.2.2.2.2.2 t3 hlt3
          obtain ⟨mc, HMC⟩ : ∃ m, Same (lc t3) m := ⟨_, ⟨rfl⟩⟩
          rw [HMC.out] at ha hm3
          have k3' := cell_keep HW3 HK.out.2
          have k3a := cell_keep HW3 (cell_keep L1.out ha)
          rw [Nat.add_zero] at k3a
          have HHW3 := hid HW3
          clear hma ha HW3
          go_wp2_with fail
          go_roundw
          case rel =>
            have e1 : sumTo lc (t3 + 1) = sumTo lc t3 + mc := by rw [← HMC.out]; rfl
            have e3 := HZ3.out
            exact ⟨z3 + mc, t3 + 1, by go_num, by omega, by omega, by go_num, HHW3.out⟩
          case measure => simp [intOf]; omega
        · have ht4 : t3 = n3 := by omega
          subst ht4
          have HHW3 := hid HW3
          clear HW3
          go_wp2
          go_ret
          have e3 := HZ3.out
          refine ⟨?_, L1.out.trans (HHW3.out.mono L1.out.size)⟩
          rw [← e3]
          show Ending.returned (Value.bool (decide ((500 : Int) < (z3 : Int)))) = Ending.returned (Value.bool (decide (500 < z3)))
          rw [show decide ((500 : Int) < (z3 : Int)) = decide (500 < z3) from decide_eq_decide.2 (by omega)]
end Go.Proofs.YtbmcmabimfoknaaGreatDoor

/- Two roots compared. -/
namespace Go.Proofs.YtbmcmabimfoknaaGreatDoor
open Go.RowKit
set_option linter.unusedVariables false
set_option linter.unusedSimpArgs false
set_option maxRecDepth 100000

theorem run_same_root {o : Oper} {a : Act} {w : World} (x y : Operand) (ho : o.op = .binOp .eql 23 x y 23) (r : List Nat) (hr : Rt r) (hx : a.eval x = .agg (nums .u8 r)) (hy : a.eval y = .agg (nums .u8 r)) : (execOp a.eval o).run Tryz.prog w = .ok (.value (.bool true)) w := by
  have h := eql_api r r hr.len hr.len hr.byte hr.byte w
  simp only [decide_true] at h
  unfold execOp
  simp only [ho, hx, hy]
  simp [go_sem, h]
end Go.Proofs.YtbmcmabimfoknaaGreatDoor

