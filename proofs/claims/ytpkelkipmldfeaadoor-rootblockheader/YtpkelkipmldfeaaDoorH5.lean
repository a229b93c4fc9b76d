/- Own texts of the proof, joined: CoAttesterSlashing BitsL Bits6 CoAttestation CoSignedHeader CoProposerSlashing CoExit CoSignedExit. -/
import Derived.Test.YtpkelkipmldfeaaDoorH4
/- The root of a struct (AttesterSlashing), by the program. -/
namespace Go.Proofs.YtpkelkipmldfeaaDoor
open Go.RowKit Go.Shelf
set_option linter.unusedVariables false
set_option linter.unusedSimpArgs false
set_option maxRecDepth 100000

def asP (zazno : Option Addr) (zaznc : Nat) (zaznl : List Nat) (zazdzs : Nat) (zazdzi : Nat) (zazdzb : List Nat) (zazdzcze : Nat) (zazdzczr : List Nat) (zazdztze : Nat) (zazdztzr : List Nat) (zazsg : List Nat) (zzzno : Option Addr) (zzznc : Nat) (zzznl : List Nat) (zzzdzs : Nat) (zzzdzi : Nat) (zzzdzb : List Nat) (zzzdzcze : Nat) (zzzdzczr : List Nat) (zzzdztze : Nat) (zzzdztzr : List Nat) (zzzsg : List Nat) : List (List Value) := [ixC zazno zaznc zaznl zazdzs zazdzi zazdzb zazdzcze zazdzczr zazdztze zazdztzr zazsg, ixC zzzno zzznc zzznl zzzdzs zzzdzi zzzdzb zzzdzcze zzzdzczr zzzdztze zzzdztzr zzzsg]
def asC (zazno : Option Addr) (zaznc : Nat) (zaznl : List Nat) (zazdzs : Nat) (zazdzi : Nat) (zazdzb : List Nat) (zazdzcze : Nat) (zazdzczr : List Nat) (zazdztze : Nat) (zazdztzr : List Nat) (zazsg : List Nat) (zzzno : Option Addr) (zzznc : Nat) (zzznl : List Nat) (zzzdzs : Nat) (zzzdzi : Nat) (zzzdzb : List Nat) (zzzdzcze : Nat) (zzzdzczr : List Nat) (zzzdztze : Nat) (zzzdztzr : List Nat) (zzzsg : List Nat) : List Value := (asP zazno zaznc zaznl zazdzs zazdzi zazdzb zazdzcze zazdzczr zazdztze zazdztzr zazsg zzzno zzznc zzznl zzzdzs zzzdzi zzzdzb zzzdzcze zzzdzczr zzzdztze zzzdztzr zzzsg).flatten
theorem asC_length (zazno : Option Addr) (zaznc : Nat) (zaznl : List Nat) (zazdzs : Nat) (zazdzi : Nat) (zazdzb : List Nat) (zazdzcze : Nat) (zazdzczr : List Nat) (zazdztze : Nat) (zazdztzr : List Nat) (zazsg : List Nat) (zzzno : Option Addr) (zzznc : Nat) (zzznl : List Nat) (zzzdzs : Nat) (zzzdzi : Nat) (zzzdzb : List Nat) (zzzdzcze : Nat) (zzzdzczr : List Nat) (zzzdztze : Nat) (zzzdztzr : List Nat) (zzzsg : List Nat) (hzazdzb : zazdzb.length = 32) (hzazdzczr : zazdzczr.length = 32) (hzazdztzr : zazdztzr.length = 32) (hzazsg : zazsg.length = 32) (hzzzdzb : zzzdzb.length = 32) (hzzzdzczr : zzzdzczr.length = 32) (hzzzdztzr : zzzdztzr.length = 32) (hzzzsg : zzzsg.length = 32) : (asC zazno zaznc zaznl zazdzs zazdzi zazdzb zazdzcze zazdzczr zazdztze zazdztzr zazsg zzzno zzznc zzznl zzzdzs zzzdzi zzzdzb zzzdzcze zzzdzczr zzzdztze zzzdztzr zzzsg).length = 266 := by simp [asC, asP, cellsB_length, hzazdzb, hzazdzczr, hzazdztzr, hzazsg, hzzzdzb, hzzzdzczr, hzzzdztzr, hzzzsg, ixC_length zazno zaznc zaznl zazdzs zazdzi zazdzb zazdzcze zazdzczr zazdztze zazdztzr zazsg hzazdzb hzazdzczr hzazdztzr hzazsg, ixC_length zzzno zzznc zzznl zzzdzs zzzdzi zzzdzb zzzdzcze zzzdzczr zzzdztze zzzdztzr zzzsg hzzzdzb hzzzdzczr hzzzdztzr hzzzsg]
def asR (zazno : Option Addr) (zaznc : Nat) (zaznl : List Nat) (zazdzs : Nat) (zazdzi : Nat) (zazdzb : List Nat) (zazdzcze : Nat) (zazdzczr : List Nat) (zazdztze : Nat) (zazdztzr : List Nat) (zazsg : List Nat) (zzzno : Option Addr) (zzznc : Nat) (zzznl : List Nat) (zzzdzs : Nat) (zzzdzi : Nat) (zzzdzb : List Nat) (zzzdzcze : Nat) (zzzdzczr : List Nat) (zzzdztze : Nat) (zzzdztzr : List Nat) (zzzsg : List Nat) : List Nat := fullR (depth (([ixR zazno zaznc zaznl zazdzs zazdzi zazdzb zazdzcze zazdzczr zazdztze zazdztzr zazsg, ixR zzzno zzznc zzznl zzzdzs zzzdzi zzzdzb zzzdzcze zzzdzczr zzzdztze zzzdztzr zzzsg] : List (List Nat)).length : Nat)) [ixR zazno zaznc zaznl zazdzs zazdzi zazdzb zazdzcze zazdzczr zazdztze zazdztzr zazsg, ixR zzzno zzznc zzznl zzzdzs zzzdzi zzzdzb zzzdzcze zzzdzczr zzzdztze zzzdztzr zzzsg]
theorem asR_rt (zazno : Option Addr) (zaznc : Nat) (zaznl : List Nat) (zazdzs : Nat) (zazdzi : Nat) (zazdzb : List Nat) (zazdzcze : Nat) (zazdzczr : List Nat) (zazdztze : Nat) (zazdztzr : List Nat) (zazsg : List Nat) (zzzno : Option Addr) (zzznc : Nat) (zzznl : List Nat) (zzzdzs : Nat) (zzzdzi : Nat) (zzzdzb : List Nat) (zzzdzcze : Nat) (zzzdzczr : List Nat) (zzzdztze : Nat) (zzzdztzr : List Nat) (zzzsg : List Nat) (hzazdzb : Rt zazdzb) (hzazdzczr : Rt zazdzczr) (hzazdztzr : Rt zazdztzr) (hzazsg : Rt zazsg) (hzzzdzb : Rt zzzdzb) (hzzzdzczr : Rt zzzdzczr) (hzzzdztzr : Rt zzzdztzr) (hzzzsg : Rt zzzsg) : Rt (asR zazno zaznc zaznl zazdzs zazdzi zazdzb zazdzcze zazdzczr zazdztze zazdztzr zazsg zzzno zzznc zzznl zzzdzs zzzdzi zzzdzb zzzdzcze zzzdzczr zzzdztze zzzdztzr zzzsg) := full_rt _ _ (Rts.more (ixR_rt zazno zaznc zaznl zazdzs zazdzi zazdzb zazdzcze zazdzczr zazdztze zazdztzr zazsg hzazdzb hzazdzczr hzazdztzr hzazsg) (Rts.more (ixR_rt zzzno zzznc zzznl zzzdzs zzzdzi zzzdzb zzzdzcze zzzdzczr zzzdztze zzzdztzr zzzsg hzzzdzb hzzzdzczr hzzzdztzr hzzzsg) Rts.nil))
set_option maxHeartbeats 2000000 in
theorem asR_any (zazno : Option Addr) (zaznc : Nat) (zaznl : List Nat) (zazdzs : Nat) (zazdzi : Nat) (zazdzb : List Nat) (zazdzcze : Nat) (zazdzczr : List Nat) (zazdztze : Nat) (zazdztzr : List Nat) (zazsg : List Nat) (zzzno : Option Addr) (zzznc : Nat) (zzznl : List Nat) (zzzdzs : Nat) (zzzdzi : Nat) (zzzdzb : List Nat) (zzzdzcze : Nat) (zzzdzczr : List Nat) (zzzdztze : Nat) (zzzdztzr : List Nat) (zzzsg : List Nat) (hzazdzs : zazdzs < 18446744073709551616) (hzazdzi : zazdzi < 18446744073709551616) (hzazdzb : Rt zazdzb) (hzazdzcze : zazdzcze < 18446744073709551616) (hzazdzczr : Rt zazdzczr) (hzazdztze : zazdztze < 18446744073709551616) (hzazdztzr : Rt zazdztzr) (hzazsg : Rt zazsg) (hzzzdzs : zzzdzs < 18446744073709551616) (hzzzdzi : zzzdzi < 18446744073709551616) (hzzzdzb : Rt zzzdzb) (hzzzdzcze : zzzdzcze < 18446744073709551616) (hzzzdzczr : Rt zzzdzczr) (hzzzdztze : zzzdztze < 18446744073709551616) (hzzzdztzr : Rt zzzdztzr) (hzzzsg : Rt zzzsg) (w : World) (hT : Tabs w) (hzazn : IsN w (.slice zazno zaznl.length zaznc) zaznl) (hzaznn : zaznl.length ≤ 17592186043904) (hzzzn : IsN w (.slice zzzno zzznl.length zzznc) zzznl) (hzzznn : zzznl.length ≤ 17592186043904) :
    Calls Tryd.prog 19 #[.agg (asC zazno zaznc zaznl zazdzs zazdzi zazdzb zazdzcze zazdzczr zazdztze zazdztzr zazsg zzzno zzznc zzznl zzzdzs zzzdzi zzzdzb zzzdzcze zzzdzczr zzzdztze zzzdztzr zzzsg).toArray] w fun x w' => x = .returned (.agg (nums .u8 (asR zazno zaznc zaznl zazdzs zazdzi zazdzb zazdzcze zazdzczr zazdztze zazdztzr zazsg zzzno zzznc zzznl zzzdzs zzzdzi zzzdzb zzzdzcze zzzdzczr zzzdztze zzzdztzr zzzsg))) ∧ Below w.heap.size w w' := by
  have hfr := asR_rt zazno zaznc zaznl zazdzs zazdzi zazdzb zazdzcze zazdzczr zazdztze zazdztzr zazsg zzzno zzznc zzznl zzzdzs zzzdzi zzzdzb zzzdzcze zzzdzczr zzzdztze zzzdztzr zzzsg hzazdzb hzazdzczr hzazdztzr hzazsg hzzzdzb hzzzdzczr hzzzdztzr hzzzsg
  obtain ⟨W, HW⟩ : ∃ W, Same (asR zazno zaznc zaznl zazdzs zazdzi zazdzb zazdzcze zazdzczr zazdztze zazdztzr zazsg zzzno zzznc zzznl zzzdzs zzzdzi zzzdzb zzzdzcze zzzdzczr zzzdztze zzzdztzr zzzsg) W := ⟨_, ⟨rfl⟩⟩
  rw [HW.out] at hfr ⊢
  go_enter Tryd.func19, Tryd.ntmps19
  go_wp2_with ((with_reducible refine at_list' ?_); first
    | (refine wpList_box_c rfl 1 rfl (.tmp 0) rfl (asC zazno zaznc zaznl zazdzs zazdzi zazdzb zazdzcze zazdzczr zazdztze zazdztzr zazsg zzzno zzznc zzznl zzzdzs zzzdzi zzzdzb zzzdzcze zzzdzczr zzzdztze zzzdztzr zzzsg) rfl ?_; intro w1 H1 B1 S1)
    | (refine wpList_alloc_has rfl 2 rfl 24 rfl .u8 32 Tryd.zero24 ?_; intro w2 H2 B2 S2; rw [S1] at H2 S2; rw [S1]))
  have HX := hid (H1.keep B2)
  have HY := hid H2
  have HB := hid (B1.trans (B2.mono (by omega)))
  have HT := hid (hT.keep HB.out)
  have s2 : w2.heap.size = w.heap.size + 2 := by omega
  clear H1 B1 S1 H2 B2 S2
  try simp only [Act.put, List.setIfInBounds_toArray, List.set_cons_succ, List.set_cons_zero]
  refine wp_region_flow 8 8 (fun i v wq => match i with
    | 0 => v = .pointer (some ⟨w.heap.size, 0, none⟩)
    | 1 => v = .agg (ixC zazno zaznc zaznl zazdzs zazdzi zazdzb zazdzcze zazdzczr zazdztze zazdztzr zazsg).toArray
    | 2 => v = .agg (nums .u8 (ixR zazno zaznc zaznl zazdzs zazdzi zazdzb zazdzcze zazdzczr zazdztze zazdztzr zazsg))
    | 3 => v = .pointer (some ⟨w.heap.size, 133, none⟩)
    | 4 => v = .agg (ixC zzzno zzznc zzznl zzzdzs zzzdzi zzzdzb zzzdzcze zzzdzczr zzzdztze zzzdztzr zzzsg).toArray
    | 5 => v = .agg (nums .u8 (ixR zzzno zzznc zzznl zzzdzs zzzdzi zzzdzb zzzdzcze zzzdzczr zzzdztze zzzdztzr zzzsg))
    | 6 => ∃ b, v = .slice (some ⟨b, 0, none⟩) 2 2 ∧ RootsAt wq (some ⟨b, 0, none⟩) [ixR zazno zaznc zaznl zazdzs zazdzi zazdzb zazdzcze zazdzczr zazdztze zazdztzr zazsg, ixR zzzno zzznc zzznl zzzdzs zzzdzi zzzdzb zzzdzcze zzzdzczr zzzdztze zzzdztzr zzzsg]
    | _ => v = .agg (nums .u8 W)) (by kernel_rfl) (by kernel_rfl) (fun _ d _ _ _ h => by cases d <;> exact h) ?_ ?_ ?_ ?_
  · intro i v wq wq' hi hv hb
    match i, hi with
    | 0, _ => exact hv
    | 1, _ => exact hv
    | 2, _ => exact hv
    | 3, _ => exact hv
    | 4, _ => exact hv
    | 5, _ => exact hv
    | 6, _ => obtain ⟨b, h1, h2⟩ := hv; exact ⟨b, h1, h2.keep hb⟩
    | 7, _ => exact hv
    | (k + 8), hk => exact absurd hk (by omega)
  · intro i o hi ho aq wq hc hk hdep
    match i, hi with
    | 0, _ =>
      cases ho
      have e1 : aq.tmps.getD 1 undef = .pointer (some ⟨w.heap.size, 0, none⟩) := hk 1 (by decide)
      exact flow_value _ (run_fieldAt 57 (.tmp 1) 0 rfl _ _ e1 (by kernel_rfl)) rfl
    | 1, _ =>
      cases ho
      have e0 : aq.tmps.getD 3 undef = .pointer (some ⟨w.heap.size, 0, none⟩) := hdep 0 3 rfl (by kernel_rfl)
      exact flow_value _ (run_mid 55 (.tmp 3) rfl w.heap.size 0 e0 (ixC zazno zaznc zaznl zazdzs zazdzi zazdzb zazdzcze zazdzczr zazdztze zazdztzr zazsg) ((HX.out.keep (hcB hc)).range 0 (ixC zazno zaznc zaznl zazdzs zazdzi zazdzb zazdzcze zazdzczr zazdztze zazdztzr zazsg) (seg (ps := asP zazno zaznc zaznl zazdzs zazdzi zazdzb zazdzcze zazdzczr zazdztze zazdztzr zazsg zzzno zzznc zzznl zzzdzs zzzdzi zzzdzb zzzdzcze zzzdzczr zzzdztze zzzdztzr zzzsg) (i := 0) (off := 0) rfl (by simp [asP, cellsB_length, hzazdzb.len, hzazdzczr.len, hzazdztzr.len, hzazsg.len, hzzzdzb.len, hzzzdzczr.len, hzzzdztzr.len, hzzzsg.len, ixC_length zazno zaznc zaznl zazdzs zazdzi zazdzb zazdzcze zazdzczr zazdztze zazdztzr zazsg hzazdzb.len hzazdzczr.len hzazdztzr.len hzazsg.len, ixC_length zzzno zzznc zzznl zzzdzs zzzdzi zzzdzb zzzdzcze zzzdzczr zzzdztze zzzdztzr zzzsg hzzzdzb.len hzzzdzczr.len hzzzdztzr.len hzzzsg.len]))) _ Tryd.underlying55 rfl (by rw [ixC_length zazno zaznc zaznl zazdzs zazdzi zazdzb zazdzcze zazdzczr zazdztze zazdztzr zazsg hzazdzb.len hzazdzczr.len hzazdztzr.len hzazsg.len]; kernel_rfl)) rfl
    | 2, _ =>
      cases ho
      have e0 : aq.tmps.getD 4 undef = .agg (ixC zazno zaznc zaznl zazdzs zazdzi zazdzb zazdzcze zazdzczr zazdztze zazdztzr zazsg).toArray := hdep 1 4 rfl (by kernel_rfl)
      refine flow_fun 34 _ _ rfl (fun _ _ => by simp [go_sem]) #[.agg (ixC zazno zaznc zaznl zazdzs zazdzi zazdzb zazdzcze zazdzczr zazdztze zazdztzr zazsg).toArray] (by rw [show (#[Operand.tmp 4] : Array Operand).map aq.eval = #[aq.tmps.getD 4 undef] from by simp [Act.eval], e0]) ?_
      refine (ixR_any zazno zaznc zaznl zazdzs zazdzi zazdzb zazdzcze zazdzczr zazdztze zazdztzr zazsg hzazdzs hzazdzi hzazdzb hzazdzcze hzazdzczr hzazdztze hzazdztzr hzazsg wq (HT.out.keep (hcB hc)) (hzazn.keep (HB.out.trans ((hcB hc).mono HB.out.size))) hzaznn).mono ?_
      rintro x w' ⟨rfl, q⟩
      exact ⟨_, rfl, rfl, q⟩
    | 3, _ =>
      cases ho
      have e1 : aq.tmps.getD 1 undef = .pointer (some ⟨w.heap.size, 0, none⟩) := hk 1 (by decide)
      exact flow_value _ (run_fieldAt 57 (.tmp 1) 1 rfl _ _ e1 (by kernel_rfl)) rfl
    | 4, _ =>
      cases ho
      have e0 : aq.tmps.getD 6 undef = .pointer (some ⟨w.heap.size, 133, none⟩) := hdep 3 6 rfl (by kernel_rfl)
      exact flow_value _ (run_mid 55 (.tmp 6) rfl w.heap.size 133 e0 (ixC zzzno zzznc zzznl zzzdzs zzzdzi zzzdzb zzzdzcze zzzdzczr zzzdztze zzzdztzr zzzsg) ((HX.out.keep (hcB hc)).range 133 (ixC zzzno zzznc zzznl zzzdzs zzzdzi zzzdzb zzzdzcze zzzdzczr zzzdztze zzzdztzr zzzsg) (seg (ps := asP zazno zaznc zaznl zazdzs zazdzi zazdzb zazdzcze zazdzczr zazdztze zazdztzr zazsg zzzno zzznc zzznl zzzdzs zzzdzi zzzdzb zzzdzcze zzzdzczr zzzdztze zzzdztzr zzzsg) (i := 1) (off := 133) rfl (by simp [asP, cellsB_length, hzazdzb.len, hzazdzczr.len, hzazdztzr.len, hzazsg.len, hzzzdzb.len, hzzzdzczr.len, hzzzdztzr.len, hzzzsg.len, ixC_length zazno zaznc zaznl zazdzs zazdzi zazdzb zazdzcze zazdzczr zazdztze zazdztzr zazsg hzazdzb.len hzazdzczr.len hzazdztzr.len hzazsg.len, ixC_length zzzno zzznc zzznl zzzdzs zzzdzi zzzdzb zzzdzcze zzzdzczr zzzdztze zzzdztzr zzzsg hzzzdzb.len hzzzdzczr.len hzzzdztzr.len hzzzsg.len]))) _ Tryd.underlying55 rfl (by rw [ixC_length zzzno zzznc zzznl zzzdzs zzzdzi zzzdzb zzzdzcze zzzdzczr zzzdztze zzzdztzr zzzsg hzzzdzb.len hzzzdzczr.len hzzzdztzr.len hzzzsg.len]; kernel_rfl)) rfl
    | 5, _ =>
      cases ho
      have e0 : aq.tmps.getD 7 undef = .agg (ixC zzzno zzznc zzznl zzzdzs zzzdzi zzzdzb zzzdzcze zzzdzczr zzzdztze zzzdztzr zzzsg).toArray := hdep 4 7 rfl (by kernel_rfl)
      refine flow_fun 34 _ _ rfl (fun _ _ => by simp [go_sem]) #[.agg (ixC zzzno zzznc zzznl zzzdzs zzzdzi zzzdzb zzzdzcze zzzdzczr zzzdztze zzzdztzr zzzsg).toArray] (by rw [show (#[Operand.tmp 7] : Array Operand).map aq.eval = #[aq.tmps.getD 7 undef] from by simp [Act.eval], e0]) ?_
      refine (ixR_any zzzno zzznc zzznl zzzdzs zzzdzi zzzdzb zzzdzcze zzzdzczr zzzdztze zzzdztzr zzzsg hzzzdzs hzzzdzi hzzzdzb hzzzdzcze hzzzdzczr hzzzdztze hzzzdztzr hzzzsg wq (HT.out.keep (hcB hc)) (hzzzn.keep (HB.out.trans ((hcB hc).mono HB.out.size))) hzzznn).mono ?_
      rintro x w' ⟨rfl, q⟩
      exact ⟨_, rfl, rfl, q⟩
    | 6, _ =>
      cases ho
      have e0 : aq.tmps.getD 5 undef = .agg (nums .u8 (ixR zazno zaznc zaznl zazdzs zazdzi zazdzb zazdzcze zazdzczr zazdztze zazdztzr zazsg)) := hdep 2 5 rfl (by kernel_rfl)
      have e1 : aq.tmps.getD 8 undef = .agg (nums .u8 (ixR zzzno zzznc zzznl zzzdzs zzzdzi zzzdzb zzzdzcze zzzdzczr zzzdztze zzzdztzr zzzsg)) := hdep 5 8 rfl (by kernel_rfl)
      exact flow_rows 89 24 2 32 _ rfl Tryd.underlying89 rootInfo6 [cellsB (ixR zazno zaznc zaznl zazdzs zazdzi zazdzb zazdzcze zazdzczr zazdztze zazdztzr zazsg), cellsB (ixR zzzno zzznc zzznl zzzdzs zzzdzi zzzdzb zzzdzcze zzzdzczr zzzdztze zzzdztzr zzzsg)] [.tmp 5, .tmp 8] rfl (by rw [show [Operand.tmp 5, Operand.tmp 8].map aq.eval = [aq.tmps.getD 5 undef, aq.tmps.getD 8 undef] from rfl, e0, e1]; rfl) (by simp [cellsB_length, ((ixR_rt zazno zaznc zaznl zazdzs zazdzi zazdzb zazdzcze zazdzczr zazdztze zazdztzr zazsg hzazdzb hzazdzczr hzazdztzr hzazsg)).len, ((ixR_rt zzzno zzznc zzznl zzzdzs zzzdzi zzzdzb zzzdzcze zzzdzczr zzzdztze zzzdztzr zzzsg hzzzdzb hzzzdzczr hzzzdztzr hzzzsg)).len]) rfl (by decide) (by decide) (by decide) (fun w' h => ⟨_, rfl, hasC_roots (rs := [ixR zazno zaznc zaznl zazdzs zazdzi zazdzb zazdzcze zazdzczr zazdztze zazdztzr zazsg, ixR zzzno zzznc zzznl zzzdzs zzzdzi zzzdzb zzzdzcze zzzdzczr zzzdztze zzzdztzr zzzsg]) h (Rts.more (ixR_rt zazno zaznc zaznl zazdzs zazdzi zazdzb zazdzcze zazdzczr zazdztze zazdztzr zazsg hzazdzb hzazdzczr hzazdztzr hzazsg) (Rts.more (ixR_rt zzzno zzznc zzznl zzzdzs zzzdzi zzzdzb zzzdzcze zzzdzczr zzzdztze zzzdztzr zzzsg hzzzdzb hzzzdzczr hzzzdztzr hzzzsg) Rts.nil))⟩)
    | 7, _ =>
      cases ho
      obtain ⟨b, e6, h6⟩ := hdep 6 9 rfl (by kernel_rfl)
      refine flow_fun 14 _ _ rfl (fun _ _ => by simp [go_sem]) #[.slice (some ⟨b, 0, none⟩) 2 2] (by rw [show (#[Operand.tmp 9] : Array Operand).map aq.eval = #[aq.tmps.getD 9 undef] from by simp [Act.eval], e6]) ?_
      refine (cont_any (some ⟨b, 0, none⟩) 2 [ixR zazno zaznc zaznl zazdzs zazdzi zazdzb zazdzcze zazdzczr zazdztze zazdztzr zazsg, ixR zzzno zzznc zzznl zzzdzs zzzdzi zzzdzb zzzdzcze zzzdzczr zzzdztze zzzdztzr zzzsg] wq (HT.out.keep (hcB hc)) (Nat.le_refl _) (by decide) (by show 2 ≤ 1048576; decide) h6).mono ?_
      rintro x w' ⟨rfl, q⟩
      exact ⟨_, rfl, (by rw [← HW.out]; rfl), q⟩
    | (k + 8), hk => exact absurd hk (by omega)
  · intro o h8 ho
    omega
  intro vf w8 hc hv
  have e7 : vf 7 = _ := hv 7 10 (by decide) rfl
  have B8 := HB.out.trans ((hcB hc).mono (by omega))
  have H8v := HY.out.keep (hcB hc)
  have s8 := (hcB hc).size
  clear hv hc
  simp only [List.take_succ_cons, List.take_zero, List.drop_succ_cons, List.drop_zero, putAll, Act.put, List.setIfInBounds_toArray, List.set_cons_succ, List.set_cons_zero]
  rw [e7]
  have HB8 := hid B8
  clear B8 e7 HB
  go_wp2_with ((with_reducible refine at_list' ?_); first
    | (refine wpList_store_has rfl 24 (.tmp 2) (.tmp 10) rfl (w.heap.size + 1) .u8 W (zeros 32) rfl rfl 24 H8v (hfr.size _ Tryd.size24) (by rw [hfr.len, zeros_length]) ?_; intro w9 H9 O9))
  refine bodyPost_ret (results_has rfl _ _ (w.heap.size + 1) 24 .u8 W _ _ rfl H9 Tryd.und24 (hfr.size _ Tryd.size24)) rfl ?_
  exact ⟨rfl, below_only HB8.out O9 (by omega)⟩
end Go.Proofs.YtpkelkipmldfeaaDoor

/- Bits as bytes, of any length that may come in. -/
namespace Go.Proofs.YtpkelkipmldfeaaDoor
open Go.RowKit
set_option linter.unusedVariables false
set_option maxRecDepth 100000
set_option maxHeartbeats 1000000 in
theorem putBitsF_any (v : Value) (l : List Bool) (w : World) (hT : IsT w v l) (hl : l.length ≤ 140737488351232) :
    Calls Tryd.prog 46 #[v, .bool false] w fun r w' => ∃ v', r = .returned v' ∧ Row w' w.heap.size v' (putB l false) ∧ Below w.heap.size w w' := by
  obtain ⟨ao, cap, rfl, hcap, hmx, hc⟩ := hT
  obtain ⟨m, hm⟩ : ∃ m, (l.length + 7) / 8 = m := ⟨_, rfl⟩
  have HM := hid hm
  have hZ := zeros_length m
  go_enter Tryd.func46, Tryd.ntmps46
  go_wp2_with fail
  refine (bytesFor_any (l.length) _ (by omega)).mono ?_
  rintro e w' ⟨rfl, rfl⟩
  rw [hm]
  have HZ := hid hZ
  clear hm hZ
  go_wp2_with (refine wpList_make_has rfl _ _ 91 rfl 5 .u8 Tryd.underlying91 Tryd.zero5 .i64 .i64 _ _ m rfl rfl rfl rfl (by have := HM.out; omega) ?_; intro w1 H1 B1)
  have HH1 := hid H1
  have HB1 := hid B1
  have s1 := H1.lt
  have s1' := B1.size
  clear H1 B1
  go_loopw [7, 8, 19] (fun _ _ i wr => ∃ k : Nat, k ≤ l.length ∧ i = .int .i64 k ∧ Has wr w'.heap.size 5 .u8 (upB l (zeros m) k) ∧ Below w'.heap.size w' wr) (fun _ _ i _ => l.length - (intOf i).toNat)
  case atStart => exact ⟨0, Nat.zero_le _, rfl, HH1.out, HB1.out⟩
  case round =>
    obtain ⟨k, hk, rfl, hH, hB⟩ := hrel
    have hlen : (upB l (zeros m) k).length = m := (upB_length l _ k).trans HZ.out
    have hm8 := HM.out
    have HHH := hid hH
    have HBB := hid hB
    have HLL := hid hlen
    clear hH hB hlen
    by_cases hlt : k < l.length
    · obtain ⟨b, off, rfl, hcc⟩ : ∃ b off, ao = some ⟨b, off, none⟩ ∧ ∀ i, i < l.length → w'.cell? ⟨b, off + i, none⟩ = some (.bool (l.getD i false)) := by
        rcases hc with hc | hc
        · omega
        · exact hc
      have hcr := (HBB.out.cell (p := ⟨b, off + k, none⟩) (block_lt_of_cell (hcc k hlt))).trans (hcc k hlt)
      have HU : Same (upB l (zeros m) (k + 1)) (if l.getD k false then bset (upB l (zeros m) k) k else upB l (zeros m) k) := ⟨rfl⟩
      obtain ⟨t, ht⟩ : ∃ t, l.getD k false = t := ⟨_, rfl⟩
      rw [ht] at hcr HU
      clear ht hm8
      cases t
      · go_wp2
        go_roundw
        case rel => exact ⟨k + 1, by omega, by go_num, by rw [HU.out]; exact HHH.out, HBB.out⟩
        case measure => simp [intOf]; omega
      · go_wp2_with fail
        refine (setBit_any w'.heap.size m m _ _ k _ HHH.out (upB_byte l m k) (by have := HM.out; omega) (by rw [HLL.out]; exact Nat.le_refl _) (by omega)).mono ?_
        rintro e w2 ⟨⟨u, rfl⟩, h2, o2⟩
        have X2 := hid (And.intro h2 (below_only HBB.out o2 (Nat.le_refl _)))
        clear h2 o2
        go_wp2
        go_roundw
        case rel => exact ⟨k + 1, by omega, by go_num, by rw [HU.out]; exact X2.out.1, X2.out.2⟩
        case measure => simp [intOf]; omega
    · obtain rfl : k = l.length := by omega
      go_wp2
      go_ret
      have hr := HHH.out.row (Nat.le_refl _) (by rw [HLL.out]; unfold maxLen; omega)
      rw [HLL.out] at hr
      refine ⟨_, rfl, ?_, HBB.out⟩
      have e : putB l false = upB l (zeros m) l.length := by rw [← HM.out]; rfl
      rw [e]
      exact hr

end Go.Proofs.YtpkelkipmldfeaaDoor

/- The root of a list of bits, by the program. -/
namespace Go.Proofs.YtpkelkipmldfeaaDoor
open Go.RowKit
set_option linter.unusedVariables false
set_option maxRecDepth 100000

theorem bitsR_rt (n : Nat) (l : List Bool) : Rt (bitsR n l) := pr_rt _ _
theorem chunks_few (l : List Bool) (hl : l.length ≤ 140737488351232) : (chunks (putB l false)).length ≤ 4398046511104 := by
  rw [chunks_length, putB_length]; simp; omega
set_option maxHeartbeats 1000000 in
theorem bits_any (v : Value) (l : List Bool) (w : World) (hT : Tabs w) (hI : IsT w v l) (hl : l.length ≤ 140737488351232) :
    Calls Tryd.prog 36 #[v] w fun e w' => e = .returned (.agg (nums .u8 (bitsR 32 l))) ∧ Below w.heap.size w w' := by
  obtain ⟨T, HTT⟩ : ∃ T, Hid (treeZ 1 (chunks (putB l false)) = T) := ⟨_, hid rfl⟩
  have hTr := treeZ_rt 1 (chunks (putB l false)) (chunks_rts _ (putB_byte l false))
  rw [HTT.out] at hTr
  have hpr := pr_rt T (wUp l.length 8)
  obtain ⟨Z, HZ⟩ : ∃ Z, Hid (pr T (wUp l.length 8) = Z) := ⟨_, hid rfl⟩
  rw [show bitsR 32 l = pr (treeZ 1 (chunks (putB l false))) (wUp l.length 8) from rfl, HTT.out, HZ.out]
  have HMX := hid (fun w (hT : Tabs w) => mix_any' T l.length hTr (by omega) w hT)
  rw [HZ.out] at hpr HMX
  have HP := hid (fun w1 (hb : Below w.heap.size w w1) => putBitsF_any v l w1 (hI.keep hb) (by omega))
  have HCH := hid (fun v1 w1 (hB : IsB w1 v1 (putB l false)) => chunksR_any v1 (putB l false) w1 hB (by rw [putB_length]; simp; omega))
  have HTz := hid (fun ao cap w1 (hT : Tabs w1) (h1 : (chunks (putB l false)).length ≤ cap) (h2 : cap ≤ maxLen) (h3 : RootsAt w1 ao (chunks (putB l false))) => treZ_any ao cap (chunks (putB l false)) 1 w1 hT h1 h2 (chunks_few l hl) (by decide) h3)
  rw [HTT.out] at HTz
  obtain ⟨C, HC⟩ : ∃ C, Hid (chunks (putB l false) = C) := ⟨_, hid rfl⟩
  have hCr := chunks_rts _ (putB_byte l false)
  rw [HC.out] at HTz HCH hCr
  obtain ⟨bao, bcap, rfl, _, _, _⟩ := hI.ex
  have HT := hid hT
  clear hI hT
  go_enter Tryd.func36, Tryd.ntmps36
  go_wp2_with ((with_reducible refine at_list' ?_); first
    | (refine wpList_alloc_has rfl 2 rfl 24 rfl .u8 32 Tryd.zero24 ?_; intro w1 H1 B1 S1))
  refine (HP.out w1 B1).mono ?_
  rintro e w2 ⟨v2, rfl, R2, B2⟩
  have HC2 := hid (HCH.out v2 w2 (R2.isB (putB_byte l false)))
  have L2 := hid (below_more B1 B2 (Nat.le_refl _))
  have H2 := H1.keep B2
  clear HP HCH R2 H1 B1 B2 S1
  go_wp2_with fail
  refine HC2.out.mono ?_
  rintro e w3 ⟨v3, rfl, h3, B3⟩
  obtain ⟨_, ao3, cap3, rfl, k1, k2, k3⟩ := RootsAt.own hCr h3
  have L3 := hid (below_more L2.out B3 (Nat.le_refl _))
  have H3 := H2.keep B3
  have HT3 := hid (HTz.out ao3 cap3 w3 (HT.out.keep L3.out) k1 k2 k3)
  clear HC2 h3 k1 k2 k3 L2 H2 B3 HTz
  go_wp2_with fail
  refine HT3.out.mono ?_
  rintro e w4 ⟨rfl, B4⟩
  have L4 := hid (below_more L3.out B4 (Nat.le_refl _))
  have H4 := H3.keep B4
  clear HT3 L3 H3 B4
  go_wp2_with fail
  refine (HMX.out w4 (HT.out.keep L4.out)).mono ?_
  rintro e w5 ⟨rfl, B5⟩
  have L5 := hid (below_more L4.out B5 (Nat.le_refl _))
  have H5 := H4.keep B5
  clear L4 H4 B5 HMX
  go_wp2_with ((with_reducible refine at_list' ?_); first
    | (refine wpList_store_has rfl 24 (.tmp 2) (.tmp 10) rfl w.heap.size .u8 Z (zeros 32) rfl rfl 24 H5 (hpr.size _ Tryd.size24) (by rw [hpr.len, zeros_length]) ?_; intro w6 H6 O6))
  refine bodyPost_ret (results_has rfl _ _ w.heap.size 24 .u8 Z _ _ rfl H6 Tryd.und24 (hpr.size _ Tryd.size24)) rfl ?_
  exact ⟨rfl, below_only L5.out O6 (Nat.le_refl _)⟩
end Go.Proofs.YtpkelkipmldfeaaDoor

/- The root of a struct (Attestation), by the program. -/
namespace Go.Proofs.YtpkelkipmldfeaaDoor
open Go.RowKit Go.Shelf
set_option linter.unusedVariables false
set_option linter.unusedSimpArgs false
set_option maxRecDepth 100000

def atP (zbo : Option Addr) (zbc : Nat) (zbl : List Bool) (zdzs : Nat) (zdzi : Nat) (zdzb : List Nat) (zdzcze : Nat) (zdzczr : List Nat) (zdztze : Nat) (zdztzr : List Nat) (zsg : List Nat) : List (List Value) := [[.slice zbo zbl.length zbc], vtC zdzs zdzi zdzb zdzcze zdzczr zdztze zdztzr, cellsB zsg]
def atC (zbo : Option Addr) (zbc : Nat) (zbl : List Bool) (zdzs : Nat) (zdzi : Nat) (zdzb : List Nat) (zdzcze : Nat) (zdzczr : List Nat) (zdztze : Nat) (zdztzr : List Nat) (zsg : List Nat) : List Value := (atP zbo zbc zbl zdzs zdzi zdzb zdzcze zdzczr zdztze zdztzr zsg).flatten
theorem atC_length (zbo : Option Addr) (zbc : Nat) (zbl : List Bool) (zdzs : Nat) (zdzi : Nat) (zdzb : List Nat) (zdzcze : Nat) (zdzczr : List Nat) (zdztze : Nat) (zdztzr : List Nat) (zsg : List Nat) (hzdzb : zdzb.length = 32) (hzdzczr : zdzczr.length = 32) (hzdztzr : zdztzr.length = 32) (hzsg : zsg.length = 32) : (atC zbo zbc zbl zdzs zdzi zdzb zdzcze zdzczr zdztze zdztzr zsg).length = 133 := by simp [atC, atP, cellsB_length, hzdzb, hzdzczr, hzdztzr, hzsg, vtC_length zdzs zdzi zdzb zdzcze zdzczr zdztze zdztzr hzdzb hzdzczr hzdztzr]
def atR (zbo : Option Addr) (zbc : Nat) (zbl : List Bool) (zdzs : Nat) (zdzi : Nat) (zdzb : List Nat) (zdzcze : Nat) (zdzczr : List Nat) (zdztze : Nat) (zdztzr : List Nat) (zsg : List Nat) : List Nat := fullR (depth (([bitsR 32 zbl, vtR zdzs zdzi zdzb zdzcze zdzczr zdztze zdztzr, zsg] : List (List Nat)).length : Nat)) [bitsR 32 zbl, vtR zdzs zdzi zdzb zdzcze zdzczr zdztze zdztzr, zsg]
theorem atR_rt (zbo : Option Addr) (zbc : Nat) (zbl : List Bool) (zdzs : Nat) (zdzi : Nat) (zdzb : List Nat) (zdzcze : Nat) (zdzczr : List Nat) (zdztze : Nat) (zdztzr : List Nat) (zsg : List Nat) (hzdzb : Rt zdzb) (hzdzczr : Rt zdzczr) (hzdztzr : Rt zdztzr) (hzsg : Rt zsg) : Rt (atR zbo zbc zbl zdzs zdzi zdzb zdzcze zdzczr zdztze zdztzr zsg) := full_rt _ _ (Rts.more (bitsR_rt 32 zbl) (Rts.more (vtR_rt zdzs zdzi zdzb zdzcze zdzczr zdztze zdztzr hzdzb hzdzczr hzdztzr) (Rts.more hzsg Rts.nil)))
set_option maxHeartbeats 2000000 in
theorem atR_any (zbo : Option Addr) (zbc : Nat) (zbl : List Bool) (zdzs : Nat) (zdzi : Nat) (zdzb : List Nat) (zdzcze : Nat) (zdzczr : List Nat) (zdztze : Nat) (zdztzr : List Nat) (zsg : List Nat) (hzdzs : zdzs < 18446744073709551616) (hzdzi : zdzi < 18446744073709551616) (hzdzb : Rt zdzb) (hzdzcze : zdzcze < 18446744073709551616) (hzdzczr : Rt zdzczr) (hzdztze : zdztze < 18446744073709551616) (hzdztzr : Rt zdztzr) (hzsg : Rt zsg) (w : World) (hT : Tabs w) (hzb : IsT w (.slice zbo zbl.length zbc) zbl) (hzbn : zbl.length ≤ 140737488351232) :
    Calls Tryd.prog 21 #[.agg (atC zbo zbc zbl zdzs zdzi zdzb zdzcze zdzczr zdztze zdztzr zsg).toArray] w fun x w' => x = .returned (.agg (nums .u8 (atR zbo zbc zbl zdzs zdzi zdzb zdzcze zdzczr zdztze zdztzr zsg))) ∧ Below w.heap.size w w' := by
  have hfr := atR_rt zbo zbc zbl zdzs zdzi zdzb zdzcze zdzczr zdztze zdztzr zsg hzdzb hzdzczr hzdztzr hzsg
  obtain ⟨W, HW⟩ : ∃ W, Same (atR zbo zbc zbl zdzs zdzi zdzb zdzcze zdzczr zdztze zdztzr zsg) W := ⟨_, ⟨rfl⟩⟩
  rw [HW.out] at hfr ⊢
  go_enter Tryd.func21, Tryd.ntmps21
  go_wp2_with ((with_reducible refine at_list' ?_); first
    | (refine wpList_box_c rfl 1 rfl (.tmp 0) rfl (atC zbo zbc zbl zdzs zdzi zdzb zdzcze zdzczr zdztze zdztzr zsg) rfl ?_; intro w1 H1 B1 S1)
    | (refine wpList_alloc_has rfl 2 rfl 24 rfl .u8 32 Tryd.zero24 ?_; intro w2 H2 B2 S2; rw [S1] at H2 S2; rw [S1]))
  have HX := hid (H1.keep B2)
  have HY := hid H2
  have HB := hid (B1.trans (B2.mono (by omega)))
  have HT := hid (hT.keep HB.out)
  have s2 : w2.heap.size = w.heap.size + 2 := by omega
  clear H1 B1 S1 H2 B2 S2
  try simp only [Act.put, List.setIfInBounds_toArray, List.set_cons_succ, List.set_cons_zero]
  refine wp_region_flow 10 10 (fun i v wq => match i with
    | 0 => v = .pointer (some ⟨w.heap.size, 0, none⟩)
    | 1 => v = .slice zbo zbl.length zbc
    | 2 => v = .agg (nums .u8 (bitsR 32 zbl))
    | 3 => v = .pointer (some ⟨w.heap.size, 1, none⟩)
    | 4 => v = .agg (vtC zdzs zdzi zdzb zdzcze zdzczr zdztze zdztzr).toArray
    | 5 => v = .agg (nums .u8 (vtR zdzs zdzi zdzb zdzcze zdzczr zdztze zdztzr))
    | 6 => v = .pointer (some ⟨w.heap.size, 101, none⟩)
    | 7 => v = .agg (nums .u8 zsg)
    | 8 => ∃ b, v = .slice (some ⟨b, 0, none⟩) 3 3 ∧ RootsAt wq (some ⟨b, 0, none⟩) [bitsR 32 zbl, vtR zdzs zdzi zdzb zdzcze zdzczr zdztze zdztzr, zsg]
    | _ => v = .agg (nums .u8 W)) (by kernel_rfl) (by kernel_rfl) (fun _ d _ _ _ h => by cases d <;> exact h) ?_ ?_ ?_ ?_
  · intro i v wq wq' hi hv hb
    match i, hi with
    | 0, _ => exact hv
    | 1, _ => exact hv
    | 2, _ => exact hv
    | 3, _ => exact hv
    | 4, _ => exact hv
    | 5, _ => exact hv
    | 6, _ => exact hv
    | 7, _ => exact hv
    | 8, _ => obtain ⟨b, h1, h2⟩ := hv; exact ⟨b, h1, h2.keep hb⟩
    | 9, _ => exact hv
    | (k + 10), hk => exact absurd hk (by omega)
  · intro i o hi ho aq wq hc hk hdep
    match i, hi with
    | 0, _ =>
      cases ho
      have e1 : aq.tmps.getD 1 undef = .pointer (some ⟨w.heap.size, 0, none⟩) := hk 1 (by decide)
      exact flow_value _ (run_fieldAt 60 (.tmp 1) 0 rfl _ _ e1 (by kernel_rfl)) rfl
    | 1, _ =>
      cases ho
      have e0 : aq.tmps.getD 3 undef = .pointer (some ⟨w.heap.size, 0, none⟩) := hdep 0 3 rfl (by kernel_rfl)
      exact flow_value _ (run_cell 58 (.tmp 3) rfl _ e0 _ ((HX.out.keep (hcB hc)).cell (seg (ps := atP zbo zbc zbl zdzs zdzi zdzb zdzcze zdzczr zdztze zdztzr zsg) (i := 0) (off := 0) rfl (by simp [atP, cellsB_length, hzdzb.len, hzdzczr.len, hzdztzr.len, hzsg.len, vtC_length zdzs zdzi zdzb zdzcze zdzczr zdztze zdztzr hzdzb.len hzdzczr.len hzdztzr.len]) 0 _ rfl)) _ Tryd.underlying58 rfl) rfl
    | 2, _ =>
      cases ho
      have e0 : aq.tmps.getD 4 undef = .slice zbo zbl.length zbc := hdep 1 4 rfl (by kernel_rfl)
      refine flow_fun 36 _ _ rfl (fun _ _ => by simp [go_sem]) #[.slice zbo zbl.length zbc] (by rw [show (#[Operand.tmp 4] : Array Operand).map aq.eval = #[aq.tmps.getD 4 undef] from by simp [Act.eval], e0]) ?_
      refine (bits_any (.slice zbo zbl.length zbc) zbl wq (HT.out.keep (hcB hc)) (hzb.keep (HB.out.trans ((hcB hc).mono HB.out.size))) hzbn).mono ?_
      rintro x w' ⟨rfl, q⟩
      exact ⟨_, rfl, rfl, q⟩
    | 3, _ =>
      cases ho
      have e1 : aq.tmps.getD 1 undef = .pointer (some ⟨w.heap.size, 0, none⟩) := hk 1 (by decide)
      exact flow_value _ (run_fieldAt 60 (.tmp 1) 1 rfl _ _ e1 (by kernel_rfl)) rfl
    | 4, _ =>
      cases ho
      have e0 : aq.tmps.getD 6 undef = .pointer (some ⟨w.heap.size, 1, none⟩) := hdep 3 6 rfl (by kernel_rfl)
      exact flow_value _ (run_mid 53 (.tmp 6) rfl w.heap.size 1 e0 (vtC zdzs zdzi zdzb zdzcze zdzczr zdztze zdztzr) ((HX.out.keep (hcB hc)).range 1 (vtC zdzs zdzi zdzb zdzcze zdzczr zdztze zdztzr) (seg (ps := atP zbo zbc zbl zdzs zdzi zdzb zdzcze zdzczr zdztze zdztzr zsg) (i := 1) (off := 1) rfl (by simp [atP, cellsB_length, hzdzb.len, hzdzczr.len, hzdztzr.len, hzsg.len, vtC_length zdzs zdzi zdzb zdzcze zdzczr zdztze zdztzr hzdzb.len hzdzczr.len hzdztzr.len]))) _ Tryd.underlying53 rfl (by rw [vtC_length zdzs zdzi zdzb zdzcze zdzczr zdztze zdztzr hzdzb.len hzdzczr.len hzdztzr.len]; kernel_rfl)) rfl
    | 5, _ =>
      cases ho
      have e0 : aq.tmps.getD 7 undef = .agg (vtC zdzs zdzi zdzb zdzcze zdzczr zdztze zdztzr).toArray := hdep 4 7 rfl (by kernel_rfl)
      refine flow_fun 37 _ _ rfl (fun _ _ => by simp [go_sem]) #[.agg (vtC zdzs zdzi zdzb zdzcze zdzczr zdztze zdztzr).toArray] (by rw [show (#[Operand.tmp 7] : Array Operand).map aq.eval = #[aq.tmps.getD 7 undef] from by simp [Act.eval], e0]) ?_
      refine (vtR_any zdzs zdzi zdzb zdzcze zdzczr zdztze zdztzr hzdzs hzdzi hzdzb hzdzcze hzdzczr hzdztze hzdztzr wq (HT.out.keep (hcB hc))).mono ?_
      rintro x w' ⟨rfl, q⟩
      exact ⟨_, rfl, rfl, q⟩
    | 6, _ =>
      cases ho
      have e1 : aq.tmps.getD 1 undef = .pointer (some ⟨w.heap.size, 0, none⟩) := hk 1 (by decide)
      exact flow_value _ (run_fieldAt 60 (.tmp 1) 2 rfl _ _ e1 (by kernel_rfl)) rfl
    | 7, _ =>
      cases ho
      have e0 : aq.tmps.getD 9 undef = .pointer (some ⟨w.heap.size, 101, none⟩) := hdep 6 9 rfl (by kernel_rfl)
      exact flow_value _ (run_mid 24 (.tmp 9) rfl w.heap.size 101 e0 (cellsB zsg) ((HX.out.keep (hcB hc)).range 101 (cellsB zsg) (seg (ps := atP zbo zbc zbl zdzs zdzi zdzb zdzcze zdzczr zdztze zdztzr zsg) (i := 2) (off := 101) rfl (by simp [atP, cellsB_length, hzdzb.len, hzdzczr.len, hzdztzr.len, hzsg.len, vtC_length zdzs zdzi zdzb zdzcze zdzczr zdztze zdztzr hzdzb.len hzdzczr.len hzdztzr.len]))) _ Tryd.und24 rfl (by rw [cellsB_length, hzsg.len]; exact Tryd.size24)) rfl
    | 8, _ =>
      cases ho
      have e0 : aq.tmps.getD 5 undef = .agg (nums .u8 (bitsR 32 zbl)) := hdep 2 5 rfl (by kernel_rfl)
      have e1 : aq.tmps.getD 8 undef = .agg (nums .u8 (vtR zdzs zdzi zdzb zdzcze zdzczr zdztze zdztzr)) := hdep 5 8 rfl (by kernel_rfl)
      have e2 : aq.tmps.getD 10 undef = .agg (nums .u8 zsg) := hdep 7 10 rfl (by kernel_rfl)
      exact flow_rows 89 24 3 32 _ rfl Tryd.underlying89 rootInfo6 [cellsB (bitsR 32 zbl), cellsB (vtR zdzs zdzi zdzb zdzcze zdzczr zdztze zdztzr), cellsB (zsg)] [.tmp 5, .tmp 8, .tmp 10] rfl (by rw [show [Operand.tmp 5, Operand.tmp 8, Operand.tmp 10].map aq.eval = [aq.tmps.getD 5 undef, aq.tmps.getD 8 undef, aq.tmps.getD 10 undef] from rfl, e0, e1, e2]; rfl) (by simp [cellsB_length, ((bitsR_rt 32 zbl)).len, ((vtR_rt zdzs zdzi zdzb zdzcze zdzczr zdztze zdztzr hzdzb hzdzczr hzdztzr)).len, (hzsg).len]) rfl (by decide) (by decide) (by decide) (fun w' h => ⟨_, rfl, hasC_roots (rs := [bitsR 32 zbl, vtR zdzs zdzi zdzb zdzcze zdzczr zdztze zdztzr, zsg]) h (Rts.more (bitsR_rt 32 zbl) (Rts.more (vtR_rt zdzs zdzi zdzb zdzcze zdzczr zdztze zdztzr hzdzb hzdzczr hzdztzr) (Rts.more hzsg Rts.nil)))⟩)
    | 9, _ =>
      cases ho
      obtain ⟨b, e6, h6⟩ := hdep 8 11 rfl (by kernel_rfl)
      refine flow_fun 14 _ _ rfl (fun _ _ => by simp [go_sem]) #[.slice (some ⟨b, 0, none⟩) 3 3] (by rw [show (#[Operand.tmp 11] : Array Operand).map aq.eval = #[aq.tmps.getD 11 undef] from by simp [Act.eval], e6]) ?_
      refine (cont_any (some ⟨b, 0, none⟩) 3 [bitsR 32 zbl, vtR zdzs zdzi zdzb zdzcze zdzczr zdztze zdztzr, zsg] wq (HT.out.keep (hcB hc)) (Nat.le_refl _) (by decide) (by show 3 ≤ 1048576; decide) h6).mono ?_
      rintro x w' ⟨rfl, q⟩
      exact ⟨_, rfl, (by rw [← HW.out]; rfl), q⟩
    | (k + 10), hk => exact absurd hk (by omega)
  · intro o h10 ho
    omega
  intro vf w8 hc hv
  have e7 : vf 9 = _ := hv 9 12 (by decide) rfl
  have B8 := HB.out.trans ((hcB hc).mono (by omega))
  have H8v := HY.out.keep (hcB hc)
  have s8 := (hcB hc).size
  clear hv hc
  simp only [List.take_succ_cons, List.take_zero, List.drop_succ_cons, List.drop_zero, putAll, Act.put, List.setIfInBounds_toArray, List.set_cons_succ, List.set_cons_zero]
  rw [e7]
  have HB8 := hid B8
  clear B8 e7 HB
  go_wp2_with ((with_reducible refine at_list' ?_); first
    | (refine wpList_store_has rfl 24 (.tmp 2) (.tmp 12) rfl (w.heap.size + 1) .u8 W (zeros 32) rfl rfl 24 H8v (hfr.size _ Tryd.size24) (by rw [hfr.len, zeros_length]) ?_; intro w9 H9 O9))
  refine bodyPost_ret (results_has rfl _ _ (w.heap.size + 1) 24 .u8 W _ _ rfl H9 Tryd.und24 (hfr.size _ Tryd.size24)) rfl ?_
  exact ⟨rfl, below_only HB8.out O9 (by omega)⟩
end Go.Proofs.YtpkelkipmldfeaaDoor

/- The root of a struct (SignedHeader), by the program. -/
namespace Go.Proofs.YtpkelkipmldfeaaDoor
open Go.RowKit Go.Shelf
set_option linter.unusedVariables false
set_option linter.unusedSimpArgs false
set_option maxRecDepth 100000

def shP (zhzs : Nat) (zhzp : Nat) (zhzpa : List Nat) (zhzst : List Nat) (zhzbo : List Nat) (zsg : List Nat) : List (List Value) := [hdC zhzs zhzp zhzpa zhzst zhzbo, cellsB zsg]
def shC (zhzs : Nat) (zhzp : Nat) (zhzpa : List Nat) (zhzst : List Nat) (zhzbo : List Nat) (zsg : List Nat) : List Value := (shP zhzs zhzp zhzpa zhzst zhzbo zsg).flatten
theorem shC_length (zhzs : Nat) (zhzp : Nat) (zhzpa : List Nat) (zhzst : List Nat) (zhzbo : List Nat) (zsg : List Nat) (hzhzpa : zhzpa.length = 32) (hzhzst : zhzst.length = 32) (hzhzbo : zhzbo.length = 32) (hzsg : zsg.length = 32) : (shC zhzs zhzp zhzpa zhzst zhzbo zsg).length = 130 := by simp [shC, shP, cellsB_length, hzhzpa, hzhzst, hzhzbo, hzsg, hdC_length zhzs zhzp zhzpa zhzst zhzbo hzhzpa hzhzst hzhzbo]
def shR (zhzs : Nat) (zhzp : Nat) (zhzpa : List Nat) (zhzst : List Nat) (zhzbo : List Nat) (zsg : List Nat) : List Nat := fullR (depth (([hdR zhzs zhzp zhzpa zhzst zhzbo, zsg] : List (List Nat)).length : Nat)) [hdR zhzs zhzp zhzpa zhzst zhzbo, zsg]
theorem shR_rt (zhzs : Nat) (zhzp : Nat) (zhzpa : List Nat) (zhzst : List Nat) (zhzbo : List Nat) (zsg : List Nat) (hzhzpa : Rt zhzpa) (hzhzst : Rt zhzst) (hzhzbo : Rt zhzbo) (hzsg : Rt zsg) : Rt (shR zhzs zhzp zhzpa zhzst zhzbo zsg) := full_rt _ _ (Rts.more (hdR_rt zhzs zhzp zhzpa zhzst zhzbo hzhzpa hzhzst hzhzbo) (Rts.more hzsg Rts.nil))
set_option maxHeartbeats 2000000 in
theorem shR_any (zhzs : Nat) (zhzp : Nat) (zhzpa : List Nat) (zhzst : List Nat) (zhzbo : List Nat) (zsg : List Nat) (hzhzs : zhzs < 18446744073709551616) (hzhzp : zhzp < 18446744073709551616) (hzhzpa : Rt zhzpa) (hzhzst : Rt zhzst) (hzhzbo : Rt zhzbo) (hzsg : Rt zsg) (w : World) (hT : Tabs w) :
    Calls Tryd.prog 32 #[.agg (shC zhzs zhzp zhzpa zhzst zhzbo zsg).toArray] w fun x w' => x = .returned (.agg (nums .u8 (shR zhzs zhzp zhzpa zhzst zhzbo zsg))) ∧ Below w.heap.size w w' := by
  have hfr := shR_rt zhzs zhzp zhzpa zhzst zhzbo zsg hzhzpa hzhzst hzhzbo hzsg
  obtain ⟨W, HW⟩ : ∃ W, Hid (shR zhzs zhzp zhzpa zhzst zhzbo zsg = W) := ⟨_, hid rfl⟩
  rw [HW.out] at hfr ⊢
  go_enter Tryd.func32, Tryd.ntmps32
  go_wp2_with ((with_reducible refine at_list' ?_); first
    | (refine wpList_box_c rfl 1 rfl (.tmp 0) rfl (shC zhzs zhzp zhzpa zhzst zhzbo zsg) rfl ?_; intro w1 H1 B1 S1)
    | (refine wpList_alloc_has rfl 2 rfl 24 rfl .u8 32 Tryd.zero24 ?_; intro w2 H2 B2 S2; rw [S1] at H2 S2; rw [S1]))
  have HX := hid (H1.keep B2)
  have HY := hid H2
  have HB := hid (B1.trans (B2.mono (by omega)))
  have HT := hid (hT.keep HB.out)
  have s2 : w2.heap.size = w.heap.size + 2 := by omega
  clear H1 B1 S1 H2 B2 S2
  try simp only [Act.put, List.setIfInBounds_toArray, List.set_cons_succ, List.set_cons_zero]
  refine wp_region_flow 7 7 (fun i v wq => match i with
    | 0 => v = .pointer (some ⟨w.heap.size, 0, none⟩)
    | 1 => v = .agg (hdC zhzs zhzp zhzpa zhzst zhzbo).toArray
    | 2 => v = .agg (nums .u8 (hdR zhzs zhzp zhzpa zhzst zhzbo))
    | 3 => v = .pointer (some ⟨w.heap.size, 98, none⟩)
    | 4 => v = .agg (nums .u8 zsg)
    | 5 => ∃ b, v = .slice (some ⟨b, 0, none⟩) 2 2 ∧ RootsAt wq (some ⟨b, 0, none⟩) [hdR zhzs zhzp zhzpa zhzst zhzbo, zsg]
    | _ => v = .agg (nums .u8 W)) (by kernel_rfl) (by kernel_rfl) (fun _ d _ _ _ h => by cases d <;> exact h) ?_ ?_ ?_ ?_
  · intro i v wq wq' hi hv hb
    match i, hi with
    | 0, _ => exact hv
    | 1, _ => exact hv
    | 2, _ => exact hv
    | 3, _ => exact hv
    | 4, _ => exact hv
    | 5, _ => obtain ⟨b, h1, h2⟩ := hv; exact ⟨b, h1, h2.keep hb⟩
    | 6, _ => exact hv
    | (k + 7), hk => exact absurd hk (by omega)
  · intro i o hi ho aq wq hc hk hdep
    match i, hi with
    | 0, _ =>
      cases ho
      have e1 : aq.tmps.getD 1 undef = .pointer (some ⟨w.heap.size, 0, none⟩) := hk 1 (by decide)
      exact flow_value _ (run_fieldAt 65 (.tmp 1) 0 rfl _ _ e1 (by kernel_rfl)) rfl
    | 1, _ =>
      cases ho
      have e0 : aq.tmps.getD 3 undef = .pointer (some ⟨w.heap.size, 0, none⟩) := hdep 0 3 rfl (by kernel_rfl)
      exact flow_value _ (run_mid 39 (.tmp 3) rfl w.heap.size 0 e0 (hdC zhzs zhzp zhzpa zhzst zhzbo) ((HX.out.keep (hcB hc)).range 0 (hdC zhzs zhzp zhzpa zhzst zhzbo) (seg (ps := shP zhzs zhzp zhzpa zhzst zhzbo zsg) (i := 0) (off := 0) rfl (by simp [shP, cellsB_length, hzhzpa.len, hzhzst.len, hzhzbo.len, hzsg.len, hdC_length zhzs zhzp zhzpa zhzst zhzbo hzhzpa.len hzhzst.len hzhzbo.len]))) _ Tryd.underlying39 rfl (by rw [hdC_length zhzs zhzp zhzpa zhzst zhzbo hzhzpa.len hzhzst.len hzhzbo.len]; kernel_rfl)) rfl
    | 2, _ =>
      cases ho
      have e0 : aq.tmps.getD 4 undef = .agg (hdC zhzs zhzp zhzpa zhzst zhzbo).toArray := hdep 1 4 rfl (by kernel_rfl)
      refine flow_fun 8 _ _ rfl (fun _ _ => by simp [go_sem]) #[.agg (hdC zhzs zhzp zhzpa zhzst zhzbo).toArray] (by rw [show (#[Operand.tmp 4] : Array Operand).map aq.eval = #[aq.tmps.getD 4 undef] from by simp [Act.eval], e0]) ?_
      refine (hdR_any zhzs zhzp zhzpa zhzst zhzbo hzhzs hzhzp hzhzpa hzhzst hzhzbo wq (HT.out.keep (hcB hc))).mono ?_
      rintro x w' ⟨rfl, q⟩
      exact ⟨_, rfl, rfl, q⟩
    | 3, _ =>
      cases ho
      have e1 : aq.tmps.getD 1 undef = .pointer (some ⟨w.heap.size, 0, none⟩) := hk 1 (by decide)
      exact flow_value _ (run_fieldAt 65 (.tmp 1) 1 rfl _ _ e1 (by kernel_rfl)) rfl
    | 4, _ =>
      cases ho
      have e0 : aq.tmps.getD 6 undef = .pointer (some ⟨w.heap.size, 98, none⟩) := hdep 3 6 rfl (by kernel_rfl)
      exact flow_value _ (run_mid 24 (.tmp 6) rfl w.heap.size 98 e0 (cellsB zsg) ((HX.out.keep (hcB hc)).range 98 (cellsB zsg) (seg (ps := shP zhzs zhzp zhzpa zhzst zhzbo zsg) (i := 1) (off := 98) rfl (by simp [shP, cellsB_length, hzhzpa.len, hzhzst.len, hzhzbo.len, hzsg.len, hdC_length zhzs zhzp zhzpa zhzst zhzbo hzhzpa.len hzhzst.len hzhzbo.len]))) _ Tryd.und24 rfl (by rw [cellsB_length, hzsg.len]; exact Tryd.size24)) rfl
    | 5, _ =>
      cases ho
      have e0 : aq.tmps.getD 5 undef = .agg (nums .u8 (hdR zhzs zhzp zhzpa zhzst zhzbo)) := hdep 2 5 rfl (by kernel_rfl)
      have e1 : aq.tmps.getD 7 undef = .agg (nums .u8 zsg) := hdep 4 7 rfl (by kernel_rfl)
      exact flow_rows 89 24 2 32 _ rfl Tryd.underlying89 rootInfo6 [cellsB (hdR zhzs zhzp zhzpa zhzst zhzbo), cellsB (zsg)] [.tmp 5, .tmp 7] rfl (by rw [show [Operand.tmp 5, Operand.tmp 7].map aq.eval = [aq.tmps.getD 5 undef, aq.tmps.getD 7 undef] from rfl, e0, e1]; rfl) (by simp [cellsB_length, ((hdR_rt zhzs zhzp zhzpa zhzst zhzbo hzhzpa hzhzst hzhzbo)).len, (hzsg).len]) rfl (by decide) (by decide) (by decide) (fun w' h => ⟨_, rfl, hasC_roots (rs := [hdR zhzs zhzp zhzpa zhzst zhzbo, zsg]) h (Rts.more (hdR_rt zhzs zhzp zhzpa zhzst zhzbo hzhzpa hzhzst hzhzbo) (Rts.more hzsg Rts.nil))⟩)
    | 6, _ =>
      cases ho
      obtain ⟨b, e6, h6⟩ := hdep 5 8 rfl (by kernel_rfl)
      refine flow_fun 14 _ _ rfl (fun _ _ => by simp [go_sem]) #[.slice (some ⟨b, 0, none⟩) 2 2] (by rw [show (#[Operand.tmp 8] : Array Operand).map aq.eval = #[aq.tmps.getD 8 undef] from by simp [Act.eval], e6]) ?_
      refine (cont_any (some ⟨b, 0, none⟩) 2 [hdR zhzs zhzp zhzpa zhzst zhzbo, zsg] wq (HT.out.keep (hcB hc)) (Nat.le_refl _) (by decide) (by show 2 ≤ 1048576; decide) h6).mono ?_
      rintro x w' ⟨rfl, q⟩
      exact ⟨_, rfl, (by rw [← HW.out]; rfl), q⟩
    | (k + 7), hk => exact absurd hk (by omega)
  · intro o h7 ho
    omega
  intro vf w8 hc hv
  have e7 : vf 6 = _ := hv 6 9 (by decide) rfl
  have B8 := HB.out.trans ((hcB hc).mono (by omega))
  have H8v := HY.out.keep (hcB hc)
  have s8 := (hcB hc).size
  clear hv hc
  simp only [List.take_succ_cons, List.take_zero, List.drop_succ_cons, List.drop_zero, putAll, Act.put, List.setIfInBounds_toArray, List.set_cons_succ, List.set_cons_zero]
  rw [e7]
  have HB8 := hid B8
  clear B8 e7 HB
  go_wp2_with ((with_reducible refine at_list' ?_); first
    | (refine wpList_store_has rfl 24 (.tmp 2) (.tmp 9) rfl (w.heap.size + 1) .u8 W (zeros 32) rfl rfl 24 H8v (hfr.size _ Tryd.size24) (by rw [hfr.len, zeros_length]) ?_; intro w9 H9 O9))
  refine bodyPost_ret (results_has rfl _ _ (w.heap.size + 1) 24 .u8 W _ _ rfl H9 Tryd.und24 (hfr.size _ Tryd.size24)) rfl ?_
  exact ⟨rfl, below_only HB8.out O9 (by omega)⟩
end Go.Proofs.YtpkelkipmldfeaaDoor

/- The root of a struct (ProposerSlashing), by the program. -/
namespace Go.Proofs.YtpkelkipmldfeaaDoor
open Go.RowKit Go.Shelf
set_option linter.unusedVariables false
set_option linter.unusedSimpArgs false
set_option maxRecDepth 100000

def psP (zazhzs : Nat) (zazhzp : Nat) (zazhzpa : List Nat) (zazhzst : List Nat) (zazhzbo : List Nat) (zazsg : List Nat) (zzzhzs : Nat) (zzzhzp : Nat) (zzzhzpa : List Nat) (zzzhzst : List Nat) (zzzhzbo : List Nat) (zzzsg : List Nat) : List (List Value) := [shC zazhzs zazhzp zazhzpa zazhzst zazhzbo zazsg, shC zzzhzs zzzhzp zzzhzpa zzzhzst zzzhzbo zzzsg]
def psC (zazhzs : Nat) (zazhzp : Nat) (zazhzpa : List Nat) (zazhzst : List Nat) (zazhzbo : List Nat) (zazsg : List Nat) (zzzhzs : Nat) (zzzhzp : Nat) (zzzhzpa : List Nat) (zzzhzst : List Nat) (zzzhzbo : List Nat) (zzzsg : List Nat) : List Value := (psP zazhzs zazhzp zazhzpa zazhzst zazhzbo zazsg zzzhzs zzzhzp zzzhzpa zzzhzst zzzhzbo zzzsg).flatten
theorem psC_length (zazhzs : Nat) (zazhzp : Nat) (zazhzpa : List Nat) (zazhzst : List Nat) (zazhzbo : List Nat) (zazsg : List Nat) (zzzhzs : Nat) (zzzhzp : Nat) (zzzhzpa : List Nat) (zzzhzst : List Nat) (zzzhzbo : List Nat) (zzzsg : List Nat) (hzazhzpa : zazhzpa.length = 32) (hzazhzst : zazhzst.length = 32) (hzazhzbo : zazhzbo.length = 32) (hzazsg : zazsg.length = 32) (hzzzhzpa : zzzhzpa.length = 32) (hzzzhzst : zzzhzst.length = 32) (hzzzhzbo : zzzhzbo.length = 32) (hzzzsg : zzzsg.length = 32) : (psC zazhzs zazhzp zazhzpa zazhzst zazhzbo zazsg zzzhzs zzzhzp zzzhzpa zzzhzst zzzhzbo zzzsg).length = 260 := by simp [psC, psP, cellsB_length, hzazhzpa, hzazhzst, hzazhzbo, hzazsg, hzzzhzpa, hzzzhzst, hzzzhzbo, hzzzsg, shC_length zazhzs zazhzp zazhzpa zazhzst zazhzbo zazsg hzazhzpa hzazhzst hzazhzbo hzazsg, shC_length zzzhzs zzzhzp zzzhzpa zzzhzst zzzhzbo zzzsg hzzzhzpa hzzzhzst hzzzhzbo hzzzsg]
def psR (zazhzs : Nat) (zazhzp : Nat) (zazhzpa : List Nat) (zazhzst : List Nat) (zazhzbo : List Nat) (zazsg : List Nat) (zzzhzs : Nat) (zzzhzp : Nat) (zzzhzpa : List Nat) (zzzhzst : List Nat) (zzzhzbo : List Nat) (zzzsg : List Nat) : List Nat := fullR (depth (([shR zazhzs zazhzp zazhzpa zazhzst zazhzbo zazsg, shR zzzhzs zzzhzp zzzhzpa zzzhzst zzzhzbo zzzsg] : List (List Nat)).length : Nat)) [shR zazhzs zazhzp zazhzpa zazhzst zazhzbo zazsg, shR zzzhzs zzzhzp zzzhzpa zzzhzst zzzhzbo zzzsg]
theorem psR_rt (zazhzs : Nat) (zazhzp : Nat) (zazhzpa : List Nat) (zazhzst : List Nat) (zazhzbo : List Nat) (zazsg : List Nat) (zzzhzs : Nat) (zzzhzp : Nat) (zzzhzpa : List Nat) (zzzhzst : List Nat) (zzzhzbo : List Nat) (zzzsg : List Nat) (hzazhzpa : Rt zazhzpa) (hzazhzst : Rt zazhzst) (hzazhzbo : Rt zazhzbo) (hzazsg : Rt zazsg) (hzzzhzpa : Rt zzzhzpa) (hzzzhzst : Rt zzzhzst) (hzzzhzbo : Rt zzzhzbo) (hzzzsg : Rt zzzsg) : Rt (psR zazhzs zazhzp zazhzpa zazhzst zazhzbo zazsg zzzhzs zzzhzp zzzhzpa zzzhzst zzzhzbo zzzsg) := full_rt _ _ (Rts.more (shR_rt zazhzs zazhzp zazhzpa zazhzst zazhzbo zazsg hzazhzpa hzazhzst hzazhzbo hzazsg) (Rts.more (shR_rt zzzhzs zzzhzp zzzhzpa zzzhzst zzzhzbo zzzsg hzzzhzpa hzzzhzst hzzzhzbo hzzzsg) Rts.nil))
set_option maxHeartbeats 2000000 in
theorem psR_any (zazhzs : Nat) (zazhzp : Nat) (zazhzpa : List Nat) (zazhzst : List Nat) (zazhzbo : List Nat) (zazsg : List Nat) (zzzhzs : Nat) (zzzhzp : Nat) (zzzhzpa : List Nat) (zzzhzst : List Nat) (zzzhzbo : List Nat) (zzzsg : List Nat) (hzazhzs : zazhzs < 18446744073709551616) (hzazhzp : zazhzp < 18446744073709551616) (hzazhzpa : Rt zazhzpa) (hzazhzst : Rt zazhzst) (hzazhzbo : Rt zazhzbo) (hzazsg : Rt zazsg) (hzzzhzs : zzzhzs < 18446744073709551616) (hzzzhzp : zzzhzp < 18446744073709551616) (hzzzhzpa : Rt zzzhzpa) (hzzzhzst : Rt zzzhzst) (hzzzhzbo : Rt zzzhzbo) (hzzzsg : Rt zzzsg) (w : World) (hT : Tabs w) :
    Calls Tryd.prog 17 #[.agg (psC zazhzs zazhzp zazhzpa zazhzst zazhzbo zazsg zzzhzs zzzhzp zzzhzpa zzzhzst zzzhzbo zzzsg).toArray] w fun x w' => x = .returned (.agg (nums .u8 (psR zazhzs zazhzp zazhzpa zazhzst zazhzbo zazsg zzzhzs zzzhzp zzzhzpa zzzhzst zzzhzbo zzzsg))) ∧ Below w.heap.size w w' := by
  have hfr := psR_rt zazhzs zazhzp zazhzpa zazhzst zazhzbo zazsg zzzhzs zzzhzp zzzhzpa zzzhzst zzzhzbo zzzsg hzazhzpa hzazhzst hzazhzbo hzazsg hzzzhzpa hzzzhzst hzzzhzbo hzzzsg
  obtain ⟨W, HW⟩ : ∃ W, Hid (psR zazhzs zazhzp zazhzpa zazhzst zazhzbo zazsg zzzhzs zzzhzp zzzhzpa zzzhzst zzzhzbo zzzsg = W) := ⟨_, hid rfl⟩
  rw [HW.out] at hfr ⊢
  go_enter Tryd.func17, Tryd.ntmps17
  go_wp2_with ((with_reducible refine at_list' ?_); first
    | (refine wpList_box_c rfl 1 rfl (.tmp 0) rfl (psC zazhzs zazhzp zazhzpa zazhzst zazhzbo zazsg zzzhzs zzzhzp zzzhzpa zzzhzst zzzhzbo zzzsg) rfl ?_; intro w1 H1 B1 S1)
    | (refine wpList_alloc_has rfl 2 rfl 24 rfl .u8 32 Tryd.zero24 ?_; intro w2 H2 B2 S2; rw [S1] at H2 S2; rw [S1]))
  have HX := hid (H1.keep B2)
  have HY := hid H2
  have HB := hid (B1.trans (B2.mono (by omega)))
  have HT := hid (hT.keep HB.out)
  have s2 : w2.heap.size = w.heap.size + 2 := by omega
  clear H1 B1 S1 H2 B2 S2
  try simp only [Act.put, List.setIfInBounds_toArray, List.set_cons_succ, List.set_cons_zero]
  refine wp_region_flow 8 8 (fun i v wq => match i with
    | 0 => v = .pointer (some ⟨w.heap.size, 0, none⟩)
    | 1 => v = .agg (shC zazhzs zazhzp zazhzpa zazhzst zazhzbo zazsg).toArray
    | 2 => v = .agg (nums .u8 (shR zazhzs zazhzp zazhzpa zazhzst zazhzbo zazsg))
    | 3 => v = .pointer (some ⟨w.heap.size, 130, none⟩)
    | 4 => v = .agg (shC zzzhzs zzzhzp zzzhzpa zzzhzst zzzhzbo zzzsg).toArray
    | 5 => v = .agg (nums .u8 (shR zzzhzs zzzhzp zzzhzpa zzzhzst zzzhzbo zzzsg))
    | 6 => ∃ b, v = .slice (some ⟨b, 0, none⟩) 2 2 ∧ RootsAt wq (some ⟨b, 0, none⟩) [shR zazhzs zazhzp zazhzpa zazhzst zazhzbo zazsg, shR zzzhzs zzzhzp zzzhzpa zzzhzst zzzhzbo zzzsg]
    | _ => v = .agg (nums .u8 W)) (by kernel_rfl) (by kernel_rfl) (fun _ d _ _ _ h => by cases d <;> exact h) ?_ ?_ ?_ ?_
  · intro i v wq wq' hi hv hb
    match i, hi with
    | 0, _ => exact hv
    | 1, _ => exact hv
    | 2, _ => exact hv
    | 3, _ => exact hv
    | 4, _ => exact hv
    | 5, _ => exact hv
    | 6, _ => obtain ⟨b, h1, h2⟩ := hv; exact ⟨b, h1, h2.keep hb⟩
    | 7, _ => exact hv
    | (k + 8), hk => exact absurd hk (by omega)
  · intro i o hi ho aq wq hc hk hdep
    match i, hi with
    | 0, _ =>
      cases ho
      have e1 : aq.tmps.getD 1 undef = .pointer (some ⟨w.heap.size, 0, none⟩) := hk 1 (by decide)
      exact flow_value _ (run_fieldAt 67 (.tmp 1) 0 rfl _ _ e1 (by kernel_rfl)) rfl
    | 1, _ =>
      cases ho
      have e0 : aq.tmps.getD 3 undef = .pointer (some ⟨w.heap.size, 0, none⟩) := hdep 0 3 rfl (by kernel_rfl)
      exact flow_value _ (run_mid 65 (.tmp 3) rfl w.heap.size 0 e0 (shC zazhzs zazhzp zazhzpa zazhzst zazhzbo zazsg) ((HX.out.keep (hcB hc)).range 0 (shC zazhzs zazhzp zazhzpa zazhzst zazhzbo zazsg) (seg (ps := psP zazhzs zazhzp zazhzpa zazhzst zazhzbo zazsg zzzhzs zzzhzp zzzhzpa zzzhzst zzzhzbo zzzsg) (i := 0) (off := 0) rfl (by simp [psP, cellsB_length, hzazhzpa.len, hzazhzst.len, hzazhzbo.len, hzazsg.len, hzzzhzpa.len, hzzzhzst.len, hzzzhzbo.len, hzzzsg.len, shC_length zazhzs zazhzp zazhzpa zazhzst zazhzbo zazsg hzazhzpa.len hzazhzst.len hzazhzbo.len hzazsg.len, shC_length zzzhzs zzzhzp zzzhzpa zzzhzst zzzhzbo zzzsg hzzzhzpa.len hzzzhzst.len hzzzhzbo.len hzzzsg.len]))) _ Tryd.underlying65 rfl (by rw [shC_length zazhzs zazhzp zazhzpa zazhzst zazhzbo zazsg hzazhzpa.len hzazhzst.len hzazhzbo.len hzazsg.len]; kernel_rfl)) rfl
    | 2, _ =>
      cases ho
      have e0 : aq.tmps.getD 4 undef = .agg (shC zazhzs zazhzp zazhzpa zazhzst zazhzbo zazsg).toArray := hdep 1 4 rfl (by kernel_rfl)
      refine flow_fun 32 _ _ rfl (fun _ _ => by simp [go_sem]) #[.agg (shC zazhzs zazhzp zazhzpa zazhzst zazhzbo zazsg).toArray] (by rw [show (#[Operand.tmp 4] : Array Operand).map aq.eval = #[aq.tmps.getD 4 undef] from by simp [Act.eval], e0]) ?_
      refine (shR_any zazhzs zazhzp zazhzpa zazhzst zazhzbo zazsg hzazhzs hzazhzp hzazhzpa hzazhzst hzazhzbo hzazsg wq (HT.out.keep (hcB hc))).mono ?_
      rintro x w' ⟨rfl, q⟩
      exact ⟨_, rfl, rfl, q⟩
    | 3, _ =>
      cases ho
      have e1 : aq.tmps.getD 1 undef = .pointer (some ⟨w.heap.size, 0, none⟩) := hk 1 (by decide)
      exact flow_value _ (run_fieldAt 67 (.tmp 1) 1 rfl _ _ e1 (by kernel_rfl)) rfl
    | 4, _ =>
      cases ho
      have e0 : aq.tmps.getD 6 undef = .pointer (some ⟨w.heap.size, 130, none⟩) := hdep 3 6 rfl (by kernel_rfl)
      exact flow_value _ (run_mid 65 (.tmp 6) rfl w.heap.size 130 e0 (shC zzzhzs zzzhzp zzzhzpa zzzhzst zzzhzbo zzzsg) ((HX.out.keep (hcB hc)).range 130 (shC zzzhzs zzzhzp zzzhzpa zzzhzst zzzhzbo zzzsg) (seg (ps := psP zazhzs zazhzp zazhzpa zazhzst zazhzbo zazsg zzzhzs zzzhzp zzzhzpa zzzhzst zzzhzbo zzzsg) (i := 1) (off := 130) rfl (by simp [psP, cellsB_length, hzazhzpa.len, hzazhzst.len, hzazhzbo.len, hzazsg.len, hzzzhzpa.len, hzzzhzst.len, hzzzhzbo.len, hzzzsg.len, shC_length zazhzs zazhzp zazhzpa zazhzst zazhzbo zazsg hzazhzpa.len hzazhzst.len hzazhzbo.len hzazsg.len, shC_length zzzhzs zzzhzp zzzhzpa zzzhzst zzzhzbo zzzsg hzzzhzpa.len hzzzhzst.len hzzzhzbo.len hzzzsg.len]))) _ Tryd.underlying65 rfl (by rw [shC_length zzzhzs zzzhzp zzzhzpa zzzhzst zzzhzbo zzzsg hzzzhzpa.len hzzzhzst.len hzzzhzbo.len hzzzsg.len]; kernel_rfl)) rfl
    | 5, _ =>
      cases ho
      have e0 : aq.tmps.getD 7 undef = .agg (shC zzzhzs zzzhzp zzzhzpa zzzhzst zzzhzbo zzzsg).toArray := hdep 4 7 rfl (by kernel_rfl)
      refine flow_fun 32 _ _ rfl (fun _ _ => by simp [go_sem]) #[.agg (shC zzzhzs zzzhzp zzzhzpa zzzhzst zzzhzbo zzzsg).toArray] (by rw [show (#[Operand.tmp 7] : Array Operand).map aq.eval = #[aq.tmps.getD 7 undef] from by simp [Act.eval], e0]) ?_
      refine (shR_any zzzhzs zzzhzp zzzhzpa zzzhzst zzzhzbo zzzsg hzzzhzs hzzzhzp hzzzhzpa hzzzhzst hzzzhzbo hzzzsg wq (HT.out.keep (hcB hc))).mono ?_
      rintro x w' ⟨rfl, q⟩
      exact ⟨_, rfl, rfl, q⟩
    | 6, _ =>
      cases ho
      have e0 : aq.tmps.getD 5 undef = .agg (nums .u8 (shR zazhzs zazhzp zazhzpa zazhzst zazhzbo zazsg)) := hdep 2 5 rfl (by kernel_rfl)
      have e1 : aq.tmps.getD 8 undef = .agg (nums .u8 (shR zzzhzs zzzhzp zzzhzpa zzzhzst zzzhzbo zzzsg)) := hdep 5 8 rfl (by kernel_rfl)
      exact flow_rows 89 24 2 32 _ rfl Tryd.underlying89 rootInfo6 [cellsB (shR zazhzs zazhzp zazhzpa zazhzst zazhzbo zazsg), cellsB (shR zzzhzs zzzhzp zzzhzpa zzzhzst zzzhzbo zzzsg)] [.tmp 5, .tmp 8] rfl (by rw [show [Operand.tmp 5, Operand.tmp 8].map aq.eval = [aq.tmps.getD 5 undef, aq.tmps.getD 8 undef] from rfl, e0, e1]; rfl) (by simp [cellsB_length, ((shR_rt zazhzs zazhzp zazhzpa zazhzst zazhzbo zazsg hzazhzpa hzazhzst hzazhzbo hzazsg)).len, ((shR_rt zzzhzs zzzhzp zzzhzpa zzzhzst zzzhzbo zzzsg hzzzhzpa hzzzhzst hzzzhzbo hzzzsg)).len]) rfl (by decide) (by decide) (by decide) (fun w' h => ⟨_, rfl, hasC_roots (rs := [shR zazhzs zazhzp zazhzpa zazhzst zazhzbo zazsg, shR zzzhzs zzzhzp zzzhzpa zzzhzst zzzhzbo zzzsg]) h (Rts.more (shR_rt zazhzs zazhzp zazhzpa zazhzst zazhzbo zazsg hzazhzpa hzazhzst hzazhzbo hzazsg) (Rts.more (shR_rt zzzhzs zzzhzp zzzhzpa zzzhzst zzzhzbo zzzsg hzzzhzpa hzzzhzst hzzzhzbo hzzzsg) Rts.nil))⟩)
    | 7, _ =>
      cases ho
      obtain ⟨b, e6, h6⟩ := hdep 6 9 rfl (by kernel_rfl)
      refine flow_fun 14 _ _ rfl (fun _ _ => by simp [go_sem]) #[.slice (some ⟨b, 0, none⟩) 2 2] (by rw [show (#[Operand.tmp 9] : Array Operand).map aq.eval = #[aq.tmps.getD 9 undef] from by simp [Act.eval], e6]) ?_
      refine (cont_any (some ⟨b, 0, none⟩) 2 [shR zazhzs zazhzp zazhzpa zazhzst zazhzbo zazsg, shR zzzhzs zzzhzp zzzhzpa zzzhzst zzzhzbo zzzsg] wq (HT.out.keep (hcB hc)) (Nat.le_refl _) (by decide) (by show 2 ≤ 1048576; decide) h6).mono ?_
      rintro x w' ⟨rfl, q⟩
      exact ⟨_, rfl, (by rw [← HW.out]; rfl), q⟩
    | (k + 8), hk => exact absurd hk (by omega)
  · intro o h8 ho
    omega
  intro vf w8 hc hv
  have e7 : vf 7 = _ := hv 7 10 (by decide) rfl
  have B8 := HB.out.trans ((hcB hc).mono (by omega))
  have H8v := HY.out.keep (hcB hc)
  have s8 := (hcB hc).size
  clear hv hc
  simp only [List.take_succ_cons, List.take_zero, List.drop_succ_cons, List.drop_zero, putAll, Act.put, List.setIfInBounds_toArray, List.set_cons_succ, List.set_cons_zero]
  rw [e7]
  have HB8 := hid B8
  clear B8 e7 HB
  go_wp2_with ((with_reducible refine at_list' ?_); first
    | (refine wpList_store_has rfl 24 (.tmp 2) (.tmp 10) rfl (w.heap.size + 1) .u8 W (zeros 32) rfl rfl 24 H8v (hfr.size _ Tryd.size24) (by rw [hfr.len, zeros_length]) ?_; intro w9 H9 O9))
  refine bodyPost_ret (results_has rfl _ _ (w.heap.size + 1) 24 .u8 W _ _ rfl H9 Tryd.und24 (hfr.size _ Tryd.size24)) rfl ?_
  exact ⟨rfl, below_only HB8.out O9 (by omega)⟩
end Go.Proofs.YtpkelkipmldfeaaDoor

/- The root of a struct (Exit), by the program. -/
namespace Go.Proofs.YtpkelkipmldfeaaDoor
open Go.RowKit Go.Shelf
set_option linter.unusedVariables false
set_option linter.unusedSimpArgs false
set_option maxRecDepth 100000

def exP (ze : Nat) (zi : Nat) : List (List Value) := [[.int .u64 (ze : Nat)], [.int .u64 (zi : Nat)]]
def exC (ze : Nat) (zi : Nat) : List Value := (exP ze zi).flatten
theorem exC_length (ze : Nat) (zi : Nat)  : (exC ze zi).length = 2 := by simp [exC, exP, cellsB_length]
def exR (ze : Nat) (zi : Nat) : List Nat := fullR (depth (([wUp ze 8, wUp zi 8] : List (List Nat)).length : Nat)) [wUp ze 8, wUp zi 8]
theorem exR_rt (ze : Nat) (zi : Nat)  : Rt (exR ze zi) := full_rt _ _ (Rts.more (wUp_rt ze 8) (Rts.more (wUp_rt zi 8) Rts.nil))
set_option maxHeartbeats 2000000 in
theorem exR_any (ze : Nat) (zi : Nat) (hze : ze < 18446744073709551616) (hzi : zi < 18446744073709551616) (w : World) (hT : Tabs w) :
    Calls Tryd.prog 41 #[.agg (exC ze zi).toArray] w fun x w' => x = .returned (.agg (nums .u8 (exR ze zi))) ∧ Below w.heap.size w w' := by
  have hfr := exR_rt ze zi 
  obtain ⟨W, HW⟩ : ∃ W, Hid (exR ze zi = W) := ⟨_, hid rfl⟩
  rw [HW.out] at hfr ⊢
  go_enter Tryd.func41, Tryd.ntmps41
  go_wp2_with ((with_reducible refine at_list' ?_); first
    | (refine wpList_box_c rfl 1 rfl (.tmp 0) rfl (exC ze zi) rfl ?_; intro w1 H1 B1 S1)
    | (refine wpList_alloc_has rfl 2 rfl 24 rfl .u8 32 Tryd.zero24 ?_; intro w2 H2 B2 S2; rw [S1] at H2 S2; rw [S1]))
  have HX := hid (H1.keep B2)
  have HY := hid H2
  have HB := hid (B1.trans (B2.mono (by omega)))
  have HT := hid (hT.keep HB.out)
  have s2 : w2.heap.size = w.heap.size + 2 := by omega
  clear H1 B1 S1 H2 B2 S2
  try simp only [Act.put, List.setIfInBounds_toArray, List.set_cons_succ, List.set_cons_zero]
  refine wp_region_flow 8 8 (fun i v wq => match i with
    | 0 => v = .pointer (some ⟨w.heap.size, 0, none⟩)
    | 1 => v = .int .u64 (ze : Nat)
    | 2 => v = .agg (nums .u8 (wUp ze 8))
    | 3 => v = .pointer (some ⟨w.heap.size, 1, none⟩)
    | 4 => v = .int .u64 (zi : Nat)
    | 5 => v = .agg (nums .u8 (wUp zi 8))
    | 6 => ∃ b, v = .slice (some ⟨b, 0, none⟩) 2 2 ∧ RootsAt wq (some ⟨b, 0, none⟩) [wUp ze 8, wUp zi 8]
    | _ => v = .agg (nums .u8 W)) (by kernel_rfl) (by kernel_rfl) (fun _ d _ _ _ h => by cases d <;> exact h) ?_ ?_ ?_ ?_
  · intro i v wq wq' hi hv hb
    match i, hi with
    | 0, _ => exact hv
    | 1, _ => exact hv
    | 2, _ => exact hv
    | 3, _ => exact hv
    | 4, _ => exact hv
    | 5, _ => exact hv
    | 6, _ => obtain ⟨b, h1, h2⟩ := hv; exact ⟨b, h1, h2.keep hb⟩
    | 7, _ => exact hv
    | (k + 8), hk => exact absurd hk (by omega)
  · intro i o hi ho aq wq hc hk hdep
    match i, hi with
    | 0, _ =>
      cases ho
      have e1 : aq.tmps.getD 1 undef = .pointer (some ⟨w.heap.size, 0, none⟩) := hk 1 (by decide)
      exact flow_value _ (run_fieldAt 82 (.tmp 1) 0 rfl _ _ e1 (by kernel_rfl)) rfl
    | 1, _ =>
      cases ho
      have e0 : aq.tmps.getD 3 undef = .pointer (some ⟨w.heap.size, 0, none⟩) := hdep 0 3 rfl (by kernel_rfl)
      exact flow_value _ (run_cell 22 (.tmp 3) rfl _ e0 _ ((HX.out.keep (hcB hc)).cell (seg (ps := exP ze zi) (i := 0) (off := 0) rfl (by simp [exP, cellsB_length]) 0 _ rfl)) _ Tryd.underlying22 rfl) rfl
    | 2, _ =>
      cases ho
      have e0 : aq.tmps.getD 4 undef = .int .u64 (ze : Nat) := hdep 1 4 rfl (by kernel_rfl)
      refine flow_fun 26 _ _ rfl (fun _ _ => by simp [go_sem]) #[.int .u64 (ze : Nat)] (by rw [show (#[Operand.tmp 4] : Array Operand).map aq.eval = #[aq.tmps.getD 4 undef] from by simp [Act.eval], e0]) ?_
      refine (number_any ze hze wq).mono ?_
      rintro x w' ⟨rfl, q⟩
      exact ⟨_, rfl, rfl, q⟩
    | 3, _ =>
      cases ho
      have e1 : aq.tmps.getD 1 undef = .pointer (some ⟨w.heap.size, 0, none⟩) := hk 1 (by decide)
      exact flow_value _ (run_fieldAt 82 (.tmp 1) 1 rfl _ _ e1 (by kernel_rfl)) rfl
    | 4, _ =>
      cases ho
      have e0 : aq.tmps.getD 6 undef = .pointer (some ⟨w.heap.size, 1, none⟩) := hdep 3 6 rfl (by kernel_rfl)
      exact flow_value _ (run_cell 22 (.tmp 6) rfl _ e0 _ ((HX.out.keep (hcB hc)).cell (seg (ps := exP ze zi) (i := 1) (off := 1) rfl (by simp [exP, cellsB_length]) 0 _ rfl)) _ Tryd.underlying22 rfl) rfl
    | 5, _ =>
      cases ho
      have e0 : aq.tmps.getD 7 undef = .int .u64 (zi : Nat) := hdep 4 7 rfl (by kernel_rfl)
      refine flow_fun 26 _ _ rfl (fun _ _ => by simp [go_sem]) #[.int .u64 (zi : Nat)] (by rw [show (#[Operand.tmp 7] : Array Operand).map aq.eval = #[aq.tmps.getD 7 undef] from by simp [Act.eval], e0]) ?_
      refine (number_any zi hzi wq).mono ?_
      rintro x w' ⟨rfl, q⟩
      exact ⟨_, rfl, rfl, q⟩
    | 6, _ =>
      cases ho
      have e0 : aq.tmps.getD 5 undef = .agg (nums .u8 (wUp ze 8)) := hdep 2 5 rfl (by kernel_rfl)
      have e1 : aq.tmps.getD 8 undef = .agg (nums .u8 (wUp zi 8)) := hdep 5 8 rfl (by kernel_rfl)
      exact flow_rows 89 24 2 32 _ rfl Tryd.underlying89 rootInfo6 [cellsB (wUp ze 8), cellsB (wUp zi 8)] [.tmp 5, .tmp 8] rfl (by rw [show [Operand.tmp 5, Operand.tmp 8].map aq.eval = [aq.tmps.getD 5 undef, aq.tmps.getD 8 undef] from rfl, e0, e1]; rfl) (by simp [cellsB_length, ((wUp_rt ze 8)).len, ((wUp_rt zi 8)).len]) rfl (by decide) (by decide) (by decide) (fun w' h => ⟨_, rfl, hasC_roots (rs := [wUp ze 8, wUp zi 8]) h (Rts.more (wUp_rt ze 8) (Rts.more (wUp_rt zi 8) Rts.nil))⟩)
    | 7, _ =>
      cases ho
      obtain ⟨b, e6, h6⟩ := hdep 6 9 rfl (by kernel_rfl)
      refine flow_fun 14 _ _ rfl (fun _ _ => by simp [go_sem]) #[.slice (some ⟨b, 0, none⟩) 2 2] (by rw [show (#[Operand.tmp 9] : Array Operand).map aq.eval = #[aq.tmps.getD 9 undef] from by simp [Act.eval], e6]) ?_
      refine (cont_any (some ⟨b, 0, none⟩) 2 [wUp ze 8, wUp zi 8] wq (HT.out.keep (hcB hc)) (Nat.le_refl _) (by decide) (by show 2 ≤ 1048576; decide) h6).mono ?_
      rintro x w' ⟨rfl, q⟩
      exact ⟨_, rfl, (by rw [← HW.out]; rfl), q⟩
    | (k + 8), hk => exact absurd hk (by omega)
  · intro o h8 ho
    omega
  intro vf w8 hc hv
  have e7 : vf 7 = _ := hv 7 10 (by decide) rfl
  have B8 := HB.out.trans ((hcB hc).mono (by omega))
  have H8v := HY.out.keep (hcB hc)
  have s8 := (hcB hc).size
  clear hv hc
  simp only [List.take_succ_cons, List.take_zero, List.drop_succ_cons, List.drop_zero, putAll, Act.put, List.setIfInBounds_toArray, List.set_cons_succ, List.set_cons_zero]
  rw [e7]
  have HB8 := hid B8
  clear B8 e7 HB
  go_wp2_with ((with_reducible refine at_list' ?_); first
    | (refine wpList_store_has rfl 24 (.tmp 2) (.tmp 10) rfl (w.heap.size + 1) .u8 W (zeros 32) rfl rfl 24 H8v (hfr.size _ Tryd.size24) (by rw [hfr.len, zeros_length]) ?_; intro w9 H9 O9))
  refine bodyPost_ret (results_has rfl _ _ (w.heap.size + 1) 24 .u8 W _ _ rfl H9 Tryd.und24 (hfr.size _ Tryd.size24)) rfl ?_
  exact ⟨rfl, below_only HB8.out O9 (by omega)⟩
end Go.Proofs.YtpkelkipmldfeaaDoor

/- The root of a struct (SignedExit), by the program. -/
namespace Go.Proofs.YtpkelkipmldfeaaDoor
open Go.RowKit Go.Shelf
set_option linter.unusedVariables false
set_option linter.unusedSimpArgs false
set_option maxRecDepth 100000

def sxP (zxze : Nat) (zxzi : Nat) (zsg : List Nat) : List (List Value) := [exC zxze zxzi, cellsB zsg]
def sxC (zxze : Nat) (zxzi : Nat) (zsg : List Nat) : List Value := (sxP zxze zxzi zsg).flatten
theorem sxC_length (zxze : Nat) (zxzi : Nat) (zsg : List Nat) (hzsg : zsg.length = 32) : (sxC zxze zxzi zsg).length = 34 := by simp [sxC, sxP, cellsB_length, hzsg, exC_length zxze zxzi ]
def sxR (zxze : Nat) (zxzi : Nat) (zsg : List Nat) : List Nat := fullR (depth (([exR zxze zxzi, zsg] : List (List Nat)).length : Nat)) [exR zxze zxzi, zsg]
theorem sxR_rt (zxze : Nat) (zxzi : Nat) (zsg : List Nat) (hzsg : Rt zsg) : Rt (sxR zxze zxzi zsg) := full_rt _ _ (Rts.more (exR_rt zxze zxzi ) (Rts.more hzsg Rts.nil))
set_option maxHeartbeats 2000000 in
theorem sxR_any (zxze : Nat) (zxzi : Nat) (zsg : List Nat) (hzxze : zxze < 18446744073709551616) (hzxzi : zxzi < 18446744073709551616) (hzsg : Rt zsg) (w : World) (hT : Tabs w) :
    Calls Tryd.prog 25 #[.agg (sxC zxze zxzi zsg).toArray] w fun x w' => x = .returned (.agg (nums .u8 (sxR zxze zxzi zsg))) ∧ Below w.heap.size w w' := by
  have hfr := sxR_rt zxze zxzi zsg hzsg
  obtain ⟨W, HW⟩ : ∃ W, Hid (sxR zxze zxzi zsg = W) := ⟨_, hid rfl⟩
  rw [HW.out] at hfr ⊢
  go_enter Tryd.func25, Tryd.ntmps25
  go_wp2_with ((with_reducible refine at_list' ?_); first
    | (refine wpList_box_c rfl 1 rfl (.tmp 0) rfl (sxC zxze zxzi zsg) rfl ?_; intro w1 H1 B1 S1)
    | (refine wpList_alloc_has rfl 2 rfl 24 rfl .u8 32 Tryd.zero24 ?_; intro w2 H2 B2 S2; rw [S1] at H2 S2; rw [S1]))
  have HX := hid (H1.keep B2)
  have HY := hid H2
  have HB := hid (B1.trans (B2.mono (by omega)))
  have HT := hid (hT.keep HB.out)
  have s2 : w2.heap.size = w.heap.size + 2 := by omega
  clear H1 B1 S1 H2 B2 S2
  try simp only [Act.put, List.setIfInBounds_toArray, List.set_cons_succ, List.set_cons_zero]
  refine wp_region_flow 7 7 (fun i v wq => match i with
    | 0 => v = .pointer (some ⟨w.heap.size, 0, none⟩)
    | 1 => v = .agg (exC zxze zxzi).toArray
    | 2 => v = .agg (nums .u8 (exR zxze zxzi))
    | 3 => v = .pointer (some ⟨w.heap.size, 2, none⟩)
    | 4 => v = .agg (nums .u8 zsg)
    | 5 => ∃ b, v = .slice (some ⟨b, 0, none⟩) 2 2 ∧ RootsAt wq (some ⟨b, 0, none⟩) [exR zxze zxzi, zsg]
    | _ => v = .agg (nums .u8 W)) (by kernel_rfl) (by kernel_rfl) (fun _ d _ _ _ h => by cases d <;> exact h) ?_ ?_ ?_ ?_
  · intro i v wq wq' hi hv hb
    match i, hi with
    | 0, _ => exact hv
    | 1, _ => exact hv
    | 2, _ => exact hv
    | 3, _ => exact hv
    | 4, _ => exact hv
    | 5, _ => obtain ⟨b, h1, h2⟩ := hv; exact ⟨b, h1, h2.keep hb⟩
    | 6, _ => exact hv
    | (k + 7), hk => exact absurd hk (by omega)
  · intro i o hi ho aq wq hc hk hdep
    match i, hi with
    | 0, _ =>
      cases ho
      have e1 : aq.tmps.getD 1 undef = .pointer (some ⟨w.heap.size, 0, none⟩) := hk 1 (by decide)
      exact flow_value _ (run_fieldAt 84 (.tmp 1) 0 rfl _ _ e1 (by kernel_rfl)) rfl
    | 1, _ =>
      cases ho
      have e0 : aq.tmps.getD 3 undef = .pointer (some ⟨w.heap.size, 0, none⟩) := hdep 0 3 rfl (by kernel_rfl)
      exact flow_value _ (run_mid 82 (.tmp 3) rfl w.heap.size 0 e0 (exC zxze zxzi) ((HX.out.keep (hcB hc)).range 0 (exC zxze zxzi) (seg (ps := sxP zxze zxzi zsg) (i := 0) (off := 0) rfl (by simp [sxP, cellsB_length, hzsg.len, exC_length zxze zxzi ]))) _ Tryd.underlying82 rfl (by rw [exC_length zxze zxzi ]; kernel_rfl)) rfl
    | 2, _ =>
      cases ho
      have e0 : aq.tmps.getD 4 undef = .agg (exC zxze zxzi).toArray := hdep 1 4 rfl (by kernel_rfl)
      refine flow_fun 41 _ _ rfl (fun _ _ => by simp [go_sem]) #[.agg (exC zxze zxzi).toArray] (by rw [show (#[Operand.tmp 4] : Array Operand).map aq.eval = #[aq.tmps.getD 4 undef] from by simp [Act.eval], e0]) ?_
      refine (exR_any zxze zxzi hzxze hzxzi wq (HT.out.keep (hcB hc))).mono ?_
      rintro x w' ⟨rfl, q⟩
      exact ⟨_, rfl, rfl, q⟩
    | 3, _ =>
      cases ho
      have e1 : aq.tmps.getD 1 undef = .pointer (some ⟨w.heap.size, 0, none⟩) := hk 1 (by decide)
      exact flow_value _ (run_fieldAt 84 (.tmp 1) 1 rfl _ _ e1 (by kernel_rfl)) rfl
    | 4, _ =>
      cases ho
      have e0 : aq.tmps.getD 6 undef = .pointer (some ⟨w.heap.size, 2, none⟩) := hdep 3 6 rfl (by kernel_rfl)
      exact flow_value _ (run_mid 24 (.tmp 6) rfl w.heap.size 2 e0 (cellsB zsg) ((HX.out.keep (hcB hc)).range 2 (cellsB zsg) (seg (ps := sxP zxze zxzi zsg) (i := 1) (off := 2) rfl (by simp [sxP, cellsB_length, hzsg.len, exC_length zxze zxzi ]))) _ Tryd.und24 rfl (by rw [cellsB_length, hzsg.len]; exact Tryd.size24)) rfl
    | 5, _ =>
      cases ho
      have e0 : aq.tmps.getD 5 undef = .agg (nums .u8 (exR zxze zxzi)) := hdep 2 5 rfl (by kernel_rfl)
      have e1 : aq.tmps.getD 7 undef = .agg (nums .u8 zsg) := hdep 4 7 rfl (by kernel_rfl)
      exact flow_rows 89 24 2 32 _ rfl Tryd.underlying89 rootInfo6 [cellsB (exR zxze zxzi), cellsB (zsg)] [.tmp 5, .tmp 7] rfl (by rw [show [Operand.tmp 5, Operand.tmp 7].map aq.eval = [aq.tmps.getD 5 undef, aq.tmps.getD 7 undef] from rfl, e0, e1]; rfl) (by simp [cellsB_length, ((exR_rt zxze zxzi )).len, (hzsg).len]) rfl (by decide) (by decide) (by decide) (fun w' h => ⟨_, rfl, hasC_roots (rs := [exR zxze zxzi, zsg]) h (Rts.more (exR_rt zxze zxzi ) (Rts.more hzsg Rts.nil))⟩)
    | 6, _ =>
      cases ho
      obtain ⟨b, e6, h6⟩ := hdep 5 8 rfl (by kernel_rfl)
      refine flow_fun 14 _ _ rfl (fun _ _ => by simp [go_sem]) #[.slice (some ⟨b, 0, none⟩) 2 2] (by rw [show (#[Operand.tmp 8] : Array Operand).map aq.eval = #[aq.tmps.getD 8 undef] from by simp [Act.eval], e6]) ?_
      refine (cont_any (some ⟨b, 0, none⟩) 2 [exR zxze zxzi, zsg] wq (HT.out.keep (hcB hc)) (Nat.le_refl _) (by decide) (by show 2 ≤ 1048576; decide) h6).mono ?_
      rintro x w' ⟨rfl, q⟩
      exact ⟨_, rfl, (by rw [← HW.out]; rfl), q⟩
    | (k + 7), hk => exact absurd hk (by omega)
  · intro o h7 ho
    omega
  intro vf w8 hc hv
  have e7 : vf 6 = _ := hv 6 9 (by decide) rfl
  have B8 := HB.out.trans ((hcB hc).mono (by omega))
  have H8v := HY.out.keep (hcB hc)
  have s8 := (hcB hc).size
  clear hv hc
  simp only [List.take_succ_cons, List.take_zero, List.drop_succ_cons, List.drop_zero, putAll, Act.put, List.setIfInBounds_toArray, List.set_cons_succ, List.set_cons_zero]
  rw [e7]
  have HB8 := hid B8
  clear B8 e7 HB
  go_wp2_with ((with_reducible refine at_list' ?_); first
    | (refine wpList_store_has rfl 24 (.tmp 2) (.tmp 9) rfl (w.heap.size + 1) .u8 W (zeros 32) rfl rfl 24 H8v (hfr.size _ Tryd.size24) (by rw [hfr.len, zeros_length]) ?_; intro w9 H9 O9))
  refine bodyPost_ret (results_has rfl _ _ (w.heap.size + 1) 24 .u8 W _ _ rfl H9 Tryd.und24 (hfr.size _ Tryd.size24)) rfl ?_
  exact ⟨rfl, below_only HB8.out O9 (by omega)⟩
end Go.Proofs.YtpkelkipmldfeaaDoor

