/- Own texts of the proof, joined: EncS RowP EncE EncF EncG FlowM TakeS RangeM. -/
import Derived.Test.YtpaamhmighgjeaaGreatH1
import Derived.Great.BuildSlice
import Derived.Test.YtpaamhmighgjeaaGreatProg
import Derived.RangeFuncNested
/- The document's Series, Encode being known at lesser depths. -/
namespace Go.Proofs.YtpaamhmighgjeaaGreat
open Go.RowKit
set_option linter.unusedVariables false
set_option maxRecDepth 100000

/-- Kinds in a slice. -/
def IsDs (w : World) (v : Value) (ds : List Dt) : Prop := ∃ ao cap, v = .slice ao ds.length cap ∧ ds.length ≤ cap ∧ cap ≤ maxLen ∧ (ds.length = 0 ∨ ∃ b off, ao = some ⟨b, off, none⟩ ∧ DsAt w ds b off)
/-- Slices of bytes beside the row that holds them. -/
def Elts (w : World) (pt : Value) (us : List Value) (fs : List (List Nat × Bool)) : Prop := us.length = fs.length ∧ ∀ (i : Nat) u f, us[i]? = some u → fs[i]? = some f → IsB w u f.1 ∧ inS (fun b => b < w.heap.size ∧ pt.ownBlock ≠ some b) u
theorem Elts.nil (w : World) (pt : Value) : Elts w pt [] [] := ⟨rfl, fun i u f h => by simp at h⟩
theorem Elts.below {w w' : World} {pt : Value} {us : List Value} {fs : List (List Nat × Bool)} (h : Elts w pt us fs) (hb : Below w.heap.size w w') : Elts w' pt us fs :=
  ⟨h.1, fun i u f hu hf => ⟨(h.2 i u f hu hf).1.keep hb, (h.2 i u f hu hf).2.mono fun k hk => ⟨Nat.lt_of_lt_of_le hk.1 hb.size, hk.2⟩⟩⟩
theorem Elts.next {w w' : World} {pt pt' : Value} {us : List Value} {fs : List (List Nat × Bool)} {u : Value} {f : List Nat × Bool} (h : Elts w pt us fs) (hg : w.grownBy w' pt.ownBlock) (hm : Moved w pt pt') (hu : IsB w u f.1) (hs : inS (fun b => b < w.heap.size ∧ pt.ownBlock ≠ some b) u) : Elts w' pt' (us ++ [u]) (fs ++ [f]) := by
  have key : ∀ (u : Value) (bs : List Nat), IsB w u bs → inS (fun b => b < w.heap.size ∧ pt.ownBlock ≠ some b) u → IsB w' u bs ∧ inS (fun b => b < w'.heap.size ∧ pt'.ownBlock ≠ some b) u := fun u bs hu hs =>
    ⟨hu.keepS hs fun k hk hlt => hg.block k hlt (fun e => hk.2 e.symm), hs.mono fun k hk => ⟨Nat.lt_of_lt_of_le hk.1 hg.size, fun e => (hm k e).elim hk.2 (fun h => by omega)⟩⟩
  refine ⟨by simp [h.1], fun i u' f' hu' hf' => ?_⟩
  by_cases hi : i < us.length
  · rw [List.getElem?_append_left hi] at hu'
    rw [List.getElem?_append_left (by have := h.1; omega)] at hf'
    exact key _ _ (h.2 i u' f' hu' hf').1 (h.2 i u' f' hu' hf').2
  · have hi2 : i = us.length := by
      have := (List.getElem?_eq_some_iff.1 hu').1
      simp at this; omega
    subst hi2
    rw [List.getElem?_append_right (Nat.le_refl _), Nat.sub_self] at hu'
    rw [List.getElem?_append_right (by have := h.1; omega), show us.length - fs.length = 0 by have := h.1; omega] at hf'
    simp at hu' hf'
    subst hu' hf'
    exact key _ _ hu hs
theorem RowS.below {w w' : World} {base : Nat} {v : Value} {us : List Value} (h : RowS w base v us) (hb : Below w.heap.size w w') : RowS w' base v us := by
  obtain ⟨hl, h⟩ := h
  refine ⟨hl, ?_⟩
  rcases h with h | ⟨g, cap, cur, rfl, hb', hg', r⟩
  · exact .inl h
  · exact .inr ⟨g, cap, cur, rfl, hb', (hb.block g (Array.getElem?_eq_some_iff.1 hg').1).trans hg', r⟩
theorem RowS.lt {w : World} {base : Nat} {v : Value} {us : List Value} (h : RowS w base v us) (k : Nat) (hk : v.ownBlock = some k) : base ≤ k ∧ k < w.heap.size := World.ownsRow.lt h k hk
theorem RowS.form {w : World} {base : Nat} {v : Value} {us : List Value} (h : RowS w base v us) (h0 : 0 < us.length) : ∃ g cap, v = .slice (some ⟨g, 0, none⟩) us.length cap ∧ ∀ i u, us[i]? = some u → w.cell? ⟨g, i, none⟩ = some u := by
  obtain ⟨_, h⟩ := h
  rcases h with ⟨rfl, h1⟩ | ⟨g, cap, cur, rfl, hb, hg, hc, hm, hcs, htk⟩
  · omega
  · refine ⟨g, cap, rfl, fun i u hu => ?_⟩
    have hi := (List.getElem?_eq_some_iff.1 hu).1
    rw [cell_of_row w g i cur _ (0, 0) hg]
    have : (cur.toList.take (us.length * 1))[i]? = us[i]? := by rw [htk]
    rw [List.getElem?_take, if_pos (by omega), Array.getElem?_toList] at this
    rw [this, hu]
theorem Row.sl {w : World} {base : Nat} {v : Value} {bs : List Nat} (h : Row w base v bs) : ∃ ao cap, v = .slice ao bs.length cap := by
  rcases h.2 with ⟨rfl, h1⟩ | ⟨g, cap, cur, rfl, _, _, hc, _⟩
  · exact ⟨none, 0, by rw [h1]⟩
  · exact ⟨_, _, rfl⟩
theorem Row.lower {w : World} {a b : Nat} {v : Value} {bs : List Nat} (h : Row w b v bs) (hab : a ≤ b) : Row w a v bs := by
  obtain ⟨hl, h⟩ := h
  refine ⟨hl, ?_⟩
  rcases h with h | ⟨g, cap, cur, rfl, hb', r⟩
  · exact .inl h
  · exact .inr ⟨g, cap, cur, rfl, by omega, r⟩
theorem run_at1 {P : Program} {o : Oper} {a : Act} {w : World} (ty e : TypeId) (sz : Nat) (x y : Operand) (ho : o.op = .indexAddr ty x y) (hu : P.underlying ty = some (.slice e)) (hs : (P.info? e).map (·.size) = some sz) (b off n cap i : Nat) (hx : a.eval x = .slice (some ⟨b, off, none⟩) n cap) (hy : a.eval y = .int .i64 (i : Nat)) (hi : i < n) :
    (execOp a.eval o).run P w = .ok (.value (.pointer (some ⟨b, off + i * sz, none⟩))) w := by
  have hz : (sizeOf e).run P w = .ok sz w := by
    cases hq : P.info? e with
    | none => rw [hq] at hs; cases hs
    | some ie => rw [hq] at hs; simp only [Option.map_some, Option.some.injEq] at hs; simp [sizeOf, typeInfo, hq, hs, go_sem]
  unfold execOp
  simp only [ho, hx, hy]
  by_cases h0 : i * sz = 0
  · simp [Instr.indexAt, underlying, hu, hz, hi, h0, Addr.add, asIntOf, go_sem]
  · simp [Instr.indexAt, underlying, hu, hz, hi, h0, Addr.add, asIntOf, go_sem]

set_option maxHeartbeats 4000000 in
theorem ser_step (N : Nat) (IH : ∀ (d : Dt) (v : Vt) (sb sk : Value) (p : Nat) (w : World), v.deep ≤ N → okD d → okV d v → DAt w d p → VAt w v sb sk → Calls Tryz.prog 10 #[.pointer (some ⟨p, 0, none⟩), .agg (valL v.num v.root sb sk).toArray] w fun e w' => ∃ u, e = .returned u ∧ Row w' w.heap.size u (encV d v) ∧ Below w.heap.size w w')
    (ds : List Dt) (vs : List Vt) (m bk ok ck bv ov cv : Nat) (w : World) (hds : ds.length = m) (hvs : vs.length = m) (hm0 : 0 < m) (hm : m ≤ 1048576) (hN : deepK vs ≤ N) (hok : okDs ds) (hov : okK ds vs) (hby : ∀ f ∈ encK ds vs, ∀ z ∈ f.1, z < 256) (hb : lenF (encK ds vs) ≤ 274877906944)
    (hD : DsAt w ds bk ok) (hK : KsAt w vs bv ov) (hc1 : m ≤ ck) (hc2 : ck ≤ maxLen) (hc3 : m ≤ cv) (hc4 : cv ≤ maxLen) :
    Calls Tryz.prog 40 #[.slice (some ⟨bk, ok, none⟩) m ck, .slice (some ⟨bv, ov, none⟩) m cv] w fun e w' => ∃ u, e = .returned u ∧ Row w' w.heap.size u (cont (encK ds vs)) ∧ Below w.heap.size w w' := by
  have hfl := encK_length ds vs (by omega)
  rw [hvs] at hfl
  have hsf := szF_le (encK ds vs)
  have htk := szF_take (encK ds vs)
  have HGET : Same _ _ := ⟨(rfl : encK ds vs = encK ds vs)⟩
  have hsucc := encK_succ ds vs
  obtain ⟨fs, hfs⟩ : ∃ fs, Same (encK ds vs) fs := ⟨_, ⟨rfl⟩⟩
  rw [hfs.out] at hfl hsf htk hby hb hsucc ⊢
  obtain ⟨C, hC⟩ : ∃ C, Same (cont fs) C := ⟨_, ⟨rfl⟩⟩
  rw [hC.out]
  have HIH0 := hid IH
  have HSC := hid hsucc
  have HBY0 := hid hby
  have HTK := hid htk
  have HOK := hid hok
  have HOV := hid hov
  have HD := hid hD
  have HK := hid hK
  have HDS := hid hds
  have HVS := hid hvs
  have HFL := hid hfl
  have hsz : szF fs ≤ 549755813888 := by omega
  clear IH hsucc hby htk hok hov hD hK hds hvs hfl hsf HGET
  go_enter Tryz.func40, Tryz.ntmps40
  go_wp2
  go_loopw [5, 6, 7] (fun hd pt i wr => ∃ (k : Nat) (us : List Value), k ≤ m ∧ us.length = k ∧ hd = .int .i64 (szF (fs.take k) : Nat) ∧ i = .int .i64 (k : Nat) ∧ RowS wr w.heap.size pt us ∧ Elts wr pt us (fs.take k) ∧ Below w.heap.size w wr) (fun _ _ i _ => m - (intOf i).toNat)
  case atStart => exact ⟨0, [], by omega, rfl, by simp [szF], rfl, RowS.nil _ _, Elts.nil _ _, Below.refl _ _⟩
  case round =>
    obtain ⟨k, us, hk, hul, rfl, rfl, hR, hE, hB⟩ := hrel
    by_cases hkm : k < m
    · obtain ⟨d, hd⟩ : ∃ d, ds[k]? = some d := ⟨_, List.getElem?_eq_getElem (by rw [HDS.out]; exact hkm)⟩
      obtain ⟨v, hv⟩ : ∃ v, vs[k]? = some v := ⟨_, List.getElem?_eq_getElem (by rw [HVS.out]; exact hkm)⟩
      obtain ⟨p, hpc, hDp⟩ := HD.out.get hd
      obtain ⟨sb, sk, hrc, hVv⟩ := HK.out.get hv
      have hdk := okDs_get HOK.out hd
      have hvk := okK_get ds vs k d v HOV.out hd hv
      have hdeep : v.deep ≤ N := Nat.le_trans (deepK_get hv) hN
      have hsc := HSC.out k d v hd hv
      have hrl : v.root.length = 32 := by cases v; rw [VAt] at hVv; exact hVv.1.2.1
      have hfsk : (fs.take (k + 1)).length = k + 1 := by rw [List.length_take, HFL.out]; omega
      have hmem : (encV d v, decide (sizeD d < 0)) ∈ fs := List.mem_of_mem_take (i := k + 1) (by rw [hsc]; simp)
      have hbyk := HBY0.out _ hmem
      have hlen1 := HTK.out (k + 1)
      rw [hsc, szF_snoc] at hlen1
      have HIH := hid (fun wq (hq : Below wr.heap.size wr wq) => HIH0.out d v sb sk p wq hdeep hdk hvk ((hDp.keep hB).keep hq) ((hVv.keep hB).keep hq))
      have HSZ := hid (fun wq (hq : Below w.heap.size w wq) => size_any d p wq hdk (hDp.keep hq))
      have HP0 := hid hpc
      have HPC := hid (cell_keep hB hpc)
      have hrc2 := rangeAt_keep hrc hB
      rw [Nat.mul_comm 35 k] at hrc2
      have hcl := valL_length v.num v.root sb sk hrl
      obtain ⟨cs, hcs⟩ : ∃ cs, Same (valL v.num v.root sb sk) cs := ⟨_, ⟨rfl⟩⟩
      obtain ⟨bs, hbs⟩ : ∃ bs, Same (encV d v) bs := ⟨_, ⟨rfl⟩⟩
      rw [hcs.out] at HIH hrc2 hcl
      rw [hbs.out] at HIH hbyk hlen1 hsc
      have HRC := hid hrc2
      have HCL := hid hcl
      have HBY := hid hbyk
      have HSC1 : Same _ _ := ⟨hsc⟩
      have HR := hid hR
      have HE := hid hE
      have HB := hid hB
      have HUL := hid hul
      clear hd hv hpc hDp hrc hVv hdk hvk hdeep hsc hmem hbyk hrc2 hcl hR hE hul hcs hbs hrl hfsk
      go_wp2
      refine wp_region_flow 11 11 (fun i v wq => match i with
        | 0 => v = u6
        | 1 => v = .slice (some ⟨bk, ok, none⟩) m ck
        | 2 => v = .int .i64 (k : Nat)
        | 3 => v = .pointer (some ⟨bk, ok + k * 1, none⟩)
        | 4 => v = .pointer (some ⟨p, 0, none⟩)
        | 5 => v = .slice (some ⟨bv, ov, none⟩) m cv
        | 6 => v = .int .i64 (k : Nat)
        | 7 => v = .pointer (some ⟨bv, ov + k * 35, none⟩)
        | 8 => v = .agg cs.toArray
        | 9 => IsB wq v bs ∧ inS (fun b => wr.heap.size ≤ b ∧ b < wq.heap.size) v
        | _ => ∃ g u, v = .slice (some ⟨g, 0, none⟩) 1 1 ∧ wq.heap[g]? = some (.cells #[u] 39 (0, 0)) ∧ IsB wq u bs ∧ inS (fun b => wr.heap.size ≤ b ∧ b < wq.heap.size) u) (by kernel_rfl) (by kernel_rfl) (fun _ d _ _ _ h => by cases d <;> exact h) ?_ ?_ ?_ ?_
      · intro i v wq wq' hi hv hb
        match i, hi with
        | 0, _ => exact hv
        | 1, _ => exact hv
        | 2, _ => exact hv
        | 3, _ => exact hv
        | 4, _ => exact hv
        | 5, _ => exact hv
        | 6, _ => exact hv
        | 7, _ => exact hv
        | 8, _ => exact hv
        | 9, _ => exact ⟨hv.1.keep hb, hv.2.mono fun j hj => ⟨hj.1, Nat.lt_of_lt_of_le hj.2 hb.size⟩⟩
        | 10, _ => obtain ⟨g, u, e, hg, h1, h2⟩ := hv; exact ⟨g, u, e, (hb.block g (Array.getElem?_eq_some_iff.1 hg).1).trans hg, h1.keep hb, h2.mono fun j hj => ⟨hj.1, Nat.lt_of_lt_of_le hj.2 hb.size⟩⟩
        | (k + 11), hk => exact absurd hk (by omega)
      · intro i o hi ho aq wq hc hk hdep
        match i, hi with
        | 0, _ =>
          cases ho
          exact flow_move (.tmp 6) rfl (hk 6 (by decide))
        | 1, _ =>
          cases ho
          exact flow_move (.tmp 0) rfl (hk 0 (by decide))
        | 2, _ =>
          cases ho
          exact flow_move (.tmp 7) rfl (hk 7 (by decide))
        | 3, _ =>
          cases ho
          have ea : aq.tmps.getD 18 undef = .slice (some ⟨bk, ok, none⟩) m ck := hdep 1 18 rfl (by kernel_rfl)
          have eb : aq.tmps.getD 19 undef = .int .i64 (k : Nat) := hdep 2 19 rfl (by kernel_rfl)
          refine flow_value _ (run_at1 106 45 1 (.tmp 18) (.tmp 19) rfl (by kernel_rfl) (by kernel_rfl) bk ok m ck k (by simpa [Act.eval] using ea) (by simpa [Act.eval] using eb) (by omega)) rfl
        | 4, _ =>
          cases ho
          have e20 : aq.tmps.getD 20 undef = .pointer (some ⟨bk, ok + k * 1, none⟩) := hdep 3 20 rfl (by kernel_rfl)
          refine flow_value _ (run_cell 45 (.tmp 20) rfl ⟨bk, ok + k, none⟩ (by rw [Nat.mul_one] at e20; simpa [Act.eval] using e20) _ (cell_keep hc.bel HPC.out) _ Tryz.underlying45 rfl) rfl
        | 5, _ =>
          cases ho
          exact flow_move (.tmp 1) rfl (hk 1 (by decide))
        | 6, _ =>
          cases ho
          exact flow_move (.tmp 7) rfl (hk 7 (by decide))
        | 7, _ =>
          cases ho
          have ea : aq.tmps.getD 22 undef = .slice (some ⟨bv, ov, none⟩) m cv := hdep 5 22 rfl (by kernel_rfl)
          have eb : aq.tmps.getD 23 undef = .int .i64 (k : Nat) := hdep 6 23 rfl (by kernel_rfl)
          refine flow_value _ (run_at1 35 37 35 (.tmp 22) (.tmp 23) rfl (by kernel_rfl) (by kernel_rfl) bv ov m cv k (by simpa [Act.eval] using ea) (by simpa [Act.eval] using eb) (by omega)) rfl
        | 8, _ =>
          cases ho
          have e24 : aq.tmps.getD 24 undef = .pointer (some ⟨bv, ov + k * 35, none⟩) := hdep 7 24 rfl (by kernel_rfl)
          refine flow_value _ (run_mid 37 (.tmp 24) rfl bv (ov + k * 35) (by simpa [Act.eval] using e24) cs (rangeAt_keep HRC.out hc.bel) _ Tryz.underlying37 rfl (by rw [HCL.out]; kernel_rfl)) rfl
        | 9, _ =>
          cases ho
          have e21 : aq.tmps.getD 21 undef = .pointer (some ⟨p, 0, none⟩) := hdep 4 21 rfl (by kernel_rfl)
          have e25 : aq.tmps.getD 25 undef = .agg cs.toArray := hdep 8 25 rfl (by kernel_rfl)
          refine flow_fun 10 _ _ rfl (fun _ _ => by simp [go_sem]) #[.pointer (some ⟨p, 0, none⟩), .agg cs.toArray] (by rw [show (#[Operand.tmp 21, Operand.tmp 25] : Array Operand).map aq.eval = #[aq.tmps.getD 21 undef, aq.tmps.getD 25 undef] from by simp [Act.eval], e21, e25]) ?_
          refine (HIH.out wq hc.bel).mono ?_
          rintro e w' ⟨u, rfl, R, B⟩
          exact ⟨_, rfl, ⟨R.isB HBY.out, R.inS.mono fun j hj => ⟨Nat.le_trans hc.bel.size hj.1, hj.2⟩⟩, B⟩
        | 10, _ =>
          cases ho
          have e26 : IsB wq (aq.tmps.getD 26 undef) bs ∧ inS (fun b => wr.heap.size ≤ b ∧ b < wq.heap.size) (aq.tmps.getD 26 undef) := hdep 9 26 rfl (by kernel_rfl)
          refine flow_slice1 (.tmp 26) rfl (aq.tmps.getD 26 undef) (by simp [Act.eval]) (by obtain ⟨⟨ao, cap, e, _⟩, _⟩ := e26.1; exact ⟨_, _, _, e⟩) (fun w' hg hB => ⟨_, _, rfl, hg, e26.1.keep hB, e26.2.mono fun j hj => ⟨hj.1, Nat.lt_of_lt_of_le hj.2 hB.size⟩⟩)
        | (k + 11), hk => exact absurd hk (by omega)
      · intro o h11 ho
        omega
      intro vf w4 hc hv
      have e17 : vf 0 = _ := hv 0 17 (by decide) rfl
      obtain ⟨g, u, e27, hg, hu, huS⟩ : ∃ g u, vf 10 = .slice (some ⟨g, 0, none⟩) 1 1 ∧ w4.heap[g]? = some (.cells #[u] 39 (0, 0)) ∧ IsB w4 u bs ∧ inS (fun b => wr.heap.size ≤ b ∧ b < w4.heap.size) u := hv 10 27 (by decide) rfl
      clear hv
      simp only [List.take_succ_cons, List.take_zero, List.drop_succ_cons, List.drop_zero, putAll, Act.put, List.setIfInBounds_toArray, List.set_cons_succ, List.set_cons_zero]
      rw [e17, e27]
      have hR4 := HR.out.below hc.bel
      have hE4 := HE.out.below hc.bel
      have hB4 := below_more HB.out hc.bel (Nat.le_refl _)
      have h1c : u.oneCell' = true := by obtain ⟨⟨ao, cap, e, _⟩, _⟩ := hu; rw [e]; rfl
      refine wpList_append_s rfl (.tmp 17) (.tmp 27) rfl w.heap.size u6 us rfl hR4 g u rfl (cell_of_one hg) h1c (by rw [HUL.out]; omega) hB4.size ?_
      intro v5 w5 R5 G5 M5
      have hE5 := hE4.next (f := (bs, decide (sizeD d < 0))) G5 M5 hu (huS.mono fun j hj => ⟨hj.2, fun e => by have := (HR.out.lt j e).2; omega⟩)
      rw [← HSC1.out] at hE5
      have hB5 : Below w.heap.size w w5 := hB4.grown G5 hB4.size (fun j hj => (hR4.lt j hj).1)
      have hB45 : wr.heap.size ≤ w5.heap.size := Nat.le_trans hc.bel.size G5.size
      have hcu : us.length = k := HUL.out
      obtain ⟨g5, cap5, rfl, hc5⟩ := R5.form (by simp)
      have hck := hc5 k u (by rw [List.getElem?_append_right (by omega), hcu, Nat.sub_self]; rfl)
      have hl5 : (us ++ [u]).length = k + 1 := by simp [hcu]
      have hpc5 := cell_keep hB5 HP0.out
      obtain ⟨⟨aou, capu, hue, _⟩, _⟩ := hu
      obtain ⟨z, hz⟩ : ∃ z, sizeD d = z := ⟨_, rfl⟩
      have hs1 : sz1 (bs, decide (z < 0)) = if z < 0 then 4 else bs.length := by unfold sz1; simp
      have hsk : szF (fs.take (k + 1)) = szF (fs.take k) + if z < 0 then 4 else bs.length := by rw [HSC1.out, szF_snoc, hz, hs1]
      rw [hz] at HSZ hlen1
      rw [hs1] at hlen1
      obtain ⟨A, hA⟩ : ∃ A, szF (fs.take k) = A := ⟨_, rfl⟩
      rw [hA] at hsk hlen1 ⊢
      have HSK := hid hsk
      have HR5 := hid R5
      have HE5 := hid hE5
      have HB5 := hid hB5
      have HL5 := hid hl5
      rw [hl5]
      clear hsk R5 hE5 hB5 hc5 G5 M5 hR4 hE4 hB4 hg huS h1c hs1 hz hA hl5 hB45
      subst hue
      by_cases hneg : z < 0
      · rw [if_pos hneg] at hlen1
        go_wp2_with (go_at_call 87; refine (HSZ.out w5 HB5.out).mono ?_; rintro e w6 ⟨rfl, q, rfl⟩; have hc6 : (w5.drewN q).cell? ⟨g5, k, none⟩ = _ := hck)
        go_roundw
        case rel => exact ⟨k + 1, us ++ [_], by omega, HL5.out, by rw [HSK.out, if_pos hneg]; go_num, by go_num, by have h := HR5.out.below (below_drewN (Below.refl _ w5) q); rw [HL5.out] at h; exact h, HE5.out.below (below_drewN (Below.refl _ w5) q), below_drewN HB5.out q⟩
        case measure => simp [intOf]; omega
      · rw [if_neg hneg] at hlen1
        go_wp2_with (go_at_call 87; refine (HSZ.out w5 HB5.out).mono ?_; rintro e w6 ⟨rfl, q, rfl⟩; have hc6 : (w5.drewN q).cell? ⟨g5, k, none⟩ = _ := hck)
        go_roundw
        case rel => exact ⟨k + 1, us ++ [_], by omega, HL5.out, by rw [HSK.out, if_neg (by omega)]; go_num, by go_num, by have h := HR5.out.below (below_drewN (Below.refl _ w5) q); rw [HL5.out] at h; exact h, HE5.out.below (below_drewN (Below.refl _ w5) q), below_drewN HB5.out q⟩
        case measure => simp [intOf]; omega
    · have hke : m = k := by omega
      subst hke
      rename World => wz
      rw [List.take_of_length_le (by rw [HFL.out]; exact Nat.le_refl _)] at hE ⊢
      obtain ⟨g, cap, rfl, hcg⟩ := hR.form (by omega)
      obtain ⟨A, hA⟩ : ∃ A, szF fs = A := ⟨_, rfl⟩
      rw [hA] at hsz ⊢
      have hAA : Same (frontB A fs ++ backB fs) C := ⟨by rw [← hC.out]; unfold cont; rw [hA]⟩
      have hbl : ∀ k, (backB (fs.take k)).length ≤ 274877906944 := fun k => Nat.le_trans (Nat.le_trans (backB_le _) (lenF_take fs k)) hb
      have hfl2 : ∀ k, (frontB A (fs.take k)).length ≤ 549755813888 := fun k => by rw [frontB_length]; exact Nat.le_trans (HTK.out k) (by omega)
      have HBL := hid hbl
      have HF2 := hid hfl2
      have HE := hid hE
      have HCG := hid hcg
      have HB := hid hB
      have HUL := hid hul
      clear hbl hfl2 hA hE hcg hB hR hul
      go_wp2
      go_loopw [8, 9, 10] (fun fx fr i wr => ∃ k : Nat, k ≤ m ∧ i = .int .i64 (k : Nat) ∧ Row wr wz.heap.size fx (frontB A (fs.take k)) ∧ Row wr wz.heap.size fr (backB (fs.take k)) ∧ Apart fx fr ∧ Below wz.heap.size wz wr) (fun _ _ i _ => m - (intOf i).toNat)
      case atStart => exact ⟨0, by omega, rfl, Row.nil _ _, Row.nil _ _, (fun k hk => by simp [Value.ownBlock] at hk), Below.refl _ _⟩
      case round =>
        obtain ⟨k, hk, rfl, hX, hF, hAp, hB2⟩ := hrel
        by_cases hkm : k < m
        · obtain ⟨d, hd⟩ : ∃ d, ds[k]? = some d := ⟨_, List.getElem?_eq_getElem (by rw [HDS.out]; exact hkm)⟩
          obtain ⟨v, hv⟩ : ∃ v, vs[k]? = some v := ⟨_, List.getElem?_eq_getElem (by rw [HVS.out]; exact hkm)⟩
          obtain ⟨p, hpc, hDp⟩ := HD.out.get hd
          have hdk := okDs_get HOK.out hd
          have hsc := HSC.out k d v hd hv
          have hfk := encK_get ds vs k d v hd hv
          rw [hfs.out] at hfk
          obtain ⟨u, hu⟩ : ∃ u, us[k]? = some u := ⟨_, List.getElem?_eq_getElem (by rw [HUL.out]; exact hkm)⟩
          obtain ⟨huI, huS⟩ := HE.out.2 k u _ hu hfk
          have hcu := HCG.out k u hu
          have hgl : g < wz.heap.size := block_lt_of_cell hcu
          obtain ⟨bs, hbs⟩ : ∃ bs, Same (encV d v) bs := ⟨_, ⟨rfl⟩⟩
          rw [hbs.out] at hsc huI
          have hbk := backB_snoc (fs.take k) (bs, decide (sizeD d < 0))
          have hft := frontB_snoc (bs, decide (sizeD d < 0)) (fs.take k) A
          rw [← hsc] at hbk hft
          have HWB := hid (below_more HB.out hB2 (Nat.le_refl _))
          have HSZ := hid (fun wq (hq : Below w.heap.size w wq) => size_any d p wq hdk (hDp.keep hq))
          have hpc2 := cell_keep HWB.out hpc
          have hcu2 := cell_keep hB2 hcu
          have HCU := hid hcu
          have hl1 := HBL.out k
          have hl2 := HF2.out k
          have hl3 := HBL.out (k + 1)
          have hl4 := HF2.out (k + 1)
          have HUI := hid huI
          obtain ⟨z, hz⟩ : ∃ z, sizeD d = z := ⟨_, rfl⟩
          rw [hz] at HSZ hbk hft
          obtain ⟨BK, hBK⟩ : ∃ b, Same (backB (fs.take k)) b := ⟨_, ⟨rfl⟩⟩
          obtain ⟨FT, hFT⟩ : ∃ b, Same (frontB A (fs.take k)) b := ⟨_, ⟨rfl⟩⟩
          rw [hbk] at hl3
          rw [hft] at hl4
          rw [hBK.out] at hF hl1 hl3 hbk hft hl4
          rw [hFT.out] at hX hl2 hft hl4
          obtain ⟨⟨aou, capu, hue, _⟩, _⟩ := huI
          obtain ⟨aof, capf, hfe⟩ := hF.sl
          have HX := hid hX
          have HF := hid hF
          have HAp := hid hAp
          have HB2 := hid hB2
          clear hpc hDp hdk hsc hfk hu huS hcu hd hv hbs hz hX hF hAp hB2
          have hku : k < us.length := by rw [HUL.out]; exact hkm
          subst hue
          by_cases hneg : z < 0
          · rw [decide_eq_true hneg] at hbk hft hl3 hl4
            simp only [if_true] at hbk hft
            simp only [if_true, List.length_append] at hl3 hl4
            have HBK : Same _ _ := ⟨hbk⟩
            have HFT : Same _ _ := ⟨hft⟩
            clear hbk hft
            have hwr : IntKind.u64.wrap ((A : Int) + (BK.length : Int)) = ((A + BK.length : Nat) : Int) := (by rw [IntKind.wrap_u64]; omega)
            have HP := hid (fun wq => refput_le5 (A + BK.length) 4 (by omega) (by omega) wq)
            subst hfe
            go_wp2_with (first
              | (go_at_call 87; refine (HSZ.out wr HWB.out).mono ?_; rintro e w3 ⟨rfl, q, rfl⟩; have B3 := below_drewN HB2.out q; have hcu3 : (wr.drewN q).cell? ⟨g, k, none⟩ = _ := hcu2)
              | (go_at_call 38; refine (HP.out _).mono ?_; rintro e w4 ⟨v4, rfl, R4, B4⟩; have X4 := HX.out.below ((below_drewN (Below.refl _ wr) q).trans B4); have F4 := HF.out.below ((below_drewN (Below.refl _ wr) q).trans B4); have T4 := below_more B3 B4 (Nat.le_refl _))
              | (at_builtin; refine wpList_append_b rfl (.tmp 56) (.tmp 62) 39 rfl wz.heap.size u8 FT rfl X4 v4 (le (A + BK.length) 4) rfl (R4.isB (le_byte _ _)).src (by rw [le_length]; omega) T4.size ?_; intro v5 w5 R5 G5 M5; have T5 := below_row T4 (Nat.le_refl _) X4 G5; have F5 := F4.kept G5 (fun j hj e => HAp.out j e hj); have A5 := HAp.out.left M5 (fun j hj => (F4.lt j hj).2); have hcu5 := cell_keep T5 HCU.out)
              | (at_builtin; refine wpList_append_b rfl (.tmp 64) (.tmp 68) 39 rfl wz.heap.size (.slice aof BK.length capf) BK rfl F5 (.slice aou bs.length capu) bs rfl (HUI.out.keep T5).src (by omega) T5.size ?_; intro v6 w6 R6 G6 M6; have T6 := below_row T5 (Nat.le_refl _) F5 G6; have X6 := R5.kept G6 (fun j hj e => A5 j hj e); have A6 := (A5.symm.left M6 (fun j hj => (R5.lt j hj).2)).symm))
            go_roundw
            case rel => exact ⟨k + 1, by omega, by go_num, by rw [HFT.out]; exact X6, by rw [HBK.out]; exact R6, A6, T6⟩
            case measure => simp [intOf]; omega
          · rw [decide_eq_false hneg] at hbk hft hl3 hl4
            simp only [Bool.false_eq_true, if_false, List.append_nil] at hbk hft
            simp only [Bool.false_eq_true, if_false, List.length_append] at hl3 hl4
            have HBK : Same _ _ := ⟨hbk⟩
            have HFT : Same _ _ := ⟨hft⟩
            clear hbk hft hfe
            go_wp2_with (first
              | (go_at_call 87; refine (HSZ.out wr HWB.out).mono ?_; rintro e w3 ⟨rfl, q, rfl⟩; have B3 := below_drewN HB2.out q; have hcu3 : (wr.drewN q).cell? ⟨g, k, none⟩ = _ := hcu2; have X4 := HX.out.below (below_drewN (Below.refl _ wr) q); have F4 := HF.out.below (below_drewN (Below.refl _ wr) q))
              | (at_builtin; refine wpList_append_b rfl (.tmp 70) (.tmp 74) 39 rfl wz.heap.size u8 FT rfl X4 (.slice aou bs.length capu) bs rfl (HUI.out.keep B3).src (by omega) B3.size ?_; intro v5 w5 R5 G5 M5; have T5 := below_row B3 (Nat.le_refl _) X4 G5; have F5 := F4.kept G5 (fun j hj e => HAp.out j e hj); have A5 := HAp.out.left M5 (fun j hj => (F4.lt j hj).2)))
            go_roundw
            case rel => exact ⟨k + 1, by omega, by go_num, by rw [HFT.out]; exact R5, by rw [HBK.out]; exact F5, A5, T5⟩
            case measure => simp [intOf]; omega
        · have hke : m = k := by omega
          subst hke
          rw [List.take_of_length_le (by rw [HFL.out]; exact Nat.le_refl _)] at hX hF
          have hbF : ∀ z ∈ backB fs, z < 256 := backB_byte HBY0.out
          have hl1 := HBL.out m
          have hl2 := HF2.out m
          rw [List.take_of_length_le (by rw [HFL.out]; exact Nat.le_refl _)] at hl1 hl2
          obtain ⟨BK, hBK⟩ : ∃ b, Same (backB fs) b := ⟨_, ⟨rfl⟩⟩
          obtain ⟨FT, hFT⟩ : ∃ b, Same (frontB A fs) b := ⟨_, ⟨rfl⟩⟩
          rw [hBK.out] at hF hl1 hbF
          rw [hFT.out] at hX hl2
          have HX := hid hX
          have HF := hid hF
          have HB2 := hid hB2
          have HBF := hid hbF
          clear hX hF hB2 hAp hbF
          go_wp2_with (at_builtin; refine wpList_append_b rfl (.tmp 76) (.tmp 77) 39 rfl wz.heap.size u8 FT rfl HX.out u9 BK rfl (HF.out.isB HBF.out).src (by omega) HB2.out.size ?_; intro v5 w5 R5 G5 M5; have T5 := hid (below_row HB2.out (Nat.le_refl _) HX.out G5); have R5h := hid R5; clear R5 G5 M5)
          go_ret
          exact ⟨_, rfl, by rw [← hAA.out, hFT.out, hBK.out]; exact R5h.out.base HB.out.size, below_more HB.out T5.out (Nat.le_refl _)⟩
end Go.Proofs.YtpaamhmighgjeaaGreat

/- Rows of pointers to kinds, of a call's own. -/
namespace Go.Proofs.YtpaamhmighgjeaaGreat
open Go.RowKit
set_option linter.unusedVariables false
set_option maxRecDepth 100000

theorem ptrInfo : ∃ i, Tryz.prog.info? 45 = some i ∧ i.zero = some (.pointer none) ∧ i.size = 1 ∧ i.bytes = 8 := by
  have : (Tryz.prog.info? 45).map (fun i => (i.zero, i.size, i.bytes)) = some (some (.pointer none), 1, 8) := by kernel_rfl
  cases hq : Tryz.prog.info? 45 with
  | none => simp [hq] at this
  | some i => simp [hq] at this; exact ⟨i, rfl, this.1, this.2.1, this.2.2⟩
/-- Slices that a call keeps in a row of its own. -/
abbrev RowP (w : World) (base : Nat) (v : Value) (us : List Value) : Prop := w.ownsRow base 45 1 v us.length us
theorem RowP.nil (w : World) (base : Nat) : RowP w base (.slice none 0 0) [] := World.ownsRow_nil _ _ _ _
/-- One value in a block. -/
theorem src_ptr {w : World} {g : Nat} {u : Value} (hc : w.cell? ⟨g, 0, none⟩ = some u) (h1 : u.oneCell' = true) : Src Tryz.prog 1 106 (.slice (some ⟨g, 0, none⟩) 1 1) 1 [u] w := by
  have hl : ∀ w' : World, w'.cell? ⟨g, 0, none⟩ = some u → (Builtin.firstCells 1 1 (.slice (some ⟨g, 0, none⟩) 1 1)).run Tryz.prog w' = .ok ([u]).toArray w' := fun w' hc' => by
    refine run_firstCells_some w' _ _ _ _ _ [u] rfl ?_
    intro j v hj
    match j, hj with
    | 0, hj =>
      simp at hj
      subst hj
      exact hc'
    | j + 1, hj => simp at hj
  exact ⟨.inl ⟨45, by kernel_rfl⟩, fun w' => rfl, hl w hc, hl w.drew hc, rfl, fun v hv => by rw [List.mem_singleton.1 hv]; exact h1⟩
section
variable {w : World} {ops : Array Oper} {rest : List Oper} {o : Oper} {a : Act} {Q : Exit → Act → World → Prop}
theorem run_append_p (base : Nat) (ty : TypeId) (v : Value) (us : List Value) (hown : RowP w base v us) (g : Nat) (u : Value) (hc : w.cell? ⟨g, 0, none⟩ = some u) (h1 : u.oneCell' = true) (hb : us.length ≤ 1099511627776) (hbase : base ≤ w.heap.size) :
    ∃ v' w', (Builtin.append_ #[106, 106] ty #[v, .slice (some ⟨g, 0, none⟩) 1 1]).run Tryz.prog w = .ok v' w' ∧ RowP w' base v' (us ++ [u]) ∧ w.grownBy w' v.ownBlock ∧ Moved w v v' := by
  obtain ⟨i, hi, hz, hs, hby⟩ := ptrInfo
  have h := run_append_any (P := Tryz.prog) (w := w) base 106 106 ty 45 i (.pointer none) 1 8 (by kernel_rfl) hi hz hs hby rfl (by decide) v us.length us hown _ 1 [u] (src_ptr hc h1) (by unfold maxLen; omega) (by omega) hbase
  obtain ⟨v', w', h2, h3, h4, h5⟩ := h
  exact ⟨v', w', h2, by unfold RowP; rw [List.length_append]; exact h3, h4, h5⟩
theorem wpList_append_p (hgd : o.guard = none) (s x : Operand) (ho : o.op = .call { callee := .builtin .append, args := #[s, x], argTypes := #[106, 106] })
    (base : Nat) (v : Value) (us : List Value) (hv : a.eval s = v) (hown : RowP w base v us) (g : Nat) (u : Value) (hx : a.eval x = .slice (some ⟨g, 0, none⟩) 1 1) (hc : w.cell? ⟨g, 0, none⟩ = some u) (h1 : u.oneCell' = true) (hb : us.length ≤ 1099511627776) (hbase : base ≤ w.heap.size)
    (h : ∀ v' w', RowP w' base v' (us ++ [u]) → w.grownBy w' v.ownBlock → Moved w v v' → wpList Tryz.prog ops Q rest (a.put o.dst v') w') : wpList Tryz.prog ops Q (o :: rest) a w := by
  refine wpList_plain hgd fun K hK => ?_
  obtain ⟨v', w', hr, h2, h3, h4⟩ := run_append_p (w := w) base o.type v us hown g u hc h1 hb hbase
  unfold Oper.wp execOp
  simp only [ho, resolve, invoke, builtin, Sem.run_bind, Sem.run_pure, Result.andThen_ok, List.map_toArray, List.map_cons, List.map_nil, hv, hx, hr]
  exact hK _ _ (h v' w' h2 h3 h4)
end
end Go.Proofs.YtpaamhmighgjeaaGreat

/- The document's Encode, at every kind and every value that fits it. -/
namespace Go.Proofs.YtpaamhmighgjeaaGreat
open Go.RowKit
set_option linter.unusedVariables false
set_option maxRecDepth 100000

theorem frontB_byte : ∀ {fs : List (List Nat × Bool)} (_ : ∀ f ∈ fs, ∀ z ∈ f.1, z < 256) (p : Nat), ∀ z ∈ frontB p fs, z < 256
  | [], _, _, z, hz => by simp [frontB] at hz
  | f :: fs, h, p, z, hz => by
    rw [frontB] at hz
    rcases List.mem_append.1 hz with hz | hz
    · split at hz
      · exact le_byte _ _ z hz
      · exact h f (by simp) z hz
    · exact frontB_byte (fun g hg => h g (by simp [hg])) _ z hz
theorem cont_byte {fs : List (List Nat × Bool)} (h : ∀ f ∈ fs, ∀ z ∈ f.1, z < 256) : ∀ z ∈ cont fs, z < 256 := fun z hz => by
  unfold cont at hz
  rcases List.mem_append.1 hz with hz | hz
  · exact frontB_byte h _ z hz
  · exact backB_byte h z hz
mutual
theorem encV_byte {w : World} : ∀ (v : Vt) {sb sk : Value}, VAt w v sb sk → ∀ d : Dt, ∀ z ∈ encV d v, z < 256
  | .mk num r bs ks, sb, sk, h, .mk f n ds => by
    rw [VAt] at h
    obtain ⟨⟨_, _, h8⟩, _, ao, cap, _, _, _, hk⟩ := h
    rw [encV]
    split
    · exact le_byte _ _
    split
    · intro z hz; rw [List.mem_singleton.1 hz]; omega
    split
    · exact h8
    split
    · exact putB_byte _ _
    split
    · exact putB_byte _ _
    · rcases hk with h0 | ⟨b, off, _, hK⟩
      · have : ks = [] := List.eq_nil_of_length_eq_zero h0
        subst this
        intro z hz
        simp [encK, cont, frontB, backB] at hz
      · exact cont_byte (encK_byte ks hK _)
theorem encK_byte {w : World} : ∀ (vs : List Vt) {b off : Nat}, KsAt w vs b off → ∀ ds : List Dt, ∀ f ∈ encK ds vs, ∀ z ∈ f.1, z < 256
  | [], _, _, _, ds, f, hf => by cases ds <;> simp [encK] at hf
  | v :: vs, b, off, h, [], f, hf => by simp [encK] at hf
  | v :: vs, b, off, h, d :: ds, f, hf => by
    rw [KsAt] at h
    obtain ⟨⟨sb, sk, _, hv⟩, hr⟩ := h
    rw [encK] at hf
    rcases List.mem_cons.1 hf with rfl | hf
    · exact encV_byte v hv d
    · exact encK_byte vs hr ds f hf
end
theorem dsAt_of {w : World} : ∀ (ds : List Dt) (b off : Nat), (∀ (i : Nat) d, ds[i]? = some d → ∃ q, w.cell? ⟨b, off + i, none⟩ = some (.pointer (some ⟨q, 0, none⟩)) ∧ DAt w d q) → DsAt w ds b off
  | [], _, _, _ => by rw [DsAt]; exact trivial
  | d :: ds, b, off, h => by
    rw [DsAt]
    refine ⟨h 0 d rfl, dsAt_of ds b (off + 1) fun i x hx => ?_⟩
    obtain ⟨q, h1, h2⟩ := h (i + 1) x (by simpa using hx)
    exact ⟨q, by rw [show off + 1 + i = off + (i + 1) by omega]; exact h1, h2⟩
theorem okDs_mem : ∀ {ds : List Dt}, okDs ds → ∀ d ∈ ds, okD d
  | [], _, d, hd => by simp at hd
  | x :: r, h, d, hd => by
    rw [okDs] at h
    rcases List.mem_cons.1 hd with rfl | hd
    · exact h.1
    · exact okDs_mem h.2 d hd
theorem okDs_of : ∀ (ds : List Dt), (∀ d ∈ ds, okD d) → okDs ds
  | [], _ => by rw [okDs]; exact trivial
  | x :: r, h => by rw [okDs]; exact ⟨h x (by simp), okDs_of r fun d hd => h d (by simp [hd])⟩
theorem kdsV_ok {f : Nat} {ds : List Dt} {n : Nat} (h : okDs ds) : okDs (kdsV f ds n) := okDs_of _ fun d hd => by
  unfold kdsV at hd
  split at hd
  · exact okDs_mem h d (List.mem_of_mem_take hd)
  · cases ds with
    | nil => simp at hd
    | cons x r => exact okDs_mem h d (by rw [(List.mem_replicate.1 hd).2]; simp)
/-- Which kind the k-th part has. -/
theorem kdsV_get {f : Nat} {ds : List Dt} {n k : Nat} {d : Dt} (h : (kdsV f ds n)[k]? = some d) : (f = 8 → ds[k]? = some d) ∧ (f ≠ 8 → ds[0]? = some d) := by
  unfold kdsV at h
  split at h
  · rename_i h8
    refine ⟨fun _ => ?_, fun hn => absurd h8 hn⟩
    rw [List.getElem?_take] at h
    split at h
    · exact h
    · cases h
  · rename_i h8
    refine ⟨fun e => absurd e h8, fun _ => ?_⟩
    cases ds with
    | nil => simp at h
    | cons x r =>
      have := List.getElem?_eq_some_iff.1 h
      obtain ⟨h1, h2⟩ := this
      simp at h2
      rw [h2]; rfl

theorem ser_nil (ao : Option Addr) (cap : Nat) (w : World) :
    Calls Tryz.prog 40 #[.slice none 0 0, .slice ao 0 cap] w fun e w' => e = .returned (.slice none 0 0) ∧ Below w.heap.size w w' := by
  go_enter Tryz.func40, Tryz.ntmps40
  go_wp2
  go_loopw [5, 6, 7] (fun hd pt i wr => hd = .int .i64 0 ∧ pt = .slice none 0 0 ∧ i = .int .i64 0 ∧ wr = w) (fun _ _ i _ => 0)
  case atStart => exact ⟨rfl, rfl, rfl, rfl⟩
  case round =>
    obtain ⟨rfl, rfl, rfl, hwr⟩ := hrel
    replace hwr := hwr.symm
    subst hwr
    go_wp2
    go_loopw [8, 9, 10] (fun fx fr i wr2 => fx = .slice none 0 0 ∧ fr = .slice none 0 0 ∧ i = .int .i64 0 ∧ wr2 = w) (fun _ _ i _ => 0)
    case atStart => exact ⟨rfl, rfl, rfl, rfl⟩
    case round =>
      obtain ⟨rfl, rfl, rfl, hwr⟩ := hrel
      replace hwr := hwr.symm
      subst hwr
      go_wp2
      go_ret
      exact ⟨rfl, Below.refl _ _⟩
end Go.Proofs.YtpaamhmighgjeaaGreat

/- The document's Encode at the leaves and at parts. -/
namespace Go.Proofs.YtpaamhmighgjeaaGreat
open Go.RowKit
set_option linter.unusedVariables false
set_option maxRecDepth 100000
theorem own_byte5 (w : World) (r : Nat) : Row (w.alloc (.cells #[.int .u8 (r : Nat)] 5)) w.heap.size (.slice (some ⟨w.heap.size, 0, none⟩) 1 1) [r] := by
  refine ⟨by simp [cellsB], .inr ⟨w.heap.size, _, _, rfl, Nat.le_refl _, heap_alloc_new w _, Nat.le_refl _, by unfold maxLen; omega, by simp, by simp [cellsB]⟩⟩

set_option maxHeartbeats 1000000 in
theorem encL_num (n : Nat) (r : List Nat) (sb sk : Value) (p : Nat) (w : World) (hn : n < 18446744073709551616) (d0 : w.cell? ⟨p, 0, none⟩ = some (.int .i64 (1 : Nat))) :
    Calls Tryz.prog 10 #[.pointer (some ⟨p, 0, none⟩), .agg (valL n r sb sk).toArray] w fun x w' => ∃ v, x = .returned v ∧ Row w' w.heap.size v (le n 8) ∧ Below w.heap.size w w' := by
  go_enter Tryz.func10, Tryz.ntmps10
  go_wp2_with ((with_reducible refine at_list' ?_); first
    | (refine wpList_box_c rfl 3 rfl (.tmp 1) rfl (valL n r sb sk) rfl ?_; intro w1 H1 B1 S1; have hc0 := H1.cell (j := 0) (v := .int .u64 (n : Nat)) rfl; have d1 := cell_keep B1 d0))
  have HB := hid B1
  have s1 := S1
  clear H1 B1 S1 hc0 d1 d0
  refine (refput_le5 n 8 hn (by decide) w1).mono ?_
  rintro x w2 ⟨v, rfl, q1, q2⟩
  have X := hid (And.intro q1 q2)
  clear q1 q2
  go_wp2
  go_ret
  exact ⟨v, rfl, X.out.1.base (by omega), HB.out.trans (X.out.2.mono (by omega))⟩

set_option maxHeartbeats 1000000 in
theorem encL_truth (n : Nat) (r : List Nat) (sb sk : Value) (p : Nat) (w : World) (hn : n < 18446744073709551616) (d0 : w.cell? ⟨p, 0, none⟩ = some (.int .i64 (2 : Nat))) :
    Calls Tryz.prog 10 #[.pointer (some ⟨p, 0, none⟩), .agg (valL n r sb sk).toArray] w fun x w' => ∃ v, x = .returned v ∧ Row w' w.heap.size v ([n % 256]) ∧ Below w.heap.size w w' := by
  have hwr : IntKind.u8.wrap (n : Int) = ((n % 256 : Nat) : Int) := by rw [IntKind.wrap_u8]; omega
  go_enter Tryz.func10, Tryz.ntmps10
  go_wp2_with ((with_reducible refine at_list' ?_); first
    | (refine wpList_box_c rfl 3 rfl (.tmp 1) rfl (valL n r sb sk) rfl ?_; intro w1 H1 B1 S1; have hc0 := H1.cell (j := 0) (v := .int .u64 (n : Nat)) rfl; have d1 := cell_keep B1 d0))
  go_ret
  have hR := own_byte5 w1 (n % 256)
  rw [S1] at hR
  exact ⟨_, rfl, hR.base (by omega), B1.trans (((Below.refl _ w1).alloc (Nat.le_refl _) _).mono (by omega))⟩

set_option maxHeartbeats 1000000 in
theorem encL_root (n : Nat) (r : List Nat) (sb sk : Value) (p : Nat) (w : World) (hr : r.length = 32) (h8 : ∀ z ∈ r, z < 256) (d0 : w.cell? ⟨p, 0, none⟩ = some (.int .i64 (3 : Nat))) :
    Calls Tryz.prog 10 #[.pointer (some ⟨p, 0, none⟩), .agg (valL n r sb sk).toArray] w fun x w' => ∃ v, x = .returned v ∧ Row w' w.heap.size v (r) ∧ Below w.heap.size w w' := by
  have HR := hid hr
  have H8 := hid h8
  clear hr h8
  go_enter Tryz.func10, Tryz.ntmps10
  go_wp2_with ((with_reducible refine at_list' ?_); first
    | (refine wpList_box_c rfl 3 rfl (.tmp 1) rfl (valL n r sb sk) rfl ?_; intro w1 H1 B1 S1; have h1 := hid H1; have b1 := hid B1; have d1 := cell_keep B1 d0)
    | (refine wpList_append_b rfl (.tmp 24) (.tmp 26) 39 rfl (w.heap.size + 1) (.slice (some ⟨w.heap.size + 1, 0, none⟩) 0 0) [] rfl (row0 w1 S1) (.slice (some ⟨w.heap.size, 1, none⟩) 32 32) r rfl (by exact (srcRoot (o := .cells #[] 5) h1.out HR.out H8.out).src) (by rw [HR.out]; decide) (by simp; omega) ?_; intro v' w' r1 r2 r3))
  go_ret
  refine ⟨v', rfl, r1.base (by omega), ?_⟩
  have hb2 : Below w1.heap.size w1 (w1.alloc (.cells #[] 5)) := (Below.refl _ w1).alloc (Nat.le_refl _) _
  have hb := b1.out.trans (hb2.mono (by omega))
  exact ⟨r2.os.trans hb.os, r2.tape.trans hb.tape, r2.output.trans hb.output, Nat.le_trans hb.size r2.size, fun k hk => (r2.block k (Nat.lt_of_lt_of_le hk hb.size) (fun e => by simp [Value.ownBlock] at e; omega)).trans (hb.block k hk)⟩

set_option maxHeartbeats 1000000 in
theorem encL_bits6 (n : Nat) (r : List Nat) (sb sk : Value) (p : Nat) (w : World) (l : List Bool) (hr : r.length = 32) (hT : IsT w sb l) (hl : l.length ≤ 1099511627776) (d0 : w.cell? ⟨p, 0, none⟩ = some (.int .i64 (6 : Nat))) :
    Calls Tryz.prog 10 #[.pointer (some ⟨p, 0, none⟩), .agg (valL n r sb sk).toArray] w fun x w' => ∃ v, x = .returned v ∧ Row w' w.heap.size v (putB l false) ∧ Below w.heap.size w w' := by
  obtain ⟨aob, capb, hsb, _⟩ := id hT
  have HT := hid hT
  have HL := hid hl
  have HR := hid hr
  clear hT hl hr
  go_enter Tryz.func10, Tryz.ntmps10
  go_wp2_with ((with_reducible refine at_list' ?_); first
    | (refine wpList_box_c rfl 3 rfl (.tmp 1) rfl (valL n r sb sk) rfl ?_; intro w1 H1 B1 S1; have hc0 := H1.cell (valL_33 n r sb sk HR.out); rw [hsb] at hc0; have d1 := cell_keep B1 d0))
  have HB := hid B1
  have s1 := S1
  have HP := hid (rputBits_any sb l false w1 (HT.out.keep B1) HL.out)
  rw [hsb] at HP
  clear H1 B1 S1 hc0 d1 d0
  refine HP.out.mono ?_
  rintro x w2 ⟨v, rfl, q1, q2⟩
  have X := hid (And.intro q1 q2)
  clear q1 q2
  go_wp2
  go_ret
  exact ⟨v, rfl, X.out.1.base (by omega), HB.out.trans (X.out.2.mono (by omega))⟩

set_option maxHeartbeats 1000000 in
theorem encL_bits7 (n : Nat) (r : List Nat) (sb sk : Value) (p : Nat) (w : World) (l : List Bool) (hr : r.length = 32) (hT : IsT w sb l) (hl : l.length ≤ 1099511627776) (d0 : w.cell? ⟨p, 0, none⟩ = some (.int .i64 (7 : Nat))) :
    Calls Tryz.prog 10 #[.pointer (some ⟨p, 0, none⟩), .agg (valL n r sb sk).toArray] w fun x w' => ∃ v, x = .returned v ∧ Row w' w.heap.size v (putB l true) ∧ Below w.heap.size w w' := by
  obtain ⟨aob, capb, hsb, _⟩ := id hT
  have HT := hid hT
  have HL := hid hl
  have HR := hid hr
  clear hT hl hr
  go_enter Tryz.func10, Tryz.ntmps10
  go_wp2_with ((with_reducible refine at_list' ?_); first
    | (refine wpList_box_c rfl 3 rfl (.tmp 1) rfl (valL n r sb sk) rfl ?_; intro w1 H1 B1 S1; have hc0 := H1.cell (valL_33 n r sb sk HR.out); rw [hsb] at hc0; have d1 := cell_keep B1 d0))
  have HB := hid B1
  have s1 := S1
  have HP := hid (rputBits_any sb l true w1 (HT.out.keep B1) HL.out)
  rw [hsb] at HP
  clear H1 B1 S1 hc0 d1 d0
  refine HP.out.mono ?_
  rintro x w2 ⟨v, rfl, q1, q2⟩
  have X := hid (And.intro q1 q2)
  clear q1 q2
  go_wp2
  go_ret
  exact ⟨v, rfl, X.out.1.base (by omega), HB.out.trans (X.out.2.mono (by omega))⟩
end Go.Proofs.YtpaamhmighgjeaaGreat

/- The document's Encode at parts; the recursion. -/
namespace Go.Proofs.YtpaamhmighgjeaaGreat
open Go.RowKit
set_option linter.unusedVariables false
set_option maxRecDepth 100000

theorem RowP.form {w : World} {base : Nat} {v : Value} {us : List Value} (h : RowP w base v us) (h0 : 0 < us.length) : ∃ g cap, v = .slice (some ⟨g, 0, none⟩) us.length cap ∧ us.length ≤ cap ∧ cap ≤ maxLen ∧ ∀ (i : Nat) u, us[i]? = some u → w.cell? ⟨g, i, none⟩ = some u := by
  obtain ⟨_, h⟩ := h
  rcases h with ⟨rfl, h1⟩ | ⟨g, cap, cur, rfl, hb, hg, hc, hm, hcs, htk⟩
  · omega
  · refine ⟨g, cap, rfl, hc, hm, fun i u hu => ?_⟩
    have hi := (List.getElem?_eq_some_iff.1 hu).1
    rw [cell_of_row w g i cur _ (0, 0) hg]
    have : (cur.toList.take (us.length * 1))[i]? = us[i]? := by rw [htk]
    rw [List.getElem?_take, if_pos (by omega), Array.getElem?_toList] at this
    rw [this, hu]
theorem RowP.lt {w : World} {base : Nat} {v : Value} {us : List Value} (h : RowP w base v us) (k : Nat) (hk : v.ownBlock = some k) : base ≤ k ∧ k < w.heap.size := World.ownsRow.lt h k hk
theorem RowP.below {w w' : World} {base : Nat} {v : Value} {us : List Value} (h : RowP w base v us) (hb : Below w.heap.size w w') : RowP w' base v us := by
  obtain ⟨hl, h⟩ := h
  refine ⟨hl, ?_⟩
  rcases h with h | ⟨g, cap, cur, rfl, hb', hg', r⟩
  · exact .inl h
  · exact .inr ⟨g, cap, cur, rfl, hb', (hb.block g (Array.getElem?_eq_some_iff.1 hg').1).trans hg', r⟩

set_option maxHeartbeats 1000000 in
theorem enc_none (f num : Nat) (hf : f = 0 ∨ f = 4 ∨ f = 5 ∨ f = 8) (r : List Nat) (sb : Value) (aok : Option Addr) (capk p : Nat) (w : World) (hr : r.length = 32) (d0 : w.cell? ⟨p, 0, none⟩ = some (.int .i64 (f : Nat))) :
    Calls Tryz.prog 10 #[.pointer (some ⟨p, 0, none⟩), .agg (valL num r sb (.slice aok 0 capk)).toArray] w fun x w' => ∃ v, x = .returned v ∧ Row w' w.heap.size v [] ∧ Below w.heap.size w w' := by
  have HR := hid hr
  clear hr
  rcases hf with rfl | rfl | rfl | rfl
  all_goals
    go_enter Tryz.func10, Tryz.ntmps10
    go_wp2_with ((with_reducible refine at_list' ?_); first
      | (refine wpList_box_c rfl 3 rfl (.tmp 1) rfl (valL num r sb (.slice aok 0 capk)) rfl ?_; intro w1 H1 B1 S1; have hc0 := H1.cell (valL_34 num r sb _ HR.out); have d1 := cell_keep B1 d0))
    have HB := hid B1
    have s1 := S1
    clear H1 B1 S1 d0
    go_loopw [5, 6] (fun kd i wr => kd = .slice none 0 0 ∧ i = .int .i64 0 ∧ wr = w1) (fun _ i _ => 0)
    case atStart => exact ⟨rfl, rfl, rfl⟩
    case round =>
      obtain ⟨rfl, rfl, hwr⟩ := hrel
      replace hwr := hwr.symm
      subst hwr
      go_wp2_with (go_at_call 40; refine (ser_nil aok capk w1).mono ?_; rintro x w2 ⟨rfl, B2⟩; have HB2 := hid (below_more HB.out B2 (Nat.le_refl _)); clear B2)
      go_ret
      exact ⟨_, rfl, Row.nil _ _, HB2.out⟩

set_option maxHeartbeats 4000000 in
theorem enc_some0 (N : Nat) (IH : ∀ (d : Dt) (v : Vt) (sb sk : Value) (p : Nat) (w : World), v.deep ≤ N → okD d → okV d v → DAt w d p → VAt w v sb sk → Calls Tryz.prog 10 #[.pointer (some ⟨p, 0, none⟩), .agg (valL v.num v.root sb sk).toArray] w fun e w' => ∃ u, e = .returned u ∧ Row w' w.heap.size u (encV d v) ∧ Below w.heap.size w w')
    (m bd od dl capd num : Nat) (ds : List Dt) (r : List Nat) (ks : List Vt) (sb : Value) (bv ov capk p : Nat) (w : World) (hr : r.length = 32) (hm0 : 0 < m) (hm : m ≤ 1048576) (hks : ks.length = m) (hdl : ds.length = dl) (hd0 : 0 < dl) (h8 : 0 = 8 → m ≤ dl) (hN : deepK ks ≤ N) (hok : okDs ds) (hov : okK (kdsV 0 ds m) ks) (hb : lenF (encK (kdsV 0 ds m) ks) ≤ 274877906944)
    (hD : DsAt w ds bd od) (hK : KsAt w ks bv ov) (hc1 : dl ≤ capd) (hc2 : capd ≤ maxLen) (hc3 : m ≤ capk) (hc4 : capk ≤ maxLen)
    (d0 : w.cell? ⟨p, 0, none⟩ = some (.int .i64 (0 : Nat))) (d2 : w.cell? ⟨p, 2, none⟩ = some (.slice (some ⟨bd, od, none⟩) dl capd)) :
    Calls Tryz.prog 10 #[.pointer (some ⟨p, 0, none⟩), .agg (valL num r sb (.slice (some ⟨bv, ov, none⟩) m capk)).toArray] w fun x w' => ∃ v, x = .returned v ∧ Row w' w.heap.size v (cont (encK (kdsV 0 ds m) ks)) ∧ Below w.heap.size w w' := by
  have hkl := kdsV_length 0 ds m (fun e => by rw [hdl]; exact h8 e) (fun _ => by rw [hdl]; exact hd0)
  have hkg : ∀ (k : Nat) d, (kdsV 0 ds m)[k]? = some d → (0 = 8 → ds[k]? = some d) ∧ (0 ≠ 8 → ds[0]? = some d) := fun k d h => kdsV_get h
  have hko := kdsV_ok (f := 0) (n := m) hok
  have hby := encK_byte ks hK (kdsV 0 ds m)
  have HSER := hid (ser_step N IH)
  generalize kdsV 0 ds m = kds at *
  obtain ⟨C, hC⟩ : ∃ C, Same (cont (encK kds ks)) C := ⟨_, ⟨rfl⟩⟩
  rw [hC.out]
  have HKG := hid hkg
  have HKL := hid hkl
  have HR := hid hr
  have HD := hid hD
  have HK := hid hK
  have HX := hid (And.intro hko (And.intro hby (And.intro hov hb)))
  have HKS := hid hks
  have HDL := hid hdl
  clear IH hkg hkl hr hD hK hko hby hov hb hks hdl hok
  go_enter Tryz.func10, Tryz.ntmps10
  go_wp2_with ((with_reducible refine at_list' ?_); first
    | (refine wpList_box_c rfl 3 rfl (.tmp 1) rfl (valL num r sb (.slice (some ⟨bv, ov, none⟩) m capk)) rfl ?_; intro w1 H1 B1 S1; have d1 := cell_keep B1 d0))
  have HC1 := hid H1
  have HB1 := hid B1
  have hs1 := H1.lt
  clear H1 B1 S1 d1
  go_loopw [5, 6] (fun kd i wr => ∃ (k : Nat) (ps : List Value), k ≤ m ∧ ps.length = k ∧ i = .int .i64 (k : Nat) ∧ RowP wr (w.heap.size + 1) kd ps ∧ (∀ (j : Nat) d, j < k → kds[j]? = some d → ∃ q, ps[j]? = some (.pointer (some ⟨q, 0, none⟩)) ∧ DAt w d q) ∧ HasC wr w.heap.size 37 (valL num r sb (.slice (some ⟨bv, ov, none⟩) m capk)) ∧ Below w.heap.size w wr) (fun _ i _ => m - (intOf i).toNat)
  case atStart => exact ⟨0, [], by omega, rfl, rfl, World.ownsRow_nil _ _ _ _, (fun j d hj => by omega), HC1.out, HB1.out⟩
  case round =>
    clear HC1 HB1 hs1
    obtain ⟨k, ps, hk, hpl, rfl, hR, hP, hH, hB⟩ := hrel
    have hc0 := hH.cell (valL_34 num r sb _ HR.out)
    have hsz := hH.lt
    by_cases hkm : k < m
    · obtain ⟨d, hd⟩ : ∃ d, kds[k]? = some d := ⟨_, List.getElem?_eq_getElem (by rw [HKL.out]; exact hkm)⟩
      have hg := HKG.out k d hd
      obtain ⟨q, hpc, hDq⟩ := HD.out.get (hg.2 (by decide))
      have hpc2 := cell_keep hB hpc
      have e0 := cell_keep hB d0
      have e2 := cell_keep hB d2
      rw [Nat.add_zero] at hpc2
      have HRP := hid hR
      have HP := hid hP
      have HH := hid hH
      have HB := hid hB
      have HPL := hid hpl
      have HDQ := hid hDq
      have HD2 := hid hd
      have BA : Below wr.heap.size wr (wr.alloc (.cells #[.pointer (some ⟨q, 0, none⟩)] 45)) := (Below.refl _ wr).alloc (Nat.le_refl _) _
      have HBA := hid BA
      clear hR hP hH hB hpl hDq hd hg hpc BA
      go_wp2_with (at_builtin; refine wpList_append_p rfl (.tmp 60) (.tmp 67) rfl (w.heap.size + 1) u5 ps rfl (HRP.out.below HBA.out) wr.heap.size (.pointer (some ⟨q, 0, none⟩)) rfl (cell_of_one (heap_alloc_new wr _)) rfl (by rw [HPL.out]; omega) (by have := HBA.out.size; omega) ?_; intro v5 w5 R5 G5 M5; have HR5 := hid R5; have HG5 := hid G5; clear R5 G5 M5)
      go_roundw
      case rel =>
        have hl5 : (ps ++ [Value.pointer (some ⟨q, 0, none⟩)]).length = k + 1 := by simp [HPL.out]
        have hlt : ∀ j, u5.ownBlock = some j → w.heap.size + 1 ≤ j := fun j hj => (HRP.out.lt j hj).1
        refine ⟨k + 1, ps ++ [Value.pointer (some ⟨q, 0, none⟩)], by omega, hl5, by go_num, HR5.out, fun j d' hj hd' => ?_, ?_, ?_⟩
        · by_cases hjk : j < k
          · obtain ⟨q', h1, h2⟩ := HP.out j d' hjk hd'
            exact ⟨q', by rw [List.getElem?_append_left (by rw [HPL.out]; exact hjk)]; exact h1, h2⟩
          · obtain rfl : j = k := by omega
            rw [HD2.out] at hd'
            cases hd'
            exact ⟨q, by rw [List.getElem?_append_right (by rw [HPL.out]; exact Nat.le_refl _), HPL.out, Nat.sub_self]; rfl, HDQ.out⟩
        · have h1 := HH.out.keep HBA.out
          exact (HG5.out.block w.heap.size h1.lt (fun e => by have := hlt _ e.symm; omega)).trans h1
        · have h1 := below_more HB.out HBA.out (Nat.le_refl _)
          exact h1.grown HG5.out h1.size (fun j hj => by have := hlt j hj; omega)
      case measure => simp [intOf]; omega
    · have hke : m = k := by omega
      subst hke
      obtain ⟨g, cap, rfl, hgc1, hgc2, hgc⟩ := hR.form (by omega)
      rw [hpl] at hgc1 ⊢
      have hDk : DsAt wr kds g 0 := dsAt_of kds g 0 fun i d hd => by
        have hi : i < m := by have := (List.getElem?_eq_some_iff.1 hd).1; rw [HKL.out] at this; exact this
        obtain ⟨q, h1, h2⟩ := hP i d hi hd
        exact ⟨q, by rw [Nat.zero_add]; exact hgc i _ h1, h2.keep hB⟩
      have HS := hid (HSER.out kds ks m g 0 cap bv ov capk wr HKL.out HKS.out hm0 hm hN HX.out.1 HX.out.2.2.1 HX.out.2.1 HX.out.2.2.2 hDk (HK.out.keep hB) hgc1 hgc2 hc3 hc4)
      rw [hC.out] at HS
      have HB := hid hB
      clear hDk hgc hR hP hH hB hpl
      go_wp2_with (go_at_call 40; refine HS.out.mono ?_; rintro x w2 ⟨u, rfl, R2, B2⟩; have HR2 := hid R2; have HB2 := hid (below_more HB.out B2 (Nat.le_refl _)); clear R2 B2)
      go_ret
      exact ⟨_, rfl, HR2.out.base HB.out.size, HB2.out⟩

set_option maxHeartbeats 4000000 in
theorem enc_some4 (N : Nat) (IH : ∀ (d : Dt) (v : Vt) (sb sk : Value) (p : Nat) (w : World), v.deep ≤ N → okD d → okV d v → DAt w d p → VAt w v sb sk → Calls Tryz.prog 10 #[.pointer (some ⟨p, 0, none⟩), .agg (valL v.num v.root sb sk).toArray] w fun e w' => ∃ u, e = .returned u ∧ Row w' w.heap.size u (encV d v) ∧ Below w.heap.size w w')
    (m bd od dl capd num : Nat) (ds : List Dt) (r : List Nat) (ks : List Vt) (sb : Value) (bv ov capk p : Nat) (w : World) (hr : r.length = 32) (hm0 : 0 < m) (hm : m ≤ 1048576) (hks : ks.length = m) (hdl : ds.length = dl) (hd0 : 0 < dl) (h8 : 4 = 8 → m ≤ dl) (hN : deepK ks ≤ N) (hok : okDs ds) (hov : okK (kdsV 4 ds m) ks) (hb : lenF (encK (kdsV 4 ds m) ks) ≤ 274877906944)
    (hD : DsAt w ds bd od) (hK : KsAt w ks bv ov) (hc1 : dl ≤ capd) (hc2 : capd ≤ maxLen) (hc3 : m ≤ capk) (hc4 : capk ≤ maxLen)
    (d0 : w.cell? ⟨p, 0, none⟩ = some (.int .i64 (4 : Nat))) (d2 : w.cell? ⟨p, 2, none⟩ = some (.slice (some ⟨bd, od, none⟩) dl capd)) :
    Calls Tryz.prog 10 #[.pointer (some ⟨p, 0, none⟩), .agg (valL num r sb (.slice (some ⟨bv, ov, none⟩) m capk)).toArray] w fun x w' => ∃ v, x = .returned v ∧ Row w' w.heap.size v (cont (encK (kdsV 4 ds m) ks)) ∧ Below w.heap.size w w' := by
  have hkl := kdsV_length 4 ds m (fun e => by rw [hdl]; exact h8 e) (fun _ => by rw [hdl]; exact hd0)
  have hkg : ∀ (k : Nat) d, (kdsV 4 ds m)[k]? = some d → (4 = 8 → ds[k]? = some d) ∧ (4 ≠ 8 → ds[0]? = some d) := fun k d h => kdsV_get h
  have hko := kdsV_ok (f := 4) (n := m) hok
  have hby := encK_byte ks hK (kdsV 4 ds m)
  have HSER := hid (ser_step N IH)
  generalize kdsV 4 ds m = kds at *
  obtain ⟨C, hC⟩ : ∃ C, Same (cont (encK kds ks)) C := ⟨_, ⟨rfl⟩⟩
  rw [hC.out]
  have HKG := hid hkg
  have HKL := hid hkl
  have HR := hid hr
  have HD := hid hD
  have HK := hid hK
  have HX := hid (And.intro hko (And.intro hby (And.intro hov hb)))
  have HKS := hid hks
  have HDL := hid hdl
  clear IH hkg hkl hr hD hK hko hby hov hb hks hdl hok
  go_enter Tryz.func10, Tryz.ntmps10
  go_wp2_with ((with_reducible refine at_list' ?_); first
    | (refine wpList_box_c rfl 3 rfl (.tmp 1) rfl (valL num r sb (.slice (some ⟨bv, ov, none⟩) m capk)) rfl ?_; intro w1 H1 B1 S1; have d1 := cell_keep B1 d0))
  have HC1 := hid H1
  have HB1 := hid B1
  have hs1 := H1.lt
  clear H1 B1 S1 d1
  go_loopw [5, 6] (fun kd i wr => ∃ (k : Nat) (ps : List Value), k ≤ m ∧ ps.length = k ∧ i = .int .i64 (k : Nat) ∧ RowP wr (w.heap.size + 1) kd ps ∧ (∀ (j : Nat) d, j < k → kds[j]? = some d → ∃ q, ps[j]? = some (.pointer (some ⟨q, 0, none⟩)) ∧ DAt w d q) ∧ HasC wr w.heap.size 37 (valL num r sb (.slice (some ⟨bv, ov, none⟩) m capk)) ∧ Below w.heap.size w wr) (fun _ i _ => m - (intOf i).toNat)
  case atStart => exact ⟨0, [], by omega, rfl, rfl, World.ownsRow_nil _ _ _ _, (fun j d hj => by omega), HC1.out, HB1.out⟩
  case round =>
    clear HC1 HB1 hs1
    obtain ⟨k, ps, hk, hpl, rfl, hR, hP, hH, hB⟩ := hrel
    have hc0 := hH.cell (valL_34 num r sb _ HR.out)
    have hsz := hH.lt
    by_cases hkm : k < m
    · obtain ⟨d, hd⟩ : ∃ d, kds[k]? = some d := ⟨_, List.getElem?_eq_getElem (by rw [HKL.out]; exact hkm)⟩
      have hg := HKG.out k d hd
      obtain ⟨q, hpc, hDq⟩ := HD.out.get (hg.2 (by decide))
      have hpc2 := cell_keep hB hpc
      have e0 := cell_keep hB d0
      have e2 := cell_keep hB d2
      rw [Nat.add_zero] at hpc2
      have HRP := hid hR
      have HP := hid hP
      have HH := hid hH
      have HB := hid hB
      have HPL := hid hpl
      have HDQ := hid hDq
      have HD2 := hid hd
      have BA : Below wr.heap.size wr (wr.alloc (.cells #[.pointer (some ⟨q, 0, none⟩)] 45)) := (Below.refl _ wr).alloc (Nat.le_refl _) _
      have HBA := hid BA
      clear hR hP hH hB hpl hDq hd hg hpc BA
      go_wp2_with (at_builtin; refine wpList_append_p rfl (.tmp 60) (.tmp 67) rfl (w.heap.size + 1) u5 ps rfl (HRP.out.below HBA.out) wr.heap.size (.pointer (some ⟨q, 0, none⟩)) rfl (cell_of_one (heap_alloc_new wr _)) rfl (by rw [HPL.out]; omega) (by have := HBA.out.size; omega) ?_; intro v5 w5 R5 G5 M5; have HR5 := hid R5; have HG5 := hid G5; clear R5 G5 M5)
      go_roundw
      case rel =>
        have hl5 : (ps ++ [Value.pointer (some ⟨q, 0, none⟩)]).length = k + 1 := by simp [HPL.out]
        have hlt : ∀ j, u5.ownBlock = some j → w.heap.size + 1 ≤ j := fun j hj => (HRP.out.lt j hj).1
        refine ⟨k + 1, ps ++ [Value.pointer (some ⟨q, 0, none⟩)], by omega, hl5, by go_num, HR5.out, fun j d' hj hd' => ?_, ?_, ?_⟩
        · by_cases hjk : j < k
          · obtain ⟨q', h1, h2⟩ := HP.out j d' hjk hd'
            exact ⟨q', by rw [List.getElem?_append_left (by rw [HPL.out]; exact hjk)]; exact h1, h2⟩
          · obtain rfl : j = k := by omega
            rw [HD2.out] at hd'
            cases hd'
            exact ⟨q, by rw [List.getElem?_append_right (by rw [HPL.out]; exact Nat.le_refl _), HPL.out, Nat.sub_self]; rfl, HDQ.out⟩
        · have h1 := HH.out.keep HBA.out
          exact (HG5.out.block w.heap.size h1.lt (fun e => by have := hlt _ e.symm; omega)).trans h1
        · have h1 := below_more HB.out HBA.out (Nat.le_refl _)
          exact h1.grown HG5.out h1.size (fun j hj => by have := hlt j hj; omega)
      case measure => simp [intOf]; omega
    · have hke : m = k := by omega
      subst hke
      obtain ⟨g, cap, rfl, hgc1, hgc2, hgc⟩ := hR.form (by omega)
      rw [hpl] at hgc1 ⊢
      have hDk : DsAt wr kds g 0 := dsAt_of kds g 0 fun i d hd => by
        have hi : i < m := by have := (List.getElem?_eq_some_iff.1 hd).1; rw [HKL.out] at this; exact this
        obtain ⟨q, h1, h2⟩ := hP i d hi hd
        exact ⟨q, by rw [Nat.zero_add]; exact hgc i _ h1, h2.keep hB⟩
      have HS := hid (HSER.out kds ks m g 0 cap bv ov capk wr HKL.out HKS.out hm0 hm hN HX.out.1 HX.out.2.2.1 HX.out.2.1 HX.out.2.2.2 hDk (HK.out.keep hB) hgc1 hgc2 hc3 hc4)
      rw [hC.out] at HS
      have HB := hid hB
      clear hDk hgc hR hP hH hB hpl
      go_wp2_with (go_at_call 40; refine HS.out.mono ?_; rintro x w2 ⟨u, rfl, R2, B2⟩; have HR2 := hid R2; have HB2 := hid (below_more HB.out B2 (Nat.le_refl _)); clear R2 B2)
      go_ret
      exact ⟨_, rfl, HR2.out.base HB.out.size, HB2.out⟩

set_option maxHeartbeats 4000000 in
theorem enc_some5 (N : Nat) (IH : ∀ (d : Dt) (v : Vt) (sb sk : Value) (p : Nat) (w : World), v.deep ≤ N → okD d → okV d v → DAt w d p → VAt w v sb sk → Calls Tryz.prog 10 #[.pointer (some ⟨p, 0, none⟩), .agg (valL v.num v.root sb sk).toArray] w fun e w' => ∃ u, e = .returned u ∧ Row w' w.heap.size u (encV d v) ∧ Below w.heap.size w w')
    (m bd od dl capd num : Nat) (ds : List Dt) (r : List Nat) (ks : List Vt) (sb : Value) (bv ov capk p : Nat) (w : World) (hr : r.length = 32) (hm0 : 0 < m) (hm : m ≤ 1048576) (hks : ks.length = m) (hdl : ds.length = dl) (hd0 : 0 < dl) (h8 : 5 = 8 → m ≤ dl) (hN : deepK ks ≤ N) (hok : okDs ds) (hov : okK (kdsV 5 ds m) ks) (hb : lenF (encK (kdsV 5 ds m) ks) ≤ 274877906944)
    (hD : DsAt w ds bd od) (hK : KsAt w ks bv ov) (hc1 : dl ≤ capd) (hc2 : capd ≤ maxLen) (hc3 : m ≤ capk) (hc4 : capk ≤ maxLen)
    (d0 : w.cell? ⟨p, 0, none⟩ = some (.int .i64 (5 : Nat))) (d2 : w.cell? ⟨p, 2, none⟩ = some (.slice (some ⟨bd, od, none⟩) dl capd)) :
    Calls Tryz.prog 10 #[.pointer (some ⟨p, 0, none⟩), .agg (valL num r sb (.slice (some ⟨bv, ov, none⟩) m capk)).toArray] w fun x w' => ∃ v, x = .returned v ∧ Row w' w.heap.size v (cont (encK (kdsV 5 ds m) ks)) ∧ Below w.heap.size w w' := by
  have hkl := kdsV_length 5 ds m (fun e => by rw [hdl]; exact h8 e) (fun _ => by rw [hdl]; exact hd0)
  have hkg : ∀ (k : Nat) d, (kdsV 5 ds m)[k]? = some d → (5 = 8 → ds[k]? = some d) ∧ (5 ≠ 8 → ds[0]? = some d) := fun k d h => kdsV_get h
  have hko := kdsV_ok (f := 5) (n := m) hok
  have hby := encK_byte ks hK (kdsV 5 ds m)
  have HSER := hid (ser_step N IH)
  generalize kdsV 5 ds m = kds at *
  obtain ⟨C, hC⟩ : ∃ C, Same (cont (encK kds ks)) C := ⟨_, ⟨rfl⟩⟩
  rw [hC.out]
  have HKG := hid hkg
  have HKL := hid hkl
  have HR := hid hr
  have HD := hid hD
  have HK := hid hK
  have HX := hid (And.intro hko (And.intro hby (And.intro hov hb)))
  have HKS := hid hks
  have HDL := hid hdl
  clear IH hkg hkl hr hD hK hko hby hov hb hks hdl hok
  go_enter Tryz.func10, Tryz.ntmps10
  go_wp2_with ((with_reducible refine at_list' ?_); first
    | (refine wpList_box_c rfl 3 rfl (.tmp 1) rfl (valL num r sb (.slice (some ⟨bv, ov, none⟩) m capk)) rfl ?_; intro w1 H1 B1 S1; have d1 := cell_keep B1 d0))
  have HC1 := hid H1
  have HB1 := hid B1
  have hs1 := H1.lt
  clear H1 B1 S1 d1
  go_loopw [5, 6] (fun kd i wr => ∃ (k : Nat) (ps : List Value), k ≤ m ∧ ps.length = k ∧ i = .int .i64 (k : Nat) ∧ RowP wr (w.heap.size + 1) kd ps ∧ (∀ (j : Nat) d, j < k → kds[j]? = some d → ∃ q, ps[j]? = some (.pointer (some ⟨q, 0, none⟩)) ∧ DAt w d q) ∧ HasC wr w.heap.size 37 (valL num r sb (.slice (some ⟨bv, ov, none⟩) m capk)) ∧ Below w.heap.size w wr) (fun _ i _ => m - (intOf i).toNat)
  case atStart => exact ⟨0, [], by omega, rfl, rfl, World.ownsRow_nil _ _ _ _, (fun j d hj => by omega), HC1.out, HB1.out⟩
  case round =>
    clear HC1 HB1 hs1
    obtain ⟨k, ps, hk, hpl, rfl, hR, hP, hH, hB⟩ := hrel
    have hc0 := hH.cell (valL_34 num r sb _ HR.out)
    have hsz := hH.lt
    by_cases hkm : k < m
    · obtain ⟨d, hd⟩ : ∃ d, kds[k]? = some d := ⟨_, List.getElem?_eq_getElem (by rw [HKL.out]; exact hkm)⟩
      have hg := HKG.out k d hd
      obtain ⟨q, hpc, hDq⟩ := HD.out.get (hg.2 (by decide))
      have hpc2 := cell_keep hB hpc
      have e0 := cell_keep hB d0
      have e2 := cell_keep hB d2
      rw [Nat.add_zero] at hpc2
      have HRP := hid hR
      have HP := hid hP
      have HH := hid hH
      have HB := hid hB
      have HPL := hid hpl
      have HDQ := hid hDq
      have HD2 := hid hd
      have BA : Below wr.heap.size wr (wr.alloc (.cells #[.pointer (some ⟨q, 0, none⟩)] 45)) := (Below.refl _ wr).alloc (Nat.le_refl _) _
      have HBA := hid BA
      clear hR hP hH hB hpl hDq hd hg hpc BA
      go_wp2_with (at_builtin; refine wpList_append_p rfl (.tmp 60) (.tmp 67) rfl (w.heap.size + 1) u5 ps rfl (HRP.out.below HBA.out) wr.heap.size (.pointer (some ⟨q, 0, none⟩)) rfl (cell_of_one (heap_alloc_new wr _)) rfl (by rw [HPL.out]; omega) (by have := HBA.out.size; omega) ?_; intro v5 w5 R5 G5 M5; have HR5 := hid R5; have HG5 := hid G5; clear R5 G5 M5)
      go_roundw
      case rel =>
        have hl5 : (ps ++ [Value.pointer (some ⟨q, 0, none⟩)]).length = k + 1 := by simp [HPL.out]
        have hlt : ∀ j, u5.ownBlock = some j → w.heap.size + 1 ≤ j := fun j hj => (HRP.out.lt j hj).1
        refine ⟨k + 1, ps ++ [Value.pointer (some ⟨q, 0, none⟩)], by omega, hl5, by go_num, HR5.out, fun j d' hj hd' => ?_, ?_, ?_⟩
        · by_cases hjk : j < k
          · obtain ⟨q', h1, h2⟩ := HP.out j d' hjk hd'
            exact ⟨q', by rw [List.getElem?_append_left (by rw [HPL.out]; exact hjk)]; exact h1, h2⟩
          · obtain rfl : j = k := by omega
            rw [HD2.out] at hd'
            cases hd'
            exact ⟨q, by rw [List.getElem?_append_right (by rw [HPL.out]; exact Nat.le_refl _), HPL.out, Nat.sub_self]; rfl, HDQ.out⟩
        · have h1 := HH.out.keep HBA.out
          exact (HG5.out.block w.heap.size h1.lt (fun e => by have := hlt _ e.symm; omega)).trans h1
        · have h1 := below_more HB.out HBA.out (Nat.le_refl _)
          exact h1.grown HG5.out h1.size (fun j hj => by have := hlt j hj; omega)
      case measure => simp [intOf]; omega
    · have hke : m = k := by omega
      subst hke
      obtain ⟨g, cap, rfl, hgc1, hgc2, hgc⟩ := hR.form (by omega)
      rw [hpl] at hgc1 ⊢
      have hDk : DsAt wr kds g 0 := dsAt_of kds g 0 fun i d hd => by
        have hi : i < m := by have := (List.getElem?_eq_some_iff.1 hd).1; rw [HKL.out] at this; exact this
        obtain ⟨q, h1, h2⟩ := hP i d hi hd
        exact ⟨q, by rw [Nat.zero_add]; exact hgc i _ h1, h2.keep hB⟩
      have HS := hid (HSER.out kds ks m g 0 cap bv ov capk wr HKL.out HKS.out hm0 hm hN HX.out.1 HX.out.2.2.1 HX.out.2.1 HX.out.2.2.2 hDk (HK.out.keep hB) hgc1 hgc2 hc3 hc4)
      rw [hC.out] at HS
      have HB := hid hB
      clear hDk hgc hR hP hH hB hpl
      go_wp2_with (go_at_call 40; refine HS.out.mono ?_; rintro x w2 ⟨u, rfl, R2, B2⟩; have HR2 := hid R2; have HB2 := hid (below_more HB.out B2 (Nat.le_refl _)); clear R2 B2)
      go_ret
      exact ⟨_, rfl, HR2.out.base HB.out.size, HB2.out⟩

set_option maxHeartbeats 4000000 in
theorem enc_some8 (N : Nat) (IH : ∀ (d : Dt) (v : Vt) (sb sk : Value) (p : Nat) (w : World), v.deep ≤ N → okD d → okV d v → DAt w d p → VAt w v sb sk → Calls Tryz.prog 10 #[.pointer (some ⟨p, 0, none⟩), .agg (valL v.num v.root sb sk).toArray] w fun e w' => ∃ u, e = .returned u ∧ Row w' w.heap.size u (encV d v) ∧ Below w.heap.size w w')
    (m bd od dl capd num : Nat) (ds : List Dt) (r : List Nat) (ks : List Vt) (sb : Value) (bv ov capk p : Nat) (w : World) (hr : r.length = 32) (hm0 : 0 < m) (hm : m ≤ 1048576) (hks : ks.length = m) (hdl : ds.length = dl) (hd0 : 0 < dl) (h8 : 8 = 8 → m ≤ dl) (hN : deepK ks ≤ N) (hok : okDs ds) (hov : okK (kdsV 8 ds m) ks) (hb : lenF (encK (kdsV 8 ds m) ks) ≤ 274877906944)
    (hD : DsAt w ds bd od) (hK : KsAt w ks bv ov) (hc1 : dl ≤ capd) (hc2 : capd ≤ maxLen) (hc3 : m ≤ capk) (hc4 : capk ≤ maxLen)
    (d0 : w.cell? ⟨p, 0, none⟩ = some (.int .i64 (8 : Nat))) (d2 : w.cell? ⟨p, 2, none⟩ = some (.slice (some ⟨bd, od, none⟩) dl capd)) :
    Calls Tryz.prog 10 #[.pointer (some ⟨p, 0, none⟩), .agg (valL num r sb (.slice (some ⟨bv, ov, none⟩) m capk)).toArray] w fun x w' => ∃ v, x = .returned v ∧ Row w' w.heap.size v (cont (encK (kdsV 8 ds m) ks)) ∧ Below w.heap.size w w' := by
  have hkl := kdsV_length 8 ds m (fun e => by rw [hdl]; exact h8 e) (fun _ => by rw [hdl]; exact hd0)
  have hkg : ∀ (k : Nat) d, (kdsV 8 ds m)[k]? = some d → (8 = 8 → ds[k]? = some d) ∧ (8 ≠ 8 → ds[0]? = some d) := fun k d h => kdsV_get h
  have hko := kdsV_ok (f := 8) (n := m) hok
  have hby := encK_byte ks hK (kdsV 8 ds m)
  have HSER := hid (ser_step N IH)
  generalize kdsV 8 ds m = kds at *
  obtain ⟨C, hC⟩ : ∃ C, Same (cont (encK kds ks)) C := ⟨_, ⟨rfl⟩⟩
  rw [hC.out]
  have HKG := hid hkg
  have HKL := hid hkl
  have HR := hid hr
  have HD := hid hD
  have HK := hid hK
  have HX := hid (And.intro hko (And.intro hby (And.intro hov hb)))
  have HKS := hid hks
  have HDL := hid hdl
  clear IH hkg hkl hr hD hK hko hby hov hb hks hdl hok
  go_enter Tryz.func10, Tryz.ntmps10
  go_wp2_with ((with_reducible refine at_list' ?_); first
    | (refine wpList_box_c rfl 3 rfl (.tmp 1) rfl (valL num r sb (.slice (some ⟨bv, ov, none⟩) m capk)) rfl ?_; intro w1 H1 B1 S1; have d1 := cell_keep B1 d0))
  have HC1 := hid H1
  have HB1 := hid B1
  have hs1 := H1.lt
  clear H1 B1 S1 d1
  go_loopw [5, 6] (fun kd i wr => ∃ (k : Nat) (ps : List Value), k ≤ m ∧ ps.length = k ∧ i = .int .i64 (k : Nat) ∧ RowP wr (w.heap.size + 1) kd ps ∧ (∀ (j : Nat) d, j < k → kds[j]? = some d → ∃ q, ps[j]? = some (.pointer (some ⟨q, 0, none⟩)) ∧ DAt w d q) ∧ HasC wr w.heap.size 37 (valL num r sb (.slice (some ⟨bv, ov, none⟩) m capk)) ∧ Below w.heap.size w wr) (fun _ i _ => m - (intOf i).toNat)
  case atStart => exact ⟨0, [], by omega, rfl, rfl, World.ownsRow_nil _ _ _ _, (fun j d hj => by omega), HC1.out, HB1.out⟩
  case round =>
    clear HC1 HB1 hs1
    obtain ⟨k, ps, hk, hpl, rfl, hR, hP, hH, hB⟩ := hrel
    have hc0 := hH.cell (valL_34 num r sb _ HR.out)
    have hsz := hH.lt
    by_cases hkm : k < m
    · obtain ⟨d, hd⟩ : ∃ d, kds[k]? = some d := ⟨_, List.getElem?_eq_getElem (by rw [HKL.out]; exact hkm)⟩
      have hg := HKG.out k d hd
      obtain ⟨q, hpc, hDq⟩ := HD.out.get (hg.1 (by first | rfl | trivial))
      have hpc2 := cell_keep hB hpc
      have e0 := cell_keep hB d0
      have e2 := cell_keep hB d2
      have h8l := h8 (by first | rfl | trivial)
      have HRP := hid hR
      have HP := hid hP
      have HH := hid hH
      have HB := hid hB
      have HPL := hid hpl
      have HDQ := hid hDq
      have HD2 := hid hd
      have BA : Below wr.heap.size wr (wr.alloc (.cells #[.pointer (some ⟨q, 0, none⟩)] 45)) := (Below.refl _ wr).alloc (Nat.le_refl _) _
      have HBA := hid BA
      clear hR hP hH hB hpl hDq hd hg hpc BA
      go_wp2_with (at_builtin; refine wpList_append_p rfl (.tmp 50) (.tmp 58) rfl (w.heap.size + 1) u5 ps rfl (HRP.out.below HBA.out) wr.heap.size (.pointer (some ⟨q, 0, none⟩)) rfl (cell_of_one (heap_alloc_new wr _)) rfl (by rw [HPL.out]; omega) (by have := HBA.out.size; omega) ?_; intro v5 w5 R5 G5 M5; have HR5 := hid R5; have HG5 := hid G5; clear R5 G5 M5)
      go_roundw
      case rel =>
        have hl5 : (ps ++ [Value.pointer (some ⟨q, 0, none⟩)]).length = k + 1 := by simp [HPL.out]
        have hlt : ∀ j, u5.ownBlock = some j → w.heap.size + 1 ≤ j := fun j hj => (HRP.out.lt j hj).1
        refine ⟨k + 1, ps ++ [Value.pointer (some ⟨q, 0, none⟩)], by omega, hl5, by go_num, HR5.out, fun j d' hj hd' => ?_, ?_, ?_⟩
        · by_cases hjk : j < k
          · obtain ⟨q', h1, h2⟩ := HP.out j d' hjk hd'
            exact ⟨q', by rw [List.getElem?_append_left (by rw [HPL.out]; exact hjk)]; exact h1, h2⟩
          · obtain rfl : j = k := by omega
            rw [HD2.out] at hd'
            cases hd'
            exact ⟨q, by rw [List.getElem?_append_right (by rw [HPL.out]; exact Nat.le_refl _), HPL.out, Nat.sub_self]; rfl, HDQ.out⟩
        · have h1 := HH.out.keep HBA.out
          exact (HG5.out.block w.heap.size h1.lt (fun e => by have := hlt _ e.symm; omega)).trans h1
        · have h1 := below_more HB.out HBA.out (Nat.le_refl _)
          exact h1.grown HG5.out h1.size (fun j hj => by have := hlt j hj; omega)
      case measure => simp [intOf]; omega
    · have hke : m = k := by omega
      subst hke
      obtain ⟨g, cap, rfl, hgc1, hgc2, hgc⟩ := hR.form (by omega)
      rw [hpl] at hgc1 ⊢
      have hDk : DsAt wr kds g 0 := dsAt_of kds g 0 fun i d hd => by
        have hi : i < m := by have := (List.getElem?_eq_some_iff.1 hd).1; rw [HKL.out] at this; exact this
        obtain ⟨q, h1, h2⟩ := hP i d hi hd
        exact ⟨q, by rw [Nat.zero_add]; exact hgc i _ h1, h2.keep hB⟩
      have HS := hid (HSER.out kds ks m g 0 cap bv ov capk wr HKL.out HKS.out hm0 hm hN HX.out.1 HX.out.2.2.1 HX.out.2.1 HX.out.2.2.2 hDk (HK.out.keep hB) hgc1 hgc2 hc3 hc4)
      rw [hC.out] at HS
      have HB := hid hB
      clear hDk hgc hR hP hH hB hpl
      go_wp2_with (go_at_call 40; refine HS.out.mono ?_; rintro x w2 ⟨u, rfl, R2, B2⟩; have HR2 := hid R2; have HB2 := hid (below_more HB.out B2 (Nat.le_refl _)); clear R2 B2)
      go_ret
      exact ⟨_, rfl, HR2.out.base HB.out.size, HB2.out⟩

set_option maxHeartbeats 1000000 in
theorem enc_step (N : Nat) (IH : ∀ (d : Dt) (v : Vt) (sb sk : Value) (p : Nat) (w : World), v.deep ≤ N → okD d → okV d v → DAt w d p → VAt w v sb sk → Calls Tryz.prog 10 #[.pointer (some ⟨p, 0, none⟩), .agg (valL v.num v.root sb sk).toArray] w fun e w' => ∃ u, e = .returned u ∧ Row w' w.heap.size u (encV d v) ∧ Below w.heap.size w w') :
    ∀ (d : Dt) (v : Vt) (sb sk : Value) (p : Nat) (w : World), v.deep ≤ N + 1 → okD d → okV d v → DAt w d p → VAt w v sb sk → Calls Tryz.prog 10 #[.pointer (some ⟨p, 0, none⟩), .agg (valL v.num v.root sb sk).toArray] w fun e w' => ∃ u, e = .returned u ∧ Row w' w.heap.size u (encV d v) ∧ Below w.heap.size w w'
  | .mk f n ds, .mk num r bs ks, sb, sk, p, w, hN, hok, hov, hD, hV => by
    rw [okV] at hov
    rw [okD] at hok
    rw [DAt] at hD
    rw [VAt] at hV
    rw [Vt.deep] at hN
    obtain ⟨d0, d1, aod, capd, d2, hcd1, hcd2, hDs⟩ := hD
    obtain ⟨⟨hn, hr, h8⟩, hTb, aok, capk, hske, hck1, hck2, hKs⟩ := hV
    obtain ⟨hb1, hk1, hf8, hk0, hlf, hokk⟩ := hov
    obtain ⟨hf, hn2, hsm, hdl, hf4, hokds⟩ := hok
    show Calls Tryz.prog 10 #[.pointer (some ⟨p, 0, none⟩), .agg (valL num r sb sk).toArray] w _
    rw [encV]
    by_cases e1 : f = 1
    · subst e1; rw [if_pos rfl]; exact encL_num num r sb sk p w hn d0
    rw [if_neg e1]
    by_cases e2 : f = 2
    · subst e2; rw [if_pos rfl]; exact encL_truth num r sb sk p w hn d0
    rw [if_neg e2]
    by_cases e3 : f = 3
    · subst e3; rw [if_pos rfl]; exact encL_root num r sb sk p w hr h8 d0
    rw [if_neg e3]
    by_cases e6 : f = 6
    · subst e6; rw [if_pos rfl]; exact encL_bits6 num r sb sk p w bs hr hTb hb1 d0
    rw [if_neg e6]
    by_cases e7 : f = 7
    · subst e7; rw [if_pos rfl]; exact encL_bits7 num r sb sk p w bs hr hTb hb1 d0
    rw [if_neg e7]
    have hff : f = 0 ∨ f = 4 ∨ f = 5 ∨ f = 8 := by omega
    subst hske
    rcases hKs with h0 | ⟨bv, ov, rfl, hK⟩
    · obtain rfl : ks = [] := List.eq_nil_of_length_eq_zero h0
      have hc : cont (encK (kdsV f ds ([] : List Vt).length) []) = [] := by
        have : encK (kdsV f ds ([] : List Vt).length) [] = [] := by generalize kdsV f ds _ = l; cases l <;> rw [encK]
        rw [this]; rfl
      rw [hc]
      exact enc_none f num hff r sb aok capk p w hr d0
    · by_cases hm0 : ks.length = 0
      · obtain rfl : ks = [] := List.eq_nil_of_length_eq_zero hm0
        have hc : cont (encK (kdsV f ds ([] : List Vt).length) []) = [] := by
          have : encK (kdsV f ds ([] : List Vt).length) [] = [] := by generalize kdsV f ds _ = l; cases l <;> rw [encK]
          rw [this]; rfl
        rw [hc]
        exact enc_none f num hff r sb _ capk p w hr d0
      · have hd0 := hk0 (by omega)
        rcases hDs with h0 | ⟨bd, od, rfl, hD⟩
        · omega
        rcases hff with rfl | rfl | rfl | rfl
        · exact enc_some0 N IH ks.length bd od ds.length capd num ds r ks sb bv ov capk p w hr (by omega) hk1 rfl rfl hd0 hf8 (by omega) hokds hokk hlf hD hK hcd1 hcd2 hck1 hck2 d0 d2
        · exact enc_some4 N IH ks.length bd od ds.length capd num ds r ks sb bv ov capk p w hr (by omega) hk1 rfl rfl hd0 hf8 (by omega) hokds hokk hlf hD hK hcd1 hcd2 hck1 hck2 d0 d2
        · exact enc_some5 N IH ks.length bd od ds.length capd num ds r ks sb bv ov capk p w hr (by omega) hk1 rfl rfl hd0 hf8 (by omega) hokds hokk hlf hD hK hcd1 hcd2 hck1 hck2 d0 d2
        · exact enc_some8 N IH ks.length bd od ds.length capd num ds r ks sb bv ov capk p w hr (by omega) hk1 rfl rfl hd0 hf8 (by omega) hokds hokk hlf hD hK hcd1 hcd2 hck1 hck2 d0 d2
theorem enc_deep (N : Nat) : ∀ (d : Dt) (v : Vt) (sb sk : Value) (p : Nat) (w : World), v.deep ≤ N → okD d → okV d v → DAt w d p → VAt w v sb sk → Calls Tryz.prog 10 #[.pointer (some ⟨p, 0, none⟩), .agg (valL v.num v.root sb sk).toArray] w fun e w' => ∃ u, e = .returned u ∧ Row w' w.heap.size u (encV d v) ∧ Below w.heap.size w w' := by
  induction N with
  | zero => intro d v sb sk p w h; cases v; rw [Vt.deep] at h; omega
  | succ N ih => exact enc_step N ih
/-- The document's Encode of any value, at any kind that it fits. -/
theorem enc_any (d : Dt) (v : Vt) (u : Value) (p : Nat) (w : World) (hd : okD d) (hv : okV d v) (hD : DAt w d p) (hV : IsV w u v) :
    Calls Tryz.prog 10 #[.pointer (some ⟨p, 0, none⟩), u] w fun e w' => ∃ u, e = .returned u ∧ Row w' w.heap.size u (encV d v) ∧ Below w.heap.size w w' := by
  obtain ⟨sb, sk, rfl, h⟩ := hV
  exact enc_deep v.deep d v sb sk p w (Nat.le_refl _) hd hv hD h
end Go.Proofs.YtpaamhmighgjeaaGreat

/- Flows whose operations may bear guards that are known to hold, and hang together in chains of any length. -/
namespace Go.Proofs.YtpaamhmighgjeaaGreat
open Go Go.RowKit
section
variable {P : Program}
/-- Those below k that one of m waits for, itself or by others, and m. -/
def markG (ops : Array Oper) : Nat → List Nat → List Nat
  | 0, m => m
  | k + 1, m => if m.any (fun j => Region.waitsFor .any ops j k) then markG ops k (k :: m) else markG ops k m
def reachM (ops : Array Oper) (t i : Nat) : Bool := (markG ops t [t]).contains i
theorem markG_done {ops : Array Oper} {done : Array Bool} (hcl : ∀ j oj, ops[j]? = some oj → done.getD j false = true → ∀ e ∈ oj.after, Region.binds .any e = true → done.getD e.on false = true) {t : Nat} {o : Oper} (ho : ops[t]? = some o) (hall : ∀ e ∈ o.after, Region.binds .any e = true → done.getD e.on false = true) :
    ∀ k m, (∀ i ∈ m, i = t ∨ done.getD i false = true) → ∀ i ∈ markG ops k m, i = t ∨ done.getD i false = true := by
  intro k
  induction k with
  | zero => intro m hm i hi; exact hm i hi
  | succ k ih =>
    intro m hm i hi
    rw [markG] at hi
    split at hi
    · rename_i hany
      refine ih (k :: m) (fun q hq => ?_) i hi
      rcases List.mem_cons.1 hq with rfl | hq
      · obtain ⟨j, hj, hw⟩ := List.any_eq_true.1 hany
        rcases hm j hj with rfl | hd
        · exact .inr (waits_done ho hall hw)
        · cases hz : ops[j]? with
          | none => unfold Region.waitsFor at hw; rw [hz] at hw; cases hw
          | some oj => exact .inr (waits_done hz (hcl j oj hz hd) hw)
      · exact hm q hq
    · exact ih m hm i hi
theorem reachM_done {ops : Array Oper} {done : Array Bool} (hcl : ∀ j oj, ops[j]? = some oj → done.getD j false = true → ∀ e ∈ oj.after, Region.binds .any e = true → done.getD e.on false = true) {t i : Nat} {o : Oper} (ho : ops[t]? = some o) (hall : ∀ e ∈ o.after, Region.binds .any e = true → done.getD e.on false = true) (h : reachM ops t i = true) (hne : i ≠ t) : done.getD i false = true :=
  (markG_done hcl ho hall t [t] (fun q hq => .inl (List.mem_singleton.1 hq)) i (by unfold reachM at h; simpa using h)).resolve_left hne
/-- What a flow asks of a region's text: its head's guards are known, it waits upwards alone, writes each slot once; its tail waits for all of the head, but for one operation that only reads slots and may come late (late: its place; n: there is none). -/
def flowMB (ops : Array Oper) (n late sz : Nat) : Bool :=
  decide (n < ops.size) && Region.noSelect ops && ((List.range ops.size).all fun t => decide (t < n) || (List.range n).all fun i => decide (i = late) || reachM ops t i) &&
  ((List.range n).all fun i => match ops[i]? with
    | some o => (match o.guard with | none => true | some (g, _) => decide (g < i) && Region.waitsFor .any ops i g && (dstOf ops g).isSome) && (o.after.all fun e => !Region.binds .any e || decide (e.on < i)) && (match o.dst with
      | none => true
      | some d => decide (d < sz) && (List.range n).all fun j => decide (j = i) || decide (dstOf ops j ≠ some d))
    | none => false) && (decide (n ≤ late) || (Region.free .any ops (doneBut ops n late) late && (Region.ready .any ops (doneBut ops n late)).contains late)) &&
  Region.seqB .any ops (ops.size - n) n ((List.range ops.size).map fun i => decide (i < n)).toArray

theorem flowM_any {ops : Array Oper} {n late : Nat} {I : Nat → Value → World → Prop} {w0 : World} {a0 : Act} {Q : Exit → Act → World → Prop} (hB : flowMB ops n late a0.tmps.size = true)
    (hQ : ∀ c d v a w, Q (.panic c) (a.put d v) w → Q (.panic c) a w)
    (hguard : ∀ i o g b, i < n → ops[i]? = some o → o.guard = some (g, b) → ∀ v w, I g v w → v = .bool b)
    (hI : ∀ i v w w', i < n → I i v w → Below w.heap.size w w' → I i v w')
    (hop : ∀ i o, i < n → ops[i]? = some o → ∀ a w, Cls w0 w → (∀ s, (∀ j, j < n → dstOf ops j ≠ some s) → a.tmps.getD s undef = a0.tmps.getD s undef) →
      (∀ j d, dstOf ops j = some d → (o.after.any fun e => Region.binds .any e && e.on == j) = true → I j (a.tmps.getD d undef) w) →
      o.wp P a w (fun a' w' => ∃ v, a' = a.put o.dst v ∧ I i v w' ∧ Below w.heap.size w w') Q)
    (hlate : ∀ o, late < n → ops[late]? = some o → ∀ (a : Act) w, Cls w0 w → (∀ s, (∀ j, j < n → dstOf ops j ≠ some s) → a.tmps.getD s undef = a0.tmps.getD s undef) →
      (∀ j d, dstOf ops j = some d → (o.after.any fun e => Region.binds .any e && e.on == j) = true → I j (a.tmps.getD d undef) w) → ∃ v, (∀ w, (execOp a.eval o).run P w = .ok (.value v) w) ∧ I late v w)
    (htail : ∀ v w, Cls w0 w → (∀ i d, i < n → dstOf ops i = some d → I i (v i) w) → wpAny P .any ops Q (ops.size - n) ((List.range ops.size).map fun i => decide (i < n)).toArray (putAll v (ops.toList.take n) 0 a0) w) :
    ∀ f (done : Array Bool) (a : Act) (w : World), (List.range n).countP (fun i => !done.getD i true) = f → FlowInv ops n I w0 a0 done a w → wpAny P .any ops Q (f + (ops.size - n)) done a w := by
  simp only [flowMB, Bool.and_eq_true, decide_eq_true_eq, List.all_eq_true, List.mem_range, Bool.or_eq_true] at hB
  obtain ⟨⟨⟨⟨⟨hn, hsel⟩, hdir⟩, hall⟩, hlt8⟩, hseq⟩ := hB
  have hat : ∀ i, i < n → ∃ o, ops[i]? = some o := fun i hi => ⟨_, Array.getElem?_eq_getElem (by omega)⟩
  have hgd : ∀ i o, i < n → ops[i]? = some o → (∀ g b, o.guard = some (g, b) → Region.waitsFor .any ops i g = true ∧ ∃ d, dstOf ops g = some d) ∧ (∀ e ∈ o.after, Region.binds .any e = true → e.on < i) ∧ ∀ d, o.dst = some d → d < a0.tmps.size ∧ ∀ j, j < n → j ≠ i → dstOf ops j ≠ some d := by
    intro i o hi ho
    have := hall i hi
    rw [ho] at this
    simp only [Bool.and_eq_true, Array.all_eq_true_iff_forall_mem, Bool.or_eq_true, Bool.not_eq_true', decide_eq_true_eq] at this
    obtain ⟨⟨h1, h2⟩, h3⟩ := this
    refine ⟨fun g b hg => by
      rw [hg] at h1
      simp only [Bool.and_eq_true] at h1
      exact ⟨h1.1.2, Option.isSome_iff_exists.1 h1.2⟩, fun e he hb => (h2 e he).resolve_left (by rw [hb]; decide), fun d hd => ?_⟩
    rw [hd] at h3
    simp only [Bool.and_eq_true, decide_eq_true_eq, List.all_eq_true, List.mem_range, Bool.or_eq_true] at h3
    exact ⟨h3.1, fun j hj hne => (h3.2 j hj).resolve_left hne⟩
  intro f
  induction f with
  | zero =>
    intro done a w hcount inv
    have hdone : ∀ i, i < n → done.getD i true = true := fun i hi => by
      have := List.countP_eq_zero.1 hcount i (List.mem_range.2 hi)
      simpa using this
    have hdn : done = ((List.range ops.size).map fun i => decide (i < n)).toArray := by
      apply Array.ext_getElem?
      intro i
      by_cases hi : i < ops.size
      · have hi' : i < done.size := by rw [inv.head.size]; exact hi
        have h1 : (((List.range ops.size).map fun i => decide (i < n)).toArray)[i]? = some (decide (i < n)) := by simp [hi]
        rw [h1, Array.getElem?_eq_getElem hi']
        by_cases hin : i < n
        · have := hdone i hin
          simp [hi'] at this
          simp [hin, this]
        · have := inv.head.tail i (by omega) hi
          simp [hi'] at this
          simp [hin, this]
      · rw [Array.getElem?_eq_none (by rw [inv.head.size]; omega), Array.getElem?_eq_none (by simp; omega)]
    have hk : ∀ i, i < n → done.getD i false = true := fun i hi => by
      have h1 := hdone i hi
      have hi' : i < done.size := by rw [inv.head.size]; omega
      simp [hi'] at h1 ⊢
      exact h1
    have ha : a = putAll (fun i => match dstOf ops i with | some d => a.tmps.getD d undef | none => undef) (ops.toList.take n) 0 a0 := by
      have hd1 := putAll_defers (fun i => match dstOf ops i with | some d => a.tmps.getD d undef | none => undef) (ops.toList.take n) 0 a0
      have hs1 := putAll_size (fun i => match dstOf ops i with | some d => a.tmps.getD d undef | none => undef) (ops.toList.take n) 0 a0
      have ht1 : ∀ s, a.tmps[s]? = (putAll (fun i => match dstOf ops i with | some d => a.tmps.getD d undef | none => undef) (ops.toList.take n) 0 a0).tmps[s]? := fun s => by
        rw [putAll_get _ s (a.tmps.getD s undef) _ 0 a0 (fun j o hj ho => by
          rw [List.getElem?_take] at hj
          split at hj
          · have : dstOf ops j = some s := by unfold dstOf; rw [Array.getElem?_toList] at hj; rw [hj]; exact ho
            rw [Nat.zero_add, this]
          · cases hj)]
        split
        · rename_i h
          rw [Array.getElem?_eq_getElem (by rw [inv.size]; exact h.2)]
          simp [inv.size, h.2]
        · rename_i h
          by_cases hsz : s < a0.tmps.size
          · refine inv.keep s fun i hi e => h ⟨?_, hsz⟩
            obtain ⟨o, ho⟩ := hat i hi
            refine ⟨o, ?_, by unfold dstOf at e; rw [ho] at e; exact e⟩
            rw [List.mem_take_iff_getElem]
            have := Array.getElem?_eq_some_iff.1 ho
            exact ⟨i, by simp; omega, by simpa using this.2⟩
          · rw [Array.getElem?_eq_none (by rw [inv.size]; omega), Array.getElem?_eq_none (by omega)]
      generalize putAll (fun i => match dstOf ops i with | some d => a.tmps.getD d undef | none => undef) (ops.toList.take n) 0 a0 = b at *
      obtain ⟨ta, da⟩ := a
      obtain ⟨tb, db⟩ := b
      have e1 : ta = tb := Array.ext_getElem? ht1
      have e2 : da = db := inv.defers.trans hd1.symm
      rw [e1, e2]
    rw [Nat.zero_add, ha, hdn]
    refine htail _ w inv.cls fun i d hi hd => ?_
    have := inv.known i hi (hk i hi) d hd
    simpa [hd] using this
  | succ f ih =>
    intro done a w hcount inv
    have hex : ∃ i, i < n ∧ done.getD i true = false := by
      have : 0 < (List.range n).countP (fun i => !done.getD i true) := by omega
      obtain ⟨i, hi, hd⟩ := List.countP_pos_iff.1 this
      exact ⟨i, List.mem_range.1 hi, by simpa using hd⟩
    have hready : ∃ i, i < n ∧ i ∈ Region.ready .any ops done := by
      obtain ⟨i0, hi0, hd0⟩ := hex
      have key : ∀ m, m < n → done.getD m true = false → ∃ i, i < n ∧ i ∈ Region.ready .any ops done := by
        intro m
        induction m using Nat.strongRecOn with
        | _ m ihm =>
          intro hm hd
          obtain ⟨o, ho⟩ := hat m hm
          by_cases hw : ∀ e ∈ o.after, Region.binds .any e = true → done.getD e.on false = true
          · exact ⟨m, hm, mem_ready.2 ⟨hd, o, ho, hw⟩⟩
          · simp only [Classical.not_forall] at hw
            obtain ⟨e, he, hb, hnd⟩ := hw
            have hlt := (hgd m o hm ho).2.1 e he hb
            refine ihm e.on hlt (by omega) ?_
            have hi' : e.on < done.size := by rw [inv.head.size]; omega
            simp [hi'] at hnd ⊢
            exact hnd
      exact key i0 hi0 hd0
    obtain ⟨r, hr, hrr⟩ := hready
    rw [Nat.succ_add]
    have hstep : ∀ i o v w', i < n → i ∈ Region.ready .any ops done → ops[i]? = some o → I i v w' → Below w.heap.size w w' →
        (List.range n).countP (fun j => !(done.setIfInBounds i true).getD j true) = f ∧ FlowInv ops n I w0 a0 (done.setIfInBounds i true) (a.put o.dst v) w' := by
      intro i o v w' hin hi ho hv hB
      obtain ⟨hun, o', ho', hwait⟩ := mem_ready.1 hi
      obtain ⟨g1, g2, g3⟩ := hgd i o hin ho
      refine ⟨?_, inv.head.set hi hin, inv.cls.more hB, by rw [put_defers]; exact inv.defers, by rw [put_size]; exact inv.size, fun s hs' => ?_, fun j hj hdj d hd => ?_⟩
      · have hii : i < done.size := by rw [inv.head.size]; omega
        have hcp := count_step done i hii hun n hin
        omega
      · rw [put_get, if_neg (fun h => hs' i hin (by unfold dstOf; rw [ho]; exact h.1))]
        exact inv.keep s hs'
      · by_cases e : j = i
        · subst e
          have hd' : o.dst = some d := by unfold dstOf at hd; rw [ho] at hd; exact hd
          have : (a.put o.dst v).tmps.getD d undef = v := by
            rw [Array.getD_eq_getD_getElem?, put_get, if_pos ⟨hd', by rw [inv.size]; exact (g3 d hd').1⟩]; rfl
          rw [this]; exact hv
        · have hdj' : done.getD j false = true := by rwa [getD_set_ne false (Ne.symm e)] at hdj
          have : (a.put o.dst v).tmps.getD d undef = a.tmps.getD d undef := by
            rw [Array.getD_eq_getD_getElem?, put_get, if_neg (fun h => (g3 d h.1).2 j hj e hd), ← Array.getD_eq_getD_getElem?]
          rw [this]
          exact hI j _ w w' hj (inv.known j hj hdj' d hd) hB
    have hdeps : ∀ i o, i < n → i ∈ Region.ready .any ops done → ops[i]? = some o → ∀ j d, dstOf ops j = some d → (o.after.any fun e => Region.binds .any e && e.on == j) = true → I j (a.tmps.getD d undef) w := by
      intro i o hin hi ho j d hd hj
      obtain ⟨hun, o', ho', hwait⟩ := mem_ready.1 hi
      obtain rfl : o' = o := Option.some.inj (ho'.symm.trans ho)
      obtain ⟨g1, g2, g3⟩ := hgd i o' hin ho
      obtain ⟨k, hk, hk2⟩ := Array.any_eq_true.1 hj
      simp only [Bool.and_eq_true, beq_iff_eq] at hk2
      have hmem := Array.getElem_mem hk
      have hl := hwait _ hmem hk2.1
      have hlt := g2 _ hmem hk2.1
      rw [hk2.2] at hl hlt
      exact inv.known j (by omega) hl d hd
    have hwant : ∀ i o, i < n → i ∈ Region.ready .any ops done → ops[i]? = some o → Region.wanted o (yielded ops a.tmps) = true := by
      intro i o hin hi ho
      unfold Region.wanted
      cases hg : o.guard with
      | none => rfl
      | some gb =>
        obtain ⟨g, b⟩ := gb
        obtain ⟨q2, d, hd⟩ := (hgd i o hin ho).1 g b hg
        unfold Region.waitsFor at q2
        rw [ho] at q2
        have hv := hguard i o g b hin ho hg _ _ (hdeps i o hin hi ho g d hd q2)
        have hv2 : a.tmps[d]? = some (.bool b) := by
          rw [Array.getD_eq_getD_getElem?] at hv
          cases hq : a.tmps[d]? with
          | none => rw [hq] at hv; cases hv
          | some u => rw [hq] at hv; exact congrArg some hv
        have hy : yielded ops a.tmps g = some b := by
          unfold dstOf at hd
          unfold yielded
          rw [hd]
          simp [hv2]
        simp [hy]
    have hkeep : ∀ s, (∀ j, j < n → dstOf ops j ≠ some s) → a.tmps.getD s undef = a0.tmps.getD s undef := fun s hs' => by rw [Array.getD_eq_getD_getElem?, inv.keep s hs', ← Array.getD_eq_getD_getElem?]
    by_cases hbut : ∀ i, i < n → i ≠ late → done.getD i true = true
    · have hrl : r = late := Classical.byContradiction fun h => by
        have h1 := hbut r hr h
        rw [(mem_ready.1 hrr).1] at h1; cases h1
      subst hrl
      have hdn : done = doneBut ops n r := by
        apply Array.ext_getElem?
        intro i
        by_cases hi : i < ops.size
        · have hi' : i < done.size := by rw [inv.head.size]; exact hi
          have h1 : (doneBut ops n r)[i]? = some (decide (i < n) && decide (i ≠ r)) := by simp [doneBut, hi]
          rw [h1, Array.getElem?_eq_getElem hi']
          by_cases hin : i < n
          · by_cases hir : i = r
            · subst hir
              have := (mem_ready.1 hrr).1
              simp [hi'] at this
              simp [this]
            · have := hbut i hin hir
              simp [hi'] at this
              simp [hin, hir, this]
          · have := inv.head.tail i (by omega) hi
            simp [hi'] at this
            simp [hin, this]
        · rw [Array.getElem?_eq_none (by rw [inv.head.size]; omega), Array.getElem?_eq_none (by simp [doneBut]; omega)]
      obtain ⟨o, ho⟩ := hat r hr
      obtain ⟨v, hrun, hv⟩ := hlate o hr ho a w inv.cls hkeep (hdeps r o hr hrr ho)
      obtain ⟨q1, q2⟩ := hstep r o v w hr hrr ho hv (Below.refl _ w)
      have hw := hwant r o hr hrr ho
      have hfr := hlt8.resolve_left (by omega)
      rw [← hdn] at hfr
      exact wpAny_take ho hsel hfr.1 hfr.2 (fun c a w h => hQ c _ _ a w h) (.inl ⟨hw, hrun⟩) (ih _ _ _ q1 q2)
    · simp only [Classical.not_forall] at hbut
      obtain ⟨u, hu, hul, hud⟩ := hbut
      have hud' : done.getD u false = false := by
        have hi' : u < done.size := by rw [inv.head.size]; omega
        simp [hi'] at hud ⊢
        exact hud
      refine ⟨fun e => (by rw [e] at hrr; cases hrr), fun i hi => ?_⟩
      obtain ⟨hun, o, ho, hwait⟩ := mem_ready.1 hi
      have hin : i < n := Nat.lt_of_not_le fun h => by
        have his : i < ops.size := (Array.getElem?_eq_some_iff.1 ho).1
        have hw := ((hdir i his).resolve_left (by omega) u hu).resolve_left hul
        have := reachM_done inv.head.closed ho hwait hw (by omega)
        rw [hud'] at this
        cases this
      unfold wpOp
      rw [ho]
      have hw := hwant i o hin hi ho
      simp only [hw, if_true]
      refine .inl (Oper.wp_mono ?_ (hop i o hin ho a w inv.cls hkeep (hdeps i o hin hi ho)))
      rintro a' w' ⟨v, rfl, hv, hB⟩
      obtain ⟨q1, q2⟩ := hstep i o v w' hin hi ho hv hB
      exact ih _ _ _ q1 q2

/-- The region, told as a flow. -/
theorem wp_region_flowM {id : Nat} {Q : Exit → Act → World → Prop} {a : Act} {w : World} {l : List Oper} (n late : Nat) (I : Nat → Value → World → Prop) (hm : P.follows .mixedOrders = true) (hB : flowMB l.toArray n late a.tmps.size = true)
    (hQ : ∀ c d v a w, Q (.panic c) (a.put d v) w → Q (.panic c) a w)
    (hguard : ∀ i o g b, i < n → l.toArray[i]? = some o → o.guard = some (g, b) → ∀ v w, I g v w → v = .bool b)
    (hI : ∀ i v w w', i < n → I i v w → Below w.heap.size w w' → I i v w')
    (hop : ∀ i o, i < n → l.toArray[i]? = some o → ∀ a' w', Cls w w' → (∀ s, (∀ j, j < n → dstOf l.toArray j ≠ some s) → a'.tmps.getD s undef = a.tmps.getD s undef) →
      (∀ j d, dstOf l.toArray j = some d → (o.after.any fun e => Region.binds .any e && e.on == j) = true → I j (a'.tmps.getD d undef) w') →
      o.wp P a' w' (fun a'' w'' => ∃ v, a'' = a'.put o.dst v ∧ I i v w'' ∧ Below w'.heap.size w' w'') Q)
    (hlate : ∀ o, late < n → l.toArray[late]? = some o → ∀ (a' : Act) w', Cls w w' → (∀ s, (∀ j, j < n → dstOf l.toArray j ≠ some s) → a'.tmps.getD s undef = a.tmps.getD s undef) →
      (∀ j d, dstOf l.toArray j = some d → (o.after.any fun e => Region.binds .any e && e.on == j) = true → I j (a'.tmps.getD d undef) w') → ∃ v, (∀ w, (execOp a'.eval o).run P w = .ok (.value v) w) ∧ I late v w')
    (htail : ∀ v w', Cls w w' → (∀ i d, i < n → dstOf l.toArray i = some d → I i (v i) w') → wpList P l.toArray Q (l.drop n) (putAll v (l.take n) 0 a) w') : (Code.region id l.toArray true).wp P Q a w := by
  have hB' := hB
  simp only [flowMB, Bool.and_eq_true, decide_eq_true_eq] at hB'
  have hn : n < l.length := by simpa using hB'.1.1.1.1.1
  have h3 : (l.drop n).length = l.toArray.size - n := by simp
  refine wp_region_any hm ?_
  have hc0 : (List.range n).countP (fun i => !(Array.replicate l.toArray.size false).getD i true) = n := by
    have : (List.range n).countP (fun i => !(Array.replicate l.toArray.size false).getD i true) = (List.range n).length := List.countP_eq_length.2 fun i hi => by
      have := List.mem_range.1 hi
      simp [show i < l.length by omega]
    rw [this, List.length_range]
  have K := flowM_any (P := P) (Q := Q) (w0 := w) (a0 := a) hB hQ hguard hI hop hlate (fun v w' hc hv => by
    have := wpAny_of_seq (P := P) (md := .any) (Q' := Q) (l.drop n) n _ _ w' (fun j => by simp [List.getElem?_drop]) (by rw [h3]; exact hB'.2) (htail v w' hc hv)
    rw [h3] at this
    simpa using this) n (Array.replicate l.toArray.size false) a { w with drawn := w.drawn + 1 } hc0
    ⟨⟨by simp, fun j oj _ hx => (by rw [getD_replicate_false] at hx; cases hx), fun t _ ht => getD_in (by simpa using ht) (getD_replicate_false _ _)⟩, ⟨(Below.refl _ w).drew⟩, rfl, rfl, fun _ _ => rfl, fun i _ hx => (by rw [getD_replicate_false] at hx; cases hx)⟩
  rwa [show n + (l.toArray.size - n) = l.toArray.size by simp; omega] at K
end
end Go.Proofs.YtpaamhmighgjeaaGreat

/- Numbers and roots taken, over the state. -/
namespace Go.Proofs.YtpaamhmighgjeaaGreat
open Go.RowKit Go.Shelf
set_option linter.unusedVariables false
set_option linter.unusedSimpArgs false
set_option maxRecDepth 100000

theorem fixS_ok {bs : List Nat} {size n : Nat} {s : Rs} (h : s.1 ≤ size ∧ (s.2 = false → size ≤ bs.length)) : (fixS size n s).1 ≤ size ∧ ((fixS size n s).2 = false → size ≤ bs.length) := by
  obtain ⟨h1, h2⟩ := h
  refine ⟨?_, fun h => h2 ?_⟩
  · show fixT size s.1 n s.2 ≤ size
    unfold fixT fixW
    by_cases hw : (s.2 || decide (size - s.1 < n)) = true
    · rw [if_pos hw]; exact h1
    · rw [if_neg hw]
      simp only [Bool.or_eq_true, decide_eq_true_eq, not_or] at hw
      omega
  · have h' : (s.2 || decide (size - s.1 < n)) = false := h
    simp only [Bool.or_eq_false_iff] at h'
    exact h'.1
theorem rnumS {g : Nat} {S : Nat → Prop} {bs : List Nat} {size : Nat} {ps : List Nat} (s : Rs) (w : World) (h : Rd w g S bs size s.1 ps s.2) (hs : size ≤ 4611686018427387904) (hl : bs.length ≤ 140737488355328) :
    Calls Tryz.prog 81 #[.pointer (some ⟨g, 0, none⟩)] w fun e w' => e = .returned (.int .u64 (numAt bs size s : Nat)) ∧ Rd w' g S bs size (fixS size 8 s).1 ps (fixS size 8 s).2 ∧ w.grownBy w' (some g) := rnum_any w h hs hl
theorem rrootS {g : Nat} {S : Nat → Prop} {bs : List Nat} {size : Nat} {ps : List Nat} (s : Rs) (w : World) (h : Rd w g S bs size s.1 ps s.2) (hs : size ≤ 4611686018427387904) (hl : bs.length ≤ 140737488355328) :
    Calls Tryz.prog 34 #[.pointer (some ⟨g, 0, none⟩)] w fun e w' => e = .returned (.agg (nums .u8 (rootAt bs size s))) ∧ Rd w' g S bs size (fixS size 32 s).1 ps (fixS size 32 s).2 ∧ w.grownBy w' (some g) := rroot_any w h hs hl
end Go.Proofs.YtpaamhmighgjeaaGreat

/- A range over an iterator that yields memory: each round is told a word about what is yielded and the world in which it is. -/
namespace Go.Proofs.YtpaamhmighgjeaaGreat
open Go.RowKit
set_option linter.unusedVariables false

section
variable {F : Fence} {n : Nat} {P : Program}
/-- The word of an iterator that lies in world w: at the yield of whatever loop, with whatever it is that the caller keeps, M is said of each thing yielded (B: where the heap ended when the iterator began); what a round keeps (Kp) is asked by the thing that it was given. -/
def SeqM {α : Type} (F : Fence) (n : Nat) (P : Program) (f : Nat) (lb : Array Value) (encs : α → Array Value) (M : Nat → α → World → Prop) (Kp : α → World → World → Prop) (S Sp : List α → Prop) (N : Nat) (w : World) : Prop :=
  ∀ (l : Nat) (J Jx : List α → World → Prop) (W : World), Below w.heap.size w W → AbidesFrom W.heap.size J → AbidesFrom W.heap.size Jx →
    (∀ pre x V, J pre V → M W.heap.size x V → pre.length < N → YieldAt F (n - 1) P l (encs x) V fun e V' =>
      (e = .returned (.bool true) ∧ J (pre ++ [x]) V' ∧ Kp x V V') ∨ (e = .returned (.bool false) ∧ Jx (pre ++ [x]) V')) →
    J [] W →
    CallsIn F n P f (#[.func (.yield l) #[] #[]] ++ lb) W fun e W' => (∃ v, e = .returned v) ∧ ((∃ xs, S xs ∧ J xs W') ∨ (∃ pre, Sp pre ∧ Jx pre W'))
/-- How the body of a round may be left. -/
def leftM {α : Type} (B : Nat) (K : World → World → Prop) (I : List α → World → Prop) (Ix : Code → List α → World → Prop) (xs : List α) (W : World) : Exit → Act → World → Prop
  | .normal, _, V => KeepsFrom B W V ∧ K W V ∧ I xs V
  | .ret, _, V => KeepsFrom B W V ∧ Ix .ret xs V
  | .exit id, _, V => KeepsFrom B W V ∧ Ix (.exit id) xs V
  | .goto t, _, V => KeepsFrom B W V ∧ Ix (.goto t) xs V
  | _, _, _ => False
/-- The loop's two blocks: where the rounds' deferred calls go, and its record. -/
structure TwoB (h : Nat) (r : Loop) (W : World) : Prop where
  defs : W.heap[h]? = some (.deferred (some []))
  loop : W.heap[h + 1]? = some (.loop r)
theorem TwoB.lt {h : Nat} {r : Loop} {W : World} (b : TwoB h r W) : h + 1 < W.heap.size := (Array.getElem?_eq_some_iff.1 b.loop).1
theorem TwoB.keep {h : Nat} {r : Loop} {W V : World} (b : TwoB h r W) (k : KeepsFrom h W V) : TwoB h r V := ⟨k.same _ _ (Nat.le_refl _) b.defs rfl, k.same _ _ (by omega) b.loop rfl⟩
theorem TwoB.put {h : Nat} {r : Loop} {W : World} (b : TwoB h r W) (r' : Loop) : TwoB h r' (W.putObj (h + 1) (.loop r')) := ⟨(World.putObj_heap_other (by omega)).trans b.defs, World.putObj_heap_same b.lt⟩
theorem TwoB.abides {h : Nat} {r : Loop} {A V : World} {row : Option Nat} (b : TwoB h r A) (hg : A.grownBy V row) (hr : ∀ x, row = some x → ∃ o : Obj, A.heap[x]? = some o ∧ o.isWalk = true) : TwoB h r V :=
  ⟨(grownBy_keeps hg hr b.defs rfl).trans b.defs, (grownBy_keeps hg hr b.loop rfl).trans b.loop⟩
theorem wpIn_rangeM {α : Type} {g : Operand} {ps : Array Tmp} {assign body : Code} {Q : Exit → Act → World → Prop} {a : Act} {w w0 : World}
    (hro : F.round = none) (h1 : 1 ≤ n) {gf : Nat} {lb : Array Value} (hg : a.eval g = .func (.func gf) #[] lb) (hFg : F.fn gf) (eg : ∀ args w, (callFunc gf args).run P w = .ok (.enter gf args) w)
    {encs : α → Array Value} {M : Nat → α → World → Prop} {Kp : α → World → World → Prop} {S Sp : List α → Prop} {N : Nat} (hseq : SeqM F (n - 1) P gf lb encs M Kp S Sp N w0) (hb0 : Below w0.heap.size w0 w)
    (hKt : ∀ {x A B C}, Kp x A B → Kp x B C → Kp x A C) (hKb : ∀ x (W : World) (l : Nat) (o o' : Obj), W.heap[l]? = some o → o.isCells = false → Kp x W (W.putObj l o')) (hps : ∀ x, (encs x).size = ps.size)
    (hM : ∀ B x (W : World) (l : Nat) (o o' : Obj), M B x W → W.heap[l]? = some o → o.isCells = false → M B x (W.putObj l o'))
    (I : List α → World → Prop) (Ix : Code → List α → World → Prop) (hI : OwnFrom w.heap.size I) (hIx : ∀ c, OwnFrom w.heap.size (Ix c)) (h0 : I [] w) (a₁ : α → Act)
    (hassign : ∀ (l : Nat) (x : α) (W : World) (K : Act → World → Prop), K (a₁ x) W → assign.wpIn (F.inRound l) (n - 1 - 1) P (Exit.then K (fun _ _ _ => False)) { tmps := (ps.zip (encs x)).foldl (fun t (p, v) => t.setIfInBounds p v) a.tmps, defers := [] } W)
    (hbody : ∀ (l : Nat) (pre : List α) (x : α) (W : World), w.heap.size ≤ l → I pre W → M (w.heap.size + 2) x W → pre.length < N → body.wpIn (F.inRound l) (n - 1 - 1) P (leftM w.heap.size (Kp x) I Ix (pre ++ [x]) W) (a₁ x) W)
    (hdone : ∀ (xs : List α) (W : World), S xs → I xs W → W.heap[w.heap.size]? = some (.deferred (some [])) → Q .normal { a with defers := { target := .collected w.heap.size, args := #[] } :: a.defers } W)
    (hstop : ∀ (c : Code) (pre : List α) (W : World), Sp pre → Ix c pre W → W.heap[w.heap.size]? = some (.deferred (some [])) → c.wpIn F n P Q { a with defers := { target := .collected w.heap.size, args := #[] } :: a.defers } W) :
    (Code.rangeFunc g ps assign body).wpIn F n P Q a w := by
  refine wpIn_rangeFunc fun fn hfn => ?_
  rw [hro]
  obtain ⟨rc, hrc⟩ : ∃ rc : LoopState → Option Code → Loop, rc = fun st pe => { state := st, pending := pe, fn, tmps := a.tmps, params := ps, assign, body, defers := w.heap.size } := ⟨_, rfl⟩
  have hent := run_enterLoop_outer (P := P) (w := w) fn a.tmps ps assign body
  have hT1 : TwoB w.heap.size (rc .ready none) ((w.alloc (.deferred (some []))).alloc (.loop (rc .ready none))) := by
    constructor
    · exact (Below.heap_alloc _ _ _ (by simp)).trans (World.alloc_heap_new w _)
    · have h := World.alloc_heap_new (w.alloc (.deferred (some []))) (.loop (rc .ready none))
      rwa [World.size_alloc] at h
  have hs1 : ((w.alloc (.deferred (some []))).alloc (.loop (rc .ready none))).heap.size = w.heap.size + 2 := by simp
  have hB1 : Below w0.heap.size w0 ((w.alloc (.deferred (some []))).alloc (.loop (rc .ready none))) := hb0.trans ((((Below.refl _ w).alloc (Nat.le_refl _) _).alloc (by simp) _).mono hb0.size)
  have hI1 : I [] ((w.alloc (.deferred (some []))).alloc (.loop (rc .ready none))) := hI.alloc _ (hI.alloc _ h0)
  rw [show ({ state := .ready, pending := none, fn, tmps := a.tmps, params := ps, assign, body, defers := w.heap.size } : Loop) = rc .ready none by rw [hrc]] at hent
  generalize (w.alloc (.deferred (some []))).alloc (.loop (rc .ready none)) = W1 at *
  refine ⟨_, _, W1, { target := .fn (.func gf) lb, args := #[.func (.yield (w.heap.size + 1)) #[] #[]] }, W1, gf, #[.func (.yield (w.heap.size + 1)) #[] #[]] ++ lb, W1, hent, ?_, ?_, ?_, fun _ => h1, ?_⟩
  · simp only [resolve, hg]
    simp [go_sem]
  · intro f' hf'
    simp [Target.leads] at hf'
    subst hf'
    exact hFg
  · simp [invoke, go_sem, eg]
  have hrow : ∀ {A : World} {row : Option Nat}, (∀ r, row = some r → W1.heap.size ≤ r ∧ ∃ o : Obj, A.heap[r]? = some o ∧ o.isWalk = true) → ∀ r, row = some r → w.heap.size ≤ r ∧ ∃ o : Obj, A.heap[r]? = some o ∧ o.isCells = false :=
    fun h r e => by
      obtain ⟨h1, o, ho, hw⟩ := h r e
      exact ⟨by omega, o, ho, Obj.not_cells_of_walk hw⟩
  refine (hseq (w.heap.size + 1) (fun pre W => I pre W ∧ TwoB w.heap.size (rc .ready none) W) (fun pre W => ∃ c, Ix c pre W ∧ TwoB w.heap.size (rc .done (some c)) W) W1 hB1
    (fun s A B row hs hg' hr => ⟨hI s A B row hs.1 hg' (hrow hr), hs.2.abides hg' (fun r e => (hr r e).2)⟩)
    (fun s A B row hs hg' hr => by
      obtain ⟨c, hc, ht⟩ := hs
      exact ⟨c, hIx c s A B row hc hg' (hrow hr), ht.abides hg' (fun r e => (hr r e).2)⟩) ?_ ⟨hI1, hT1⟩).mono ?_
  · rintro pre x V ⟨hi, ht⟩ hm hlen
    have hy := run_yield (P := P) (args := encs x) ht.loop (by rw [hrc]; exact hps x)
    refine ⟨_, _, _, _, hy, ?_⟩
    rw [hrc]
    refine roundIn_of_wpIn hfn (hassign _ x V _ ⟨_, run_beginRound ht.loop (by rw [hrc]), ?_⟩)
    have tb := ht.put { rc .ready none with state := .busy }
    rw [hs1] at hm
    have hm2 := hM _ _ _ _ _ (.loop { rc .ready none with state := .busy }) hm ht.loop rfl
    have hi2 := hI.putObj (.loop { rc .ready none with state := .busy }) hi (show w.heap.size ≤ w.heap.size + 1 by omega) ht.loop rfl
    have hk2 := hKb x _ _ _ (.loop { rc .ready none with state := .busy }) ht.loop rfl
    generalize V.putObj (w.heap.size + 1) (.loop { rc .ready none with state := .busy }) = V2 at *
    refine wpIn_mono (hbody _ pre x V2 (by omega) hi2 hm2 hlen) ?_
    have fin : ∀ (j : Option Code) (X : World), KeepsFrom w.heap.size V2 X → ∃ Y, (Instr.endRound (w.heap.size + 1) j).run P X = .ok (.bool j.isNone) Y ∧ TwoB w.heap.size (rc (if j.isNone then .ready else .done) j) Y ∧ (∀ K : World → Prop, (∀ o', K (X.putObj (w.heap.size + 1) o')) → K Y) := by
      intro j X hk
      have tx := tb.keep hk
      have hr := run_endRound (P := P) j tx.loop
      rw [hrc] at hr tx ⊢
      exact ⟨_, hr, tx.put _, fun K h => h _⟩
    rintro e a3 X hp
    cases e with
    | normal =>
      obtain ⟨hk, hkp, hi3⟩ := hp
      obtain ⟨Y, hr, ht3, hY⟩ := fin none X hk
      have tx := tb.keep hk
      exact ⟨_, _, hr, .inl ⟨rfl, ⟨hY (I _) (fun o' => hI.putObj o' hi3 (by omega) tx.loop rfl), by rw [hrc] at ht3; exact ht3⟩, hY (Kp x V) (fun o' => hKt (hKt hk2 hkp) (hKb x _ _ _ o' tx.loop rfl))⟩⟩
    | ret =>
      obtain ⟨hk, hi3⟩ := hp
      obtain ⟨Y, hr, ht3, hY⟩ := fin (some .ret) X hk
      exact ⟨_, _, hr, .inr ⟨rfl, .ret, hY (Ix .ret _) (fun o' => (hIx _).putObj o' hi3 (by omega) (tb.keep hk).loop rfl), by rw [hrc] at ht3; exact ht3⟩⟩
    | exit id =>
      obtain ⟨hk, hi3⟩ := hp
      obtain ⟨Y, hr, ht3, hY⟩ := fin (some (.exit id)) X hk
      exact ⟨_, _, hr, .inr ⟨rfl, .exit id, hY (Ix (.exit id) _) (fun o' => (hIx _).putObj o' hi3 (by omega) (tb.keep hk).loop rfl), by rw [hrc] at ht3; exact ht3⟩⟩
    | goto t =>
      obtain ⟨hk, hi3⟩ := hp
      obtain ⟨Y, hr, ht3, hY⟩ := fin (some (.goto t)) X hk
      exact ⟨_, _, hr, .inr ⟨rfl, .goto t, hY (Ix (.goto t) _) (fun o' => (hIx _).putObj o' hi3 (by omega) (tb.keep hk).loop rfl), by rw [hrc] at ht3; exact ht3⟩⟩
    | panic ch => exact hp.elim
    | outgrown => exact hp.elim
  · rintro e W2 ⟨⟨v, rfl⟩, (⟨xs, hS, hi, ht⟩ | ⟨pre, hSp, c, hi, ht⟩)⟩
    · have hr := run_endLoop (P := P) ht.loop (by rw [hrc]; simp)
      exact ⟨_, _, hr, by rw [hrc]; exact hdone xs _ hS (hI.putObj _ hi (by omega) ht.loop rfl) ((World.putObj_heap_other (by omega)).trans ht.defs)⟩
    · have hr := run_endLoop (P := P) ht.loop (by rw [hrc]; simp)
      exact ⟨_, _, hr, by rw [hrc]; exact hstop c pre _ hSp ((hIx c).putObj _ hi (by omega) ht.loop rfl) ((World.putObj_heap_other (by omega)).trans ht.defs)⟩
end
end Go.Proofs.YtpaamhmighgjeaaGreat

