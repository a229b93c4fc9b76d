/- The walk of SszWrites. -/
import Derived.Test.YtidkjpfdclkccaaRoots4
import Derived.Test.YtidkjpfdclkccaaFlowG
namespace Go.Proofs.Ytidkjpfdclkccaa
open Go.RowKit Go.Shelf
set_option linter.unusedVariables false
set_option maxRecDepth 100000

theorem refput_le (i : Int) (n : Nat) (size : Nat) (h : i = (n : Int)) (hn : n < 18446744073709551616) (hs : size ≤ 2147483647) (w : World) :
    Calls Try.prog 13 #[.int .u64 i, .int .i64 (size : Nat)] w fun e w' => ∃ v, e = .returned v ∧ Row w' w.heap.size v (le n size) ∧ Below w.heap.size w w' := by
  subst h
  refine (refPut_any n (size : Int) hn (by omega) w).mono ?_
  rintro e w' ⟨v, rfl, h1, h2⟩
  refine ⟨v, rfl, ?_, h2⟩
  rw [Int.toNat_natCast, putL_le] at h1
  unfold Row
  rw [le_length]
  exact h1

/-- How the statement's walk stands: the Writer at g; the two slices of its own. -/
structure WS (w wr : World) (g : Nat) (fx fr : Value) (A B : List Nat) (fs : List (List Nat × Bool)) : Prop where
  hw : ∃ S, Wr wr g S fs ∧ (∀ k, fx.ownBlock = some k → ¬ S k) ∧ (∀ k, fr.ownBlock = some k → ¬ S k)
  rx : Row wr (g + 1) fx A
  rr : Row wr (g + 1) fr B
  ap : Apart fx fr
  bel : Below w.heap.size w wr
  gw : w.heap.size ≤ g
theorem WS.gt {w wr : World} {g : Nat} {fx fr : Value} {A B : List Nat} {fs : List (List Nat × Bool)} (h : WS w wr g fx fr A B fs) : g < wr.heap.size := by
  obtain ⟨S, hW, _⟩ := h.hw; exact hW.gt
theorem WS.below {w wr wr' : World} {g : Nat} {fx fr : Value} {A B : List Nat} {fs : List (List Nat × Bool)} (h : WS w wr g fx fr A B fs) (hb : Below wr.heap.size wr wr') : WS w wr' g fx fr A B fs := by
  obtain ⟨⟨S, hW, h1, h2⟩, h3, h4, h5, h6, h7⟩ := h
  exact ⟨⟨S, hW.below hb, h1, h2⟩, h3.below hb, h4.below hb, h5, below_more h6 hb (Nat.le_refl _), h7⟩
theorem WS.put {w wr wr' : World} {g : Nat} {fx fr : Value} {A B : List Nat} {fs fs' : List (List Nat × Bool)} (h : WS w wr g fx fr A B fs) (S : Nat → Prop) (h1 : ∀ k, fx.ownBlock = some k → ¬ S k) (h2 : ∀ k, fr.ownBlock = some k → ¬ S k) (hW : Wr wr' g (more S wr wr') fs') (hG : wr.grownBy wr' (some g)) : WS w wr' g fx fr A B fs' := by
  have hx := h.rx
  have hr := h.rr
  refine ⟨⟨_, hW, fun k hk hk2 => ?_, fun k hk hk2 => ?_⟩, hx.kept hG (fun k hk e => ?_), hr.kept hG (fun k hk e => ?_), h.ap, h.bel.grown hG h.bel.size (fun j e => by cases e; exact h.gw), h.gw⟩
  · rcases hk2 with hk2 | hk2
    · exact h1 k hk hk2
    · have := (hx.lt k hk).2; omega
  · rcases hk2 with hk2 | hk2
    · exact h2 k hk hk2
    · have := (hr.lt k hk).2; omega
  · cases e; have := (hx.lt _ hk).1; omega
  · cases e; have := (hr.lt _ hk).1; omega
theorem WS.appX {w wr wr' : World} {g : Nat} {fx fx' fr : Value} {A A' B : List Nat} {fs : List (List Nat × Bool)} (h : WS w wr g fx fr A B fs) (hR : Row wr' (g + 1) fx' A') (hG : wr.grownBy wr' fx.ownBlock) (hM : Moved wr fx fx') : WS w wr' g fx' fr A' B fs := by
  have hgt := h.gt
  obtain ⟨⟨S, hW, h1, h2⟩, h3, h4, h5, h6, h7⟩ := h
  refine ⟨⟨S, hW.keep hG.size (fun k a => hG.block k (hW.lt k a) (fun e => h1 k e.symm a)) (hG.block g hgt (fun e => by have := (h3.lt g e.symm).1; omega)), fun k hk a => ?_, h2⟩, hR, h4.kept hG (fun k hk e => h5 k e hk), h5.left hM (fun k hk => (h4.lt k hk).2), h6.grown hG h6.size (fun j hj => by have := (h3.lt j hj).1; omega), h7⟩
  rcases hM k hk with e | e
  · exact h1 k e a
  · have := hW.lt k a; omega
theorem WS.appR {w wr wr' : World} {g : Nat} {fx fr fr' : Value} {A B B' : List Nat} {fs : List (List Nat × Bool)} (h : WS w wr g fx fr A B fs) (hR : Row wr' (g + 1) fr' B') (hG : wr.grownBy wr' fr.ownBlock) (hM : Moved wr fr fr') : WS w wr' g fx fr' A B' fs := by
  have hgt := h.gt
  obtain ⟨⟨S, hW, h1, h2⟩, h3, h4, h5, h6, h7⟩ := h
  refine ⟨⟨S, hW.keep hG.size (fun k a => hG.block k (hW.lt k a) (fun e => h2 k e.symm a)) (hG.block g hgt (fun e => by have := (h4.lt g e.symm).1; omega)), h1, fun k hk a => ?_⟩, h3.kept hG (fun k hk e => h5 k hk e), hR, (h5.symm.left hM (fun k hk => (h3.lt k hk).2)).symm, h6.grown hG h6.size (fun j hj => by have := (h4.lt j hj).1; omega), h7⟩
  rcases hM k hk with e | e
  · exact h2 k e a
  · have := hW.lt k a; omega
/-- What a field of the statement puts. -/
def km (f : FV) : Nat := (IntKind.u64.wrap f.kind).toNat % 4
def wf (f : FV) : List Nat × Bool := if km f = 0 then (f.data, false) else if km f = 1 then (le f.n 8, false) else if km f = 2 then (rootOf f.data, false) else (f.data, true)

theorem wf_len {f : FV} (h : f.data.length ≤ 4000) : (wf f).1.length ≤ 4000 := by
  unfold wf
  split
  · exact h
  · split
    · simp [le_length]
    · split
      · simp [rootOf_length]
      · exact h
theorem wf_snoc (fs : List FV) (k : Nat) (f : FV) (h : fs[k]? = some f) : (fs.take (k + 1)).map wf = (fs.take k).map wf ++ [wf f] := by
  have hi := (List.getElem?_eq_some_iff.1 h).1
  rw [List.getElem?_eq_getElem hi] at h
  cases h
  rw [List.take_succ_eq_append_getElem hi, List.map_append]; rfl
theorem lenW (fs : List FV) (hd : ∀ f ∈ fs, f.data.length ≤ 4000) : lenF (fs.map wf) ≤ 4000 * fs.length := by
  induction fs with
  | nil => simp [lenF]
  | cons f r ih =>
    have h1 := wf_len (hd f (by simp))
    have h2 := ih (fun g hg => hd g (by simp [hg]))
    have e : lenF ((f :: r).map wf) = (wf f).1.length + lenF (r.map wf) := by simp [lenF]
    rw [e, List.length_cons]
    omega
theorem wrap_nat (k : Int) : ∃ m : Nat, IntKind.u64.wrap k = (m : Int) ∧ m = (IntKind.u64.wrap k).toNat := by
  have : 0 ≤ IntKind.u64.wrap k := by rw [IntKind.wrap_u64]; omega
  exact ⟨_, (Int.toNat_of_nonneg this).symm, rfl⟩
theorem Wr.empty (w : World) : Wr (w.alloc (.cells #[.int .i64 0, .pointer none] 29)) w.heap.size (fun _ => False) [] :=
  ⟨⟨[], none, heap_alloc_new w _, rfl, trivial⟩, fun h => h, fun _ h => h.elim⟩

theorem frontB_byte : ∀ {fs : List (List Nat × Bool)} (_ : ∀ f ∈ fs, ∀ z ∈ f.1, z < 256) (p : Nat), ∀ z ∈ frontB p fs, z < 256
  | [], _, _, z, hz => by simp [frontB] at hz
  | f :: fs, h, p, z, hz => by
    rw [frontB] at hz
    rcases List.mem_append.1 hz with hz | hz
    · split at hz
      · exact le_byte _ _ z hz
      · exact h f (by simp) z hz
    · exact frontB_byte (fun g hg => h g (by simp [hg])) _ z hz
theorem run_conv {o : Oper} {a : Act} {w : World} {bs : List Nat} (x : Operand) (ho : o.op = .convert 30 9 x) (hx : IsB w (a.eval x) bs) : (execOp a.eval o).run Try.prog w = .ok (.value (.string (strOf bs))) w := by
  unfold execOp
  simp only [ho, Sem.run_bind, conv_b hx, Result.andThen_ok, Sem.run_pure]
theorem run_adds {o : Oper} {a : Act} {w : World} {s t : ByteArray} (x y : Operand) (ho : o.op = .binOp .add 9 x y 9) (hx : a.eval x = .string s) (hy : a.eval y = .string t) (hb : s.size + t.size ≤ 9223372036854775807) : (execOp a.eval o).run Try.prog w = .ok (.value (.string (s ++ t))) w := by
  unfold execOp
  simp only [ho, hx, hy]
  simp [go_sem, hb]
theorem run_eqs {o : Oper} {a : Act} {w : World} {s : ByteArray} (x y : Operand) (ho : o.op = .binOp .eql 9 x y 9) (hx : a.eval x = .string s) (hy : a.eval y = .string s) : (execOp a.eval o).run Try.prog w = .ok (.value (.bool true)) w := by
  unfold execOp
  simp only [ho, hx, hy]
  simp [go_sem]
theorem run_pickb {o : Oper} {a : Act} {w : World} (x y : Operand) (ho : o.op = .pick x y (.const (.bool false))) (hx : a.eval x = .bool true) (hy : a.eval y = .bool true) : (execOp a.eval o).run Try.prog w = .ok (.value (.bool true)) w := by
  unfold execOp
  simp only [ho, hx, hy]
  simp [go_sem, Act.eval]

set_option maxHeartbeats 4000000 in
theorem writes_walk (v0 : Value) (fs : List FV) (w : World) (hF : IsFs w v0 fs) (hl : fs.length ≤ 3600000000000) :
    Calls Try.prog 3 #[v0] w fun e w' => e = .returned (.bool true) ∧ Below w.heap.size w w' := by
  have HF := hid hF
  obtain ⟨ao, cap, rfl, h1, h2, h4⟩ := hF
  go_enter Try.func3, Try.ntmps3
  go_wp2_with fail
  refine (awake_any w).mono ?_
  rintro e w1 ⟨rfl, B1⟩
  have HB1 := hid B1
  clear B1
  go_wp2_with fail
  refine (long_any _ fs _ (HF.out.keep HB1.out) hl).mono ?_
  rintro e w2 ⟨rfl, B2⟩
  have HB2 := hid (below_more HB1.out B2 (Nat.le_refl _))
  clear B2
  cases hlong : longB fs
  · have hL := hlong
    unfold longB at hL
    rw [Bool.or_eq_false_iff, decide_eq_false_iff_not, decide_eq_false_iff_not] at hL
    obtain ⟨hL1, hL2⟩ := hL
    have hdl : ∀ (i : Nat) (f : FV), fs[i]? = some f → f.data.length ≤ 4000 := by
      intro i f hf
      have a := minF_snoc fs i f hf
      have b := minF_take fs (i + 1)
      omega
    have HDL := hid hdl
    clear hlong hdl
    have HW0 : WS w (w2.alloc (.cells #[.int .i64 0, .pointer none] 29)) w2.heap.size (.slice none 0 0) (.slice none 0 0) [] [] [] :=
      ⟨⟨_, Wr.empty w2, (fun k hk => by cases hk), (fun k hk => by cases hk)⟩, Row.nil _ _, Row.nil _ _, (fun k hk => by cases hk), HB2.out.alloc (HB2.out.size) _, HB2.out.size⟩
    have hLW : ∀ k, szF ((fs.take k).map wf) ≤ 400000 := by
      intro k
      have h1 := szF_le ((fs.take k).map wf)
      have h2 := lenW (fs.take k) (fun f hf => by
        obtain ⟨i, hi, rfl⟩ := List.mem_iff_getElem.1 (List.mem_of_mem_take hf)
        exact HDL.out i _ (List.getElem?_eq_getElem hi))
      rw [List.length_map] at h1
      have h3 : (fs.take k).length ≤ fs.length := by simp; omega
      omega
    have HLW := hid hLW
    have HHW := hid HW0
    clear HW0 hLW
    go_wp2
    go_loopw [6, 8, 18] (fun s _ i wr => ∃ k : Nat, k ≤ fs.length ∧ i = .int .i64 k ∧ s = .int .i64 ((szF ((fs.take k).map wf) : Nat) : Int) ∧ WS w wr w2.heap.size (.slice none 0 0) (.slice none 0 0) [] [] []) (fun _ _ i _ => fs.length - (intOf i).toNat)
    case atStart => exact ⟨0, Nat.zero_le _, rfl, rfl, HHW.out⟩
    case round =>
      obtain ⟨k, hk, rfl, rfl, hWS⟩ := hrel
      by_cases hlt : k < fs.length
      · obtain ⟨b, off, rfl, hcc⟩ : ∃ b off, ao = some ⟨b, off, none⟩ ∧ ∀ i f, fs[i]? = some f → ∃ u, FAt w b (off + i * 3) f u := by
          rcases h4 with h4 | h4
          · omega
          · exact h4
        have hf := List.getElem?_eq_getElem hlt
        obtain ⟨u, hF⟩ := hcc k _ hf
        have hF' := hF.keep hWS.bel
        obtain ⟨k0, k1, k2, kI, _, _⟩ := hF'
        obtain ⟨⟨ao2, cap2, rfl, _⟩, _⟩ := kI
        have HSN := hid (wf_snoc fs k _ hf)
        have hdd := HDL.out k _ hf
        have hzz := HLW.out k
        have HWS := hid hWS
        obtain ⟨m, hm, hmk⟩ := wrap_nat fs[k].kind
        have hkm : km fs[k] = m % 4 := by unfold km; rw [← hmk]
        have HWF : Hid (sz1 (wf fs[k]) = if km fs[k] = 0 then fs[k].data.length else if km fs[k] = 1 then 8 else if km fs[k] = 2 then 32 else 4) := by
          show sz1 (wf fs[k]) = _
          unfold wf
          split
          · rfl
          · split
            · exact le_length _ _
            · split
              · exact rootOf_length _
              · rfl
        have HST : Hid (szF ((fs.take (k + 1)).map wf) = szF ((fs.take k).map wf) + sz1 (wf fs[k])) := by
          show szF _ = _
          rw [HSN.out, szF_snoc]
        rw [hkm] at HWF
        generalize sz1 (wf fs[k]) = s1 at *
        generalize hdl : fs[k].data.length = dl at *
        generalize fs[k].kind = kd at *
        generalize fs[k].n = fn at *
        generalize szF ((fs.take k).map wf) = s at *
        clear hWS hF hf hcc h4 hmk hkm hdl HSN
        have h4c : m % 4 = 0 ∨ m % 4 = 1 ∨ m % 4 = 2 ∨ m % 4 = 3 := by omega
        rcases h4c with hc | hc | hc | hc
        · have hc' : (m : Int) % 4 = 0 := by omega
          have ix : ∀ w : World, (Instr.index 34 (.agg #[.int .i64 ((dl : Nat) : Int), .int .i64 8, .int .i64 32, .int .i64 4]) (.int .u64 0)).run Try.prog w = .ok (.int .i64 ((dl : Nat) : Int)) w := fun _ => by kernel_rfl
          have HW1 : Hid (s1 = dl) := by
            show s1 = dl
            rw [HWF.out, hc]; simp
          go_wp2
          go_roundw
          case rel => exact ⟨k + 1, by omega, by go_num, by rw [HST.out, HW1.out]; go_num, HWS.out.below ((Below.refl _ _).alloc (Nat.le_refl _) _)⟩
          case measure => simp [intOf]; omega
        · have hc' : (m : Int) % 4 = 1 := by omega
          have ix : ∀ w : World, (Instr.index 34 (.agg #[.int .i64 ((dl : Nat) : Int), .int .i64 8, .int .i64 32, .int .i64 4]) (.int .u64 1)).run Try.prog w = .ok (.int .i64 8) w := fun _ => by kernel_rfl
          have HW1 : Hid (s1 = 8) := by
            show s1 = 8
            rw [HWF.out, hc]; simp
          go_wp2
          go_roundw
          case rel => exact ⟨k + 1, by omega, by go_num, by rw [HST.out, HW1.out]; go_num, HWS.out.below ((Below.refl _ _).alloc (Nat.le_refl _) _)⟩
          case measure => simp [intOf]; omega
        · have hc' : (m : Int) % 4 = 2 := by omega
          have ix : ∀ w : World, (Instr.index 34 (.agg #[.int .i64 ((dl : Nat) : Int), .int .i64 8, .int .i64 32, .int .i64 4]) (.int .u64 2)).run Try.prog w = .ok (.int .i64 32) w := fun _ => by kernel_rfl
          have HW1 : Hid (s1 = 32) := by
            show s1 = 32
            rw [HWF.out, hc]; simp
          go_wp2
          go_roundw
          case rel => exact ⟨k + 1, by omega, by go_num, by rw [HST.out, HW1.out]; go_num, HWS.out.below ((Below.refl _ _).alloc (Nat.le_refl _) _)⟩
          case measure => simp [intOf]; omega
        · have hc' : (m : Int) % 4 = 3 := by omega
          have ix : ∀ w : World, (Instr.index 34 (.agg #[.int .i64 ((dl : Nat) : Int), .int .i64 8, .int .i64 32, .int .i64 4]) (.int .u64 3)).run Try.prog w = .ok (.int .i64 4) w := fun _ => by kernel_rfl
          have HW1 : Hid (s1 = 4) := by
            show s1 = 4
            rw [HWF.out, hc]; simp
          go_wp2
          go_roundw
          case rel => exact ⟨k + 1, by omega, by go_num, by rw [HST.out, HW1.out]; go_num, HWS.out.below ((Below.refl _ _).alloc (Nat.le_refl _) _)⟩
          case measure => simp [intOf]; omega
      · obtain rfl : k = fs.length := by omega
        rw [List.take_length]
        have HWS := hid hWS
        have hzz := HLW.out fs.length
        rw [List.take_length] at hzz
        obtain ⟨sz, hsz⟩ : ∃ sz, szF (fs.map wf) = sz := ⟨_, rfl⟩
        rw [hsz] at hzz ⊢
        have HSZ : Same _ _ := ⟨hsz⟩
        clear hWS hsz hlt
        go_wp2
        go_loopw [4, 5, 10, 11, 36] (fun fx fr _ _ i wr => ∃ k : Nat, k ≤ fs.length ∧ i = .int .i64 k ∧ WS w wr w2.heap.size fx fr (frontB sz ((fs.take k).map wf)) (backB ((fs.take k).map wf)) ((fs.take k).map wf)) (fun _ _ _ _ i _ => fs.length - (intOf i).toNat)
        case atStart => exact ⟨0, Nat.zero_le _, rfl, HWS.out⟩
        case round =>
          clear HWS
          obtain ⟨k, hk, rfl, hWS⟩ := hrel
          by_cases hlt : k < fs.length
          · obtain ⟨b, off, rfl, hcc⟩ : ∃ b off, ao = some ⟨b, off, none⟩ ∧ ∀ i f, fs[i]? = some f → ∃ u, FAt w b (off + i * 3) f u := by
              rcases h4 with h4 | h4
              · omega
              · exact h4
            have hf := List.getElem?_eq_getElem hlt
            obtain ⟨u, hF⟩ := hcc k _ hf
            have hF' := hF.keep hWS.bel
            obtain ⟨k0, k1, k2, _, _, hnb⟩ := hF'
            have HI := hid hF.isB
            have h8 := hF.isB.by8
            obtain ⟨⟨ao2, cap2, rfl, hcap2⟩, _⟩ := hF.isB
            have hdd := HDL.out k _ hf
            obtain ⟨m, hm, hmk⟩ := wrap_nat fs[k].kind
            have hkm : km fs[k] = m % 4 := by unfold km; rw [← hmk]
            have hsn := wf_snoc fs k _ hf
            have HXS : Same _ _ := ⟨hsn⟩
            have HA1 : Same _ _ := ⟨(congrArg (frontB sz) hsn).trans (frontB_snoc (wf fs[k]) ((fs.take k).map wf) sz)⟩
            have HB1 : Same _ _ := ⟨(congrArg backB hsn).trans (backB_snoc ((fs.take k).map wf) (wf fs[k]))⟩
            have hwf : wf fs[k] = if m % 4 = 0 then (fs[k].data, false) else if m % 4 = 1 then (le fs[k].n 8, false) else if m % 4 = 2 then (rootOf fs[k].data, false) else (fs[k].data, true) := by unfold wf; rw [hkm]
            have HWF : Same _ _ := ⟨hwf⟩
            have hA := frontB_length ((fs.take k).map wf) sz
            have hAl := HLW.out k
            have hBl : (backB ((fs.take k).map wf)).length ≤ 240000 := by
              have h1 := backB_le ((fs.take k).map wf)
              have h2 := lenW (fs.take k) (fun f hf => by
                obtain ⟨i, hi, rfl⟩ := List.mem_iff_getElem.1 (List.mem_of_mem_take hf)
                exact HDL.out i _ (List.getElem?_eq_getElem hi))
              have h3 : (fs.take k).length ≤ fs.length := by simp; omega
              omega
            have hxl : ((fs.take k).map wf).length ≤ 60 := by simp; omega
            rw [← hA] at hAl
            clear hwf hsn hA hF hf hcc h4 hmk hkm
            generalize frontB sz ((fs.take k).map wf) = A at *
            generalize backB ((fs.take k).map wf) = B at *
            generalize (fs.take k).map wf = xs at *
            generalize wf fs[k] = wfk at *
            generalize fs[k].kind = kd at *
            generalize fs[k].n = fn at *
            generalize fs[k].data = d at *
            obtain ⟨ao1, cap1, rfl, _⟩ := hWS.rx.form
            obtain ⟨ao3, cap3, rfl, _⟩ := hWS.rr.form
            have hgw := hWS.gt
            have HWS := hid hWS
            have BA : Below wr.heap.size wr (wr.alloc (.cells #[.int .i64 kd, .int .u64 (fn : Nat), .slice ao2 d.length cap2] 33)) := (Below.refl _ wr).alloc (Nat.le_refl _) _
            have FB := heap_alloc_new wr (.cells #[.int .i64 kd, .int .u64 (fn : Nat), .slice ao2 d.length cap2] 33)
            have HBA := hid BA
            have HFB := hid FB
            clear hWS BA FB
            have h4c : m % 4 = 0 ∨ m % 4 = 1 ∨ m % 4 = 2 ∨ m % 4 = 3 := by omega
            rcases h4c with hc | hc | hc | hc
            · have hc' : (m : Int) % 4 = 0 := by omega
              have hw1 : wfk = (d, false) := by rw [HWF.out]; simp [hc]
              subst hw1
              clear HWF
              simp only [Bool.false_eq_true, if_false, List.append_nil] at HA1 HB1
              have HO : Hid (Row ((wr.alloc (.cells #[.int .i64 kd, .int .u64 (fn : Nat), .slice ao2 d.length cap2] 33)).alloc (.cells #[] 5)) (wr.heap.size + 1) (.slice (some ⟨wr.heap.size + 1, 0, none⟩) 0 0) []) := by
                have := own_bytes (wr.alloc (.cells #[.int .i64 kd, .int .u64 (fn : Nat), .slice ao2 d.length cap2] 33))
                rw [World.size_alloc] at this
                exact this
              have HB2' : Hid (Below wr.heap.size wr ((wr.alloc (.cells #[.int .i64 kd, .int .u64 (fn : Nat), .slice ao2 d.length cap2] 33)).alloc (.cells #[] 5))) := HBA.out.alloc (by simp) _
              have HF2 : Hid (((wr.alloc (.cells #[.int .i64 kd, .int .u64 (fn : Nat), .slice ao2 d.length cap2] 33)).alloc (.cells #[] 5)).heap[wr.heap.size]? = some (.cells #[.int .i64 kd, .int .u64 (fn : Nat), .slice ao2 d.length cap2] 33 (0, 0))) := (((Below.refl _ (wr.alloc (.cells #[.int .i64 kd, .int .u64 (fn : Nat), .slice ao2 d.length cap2] 33))).alloc (Nat.le_refl _) (.cells #[] 5)).block wr.heap.size (by simp)).trans HFB.out
              have hsE : ((wr.alloc (.cells #[.int .i64 kd, .int .u64 (fn : Nat), .slice ao2 d.length cap2] 33)).alloc (.cells #[] 5)).heap.size = wr.heap.size + 2 := by simp
              go_wp2_with (refine wpList_append_b rfl (.tmp 63) (.tmp 65) 30 rfl (wr.heap.size + 1) (.slice (some ⟨wr.heap.size + 1, 0, none⟩) 0 0) [] rfl (by exact HO.out) (.slice ao2 d.length cap2) d rfl (by exact ((HI.out.keep HWS.out.bel).keep HB2'.out).src) (by simp; omega) (by simp) ?_; intro v3 w3 r1 r2 r3)
              replace r2 : ((wr.alloc (.cells #[.int .i64 kd, .int .u64 (fn : Nat), .slice ao2 d.length cap2] 33)).alloc (.cells #[] 5)).grownBy w3 (some (wr.heap.size + 1)) := r2
              have s3 := r2.size
              rw [hsE] at s3
              have B3 : Below wr.heap.size wr w3 := HB2'.out.grown r2 HB2'.out.size (fun j e => by cases e; omega)
              have W3 := HWS.out.below B3
              have F3 : w3.heap[wr.heap.size]? = some (.cells #[.int .i64 kd, .int .u64 (fn : Nat), .slice ao2 d.length cap2] 33 (0, 0)) := (r2.block wr.heap.size (by rw [hsE]; omega) (fun e => by have := Option.some.inj e; omega)).trans HF2.out
              obtain ⟨S, hW, hx1, hx2⟩ := W3.hw
              have HC := hid (fixed_wr w2.heap.size S xs v3 d w3 hW (r1.isB h8) (by omega) (by omega))
              have HW3 := hid W3
              have HF3 := hid F3
              have HX := hid (And.intro hx1 hx2)
              clear r1 r2 r3 B3 W3 F3 hW hx1 hx2 HO HB2' HF2 hsE
              refine HC.out.mono ?_
              rintro e w4 ⟨⟨u4, rfl⟩, q1, q2⟩
              have W4 := HW3.out.put S HX.out.1 HX.out.2 q1 q2
              have F4 : w4.heap[wr.heap.size]? = some (.cells #[.int .i64 kd, .int .u64 (fn : Nat), .slice ao2 d.length cap2] 33 (0, 0)) := (q2.block wr.heap.size (by omega) (fun e => by have := Option.some.inj e; omega)).trans HF3.out
              have s4 := q2.size
              have c4 : w4.cell? ⟨wr.heap.size, 2, none⟩ = some (.slice ao2 d.length cap2) := cell_of_row w4 _ 2 _ _ (0, 0) F4
              have HW4 := hid W4
              have HF4 := hid F4
              clear q1 q2 W4 F4 HC HW3 HF3 HX
              go_wp2_with (refine wpList_append_b rfl (.tmp 68) (.tmp 70) 30 rfl (w2.heap.size + 1) (.slice ao1 A.length cap1) A rfl (by exact HW4.out.rx) (.slice ao2 d.length cap2) d rfl (by exact (HI.out.keep HW4.out.bel).src) (by omega) (by omega) ?_; intro v5 w5 t1 t2 t3; have HW5 := hid (HW4.out.appX t1 t2 t3); clear t1 t2 t3)
              go_roundw
              case rel => exact ⟨k + 1, by omega, by go_num, by rw [HA1.out, HB1.out, HXS.out]; exact HW5.out⟩
              case measure => simp [intOf]; omega
            · have hc' : (m : Int) % 4 = 1 := by omega
              have hw1 : wfk = (le fn 8, false) := by rw [HWF.out]; simp [hc]
              subst hw1
              clear HWF
              simp only [Bool.false_eq_true, if_false, List.append_nil] at HA1 HB1
              have HB3 : Hid (Below wr.heap.size wr ((wr.alloc (.cells #[.int .i64 kd, .int .u64 (fn : Nat), .slice ao2 d.length cap2] 33)).alloc (.cells #[.int .u64 (fn : Nat)] 31))) := HBA.out.alloc (by simp) _
              have HF3 : Hid (((wr.alloc (.cells #[.int .i64 kd, .int .u64 (fn : Nat), .slice ao2 d.length cap2] 33)).alloc (.cells #[.int .u64 (fn : Nat)] 31)).heap[wr.heap.size]? = some (.cells #[.int .i64 kd, .int .u64 (fn : Nat), .slice ao2 d.length cap2] 33 (0, 0))) := (((Below.refl _ (wr.alloc (.cells #[.int .i64 kd, .int .u64 (fn : Nat), .slice ao2 d.length cap2] 33))).alloc (Nat.le_refl _) (.cells #[.int .u64 (fn : Nat)] 31)).block wr.heap.size (by simp)).trans HFB.out
              have hs3 : ((wr.alloc (.cells #[.int .i64 kd, .int .u64 (fn : Nat), .slice ao2 d.length cap2] 33)).alloc (.cells #[.int .u64 (fn : Nat)] 31)).heap.size = wr.heap.size + 2 := by simp
              have hn3 : ((wr.alloc (.cells #[.int .i64 kd, .int .u64 (fn : Nat), .slice ao2 d.length cap2] 33)).alloc (.cells #[.int .u64 (fn : Nat)] 31)).heap[wr.heap.size + 1]? = some (.cells #[.int .u64 (fn : Nat)] 31 (0, 0)) := by
                have := heap_alloc_new (wr.alloc (.cells #[.int .i64 kd, .int .u64 (fn : Nat), .slice ao2 d.length cap2] 33)) (.cells #[.int .u64 (fn : Nat)] 31)
                rw [World.size_alloc] at this
                exact this
              have HW3 := hid (HWS.out.below HB3.out)
              obtain ⟨S, hW, hx1, hx2⟩ := HW3.out.hw
              have HX := hid (And.intro hx1 hx2)
              have HC := hid (num_wr w2.heap.size S xs [fn] (wr.heap.size + 1) 0 1 ((wr.alloc (.cells #[.int .i64 kd, .int .u64 (fn : Nat), .slice ao2 d.length cap2] 33)).alloc (.cells #[.int .u64 (fn : Nat)] 31)) hW (by omega) (by simp; omega) (by simpa using hnb) (fun i hi => by
                obtain rfl : i = 0 := by simp at hi; exact hi
                exact cell_of_row _ _ 0 _ _ (0, 0) hn3) (by simp))
              clear hn3 hW hx1 hx2
              go_wp2_with fail
              refine HC.out.mono ?_
              rintro e w4 ⟨⟨u4, rfl⟩, q1, q2⟩
              have W4 := HW3.out.put S HX.out.1 HX.out.2 q1 q2
              have F4 : w4.heap[wr.heap.size]? = some (.cells #[.int .i64 kd, .int .u64 (fn : Nat), .slice ao2 d.length cap2] 33 (0, 0)) := (q2.block wr.heap.size (by omega) (fun e => by have := Option.some.inj e; omega)).trans HF3.out
              have s4 := q2.size
              rw [hs3] at s4
              have c4 : w4.cell? ⟨wr.heap.size, 1, none⟩ = some (.int .u64 (fn : Nat)) := cell_of_row w4 _ 1 _ _ (0, 0) F4
              have HW4 := hid W4
              clear q1 q2 W4 F4 HC HW3 HF3 HX HB3 hs3
              go_wp2_with fail
              refine (refput_le _ fn 8 rfl hnb (by decide) w4).mono ?_
              rintro e w5 ⟨v5, rfl, R5, B5⟩
              have HW5 := hid (HW4.out.below B5)
              have HR5 := hid (R5.isB (le_byte fn 8)).src
              have s5 := B5.size
              clear R5 B5
              go_wp2_with (refine wpList_append_b rfl (.tmp 78) (.tmp 81) 30 rfl (w2.heap.size + 1) (.slice ao1 A.length cap1) A rfl (by exact HW5.out.rx) v5 (le fn 8) rfl (by exact HR5.out) (by rw [le_length]; omega) (by omega) ?_; intro v6 w6 t1 t2 t3; have HW6 := hid (HW5.out.appX t1 t2 t3); clear t1 t2 t3)
              go_roundw
              case rel => exact ⟨k + 1, by omega, by go_num, by rw [HA1.out, HB1.out, HXS.out]; exact HW6.out⟩
              case measure => simp [intOf]; omega
            · have hc' : (m : Int) % 4 = 2 := by omega
              have hw1 : wfk = (rootOf d, false) := by rw [HWF.out]; simp [hc]
              subst hw1
              clear HWF
              simp only [Bool.false_eq_true, if_false, List.append_nil] at HA1 HB1
              have hsA : (wr.alloc (.cells #[.int .i64 kd, .int .u64 (fn : Nat), .slice ao2 d.length cap2] 33)).heap.size = wr.heap.size + 1 := by simp
              have HIA := hid ((HI.out.keep HWS.out.bel).keep HBA.out)
              go_wp2_with fail
              refine (lroot_any kd fn (.slice ao2 d.length cap2) d _ HIA.out).mono ?_
              rintro e w3 ⟨rfl, B3⟩
              have s3 := B3.size
              rw [hsA] at s3
              have HB3 := hid (below_more HBA.out B3 (Nat.le_refl _))
              clear B3
              go_wp2_with (first
                | (refine wpList_alloc_has rfl 11 rfl 40 rfl .u8 32 Try.zero40 ?_; intro w4 H4 B4 S4)
                | (refine wpList_store_has rfl 40 (.tmp 11) (.tmp 86) rfl w3.heap.size .u8 (rootOf d) (zeros 32) rfl rfl 40 H4 (by rw [rootOf_length]; exact Try.size40) (by rw [zeros_length, rootOf_length]) ?_; intro w5 H5 O5; have HB5 := hid (below_only (below_more HB3.out B4 (Nat.le_refl _)) O5 (by omega)); have s5 := O5.size; clear H4 B4 O5)
                | (refine wpList_load_has rfl 40 (.tmp 11) rfl w3.heap.size .u8 (rootOf d) rfl 40 H5 _ _ Try.und40 (by rw [rootOf_length]; exact Try.size40) ?_)
                | (refine wpList_one_root rfl 85 40 (.tmp 87) rfl Try.underlying85 Try.rootInfo (rootOf d) rfl (rootOf_length d) ?_; intro w6 H6 B6 S6))
              rw [show w5.heap.size = w3.heap.size + 1 by omega] at H6
              have s6 : w6.heap.size = w3.heap.size + 2 := by omega
              have HW6 := hid (HWS.out.below (below_more HB5.out B6 (Nat.le_refl _)))
              have HH5 := hid (H5.keep B6)
              obtain ⟨S, hW, hx1, hx2⟩ := HW6.out.hw
              have HX := hid (And.intro hx1 hx2)
              have HC := hid (root_wr w2.heap.size S xs (rootOf d) (w3.heap.size + 1) w6 hW (by omega) (by omega) (rootOf_length d) (rootOf_byte h8) H6)
              clear H5 H6 B6 hW hx1 hx2
              refine HC.out.mono ?_
              rintro e w7 ⟨⟨u7, rfl⟩, q1, q2⟩
              have HW7 := hid (HW6.out.put S HX.out.1 HX.out.2 q1 q2)
              have s7 := q2.size
              have H7 : Has w7 w3.heap.size 40 .u8 (rootOf d) := (q2.block w3.heap.size (by omega) (fun e => by have := Option.some.inj e; omega)).trans HH5.out
              have I7 : IsB w7 (.slice (some ⟨w3.heap.size, 0, none⟩) 32 32) (rootOf d) := by
                have := (H7.row' (Nat.le_refl _) (by rw [rootOf_length]; decide)).isB (rootOf_byte h8)
                rw [rootOf_length] at this
                exact this
              have HI7 := hid I7.src
              clear q1 q2 H7 I7 HC HX HH5 HW6
              go_wp2_with (refine wpList_append_b rfl (.tmp 90) (.tmp 91) 30 rfl (w2.heap.size + 1) (.slice ao1 A.length cap1) A rfl (by exact HW7.out.rx) (.slice (some ⟨w3.heap.size, 0, none⟩) 32 32) (rootOf d) rfl (by exact HI7.out) (by rw [rootOf_length]; omega) (by omega) ?_; intro v8 w8 t1 t2 t3; have HW8 := hid (HW7.out.appX t1 t2 t3); clear t1 t2 t3)
              go_roundw
              case rel => exact ⟨k + 1, by omega, by go_num, by rw [HA1.out, HB1.out, HXS.out]; exact HW8.out⟩
              case measure => simp [intOf]; omega
            · have hc' : (m : Int) % 4 = 3 := by omega
              have hw1 : wfk = (d, true) := by rw [HWF.out]; simp [hc]
              subst hw1
              clear HWF
              simp only [if_true] at HA1 HB1
              have HO : Hid (Row ((wr.alloc (.cells #[.int .i64 kd, .int .u64 (fn : Nat), .slice ao2 d.length cap2] 33)).alloc (.cells #[] 5)) (wr.heap.size + 1) (.slice (some ⟨wr.heap.size + 1, 0, none⟩) 0 0) []) := by
                have := own_bytes (wr.alloc (.cells #[.int .i64 kd, .int .u64 (fn : Nat), .slice ao2 d.length cap2] 33))
                rw [World.size_alloc] at this
                exact this
              have HB2' : Hid (Below wr.heap.size wr ((wr.alloc (.cells #[.int .i64 kd, .int .u64 (fn : Nat), .slice ao2 d.length cap2] 33)).alloc (.cells #[] 5))) := HBA.out.alloc (by simp) _
              have HF2 : Hid (((wr.alloc (.cells #[.int .i64 kd, .int .u64 (fn : Nat), .slice ao2 d.length cap2] 33)).alloc (.cells #[] 5)).heap[wr.heap.size]? = some (.cells #[.int .i64 kd, .int .u64 (fn : Nat), .slice ao2 d.length cap2] 33 (0, 0))) := (((Below.refl _ (wr.alloc (.cells #[.int .i64 kd, .int .u64 (fn : Nat), .slice ao2 d.length cap2] 33))).alloc (Nat.le_refl _) (.cells #[] 5)).block wr.heap.size (by simp)).trans HFB.out
              have hsE : ((wr.alloc (.cells #[.int .i64 kd, .int .u64 (fn : Nat), .slice ao2 d.length cap2] 33)).alloc (.cells #[] 5)).heap.size = wr.heap.size + 2 := by simp
              go_wp2_with (refine wpList_append_b rfl (.tmp 44) (.tmp 46) 30 rfl (wr.heap.size + 1) (.slice (some ⟨wr.heap.size + 1, 0, none⟩) 0 0) [] rfl (by exact HO.out) (.slice ao2 d.length cap2) d rfl (by exact ((HI.out.keep HWS.out.bel).keep HB2'.out).src) (by simp; omega) (by simp) ?_; intro v3 w3 r1 r2 r3)
              replace r2 : ((wr.alloc (.cells #[.int .i64 kd, .int .u64 (fn : Nat), .slice ao2 d.length cap2] 33)).alloc (.cells #[] 5)).grownBy w3 (some (wr.heap.size + 1)) := r2
              have s3 := r2.size
              rw [hsE] at s3
              have B3 : Below wr.heap.size wr w3 := HB2'.out.grown r2 HB2'.out.size (fun j e => by cases e; omega)
              have W3 := HWS.out.below B3
              have F3 : w3.heap[wr.heap.size]? = some (.cells #[.int .i64 kd, .int .u64 (fn : Nat), .slice ao2 d.length cap2] 33 (0, 0)) := (r2.block wr.heap.size (by rw [hsE]; omega) (fun e => by have := Option.some.inj e; omega)).trans HF2.out
              obtain ⟨S, hW, hx1, hx2⟩ := W3.hw
              have HC := hid (part_wr w2.heap.size S xs v3 d w3 hW (r1.isB h8) (by omega) (by omega))
              have HW3 := hid W3
              have HF3 := hid F3
              have HX := hid (And.intro hx1 hx2)
              clear r1 r2 r3 B3 W3 F3 hW hx1 hx2 HO HB2' HF2 hsE
              refine HC.out.mono ?_
              rintro e w4 ⟨⟨u4, rfl⟩, q1, q2⟩
              have W4 := HW3.out.put S HX.out.1 HX.out.2 q1 q2
              have F4 : w4.heap[wr.heap.size]? = some (.cells #[.int .i64 kd, .int .u64 (fn : Nat), .slice ao2 d.length cap2] 33 (0, 0)) := (q2.block wr.heap.size (by omega) (fun e => by have := Option.some.inj e; omega)).trans HF3.out
              have s4 := q2.size
              have c4 : w4.cell? ⟨wr.heap.size, 2, none⟩ = some (.slice ao2 d.length cap2) := cell_of_row w4 _ 2 _ _ (0, 0) F4
              have HW4 := hid W4
              have HF4 := hid F4
              clear q1 q2 W4 F4 HC HW3 HF3 HX
              go_wp2_with fail
              refine (refput_le _ (sz + B.length) 4 (by omega) (by omega) (by decide) w4).mono ?_
              rintro e w5 ⟨v5, rfl, R5, B5⟩
              have HW5 := hid (HW4.out.below B5)
              have HR5 := hid (R5.isB (le_byte _ 4)).src
              have s5 := B5.size
              have HF5 := hid ((B5.block wr.heap.size (by omega)).trans HF4.out)
              have HLX := hid (fun j hj => (HWS.out.rx.lt j hj).2)
              clear R5 B5
              go_wp2_with (first
                | (refine wpList_append_b rfl (.tmp 49) (.tmp 55) 30 rfl (w2.heap.size + 1) (.slice ao1 A.length cap1) A rfl (by exact HW5.out.rx) v5 (le (sz + B.length) 4) rfl (by exact HR5.out) (by rw [le_length]; omega) (by omega) ?_; intro v6 w6 t1 t2 t3; have HW6 := hid (HW5.out.appX t1 t2 t3); have s6 := t2.size; have c6 : w6.cell? ⟨wr.heap.size, 2, none⟩ = some (.slice ao2 d.length cap2) := cell_of_row w6 _ 2 _ _ (0, 0) ((t2.block wr.heap.size (by omega) (fun e => by have := HLX.out _ e.symm; omega)).trans HF5.out); clear t1 t2 t3)
                | (refine wpList_append_b rfl (.tmp 57) (.tmp 59) 30 rfl (w2.heap.size + 1) (.slice ao3 B.length cap3) B rfl (by exact HW6.out.rr) (.slice ao2 d.length cap2) d rfl (by exact (HI.out.keep HW6.out.bel).src) (by omega) (by omega) ?_; intro v7 w7 t1 t2 t3; have HW7 := hid (HW6.out.appR t1 t2 t3); clear t1 t2 t3))
              go_roundw
              case rel => exact ⟨k + 1, by omega, by go_num, by rw [HA1.out, HB1.out, HXS.out]; exact HW7.out⟩
              case measure => simp [intOf]; omega
          · obtain rfl : k = fs.length := by omega
            rw [List.take_length] at hWS
            obtain ⟨S, hW, _, _⟩ := hWS.hw
            have h8 : ∀ f ∈ fs.map wf, ∀ z ∈ f.1, z < 256 := by
              obtain ⟨⟨rs, q, _, _, hH⟩, _, _⟩ := hW
              intro f hf
              exact hH.byte f (List.mem_reverse.2 hf)
            have hA8 := frontB_byte h8 sz
            have hB8 := backB_byte h8
            have hC8 : ∀ z ∈ cont (fs.map wf), z < 256 := fun z hz => by
              unfold cont at hz
              rcases List.mem_append.1 hz with hz | hz
              · exact frontB_byte h8 _ z hz
              · exact hB8 z hz
            have HS : Same (strOf (cont (fs.map wf))) (strOf (frontB sz (fs.map wf)) ++ strOf (backB (fs.map wf))) := ⟨by unfold cont; rw [HSZ.out, strOf_append]⟩
            have hlW := lenW fs (fun f hf => by
              obtain ⟨i, hi, rfl⟩ := List.mem_iff_getElem.1 hf
              exact HDL.out i _ (List.getElem?_eq_getElem hi))
            have hAB : (strOf (frontB sz (fs.map wf))).size + (strOf (backB (fs.map wf))).size ≤ 9223372036854775807 := by
              rw [strOf_size, strOf_size, frontB_length, HSZ.out]
              have := backB_le (fs.map wf)
              omega
            have HBy : Hid (∀ wq, Cls wr wq → Calls Try.prog 17 #[.pointer (some ⟨w2.heap.size, 0, none⟩)] wq fun e w' => ∃ v, e = .returned v ∧ IsB w' v (cont (fs.map wf)) ∧ Below wq.heap.size wq w') := fun wq hq => by
              refine (bytes_any w2.heap.size S (fs.map wf) wq (hW.below hq.bel) (by simp; omega) (by omega)).mono ?_
              rintro e w' ⟨v, rfl, r1, r2⟩
              exact ⟨v, rfl, r1.isB hC8, r2⟩
            have HX : Hid (∀ wq, Cls wr wq → IsB wq _ _) := fun wq hq => (hWS.rx.isB hA8).keep hq.bel
            have HR : Hid (∀ wq, Cls wr wq → IsB wq _ _) := fun wq hq => (hWS.rr.isB hB8).keep hq.bel
            have HBel := hid hWS.bel
            clear hWS hW h8 hA8 hB8 hC8 hlW hlt HLW HDL h4 HHW HSZ
            generalize cont (fs.map wf) = C at *
            generalize frontB sz (fs.map wf) = A at *
            generalize backB (fs.map wf) = B at *
            go_wp2_with fail
            refine wp_region_flow_guarded 18 18 (fun i v wq => match i with
              | 0 => IsB wq v C
              | 1 => v = .string (strOf C)
              | 2 => v = u4
              | 3 => v = .string (strOf A)
              | 4 => v = u5
              | 5 => v = .string (strOf B)
              | 6 => v = .string (strOf C)
              | 7 => v = .bool true
              | 8 => v = .bool true
              | 9 => IsB wq v C
              | 10 => v = .string (strOf C)
              | 11 => v = u4
              | 12 => v = .string (strOf A)
              | 13 => v = u5
              | 14 => v = .string (strOf B)
              | 15 => v = .string (strOf C)
              | 16 => v = .bool true
              | _ => v = .bool true) (by kernel_rfl) (by kernel_rfl) (fun _ d _ _ _ h => by cases d <;> exact h) ?_ ?_ ?_ ?_ ?_
            · intro i o g b hi ho hg v wq hv
              match i, hi with
              | 0, _ => cases ho; cases hg
              | 1, _ => cases ho; cases hg
              | 2, _ => cases ho; cases hg
              | 3, _ => cases ho; cases hg
              | 4, _ => cases ho; cases hg
              | 5, _ => cases ho; cases hg
              | 6, _ => cases ho; cases hg
              | 7, _ => cases ho; cases hg
              | 8, _ => cases ho; cases hg
              | 9, _ => cases ho; cases hg; exact hv
              | 10, _ => cases ho; cases hg; exact hv
              | 11, _ => cases ho; cases hg; exact hv
              | 12, _ => cases ho; cases hg; exact hv
              | 13, _ => cases ho; cases hg; exact hv
              | 14, _ => cases ho; cases hg; exact hv
              | 15, _ => cases ho; cases hg; exact hv
              | 16, _ => cases ho; cases hg; exact hv
              | 17, _ => cases ho; cases hg
              | (k + 18), hk => exact absurd hk (by omega)
            · intro i v wq wq' hi hv hb
              match i, hi with
              | 0, _ => exact hv.keep hb
              | 1, _ => exact hv
              | 2, _ => exact hv
              | 3, _ => exact hv
              | 4, _ => exact hv
              | 5, _ => exact hv
              | 6, _ => exact hv
              | 7, _ => exact hv
              | 8, _ => exact hv
              | 9, _ => exact hv.keep hb
              | 10, _ => exact hv
              | 11, _ => exact hv
              | 12, _ => exact hv
              | 13, _ => exact hv
              | 14, _ => exact hv
              | 15, _ => exact hv
              | 16, _ => exact hv
              | 17, _ => exact hv
              | (k + 18), hk => exact absurd hk (by omega)
            · intro i o hi ho aq wq hc hk hdep
              match i, hi with
              | 0, _ =>
                cases ho
                refine flow_fun 17 _ _ rfl (fun _ _ => by simp [go_sem]) #[.pointer (some ⟨w2.heap.size, 0, none⟩)] (by rw [show (#[Operand.tmp 3] : Array Operand).map aq.eval = #[aq.tmps.getD 3 undef] from by simp [Act.eval], hk 3 (by decide)]; rfl) ?_
                exact HBy.out wq hc
              | 1, _ =>
                cases ho
                have e0 : IsB wq (aq.tmps.getD 94 undef) C := hdep 0 94 rfl (by kernel_rfl)
                exact flow_value _ (run_conv (.tmp 94) rfl e0) rfl
              | 2, _ =>
                cases ho
                exact flow_move (.tmp 4) rfl (hk 4 (by decide))
              | 3, _ =>
                cases ho
                have e0 : aq.tmps.getD 96 undef = u4 := hdep 2 96 rfl (by kernel_rfl)
                exact flow_value _ (run_conv (.tmp 96) rfl (by show IsB wq (aq.tmps.getD 96 undef) A; rw [e0]; exact HX.out wq hc)) rfl
              | 4, _ =>
                cases ho
                exact flow_move (.tmp 5) rfl (hk 5 (by decide))
              | 5, _ =>
                cases ho
                have e0 : aq.tmps.getD 98 undef = u5 := hdep 4 98 rfl (by kernel_rfl)
                exact flow_value _ (run_conv (.tmp 98) rfl (by show IsB wq (aq.tmps.getD 98 undef) B; rw [e0]; exact HR.out wq hc)) rfl
              | 6, _ =>
                cases ho
                have e0 : aq.tmps.getD 97 undef = .string (strOf A) := hdep 3 97 rfl (by kernel_rfl)
                have e1 : aq.tmps.getD 99 undef = .string (strOf B) := hdep 5 99 rfl (by kernel_rfl)
                exact flow_value _ (run_adds (.tmp 97) (.tmp 99) rfl e0 e1 hAB) (congrArg Value.string HS.out.symm)
              | 7, _ =>
                cases ho
                have e0 : aq.tmps.getD 95 undef = .string (strOf C) := hdep 1 95 rfl (by kernel_rfl)
                have e1 : aq.tmps.getD 100 undef = .string (strOf C) := hdep 6 100 rfl (by kernel_rfl)
                exact flow_value _ (run_eqs (.tmp 95) (.tmp 100) rfl e0 e1) rfl
              | 8, _ =>
                cases ho
                exact flow_move (.tmp 101) rfl (hdep 7 101 rfl (by kernel_rfl))
              | 9, _ =>
                cases ho
                refine flow_fun 17 _ _ rfl (fun _ _ => by simp [go_sem]) #[.pointer (some ⟨w2.heap.size, 0, none⟩)] (by rw [show (#[Operand.tmp 3] : Array Operand).map aq.eval = #[aq.tmps.getD 3 undef] from by simp [Act.eval], hk 3 (by decide)]; rfl) ?_
                exact HBy.out wq hc
              | 10, _ =>
                cases ho
                have e0 : IsB wq (aq.tmps.getD 103 undef) C := hdep 9 103 rfl (by kernel_rfl)
                exact flow_value _ (run_conv (.tmp 103) rfl e0) rfl
              | 11, _ =>
                cases ho
                exact flow_move (.tmp 4) rfl (hk 4 (by decide))
              | 12, _ =>
                cases ho
                have e0 : aq.tmps.getD 105 undef = u4 := hdep 11 105 rfl (by kernel_rfl)
                exact flow_value _ (run_conv (.tmp 105) rfl (by show IsB wq (aq.tmps.getD 105 undef) A; rw [e0]; exact HX.out wq hc)) rfl
              | 13, _ =>
                cases ho
                exact flow_move (.tmp 5) rfl (hk 5 (by decide))
              | 14, _ =>
                cases ho
                have e0 : aq.tmps.getD 107 undef = u5 := hdep 13 107 rfl (by kernel_rfl)
                exact flow_value _ (run_conv (.tmp 107) rfl (by show IsB wq (aq.tmps.getD 107 undef) B; rw [e0]; exact HR.out wq hc)) rfl
              | 15, _ =>
                cases ho
                have e0 : aq.tmps.getD 106 undef = .string (strOf A) := hdep 12 106 rfl (by kernel_rfl)
                have e1 : aq.tmps.getD 108 undef = .string (strOf B) := hdep 14 108 rfl (by kernel_rfl)
                exact flow_value _ (run_adds (.tmp 106) (.tmp 108) rfl e0 e1 hAB) (congrArg Value.string HS.out.symm)
              | 16, _ =>
                cases ho
                have e0 : aq.tmps.getD 104 undef = .string (strOf C) := hdep 10 104 rfl (by kernel_rfl)
                have e1 : aq.tmps.getD 109 undef = .string (strOf C) := hdep 15 109 rfl (by kernel_rfl)
                exact flow_value _ (run_eqs (.tmp 104) (.tmp 109) rfl e0 e1) rfl
              | 17, _ =>
                cases ho
                have e0 : aq.tmps.getD 102 undef = .bool true := hdep 8 102 rfl (by kernel_rfl)
                have e1 : aq.tmps.getD 110 undef = .bool true := hdep 16 110 rfl (by kernel_rfl)
                exact flow_value _ (run_pickb (.tmp 102) (.tmp 110) rfl e0 e1) rfl
              | (k + 18), hk => exact absurd hk (by omega)
            · intro o h18 ho
              omega
            intro vf w8 hc hv
            have e17 : vf 17 = _ := hv 17 111 (by decide) rfl
            clear hv
            simp only [List.take_succ_cons, List.take_zero, List.drop_succ_cons, List.drop_zero, putAll, Act.put, List.setIfInBounds_toArray, List.set_cons_succ, List.set_cons_zero]
            rw [e17]
            clear e17
            go_wp2_with fail
            go_ret
            exact ⟨rfl, below_more HBel.out hc.bel (Nat.le_refl _)⟩
  · go_wp2
    go_ret
    exact ⟨rfl, HB2.out⟩
end Go.Proofs.Ytidkjpfdclkccaa
