/- Own texts of the proof, joined: IxF KdAs VIn5 VICp5 VIVt5 VIIx5 VIAs5 As5 Open5i Open5s. -/
import Derived.Test.YtpaamhmighgjeaaGreatH5
import Derived.ProofKit
import Derived.OpenShut
import Derived.ShutString
import Derived.ChangeOld
import Derived.Deep.Slices
import Derived.SevenTiedAt
import Derived.Stop.Joined
import Derived.Deep.Grids
/- An Indexed's bytes, and what is read of them. -/
namespace Go.Proofs.YtpaamhmighgjeaaGreat
open Go.RowKit
set_option linter.unusedVariables false
set_option linter.unusedSimpArgs false
set_option maxRecDepth 100000

/-- A list of numbers: its bytes by the document. -/
theorem encK_nums : ∀ l : List Nat, encK (List.replicate l.length dNum) (l.map fun n => .mk n (zeros 32) [] []) = numF l
  | [] => rfl
  | n :: l => by
    have e : encV dNum (.mk n (zeros 32) [] []) = le n 8 := by simp [dNum, encV]
    simp only [List.length_cons, List.replicate_succ, List.map_cons, encK, encK_nums l, e]
    rfl
theorem encV_nums (l : List Nat) : encV dNums (numsV l) = bytesN l := by
  have e : encV dNums (numsV l) = cont (encK (kdsV 5 [dNum] (l.map fun n => (Vt.mk n (zeros 32) [] [])).length) (l.map fun n => .mk n (zeros 32) [] [])) := by
    unfold dNums numsV
    rw [encV]
    simp
  rw [e, List.length_map]
  show cont (encK (List.replicate l.length dNum) _) = _
  rw [encK_nums, cont_numF]
theorem sizeD_nums : sizeD dNums = -1 := by simp [dNums, sizeD]
theorem okK_nums : ∀ l : List Nat, okK (List.replicate l.length dNum) (l.map fun n => .mk n (zeros 32) [] [])
  | [] => trivial
  | n :: l => by
    simp only [List.length_cons, List.replicate_succ, List.map_cons, okK]
    exact ⟨by simp [dNum, okV, okK, encK, kdsV, lenF], okK_nums l⟩
theorem okV_nums (l : List Nat) (hl : l.length ≤ 500) : okV dNums (numsV l) := by
  unfold dNums numsV
  rw [okV]
  refine ⟨(by simp), (by simp; omega), (fun h => (by cases h)), (fun _ => (by simp)), ?_, ?_⟩
  · rw [List.length_map]
    show lenF (encK (List.replicate l.length dNum) _) ≤ _
    rw [encK_nums, lenF_numF]
    omega
  · rw [List.length_map]
    exact okK_nums l
theorem isN_oneCell {w : World} {u : Value} {l : List Nat} (h : IsN w u l) : u.oneCell' = true := by
  obtain ⟨⟨ao, cap, rfl, _⟩, _⟩ := h
  rfl
theorem isN_nil (w : World) : IsN w nilS [] := ⟨⟨none, 0, rfl, Nat.le_refl _, by decide, .inl rfl⟩, fun _ h => absurd h List.not_mem_nil⟩
/-- An Indexed's bytes. -/
def ixBS (l : List Nat) (sl : Nat) (ix : Nat) (b : List Nat) (es : Nat) (rs : List Nat) (et : Nat) (rt : List Nat) (sg : List Nat) : List Nat := le 164 4 ++ (le sl 8 ++ (le ix 8 ++ (b ++ (le es 8 ++ (rs ++ (le et 8 ++ (rt ++ (sg ++ (bytesN l)))))))))
theorem ixB (l : List Nat) (sl : Nat) (ix : Nat) (b : List Nat) (es : Nat) (rs : List Nat) (et : Nat) (rt : List Nat) (sg : List Nat) (hb : b.length = 32) (hrs : rs.length = 32) (hrt : rt.length = 32) (hsg : sg.length = 32) : cont ([(bytesN l, true)] ++ (vtF sl ix b es rs et rt ++ rootF [sg])) = ixBS l sl ix b es rs et rt sg := by
  have h : szF ([(bytesN l, true)] ++ (vtF sl ix b es rs et rt ++ rootF [sg])) = 164 := by simp [szF, sz1, vtF, cpF, numF, rootF, le_length, hb, hrs, hrt, hsg]
  unfold cont
  rw [h]
  simp [ixBS, vtF, cpF, numF, rootF, frontB, backB]
theorem ixK_ok : okD (dBox [dNums, dBox [dNum, dNum, dRoot, dBox [dNum, dRoot], dBox [dNum, dRoot]], dRoot]) := by simp [okD, okDs, dBox, dNum, dRoot, dNums, small, sizeD, sizeS, sizeH]
theorem ixV_enc (ao : Option Addr) (c : Nat) (l : List Nat) (sl : Nat) (ix : Nat) (b : List Nat) (es : Nat) (rs : List Nat) (et : Nat) (rt : List Nat) (sg : List Nat) (hb : b.length = 32) (hrs : rs.length = 32) (hrt : rt.length = 32) (hsg : sg.length = 32) : encV (dBox [dNums, dBox [dNum, dNum, dRoot, dBox [dNum, dRoot], dBox [dNum, dRoot]], dRoot]) (ixV6 ao c l sl ix b es rs et rt sg) = ixBS l sl ix b es rs et rt sg := by
  have hp := bytesN_length l
  simp [encV_nums, sizeD_nums, dBox, dNum, dRoot, ixV6, vtV6, cpV6, encV, encK, kdsV, sizeD, sizeS, sizeH, cont, szF, sz1, frontB, backB, ixBS, le_length, hb, hrs, hrt, hsg]
theorem ixV_ok (ao : Option Addr) (c : Nat) (l : List Nat) (sl : Nat) (ix : Nat) (b : List Nat) (es : Nat) (rs : List Nat) (et : Nat) (rt : List Nat) (sg : List Nat) (hl : l.length ≤ 500) (hb : b.length = 32) (hrs : rs.length = 32) (hrt : rt.length = 32) (hsg : sg.length = 32) : okV (dBox [dNums, dBox [dNum, dNum, dRoot, dBox [dNum, dRoot], dBox [dNum, dRoot]], dRoot]) (ixV6 ao c l sl ix b es rs et rt sg) := by
  have hp := bytesN_length l
  have ho := okV_nums l hl
  simp [encV_nums, sizeD_nums, ho, dBox, dNum, dRoot, ixV6, vtV6, cpV6, okV, okK, encV, encK, kdsV, sizeD, sizeS, sizeH, lenF, cont, szF, sz1, frontB, backB, le_length, hb, hrs, hrt, hsg]
  omega
theorem ix_read (l : List Nat) (sl : Nat) (ix : Nat) (b : List Nat) (es : Nat) (rs : List Nat) (et : Nat) (rt : List Nat) (sg : List Nat) (hsl : sl < 18446744073709551616) (hix : ix < 18446744073709551616) (hes : es < 18446744073709551616) (het : et < 18446744073709551616) (hb : b.length = 32) (hrs : rs.length = 32) (hrt : rt.length = 32) (hsg : sg.length = 32) : atG (ixBS l sl ix b es rs et rt sg) = true ∧ (ixBS l sl ix b es rs et rt sg).drop 164 = bytesN l ∧ atV (ixBS l sl ix b es rs et rt sg) = vtC sl ix b es rs et rt ∧ atR (ixBS l sl ix b es rs et rt sg) = sg := by
  obtain ⟨y, hy, hyl⟩ : ∃ y, le 164 4 = y ∧ y.length = 4 := ⟨_, rfl, le_length _ _⟩
  have ey : tk y = 164 := by rw [← hy]; exact tk_le4 164 (by decide)
  obtain ⟨y0, hy0, hyn0⟩ : ∃ y, le sl 8 = y ∧ y.length = 8 := ⟨_, rfl, le_length _ _⟩
  have e0 : tk y0 = sl := by rw [← hy0]; exact tk_le8 sl hsl
  obtain ⟨y1, hy1, hyn1⟩ : ∃ y, le ix 8 = y ∧ y.length = 8 := ⟨_, rfl, le_length _ _⟩
  have e1 : tk y1 = ix := by rw [← hy1]; exact tk_le8 ix hix
  obtain ⟨y3, hy3, hyn3⟩ : ∃ y, le es 8 = y ∧ y.length = 8 := ⟨_, rfl, le_length _ _⟩
  have e3 : tk y3 = es := by rw [← hy3]; exact tk_le8 es hes
  obtain ⟨y5, hy5, hyn5⟩ : ∃ y, le et 8 = y ∧ y.length = 8 := ⟨_, rfl, le_length _ _⟩
  have e5 : tk y5 = et := by rw [← hy5]; exact tk_le8 et het
  obtain ⟨P, hP⟩ : ∃ P, bytesN l = P := ⟨_, rfl⟩
  obtain ⟨BS, hBS⟩ : ∃ B, ixBS l sl ix b es rs et rt sg = B := ⟨_, rfl⟩
  have hBe : BS = y ++ (y0 ++ (y1 ++ (b ++ (y3 ++ (rs ++ (y5 ++ (rt ++ (sg ++ (P))))))))) := by rw [← hBS]; unfold ixBS; rw [hy, hy0, hy1, hy3, hy5, hP]
  rw [hBS, hP]
  have hl : 164 ≤ BS.length := by rw [hBe]; simp [hyl, hyn0, hyn1, hb, hyn3, hrs, hyn5, hrt, hsg]; omega
  have d0 : BS.drop 0 = y ++ (y0 ++ (y1 ++ (b ++ (y3 ++ (rs ++ (y5 ++ (rt ++ (sg ++ (P))))))))) := by rw [List.drop_zero]; exact hBe
  have d1 : BS.drop 4 = y0 ++ (y1 ++ (b ++ (y3 ++ (rs ++ (y5 ++ (rt ++ (sg ++ (P)))))))) := by rw [show (4 : Nat) = 0 + 4 from rfl, ← List.drop_drop, d0]; exact List.drop_left' hyl
  have d2 : BS.drop 12 = y1 ++ (b ++ (y3 ++ (rs ++ (y5 ++ (rt ++ (sg ++ (P))))))) := by rw [show (12 : Nat) = 4 + 8 from rfl, ← List.drop_drop, d1]; exact List.drop_left' hyn0
  have d3 : BS.drop 20 = b ++ (y3 ++ (rs ++ (y5 ++ (rt ++ (sg ++ (P)))))) := by rw [show (20 : Nat) = 12 + 8 from rfl, ← List.drop_drop, d2]; exact List.drop_left' hyn1
  have d4 : BS.drop 52 = y3 ++ (rs ++ (y5 ++ (rt ++ (sg ++ (P))))) := by rw [show (52 : Nat) = 20 + 32 from rfl, ← List.drop_drop, d3]; exact List.drop_left' hb
  have d5 : BS.drop 60 = rs ++ (y5 ++ (rt ++ (sg ++ (P)))) := by rw [show (60 : Nat) = 52 + 8 from rfl, ← List.drop_drop, d4]; exact List.drop_left' hyn3
  have d6 : BS.drop 92 = y5 ++ (rt ++ (sg ++ (P))) := by rw [show (92 : Nat) = 60 + 32 from rfl, ← List.drop_drop, d5]; exact List.drop_left' hrs
  have d7 : BS.drop 100 = rt ++ (sg ++ (P)) := by rw [show (100 : Nat) = 92 + 8 from rfl, ← List.drop_drop, d6]; exact List.drop_left' hyn5
  have d8 : BS.drop 132 = sg ++ (P) := by rw [show (132 : Nat) = 100 + 32 from rfl, ← List.drop_drop, d7]; exact List.drop_left' hrt
  have d9 : BS.drop 164 = P := by rw [show (164 : Nat) = 132 + 32 from rfl, ← List.drop_drop, d8]; exact List.drop_left' hsg
  have t0 : (BS.drop 0).take 4 = y := by rw [d0]; exact List.take_left' hyl
  have t1 : (BS.drop 4).take 8 = y0 := by rw [d1]; exact List.take_left' hyn0
  have t2 : (BS.drop 12).take 8 = y1 := by rw [d2]; exact List.take_left' hyn1
  have t3 : (BS.drop 20).take 32 = b := by rw [d3]; exact List.take_left' hb
  have t4 : (BS.drop 52).take 8 = y3 := by rw [d4]; exact List.take_left' hyn3
  have t5 : (BS.drop 60).take 32 = rs := by rw [d5]; exact List.take_left' hrs
  have t6 : (BS.drop 92).take 8 = y5 := by rw [d6]; exact List.take_left' hyn5
  have t7 : (BS.drop 100).take 32 = rt := by rw [d7]; exact List.take_left' hrt
  have t8 : (BS.drop 132).take 32 = sg := by rw [d8]; exact List.take_left' hsg
  have hlt : decide (BS.length < 164) = false := by simp; omega
  have hW : partW BS 164 0 [] false = false := by
    unfold partW partP folB
    have h4 : fixB BS 164 0 4 false = y := by unfold fixB fixW; simp; exact t0
    rw [h4, ey]
    rfl
  refine ⟨?_, d9, ?_, ?_⟩
  · unfold atG
    rw [hlt, hW]
    rfl
  · unfold atV
    rw [hlt, hW, show fixT 164 0 4 false = 4 from rfl]
    have t : vtTake BS 164 (4, false) = vtC (tk ((BS.drop 4).take 8)) (tk ((BS.drop 12).take 8)) ((BS.drop 20).take 32) (tk ((BS.drop 52).take 8)) ((BS.drop 60).take 32) (tk ((BS.drop 92).take 8)) ((BS.drop 100).take 32) := rfl
    rw [t, t1, t2, t3, t4, t5, t6, t7, e0, e1, e3, e5]
  · unfold atR
    rw [hlt, hW, show fixT 164 0 4 false = 4 from rfl]
    have t : rootAt BS 164 (vtS 164 (4, false)) = (BS.drop 132).take 32 := rfl
    rw [t, t8]
theorem ixC_six (ao : Option Addr) (c : Nat) (l : List Nat) (sl ix : Nat) (b : List Nat) (es : Nat) (rs : List Nat) (et : Nat) (rt sg : List Nat) : ixC6 ao c l sl ix b es rs et rt sg = atC (.slice ao l.length c) (vtC sl ix b es rs et rt) sg := by
  simp [ixC6, ixP6, vtC6, vtP6, cpC6, cpP6, atC, vtC, cpC]
theorem ixBS_len (l : List Nat) (sl ix : Nat) (b : List Nat) (es : Nat) (rs : List Nat) (et : Nat) (rt sg : List Nat) (hl : l.length ≤ 500) (hb : b.length = 32) (hrs : rs.length = 32) (hrt : rt.length = 32) (hsg : sg.length = 32) : (ixBS l sl ix b es rs et rt sg).length ≤ 100000000000 := by
  have hp := bytesN_length l
  simp [ixBS, le_length, hb, hrs, hrt, hsg]
  omega
theorem ixBS_byte (l : List Nat) (sl ix : Nat) (b : List Nat) (es : Nat) (rs : List Nat) (et : Nat) (rt sg : List Nat) (hb8 : ∀ z ∈ b, z < 256) (hrs8 : ∀ z ∈ rs, z < 256) (hrt8 : ∀ z ∈ rt, z < 256) (hsg8 : ∀ z ∈ sg, z < 256) : ∀ z ∈ ixBS l sl ix b es rs et rt sg, z < 256 := by
  intro z hz
  unfold ixBS at hz
  simp only [List.mem_append] at hz
  rcases hz with hz | hz | hz | hz | hz | hz | hz | hz | hz | hz
  · exact le_byte _ _ z hz
  · exact le_byte _ _ z hz
  · exact le_byte _ _ z hz
  · exact hb8 z hz
  · exact le_byte _ _ z hz
  · exact hrs8 z hz
  · exact le_byte _ _ z hz
  · exact hrt8 z hz
  · exact hsg8 z hz
  · exact bytesN_byte l z hz
end Go.Proofs.YtpaamhmighgjeaaGreat

/- The document's kind of an AttesterSlashing. -/
namespace Go.Proofs.YtpaamhmighgjeaaGreat
open Go.RowKit Go.Shelf
set_option linter.unusedVariables false
set_option maxRecDepth 100000

/-- The kind of an Indexed. -/
abbrev dIx : Dt := dBox [dNums, dBox [dNum, dNum, dRoot, dBox [dNum, dRoot], dBox [dNum, dRoot]], dRoot]
set_option maxHeartbeats 2000000 in
theorem das_any (w : World) : Calls Tryz.prog 16 #[] w fun x w' => ∃ p, x = .returned (.pointer (some ⟨p, 0, none⟩)) ∧ DAt w' (dBox [dIx, dIx]) p ∧ Below w.heap.size w w' := by
  go_enter Tryz.func16, Tryz.ntmps16
  go_wp2_with fail
  refine (dix_any w).mono ?_
  rintro e w1 ⟨p0, rfl, q1, q2⟩
  have HD0 := hid q1
  have HB1 := hid q2
  clear q1 q2
  go_wp2_with fail
  refine (dix_any w1).mono ?_
  rintro e w2 ⟨p1, rfl, q1, q2⟩
  have HD00 := hid (DAt.keep q2 _ HD0.out)
  have HD1 := hid q1
  have HB2 := hid (HB1.out.trans (q2.mono HB1.out.size))
  clear q1 q2 HB1 HD0
  go_wp2_with fail
  have hB : Below w2.heap.size w2 (w2.alloc (.cells #[.pointer (some ⟨p0, 0, none⟩), .pointer (some ⟨p1, 0, none⟩)] 45)) := (Below.refl _ w2).alloc (Nat.le_refl _) _
  have h := heap_alloc_new w2 (.cells #[.pointer (some ⟨p0, 0, none⟩), .pointer (some ⟨p1, 0, none⟩)] 45)
  generalize w2.alloc (.cells #[.pointer (some ⟨p0, 0, none⟩), .pointer (some ⟨p1, 0, none⟩)] 45) = w4 at hB h ⊢
  have hD : DsAt w4 [dIx, dIx] w2.heap.size 0 := by
    rw [DsAt, DsAt, DsAt]
    exact ⟨⟨_, cell_of_row _ _ 0 _ _ (0, 0) h, DAt.keep hB _ HD00.out⟩, ⟨_, cell_of_row _ _ 1 _ _ (0, 0) h, DAt.keep hB _ HD1.out⟩, trivial⟩
  have HC := hid (box_any w2.heap.size 2 [dIx, dIx] w4 rfl (by decide) hD)
  have HBm := hid (HB2.out.trans (hB.mono HB2.out.size))
  clear hB h hD
  refine HC.out.mono ?_
  rintro e wz ⟨rfl, q1, q2⟩
  have X := hid (And.intro q1 q2)
  clear q1 q2 HC
  go_wp2
  go_ret
  exact ⟨_, rfl, X.out.1, HBm.out.trans (X.out.2.mono HBm.out.size)⟩
end Go.Proofs.YtpaamhmighgjeaaGreat

/- Values of the document, and which blocks they lie in: whoever leaves these as they are leaves the value as it is. -/
namespace Go.Proofs.YtpaamhmighgjeaaGreat
open Go.RowKit Go.Shelf
set_option linter.unusedVariables false
set_option linter.unusedSimpArgs false
set_option maxRecDepth 100000

/-- The second world has the first one's blocks, where P says so. -/
def Agr (P : Nat → Prop) (w w' : World) : Prop := ∀ b, P b → b < w.heap.size → w'.heap[b]? = w.heap[b]?
theorem Agr.refl (P : Nat → Prop) (w : World) : Agr P w w := fun _ _ _ => rfl
theorem Agr.below {P : Nat → Prop} {w w' w'' : World} (h : Agr P w' w'') (hb : Below w.heap.size w w') : Agr P w w'' := fun b hp hl => (h b hp (Nat.lt_of_lt_of_le hl hb.size)).trans (hb.block b hl)
theorem Agr.only {P : Nat → Prop} {w w' w'' : World} {g : Nat} (h : Agr P w' w'') (ho : Only g w w') : Agr (fun b => P b ∧ b ≠ g) w w'' := fun b hp hl => (h b hp.1 (by rw [ho.size]; exact hl)).trans (ho.block b hp.2)
theorem Agr.mono {P Q : Nat → Prop} {w w' : World} (h : Agr P w w') (hq : ∀ b, Q b → P b) : Agr Q w w' := fun b hb hl => h b (hq b hb) hl
/-- A value that lies in such blocks. -/
def VIn (P : Nat → Prop) (w : World) (x : Vt) (sb sk : Value) : Prop := ∀ w', Agr P w w' → VAt w' x sb sk
def KIn (P : Nat → Prop) (w : World) (ks : List Vt) (b off : Nat) : Prop := ∀ w', Agr P w w' → KsAt w' ks b off
def TIn (P : Nat → Prop) (w : World) (v : Value) (l : List Bool) : Prop := ∀ w', Agr P w w' → IsT w' v l
theorem VIn.at {P : Nat → Prop} {w : World} {x : Vt} {sb sk : Value} (h : VIn P w x sb sk) : VAt w x sb sk := h w (Agr.refl P w)
theorem VIn.keep {P : Nat → Prop} {w w' : World} {x : Vt} {sb sk : Value} (h : VIn P w x sb sk) (hb : Below w.heap.size w w') : VIn P w' x sb sk := fun w'' ha => h w'' (ha.below hb)
theorem VIn.only {P : Nat → Prop} {w w' : World} {x : Vt} {sb sk : Value} {g : Nat} (h : VIn (fun b => P b ∧ b ≠ g) w x sb sk) (ho : Only g w w') : VIn P w' x sb sk := fun w'' ha => h w'' (ha.only ho)
theorem VIn.mono {P Q : Nat → Prop} {w : World} {x : Vt} {sb sk : Value} (h : VIn P w x sb sk) (hq : ∀ b, P b → Q b) : VIn Q w x sb sk := fun w' ha => h w' (ha.mono hq)
theorem KIn.keep {P : Nat → Prop} {w w' : World} {ks : List Vt} {b off : Nat} (h : KIn P w ks b off) (hb : Below w.heap.size w w') : KIn P w' ks b off := fun w'' ha => h w'' (ha.below hb)
theorem KIn.only {P : Nat → Prop} {w w' : World} {ks : List Vt} {b off : Nat} {g : Nat} (h : KIn (fun b => P b ∧ b ≠ g) w ks b off) (ho : Only g w w') : KIn P w' ks b off := fun w'' ha => h w'' (ha.only ho)
theorem TIn.at {P : Nat → Prop} {w : World} {v : Value} {l : List Bool} (h : TIn P w v l) : IsT w v l := h w (Agr.refl P w)
theorem TIn.keep {P : Nat → Prop} {w w' : World} {v : Value} {l : List Bool} (h : TIn P w v l) (hb : Below w.heap.size w w') : TIn P w' v l := fun w'' ha => h w'' (ha.below hb)
/-- What lay there when the call began lies apart from its own variable. -/
theorem TIn.apart {P : Nat → Prop} {w wq : World} {v : Value} {l : List Bool} {g : Nat} (h : TIn P w v l) (hb : Below w.heap.size w wq) (hg : w.heap.size ≤ g) : TIn (fun b => P b ∧ b ≠ g) wq v l :=
  fun w'' ha => h w'' fun b hp hl => (ha b ⟨hp, by omega⟩ (Nat.lt_of_lt_of_le hl hb.size)).trans (hb.block b hl)
theorem TIn.apart1 {P P1 : Nat → Prop} {w : World} {v : Value} {l : List Bool} {g : Nat} (h : Same (fun b => P b ∧ b ≠ g) P1) (t : TIn (fun b => P b ∧ b ≠ g) w v l) : TIn P1 w v l := by rw [← h.out]; exact t
def IsVI (P : Nat → Prop) (w : World) (v : Value) (x : Vt) : Prop := ∃ sb sk, v = .agg (valL x.num x.root sb sk).toArray ∧ VIn P w x sb sk
theorem IsVI.keep {P : Nat → Prop} {w w' : World} {v : Value} {x : Vt} (h : IsVI P w v x) (hb : Below w.heap.size w w') : IsVI P w' v x := by
  obtain ⟨sb, sk, e, h⟩ := h
  exact ⟨sb, sk, e, h.keep hb⟩
theorem IsVI.isV {P : Nat → Prop} {w : World} {v : Value} {x : Vt} (h : IsVI P w v x) : IsV w v x := by
  obtain ⟨sb, sk, e, h⟩ := h
  exact ⟨sb, sk, e, h.at⟩
theorem IsVI.leaf (P : Nat → Prop) (w : World) {n : Nat} {r : List Nat} (hn : n < 18446744073709551616) (hr : r.length = 32) (h8 : ∀ z ∈ r, z < 256) : IsVI P w (.agg (valL n r nilS nilS).toArray) (.mk n r [] []) := ⟨nilS, nilS, rfl, fun w' _ => vAt_leaf w' hn hr h8⟩
theorem IsVI.bits {P : Nat → Prop} {w : World} {ao : Option Addr} {c : Nat} {l : List Bool} (h : TIn P w (.slice ao l.length c) l) : IsVI P w (.agg (valL 0 (zeros 32) (.slice ao l.length c) nilS).toArray) (.mk 0 (zeros 32) l []) := by
  refine ⟨_, nilS, rfl, fun w' ha => ?_⟩
  rw [VAt]
  exact ⟨⟨by decide, zeros32, zeros_byte 32⟩, h w' ha, none, 0, rfl, Nat.le_refl _, by decide, .inl rfl⟩
theorem HasC.agr {P : Nat → Prop} {w w' : World} {b : Nat} {t : TypeId} {cs : List Value} (h : HasC w b t cs) (ha : Agr P w w') (hp : P b) : HasC w' b t cs := by
  have hl := h.lt
  unfold HasC at h ⊢
  rw [ha b hp hl]
  exact h
theorem own_agr {P : Nat → Prop} {w w' : World} {base n s : Nat} {e : TypeId} {v : Value} {xs : List Value} (h : w.ownsRow base e s v n xs) (ha : Agr P w w') (hp : ∀ b, base ≤ b → P b) : w'.ownsRow base e s v n xs := by
  obtain ⟨h1, h2 | ⟨g, cap, cur, hv, hbg, hg, h3⟩⟩ := h
  · exact ⟨h1, .inl h2⟩
  · exact ⟨h1, .inr ⟨g, cap, cur, hv, hbg, by rw [ha g (hp g hbg) (Array.getElem?_eq_some_iff.1 hg).1]; exact hg, h3⟩⟩
/-- A row of values, made. -/
theorem kIn_of {P : Nat → Prop} {w w' : World} {t : TypeId} {cs : List Value} (hg : HasC w' w.heap.size t cs) (hb : Below w.heap.size w w') (hp : P w.heap.size) (xs : List (Vt × Value × Value)) (h : ∀ (j : Nat) (v : Value), (rowV xs).flatten[j]? = some v → cs[0 + j]? = some v) (hv : ∀ x ∈ xs, VIn P w x.1 x.2.1 x.2.2) : KIn P w' (xs.map (·.1)) w.heap.size 0 :=
  fun w'' ha => ksAt_of (hg.agr ha hp) xs 0 h (fun x hx => hv x hx w'' (ha.below hb))
theorem vIn_all {P : Nat → Prop} {w : World} {b k : Nat} {ks : List Vt} (hk : ks.length = k) (hm : k ≤ maxLen) (h : KIn P w ks b 0) : VIn P w (.mk 0 (zeros 32) [] ks) nilS (.slice (some ⟨b, 0, none⟩) k k) := fun w' ha => isV_all hk hm (h w' ha)
end Go.Proofs.YtpaamhmighgjeaaGreat

/- The document's value of a struct (Checkpoint), and where it lies. -/
namespace Go.Proofs.YtpaamhmighgjeaaGreat
open Go.RowKit Go.Shelf
set_option linter.unusedVariables false
set_option linter.unusedSimpArgs false
set_option maxRecDepth 100000

set_option maxHeartbeats 2000000 in
theorem cpW_any (P : Nat → Prop) (ze : Nat) (zr : List Nat) (hze : ze < 18446744073709551616) (hzr : Rt6 zr) (w : World) (hP : ∀ b, w.heap.size ≤ b → P b) : Calls Tryz.prog 63 #[.agg (cpC6 ze zr).toArray] w fun x w' => ∃ v, x = .returned v ∧ IsVI P w' v (cpV6 ze zr) ∧ Below w.heap.size w w' := by
  go_enter Tryz.func63, Tryz.ntmps63
  go_wp2_with ((with_reducible refine at_list' ?_); first
    | (refine wpList_box_c rfl 1 rfl (.tmp 0) rfl (cpC6 ze zr) rfl ?_; intro w1 H1 B1 S1)
    | (refine wpList_alloc_c Tryz.ty37 rfl 2 rfl rfl ?_; intro w2 H2 B2 S2; rw [S1] at H2 S2; rw [S1]))
  have HX := hid (H1.keep B2)
  have HY := hid H2
  have HB := hid (B1.trans (B2.mono (by omega)))
  have s2 : w2.heap.size = w.heap.size + 2 := by omega
  obtain ⟨P1, hP1⟩ : ∃ P1 : Nat → Prop, Same (fun b => P b ∧ b ≠ w.heap.size + 1) P1 := ⟨_, ⟨rfl⟩⟩
  have HP1 := hid (fun (wq : World) (h : w2.heap.size ≤ wq.heap.size) b (hb : wq.heap.size ≤ b) => show P1 b by rw [← hP1.out]; exact ⟨hP b (by omega), by omega⟩)
  clear H1 B1 S1 H2 B2 S2
  try simp only [Act.put, List.setIfInBounds_toArray, List.set_cons_succ, List.set_cons_zero]
  refine wp_region_flow 8 8 (fun i v wq => match i with
    | 0 => v = .pointer (some ⟨w.heap.size, 0, none⟩)
    | 1 => v = .int .u64 (ze : Nat)
    | 2 => IsVI P1 wq v (.mk ze (zeros 32) [] [])
    | 3 => v = .pointer (some ⟨w.heap.size, 1, none⟩)
    | 4 => v = .agg (nums .u8 zr)
    | 5 => IsVI P1 wq v (.mk 0 zr [] [])
    | 6 => ∃ b, v = .slice (some ⟨b, 0, none⟩) 2 2 ∧ KIn P1 wq [.mk ze (zeros 32) [] [], .mk 0 zr [] []] b 0
    | _ => ∃ b, v = .agg (valL 0 (zeros 32) nilS (.slice (some ⟨b, 0, none⟩) 2 2)).toArray ∧ KIn P1 wq [.mk ze (zeros 32) [] [], .mk 0 zr [] []] b 0) (by kernel_rfl) (by kernel_rfl) (fun _ d _ _ _ h => by cases d <;> exact h) ?_ ?_ ?_ ?_
  · intro i v wq wq' hi hv hb
    match i, hi with
    | 0, _ => exact hv
    | 1, _ => exact hv
    | 2, _ => exact hv.keep hb
    | 3, _ => exact hv
    | 4, _ => exact hv
    | 5, _ => exact hv.keep hb
    | 6, _ => obtain ⟨b, h1, h2⟩ := hv; exact ⟨b, h1, h2.keep hb⟩
    | 7, _ => obtain ⟨b, h1, h2⟩ := hv; exact ⟨b, h1, h2.keep hb⟩
    | (k + 8), hk => exact absurd hk (by omega)
  · intro i o hi ho aq wq hc hk hdep
    match i, hi with
    | 0, _ =>
      cases ho
      have e1 : aq.tmps.getD 1 undef = .pointer (some ⟨w.heap.size, 0, none⟩) := hk 1 (by decide)
      exact flow_value _ (run_fieldAt 27 (.tmp 1) 0 rfl _ _ e1 (by kernel_rfl)) rfl
    | 1, _ =>
      cases ho
      have e0 : aq.tmps.getD 3 undef = .pointer (some ⟨w.heap.size, 0, none⟩) := hdep 0 3 rfl (by kernel_rfl)
      exact flow_value _ (run_cell 23 (.tmp 3) rfl _ e0 _ ((HX.out.keep (hcB hc)).cell (seg (ps := cpP6 ze zr) (i := 0) (off := 0) rfl (by simp [cpP6, cellsB_length, hzr.len]) 0 _ rfl)) _ Tryz.underlying23 rfl) rfl
    | 2, _ =>
      cases ho
      have e0 : aq.tmps.getD 4 undef = .int .u64 (ze : Nat) := hdep 1 4 rfl (by kernel_rfl)
      refine flow_fun 62 _ _ rfl (fun _ _ => by simp [go_sem]) #[.int .u64 (ze : Nat)] (by rw [show (#[Operand.tmp 4] : Array Operand).map aq.eval = #[aq.tmps.getD 4 undef] from by simp [Act.eval], e0]) ?_
      refine (n_any ze wq).mono ?_
      rintro x w' ⟨rfl, q⟩
      exact ⟨_, rfl, IsVI.leaf P1 w' hze zeros32 (zeros_byte 32), q⟩
    | 3, _ =>
      cases ho
      have e1 : aq.tmps.getD 1 undef = .pointer (some ⟨w.heap.size, 0, none⟩) := hk 1 (by decide)
      exact flow_value _ (run_fieldAt 27 (.tmp 1) 1 rfl _ _ e1 (by kernel_rfl)) rfl
    | 4, _ =>
      cases ho
      have e0 : aq.tmps.getD 6 undef = .pointer (some ⟨w.heap.size, 1, none⟩) := hdep 3 6 rfl (by kernel_rfl)
      exact flow_value _ (run_mid 25 (.tmp 6) rfl w.heap.size 1 e0 (cellsB zr) ((HX.out.keep (hcB hc)).range 1 (cellsB zr) (seg (ps := cpP6 ze zr) (i := 1) (off := 1) rfl (by simp [cpP6, cellsB_length, hzr.len]))) _ Tryz.und25 rfl (by rw [cellsB_length, hzr.len]; exact Tryz.size25)) rfl
    | 5, _ =>
      cases ho
      have e0 : aq.tmps.getD 7 undef = .agg (nums .u8 zr) := hdep 4 7 rfl (by kernel_rfl)
      refine flow_fun 24 _ _ rfl (fun _ _ => by simp [go_sem]) #[.agg (nums .u8 zr)] (by rw [show (#[Operand.tmp 7] : Array Operand).map aq.eval = #[aq.tmps.getD 7 undef] from by simp [Act.eval], e0]) ?_
      refine (r_any zr hzr.len wq).mono ?_
      rintro x w' ⟨rfl, q⟩
      exact ⟨_, rfl, IsVI.leaf P1 w' (by decide) hzr.len hzr.byte, q⟩
    | 6, _ =>
      cases ho
      obtain ⟨sb0, sk0, e0, h0_⟩ := hdep 2 5 rfl (by kernel_rfl)
      obtain ⟨sb1, sk1, e1, h1_⟩ := hdep 5 8 rfl (by kernel_rfl)
      refine flow_rowsB 35 37 2 35 _ rfl Tryz.underlying35 valInfo [valL ze (zeros 32) sb0 sk0, valL 0 zr sb1 sk1] [.tmp 5, .tmp 8] rfl (by rw [show [Operand.tmp 5, Operand.tmp 8].map aq.eval = [aq.tmps.getD 5 undef, aq.tmps.getD 8 undef] from rfl, e0, e1]; rfl) (by simp [valL_length, zeros32, hzr.len]) rfl (by decide) (by decide) (by decide) (fun w' h hb => ⟨_, rfl, kIn_of h hb (HP1.out wq (hcB hc).size _ (Nat.le_refl _)) [(.mk ze (zeros 32) [] [], sb0, sk0), (.mk 0 zr [] [], sb1, sk1)] (fun j v hj => by rw [Nat.zero_add]; exact hj) (fun x hx => ?_)⟩)
      simp only [List.mem_cons, List.not_mem_nil, or_false] at hx
      rcases hx with rfl | rfl
      · exact h0_
      · exact h1_
    | 7, _ =>
      cases ho
      obtain ⟨b, e6, h6⟩ := hdep 6 9 rfl (by kernel_rfl)
      refine flow_fun 21 _ _ rfl (fun _ _ => by simp [go_sem]) #[.slice (some ⟨b, 0, none⟩) 2 2] (by rw [show (#[Operand.tmp 9] : Array Operand).map aq.eval = #[aq.tmps.getD 9 undef] from by simp [Act.eval], e6]) ?_
      refine (all_any (some ⟨b, 0, none⟩) 2 2 wq).mono ?_
      rintro x w' ⟨rfl, q⟩
      exact ⟨_, rfl, ⟨b, rfl, h6.keep q⟩, q⟩
    | (k + 8), hk => exact absurd hk (by omega)
  · intro o h8 ho
    omega
  intro vf w8 hc hv
  have e7 : ∃ b, vf 7 = _ ∧ KIn P1 w8 _ b 0 := hv 7 10 (by decide) rfl
  obtain ⟨b, e7, h7⟩ := e7
  have B8 := HB.out.trans ((hcB hc).mono (by omega))
  have H8v := HY.out.keep (hcB hc)
  have s8 := (hcB hc).size
  clear hv hc
  simp only [List.take_succ_cons, List.take_zero, List.drop_succ_cons, List.drop_zero, putAll, Act.put, List.setIfInBounds_toArray, List.set_cons_succ, List.set_cons_zero]
  rw [e7]
  have HB8 := hid B8
  have HK := hid h7
  clear B8 h7 e7 HB
  go_wp2_with ((with_reducible refine at_list' ?_); first
    | (refine wpList_store_c Tryz.ty37 rfl (.tmp 2) (.tmp 10) rfl (w.heap.size + 1) (valL 0 (zeros 32) nilS (.slice (some ⟨b, 0, none⟩) 2 2)) rfl rfl rfl (valL_oneC _ _ _ _ trivial trivial) _ H8v rfl ?_; intro w9 H9 O9))
  refine bodyPost_ret (results_c1 Tryz.ty37 rfl _ w9 (w.heap.size + 1) _ rfl H9 rfl) rfl ⟨_, rfl, ⟨nilS, _, rfl, ?_⟩, below_only HB8.out O9 (by omega)⟩
  have hk := HK.out
  rw [← hP1.out] at hk
  exact vIn_all (ks := [.mk ze (zeros 32) [] [], .mk 0 zr [] []]) rfl (by decide) (hk.only O9)
end Go.Proofs.YtpaamhmighgjeaaGreat

/- The document's value of a struct (Vote), and where it lies. -/
namespace Go.Proofs.YtpaamhmighgjeaaGreat
open Go.RowKit Go.Shelf
set_option linter.unusedVariables false
set_option linter.unusedSimpArgs false
set_option maxRecDepth 100000

set_option maxHeartbeats 2000000 in
theorem vtW_any (P : Nat → Prop) (zs : Nat) (zi : Nat) (zb : List Nat) (zcze : Nat) (zczr : List Nat) (ztze : Nat) (ztzr : List Nat) (hzs : zs < 18446744073709551616) (hzi : zi < 18446744073709551616) (hzb : Rt6 zb) (hzcze : zcze < 18446744073709551616) (hzczr : Rt6 zczr) (hztze : ztze < 18446744073709551616) (hztzr : Rt6 ztzr) (w : World) (hP : ∀ b, w.heap.size ≤ b → P b) : Calls Tryz.prog 23 #[.agg (vtC6 zs zi zb zcze zczr ztze ztzr).toArray] w fun x w' => ∃ v, x = .returned v ∧ IsVI P w' v (vtV6 zs zi zb zcze zczr ztze ztzr) ∧ Below w.heap.size w w' := by
  go_enter Tryz.func23, Tryz.ntmps23
  go_wp2_with ((with_reducible refine at_list' ?_); first
    | (refine wpList_box_c rfl 1 rfl (.tmp 0) rfl (vtC6 zs zi zb zcze zczr ztze ztzr) rfl ?_; intro w1 H1 B1 S1)
    | (refine wpList_alloc_c Tryz.ty37 rfl 2 rfl rfl ?_; intro w2 H2 B2 S2; rw [S1] at H2 S2; rw [S1]))
  have HX := hid (H1.keep B2)
  have HY := hid H2
  have HB := hid (B1.trans (B2.mono (by omega)))
  have s2 : w2.heap.size = w.heap.size + 2 := by omega
  obtain ⟨P1, hP1⟩ : ∃ P1 : Nat → Prop, Same (fun b => P b ∧ b ≠ w.heap.size + 1) P1 := ⟨_, ⟨rfl⟩⟩
  have HP1 := hid (fun (wq : World) (h : w2.heap.size ≤ wq.heap.size) b (hb : wq.heap.size ≤ b) => show P1 b by rw [← hP1.out]; exact ⟨hP b (by omega), by omega⟩)
  clear H1 B1 S1 H2 B2 S2
  try simp only [Act.put, List.setIfInBounds_toArray, List.set_cons_succ, List.set_cons_zero]
  refine wp_region_flow 17 17 (fun i v wq => match i with
    | 0 => v = .pointer (some ⟨w.heap.size, 0, none⟩)
    | 1 => v = .int .u64 (zs : Nat)
    | 2 => IsVI P1 wq v (.mk zs (zeros 32) [] [])
    | 3 => v = .pointer (some ⟨w.heap.size, 1, none⟩)
    | 4 => v = .int .u64 (zi : Nat)
    | 5 => IsVI P1 wq v (.mk zi (zeros 32) [] [])
    | 6 => v = .pointer (some ⟨w.heap.size, 2, none⟩)
    | 7 => v = .agg (nums .u8 zb)
    | 8 => IsVI P1 wq v (.mk 0 zb [] [])
    | 9 => v = .pointer (some ⟨w.heap.size, 34, none⟩)
    | 10 => v = .agg (cpC6 zcze zczr).toArray
    | 11 => IsVI P1 wq v (cpV6 zcze zczr)
    | 12 => v = .pointer (some ⟨w.heap.size, 67, none⟩)
    | 13 => v = .agg (cpC6 ztze ztzr).toArray
    | 14 => IsVI P1 wq v (cpV6 ztze ztzr)
    | 15 => ∃ b, v = .slice (some ⟨b, 0, none⟩) 5 5 ∧ KIn P1 wq [.mk zs (zeros 32) [] [], .mk zi (zeros 32) [] [], .mk 0 zb [] [], cpV6 zcze zczr, cpV6 ztze ztzr] b 0
    | _ => ∃ b, v = .agg (valL 0 (zeros 32) nilS (.slice (some ⟨b, 0, none⟩) 5 5)).toArray ∧ KIn P1 wq [.mk zs (zeros 32) [] [], .mk zi (zeros 32) [] [], .mk 0 zb [] [], cpV6 zcze zczr, cpV6 ztze ztzr] b 0) (by kernel_rfl) (by kernel_rfl) (fun _ d _ _ _ h => by cases d <;> exact h) ?_ ?_ ?_ ?_
  · intro i v wq wq' hi hv hb
    match i, hi with
    | 0, _ => exact hv
    | 1, _ => exact hv
    | 2, _ => exact hv.keep hb
    | 3, _ => exact hv
    | 4, _ => exact hv
    | 5, _ => exact hv.keep hb
    | 6, _ => exact hv
    | 7, _ => exact hv
    | 8, _ => exact hv.keep hb
    | 9, _ => exact hv
    | 10, _ => exact hv
    | 11, _ => exact hv.keep hb
    | 12, _ => exact hv
    | 13, _ => exact hv
    | 14, _ => exact hv.keep hb
    | 15, _ => obtain ⟨b, h1, h2⟩ := hv; exact ⟨b, h1, h2.keep hb⟩
    | 16, _ => obtain ⟨b, h1, h2⟩ := hv; exact ⟨b, h1, h2.keep hb⟩
    | (k + 17), hk => exact absurd hk (by omega)
  · intro i o hi ho aq wq hc hk hdep
    match i, hi with
    | 0, _ =>
      cases ho
      have e1 : aq.tmps.getD 1 undef = .pointer (some ⟨w.heap.size, 0, none⟩) := hk 1 (by decide)
      exact flow_value _ (run_fieldAt 29 (.tmp 1) 0 rfl _ _ e1 (by kernel_rfl)) rfl
    | 1, _ =>
      cases ho
      have e0 : aq.tmps.getD 3 undef = .pointer (some ⟨w.heap.size, 0, none⟩) := hdep 0 3 rfl (by kernel_rfl)
      exact flow_value _ (run_cell 23 (.tmp 3) rfl _ e0 _ ((HX.out.keep (hcB hc)).cell (seg (ps := vtP6 zs zi zb zcze zczr ztze ztzr) (i := 0) (off := 0) rfl (by simp [vtP6, cellsB_length, hzb.len, hzczr.len, hztzr.len, cpC6_length zcze zczr hzczr.len, cpC6_length ztze ztzr hztzr.len]) 0 _ rfl)) _ Tryz.underlying23 rfl) rfl
    | 2, _ =>
      cases ho
      have e0 : aq.tmps.getD 4 undef = .int .u64 (zs : Nat) := hdep 1 4 rfl (by kernel_rfl)
      refine flow_fun 62 _ _ rfl (fun _ _ => by simp [go_sem]) #[.int .u64 (zs : Nat)] (by rw [show (#[Operand.tmp 4] : Array Operand).map aq.eval = #[aq.tmps.getD 4 undef] from by simp [Act.eval], e0]) ?_
      refine (n_any zs wq).mono ?_
      rintro x w' ⟨rfl, q⟩
      exact ⟨_, rfl, IsVI.leaf P1 w' hzs zeros32 (zeros_byte 32), q⟩
    | 3, _ =>
      cases ho
      have e1 : aq.tmps.getD 1 undef = .pointer (some ⟨w.heap.size, 0, none⟩) := hk 1 (by decide)
      exact flow_value _ (run_fieldAt 29 (.tmp 1) 1 rfl _ _ e1 (by kernel_rfl)) rfl
    | 4, _ =>
      cases ho
      have e0 : aq.tmps.getD 6 undef = .pointer (some ⟨w.heap.size, 1, none⟩) := hdep 3 6 rfl (by kernel_rfl)
      exact flow_value _ (run_cell 23 (.tmp 6) rfl _ e0 _ ((HX.out.keep (hcB hc)).cell (seg (ps := vtP6 zs zi zb zcze zczr ztze ztzr) (i := 1) (off := 1) rfl (by simp [vtP6, cellsB_length, hzb.len, hzczr.len, hztzr.len, cpC6_length zcze zczr hzczr.len, cpC6_length ztze ztzr hztzr.len]) 0 _ rfl)) _ Tryz.underlying23 rfl) rfl
    | 5, _ =>
      cases ho
      have e0 : aq.tmps.getD 7 undef = .int .u64 (zi : Nat) := hdep 4 7 rfl (by kernel_rfl)
      refine flow_fun 62 _ _ rfl (fun _ _ => by simp [go_sem]) #[.int .u64 (zi : Nat)] (by rw [show (#[Operand.tmp 7] : Array Operand).map aq.eval = #[aq.tmps.getD 7 undef] from by simp [Act.eval], e0]) ?_
      refine (n_any zi wq).mono ?_
      rintro x w' ⟨rfl, q⟩
      exact ⟨_, rfl, IsVI.leaf P1 w' hzi zeros32 (zeros_byte 32), q⟩
    | 6, _ =>
      cases ho
      have e1 : aq.tmps.getD 1 undef = .pointer (some ⟨w.heap.size, 0, none⟩) := hk 1 (by decide)
      exact flow_value _ (run_fieldAt 29 (.tmp 1) 2 rfl _ _ e1 (by kernel_rfl)) rfl
    | 7, _ =>
      cases ho
      have e0 : aq.tmps.getD 9 undef = .pointer (some ⟨w.heap.size, 2, none⟩) := hdep 6 9 rfl (by kernel_rfl)
      exact flow_value _ (run_mid 25 (.tmp 9) rfl w.heap.size 2 e0 (cellsB zb) ((HX.out.keep (hcB hc)).range 2 (cellsB zb) (seg (ps := vtP6 zs zi zb zcze zczr ztze ztzr) (i := 2) (off := 2) rfl (by simp [vtP6, cellsB_length, hzb.len, hzczr.len, hztzr.len, cpC6_length zcze zczr hzczr.len, cpC6_length ztze ztzr hztzr.len]))) _ Tryz.und25 rfl (by rw [cellsB_length, hzb.len]; exact Tryz.size25)) rfl
    | 8, _ =>
      cases ho
      have e0 : aq.tmps.getD 10 undef = .agg (nums .u8 zb) := hdep 7 10 rfl (by kernel_rfl)
      refine flow_fun 24 _ _ rfl (fun _ _ => by simp [go_sem]) #[.agg (nums .u8 zb)] (by rw [show (#[Operand.tmp 10] : Array Operand).map aq.eval = #[aq.tmps.getD 10 undef] from by simp [Act.eval], e0]) ?_
      refine (r_any zb hzb.len wq).mono ?_
      rintro x w' ⟨rfl, q⟩
      exact ⟨_, rfl, IsVI.leaf P1 w' (by decide) hzb.len hzb.byte, q⟩
    | 9, _ =>
      cases ho
      have e1 : aq.tmps.getD 1 undef = .pointer (some ⟨w.heap.size, 0, none⟩) := hk 1 (by decide)
      exact flow_value _ (run_fieldAt 29 (.tmp 1) 3 rfl _ _ e1 (by kernel_rfl)) rfl
    | 10, _ =>
      cases ho
      have e0 : aq.tmps.getD 12 undef = .pointer (some ⟨w.heap.size, 34, none⟩) := hdep 9 12 rfl (by kernel_rfl)
      exact flow_value _ (run_mid 27 (.tmp 12) rfl w.heap.size 34 e0 (cpC6 zcze zczr) ((HX.out.keep (hcB hc)).range 34 (cpC6 zcze zczr) (seg (ps := vtP6 zs zi zb zcze zczr ztze ztzr) (i := 3) (off := 34) rfl (by simp [vtP6, cellsB_length, hzb.len, hzczr.len, hztzr.len, cpC6_length zcze zczr hzczr.len, cpC6_length ztze ztzr hztzr.len]))) _ Tryz.underlying27 rfl (by rw [cpC6_length zcze zczr hzczr.len]; kernel_rfl)) rfl
    | 11, _ =>
      cases ho
      have e0 : aq.tmps.getD 13 undef = .agg (cpC6 zcze zczr).toArray := hdep 10 13 rfl (by kernel_rfl)
      refine flow_fun 63 _ _ rfl (fun _ _ => by simp [go_sem]) #[.agg (cpC6 zcze zczr).toArray] (by rw [show (#[Operand.tmp 13] : Array Operand).map aq.eval = #[aq.tmps.getD 13 undef] from by simp [Act.eval], e0]) ?_
      refine (cpW_any P1 zcze zczr hzcze hzczr wq (HP1.out wq (hcB hc).size)).mono ?_
      rintro x w' ⟨v, rfl, hv, q⟩
      exact ⟨v, rfl, hv, q⟩
    | 12, _ =>
      cases ho
      have e1 : aq.tmps.getD 1 undef = .pointer (some ⟨w.heap.size, 0, none⟩) := hk 1 (by decide)
      exact flow_value _ (run_fieldAt 29 (.tmp 1) 4 rfl _ _ e1 (by kernel_rfl)) rfl
    | 13, _ =>
      cases ho
      have e0 : aq.tmps.getD 15 undef = .pointer (some ⟨w.heap.size, 67, none⟩) := hdep 12 15 rfl (by kernel_rfl)
      exact flow_value _ (run_mid 27 (.tmp 15) rfl w.heap.size 67 e0 (cpC6 ztze ztzr) ((HX.out.keep (hcB hc)).range 67 (cpC6 ztze ztzr) (seg (ps := vtP6 zs zi zb zcze zczr ztze ztzr) (i := 4) (off := 67) rfl (by simp [vtP6, cellsB_length, hzb.len, hzczr.len, hztzr.len, cpC6_length zcze zczr hzczr.len, cpC6_length ztze ztzr hztzr.len]))) _ Tryz.underlying27 rfl (by rw [cpC6_length ztze ztzr hztzr.len]; kernel_rfl)) rfl
    | 14, _ =>
      cases ho
      have e0 : aq.tmps.getD 16 undef = .agg (cpC6 ztze ztzr).toArray := hdep 13 16 rfl (by kernel_rfl)
      refine flow_fun 63 _ _ rfl (fun _ _ => by simp [go_sem]) #[.agg (cpC6 ztze ztzr).toArray] (by rw [show (#[Operand.tmp 16] : Array Operand).map aq.eval = #[aq.tmps.getD 16 undef] from by simp [Act.eval], e0]) ?_
      refine (cpW_any P1 ztze ztzr hztze hztzr wq (HP1.out wq (hcB hc).size)).mono ?_
      rintro x w' ⟨v, rfl, hv, q⟩
      exact ⟨v, rfl, hv, q⟩
    | 15, _ =>
      cases ho
      obtain ⟨sb0, sk0, e0, h0_⟩ := hdep 2 5 rfl (by kernel_rfl)
      obtain ⟨sb1, sk1, e1, h1_⟩ := hdep 5 8 rfl (by kernel_rfl)
      obtain ⟨sb2, sk2, e2, h2_⟩ := hdep 8 11 rfl (by kernel_rfl)
      obtain ⟨sb3, sk3, e3, h3_⟩ := hdep 11 14 rfl (by kernel_rfl)
      obtain ⟨sb4, sk4, e4, h4_⟩ := hdep 14 17 rfl (by kernel_rfl)
      refine flow_rowsB 35 37 5 35 _ rfl Tryz.underlying35 valInfo [valL zs (zeros 32) sb0 sk0, valL zi (zeros 32) sb1 sk1, valL 0 zb sb2 sk2, valL 0 (zeros 32) sb3 sk3, valL 0 (zeros 32) sb4 sk4] [.tmp 5, .tmp 8, .tmp 11, .tmp 14, .tmp 17] rfl (by rw [show [Operand.tmp 5, Operand.tmp 8, Operand.tmp 11, Operand.tmp 14, Operand.tmp 17].map aq.eval = [aq.tmps.getD 5 undef, aq.tmps.getD 8 undef, aq.tmps.getD 11 undef, aq.tmps.getD 14 undef, aq.tmps.getD 17 undef] from rfl, e0, e1, e2, e3, e4]; rfl) (by simp [valL_length, zeros32, hzb.len]) rfl (by decide) (by decide) (by decide) (fun w' h hb => ⟨_, rfl, kIn_of h hb (HP1.out wq (hcB hc).size _ (Nat.le_refl _)) [(.mk zs (zeros 32) [] [], sb0, sk0), (.mk zi (zeros 32) [] [], sb1, sk1), (.mk 0 zb [] [], sb2, sk2), (cpV6 zcze zczr, sb3, sk3), (cpV6 ztze ztzr, sb4, sk4)] (fun j v hj => by rw [Nat.zero_add]; exact hj) (fun x hx => ?_)⟩)
      simp only [List.mem_cons, List.not_mem_nil, or_false] at hx
      rcases hx with rfl | rfl | rfl | rfl | rfl
      · exact h0_
      · exact h1_
      · exact h2_
      · exact h3_
      · exact h4_
    | 16, _ =>
      cases ho
      obtain ⟨b, e6, h6⟩ := hdep 15 18 rfl (by kernel_rfl)
      refine flow_fun 21 _ _ rfl (fun _ _ => by simp [go_sem]) #[.slice (some ⟨b, 0, none⟩) 5 5] (by rw [show (#[Operand.tmp 18] : Array Operand).map aq.eval = #[aq.tmps.getD 18 undef] from by simp [Act.eval], e6]) ?_
      refine (all_any (some ⟨b, 0, none⟩) 5 5 wq).mono ?_
      rintro x w' ⟨rfl, q⟩
      exact ⟨_, rfl, ⟨b, rfl, h6.keep q⟩, q⟩
    | (k + 17), hk => exact absurd hk (by omega)
  · intro o h17 ho
    omega
  intro vf w8 hc hv
  have e7 : ∃ b, vf 16 = _ ∧ KIn P1 w8 _ b 0 := hv 16 19 (by decide) rfl
  obtain ⟨b, e7, h7⟩ := e7
  have B8 := HB.out.trans ((hcB hc).mono (by omega))
  have H8v := HY.out.keep (hcB hc)
  have s8 := (hcB hc).size
  clear hv hc
  simp only [List.take_succ_cons, List.take_zero, List.drop_succ_cons, List.drop_zero, putAll, Act.put, List.setIfInBounds_toArray, List.set_cons_succ, List.set_cons_zero]
  rw [e7]
  have HB8 := hid B8
  have HK := hid h7
  clear B8 h7 e7 HB
  go_wp2_with ((with_reducible refine at_list' ?_); first
    | (refine wpList_store_c Tryz.ty37 rfl (.tmp 2) (.tmp 19) rfl (w.heap.size + 1) (valL 0 (zeros 32) nilS (.slice (some ⟨b, 0, none⟩) 5 5)) rfl rfl rfl (valL_oneC _ _ _ _ trivial trivial) _ H8v rfl ?_; intro w9 H9 O9))
  refine bodyPost_ret (results_c1 Tryz.ty37 rfl _ w9 (w.heap.size + 1) _ rfl H9 rfl) rfl ⟨_, rfl, ⟨nilS, _, rfl, ?_⟩, below_only HB8.out O9 (by omega)⟩
  have hk := HK.out
  rw [← hP1.out] at hk
  exact vIn_all (ks := [.mk zs (zeros 32) [] [], .mk zi (zeros 32) [] [], .mk 0 zb [] [], cpV6 zcze zczr, cpV6 ztze ztzr]) rfl (by decide) (hk.only O9)
end Go.Proofs.YtpaamhmighgjeaaGreat

/- The document's value of a struct (Indexed), and where it lies. -/
namespace Go.Proofs.YtpaamhmighgjeaaGreat
open Go.RowKit Go.Shelf
set_option linter.unusedVariables false
set_option linter.unusedSimpArgs false
set_option maxRecDepth 100000

theorem vIn_nums {P : Nat → Prop} {w : World} {base : Nat} {u : Value} {ns : List Nat} (h : w.ownsRow base 37 35 u ns.length (rowN ns)) (h64 : ∀ n ∈ ns, n < 18446744073709551616) (hp : ∀ b, base ≤ b → P b) : VIn P w (numsV ns) nilS u := fun w' ha => vAt_nums (own_agr h ha hp) h64
set_option maxHeartbeats 2000000 in
theorem ixW_any (P : Nat → Prop) (zno : Option Addr) (znc : Nat) (znl : List Nat) (zdzs : Nat) (zdzi : Nat) (zdzb : List Nat) (zdzcze : Nat) (zdzczr : List Nat) (zdztze : Nat) (zdztzr : List Nat) (zsg : List Nat) (hzdzs : zdzs < 18446744073709551616) (hzdzi : zdzi < 18446744073709551616) (hzdzb : Rt6 zdzb) (hzdzcze : zdzcze < 18446744073709551616) (hzdzczr : Rt6 zdzczr) (hzdztze : zdztze < 18446744073709551616) (hzdztzr : Rt6 zdztzr) (hzsg : Rt6 zsg) (w : World) (hP : ∀ b, w.heap.size ≤ b → P b) (hzn : IsN w (.slice zno znl.length znc) znl) (hznn : znl.length ≤ 500) : Calls Tryz.prog 7 #[.agg (ixC6 zno znc znl zdzs zdzi zdzb zdzcze zdzczr zdztze zdztzr zsg).toArray] w fun x w' => ∃ v, x = .returned v ∧ IsVI P w' v (ixV6 zno znc znl zdzs zdzi zdzb zdzcze zdzczr zdztze zdztzr zsg) ∧ Below w.heap.size w w' := by
  go_enter Tryz.func7, Tryz.ntmps7
  go_wp2_with ((with_reducible refine at_list' ?_); first
    | (refine wpList_box_c rfl 1 rfl (.tmp 0) rfl (ixC6 zno znc znl zdzs zdzi zdzb zdzcze zdzczr zdztze zdztzr zsg) rfl ?_; intro w1 H1 B1 S1)
    | (refine wpList_alloc_c Tryz.ty37 rfl 2 rfl rfl ?_; intro w2 H2 B2 S2; rw [S1] at H2 S2; rw [S1]))
  have HX := hid (H1.keep B2)
  have HY := hid H2
  have HB := hid (B1.trans (B2.mono (by omega)))
  have s2 : w2.heap.size = w.heap.size + 2 := by omega
  obtain ⟨P1, hP1⟩ : ∃ P1 : Nat → Prop, Same (fun b => P b ∧ b ≠ w.heap.size + 1) P1 := ⟨_, ⟨rfl⟩⟩
  have HP1 := hid (fun (wq : World) (h : w2.heap.size ≤ wq.heap.size) b (hb : wq.heap.size ≤ b) => show P1 b by rw [← hP1.out]; exact ⟨hP b (by omega), by omega⟩)
  clear H1 B1 S1 H2 B2 S2
  try simp only [Act.put, List.setIfInBounds_toArray, List.set_cons_succ, List.set_cons_zero]
  refine wp_region_flow 11 11 (fun i v wq => match i with
    | 0 => v = .pointer (some ⟨w.heap.size, 0, none⟩)
    | 1 => v = .slice zno znl.length znc
    | 2 => IsVI P1 wq v (numsV znl)
    | 3 => v = .pointer (some ⟨w.heap.size, 1, none⟩)
    | 4 => v = .agg (vtC6 zdzs zdzi zdzb zdzcze zdzczr zdztze zdztzr).toArray
    | 5 => IsVI P1 wq v (vtV6 zdzs zdzi zdzb zdzcze zdzczr zdztze zdztzr)
    | 6 => v = .pointer (some ⟨w.heap.size, 101, none⟩)
    | 7 => v = .agg (nums .u8 zsg)
    | 8 => IsVI P1 wq v (.mk 0 zsg [] [])
    | 9 => ∃ b, v = .slice (some ⟨b, 0, none⟩) 3 3 ∧ KIn P1 wq [numsV znl, vtV6 zdzs zdzi zdzb zdzcze zdzczr zdztze zdztzr, .mk 0 zsg [] []] b 0
    | _ => ∃ b, v = .agg (valL 0 (zeros 32) nilS (.slice (some ⟨b, 0, none⟩) 3 3)).toArray ∧ KIn P1 wq [numsV znl, vtV6 zdzs zdzi zdzb zdzcze zdzczr zdztze zdztzr, .mk 0 zsg [] []] b 0) (by kernel_rfl) (by kernel_rfl) (fun _ d _ _ _ h => by cases d <;> exact h) ?_ ?_ ?_ ?_
  · intro i v wq wq' hi hv hb
    match i, hi with
    | 0, _ => exact hv
    | 1, _ => exact hv
    | 2, _ => exact hv.keep hb
    | 3, _ => exact hv
    | 4, _ => exact hv
    | 5, _ => exact hv.keep hb
    | 6, _ => exact hv
    | 7, _ => exact hv
    | 8, _ => exact hv.keep hb
    | 9, _ => obtain ⟨b, h1, h2⟩ := hv; exact ⟨b, h1, h2.keep hb⟩
    | 10, _ => obtain ⟨b, h1, h2⟩ := hv; exact ⟨b, h1, h2.keep hb⟩
    | (k + 11), hk => exact absurd hk (by omega)
  · intro i o hi ho aq wq hc hk hdep
    match i, hi with
    | 0, _ =>
      cases ho
      have e1 : aq.tmps.getD 1 undef = .pointer (some ⟨w.heap.size, 0, none⟩) := hk 1 (by decide)
      exact flow_value _ (run_fieldAt 31 (.tmp 1) 0 rfl _ _ e1 (by kernel_rfl)) rfl
    | 1, _ =>
      cases ho
      have e0 : aq.tmps.getD 3 undef = .pointer (some ⟨w.heap.size, 0, none⟩) := hdep 0 3 rfl (by kernel_rfl)
      exact flow_value _ (run_cell 22 (.tmp 3) rfl _ e0 _ ((HX.out.keep (hcB hc)).cell (seg (ps := ixP6 zno znc znl zdzs zdzi zdzb zdzcze zdzczr zdztze zdztzr zsg) (i := 0) (off := 0) rfl (by simp [ixP6, cellsB_length, hzdzb.len, hzdzczr.len, hzdztzr.len, hzsg.len, vtC6_length zdzs zdzi zdzb zdzcze zdzczr zdztze zdztzr hzdzb.len hzdzczr.len hzdztzr.len]) 0 _ rfl)) _ Tryz.underlying22 rfl) rfl
    | 2, _ =>
      cases ho
      have e0 : aq.tmps.getD 4 undef = .slice zno znl.length znc := hdep 1 4 rfl (by kernel_rfl)
      refine flow_fun 22 _ _ rfl (fun _ _ => by simp [go_sem]) #[.slice zno znl.length znc] (by rw [show (#[Operand.tmp 4] : Array Operand).map aq.eval = #[aq.tmps.getD 4 undef] from by simp [Act.eval], e0]) ?_
      refine (refNumbers_any (.slice zno znl.length znc) znl wq (hzn.keep (HB.out.trans ((hcB hc).mono HB.out.size))) hznn).mono ?_
      rintro x w' ⟨u, rfl, h1, q⟩
      exact ⟨_, rfl, ⟨nilS, u, rfl, vIn_nums h1 hzn.by64 (fun b hb => HP1.out wq (hcB hc).size b (by omega))⟩, q⟩
    | 3, _ =>
      cases ho
      have e1 : aq.tmps.getD 1 undef = .pointer (some ⟨w.heap.size, 0, none⟩) := hk 1 (by decide)
      exact flow_value _ (run_fieldAt 31 (.tmp 1) 1 rfl _ _ e1 (by kernel_rfl)) rfl
    | 4, _ =>
      cases ho
      have e0 : aq.tmps.getD 6 undef = .pointer (some ⟨w.heap.size, 1, none⟩) := hdep 3 6 rfl (by kernel_rfl)
      exact flow_value _ (run_mid 29 (.tmp 6) rfl w.heap.size 1 e0 (vtC6 zdzs zdzi zdzb zdzcze zdzczr zdztze zdztzr) ((HX.out.keep (hcB hc)).range 1 (vtC6 zdzs zdzi zdzb zdzcze zdzczr zdztze zdztzr) (seg (ps := ixP6 zno znc znl zdzs zdzi zdzb zdzcze zdzczr zdztze zdztzr zsg) (i := 1) (off := 1) rfl (by simp [ixP6, cellsB_length, hzdzb.len, hzdzczr.len, hzdztzr.len, hzsg.len, vtC6_length zdzs zdzi zdzb zdzcze zdzczr zdztze zdztzr hzdzb.len hzdzczr.len hzdztzr.len]))) _ Tryz.underlying29 rfl (by rw [vtC6_length zdzs zdzi zdzb zdzcze zdzczr zdztze zdztzr hzdzb.len hzdzczr.len hzdztzr.len]; kernel_rfl)) rfl
    | 5, _ =>
      cases ho
      have e0 : aq.tmps.getD 7 undef = .agg (vtC6 zdzs zdzi zdzb zdzcze zdzczr zdztze zdztzr).toArray := hdep 4 7 rfl (by kernel_rfl)
      refine flow_fun 23 _ _ rfl (fun _ _ => by simp [go_sem]) #[.agg (vtC6 zdzs zdzi zdzb zdzcze zdzczr zdztze zdztzr).toArray] (by rw [show (#[Operand.tmp 7] : Array Operand).map aq.eval = #[aq.tmps.getD 7 undef] from by simp [Act.eval], e0]) ?_
      refine (vtW_any P1 zdzs zdzi zdzb zdzcze zdzczr zdztze zdztzr hzdzs hzdzi hzdzb hzdzcze hzdzczr hzdztze hzdztzr wq (HP1.out wq (hcB hc).size)).mono ?_
      rintro x w' ⟨v, rfl, hv, q⟩
      exact ⟨v, rfl, hv, q⟩
    | 6, _ =>
      cases ho
      have e1 : aq.tmps.getD 1 undef = .pointer (some ⟨w.heap.size, 0, none⟩) := hk 1 (by decide)
      exact flow_value _ (run_fieldAt 31 (.tmp 1) 2 rfl _ _ e1 (by kernel_rfl)) rfl
    | 7, _ =>
      cases ho
      have e0 : aq.tmps.getD 9 undef = .pointer (some ⟨w.heap.size, 101, none⟩) := hdep 6 9 rfl (by kernel_rfl)
      exact flow_value _ (run_mid 25 (.tmp 9) rfl w.heap.size 101 e0 (cellsB zsg) ((HX.out.keep (hcB hc)).range 101 (cellsB zsg) (seg (ps := ixP6 zno znc znl zdzs zdzi zdzb zdzcze zdzczr zdztze zdztzr zsg) (i := 2) (off := 101) rfl (by simp [ixP6, cellsB_length, hzdzb.len, hzdzczr.len, hzdztzr.len, hzsg.len, vtC6_length zdzs zdzi zdzb zdzcze zdzczr zdztze zdztzr hzdzb.len hzdzczr.len hzdztzr.len]))) _ Tryz.und25 rfl (by rw [cellsB_length, hzsg.len]; exact Tryz.size25)) rfl
    | 8, _ =>
      cases ho
      have e0 : aq.tmps.getD 10 undef = .agg (nums .u8 zsg) := hdep 7 10 rfl (by kernel_rfl)
      refine flow_fun 24 _ _ rfl (fun _ _ => by simp [go_sem]) #[.agg (nums .u8 zsg)] (by rw [show (#[Operand.tmp 10] : Array Operand).map aq.eval = #[aq.tmps.getD 10 undef] from by simp [Act.eval], e0]) ?_
      refine (r_any zsg hzsg.len wq).mono ?_
      rintro x w' ⟨rfl, q⟩
      exact ⟨_, rfl, IsVI.leaf P1 w' (by decide) hzsg.len hzsg.byte, q⟩
    | 9, _ =>
      cases ho
      obtain ⟨sb0, sk0, e0, h0_⟩ := hdep 2 5 rfl (by kernel_rfl)
      obtain ⟨sb1, sk1, e1, h1_⟩ := hdep 5 8 rfl (by kernel_rfl)
      obtain ⟨sb2, sk2, e2, h2_⟩ := hdep 8 11 rfl (by kernel_rfl)
      refine flow_rowsB 35 37 3 35 _ rfl Tryz.underlying35 valInfo [valL 0 (zeros 32) sb0 sk0, valL 0 (zeros 32) sb1 sk1, valL 0 zsg sb2 sk2] [.tmp 5, .tmp 8, .tmp 11] rfl (by rw [show [Operand.tmp 5, Operand.tmp 8, Operand.tmp 11].map aq.eval = [aq.tmps.getD 5 undef, aq.tmps.getD 8 undef, aq.tmps.getD 11 undef] from rfl, e0, e1, e2]; rfl) (by simp [valL_length, zeros32, hzsg.len]) rfl (by decide) (by decide) (by decide) (fun w' h hb => ⟨_, rfl, kIn_of h hb (HP1.out wq (hcB hc).size _ (Nat.le_refl _)) [(numsV znl, sb0, sk0), (vtV6 zdzs zdzi zdzb zdzcze zdzczr zdztze zdztzr, sb1, sk1), (.mk 0 zsg [] [], sb2, sk2)] (fun j v hj => by rw [Nat.zero_add]; exact hj) (fun x hx => ?_)⟩)
      simp only [List.mem_cons, List.not_mem_nil, or_false] at hx
      rcases hx with rfl | rfl | rfl
      · exact h0_
      · exact h1_
      · exact h2_
    | 10, _ =>
      cases ho
      obtain ⟨b, e6, h6⟩ := hdep 9 12 rfl (by kernel_rfl)
      refine flow_fun 21 _ _ rfl (fun _ _ => by simp [go_sem]) #[.slice (some ⟨b, 0, none⟩) 3 3] (by rw [show (#[Operand.tmp 12] : Array Operand).map aq.eval = #[aq.tmps.getD 12 undef] from by simp [Act.eval], e6]) ?_
      refine (all_any (some ⟨b, 0, none⟩) 3 3 wq).mono ?_
      rintro x w' ⟨rfl, q⟩
      exact ⟨_, rfl, ⟨b, rfl, h6.keep q⟩, q⟩
    | (k + 11), hk => exact absurd hk (by omega)
  · intro o h11 ho
    omega
  intro vf w8 hc hv
  have e7 : ∃ b, vf 10 = _ ∧ KIn P1 w8 _ b 0 := hv 10 13 (by decide) rfl
  obtain ⟨b, e7, h7⟩ := e7
  have B8 := HB.out.trans ((hcB hc).mono (by omega))
  have H8v := HY.out.keep (hcB hc)
  have s8 := (hcB hc).size
  clear hv hc
  simp only [List.take_succ_cons, List.take_zero, List.drop_succ_cons, List.drop_zero, putAll, Act.put, List.setIfInBounds_toArray, List.set_cons_succ, List.set_cons_zero]
  rw [e7]
  have HB8 := hid B8
  have HK := hid h7
  clear B8 h7 e7 HB
  go_wp2_with ((with_reducible refine at_list' ?_); first
    | (refine wpList_store_c Tryz.ty37 rfl (.tmp 2) (.tmp 13) rfl (w.heap.size + 1) (valL 0 (zeros 32) nilS (.slice (some ⟨b, 0, none⟩) 3 3)) rfl rfl rfl (valL_oneC _ _ _ _ trivial trivial) _ H8v rfl ?_; intro w9 H9 O9))
  refine bodyPost_ret (results_c1 Tryz.ty37 rfl _ w9 (w.heap.size + 1) _ rfl H9 rfl) rfl ⟨_, rfl, ⟨nilS, _, rfl, ?_⟩, below_only HB8.out O9 (by omega)⟩
  have hk := HK.out
  rw [← hP1.out] at hk
  exact vIn_all (ks := [numsV znl, vtV6 zdzs zdzi zdzb zdzcze zdzczr zdztze zdztzr, .mk 0 zsg [] []]) rfl (by decide) (hk.only O9)
end Go.Proofs.YtpaamhmighgjeaaGreat

/- The document's value of a struct (AttesterSlashing), and where it lies. -/
namespace Go.Proofs.YtpaamhmighgjeaaGreat
open Go.RowKit Go.Shelf
set_option linter.unusedVariables false
set_option linter.unusedSimpArgs false
set_option maxRecDepth 100000

def asP6 (zazno : Option Addr) (zaznc : Nat) (zaznl : List Nat) (zazdzs : Nat) (zazdzi : Nat) (zazdzb : List Nat) (zazdzcze : Nat) (zazdzczr : List Nat) (zazdztze : Nat) (zazdztzr : List Nat) (zazsg : List Nat) (zzzno : Option Addr) (zzznc : Nat) (zzznl : List Nat) (zzzdzs : Nat) (zzzdzi : Nat) (zzzdzb : List Nat) (zzzdzcze : Nat) (zzzdzczr : List Nat) (zzzdztze : Nat) (zzzdztzr : List Nat) (zzzsg : List Nat) : List (List Value) := [ixC6 zazno zaznc zaznl zazdzs zazdzi zazdzb zazdzcze zazdzczr zazdztze zazdztzr zazsg, ixC6 zzzno zzznc zzznl zzzdzs zzzdzi zzzdzb zzzdzcze zzzdzczr zzzdztze zzzdztzr zzzsg]
def asC6 (zazno : Option Addr) (zaznc : Nat) (zaznl : List Nat) (zazdzs : Nat) (zazdzi : Nat) (zazdzb : List Nat) (zazdzcze : Nat) (zazdzczr : List Nat) (zazdztze : Nat) (zazdztzr : List Nat) (zazsg : List Nat) (zzzno : Option Addr) (zzznc : Nat) (zzznl : List Nat) (zzzdzs : Nat) (zzzdzi : Nat) (zzzdzb : List Nat) (zzzdzcze : Nat) (zzzdzczr : List Nat) (zzzdztze : Nat) (zzzdztzr : List Nat) (zzzsg : List Nat) : List Value := (asP6 zazno zaznc zaznl zazdzs zazdzi zazdzb zazdzcze zazdzczr zazdztze zazdztzr zazsg zzzno zzznc zzznl zzzdzs zzzdzi zzzdzb zzzdzcze zzzdzczr zzzdztze zzzdztzr zzzsg).flatten
theorem asC6_length (zazno : Option Addr) (zaznc : Nat) (zaznl : List Nat) (zazdzs : Nat) (zazdzi : Nat) (zazdzb : List Nat) (zazdzcze : Nat) (zazdzczr : List Nat) (zazdztze : Nat) (zazdztzr : List Nat) (zazsg : List Nat) (zzzno : Option Addr) (zzznc : Nat) (zzznl : List Nat) (zzzdzs : Nat) (zzzdzi : Nat) (zzzdzb : List Nat) (zzzdzcze : Nat) (zzzdzczr : List Nat) (zzzdztze : Nat) (zzzdztzr : List Nat) (zzzsg : List Nat) (hzazdzb : zazdzb.length = 32) (hzazdzczr : zazdzczr.length = 32) (hzazdztzr : zazdztzr.length = 32) (hzazsg : zazsg.length = 32) (hzzzdzb : zzzdzb.length = 32) (hzzzdzczr : zzzdzczr.length = 32) (hzzzdztzr : zzzdztzr.length = 32) (hzzzsg : zzzsg.length = 32) : (asC6 zazno zaznc zaznl zazdzs zazdzi zazdzb zazdzcze zazdzczr zazdztze zazdztzr zazsg zzzno zzznc zzznl zzzdzs zzzdzi zzzdzb zzzdzcze zzzdzczr zzzdztze zzzdztzr zzzsg).length = 266 := by simp [asC6, asP6, cellsB_length, hzazdzb, hzazdzczr, hzazdztzr, hzazsg, hzzzdzb, hzzzdzczr, hzzzdztzr, hzzzsg, ixC6_length zazno zaznc zaznl zazdzs zazdzi zazdzb zazdzcze zazdzczr zazdztze zazdztzr zazsg hzazdzb hzazdzczr hzazdztzr hzazsg, ixC6_length zzzno zzznc zzznl zzzdzs zzzdzi zzzdzb zzzdzcze zzzdzczr zzzdztze zzzdztzr zzzsg hzzzdzb hzzzdzczr hzzzdztzr hzzzsg]
def asV6 (zazno : Option Addr) (zaznc : Nat) (zaznl : List Nat) (zazdzs : Nat) (zazdzi : Nat) (zazdzb : List Nat) (zazdzcze : Nat) (zazdzczr : List Nat) (zazdztze : Nat) (zazdztzr : List Nat) (zazsg : List Nat) (zzzno : Option Addr) (zzznc : Nat) (zzznl : List Nat) (zzzdzs : Nat) (zzzdzi : Nat) (zzzdzb : List Nat) (zzzdzcze : Nat) (zzzdzczr : List Nat) (zzzdztze : Nat) (zzzdztzr : List Nat) (zzzsg : List Nat) : Vt := .mk 0 (zeros 32) [] [ixV6 zazno zaznc zaznl zazdzs zazdzi zazdzb zazdzcze zazdzczr zazdztze zazdztzr zazsg, ixV6 zzzno zzznc zzznl zzzdzs zzzdzi zzzdzb zzzdzcze zzzdzczr zzzdztze zzzdztzr zzzsg]
set_option maxHeartbeats 2000000 in
theorem asW_any (P : Nat → Prop) (zazno : Option Addr) (zaznc : Nat) (zaznl : List Nat) (zazdzs : Nat) (zazdzi : Nat) (zazdzb : List Nat) (zazdzcze : Nat) (zazdzczr : List Nat) (zazdztze : Nat) (zazdztzr : List Nat) (zazsg : List Nat) (zzzno : Option Addr) (zzznc : Nat) (zzznl : List Nat) (zzzdzs : Nat) (zzzdzi : Nat) (zzzdzb : List Nat) (zzzdzcze : Nat) (zzzdzczr : List Nat) (zzzdztze : Nat) (zzzdztzr : List Nat) (zzzsg : List Nat) (hzazdzs : zazdzs < 18446744073709551616) (hzazdzi : zazdzi < 18446744073709551616) (hzazdzb : Rt6 zazdzb) (hzazdzcze : zazdzcze < 18446744073709551616) (hzazdzczr : Rt6 zazdzczr) (hzazdztze : zazdztze < 18446744073709551616) (hzazdztzr : Rt6 zazdztzr) (hzazsg : Rt6 zazsg) (hzzzdzs : zzzdzs < 18446744073709551616) (hzzzdzi : zzzdzi < 18446744073709551616) (hzzzdzb : Rt6 zzzdzb) (hzzzdzcze : zzzdzcze < 18446744073709551616) (hzzzdzczr : Rt6 zzzdzczr) (hzzzdztze : zzzdztze < 18446744073709551616) (hzzzdztzr : Rt6 zzzdztzr) (hzzzsg : Rt6 zzzsg) (w : World) (hP : ∀ b, w.heap.size ≤ b → P b) (hzazn : IsN w (.slice zazno zaznl.length zaznc) zaznl) (hzaznn : zaznl.length ≤ 500) (hzzzn : IsN w (.slice zzzno zzznl.length zzznc) zzznl) (hzzznn : zzznl.length ≤ 500) : Calls Tryz.prog 13 #[.agg (asC6 zazno zaznc zaznl zazdzs zazdzi zazdzb zazdzcze zazdzczr zazdztze zazdztzr zazsg zzzno zzznc zzznl zzzdzs zzzdzi zzzdzb zzzdzcze zzzdzczr zzzdztze zzzdztzr zzzsg).toArray] w fun x w' => ∃ v, x = .returned v ∧ IsVI P w' v (asV6 zazno zaznc zaznl zazdzs zazdzi zazdzb zazdzcze zazdzczr zazdztze zazdztzr zazsg zzzno zzznc zzznl zzzdzs zzzdzi zzzdzb zzzdzcze zzzdzczr zzzdztze zzzdztzr zzzsg) ∧ Below w.heap.size w w' := by
  go_enter Tryz.func13, Tryz.ntmps13
  go_wp2_with ((with_reducible refine at_list' ?_); first
    | (refine wpList_box_c rfl 1 rfl (.tmp 0) rfl (asC6 zazno zaznc zaznl zazdzs zazdzi zazdzb zazdzcze zazdzczr zazdztze zazdztzr zazsg zzzno zzznc zzznl zzzdzs zzzdzi zzzdzb zzzdzcze zzzdzczr zzzdztze zzzdztzr zzzsg) rfl ?_; intro w1 H1 B1 S1)
    | (refine wpList_alloc_c Tryz.ty37 rfl 2 rfl rfl ?_; intro w2 H2 B2 S2; rw [S1] at H2 S2; rw [S1]))
  have HX := hid (H1.keep B2)
  have HY := hid H2
  have HB := hid (B1.trans (B2.mono (by omega)))
  have s2 : w2.heap.size = w.heap.size + 2 := by omega
  obtain ⟨P1, hP1⟩ : ∃ P1 : Nat → Prop, Same (fun b => P b ∧ b ≠ w.heap.size + 1) P1 := ⟨_, ⟨rfl⟩⟩
  have HP1 := hid (fun (wq : World) (h : w2.heap.size ≤ wq.heap.size) b (hb : wq.heap.size ≤ b) => show P1 b by rw [← hP1.out]; exact ⟨hP b (by omega), by omega⟩)
  clear H1 B1 S1 H2 B2 S2
  try simp only [Act.put, List.setIfInBounds_toArray, List.set_cons_succ, List.set_cons_zero]
  refine wp_region_flow 8 8 (fun i v wq => match i with
    | 0 => v = .pointer (some ⟨w.heap.size, 0, none⟩)
    | 1 => v = .agg (ixC6 zazno zaznc zaznl zazdzs zazdzi zazdzb zazdzcze zazdzczr zazdztze zazdztzr zazsg).toArray
    | 2 => IsVI P1 wq v (ixV6 zazno zaznc zaznl zazdzs zazdzi zazdzb zazdzcze zazdzczr zazdztze zazdztzr zazsg)
    | 3 => v = .pointer (some ⟨w.heap.size, 133, none⟩)
    | 4 => v = .agg (ixC6 zzzno zzznc zzznl zzzdzs zzzdzi zzzdzb zzzdzcze zzzdzczr zzzdztze zzzdztzr zzzsg).toArray
    | 5 => IsVI P1 wq v (ixV6 zzzno zzznc zzznl zzzdzs zzzdzi zzzdzb zzzdzcze zzzdzczr zzzdztze zzzdztzr zzzsg)
    | 6 => ∃ b, v = .slice (some ⟨b, 0, none⟩) 2 2 ∧ KIn P1 wq [ixV6 zazno zaznc zaznl zazdzs zazdzi zazdzb zazdzcze zazdzczr zazdztze zazdztzr zazsg, ixV6 zzzno zzznc zzznl zzzdzs zzzdzi zzzdzb zzzdzcze zzzdzczr zzzdztze zzzdztzr zzzsg] b 0
    | _ => ∃ b, v = .agg (valL 0 (zeros 32) nilS (.slice (some ⟨b, 0, none⟩) 2 2)).toArray ∧ KIn P1 wq [ixV6 zazno zaznc zaznl zazdzs zazdzi zazdzb zazdzcze zazdzczr zazdztze zazdztzr zazsg, ixV6 zzzno zzznc zzznl zzzdzs zzzdzi zzzdzb zzzdzcze zzzdzczr zzzdztze zzzdztzr zzzsg] b 0) (by kernel_rfl) (by kernel_rfl) (fun _ d _ _ _ h => by cases d <;> exact h) ?_ ?_ ?_ ?_
  · intro i v wq wq' hi hv hb
    match i, hi with
    | 0, _ => exact hv
    | 1, _ => exact hv
    | 2, _ => exact hv.keep hb
    | 3, _ => exact hv
    | 4, _ => exact hv
    | 5, _ => exact hv.keep hb
    | 6, _ => obtain ⟨b, h1, h2⟩ := hv; exact ⟨b, h1, h2.keep hb⟩
    | 7, _ => obtain ⟨b, h1, h2⟩ := hv; exact ⟨b, h1, h2.keep hb⟩
    | (k + 8), hk => exact absurd hk (by omega)
  · intro i o hi ho aq wq hc hk hdep
    match i, hi with
    | 0, _ =>
      cases ho
      have e1 : aq.tmps.getD 1 undef = .pointer (some ⟨w.heap.size, 0, none⟩) := hk 1 (by decide)
      exact flow_value _ (run_fieldAt 50 (.tmp 1) 0 rfl _ _ e1 (by kernel_rfl)) rfl
    | 1, _ =>
      cases ho
      have e0 : aq.tmps.getD 3 undef = .pointer (some ⟨w.heap.size, 0, none⟩) := hdep 0 3 rfl (by kernel_rfl)
      exact flow_value _ (run_mid 31 (.tmp 3) rfl w.heap.size 0 e0 (ixC6 zazno zaznc zaznl zazdzs zazdzi zazdzb zazdzcze zazdzczr zazdztze zazdztzr zazsg) ((HX.out.keep (hcB hc)).range 0 (ixC6 zazno zaznc zaznl zazdzs zazdzi zazdzb zazdzcze zazdzczr zazdztze zazdztzr zazsg) (seg (ps := asP6 zazno zaznc zaznl zazdzs zazdzi zazdzb zazdzcze zazdzczr zazdztze zazdztzr zazsg zzzno zzznc zzznl zzzdzs zzzdzi zzzdzb zzzdzcze zzzdzczr zzzdztze zzzdztzr zzzsg) (i := 0) (off := 0) rfl (by simp [asP6, cellsB_length, hzazdzb.len, hzazdzczr.len, hzazdztzr.len, hzazsg.len, hzzzdzb.len, hzzzdzczr.len, hzzzdztzr.len, hzzzsg.len, ixC6_length zazno zaznc zaznl zazdzs zazdzi zazdzb zazdzcze zazdzczr zazdztze zazdztzr zazsg hzazdzb.len hzazdzczr.len hzazdztzr.len hzazsg.len, ixC6_length zzzno zzznc zzznl zzzdzs zzzdzi zzzdzb zzzdzcze zzzdzczr zzzdztze zzzdztzr zzzsg hzzzdzb.len hzzzdzczr.len hzzzdztzr.len hzzzsg.len]))) _ Tryz.underlying31 rfl (by rw [ixC6_length zazno zaznc zaznl zazdzs zazdzi zazdzb zazdzcze zazdzczr zazdztze zazdztzr zazsg hzazdzb.len hzazdzczr.len hzazdztzr.len hzazsg.len]; kernel_rfl)) rfl
    | 2, _ =>
      cases ho
      have e0 : aq.tmps.getD 4 undef = .agg (ixC6 zazno zaznc zaznl zazdzs zazdzi zazdzb zazdzcze zazdzczr zazdztze zazdztzr zazsg).toArray := hdep 1 4 rfl (by kernel_rfl)
      refine flow_fun 7 _ _ rfl (fun _ _ => by simp [go_sem]) #[.agg (ixC6 zazno zaznc zaznl zazdzs zazdzi zazdzb zazdzcze zazdzczr zazdztze zazdztzr zazsg).toArray] (by rw [show (#[Operand.tmp 4] : Array Operand).map aq.eval = #[aq.tmps.getD 4 undef] from by simp [Act.eval], e0]) ?_
      refine (ixW_any P1 zazno zaznc zaznl zazdzs zazdzi zazdzb zazdzcze zazdzczr zazdztze zazdztzr zazsg hzazdzs hzazdzi hzazdzb hzazdzcze hzazdzczr hzazdztze hzazdztzr hzazsg wq (HP1.out wq (hcB hc).size) (hzazn.keep (HB.out.trans ((hcB hc).mono HB.out.size))) hzaznn).mono ?_
      rintro x w' ⟨v, rfl, hv, q⟩
      exact ⟨v, rfl, hv, q⟩
    | 3, _ =>
      cases ho
      have e1 : aq.tmps.getD 1 undef = .pointer (some ⟨w.heap.size, 0, none⟩) := hk 1 (by decide)
      exact flow_value _ (run_fieldAt 50 (.tmp 1) 1 rfl _ _ e1 (by kernel_rfl)) rfl
    | 4, _ =>
      cases ho
      have e0 : aq.tmps.getD 6 undef = .pointer (some ⟨w.heap.size, 133, none⟩) := hdep 3 6 rfl (by kernel_rfl)
      exact flow_value _ (run_mid 31 (.tmp 6) rfl w.heap.size 133 e0 (ixC6 zzzno zzznc zzznl zzzdzs zzzdzi zzzdzb zzzdzcze zzzdzczr zzzdztze zzzdztzr zzzsg) ((HX.out.keep (hcB hc)).range 133 (ixC6 zzzno zzznc zzznl zzzdzs zzzdzi zzzdzb zzzdzcze zzzdzczr zzzdztze zzzdztzr zzzsg) (seg (ps := asP6 zazno zaznc zaznl zazdzs zazdzi zazdzb zazdzcze zazdzczr zazdztze zazdztzr zazsg zzzno zzznc zzznl zzzdzs zzzdzi zzzdzb zzzdzcze zzzdzczr zzzdztze zzzdztzr zzzsg) (i := 1) (off := 133) rfl (by simp [asP6, cellsB_length, hzazdzb.len, hzazdzczr.len, hzazdztzr.len, hzazsg.len, hzzzdzb.len, hzzzdzczr.len, hzzzdztzr.len, hzzzsg.len, ixC6_length zazno zaznc zaznl zazdzs zazdzi zazdzb zazdzcze zazdzczr zazdztze zazdztzr zazsg hzazdzb.len hzazdzczr.len hzazdztzr.len hzazsg.len, ixC6_length zzzno zzznc zzznl zzzdzs zzzdzi zzzdzb zzzdzcze zzzdzczr zzzdztze zzzdztzr zzzsg hzzzdzb.len hzzzdzczr.len hzzzdztzr.len hzzzsg.len]))) _ Tryz.underlying31 rfl (by rw [ixC6_length zzzno zzznc zzznl zzzdzs zzzdzi zzzdzb zzzdzcze zzzdzczr zzzdztze zzzdztzr zzzsg hzzzdzb.len hzzzdzczr.len hzzzdztzr.len hzzzsg.len]; kernel_rfl)) rfl
    | 5, _ =>
      cases ho
      have e0 : aq.tmps.getD 7 undef = .agg (ixC6 zzzno zzznc zzznl zzzdzs zzzdzi zzzdzb zzzdzcze zzzdzczr zzzdztze zzzdztzr zzzsg).toArray := hdep 4 7 rfl (by kernel_rfl)
      refine flow_fun 7 _ _ rfl (fun _ _ => by simp [go_sem]) #[.agg (ixC6 zzzno zzznc zzznl zzzdzs zzzdzi zzzdzb zzzdzcze zzzdzczr zzzdztze zzzdztzr zzzsg).toArray] (by rw [show (#[Operand.tmp 7] : Array Operand).map aq.eval = #[aq.tmps.getD 7 undef] from by simp [Act.eval], e0]) ?_
      refine (ixW_any P1 zzzno zzznc zzznl zzzdzs zzzdzi zzzdzb zzzdzcze zzzdzczr zzzdztze zzzdztzr zzzsg hzzzdzs hzzzdzi hzzzdzb hzzzdzcze hzzzdzczr hzzzdztze hzzzdztzr hzzzsg wq (HP1.out wq (hcB hc).size) (hzzzn.keep (HB.out.trans ((hcB hc).mono HB.out.size))) hzzznn).mono ?_
      rintro x w' ⟨v, rfl, hv, q⟩
      exact ⟨v, rfl, hv, q⟩
    | 6, _ =>
      cases ho
      obtain ⟨sb0, sk0, e0, h0_⟩ := hdep 2 5 rfl (by kernel_rfl)
      obtain ⟨sb1, sk1, e1, h1_⟩ := hdep 5 8 rfl (by kernel_rfl)
      refine flow_rowsB 35 37 2 35 _ rfl Tryz.underlying35 valInfo [valL 0 (zeros 32) sb0 sk0, valL 0 (zeros 32) sb1 sk1] [.tmp 5, .tmp 8] rfl (by rw [show [Operand.tmp 5, Operand.tmp 8].map aq.eval = [aq.tmps.getD 5 undef, aq.tmps.getD 8 undef] from rfl, e0, e1]; rfl) (by simp [valL_length, zeros32]) rfl (by decide) (by decide) (by decide) (fun w' h hb => ⟨_, rfl, kIn_of h hb (HP1.out wq (hcB hc).size _ (Nat.le_refl _)) [(ixV6 zazno zaznc zaznl zazdzs zazdzi zazdzb zazdzcze zazdzczr zazdztze zazdztzr zazsg, sb0, sk0), (ixV6 zzzno zzznc zzznl zzzdzs zzzdzi zzzdzb zzzdzcze zzzdzczr zzzdztze zzzdztzr zzzsg, sb1, sk1)] (fun j v hj => by rw [Nat.zero_add]; exact hj) (fun x hx => ?_)⟩)
      simp only [List.mem_cons, List.not_mem_nil, or_false] at hx
      rcases hx with rfl | rfl
      · exact h0_
      · exact h1_
    | 7, _ =>
      cases ho
      obtain ⟨b, e6, h6⟩ := hdep 6 9 rfl (by kernel_rfl)
      refine flow_fun 21 _ _ rfl (fun _ _ => by simp [go_sem]) #[.slice (some ⟨b, 0, none⟩) 2 2] (by rw [show (#[Operand.tmp 9] : Array Operand).map aq.eval = #[aq.tmps.getD 9 undef] from by simp [Act.eval], e6]) ?_
      refine (all_any (some ⟨b, 0, none⟩) 2 2 wq).mono ?_
      rintro x w' ⟨rfl, q⟩
      exact ⟨_, rfl, ⟨b, rfl, h6.keep q⟩, q⟩
    | (k + 8), hk => exact absurd hk (by omega)
  · intro o h8 ho
    omega
  intro vf w8 hc hv
  have e7 : ∃ b, vf 7 = _ ∧ KIn P1 w8 _ b 0 := hv 7 10 (by decide) rfl
  obtain ⟨b, e7, h7⟩ := e7
  have B8 := HB.out.trans ((hcB hc).mono (by omega))
  have H8v := HY.out.keep (hcB hc)
  have s8 := (hcB hc).size
  clear hv hc
  simp only [List.take_succ_cons, List.take_zero, List.drop_succ_cons, List.drop_zero, putAll, Act.put, List.setIfInBounds_toArray, List.set_cons_succ, List.set_cons_zero]
  rw [e7]
  have HB8 := hid B8
  have HK := hid h7
  clear B8 h7 e7 HB
  go_wp2_with ((with_reducible refine at_list' ?_); first
    | (refine wpList_store_c Tryz.ty37 rfl (.tmp 2) (.tmp 10) rfl (w.heap.size + 1) (valL 0 (zeros 32) nilS (.slice (some ⟨b, 0, none⟩) 2 2)) rfl rfl rfl (valL_oneC _ _ _ _ trivial trivial) _ H8v rfl ?_; intro w9 H9 O9))
  refine bodyPost_ret (results_c1 Tryz.ty37 rfl _ w9 (w.heap.size + 1) _ rfl H9 rfl) rfl ⟨_, rfl, ⟨nilS, _, rfl, ?_⟩, below_only HB8.out O9 (by omega)⟩
  have hk := HK.out
  rw [← hP1.out] at hk
  exact vIn_all (ks := [ixV6 zazno zaznc zaznl zazdzs zazdzi zazdzb zazdzcze zazdzczr zazdztze zazdztzr zazsg, ixV6 zzzno zzznc zzznl zzzdzs zzzdzi zzzdzb zzzdzcze zzzdzczr zzzdztze zzzdztzr zzzsg]) rfl (by decide) (hk.only O9)
end Go.Proofs.YtpaamhmighgjeaaGreat

/- CodecAttesterSlashings: its contracts, made one. -/
namespace Go.Proofs.YtpaamhmighgjeaaGreat
open Go.RowKit
set_option linter.unusedVariables false
set_option linter.unusedSimpArgs false
set_option maxRecDepth 100000

/-- An Indexed, by its parts. -/
structure Ixd where
  ao : Option Addr
  c : Nat
  l : List Nat
  sl : Nat
  ix : Nat
  b : List Nat
  es : Nat
  rs : List Nat
  et : Nat
  rt : List Nat
  sg : List Nat
structure Ixd.ok (x : Ixd) : Prop where
  sl : x.sl < 18446744073709551616
  ix : x.ix < 18446744073709551616
  b : x.b.length = 32 ∧ ∀ z ∈ x.b, z < 256
  es : x.es < 18446744073709551616
  rs : x.rs.length = 32 ∧ ∀ z ∈ x.rs, z < 256
  et : x.et < 18446744073709551616
  rt : x.rt.length = 32 ∧ ∀ z ∈ x.rt, z < 256
  sg : x.sg.length = 32 ∧ ∀ z ∈ x.sg, z < 256
def Ixd.V (x : Ixd) : List Value := vtC x.sl x.ix x.b x.es x.rs x.et x.rt
def Ixd.C (x : Ixd) : List Value := atC (.slice x.ao x.l.length x.c) x.V x.sg
def Ixd.BS (x : Ixd) : List Nat := ixBS x.l x.sl x.ix x.b x.es x.rs x.et x.rt x.sg
def Ixd.X (x : Ixd) : Vt := ixV6 x.ao x.c x.l x.sl x.ix x.b x.es x.rs x.et x.rt x.sg
theorem Ixd.V_len {x : Ixd} (h : x.ok) : x.V.length = 100 := vtC_length h.b.1 h.rs.1 h.rt.1
theorem Ixd.C_len {x : Ixd} (h : x.ok) : x.C.length = 133 := atC_length (V_len h) h.sg.1
theorem Ixd.C_one {x : Ixd} : x.C.toArray.all (·.oneCell') = true := atC_one rfl (vtC_one _ _ _ _ _ _ _)
theorem Ixd.BS_len {x : Ixd} (h : x.ok) : x.BS.length = 164 + 8 * x.l.length := by
  simp [Ixd.BS, ixBS, le_length, bytesN_length, h.b.1, h.rs.1, h.rt.1, h.sg.1]
  omega
theorem Ixd.BS_byte {x : Ixd} (h : x.ok) : ∀ z ∈ x.BS, z < 256 := ixBS_byte x.l x.sl x.ix x.b x.es x.rs x.et x.rt x.sg h.b.2 h.rs.2 h.rt.2 h.sg.2
theorem Ixd.BS_head (x : Ixd) : x.BS.getD 0 0 = 164 := by
  have e : le 164 4 = [164, 0, 0, 0] := by decide
  simp [Ixd.BS, ixBS, e]
theorem Ixd.X_enc {x : Ixd} (h : x.ok) : encV dIx x.X = x.BS := ixV_enc x.ao x.c x.l x.sl x.ix x.b x.es x.rs x.et x.rt x.sg h.b.1 h.rs.1 h.rt.1 h.sg.1
theorem Ixd.X_ok {x : Ixd} (h : x.ok) (hl : x.l.length ≤ 500) : okV dIx x.X := ixV_ok x.ao x.c x.l x.sl x.ix x.b x.es x.rs x.et x.rt x.sg hl h.b.1 h.rs.1 h.rt.1 h.sg.1
theorem Ixd.side {x : Ixd} (h : x.ok) (hl : x.l.length ≤ 500) (h64 : ∀ n ∈ x.l, n < 18446744073709551616) (v : Value) (wq : World) (hI : IsB wq v x.BS) :
    Calls Tryz.prog 9 #[v] wq fun r w' => ∃ D, r = .returned (.tuple #[.agg D.toArray, .int .i64 (errT (decide (x.l.length ≤ 32)))]) ∧ SideR wq.heap.size (decide (x.l.length ≤ 32)) x.V x.sg x.l D w' ∧ Below wq.heap.size wq w' := by
  have hBl : x.BS.length ≤ 100000000000 := by rw [BS_len h]; omega
  obtain ⟨r1, r2, r3, r4⟩ := ix_read x.l x.sl x.ix x.b x.es x.rs x.et x.rt x.sg h.sl h.ix h.es h.et h.b.1 h.rs.1 h.rt.1 h.sg.1
  by_cases hle : x.l.length ≤ 32
  · rw [decide_eq_true hle]
    have k := toIx_own v x.BS x.l wq hI hBl r1 r2 hle h64
    refine k.mono ?_
    rintro e w' ⟨⟨u, rfl, how⟩, B⟩
    have e3 : atV x.BS = x.V := r3
    have e4 : atR x.BS = x.sg := r4
    rw [e3, e4]
    obtain ⟨ua, un, uc, rfl⟩ := own_slice how
    exact ⟨_, rfl, ⟨fun _ => ⟨_, rfl, how⟩, atC_length (V_len h) h.sg.1, atC_one rfl (vtC_one _ _ _ _ _ _ _)⟩, B⟩
  · rw [decide_eq_false hle]
    refine (toIx_bad v x.BS x.l wq hI hBl r1 r2 (by omega)).mono ?_
    rintro e w' ⟨rfl, B⟩
    exact ⟨ix0, rfl, ⟨fun h => (by cases h), by kernel_rfl, ix0_one⟩, B⟩
theorem as0_built : Tryz.prog.built 50 [] = some as0.toArray := by kernel_rfl
theorem as_ref (x y : Ixd) (hx : x.ok) (hy : y.ok) (hn : x.l.length ≤ 500) (hm : y.l.length ≤ 500) (ao bo : Option Addr) (c d : Nat) (wq : World) (hq : Two ao bo c d x.l y.l wq) :
    Calls Tryz.prog 13 #[.agg (asK (atC (.slice ao x.l.length c) x.V x.sg) (atC (.slice bo y.l.length d) y.V y.sg)).toArray] wq fun r w' => ∃ v, r = .returned v ∧ IsV w' v (.mk 0 (zeros 32) [] [x.X, y.X]) ∧ Below wq.heap.size wq w' := by
  have h := asW_any (fun _ => True) ao c x.l x.sl x.ix x.b x.es x.rs x.et x.rt x.sg bo d y.l y.sl y.ix y.b y.es y.rs y.et y.rt y.sg hx.sl hx.ix ⟨hx.b.1, hx.b.2⟩ hx.es ⟨hx.rs.1, hx.rs.2⟩ hx.et ⟨hx.rt.1, hx.rt.2⟩ ⟨hx.sg.1, hx.sg.2⟩ hy.sl hy.ix ⟨hy.b.1, hy.b.2⟩ hy.es ⟨hy.rs.1, hy.rs.2⟩ hy.et ⟨hy.rt.1, hy.rt.2⟩ ⟨hy.sg.1, hy.sg.2⟩ wq (fun _ _ => trivial) hq.one hn hq.two hm
  have e : asC6 ao c x.l x.sl x.ix x.b x.es x.rs x.et x.rt x.sg bo d y.l y.sl y.ix y.b y.es y.rs y.et y.rt y.sg = asK (atC (.slice ao x.l.length c) x.V x.sg) (atC (.slice bo y.l.length d) y.V y.sg) := by
    simp only [asC6, asP6, ixC_six, asK, List.flatten_cons, List.flatten_nil]
    rfl
  rw [e] at h
  refine h.mono ?_
  rintro r w' ⟨v, rfl, hv, B⟩
  exact ⟨v, rfl, hv.isV, B⟩
theorem as_walk (x y : Ixd) (hx : x.ok) (hy : y.ok) (w : World) (hIT : Two x.ao y.ao x.c y.c x.l y.l w) :
    Calls Tryz.prog 4 #[.agg (asK x.C y.C).toArray] w fun e w' => e = .returned (.bool true) ∧ Below w.heap.size w w' := by
  have hCl : (asK x.C y.C).length = as0.length := by
    have e : (asK x.C y.C).length = 266 := by simp [asK, Ixd.C_len hx, Ixd.C_len hy]
    exact e.trans (show (266 : Nat) = as0.length by kernel_rfl)
  have h0 : (asK x.C y.C)[0]? = some (.slice x.ao x.l.length x.c) := rfl
  have h133 : (asK x.C y.C)[133]? = some (.slice y.ao y.l.length y.c) := (asK_at x.C y.C (Ixd.C_len hx)).2 0 _ rfl
  by_cases hw : 500 < x.l.length
  · exact CodecAttSl_wide1 _ as0 x.ao y.ao x.c y.c x.l y.l w Tryz.ty50 hCl h0 h133 hw
  by_cases hw2 : 500 < y.l.length
  · exact CodecAttSl_wide2 _ as0 x.ao y.ao x.c y.c x.l y.l w Tryz.ty50 hCl h0 h133 (by omega) hw2
  have hn : x.l.length ≤ 500 := by omega
  have hm : y.l.length ≤ 500 := by omega
  have hC1 : (asK x.C y.C).toArray.all (·.oneCell') = true := by
    have a := Ixd.C_one (x := x)
    have b := Ixd.C_one (x := y)
    simp only [List.all_toArray, List.all_eq_true] at a b ⊢
    intro v hv
    unfold asK at hv
    simp only [List.mem_append, List.not_mem_nil, or_false] at hv
    rcases hv with hv | hv
    · exact a v hv
    · exact b v hv
  have hla := Ixd.BS_len hx
  have hlb := Ixd.BS_len hy
  have hB8 : ∀ z ∈ asBS x.BS y.BS, z < 256 := by
    intro z hz
    unfold asBS at hz
    simp only [List.mem_append] at hz
    rcases hz with hz | hz | hz | hz
    · exact le_byte _ _ z hz
    · exact le_byte _ _ z hz
    · exact Ixd.BS_byte hx z hz
    · exact Ixd.BS_byte hy z hz
  have henc : ∀ wq, Two x.ao y.ao x.c y.c x.l y.l wq → Calls Tryz.prog 14 #[.agg (asK x.C y.C).toArray] wq fun r w' => ∃ v, r = .returned v ∧ Row w' wq.heap.size v (asBS x.BS y.BS) ∧ Below wq.heap.size wq w' := fun wq hq => by
    have h := attSl_any x.C y.C ix0 x.BS y.BS wq Tryz.ty31 (Ixd.C_len hx) (Ixd.C_len hy) (by kernel_rfl) (by omega) (by omega) (Ixd.BS_byte hx) (Ixd.BS_byte hy)
      (fun wr hr => by
        have k := indexed_any x.ao x.l.length x.c x.l x.sl x.ix x.b x.es x.rs x.et x.rt x.sg wr (hq.one.keep hr) (by omega) hx.sl hx.ix hx.b.1 hx.b.2 hx.es hx.rs.1 hx.rs.2 hx.et hx.rt.1 hx.rt.2 hx.sg.1 hx.sg.2
        rw [ixB x.l x.sl x.ix x.b x.es x.rs x.et x.rt x.sg hx.b.1 hx.rs.1 hx.rt.1 hx.sg.1] at k
        exact k)
      (fun wr hr => by
        have k := indexed_any y.ao y.l.length y.c y.l y.sl y.ix y.b y.es y.rs y.et y.rt y.sg wr (hq.two.keep hr) (by omega) hy.sl hy.ix hy.b.1 hy.b.2 hy.es hy.rs.1 hy.rs.2 hy.et hy.rt.1 hy.rt.2 hy.sg.1 hy.sg.2
        rw [ixB y.l y.sl y.ix y.b y.es y.rs y.et y.rt y.sg hy.b.1 hy.rs.1 hy.rt.1 hy.sg.1] at k
        exact k)
    rw [asB_cont] at h
    exact h
  have hsz : sizeD dIx < 0 := by simp [dIx, dBox, sizeD_nums, sizeD, sizeS]
  have hek : encK (kdsV 8 [dIx, dIx] 2) [x.X, y.X] = [(x.BS, true), (y.BS, true)] := by
    show encK [dIx, dIx] [x.X, y.X] = _
    simp [encK, Ixd.X_enc hx, Ixd.X_enc hy, hsz]
  have hev : encV (dBox [dIx, dIx]) (.mk 0 (zeros 32) [] [x.X, y.X]) = asBS x.BS y.BS := by
    rw [← asB_cont, ← hek]
    unfold dBox
    rw [encV]
    simp
  have hov : okV (dBox [dIx, dIx]) (.mk 0 (zeros 32) [] [x.X, y.X]) := by
    unfold dBox
    rw [okV]
    refine ⟨(by simp), (by simp), (fun _ => (by simp)), (fun _ => (by simp)), ?_, ?_⟩
    · show lenF (encK (kdsV 8 [dIx, dIx] 2) [x.X, y.X]) ≤ _
      rw [hek]
      simp [lenF]
      omega
    · show okK [dIx, dIx] [x.X, y.X]
      exact ⟨Ixd.X_ok hx hn, Ixd.X_ok hy hm, trivial⟩
  have hod : okD (dBox [dIx, dIx]) := by simp [okD, okDs, dIx, dBox, dNum, dRoot, dNums, small, sizeD, sizeS, sizeH]
  have henv : ∀ p u wq, DAt wq (dBox [dIx, dIx]) p → IsV wq u (.mk 0 (zeros 32) [] [x.X, y.X]) → Calls Tryz.prog 10 #[.pointer (some ⟨p, 0, none⟩), u] wq fun r w' => ∃ v, r = .returned v ∧ Row w' wq.heap.size v (asBS x.BS y.BS) ∧ Below wq.heap.size wq w' := fun p u wq hD hV => by
    have h := enc_any _ _ u p wq hod hov hD hV
    rw [hev] at h
    exact h
  have hsm : ∀ Y u v wq, IsV wq u Y → IsV wq v Y → Calls Tryz.prog 12 #[u, v] wq fun r w' => r = .returned (.bool true) ∧ Below wq.heap.size wq w' := fun Y u v wq hu hv => by
    have h := same_any _ _ u v wq hu hv
    rw [sameV_refl] at h
    exact h
  have hdec := fun (v : Value) (wq : World) (hI : IsB wq v (asBS x.BS y.BS)) => toAs_any v x.BS y.BS (decide (x.l.length ≤ 32)) (decide (y.l.length ≤ 32)) x.V y.V x.sg y.sg x.l y.l wq hI (by omega) (by omega) (by omega) (by rw [Ixd.BS_head]; decide)
    (Ixd.side hx hn hIT.one.by64) (Ixd.side hy hm hIT.two.by64)
  have hbad : (decide (x.l.length ≤ 32) && decide (y.l.length ≤ 32)) = false → ∀ v wq, IsB wq v (asBS x.BS y.BS) → Calls Tryz.prog 15 #[v] wq fun r w' => r = .returned (.tuple #[.agg as0.toArray, .int .i64 3]) ∧ Below wq.heap.size wq w' := fun hf v wq hI => by
    refine (hdec v wq hI).mono ?_
    rintro r w' ⟨DA, DB, rfl, _, _, B⟩
    rw [hf]
    exact ⟨rfl, B⟩
  have hz : (zeros 32).length = 32 := rfl
  have hz8 : (zeros 32).length = 32 ∧ ∀ z ∈ zeros 32, z < 256 := ⟨hz, zeros_byte 32⟩
  obtain ⟨z, hzd⟩ : ∃ z : Ixd, z = ⟨none, 0, [], 0, 0, zeros 32, 0, zeros 32, 0, zeros 32, zeros 32⟩ := ⟨_, rfl⟩
  have hzo : z.ok := by subst hzd; exact ⟨by decide, by decide, hz8, by decide, hz8, by decide, hz8, hz8⟩
  have href0 : ∀ wq, Calls Tryz.prog 13 #[.agg as0.toArray] wq fun r w' => ∃ v, r = .returned v ∧ IsV w' v (.mk 0 (zeros 32) [] [z.X, z.X]) ∧ Below wq.heap.size wq w' := fun wq => by
    have h := as_ref z z hzo hzo (by subst hzd; decide) (by subst hzd; decide) none none 0 0 wq (by subst hzd; exact ⟨isN_nil wq, isN_nil wq⟩)
    subst hzd
    exact h
  have href : ∀ wq, Two x.ao y.ao x.c y.c x.l y.l wq → Calls Tryz.prog 13 #[.agg (asK x.C y.C).toArray] wq fun r w' => ∃ v, r = .returned v ∧ IsV w' v (.mk 0 (zeros 32) [] [x.X, y.X]) ∧ Below wq.heap.size wq w' := fun wq hq => as_ref x y hx hy hn hm x.ao y.ao x.c y.c wq hq
  by_cases hxl : x.l.length ≤ 32
  · by_cases hyl : y.l.length ≤ 32
    · refine codecAttSl_good _ as0 x.ao y.ao x.c y.c x.l y.l (fun u wq => ∃ DA DB, u = asK DA DB ∧ SideR 0 true x.V x.sg x.l DA wq ∧ SideR 0 true y.V y.sg y.l DB wq) (fun u wq w' ⟨DA, DB, e, h1, h2⟩ hb => ⟨DA, DB, e, h1.keep hb, h2.keep hb⟩) (.mk 0 (zeros 32) [] [x.X, y.X]) (asBS x.BS y.BS) _ w Tryz.ty50 hCl hC1 h0 h133 hn hm hIT hB8 href henc (fun v wq hI => ?_) (fun u wq hu => ?_) (fun u wq hu => ?_) ⟨hxl, hyl⟩ (fun wq => das_any wq) henv hsm
      · refine (hdec v wq hI).mono ?_
        rintro r w' ⟨DA, DB, rfl, h1, h2, B⟩
        rw [decide_eq_true hxl] at h1
        rw [decide_eq_true hyl] at h2
        rw [decide_eq_true hxl, decide_eq_true hyl]
        exact ⟨⟨asK DA DB, rfl, DA, DB, rfl, h1.low (Nat.zero_le _), h2.low (Nat.zero_le _)⟩, B⟩
      · obtain ⟨DA, DB, rfl, h1, h2⟩ := hu
        refine ⟨?_, ?_⟩
        · have e : (asK DA DB).length = 266 := by simp [asK, h1.len, h2.len]
          exact e.trans (show (266 : Nat) = as0.length by kernel_rfl)
        · have a := h1.one
          have b := h2.one
          simp only [List.all_toArray, List.all_eq_true] at a b ⊢
          intro v hv
          unfold asK at hv
          simp only [List.mem_append, List.not_mem_nil, or_false] at hv
          rcases hv with hv | hv
          · exact a v hv
          · exact b v hv
      · obtain ⟨DA, DB, rfl, h1, h2⟩ := hu
        obtain ⟨u1, rfl, o1⟩ := h1.good rfl
        obtain ⟨u2, rfl, o2⟩ := h2.good rfl
        have n1 := isN_own o1 hIT.one.by64
        have n2 := isN_own o2 hIT.two.by64
        obtain ⟨⟨ao', c', rfl, _⟩, _⟩ := id n1
        obtain ⟨⟨bo', d', rfl, _⟩, _⟩ := id n2
        exact as_ref x y hx hy hn hm ao' bo' c' d' wq ⟨n1, n2⟩
    · exact codecAttSl_bad2 _ as0 x.ao y.ao x.c y.c x.l y.l (.mk 0 (zeros 32) [] [x.X, y.X]) (asBS x.BS y.BS) _ w Tryz.ty50 hCl hC1 h0 h133 hn hm hIT hB8 href henc (.mk 0 (zeros 32) [] [z.X, z.X]) (hbad (by rw [decide_eq_false hyl, Bool.and_false])) as0_one as0_built href0 hxl (by omega) (fun wq => das_any wq) henv hsm
  · exact codecAttSl_bad1 _ as0 x.ao y.ao x.c y.c x.l y.l (.mk 0 (zeros 32) [] [x.X, y.X]) (asBS x.BS y.BS) _ w Tryz.ty50 hCl hC1 h0 h133 hn hm hIT hB8 href henc (.mk 0 (zeros 32) [] [z.X, z.X]) (hbad (by rw [decide_eq_false hxl, Bool.false_and])) as0_one as0_built href0 (by omega) (fun wq => das_any wq) henv hsm
end Go.Proofs.YtpaamhmighgjeaaGreat

/- Structs that came in by value. -/
namespace Go.Proofs.YtpaamhmighgjeaaGreat
open Go.RowKit Go.Deep Go.WideShapes
set_option linter.unusedVariables false
set_option linter.unusedSimpArgs false
set_option maxRecDepth 100000

abbrev Rt (r : List Nat) : Prop := r.length = 32 ∧ ∀ z ∈ r, z < 256
theorem cellsRt : Tryz.prog.cellsOf 25 = 32 := by kernel_rfl
theorem cellsU8 : Tryz.prog.cellsOf 5 = 1 := by kernel_rfl
theorem cellsU64 : Tryz.prog.cellsOf 23 = 1 := by kernel_rfl
/-- Parts of a list, one behind the other. -/
def cutAt {α : Type} (cs : List α) : Nat → List Nat → List (List α)
  | _, [] => []
  | o, k :: ks => (cs.drop o).take k :: cutAt cs (o + k) ks
theorem cut_flat {α : Type} (cs : List α) : ∀ (ks : List Nat) (o : Nat), o + ks.sum = cs.length → cs.drop o = (cutAt cs o ks).flatten := by
  intro ks
  induction ks with
  | nil => intro o h; simp at h; rw [h, List.drop_length]; rfl
  | cons k ks ih =>
    intro o h
    rw [cutAt, List.flatten_cons, ← ih (o + k) (by simp at h; omega), ← List.drop_drop, List.take_append_drop]
section
variable {H : Type} {enc : TypeId × Value → H} {W : World} {b0 : Nat} {sp : Nat → Bool} {held : Bool}
theorem root_of_trod {fuel : Nat} {cs : List Value} {x : DataW H × List MemPlace} (h : DataW.trod enc Tryz.prog W b0 sp held fuel 25 cs = some x) : ∃ r : List Nat, cs = cellsB r ∧ r.length = 32 ∧ ∀ z ∈ r, z < 256 := by
  obtain ⟨xs, m, _, _, hl, hxs, hel⟩ := DataW.trod_array Tryz.und25 h
  rw [cellsRt] at hl
  have key : ∀ i (hi : i < cs.length), ∃ n : Nat, cs[i] = .int .u8 (n : Int) ∧ n < 256 := by
    intro i hi
    have h1 := hel i (by omega)
    rw [cellsU8, Nat.mul_one, List.getElem?_eq_getElem (by omega)] at h1
    obtain ⟨n, e1, _, hw⟩ := DataW.trod_int Tryz.underlying5 h1
    have hb := bounds_u8 hw
    have e2 : (cs.drop i).take 1 = [cs[i]] := by
      rw [List.drop_eq_getElem_cons hi, List.take_succ_cons, List.take_zero]
    have e3 : [cs[i]] = [Value.int .u8 n] := e2.symm.trans e1
    refine ⟨n.toNat, ?_, by omega⟩
    have e4 : cs[i] = Value.int .u8 n := by simpa using e3
    rw [e4]
    congr 1
    omega
  refine ⟨cs.map fun v => (intOf v).toNat, ?_, by simp [hl], ?_⟩
  · unfold cellsB
    apply List.ext_getElem
    · simp
    · intro i h1 h2
      obtain ⟨n, e, hn⟩ := key i h1
      simp [e, intOf]
  · intro z hz
    obtain ⟨v, hv, rfl⟩ := List.mem_map.1 hz
    obtain ⟨i, hi, rfl⟩ := List.mem_iff_getElem.1 hv
    obtain ⟨n, e, hn⟩ := key i hi
    simp [e, intOf, hn]
theorem num_of_trod {fuel : Nat} {cs : List Value} {x : DataW H × List MemPlace} (h : DataW.trod enc Tryz.prog W b0 sp held fuel 23 cs = some x) : ∃ n : Nat, cs = [.int .u64 (n : Nat)] ∧ n < 18446744073709551616 := by
  obtain ⟨i, e, _, hw⟩ := DataW.trod_int Tryz.underlying23 h
  have hb := bounds_u64 hw
  refine ⟨i.toNat, ?_, by omega⟩
  rw [e, Int.toNat_of_nonneg hb.1]
theorem cellsBo : Tryz.prog.cellsOf 4 = 1 := by kernel_rfl
theorem cellsBs : Tryz.prog.cellsOf 22 = 1 := by kernel_rfl
theorem nums_of_trod {fuel : Nat} {cs : List Value} {x : DataW H × List MemPlace} (h : DataW.trod enc Tryz.prog W b0 (fun _ => true) held fuel 22 cs = some x) : ∃ (ao : Option Addr) (c : Nat) (l : List Nat), cs = [.slice ao l.length c] ∧ IsN W (.slice ao l.length c) l := by
  rcases Go.ChangeShapes.open_ints Tryz.underlying22 Tryz.underlying23 cellsU64 h with ⟨hcs, _⟩ | ⟨a, len, cap, zs, hcs, _, hl, hm, hzl, _, hcell, hwf⟩
  · exact ⟨none, 0, [], hcs, ⟨none, 0, rfl, Nat.le_refl _, by decide, .inl rfl⟩, fun _ h => absurd h List.not_mem_nil⟩
  · simp only [if_true] at hzl
    have hln : ((zs.take len).map Int.toNat).length = len := by rw [List.length_map, List.length_take, hzl, Nat.min_eq_left hl]
    refine ⟨some a, cap, (zs.take len).map Int.toNat, by rw [hln]; exact hcs, ⟨some a, cap, rfl, by rw [hln]; exact hl, hm, ?_⟩, ?_⟩
    · by_cases h0 : len = 0
      · exact .inl (by rw [hln]; exact h0)
      · obtain ⟨b, off, spot⟩ := a
        obtain rfl : spot = none := by
          have := hcell 0 (by omega)
          simpa [Addr.add] using World.cell?_spot this
        refine .inr ⟨b, off, rfl, fun i hi => ?_⟩
        rw [hln] at hi
        have hiz : i < zs.length := by omega
        have h1 := hcell i hiz
        rw [Addr.add_lit] at h1
        have hb := bounds_u64 (hwf (zs.getD i 0) (by rw [List.getD_eq_getElem?_getD, List.getElem?_eq_getElem hiz]; exact List.getElem_mem hiz))
        rw [h1]
        have e1 : ((zs.take len).map Int.toNat).getD i 0 = (zs.getD i 0).toNat := by
          rw [List.getD_eq_getElem?_getD, List.getElem?_map, List.getElem?_take, if_pos hi, List.getD_eq_getElem?_getD, List.getElem?_eq_getElem hiz]
          rfl
        rw [e1, Int.toNat_of_nonneg hb.1]
    · intro n hn
      obtain ⟨z, hz, rfl⟩ := List.mem_map.1 hn
      have hb := bounds_u64 (hwf z (List.mem_of_mem_take hz))
      omega
theorem cells_cp : Tryz.prog.cellsOf 27 = 33 := by kernel_rfl
theorem cp_of_trod {fuel : Nat} {cs : List Value} {x : DataW H × List MemPlace} (h : DataW.trod enc Tryz.prog W b0 sp held fuel 27 cs = some x) : ∃ (ze : Nat) (zr : List Nat), cs = cpC ze zr ∧ ze < 18446744073709551616 ∧ Rt zr := by
  obtain ⟨xs, n, _, _, hl, hlen, hf⟩ := DataW.trod_struct Tryz.underlying27 h
  rw [cells_cp] at hl
  have hx : xs.length = 2 := hlen
  have f0 : ∃ y, DataW.trod enc Tryz.prog W b0 sp held n 23 ((cs.drop 0).take 1) = some y := by
    have := hf 0 _ rfl
    change DataW.trod enc Tryz.prog W b0 sp held n 23 (List.take (Tryz.prog.cellsOf 23) (List.drop 0 cs)) = xs[0]? at this
    rw [cellsU64, List.getElem?_eq_getElem (by omega)] at this
    exact ⟨_, this⟩
  obtain ⟨y0, f0⟩ := f0
  obtain ⟨ze, e0, hze⟩ := num_of_trod f0
  have f1 : ∃ y, DataW.trod enc Tryz.prog W b0 sp held n 25 ((cs.drop 1).take 32) = some y := by
    have := hf 1 _ rfl
    change DataW.trod enc Tryz.prog W b0 sp held n 25 (List.take (Tryz.prog.cellsOf 25) (List.drop 1 cs)) = xs[1]? at this
    rw [cellsRt, List.getElem?_eq_getElem (by omega)] at this
    exact ⟨_, this⟩
  obtain ⟨y1, f1⟩ := f1
  obtain ⟨zr, e1, hzr⟩ := root_of_trod f1
  have hc := cut_flat cs [1, 32] 0 (by rw [hl]; rfl)
  rw [List.drop_zero] at e0
  simp only [cutAt, List.drop_zero, Nat.zero_add, Nat.reduceAdd, e0, e1] at hc
  refine ⟨ze, zr, by rw [hc]; simp [cpC], hze, hzr⟩
theorem open_cp {base : Nat} {v : Value} {d : DataW H} {p : List MemPlace} (hv : Value.okWide Tryz.prog W .any base 27 v) (h : DataW.Trod enc Tryz.prog W b0 sp held 27 v d p) : ∃ (ze : Nat) (zr : List Nat), v = .agg (cpC ze zr).toArray ∧ ze < 18446744073709551616 ∧ Rt zr := by
  obtain ⟨cs, rfl, _⟩ := okWide_struct Tryz.underlying27 hv
  obtain ⟨fuel, hf⟩ := h
  obtain ⟨ze, zr, e, hze, hzr⟩ := cp_of_trod hf
  exact ⟨ze, zr, by rw [← Array.toList_inj.1 (show cs.toList = (cpC ze zr).toArray.toList from e)], hze, hzr⟩
theorem cells_vt : Tryz.prog.cellsOf 29 = 100 := by kernel_rfl
theorem vt_of_trod {fuel : Nat} {cs : List Value} {x : DataW H × List MemPlace} (h : DataW.trod enc Tryz.prog W b0 sp held fuel 29 cs = some x) : ∃ (zs : Nat) (zi : Nat) (zb : List Nat) (zcze : Nat) (zczr : List Nat) (ztze : Nat) (ztzr : List Nat), cs = vtC zs zi zb zcze zczr ztze ztzr ∧ zs < 18446744073709551616 ∧ zi < 18446744073709551616 ∧ Rt zb ∧ zcze < 18446744073709551616 ∧ Rt zczr ∧ ztze < 18446744073709551616 ∧ Rt ztzr := by
  obtain ⟨xs, n, _, _, hl, hlen, hf⟩ := DataW.trod_struct Tryz.underlying29 h
  rw [cells_vt] at hl
  have hx : xs.length = 5 := hlen
  have f0 : ∃ y, DataW.trod enc Tryz.prog W b0 sp held n 23 ((cs.drop 0).take 1) = some y := by
    have := hf 0 _ rfl
    change DataW.trod enc Tryz.prog W b0 sp held n 23 (List.take (Tryz.prog.cellsOf 23) (List.drop 0 cs)) = xs[0]? at this
    rw [cellsU64, List.getElem?_eq_getElem (by omega)] at this
    exact ⟨_, this⟩
  obtain ⟨y0, f0⟩ := f0
  obtain ⟨zs, e0, hzs⟩ := num_of_trod f0
  have f1 : ∃ y, DataW.trod enc Tryz.prog W b0 sp held n 23 ((cs.drop 1).take 1) = some y := by
    have := hf 1 _ rfl
    change DataW.trod enc Tryz.prog W b0 sp held n 23 (List.take (Tryz.prog.cellsOf 23) (List.drop 1 cs)) = xs[1]? at this
    rw [cellsU64, List.getElem?_eq_getElem (by omega)] at this
    exact ⟨_, this⟩
  obtain ⟨y1, f1⟩ := f1
  obtain ⟨zi, e1, hzi⟩ := num_of_trod f1
  have f2 : ∃ y, DataW.trod enc Tryz.prog W b0 sp held n 25 ((cs.drop 2).take 32) = some y := by
    have := hf 2 _ rfl
    change DataW.trod enc Tryz.prog W b0 sp held n 25 (List.take (Tryz.prog.cellsOf 25) (List.drop 2 cs)) = xs[2]? at this
    rw [cellsRt, List.getElem?_eq_getElem (by omega)] at this
    exact ⟨_, this⟩
  obtain ⟨y2, f2⟩ := f2
  obtain ⟨zb, e2, hzb⟩ := root_of_trod f2
  have f3 : ∃ y, DataW.trod enc Tryz.prog W b0 sp held n 27 ((cs.drop 34).take 33) = some y := by
    have := hf 3 _ rfl
    change DataW.trod enc Tryz.prog W b0 sp held n 27 (List.take (Tryz.prog.cellsOf 27) (List.drop 34 cs)) = xs[3]? at this
    rw [cells_cp, List.getElem?_eq_getElem (by omega)] at this
    exact ⟨_, this⟩
  obtain ⟨y3, f3⟩ := f3
  obtain ⟨zcze, zczr, e3, hzcze, hzczr⟩ := cp_of_trod f3
  have f4 : ∃ y, DataW.trod enc Tryz.prog W b0 sp held n 27 ((cs.drop 67).take 33) = some y := by
    have := hf 4 _ rfl
    change DataW.trod enc Tryz.prog W b0 sp held n 27 (List.take (Tryz.prog.cellsOf 27) (List.drop 67 cs)) = xs[4]? at this
    rw [cells_cp, List.getElem?_eq_getElem (by omega)] at this
    exact ⟨_, this⟩
  obtain ⟨y4, f4⟩ := f4
  obtain ⟨ztze, ztzr, e4, hztze, hztzr⟩ := cp_of_trod f4
  have hc := cut_flat cs [1, 1, 32, 33, 33] 0 (by rw [hl]; rfl)
  rw [List.drop_zero] at e0
  simp only [cutAt, List.drop_zero, Nat.zero_add, Nat.reduceAdd, e0, e1, e2, e3, e4] at hc
  refine ⟨zs, zi, zb, zcze, zczr, ztze, ztzr, by rw [hc]; simp [vtC], hzs, hzi, hzb, hzcze, hzczr, hztze, hztzr⟩
theorem open_vt {base : Nat} {v : Value} {d : DataW H} {p : List MemPlace} (hv : Value.okWide Tryz.prog W .any base 29 v) (h : DataW.Trod enc Tryz.prog W b0 sp held 29 v d p) : ∃ (zs : Nat) (zi : Nat) (zb : List Nat) (zcze : Nat) (zczr : List Nat) (ztze : Nat) (ztzr : List Nat), v = .agg (vtC zs zi zb zcze zczr ztze ztzr).toArray ∧ zs < 18446744073709551616 ∧ zi < 18446744073709551616 ∧ Rt zb ∧ zcze < 18446744073709551616 ∧ Rt zczr ∧ ztze < 18446744073709551616 ∧ Rt ztzr := by
  obtain ⟨cs, rfl, _⟩ := okWide_struct Tryz.underlying29 hv
  obtain ⟨fuel, hf⟩ := h
  obtain ⟨zs, zi, zb, zcze, zczr, ztze, ztzr, e, hzs, hzi, hzb, hzcze, hzczr, hztze, hztzr⟩ := vt_of_trod hf
  exact ⟨zs, zi, zb, zcze, zczr, ztze, ztzr, by rw [← Array.toList_inj.1 (show cs.toList = (vtC zs zi zb zcze zczr ztze ztzr).toArray.toList from e)], hzs, hzi, hzb, hzcze, hzczr, hztze, hztzr⟩
theorem cells_ix : Tryz.prog.cellsOf 31 = 133 := by kernel_rfl
theorem ix_of_trod {fuel : Nat} {cs : List Value} {x : DataW H × List MemPlace} (h : DataW.trod enc Tryz.prog W b0 (fun _ => true) held fuel 31 cs = some x) : ∃ (zbo : Option Addr) (zbc : Nat) (zbl : List Nat) (zdzs : Nat) (zdzi : Nat) (zdzb : List Nat) (zdzcze : Nat) (zdzczr : List Nat) (zdztze : Nat) (zdztzr : List Nat) (zsg : List Nat), cs = atC (.slice zbo zbl.length zbc) (vtC zdzs zdzi zdzb zdzcze zdzczr zdztze zdztzr) zsg ∧ zdzs < 18446744073709551616 ∧ zdzi < 18446744073709551616 ∧ Rt zdzb ∧ zdzcze < 18446744073709551616 ∧ Rt zdzczr ∧ zdztze < 18446744073709551616 ∧ Rt zdztzr ∧ Rt zsg ∧ IsN W (.slice zbo zbl.length zbc) zbl := by
  obtain ⟨xs, n, _, _, hl, hlen, hf⟩ := DataW.trod_struct Tryz.underlying31 h
  rw [cells_ix] at hl
  have hx : xs.length = 3 := hlen
  have f0 : ∃ y, DataW.trod enc Tryz.prog W b0 (fun _ => true) held n 22 ((cs.drop 0).take 1) = some y := by
    have := hf 0 _ rfl
    change DataW.trod enc Tryz.prog W b0 (fun _ => true) held n 22 (List.take (Tryz.prog.cellsOf 22) (List.drop 0 cs)) = xs[0]? at this
    rw [cellsBs, List.getElem?_eq_getElem (by omega)] at this
    exact ⟨_, this⟩
  obtain ⟨y0, f0⟩ := f0
  obtain ⟨zbo, zbc, zbl, e0, hzb⟩ := nums_of_trod f0
  have f1 : ∃ y, DataW.trod enc Tryz.prog W b0 (fun _ => true) held n 29 ((cs.drop 1).take 100) = some y := by
    have := hf 1 _ rfl
    change DataW.trod enc Tryz.prog W b0 (fun _ => true) held n 29 (List.take (Tryz.prog.cellsOf 29) (List.drop 1 cs)) = xs[1]? at this
    rw [cells_vt, List.getElem?_eq_getElem (by omega)] at this
    exact ⟨_, this⟩
  obtain ⟨y1, f1⟩ := f1
  obtain ⟨zdzs, zdzi, zdzb, zdzcze, zdzczr, zdztze, zdztzr, e1, hzdzs, hzdzi, hzdzb, hzdzcze, hzdzczr, hzdztze, hzdztzr⟩ := vt_of_trod f1
  have f2 : ∃ y, DataW.trod enc Tryz.prog W b0 (fun _ => true) held n 25 ((cs.drop 101).take 32) = some y := by
    have := hf 2 _ rfl
    change DataW.trod enc Tryz.prog W b0 (fun _ => true) held n 25 (List.take (Tryz.prog.cellsOf 25) (List.drop 101 cs)) = xs[2]? at this
    rw [cellsRt, List.getElem?_eq_getElem (by omega)] at this
    exact ⟨_, this⟩
  obtain ⟨y2, f2⟩ := f2
  obtain ⟨zsg, e2, hzsg⟩ := root_of_trod f2
  have hc := cut_flat cs [1, 100, 32] 0 (by rw [hl]; rfl)
  rw [List.drop_zero] at e0
  simp only [cutAt, List.drop_zero, Nat.zero_add, Nat.reduceAdd, e0, e1, e2] at hc
  refine ⟨zbo, zbc, zbl, zdzs, zdzi, zdzb, zdzcze, zdzczr, zdztze, zdztzr, zsg, by rw [hc]; simp [atC], hzdzs, hzdzi, hzdzb, hzdzcze, hzdzczr, hzdztze, hzdztzr, hzsg, hzb⟩
theorem open_ix {base : Nat} {v : Value} {d : DataW H} {p : List MemPlace} (hv : Value.okWide Tryz.prog W .any base 31 v) (h : DataW.Trod enc Tryz.prog W b0 (fun _ => true) held 31 v d p) : ∃ (zbo : Option Addr) (zbc : Nat) (zbl : List Nat) (zdzs : Nat) (zdzi : Nat) (zdzb : List Nat) (zdzcze : Nat) (zdzczr : List Nat) (zdztze : Nat) (zdztzr : List Nat) (zsg : List Nat), v = .agg (atC (.slice zbo zbl.length zbc) (vtC zdzs zdzi zdzb zdzcze zdzczr zdztze zdztzr) zsg).toArray ∧ zdzs < 18446744073709551616 ∧ zdzi < 18446744073709551616 ∧ Rt zdzb ∧ zdzcze < 18446744073709551616 ∧ Rt zdzczr ∧ zdztze < 18446744073709551616 ∧ Rt zdztzr ∧ Rt zsg ∧ IsN W (.slice zbo zbl.length zbc) zbl := by
  obtain ⟨cs, rfl, _⟩ := okWide_struct Tryz.underlying31 hv
  obtain ⟨fuel, hf⟩ := h
  obtain ⟨zbo, zbc, zbl, zdzs, zdzi, zdzb, zdzcze, zdzczr, zdztze, zdztzr, zsg, e, hzdzs, hzdzi, hzdzb, hzdzcze, hzdzczr, hzdztze, hzdztzr, hzsg, hzb⟩ := ix_of_trod hf
  exact ⟨zbo, zbc, zbl, zdzs, zdzi, zdzb, zdzcze, zdzczr, zdztze, zdztzr, zsg, by rw [← Array.toList_inj.1 (show cs.toList = (atC (.slice zbo zbl.length zbc) (vtC zdzs zdzi zdzb zdzcze zdzczr zdztze zdztzr) zsg).toArray.toList from e)], hzdzs, hzdzi, hzdzb, hzdzcze, hzdzczr, hzdztze, hzdztzr, hzsg, hzb⟩
end
end Go.Proofs.YtpaamhmighgjeaaGreat

/- AttesterSlashings that came in by value. -/
namespace Go.Proofs.YtpaamhmighgjeaaGreat
open Go.RowKit Go.Deep Go.WideShapes
set_option linter.unusedVariables false
set_option linter.unusedSimpArgs false
set_option maxRecDepth 100000

section
variable {H : Type} {enc : TypeId × Value → H} {W : World} {b0 : Nat} {held : Bool}
theorem ixd_of_trod {fuel : Nat} {cs : List Value} {x : DataW H × List MemPlace} (h : DataW.trod enc Tryz.prog W b0 (fun _ => true) held fuel 31 cs = some x) : ∃ y : Ixd, cs = y.C ∧ y.ok ∧ IsN W (.slice y.ao y.l.length y.c) y.l := by
  obtain ⟨zbo, zbc, zbl, zdzs, zdzi, zdzb, zdzcze, zdzczr, zdztze, zdztzr, zsg, e, h1, h2, h3, h4, h5, h6, h7, h8, hn⟩ := ix_of_trod h
  exact ⟨⟨zbo, zbc, zbl, zdzs, zdzi, zdzb, zdzcze, zdzczr, zdztze, zdztzr, zsg⟩, e, ⟨h1, h2, h3, h4, h5, h6, h7, h8⟩, hn⟩
theorem cells_as : Tryz.prog.cellsOf 50 = 266 := by kernel_rfl
theorem open_as {base : Nat} {v : Value} {d : DataW H} {p : List MemPlace} (hv : Value.okWide Tryz.prog W .any base 50 v) (h : DataW.Trod enc Tryz.prog W b0 (fun _ => true) held 50 v d p) :
    ∃ x y : Ixd, v = .agg (asK x.C y.C).toArray ∧ x.ok ∧ y.ok ∧ Two x.ao y.ao x.c y.c x.l y.l W := by
  obtain ⟨cs, rfl, _⟩ := okWide_struct Tryz.underlying50 hv
  obtain ⟨fuel, hf0⟩ := h
  have hf1 : ∃ z, DataW.trod enc Tryz.prog W b0 (fun _ => true) held fuel 50 cs.toList = some z := ⟨_, hf0⟩
  obtain ⟨z, hf1⟩ := hf1
  obtain ⟨xs, n, _, _, hl, hlen, hf⟩ := DataW.trod_struct Tryz.underlying50 hf1
  rw [cells_as] at hl
  have hx : xs.length = 2 := hlen
  have f0 : ∃ y, DataW.trod enc Tryz.prog W b0 (fun _ => true) held n 31 ((cs.toList.drop 0).take 133) = some y := by
    have := hf 0 _ rfl
    change DataW.trod enc Tryz.prog W b0 (fun _ => true) held n 31 (List.take (Tryz.prog.cellsOf 31) (List.drop 0 cs.toList)) = xs[0]? at this
    rw [cells_ix, List.getElem?_eq_getElem (by omega)] at this
    exact ⟨_, this⟩
  obtain ⟨y0, f0⟩ := f0
  obtain ⟨x, e0, hxo, hxn⟩ := ixd_of_trod f0
  have f1 : ∃ y, DataW.trod enc Tryz.prog W b0 (fun _ => true) held n 31 ((cs.toList.drop 133).take 133) = some y := by
    have := hf 1 _ rfl
    change DataW.trod enc Tryz.prog W b0 (fun _ => true) held n 31 (List.take (Tryz.prog.cellsOf 31) (List.drop 133 cs.toList)) = xs[1]? at this
    rw [cells_ix, List.getElem?_eq_getElem (by omega)] at this
    exact ⟨_, this⟩
  obtain ⟨y1, f1⟩ := f1
  obtain ⟨y, e1, hyo, hyn⟩ := ixd_of_trod f1
  have hc := cut_flat cs.toList [133, 133] 0 (by rw [hl]; rfl)
  simp only [cutAt, List.drop_zero, Nat.zero_add] at hc
  rw [List.drop_zero] at e0
  rw [e0, e1] at hc
  refine ⟨x, y, ?_, hxo, hyo, hxn, hyn⟩
  have e : cs = (asK x.C y.C).toArray := Array.toList_inj.1 (by rw [hc]; simp [asK])
  rw [e]
end
end Go.Proofs.YtpaamhmighgjeaaGreat

