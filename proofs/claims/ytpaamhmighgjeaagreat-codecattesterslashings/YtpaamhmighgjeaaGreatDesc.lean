/- The document's kinds (Desc) as trees: how they lie in memory; their sizes. -/
import Derived.Test.YtpaamhmighgjeaaGreatVals
import Derived.Test.YtpaamhmighgjeaaGreatCls
namespace Go.Proofs.YtpaamhmighgjeaaGreat
open Go.RowKit
set_option linter.unusedVariables false
set_option maxRecDepth 100000

/-- A kind. -/
inductive Dt where
  | mk (form n : Nat) (of : List Dt)
def Dt.form : Dt → Nat | .mk f _ _ => f
def Dt.n : Dt → Nat | .mk _ n _ => n
def Dt.of : Dt → List Dt | .mk _ _ l => l
mutual
def Dt.deep : Dt → Nat | .mk _ _ l => deepD l + 1
def deepD : List Dt → Nat | [] => 0 | x :: r => max x.deep (deepD r)
end
theorem deepD_get : ∀ {l : List Dt} {i : Nat} {x : Dt}, l[i]? = some x → x.deep ≤ deepD l
  | y :: r, 0, x, h => by simp at h; subst h; rw [deepD]; exact Nat.le_max_left _ _
  | y :: r, i + 1, x, h => by
    rw [List.getElem?_cons_succ] at h
    rw [deepD]
    exact Nat.le_trans (deepD_get h) (Nat.le_max_right _ _)
mutual
/-- A kind lies at a block. -/
def DAt (w : World) : Dt → Nat → Prop
  | .mk f n ds, p => w.cell? ⟨p, 0, none⟩ = some (.int .i64 (f : Nat)) ∧ w.cell? ⟨p, 1, none⟩ = some (.int .i64 (n : Nat)) ∧ ∃ ao cap, w.cell? ⟨p, 2, none⟩ = some (.slice ao ds.length cap) ∧ ds.length ≤ cap ∧ cap ≤ maxLen ∧ (ds.length = 0 ∨ ∃ b off, ao = some ⟨b, off, none⟩ ∧ DsAt w ds b off)
def DsAt (w : World) : List Dt → Nat → Nat → Prop
  | [], _, _ => True
  | x :: rest, b, off => (∃ p, w.cell? ⟨b, off, none⟩ = some (.pointer (some ⟨p, 0, none⟩)) ∧ DAt w x p) ∧ DsAt w rest b (off + 1)
end
theorem cell_keep {w w' : World} (hb : Below w.heap.size w w') {p : Addr} {v : Value} (h : w.cell? p = some v) : w'.cell? p = some v := (hb.cell (p := p) (block_lt_of_cell h)).trans h
mutual
theorem DAt.keep {w w' : World} (hb : Below w.heap.size w w') : ∀ (x : Dt) {p : Nat}, DAt w x p → DAt w' x p
  | .mk f n ds, p, h => by
    rw [DAt] at h ⊢
    obtain ⟨h0, h1, ao, cap, h2, h3, h4, h5⟩ := h
    refine ⟨cell_keep hb h0, cell_keep hb h1, ao, cap, cell_keep hb h2, h3, h4, ?_⟩
    rcases h5 with h5 | ⟨b, off, h6, h7⟩
    · exact .inl h5
    · exact .inr ⟨b, off, h6, DsAt.keep hb ds h7⟩
theorem DsAt.keep {w w' : World} (hb : Below w.heap.size w w') : ∀ (l : List Dt) {b off : Nat}, DsAt w l b off → DsAt w' l b off
  | [], b, off, _ => by rw [DsAt]; exact trivial
  | x :: rest, b, off, h => by
    rw [DsAt] at h ⊢
    obtain ⟨⟨p, h1, h2⟩, h3⟩ := h
    exact ⟨⟨p, cell_keep hb h1, DAt.keep hb x h2⟩, DsAt.keep hb rest h3⟩
end
theorem DAt.drewN {w : World} {x : Dt} {p : Nat} (h : DAt w x p) (m : Nat) : DAt (w.drewN m) x p := DAt.keep (w := w) (w' := w.drewN m) ⟨rfl, rfl, rfl, Nat.le_refl _, fun _ _ => rfl⟩ x h
theorem DsAt.get {w : World} : ∀ {l : List Dt} {b off i : Nat} {x : Dt}, DsAt w l b off → l[i]? = some x → ∃ p, w.cell? ⟨b, off + i, none⟩ = some (.pointer (some ⟨p, 0, none⟩)) ∧ DAt w x p
  | y :: r, b, off, 0, x, h, hx => by
    rw [DsAt] at h
    simp at hx; subst hx
    exact h.1
  | y :: r, b, off, i + 1, x, h, hx => by
    rw [DsAt] at h
    rw [List.getElem?_cons_succ] at hx
    have := DsAt.get h.2 hx
    rwa [show off + 1 + i = off + (i + 1) by omega] at this
mutual
/-- The size of all values of a kind; below 0: they have several. -/
def sizeD : Dt → Int
  | .mk f n ds => if f = 1 then 8 else if f = 2 then 1 else if f = 3 then 32 else if f = 6 then ((n + 7) / 8 : Nat) else if f = 4 then n * sizeH ds else if f = 8 then sizeS ds else -1
def sizeH : List Dt → Int
  | [] => 0
  | d :: _ => sizeD d
/-- A container's: the sum, or -1. -/
def sizeS : List Dt → Int
  | [] => 0
  | d :: r => if sizeD d < 0 then -1 else if sizeS r < 0 then -1 else sizeD d + sizeS r
end
/-- The sizes of the first ones are no less than 0. -/
def sumD (ds : List Dt) : Int := (ds.map sizeD).sum
theorem sizeS_neg : ∀ {ds : List Dt} {i : Nat} {x : Dt}, ds[i]? = some x → sizeD x < 0 → sizeS ds = -1
  | y :: r, 0, x, h, hx => by simp at h; subst h; rw [sizeS, if_pos hx]
  | y :: r, i + 1, x, h, hx => by
    rw [List.getElem?_cons_succ] at h
    rw [sizeS, sizeS_neg h hx]
    split
    · rfl
    · simp
theorem sizeS_sum : ∀ {ds : List Dt}, (∀ d ∈ ds, 0 ≤ sizeD d) → sizeS ds = sumD ds ∧ 0 ≤ sumD ds
  | [], _ => by simp [sizeS, sumD]
  | d :: r, h => by
    have h1 := h d (by simp)
    obtain ⟨h2, h3⟩ := sizeS_sum (ds := r) (fun x hx => h x (by simp [hx]))
    have e : sumD (d :: r) = sizeD d + sumD r := by simp [sumD]
    rw [sizeS, if_neg (by omega), h2, if_neg (by omega), e]
    exact ⟨rfl, by omega⟩
theorem sumD_succ (ds : List Dt) (k : Nat) (x : Dt) (h : ds[k]? = some x) : sumD (ds.take (k + 1)) = sumD (ds.take k) + sizeD x := by
  have hi := (List.getElem?_eq_some_iff.1 h).1
  rw [List.getElem?_eq_getElem hi] at h
  cases h
  have e : ∀ (a : List Dt) (b : Dt), sumD (a ++ [b]) = sumD a + sizeD b := fun a b => by simp [sumD]
  rw [List.take_succ_eq_append_getElem hi, e]
/-- Small: no sum and product of sizes wraps. -/
def small (x : Int) : Prop := -1099511627776 ≤ x ∧ x ≤ 1099511627776
mutual
def okD : Dt → Prop
  | .mk f n ds => f ≤ 8 ∧ n ≤ 1048576 ∧ small (sizeD (.mk f n ds)) ∧ ds.length ≤ 1048576 ∧ (f = 4 → 0 < ds.length) ∧ okDs ds
def okDs : List Dt → Prop
  | [] => True
  | d :: r => okD d ∧ okDs r
end
theorem okDs_get : ∀ {l : List Dt} {i : Nat} {x : Dt}, okDs l → l[i]? = some x → okD x
  | y :: r, 0, x, h, hx => by rw [okDs] at h; simp at hx; subst hx; exact h.1
  | y :: r, i + 1, x, h, hx => by rw [okDs] at h; rw [List.getElem?_cons_succ] at hx; exact okDs_get h.2 hx
theorem okD.small {d : Dt} (h : okD d) : small (sizeD d) := by cases d; rw [okD] at h; exact h.2.2.1
theorem quiet_drew {P : Program} {f : FuncId} {args : Array Value} {w : World} {n : Nat} {v : Value}
    (h : Calls P f args (w.drewN n) fun e w' => e = .returned v ∧ ∃ m, w' = (w.drewN n).drewN m) : Calls P f args (w.drewN n) fun e w'' => e = .returned v ∧ ∃ m, w'' = w.drewN m :=
  h.mono fun _ _ ⟨he, m, hm⟩ => ⟨he, n + m, by rw [hm, World.drewN_drewN]⟩
theorem sumD_bound {ds : List Dt} (h : okDs ds) : ∀ k : Nat, -(1099511627776 * (k : Int)) ≤ sumD (ds.take k) ∧ sumD (ds.take k) ≤ 1099511627776 * (k : Int)
  | 0 => by simp [sumD]
  | k + 1 => by
    have ih := sumD_bound h k
    by_cases hk : k < ds.length
    · have hx := List.getElem?_eq_getElem hk
      have hs := (okDs_get h hx).small
      unfold Go.Proofs.YtpaamhmighgjeaaGreat.small at hs
      rw [sumD_succ ds k _ hx]
      omega
    · rw [List.take_of_length_le (by omega)] at ih ⊢
      omega
theorem all_nonneg {ds : List Dt} {k : Nat} (h : ∀ i x, i < k → ds[i]? = some x → 0 ≤ sizeD x) (hk : ds.length ≤ k) : ∀ d ∈ ds, 0 ≤ sizeD d := fun d hd => by
  obtain ⟨i, hi, rfl⟩ := List.mem_iff_getElem.1 hd
  exact h i _ (by omega) (List.getElem?_eq_getElem hi)

set_option maxHeartbeats 1000000 in
theorem size_step (N : Nat) (IH : ∀ (d : Dt) (p : Nat) (w : World), d.deep ≤ N → okD d → DAt w d p → Calls Tryz.prog 87 #[.pointer (some ⟨p, 0, none⟩)] w fun e w' => e = .returned (.int .i64 (sizeD d)) ∧ ∃ m, w' = w.drewN m) :
    ∀ (d : Dt) (p : Nat) (w : World), d.deep ≤ N + 1 → okD d → DAt w d p → Calls Tryz.prog 87 #[.pointer (some ⟨p, 0, none⟩)] w fun e w' => e = .returned (.int .i64 (sizeD d)) ∧ ∃ m, w' = w.drewN m
  | .mk f n ds, p, w, hN, hok, hD => by
    replace IH := hid IH
    have hok' := hok
    rw [okD] at hok
    obtain ⟨hf8, hn, hsm, hdl, hf4, hokd⟩ := hok
    rw [DAt] at hD
    obtain ⟨c0, c1, ao, cap, c2, hcap, hcm, hds⟩ := hD
    unfold maxLen at hcm
    unfold small at hsm
    have hdeep : ∀ (i : Nat) (x : Dt), ds[i]? = some x → x.deep ≤ N := fun i x hx => by
      have := deepD_get hx
      rw [Dt.deep] at hN
      omega
    have HDP := hid hdeep
    clear hdeep hN
    by_cases h4 : f = 4
    · subst h4
      obtain ⟨d0, r, rfl⟩ : ∃ d0 r, ds = d0 :: r := by
        cases ds with
        | nil => have := hf4 rfl; simp at this
        | cons d0 r => exact ⟨d0, r, rfl⟩
      obtain ⟨b, off, rfl, hDs⟩ : ∃ b off, ao = some ⟨b, off, none⟩ ∧ DsAt w (d0 :: r) b off := by
        rcases hds with h | h
        · simp at h
        · exact h
      obtain ⟨q, hq, hDq⟩ := DsAt.get (i := 0) (x := d0) hDs rfl
      rw [Nat.add_zero] at hq
      have he : sizeD (.mk 4 n (d0 :: r)) = (n : Int) * sizeD d0 := by simp [sizeD, sizeH]
      rw [he] at hsm ⊢
      have hCq := fun m => IH.out d0 q (w.drewN m) (HDP.out 0 d0 rfl) (okDs_get (i := 0) hokd rfl) (hDq.drewN m)
      have HCq := hid hCq
      clear hDs hds hDq he hCq hokd hok'
      generalize sizeD d0 = s at *
      generalize hns : (n : Int) * s = ns at *
      have hl : ((d0 :: r).length : Int) ≥ 1 := by simp; omega
      go_enter Tryz.func87, Tryz.ntmps87
      go_wp2
      go_quiet ((go_at_call 87; exact quiet_drew (HCq.out _)))
      go_wp2
      go_ret
      exact ⟨rfl, _, rfl⟩
    · by_cases h8 : f = 8
      · subst h8
        have he : sizeD (.mk 8 n ds) = sizeS ds := by simp [sizeD]
        rw [he] at hsm ⊢
        go_enter Tryz.func87, Tryz.ntmps87
        go_wp2
        go_loopw [3, 4, 5] (fun s i _ wr => ∃ k m : Nat, k ≤ ds.length ∧ i = .int .i64 k ∧ s = .int .i64 (sumD (ds.take k)) ∧ wr = w.drewN m ∧ ∀ i x, i < k → ds[i]? = some x → 0 ≤ sizeD x) (fun _ i _ _ => ds.length - (intOf i).toNat)
        case atStart => exact ⟨0, 0, Nat.zero_le _, rfl, rfl, rfl, fun i x h => absurd h (Nat.not_lt_zero _)⟩
        case round =>
          obtain ⟨k, m, hk, rfl, rfl, rfl, hnn⟩ := hrel
          have HNN := hid hnn
          clear hnn
          by_cases hlt : k < ds.length
          · obtain ⟨b, off, rfl, hDs⟩ : ∃ b off, ao = some ⟨b, off, none⟩ ∧ DsAt w ds b off := by
              rcases hds with h | h
              · omega
              · exact h
            have hx := List.getElem?_eq_getElem hlt
            obtain ⟨q, hq, hDq⟩ := DsAt.get hDs hx
            have hCq := IH.out _ q (w.drewN m) (HDP.out k _ hx) (okDs_get hokd hx) (hDq.drewN m)
            have hb1 := sumD_bound hokd k
            have hb2 := (okDs_get hokd hx).small
            unfold small at hb2
            have HSU := hid (sumD_succ ds k _ hx)
            have HNG := hid (sizeS_neg hx)
            have HX := hid hx
            have HCq := hid hCq
            clear hds hDs hDq hCq hx
            generalize sumD (ds.take k) = sk at *
            obtain ⟨x, hxx⟩ : ∃ x, ds[k] = x := ⟨_, rfl⟩
            rw [hxx] at HCq HSU HNG hb2 HX
            clear hxx
            obtain ⟨sx, hsx⟩ : ∃ sx, sizeD x = sx := ⟨_, rfl⟩
            rw [hsx] at HCq HSU hb2
            have HSX := hid hsx
            clear hsx
            by_cases hneg : sx < 0
            · go_wp2_with fail
              refine HCq.out.mono ?_
              rintro e w4 ⟨rfl, m4, rfl⟩
              go_wp2
              go_ret
              exact ⟨by rw [HNG.out (by rw [HSX.out]; exact hneg)]; rfl, m + m4, rfl⟩
            · go_wp2_with fail
              refine HCq.out.mono ?_
              rintro e w4 ⟨rfl, m4, rfl⟩
              go_wp2
              go_roundw
              case rel => exact ⟨k + 1, m + m4, by omega, by go_num, by rw [HSU.out], rfl, fun i y hi hy => by
                by_cases e : i = k
                · subst e
                  rw [HX.out] at hy
                  cases hy
                  rw [HSX.out]; omega
                · exact HNN.out i y (by omega) hy⟩
              case measure => simp [intOf]; omega
          · obtain rfl : k = ds.length := by omega
            have hss := (sizeS_sum (all_nonneg HNN.out (Nat.le_refl _))).1
            rw [List.take_length, ← hss]
            clear hss HNN
            go_wp2
            go_ret
            exact ⟨rfl, _, rfl⟩
      · clear IH HDP hokd hok' hds hf4
        have hcs : f = 0 ∨ f = 1 ∨ f = 2 ∨ f = 3 ∨ f = 5 ∨ f = 6 ∨ f = 7 := by omega
        rcases hcs with rfl | rfl | rfl | rfl | rfl | rfl | rfl
        all_goals
          simp only [sizeD] at hsm ⊢
          go_enter Tryz.func87, Tryz.ntmps87
          go_wp2
          go_ret
          refine ⟨?_, 0, rfl⟩
          first
            | rfl
            | (simp; done)
            | (refine ret_int ?_; simp; done)
            | (refine ret_int ?_; simp; omega)
theorem size_deep (N : Nat) : ∀ (d : Dt) (p : Nat) (w : World), d.deep ≤ N → okD d → DAt w d p → Calls Tryz.prog 87 #[.pointer (some ⟨p, 0, none⟩)] w fun e w' => e = .returned (.int .i64 (sizeD d)) ∧ ∃ m, w' = w.drewN m := by
  induction N with
  | zero => intro d p w h; cases d; rw [Dt.deep] at h; omega
  | succ N ih => exact size_step N ih
/-- Size: of a kind that lies in memory. -/
theorem size_any (d : Dt) (p : Nat) (w : World) (hok : okD d) (hD : DAt w d p) : Calls Tryz.prog 87 #[.pointer (some ⟨p, 0, none⟩)] w fun e w' => e = .returned (.int .i64 (sizeD d)) ∧ ∃ m, w' = w.drewN m :=
  size_deep d.deep d p w (Nat.le_refl _) hok hD
end Go.Proofs.YtpaamhmighgjeaaGreat
