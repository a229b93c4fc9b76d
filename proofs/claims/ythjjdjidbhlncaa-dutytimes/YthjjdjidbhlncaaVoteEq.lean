/- Votes as cells; votes held against each other. -/
import Derived.Test.YthjjdjidbhlncaaFlowN
import Derived.Test.YthjjdjidbhlncaaNum
import Derived.Stop.BytesEq
namespace Go.Proofs.Ythjjdjidbhlncaa
open Go.RowKit
set_option linter.unusedVariables false
set_option linter.unusedSimpArgs false
set_option maxRecDepth 100000

theorem part_one {cs : List Value} {t : TypeId} {k : IntKind} (hu : Try.prog.underlying t = some (.int k)) {off : Nat} {v : Value} (h : cs[off]? = some v) (w : World) : (part t cs.toArray off).run Try.prog w = .ok v w := by
  simp [part, isAgg, run_underlying hu, h]
theorem part_agg {cs ds : List Value} {t : TypeId} {d : TypeDesc} {n : Nat} (hu : Try.prog.underlying t = some d) (hd : (∃ k e, d = .array k e) ∨ ∃ fs, d = .struct fs) (hs : ∀ w, (sizeOf t).run Try.prog w = .ok n w) (off : Nat) (h : (cs.drop off).take n = ds) (w : World) :
    (part t cs.toArray off).run Try.prog w = .ok (.agg ds.toArray) w := by
  rcases hd with ⟨k, e, rfl⟩ | ⟨fs, rfl⟩ <;> simp [part, isAgg, run_underlying hu, hs, h]
theorem bytesC (l : List Nat) (h : ∀ z ∈ l, z < 256) : (cellsB l).toArray = ((l.map UInt8.ofNat).map Extern.Stop.cell).toArray := by
  unfold cellsB
  rw [List.map_map]
  congr 1
  apply List.map_congr_left
  intro z hz
  have := h z hz
  show Value.int .u8 (z : Int) = Value.int .u8 ((UInt8.ofNat z).toNat : Int)
  rw [UInt8.toNat_ofNat']
  congr 2
  omega
theorem bytes_inj (l m : List Nat) (hl : ∀ z ∈ l, z < 256) (hm : ∀ z ∈ m, z < 256) : (l.map UInt8.ofNat == m.map UInt8.ofNat) = decide (l = m) := by
  have key : l.map UInt8.ofNat = m.map UInt8.ofNat → l = m := by
    intro e
    have e2 := congrArg (List.map UInt8.toNat) e
    rw [List.map_map, List.map_map] at e2
    have f : ∀ (k : List Nat), (∀ z ∈ k, z < 256) → k.map (UInt8.toNat ∘ UInt8.ofNat) = k := fun k hk => by
      conv => rhs; rw [← List.map_id k]
      apply List.map_congr_left
      intro z hz
      have := hk z hz
      show (UInt8.ofNat z).toNat = z
      rw [UInt8.toNat_ofNat']
      omega
    rwa [f l hl, f m hm] at e2
  by_cases h : l = m
  · subst h; simp
  · simp only [h, decide_false]
    exact beq_eq_false_iff_ne.2 fun e => h (key e)
theorem eq_root (d : Nat) (l m : List Nat) (hl : l.length = 32) (hm : m.length = 32) (bl : ∀ z ∈ l, z < 256) (bm : ∀ z ∈ m, z < 256) (w : World) :
    (Op.equalIn (d + 2) 24 (.agg (cellsB l).toArray) (.agg (cellsB m).toArray)).run Try.prog w = .ok (decide (l = m)) w := by
  rw [bytesC l bl, bytesC m bm, run_equalIn_bytes w d 24 5 32 Try.underlying24 Try.underlying5 Try.sizeOf5 _ _ (by simpa using hl) (by simpa using hm), bytes_inj l m bl bm]
theorem take_all {α : Type} (l : List α) (n : Nat) (h : l.length = n) : l.take n = l := List.take_of_length_le (by omega)
theorem cellsB_len (l : List Nat) : (cellsB l).length = l.length := by unfold cellsB; simp
/-- A Checkpoint's cells, a Vote's. -/
def cpX (e : Nat) (r : List Nat) : List Value := .int .u64 (e : Nat) :: cellsB r
def vtX (sl ix : Nat) (b : List Nat) (es : Nat) (rs : List Nat) (et : Nat) (rt : List Nat) : List Value := .int .u64 (sl : Nat) :: .int .u64 (ix : Nat) :: (cellsB b ++ (cpX es rs ++ cpX et rt))
abbrev Rq (r : List Nat) : Prop := r.length = 32 ∧ ∀ z ∈ r, z < 256
theorem cpX_len (e : Nat) (r : List Nat) (h : Rq r) : (cpX e r).length = 33 := by simp [cpX, cellsB_len, h.1]
theorem eq_cp (d : Nat) (e e' : Nat) (r r' : List Nat) (h : Rq r) (h' : Rq r') (w : World) :
    (Op.equalIn (d + 3) 41 (.agg (cpX e r).toArray) (.agg (cpX e' r').toArray)).run Try.prog w = .ok (decide (e = e') && decide (r = r')) w := by
  rw [run_equalIn_struct w (d + 2) 41 _ _ (by unfold Program.fieldsOf; rw [Try.underlying41]) (by kernel_rfl)]
  have p0 : ∀ (e : Nat) r w, (part 22 (cpX e r).toArray 0).run Try.prog w = .ok (.int .u64 (e : Nat)) w := fun e r w => part_one Try.underlying22 rfl w
  have p1 : ∀ (e : Nat) r w, r.length = 32 → (part 24 (cpX e r).toArray 1).run Try.prog w = .ok (.agg (cellsB r).toArray) w := fun e r w hr =>
    part_agg Try.underlying24 (.inl ⟨_, _, rfl⟩) Try.sizeOf24 1 (take_all (cellsB r) _ (by rw [cellsB_len, hr])) w
  have q0 : ∀ w, (Op.equalIn (d + 2) 22 (.int .u64 (e : Nat)) (.int .u64 (e' : Nat))).run Try.prog w = .ok (decide (e = e')) w := fun w => by
    rw [run_equalIn_int w (d + 1) _ .u64 .u64 _ _ Try.underlying22]
    congr 1
    by_cases c : e = e'
    · simp [c]
    · simp only [c, decide_false]; exact beq_eq_false_iff_ne.2 fun e => c (Int.ofNat.inj e)
  have q1 := fun w => eq_root d r r' h.1 h'.1 h.2 h'.2 w
  generalize decide (e = e') = c0 at q0 ⊢
  generalize decide (r = r') = c1 at q1 ⊢
  simp [Program.fieldsOf, Try.underlying41, Op.eqFields, p0, p1 _ _ _ h.1, p1 _ _ _ h'.1, q0, q1]
  cases c0 <;> cases c1 <;> rfl
/-- Are two Votes the same? -/
def eqVt (sl ix : Nat) (b : List Nat) (es : Nat) (rs : List Nat) (et : Nat) (rt : List Nat) (sl' ix' : Nat) (b' : List Nat) (es' : Nat) (rs' : List Nat) (et' : Nat) (rt' : List Nat) : Bool :=
  decide (sl = sl') && (decide (ix = ix') && (decide (b = b') && ((decide (es = es') && decide (rs = rs')) && (decide (et = et') && decide (rt = rt')))))
theorem vt_drop (sl ix : Nat) (b : List Nat) (es : Nat) (rs : List Nat) (et : Nat) (rt : List Nat) (hb : Rq b) (hs : Rq rs) (ht : Rq rt) :
    ((vtX sl ix b es rs et rt).drop 2).take 32 = cellsB b ∧ ((vtX sl ix b es rs et rt).drop 34).take 33 = cpX es rs ∧ ((vtX sl ix b es rs et rt).drop 67).take 33 = cpX et rt := by
  have lb : (cellsB b).length = 32 := by rw [cellsB_len, hb.1]
  have ls := cpX_len es rs hs
  have lt := cpX_len et rt ht
  have d0 : (vtX sl ix b es rs et rt).drop 2 = cellsB b ++ (cpX es rs ++ cpX et rt) := rfl
  have d1 : (vtX sl ix b es rs et rt).drop 34 = cpX es rs ++ cpX et rt := by
    rw [show (34 : Nat) = 2 + 32 from rfl, ← List.drop_drop, d0]; exact List.drop_left' lb
  have d2 : (vtX sl ix b es rs et rt).drop 67 = cpX et rt := by
    rw [show (67 : Nat) = 34 + 33 from rfl, ← List.drop_drop, d1]; exact List.drop_left' ls
  rw [d0, d1, d2]
  exact ⟨List.take_left' lb, List.take_left' ls, take_all _ _ lt⟩
theorem eq_vote (d : Nat) (sl ix : Nat) (b : List Nat) (es : Nat) (rs : List Nat) (et : Nat) (rt : List Nat) (sl' ix' : Nat) (b' : List Nat) (es' : Nat) (rs' : List Nat) (et' : Nat) (rt' : List Nat) (hb : Rq b) (hs : Rq rs) (ht : Rq rt) (hb' : Rq b') (hs' : Rq rs') (ht' : Rq rt') (w : World) :
    (Op.equalIn (d + 4) 50 (.agg (vtX sl ix b es rs et rt).toArray) (.agg (vtX sl' ix' b' es' rs' et' rt').toArray)).run Try.prog w = .ok (eqVt sl ix b es rs et rt sl' ix' b' es' rs' et' rt') w := by
  rw [run_equalIn_struct w (d + 3) 50 _ _ (by unfold Program.fieldsOf; rw [Try.underlying50]) (by kernel_rfl)]
  have A := vt_drop sl ix b es rs et rt hb hs ht
  have B := vt_drop sl' ix' b' es' rs' et' rt' hb' hs' ht'
  have p0 : ∀ (sl ix : Nat) b es rs et rt w, (part 22 (vtX sl ix b es rs et rt).toArray 0).run Try.prog w = .ok (.int .u64 (sl : Nat)) w := fun sl ix b es rs et rt w => part_one Try.underlying22 rfl w
  have p1 : ∀ (sl ix : Nat) b es rs et rt w, (part 22 (vtX sl ix b es rs et rt).toArray 1).run Try.prog w = .ok (.int .u64 (ix : Nat)) w := fun sl ix b es rs et rt w => part_one Try.underlying22 rfl w
  have a2 := fun w => part_agg Try.underlying24 (.inl ⟨_, _, rfl⟩) Try.sizeOf24 2 A.1 w
  have b2 := fun w => part_agg Try.underlying24 (.inl ⟨_, _, rfl⟩) Try.sizeOf24 2 B.1 w
  have a3 := fun w => part_agg Try.underlying41 (.inr ⟨_, rfl⟩) Try.sizeOf41 34 A.2.1 w
  have b3 := fun w => part_agg Try.underlying41 (.inr ⟨_, rfl⟩) Try.sizeOf41 34 B.2.1 w
  have a4 := fun w => part_agg Try.underlying41 (.inr ⟨_, rfl⟩) Try.sizeOf41 67 A.2.2 w
  have b4 := fun w => part_agg Try.underlying41 (.inr ⟨_, rfl⟩) Try.sizeOf41 67 B.2.2 w
  have q : ∀ (x y : Nat) w, (Op.equalIn (d + 3) 22 (.int .u64 (x : Nat)) (.int .u64 (y : Nat))).run Try.prog w = .ok (decide (x = y)) w := fun x y w => by
    rw [run_equalIn_int w (d + 2) _ .u64 .u64 _ _ Try.underlying22]
    congr 1
    by_cases c : x = y
    · simp [c]
    · simp only [c, decide_false]; exact beq_eq_false_iff_ne.2 fun e => c (Int.ofNat.inj e)
  have q0 := fun w => q sl sl' w
  have q1 := fun w => q ix ix' w
  have q2 := fun w => eq_root (d + 1) b b' hb.1 hb'.1 hb.2 hb'.2 w
  have q3 := fun w => eq_cp d es es' rs rs' hs hs' w
  have q4 := fun w => eq_cp d et et' rt rt' ht ht' w
  unfold eqVt
  clear q
  generalize decide (sl = sl') = c0 at q0 ⊢
  generalize decide (ix = ix') = c1 at q1 ⊢
  generalize decide (b = b') = c2 at q2 ⊢
  generalize (decide (es = es') && decide (rs = rs')) = c3 at q3 ⊢
  generalize (decide (et = et') && decide (rt = rt')) = c4 at q4 ⊢
  simp [Program.fieldsOf, Try.underlying50, Op.eqFields, p0, p1, a2, b2, a3, b3, a4, b4, q0, q1, q2, q3, q4]
  cases c0 <;> cases c1 <;> cases c2 <;> cases c3 <;> cases c4 <;> rfl
theorem eqVt_comm (sl ix : Nat) (b : List Nat) (es : Nat) (rs : List Nat) (et : Nat) (rt : List Nat) (sl' ix' : Nat) (b' : List Nat) (es' : Nat) (rs' : List Nat) (et' : Nat) (rt' : List Nat) : eqVt sl ix b es rs et rt sl' ix' b' es' rs' et' rt' = eqVt sl' ix' b' es' rs' et' rt' sl ix b es rs et rt := by
  have c : ∀ {α : Type} [DecidableEq α] (x y : α), decide (x = y) = decide (y = x) := fun x y => by
    by_cases h : x = y
    · simp [h]
    · simp [h, Ne.symm h]
  unfold eqVt
  rw [c sl, c ix, c b, c es, c rs, c et, c rt]
theorem eqVt_self (sl ix : Nat) (b : List Nat) (es : Nat) (rs : List Nat) (et : Nat) (rt : List Nat) : eqVt sl ix b es rs et rt sl ix b es rs et rt = true := by simp [eqVt]
end Go.Proofs.Ythjjdjidbhlncaa
