/- Own texts of the proof, joined: Kind5 Cont Rows6 Truth6 CoHeader CoCheckpoint Coll Num0. -/
import Derived.Test.YtbmcmabimfoknaaGreatDoorH1
/- The document's kinds: a number, a root, a Checkpoint. -/
namespace Go.Proofs.YtbmcmabimfoknaaGreatDoor
set_option maxRecDepth 100000
open Go.RowKit Go.Shelf
set_option linter.unusedVariables false
set_option maxRecDepth 100000

def dNum : Dt := .mk 1 0 []
def dRoot : Dt := .mk 3 0 []
def dBox (l : List Dt) : Dt := .mk 8 0 l
theorem dAt_leaf {w : World} {p f : Nat} (h : w.heap[p]? = some (.cells #[.int .i64 (f : Nat), .int .i64 0, .slice none 0 0] 95 (0, 0))) : DAt w (.mk f 0 []) p := by
  rw [DAt]
  exact ⟨cell_of_row w p 0 _ _ (0, 0) h, cell_of_row w p 1 _ _ (0, 0) h, none, 0, cell_of_row w p 2 _ _ (0, 0) h, by simp, by simp, .inl rfl⟩
set_option maxHeartbeats 1000000 in
theorem num_any' (w : World) : Calls Tryz.prog 57 #[] w fun x w' => x = .returned (.pointer (some ⟨w.heap.size, 0, none⟩)) ∧ DAt w' dNum w.heap.size ∧ Below w.heap.size w w' := by
  go_enter Tryz.func57, Tryz.ntmps57
  go_wp2
  go_ret
  exact ⟨rfl, dAt_leaf (f := 1) (heap_alloc_new w _), (Below.refl _ w).alloc (Nat.le_refl _) _⟩
set_option maxHeartbeats 1000000 in
theorem root_any' (w : World) : Calls Tryz.prog 40 #[] w fun x w' => x = .returned (.pointer (some ⟨w.heap.size, 0, none⟩)) ∧ DAt w' dRoot w.heap.size ∧ Below w.heap.size w w' := by
  go_enter Tryz.func40, Tryz.ntmps40
  go_wp2
  go_ret
  exact ⟨rfl, dAt_leaf (f := 3) (heap_alloc_new w _), (Below.refl _ w).alloc (Nat.le_refl _) _⟩
set_option maxHeartbeats 1000000 in
/-- A kind of parts, over a slice of kinds. -/
theorem box_any (b n : Nat) (ds : List Dt) (w : World) (hn : ds.length = n) (hm : n ≤ maxLen) (hD : DsAt w ds b 0) : Calls Tryz.prog 39 #[.slice (some ⟨b, 0, none⟩) n n] w fun x w' => x = .returned (.pointer (some ⟨w.heap.size, 0, none⟩)) ∧ DAt w' (dBox ds) w.heap.size ∧ Below w.heap.size w w' := by
  have HD := hid hD
  have HM := hid hm
  have HN := hid hn
  clear hD hm hn
  go_enter Tryz.func39, Tryz.ntmps39
  go_wp2
  go_ret
  have hB : Below w.heap.size w (w.alloc (.cells #[.int .i64 8, .int .i64 0, .slice (some ⟨b, 0, none⟩) n n] 95)) := (Below.refl _ w).alloc (Nat.le_refl _) _
  have h := heap_alloc_new w (.cells #[.int .i64 8, .int .i64 0, .slice (some ⟨b, 0, none⟩) n n] 95)
  refine ⟨rfl, ?_, hB⟩
  rw [dBox, DAt]
  exact ⟨cell_of_row _ _ 0 _ _ (0, 0) h, cell_of_row _ _ 1 _ _ (0, 0) h, some ⟨b, 0, none⟩, n, by rw [HN.out]; exact cell_of_row _ _ 2 _ _ (0, 0) h, by rw [HN.out]; exact Nat.le_refl _, HM.out, .inr ⟨b, 0, rfl, DsAt.keep hB ds HD.out⟩⟩
set_option maxHeartbeats 1000000 in
theorem dcp_any (w : World) : Calls Tryz.prog 95 #[] w fun x w' => ∃ p, x = .returned (.pointer (some ⟨p, 0, none⟩)) ∧ DAt w' (dBox [dNum, dRoot]) p ∧ Below w.heap.size w w' := by
  go_enter Tryz.func95, Tryz.ntmps95
  go_wp2_with fail
  refine (num_any' w).mono ?_
  rintro e w1 ⟨rfl, q1, q2⟩
  have HN := hid (And.intro q1 q2)
  have s1 := q2.size
  clear q1 q2
  go_wp2_with fail
  refine (root_any' w1).mono ?_
  rintro e w2 ⟨rfl, q1, q2⟩
  have HD1 := hid (DAt.keep q2 dNum HN.out.1)
  have HD2 := hid q1
  have HB2 := hid (HN.out.2.trans (q2.mono (by omega)))
  have s2 := q2.size
  clear q1 q2 HN
  go_wp2_with fail
  have hB : Below w2.heap.size w2 (w2.alloc (.cells #[.pointer (some ⟨w.heap.size, 0, none⟩), .pointer (some ⟨w1.heap.size, 0, none⟩)] 38)) := (Below.refl _ w2).alloc (Nat.le_refl _) _
  have h := heap_alloc_new w2 (.cells #[.pointer (some ⟨w.heap.size, 0, none⟩), .pointer (some ⟨w1.heap.size, 0, none⟩)] 38)
  generalize w2.alloc (.cells #[.pointer (some ⟨w.heap.size, 0, none⟩), .pointer (some ⟨w1.heap.size, 0, none⟩)] 38) = w3 at hB h ⊢
  have hD : DsAt w3 [dNum, dRoot] w2.heap.size 0 := by
    rw [DsAt, DsAt, DsAt]
    exact ⟨⟨_, cell_of_row _ _ 0 _ _ (0, 0) h, DAt.keep hB _ HD1.out⟩, ⟨_, cell_of_row _ _ 1 _ _ (0, 0) h, DAt.keep hB _ HD2.out⟩, trivial⟩
  have HC := hid (box_any w2.heap.size 2 [dNum, dRoot] w3 rfl (by decide) hD)
  have HB3 := hid (HB2.out.trans (hB.mono (by omega)))
  have s3 := hB.size
  clear hB h hD
  refine HC.out.mono ?_
  rintro e w4 ⟨rfl, q1, q2⟩
  have X := hid (And.intro q1 q2)
  clear q1 q2 HC
  go_wp2
  go_ret
  exact ⟨_, rfl, X.out.1, HB3.out.trans (X.out.2.mono (by omega))⟩
end Go.Proofs.YtbmcmabimfoknaaGreatDoor

/- Layer 6's ground: a chunk, a number's root, a tree's, a container's. -/
namespace Go.Proofs.YtbmcmabimfoknaaGreatDoor
open Go.RowKit
set_option linter.unusedVariables false
set_option maxRecDepth 100000

theorem over_rt (bs : List Nat) (hl : bs.length ≤ 32) (h8 : ∀ z ∈ bs, z < 256) : Rt (over (zeros 32) 0 bs) :=
  ⟨by rw [over_length _ _ _ (by rw [zeros_length]; omega), zeros_length], over_bytes _ _ (zeros_byte 32) h8 _⟩
set_option maxHeartbeats 1000000 in
theorem chunk_any (v : Value) (bs : List Nat) (w : World) (hB : IsB w v bs) (hl : bs.length ≤ 32) :
    Calls Tryz.prog 88 #[v] w fun e w' => e = .returned (.agg (nums .u8 (over (zeros 32) 0 bs))) ∧ Below w.heap.size w w' := by
  obtain ⟨⟨ao, cap, rfl, hcap, hmx, hnil, hR⟩, h8⟩ := hB
  have hzr := zero_rt
  have hor := over_rt bs hl h8
  obtain ⟨W, hW⟩ : ∃ W, Hid (over (zeros 32) 0 bs = W) := ⟨_, hid rfl⟩
  rw [hW.out] at hor ⊢
  have HL := hid hl
  have HRd := hid hR
  clear hl hR
  go_enter Tryz.func88, Tryz.ntmps88
  go_wp2_with ((with_reducible refine at_list' ?_); first
    | (refine wpList_alloc_has rfl 2 rfl 23 rfl .u8 32 Tryz.zero23 ?_; intro w1 H1 B1 S1)
    | (refine wpList_alloc_has rfl 3 rfl 23 rfl .u8 32 Tryz.zero23 ?_; intro w2 H2 B2 S2; rw [S1] at H2; simp only [S1])
    | (refine wpList_copy_has rfl (.tmp 4) (.tmp 5) 99 99 rfl 5 Tryz.underlying99 Tryz.one5 _ _ _ _ _ _ rfl rfl (w.heap.size + 1) 0 .u8 (zeros 32) 23 H2 bs (Nat.min_eq_left HL.out).symm (fun h0 => ⟨rfl, (((HRd.out.keep B1).keep B2).resolve_left (fun h => by omega)).elim fun b hb => hb.elim fun off hx => ⟨_, hx.1, fun j hj => by rw [Addr.add_lit]; exact hx.2 j hj⟩⟩) (by rw [zeros_length, Nat.zero_add]; exact HL.out) ?_; intro w3 H3 O3; rw [hW.out] at H3)
    | (refine wpList_load_has rfl 23 (.tmp 3) rfl (w.heap.size + 1) .u8 W rfl 23 H3 _ _ Tryz.und23 (hor.size _ Tryz.size23) ?_)
    | (refine wpList_store_has rfl 23 (.tmp 2) (.tmp 7) rfl w.heap.size .u8 W (zeros 32) rfl rfl 23 ((H1.keep B2).only O3 (by omega)) (hor.size _ Tryz.size23) (by rw [hor.len, zeros_length]) ?_; intro w4 H4 O4))
  refine bodyPost_ret (results_has rfl _ _ w.heap.size 23 .u8 W _ _ rfl H4 Tryz.und23 (hor.size _ Tryz.size23)) rfl ?_
  exact ⟨rfl, below_only (below_only (below_more B1 B2 (Nat.le_refl _)) O3 (by omega)) O4 (by omega)⟩

theorem byte8_by8 (n : Nat) : ∀ z ∈ byte8 n, z < 256 := fun z hz => by
  obtain ⟨i, _, rfl⟩ := List.mem_map.1 hz
  exact Nat.mod_lt _ (by decide)
theorem byte8_length (n : Nat) : (byte8 n).length = 8 := by simp [byte8]
theorem put8_isB' {w : World} {base : Nat} {v : Value} {n : Nat} (h : w.ownsRow base 5 1 v 8 ((putL n 8).map (Value.int .u8))) : IsB w v (byte8 n) := by
  obtain ⟨g, cap, _, h8, hm, rfl, hc⟩ := put_cells h
  refine ⟨⟨some ⟨g, 0, none⟩, cap, by rw [byte8_length], by rw [byte8_length]; exact h8, hm, (fun e => by cases e), .inr ⟨g, 0, rfl, fun i hi => ?_⟩⟩, byte8_by8 n⟩
  rw [byte8_length] at hi
  rw [Nat.zero_add, hc i hi]
  simp [byte8, hi]
set_option maxHeartbeats 1000000 in
theorem number_any (n : Nat) (hn : n < 18446744073709551616) (w : World) :
    Calls Tryz.prog 59 #[.int .u64 (n : Nat)] w fun e w' => e = .returned (.agg (nums .u8 (wUp n 8))) ∧ Below w.heap.size w w' := by
  have hwr := wUp_rt n 8
  have hzr := zero_rt
  obtain ⟨W, hW⟩ : ∃ W, Hid (wUp n 8 = W) := ⟨_, hid rfl⟩
  rw [hW.out] at hwr ⊢
  have HN := hid hn
  clear hn
  go_enter Tryz.func59, Tryz.ntmps59
  go_wp2_with ((with_reducible refine at_list' ?_); first
    | (refine wpList_alloc_has rfl 2 rfl 23 rfl .u8 32 Tryz.zero23 ?_; intro w1 H1 B1 S1))
  refine (put_any n 8 HN.out (by decide) (by decide) w1).mono ?_
  rintro e w2 ⟨cap, rfl, own2, B2⟩
  rw [S1] at own2
  have hB := put8_isB' own2
  have HB := hid (chunk_any _ _ w2 hB (by rw [byte8_length]; decide))
  rw [over_word, hW.out] at HB
  clear own2 hB
  go_wp2_with fail
  refine HB.out.mono ?_
  rintro e w3 ⟨rfl, B3⟩
  have B13 := B2.trans (B3.mono B2.size)
  have H3 := H1.keep B13
  have HW3 := below_more B1 B13 (Nat.le_refl _)
  clear HB B2 B3 B13 H1 B1 S1
  go_wp2_with ((with_reducible refine at_list' ?_); first
    | (refine wpList_store_has rfl 23 (.tmp 2) (.tmp 5) rfl w.heap.size .u8 W (zeros 32) rfl rfl 23 H3 (hwr.size _ Tryz.size23) (by rw [hwr.len, zeros_length]) ?_; intro w4 H4 O4))
  refine bodyPost_ret (results_has rfl _ _ w.heap.size 23 .u8 W _ _ rfl H4 Tryz.und23 (hwr.size _ Tryz.size23)) rfl ?_
  exact ⟨rfl, below_only HW3 O4 (Nat.le_refl _)⟩

set_option maxHeartbeats 1000000 in
/-- The tree of leaves within their limit. -/
theorem tre_any (ao : Option Addr) (cap : Nat) (rs : List (List Nat)) (m : Int) (w : World) (hT : Tabs w) (hcap : rs.length ≤ cap) (hm : cap ≤ maxLen) (hlen : rs.length ≤ 8796093022208) (hR : RootsAt w ao rs) (h0 : (rs.length : Int) ≤ m) (h1 : m ≤ 9223372036854775807) :
    Calls Tryz.prog 61 #[.slice ao rs.length cap, .int .i64 m] w fun e w' => e = .returned (.agg (nums .u8 (fullR (depth m) rs))) ∧ Below w.heap.size w w' := by
  have hfr : Rt (fullR (depth m) rs) := full_rt (depth m) rs hR.rts
  have HC := hid (fun w1 (hb : Below w.heap.size w w1) => tree_any ao cap rs m w1 (hT.keep hb) hcap hm hlen (hR.keep hb) h0 h1)
  clear hT hcap hm hlen hR h0 h1
  generalize fullR (depth m) rs = W at *
  go_enter Tryz.func61, Tryz.ntmps61
  go_wp2_with ((with_reducible refine at_list' ?_); first
    | (refine wpList_alloc_has rfl 4 rfl 23 rfl .u8 32 Tryz.zero23 ?_; intro w1 H1 B1 S1))
  refine (HC.out w1 B1).mono ?_
  rintro e w2 ⟨rfl, B2⟩
  have H2 := H1.keep B2
  have HW2 := below_more B1 B2 (Nat.le_refl _)
  have s2 := H2.lt
  clear HC H1 B1 S1 B2
  go_wp2_with ((with_reducible refine at_list' ?_); first
    | (refine wpList_alloc_has rfl 5 rfl 23 rfl .u8 32 Tryz.zero23 ?_; intro w3 H3 B3 S3)
    | (refine wpList_store_has rfl 23 (.tmp 5) (.tmp 11) rfl w2.heap.size .u8 W (zeros 32) rfl rfl 23 H3 (hfr.size _ Tryz.size23) (by rw [hfr.len, zeros_length]) ?_; intro w4 H4 O4)
    | (refine wpList_load_has rfl 23 (.tmp 5) rfl w2.heap.size .u8 W rfl 23 H4 _ _ Tryz.und23 (hfr.size _ Tryz.size23) ?_)
    | (refine wpList_store_has rfl 23 (.tmp 4) (.tmp 13) rfl w.heap.size .u8 W (zeros 32) rfl rfl 23 ((H2.keep B3).only O4 (by omega)) (hfr.size _ Tryz.size23) (by rw [hfr.len, zeros_length]) ?_; intro w5 H5 O5))
  refine bodyPost_ret (results_has rfl _ _ w.heap.size 23 .u8 W _ _ rfl H5 Tryz.und23 (hfr.size _ Tryz.size23)) rfl ?_
  exact ⟨rfl, below_only (below_only (below_more HW2 B3 (Nat.le_refl _)) O4 (by omega)) O5 (by omega)⟩

set_option maxHeartbeats 1000000 in
/-- A container's root, of its fields' roots. -/
theorem cont_any (ao : Option Addr) (cap : Nat) (rs : List (List Nat)) (w : World) (hT : Tabs w) (hcap : rs.length ≤ cap) (hm : cap ≤ maxLen) (hlen : rs.length ≤ 1048576) (hR : RootsAt w ao rs) :
    Calls Tryz.prog 19 #[.slice ao rs.length cap] w fun e w' => e = .returned (.agg (nums .u8 (fullR (depth rs.length) rs))) ∧ Below w.heap.size w w' := by
  have hfr : Rt (fullR (depth rs.length) rs) := full_rt (depth rs.length) rs hR.rts
  have HC := hid (fun w1 (hb : Below w.heap.size w w1) => tre_any ao cap rs rs.length w1 (hT.keep hb) hcap hm (by omega) (hR.keep hb) (Int.le_refl _) (by omega))
  clear hT hcap hm hlen hR
  generalize fullR (depth rs.length) rs = W at *
  go_enter Tryz.func19, Tryz.ntmps19
  go_wp2_with ((with_reducible refine at_list' ?_); first
    | (refine wpList_alloc_has rfl 2 rfl 23 rfl .u8 32 Tryz.zero23 ?_; intro w1 H1 B1 S1))
  refine (HC.out w1 B1).mono ?_
  rintro e w2 ⟨rfl, B2⟩
  have H2 := H1.keep B2
  have HW2 := below_more B1 B2 (Nat.le_refl _)
  clear HC H1 B1 S1 B2
  go_wp2_with ((with_reducible refine at_list' ?_); first
    | (refine wpList_store_has rfl 23 (.tmp 2) (.tmp 6) rfl w.heap.size .u8 W (zeros 32) rfl rfl 23 H2 (hfr.size _ Tryz.size23) (by rw [hfr.len, zeros_length]) ?_; intro w5 H5 O5))
  refine bodyPost_ret (results_has rfl _ _ w.heap.size 23 .u8 W _ _ rfl H5 Tryz.und23 (hfr.size _ Tryz.size23)) rfl ?_
  exact ⟨rfl, below_only HW2 O5 (Nat.le_refl _)⟩
end Go.Proofs.YtbmcmabimfoknaaGreatDoor

/- Rows of structs made; parts of a struct; roots made; values that a store leaves. -/
namespace Go.Proofs.YtbmcmabimfoknaaGreatDoor
open Go.RowKit Go.Shelf
set_option linter.unusedVariables false
set_option maxRecDepth 100000

theorem partsAt_rows (sz : Nat) : ∀ (vs : List (List Value)) (k : Nat), (∀ c ∈ vs, c.length = sz) → PartsAt (fun i => some (i * sz, sz)) (k * sz) ((vs.zipIdx k).map fun p => (p.2, Value.agg p.1.toArray)) := by
  intro vs
  induction vs with
  | nil => intro k _; trivial
  | cons c vs ih =>
    intro k h
    have hc := h c (List.mem_cons_self ..)
    rw [List.zipIdx_cons, List.map_cons, PartsAt]
    have e1 : (Value.agg c.toArray).cells.size = sz := hc
    rw [e1]
    refine ⟨rfl, ?_⟩
    have := ih (k + 1) (fun q hq => h q (List.mem_cons_of_mem _ hq))
    rw [Nat.add_mul, Nat.one_mul] at this
    exact this
theorem outC_rows : ∀ (vs : List (List Value)) (k : Nat), outC ((vs.zipIdx k).map fun p => (p.2, Value.agg p.1.toArray)) = vs.flatten := by
  intro vs
  induction vs with
  | nil => intro k; rfl
  | cons c vs ih => intro k; rw [List.zipIdx_cons, List.map_cons, outC, ih, List.flatten_cons]; rfl
theorem flatten_rows (sz : Nat) : ∀ vs : List (List Value), (∀ c ∈ vs, c.length = sz) → vs.flatten.length = vs.length * sz := by
  intro vs
  induction vs with
  | nil => intro _; simp
  | cons r rs ih => intro h; rw [List.flatten_cons, List.length_append, ih (fun q hq => h q (List.mem_cons_of_mem _ hq)), h r (List.mem_cons_self ..), List.length_cons, Nat.add_mul]; omega
/-- A slice of structs, made, in a flow. -/
theorem flow_rows {P : Program} {o : Oper} {a : Act} {w : World} {Q : Exit → Act → World → Prop} {I : Value → World → Prop} (t e : TypeId) (n sz : Nat) (ps : Array (Nat × Operand)) (ho : o.op = .buildSlice t n ps) (hu : P.underlying t = some (.slice e)) (hi : (P.info? e).map (fun i => (i.zero.isSome, i.size)) = some (true, sz))
    (vs : List (List Value)) (xs : List Operand) (hps : ps.toList = (xs.zipIdx 0).map fun p => (p.2, p.1)) (hx0 : xs.map a.eval = vs.map fun c => Value.agg c.toArray) (hc : ∀ c ∈ vs, c.length = sz) (hn : vs.length = n) (hn0 : 0 < n) (hs0 : 0 < sz) (hn1 : n * sz ≤ 16777216)
    (h : ∀ w', HasC w' w.heap.size e vs.flatten → I (.slice (some ⟨w.heap.size, 0, none⟩) n n) w') : o.wp P a w (fun a' w' => ∃ v, a' = a.put o.dst v ∧ I v w' ∧ Below w.heap.size w w') Q := by
  have hx : (ps.map fun (i, x) => (i, a.eval x)).toList = (vs.zipIdx 0).map fun p => (p.2, Value.agg p.1.toArray) := by
    have e1 : ((xs.map a.eval).zipIdx 0).map (fun p => (p.2, p.1)) = ((vs.map fun c => Value.agg c.toArray).zipIdx 0).map (fun p => (p.2, p.1)) := by rw [hx0]
    rw [List.zipIdx_map, List.zipIdx_map, List.map_map, List.map_map] at e1
    rw [Array.toList_map, hps, List.map_map]
    exact e1
  cases hq : P.info? e with
  | none => rw [hq] at hi; cases hi
  | some ie =>
    rw [hq] at hi
    simp only [Option.map_some, Option.some.injEq, Prod.mk.injEq] at hi
    obtain ⟨z, hz⟩ := Option.isSome_iff_exists.1 hi.1
    refine wp_buildSlice t e n ps ho vs.flatten.toArray ie z hu hq hz (by rw [hi.2]; omega) (by rw [hi.2]; have := Nat.mul_pos hn0 hs0; omega) ?_ ⟨_, rfl, h _ (heap_alloc_new w _), (Below.refl _ w).alloc (Nat.le_refl _) _⟩
    rw [hx, hi.2]
    have hfl := flatten_rows sz vs hc
    have hf := fill_out (fun i => some (i * sz, sz)) ((vs.zipIdx 0).map fun p => (p.2, Value.agg p.1.toArray)) 0 ((Array.range (n * sz)).map (z.cells[· % z.cells.size]!)).toList (by have := partsAt_rows sz vs 0 hc; rw [Nat.zero_mul] at this; exact this) (by rw [outC_rows, hfl, hn]; simp)
    rw [outC_rows, List.take_zero, List.nil_append, Nat.zero_add, List.drop_of_length_le (by rw [hfl, hn]; simp), List.append_nil] at hf
    exact hf
theorem valInfo : (Tryz.prog.info? 43).map (fun i => (i.zero.isSome, i.size)) = some (true, 35) := by kernel_rfl
theorem vAt_leaf (w : World) {n : Nat} {r : List Nat} (hn : n < 18446744073709551616) (hr : r.length = 32) (h8 : ∀ z ∈ r, z < 256) : VAt w (.mk n r [] []) nilS nilS := by
  rw [VAt]
  exact ⟨⟨hn, hr, h8⟩, isT_nil w, none, 0, rfl, Nat.le_refl _, by decide, .inl rfl⟩
theorem hcB {w w' : World} (h : Cls w w') : Below w.heap.size w w' := h.bel


/-- A part of a struct lies where the parts before it end. -/
theorem seg {ps : List (List Value)} {i : Nat} {c : List Value} {off : Nat} (hc : ps[i]? = some c) (ho : (ps.take i).flatten.length = off) (j : Nat) (v : Value) (h : c[j]? = some v) : ps.flatten[off + j]? = some v := by
  have hi : i < ps.length := (List.getElem?_eq_some_iff.1 hc).1
  have hci : ps[i] = c := by rw [List.getElem?_eq_getElem hi] at hc; exact Option.some.inj hc
  have hps : ps = ps.take i ++ (c :: ps.drop (i + 1)) := by rw [← hci, ← List.drop_eq_getElem_cons hi, List.take_append_drop]
  have hj : j < c.length := (List.getElem?_eq_some_iff.1 h).1
  rw [hps, List.flatten_append, List.flatten_cons, ← ho, List.getElem?_append_right (by omega), Nat.add_sub_cancel_left, List.getElem?_append_left hj]
  exact h
theorem Rts.more {r : List Nat} {rs : List (List Nat)} (h : Rt r) (k : Rts rs) : Rts (r :: rs) := Rts.append h.one k
theorem cellsB_flat : ∀ rs : List (List Nat), (rs.map cellsB).flatten = cellsB rs.flatten := by
  intro rs
  induction rs with
  | nil => rfl
  | cons r rs ih => rw [List.map_cons, List.flatten_cons, ih, List.flatten_cons, cellsB_append]
theorem hasC_roots {w : World} {b : Nat} {t : TypeId} {rs : List (List Nat)} (h : HasC w b t (rs.map cellsB).flatten) (hr : Rts rs) : RootsAt w (some ⟨b, 0, none⟩) rs := by
  rw [cellsB_flat] at h
  refine ⟨hr, .inr ⟨b, 0, rfl, fun i hi => ?_⟩⟩
  rw [Nat.zero_add]
  refine h.cell ?_
  rw [cellsB, List.getElem?_map, List.getElem?_eq_getElem hi, List.getD_eq_getElem?_getD, List.getElem?_eq_getElem hi]
  rfl
theorem rootInfo6 : (Tryz.prog.info? 23).map (fun i => (i.zero.isSome, i.size)) = some (true, 32) := by kernel_rfl

/-- The cells of a row of values. -/
def rowV : List (Vt × Value × Value) → List (List Value)
  | [] => []
  | x :: r => valL x.1.num x.1.root x.2.1 x.2.2 :: rowV r
theorem ksAt_of {w : World} {b : Nat} {t : TypeId} {cs : List Value} (hg : HasC w b t cs) : ∀ (xs : List (Vt × Value × Value)) (off : Nat), (∀ (j : Nat) (v : Value), (rowV xs).flatten[j]? = some v → cs[off + j]? = some v) → (∀ x ∈ xs, VAt w x.1 x.2.1 x.2.2) → KsAt w (xs.map (·.1)) b off := by
  intro xs
  induction xs with
  | nil => intro off _ _; rw [List.map_nil, KsAt]; exact trivial
  | cons x xs ih =>
    intro off h hv
    have hx := hv x (List.mem_cons_self ..)
    have hrl : x.1.root.length = 32 := by
      have h2 := hx
      obtain ⟨y, sb, sk⟩ := x
      cases y
      rw [VAt] at h2
      exact h2.1.2.1
    have hl := valL_length x.1.num x.1.root x.2.1 x.2.2 hrl
    rw [List.map_cons, KsAt]
    refine ⟨⟨x.2.1, x.2.2, hg.range off _ (fun j v hj => h j v ?_), hx⟩, ih (off + 35) (fun j v hj => ?_) (fun y hy => hv y (List.mem_cons_of_mem _ hy))⟩
    · have hjl : j < (valL x.1.num x.1.root x.2.1 x.2.2).length := (List.getElem?_eq_some_iff.1 hj).1
      rw [rowV, List.flatten_cons, List.getElem?_append_left hjl]; exact hj
    · have := h (35 + j) v (by rw [rowV, List.flatten_cons, List.getElem?_append_right (by omega), hl, Nat.add_sub_cancel_left]; exact hj)
      rw [Nat.add_assoc]; exact this
mutual
/-- No lone part. -/
def wide : Vt → Prop
  | .mk _ _ _ ks => ks.length ≠ 1 ∧ wideK ks
def wideK : List Vt → Prop
  | [] => True
  | x :: r => wide x ∧ wideK r
end
theorem zero_nobool : ∀ (j : Nat) (b : Bool), (valL 0 (zeros 32) nilS nilS)[j]? ≠ some (.bool b) := by
  intro j b h
  have hm := List.mem_of_getElem? h
  simp [valL, cellsB] at hm
mutual
/-- A store into a block of one value leaves such a value as it is. -/
theorem VAt.aside {w w' : World} {g : Nat} {t : TypeId} (hg : HasC w g t (valL 0 (zeros 32) nilS nilS)) (hl : (valL 0 (zeros 32) nilS nilS).length = 35) (ho : Only g w w') : ∀ (x : Vt) {sb sk : Value}, wide x → VAt w x sb sk → VAt w' x sb sk
  | .mk n r bs ks, sb, sk, hw, h => by
    rw [wide] at hw
    obtain ⟨h1, hk⟩ := hw
    rw [VAt] at h ⊢
    obtain ⟨h0, ⟨ao, cap, e, e1, e2, e3⟩, ao', cap', h2, h3, h4, h5⟩ := h
    have e4 : bs.length = 0 ∨ ∃ b off, ao = some ⟨b, off, none⟩ ∧ ∀ i, i < bs.length → w'.cell? ⟨b, off + i, none⟩ = some (.bool (bs.getD i false)) := by
      rcases e3 with e3 | ⟨b, off, e4, e5⟩
      · exact .inl e3
      · by_cases hz : bs.length = 0
        · exact .inl hz
        · refine .inr ⟨b, off, e4, fun i hi => (World.cell?_of_block (a := ⟨b, off + i, none⟩) (ho.block b (fun eb => ?_))).trans (e5 i hi)⟩
          subst eb
          have h5 := e5 0 (by omega)
          rw [cell_of_row w b _ _ _ (0, 0) hg] at h5
          exact zero_nobool _ _ (by simpa using h5)
    refine ⟨h0, ⟨ao, cap, e, e1, e2, e4⟩, ao', cap', h2, h3, h4, ?_⟩
    rcases h5 with h5 | ⟨b, off, h6, h7⟩
    · exact .inl h5
    · by_cases hz : ks.length = 0
      · exact .inl hz
      · refine .inr ⟨b, off, h6, KsAt.aside hg hl ho ks hk ?_ h7⟩
        intro eb
        subst eb
        have hx : ks[1]? = some ks[1] := List.getElem?_eq_getElem (by omega)
        obtain ⟨sb', sk', hr, hv⟩ := KsAt.get h7 hx
        have := hr 0 _ (valL_0 _ _ _ _)
        rw [cell_of_row w b _ _ _ (0, 0) hg] at this
        have := (Array.getElem?_eq_some_iff.1 this).1
        simp at this
        omega
theorem KsAt.aside {w w' : World} {g : Nat} {t : TypeId} (hg : HasC w g t (valL 0 (zeros 32) nilS nilS)) (hl : (valL 0 (zeros 32) nilS nilS).length = 35) (ho : Only g w w') : ∀ (l : List Vt) {b off : Nat}, wideK l → b ≠ g → KsAt w l b off → KsAt w' l b off
  | [], b, off, _, _, _ => by rw [KsAt]; exact trivial
  | x :: rest, b, off, hw, hb, h => by
    rw [wideK] at hw
    rw [KsAt] at h ⊢
    obtain ⟨⟨sb, sk, h1, h2⟩, h3⟩ := h
    exact ⟨⟨sb, sk, fun j v hj => (World.cell?_of_block (a := ⟨b, off + j, none⟩) (ho.block b hb)).trans (h1 j v hj), VAt.aside hg hl ho x hw.1 h2⟩, KsAt.aside hg hl ho rest hw.2 hb h3⟩
end
/-- A value of parts. -/
theorem isV_all {w : World} {b k : Nat} {ks : List Vt} (hk : ks.length = k) (hm : k ≤ maxLen) (h : KsAt w ks b 0) : VAt w (.mk 0 (zeros 32) [] ks) nilS (.slice (some ⟨b, 0, none⟩) k k) := by
  subst hk
  rw [VAt]
  exact ⟨⟨by decide, zeros32, zeros_byte 32⟩, isT_nil w, some ⟨b, 0, none⟩, ks.length, rfl, Nat.le_refl _, hm, .inr ⟨b, 0, rfl, h⟩⟩
theorem IsV.bits {w : World} {ao : Option Addr} {c : Nat} {l : List Bool} (h : IsT w (.slice ao l.length c) l) : IsV w (.agg (valL 0 (zeros 32) (.slice ao l.length c) nilS).toArray) (.mk 0 (zeros 32) l []) := by
  refine ⟨_, nilS, rfl, ?_⟩
  rw [VAt]
  exact ⟨⟨by decide, zeros32, zeros_byte 32⟩, h, none, 0, rfl, Nat.le_refl _, by decide, .inl rfl⟩
theorem IsV.leaf (w : World) {n : Nat} {r : List Nat} (hn : n < 18446744073709551616) (hr : r.length = 32) (h8 : ∀ z ∈ r, z < 256) : IsV w (.agg (valL n r nilS nilS).toArray) (.mk n r [] []) := ⟨nilS, nilS, rfl, vAt_leaf w hn hr h8⟩
end Go.Proofs.YtbmcmabimfoknaaGreatDoor

/- The root of a truth, of few bits. -/
namespace Go.Proofs.YtbmcmabimfoknaaGreatDoor
open Go.RowKit Go.Shelf
set_option linter.unusedVariables false
set_option maxRecDepth 100000

def bitN01 (b : Bool) : Nat := if b then 1 else 0
theorem bitN01_lt (b : Bool) : bitN01 b < 18446744073709551616 := by cases b <;> decide
/-- The root of few bits. -/
def fewR (l : List Bool) : List Nat := over (zeros 32) 0 (putB l false)
def boolR (b : Bool) : List Nat := fewR [b]
theorem boolR_word (b : Bool) : boolR b = wUp (bitN01 b) 8 := by cases b <;> decide +kernel
theorem boolR_rt (b : Bool) : Rt (boolR b) := by rw [boolR_word]; exact wUp_rt _ 8
theorem fewR_rt (l : List Bool) (hl : l.length ≤ 256) : Rt (fewR l) := over_rt _ (by rw [putB_length]; simp; omega) (putB_byte l false)
end Go.Proofs.YtbmcmabimfoknaaGreatDoor

/- The root of a struct (Header), by the program. -/
namespace Go.Proofs.YtbmcmabimfoknaaGreatDoor
open Go.RowKit Go.Shelf
set_option linter.unusedVariables false
set_option linter.unusedSimpArgs false
set_option maxRecDepth 100000

def hdP (zs : Nat) (zp : Nat) (zpa : List Nat) (zst : List Nat) (zbo : List Nat) : List (List Value) := [[.int .u64 (zs : Nat)], [.int .u64 (zp : Nat)], cellsB zpa, cellsB zst, cellsB zbo]
def hdC (zs : Nat) (zp : Nat) (zpa : List Nat) (zst : List Nat) (zbo : List Nat) : List Value := (hdP zs zp zpa zst zbo).flatten
theorem hdC_length (zs : Nat) (zp : Nat) (zpa : List Nat) (zst : List Nat) (zbo : List Nat) (hzpa : zpa.length = 32) (hzst : zst.length = 32) (hzbo : zbo.length = 32) : (hdC zs zp zpa zst zbo).length = 98 := by simp [hdC, hdP, cellsB_length, hzpa, hzst, hzbo]
def hdR (zs : Nat) (zp : Nat) (zpa : List Nat) (zst : List Nat) (zbo : List Nat) : List Nat := fullR (depth (([wUp zs 8, wUp zp 8, zpa, zst, zbo] : List (List Nat)).length : Nat)) [wUp zs 8, wUp zp 8, zpa, zst, zbo]
theorem hdR_rt (zs : Nat) (zp : Nat) (zpa : List Nat) (zst : List Nat) (zbo : List Nat) (hzpa : Rt zpa) (hzst : Rt zst) (hzbo : Rt zbo) : Rt (hdR zs zp zpa zst zbo) := full_rt _ _ (Rts.more (wUp_rt zs 8) (Rts.more (wUp_rt zp 8) (Rts.more hzpa (Rts.more hzst (Rts.more hzbo Rts.nil)))))
set_option maxHeartbeats 2000000 in
theorem hdR_any (zs : Nat) (zp : Nat) (zpa : List Nat) (zst : List Nat) (zbo : List Nat) (hzs : zs < 18446744073709551616) (hzp : zp < 18446744073709551616) (hzpa : Rt zpa) (hzst : Rt zst) (hzbo : Rt zbo) (w : World) (hT : Tabs w) :
    Calls Tryz.prog 14 #[.agg (hdC zs zp zpa zst zbo).toArray] w fun x w' => x = .returned (.agg (nums .u8 (hdR zs zp zpa zst zbo))) ∧ Below w.heap.size w w' := by
  have hfr := hdR_rt zs zp zpa zst zbo hzpa hzst hzbo
  obtain ⟨W, HW⟩ : ∃ W, Hid (hdR zs zp zpa zst zbo = W) := ⟨_, hid rfl⟩
  rw [HW.out] at hfr ⊢
  go_enter Tryz.func14, Tryz.ntmps14
  go_wp2_with ((with_reducible refine at_list' ?_); first
    | (refine wpList_box_c rfl 1 rfl (.tmp 0) rfl (hdC zs zp zpa zst zbo) rfl ?_; intro w1 H1 B1 S1)
    | (refine wpList_alloc_has rfl 2 rfl 23 rfl .u8 32 Tryz.zero23 ?_; intro w2 H2 B2 S2; rw [S1] at H2 S2; rw [S1]))
  have HX := hid (H1.keep B2)
  have HY := hid H2
  have HB := hid (B1.trans (B2.mono (by omega)))
  have HT := hid (hT.keep HB.out)
  have s2 : w2.heap.size = w.heap.size + 2 := by omega
  clear H1 B1 S1 H2 B2 S2
  try simp only [Act.put, List.setIfInBounds_toArray, List.set_cons_succ, List.set_cons_zero]
  refine wp_region_flow 14 14 (fun i v wq => match i with
    | 0 => v = .pointer (some ⟨w.heap.size, 0, none⟩)
    | 1 => v = .int .u64 (zs : Nat)
    | 2 => v = .agg (nums .u8 (wUp zs 8))
    | 3 => v = .pointer (some ⟨w.heap.size, 1, none⟩)
    | 4 => v = .int .u64 (zp : Nat)
    | 5 => v = .agg (nums .u8 (wUp zp 8))
    | 6 => v = .pointer (some ⟨w.heap.size, 2, none⟩)
    | 7 => v = .agg (nums .u8 zpa)
    | 8 => v = .pointer (some ⟨w.heap.size, 34, none⟩)
    | 9 => v = .agg (nums .u8 zst)
    | 10 => v = .pointer (some ⟨w.heap.size, 66, none⟩)
    | 11 => v = .agg (nums .u8 zbo)
    | 12 => ∃ b, v = .slice (some ⟨b, 0, none⟩) 5 5 ∧ RootsAt wq (some ⟨b, 0, none⟩) [wUp zs 8, wUp zp 8, zpa, zst, zbo]
    | _ => v = .agg (nums .u8 W)) (by kernel_rfl) (by kernel_rfl) (fun _ d _ _ _ h => by cases d <;> exact h) ?_ ?_ ?_ ?_
  · intro i v wq wq' hi hv hb
    match i, hi with
    | 0, _ => exact hv
    | 1, _ => exact hv
    | 2, _ => exact hv
    | 3, _ => exact hv
    | 4, _ => exact hv
    | 5, _ => exact hv
    | 6, _ => exact hv
    | 7, _ => exact hv
    | 8, _ => exact hv
    | 9, _ => exact hv
    | 10, _ => exact hv
    | 11, _ => exact hv
    | 12, _ => obtain ⟨b, h1, h2⟩ := hv; exact ⟨b, h1, h2.keep hb⟩
    | 13, _ => exact hv
    | (k + 14), hk => exact absurd hk (by omega)
  · intro i o hi ho aq wq hc hk hdep
    match i, hi with
    | 0, _ =>
      cases ho
      have e1 : aq.tmps.getD 1 undef = .pointer (some ⟨w.heap.size, 0, none⟩) := hk 1 (by decide)
      exact flow_value _ (run_fieldAt 52 (.tmp 1) 0 rfl _ _ e1 (by kernel_rfl)) rfl
    | 1, _ =>
      cases ho
      have e0 : aq.tmps.getD 3 undef = .pointer (some ⟨w.heap.size, 0, none⟩) := hdep 0 3 rfl (by kernel_rfl)
      exact flow_value _ (run_cell 24 (.tmp 3) rfl _ e0 _ ((HX.out.keep (hcB hc)).cell (seg (ps := hdP zs zp zpa zst zbo) (i := 0) (off := 0) rfl (by simp [hdP, cellsB_length, hzpa.len, hzst.len, hzbo.len]) 0 _ rfl)) _ Tryz.underlying24 rfl) rfl
    | 2, _ =>
      cases ho
      have e0 : aq.tmps.getD 4 undef = .int .u64 (zs : Nat) := hdep 1 4 rfl (by kernel_rfl)
      refine flow_fun 59 _ _ rfl (fun _ _ => by simp [go_sem]) #[.int .u64 (zs : Nat)] (by rw [show (#[Operand.tmp 4] : Array Operand).map aq.eval = #[aq.tmps.getD 4 undef] from by simp [Act.eval], e0]) ?_
      refine (number_any zs hzs wq).mono ?_
      rintro x w' ⟨rfl, q⟩
      exact ⟨_, rfl, rfl, q⟩
    | 3, _ =>
      cases ho
      have e1 : aq.tmps.getD 1 undef = .pointer (some ⟨w.heap.size, 0, none⟩) := hk 1 (by decide)
      exact flow_value _ (run_fieldAt 52 (.tmp 1) 1 rfl _ _ e1 (by kernel_rfl)) rfl
    | 4, _ =>
      cases ho
      have e0 : aq.tmps.getD 6 undef = .pointer (some ⟨w.heap.size, 1, none⟩) := hdep 3 6 rfl (by kernel_rfl)
      exact flow_value _ (run_cell 24 (.tmp 6) rfl _ e0 _ ((HX.out.keep (hcB hc)).cell (seg (ps := hdP zs zp zpa zst zbo) (i := 1) (off := 1) rfl (by simp [hdP, cellsB_length, hzpa.len, hzst.len, hzbo.len]) 0 _ rfl)) _ Tryz.underlying24 rfl) rfl
    | 5, _ =>
      cases ho
      have e0 : aq.tmps.getD 7 undef = .int .u64 (zp : Nat) := hdep 4 7 rfl (by kernel_rfl)
      refine flow_fun 59 _ _ rfl (fun _ _ => by simp [go_sem]) #[.int .u64 (zp : Nat)] (by rw [show (#[Operand.tmp 7] : Array Operand).map aq.eval = #[aq.tmps.getD 7 undef] from by simp [Act.eval], e0]) ?_
      refine (number_any zp hzp wq).mono ?_
      rintro x w' ⟨rfl, q⟩
      exact ⟨_, rfl, rfl, q⟩
    | 6, _ =>
      cases ho
      have e1 : aq.tmps.getD 1 undef = .pointer (some ⟨w.heap.size, 0, none⟩) := hk 1 (by decide)
      exact flow_value _ (run_fieldAt 52 (.tmp 1) 2 rfl _ _ e1 (by kernel_rfl)) rfl
    | 7, _ =>
      cases ho
      have e0 : aq.tmps.getD 9 undef = .pointer (some ⟨w.heap.size, 2, none⟩) := hdep 6 9 rfl (by kernel_rfl)
      exact flow_value _ (run_mid 23 (.tmp 9) rfl w.heap.size 2 e0 (cellsB zpa) ((HX.out.keep (hcB hc)).range 2 (cellsB zpa) (seg (ps := hdP zs zp zpa zst zbo) (i := 2) (off := 2) rfl (by simp [hdP, cellsB_length, hzpa.len, hzst.len, hzbo.len]))) _ Tryz.und23 rfl (by rw [cellsB_length, hzpa.len]; exact Tryz.size23)) rfl
    | 8, _ =>
      cases ho
      have e1 : aq.tmps.getD 1 undef = .pointer (some ⟨w.heap.size, 0, none⟩) := hk 1 (by decide)
      exact flow_value _ (run_fieldAt 52 (.tmp 1) 3 rfl _ _ e1 (by kernel_rfl)) rfl
    | 9, _ =>
      cases ho
      have e0 : aq.tmps.getD 11 undef = .pointer (some ⟨w.heap.size, 34, none⟩) := hdep 8 11 rfl (by kernel_rfl)
      exact flow_value _ (run_mid 23 (.tmp 11) rfl w.heap.size 34 e0 (cellsB zst) ((HX.out.keep (hcB hc)).range 34 (cellsB zst) (seg (ps := hdP zs zp zpa zst zbo) (i := 3) (off := 34) rfl (by simp [hdP, cellsB_length, hzpa.len, hzst.len, hzbo.len]))) _ Tryz.und23 rfl (by rw [cellsB_length, hzst.len]; exact Tryz.size23)) rfl
    | 10, _ =>
      cases ho
      have e1 : aq.tmps.getD 1 undef = .pointer (some ⟨w.heap.size, 0, none⟩) := hk 1 (by decide)
      exact flow_value _ (run_fieldAt 52 (.tmp 1) 4 rfl _ _ e1 (by kernel_rfl)) rfl
    | 11, _ =>
      cases ho
      have e0 : aq.tmps.getD 13 undef = .pointer (some ⟨w.heap.size, 66, none⟩) := hdep 10 13 rfl (by kernel_rfl)
      exact flow_value _ (run_mid 23 (.tmp 13) rfl w.heap.size 66 e0 (cellsB zbo) ((HX.out.keep (hcB hc)).range 66 (cellsB zbo) (seg (ps := hdP zs zp zpa zst zbo) (i := 4) (off := 66) rfl (by simp [hdP, cellsB_length, hzpa.len, hzst.len, hzbo.len]))) _ Tryz.und23 rfl (by rw [cellsB_length, hzbo.len]; exact Tryz.size23)) rfl
    | 12, _ =>
      cases ho
      have e0 : aq.tmps.getD 5 undef = .agg (nums .u8 (wUp zs 8)) := hdep 2 5 rfl (by kernel_rfl)
      have e1 : aq.tmps.getD 8 undef = .agg (nums .u8 (wUp zp 8)) := hdep 5 8 rfl (by kernel_rfl)
      have e2 : aq.tmps.getD 10 undef = .agg (nums .u8 zpa) := hdep 7 10 rfl (by kernel_rfl)
      have e3 : aq.tmps.getD 12 undef = .agg (nums .u8 zst) := hdep 9 12 rfl (by kernel_rfl)
      have e4 : aq.tmps.getD 14 undef = .agg (nums .u8 zbo) := hdep 11 14 rfl (by kernel_rfl)
      exact flow_rows 122 23 5 32 _ rfl Tryz.underlying122 rootInfo6 [cellsB (wUp zs 8), cellsB (wUp zp 8), cellsB (zpa), cellsB (zst), cellsB (zbo)] [.tmp 5, .tmp 8, .tmp 10, .tmp 12, .tmp 14] rfl (by rw [show [Operand.tmp 5, Operand.tmp 8, Operand.tmp 10, Operand.tmp 12, Operand.tmp 14].map aq.eval = [aq.tmps.getD 5 undef, aq.tmps.getD 8 undef, aq.tmps.getD 10 undef, aq.tmps.getD 12 undef, aq.tmps.getD 14 undef] from rfl, e0, e1, e2, e3, e4]; rfl) (by simp [cellsB_length, ((wUp_rt zs 8)).len, ((wUp_rt zp 8)).len, (hzpa).len, (hzst).len, (hzbo).len]) rfl (by decide) (by decide) (by decide) (fun w' h => ⟨_, rfl, hasC_roots (rs := [wUp zs 8, wUp zp 8, zpa, zst, zbo]) h (Rts.more (wUp_rt zs 8) (Rts.more (wUp_rt zp 8) (Rts.more hzpa (Rts.more hzst (Rts.more hzbo Rts.nil)))))⟩)
    | 13, _ =>
      cases ho
      obtain ⟨b, e6, h6⟩ := hdep 12 15 rfl (by kernel_rfl)
      refine flow_fun 19 _ _ rfl (fun _ _ => by simp [go_sem]) #[.slice (some ⟨b, 0, none⟩) 5 5] (by rw [show (#[Operand.tmp 15] : Array Operand).map aq.eval = #[aq.tmps.getD 15 undef] from by simp [Act.eval], e6]) ?_
      refine (cont_any (some ⟨b, 0, none⟩) 5 [wUp zs 8, wUp zp 8, zpa, zst, zbo] wq (HT.out.keep (hcB hc)) (Nat.le_refl _) (by decide) (by show 5 ≤ 1048576; decide) h6).mono ?_
      rintro x w' ⟨rfl, q⟩
      exact ⟨_, rfl, (by rw [← HW.out]; rfl), q⟩
    | (k + 14), hk => exact absurd hk (by omega)
  · intro o h14 ho
    omega
  intro vf w8 hc hv
  have e7 : vf 13 = _ := hv 13 16 (by decide) rfl
  have B8 := HB.out.trans ((hcB hc).mono (by omega))
  have H8v := HY.out.keep (hcB hc)
  have s8 := (hcB hc).size
  clear hv hc
  simp only [List.take_succ_cons, List.take_zero, List.drop_succ_cons, List.drop_zero, putAll, Act.put, List.setIfInBounds_toArray, List.set_cons_succ, List.set_cons_zero]
  rw [e7]
  have HB8 := hid B8
  clear B8 e7 HB
  go_wp2_with ((with_reducible refine at_list' ?_); first
    | (refine wpList_store_has rfl 23 (.tmp 2) (.tmp 16) rfl (w.heap.size + 1) .u8 W (zeros 32) rfl rfl 23 H8v (hfr.size _ Tryz.size23) (by rw [hfr.len, zeros_length]) ?_; intro w9 H9 O9))
  refine bodyPost_ret (results_has rfl _ _ (w.heap.size + 1) 23 .u8 W _ _ rfl H9 Tryz.und23 (hfr.size _ Tryz.size23)) rfl ?_
  exact ⟨rfl, below_only HB8.out O9 (by omega)⟩
end Go.Proofs.YtbmcmabimfoknaaGreatDoor

/- The root of a struct (Checkpoint), by the program. -/
namespace Go.Proofs.YtbmcmabimfoknaaGreatDoor
open Go.RowKit Go.Shelf
set_option linter.unusedVariables false
set_option linter.unusedSimpArgs false
set_option maxRecDepth 100000

def cpP (ze : Nat) (zr : List Nat) : List (List Value) := [[.int .u64 (ze : Nat)], cellsB zr]
def cpC (ze : Nat) (zr : List Nat) : List Value := (cpP ze zr).flatten
theorem cpC_length (ze : Nat) (zr : List Nat) (hzr : zr.length = 32) : (cpC ze zr).length = 33 := by simp [cpC, cpP, cellsB_length, hzr]
def cpR (ze : Nat) (zr : List Nat) : List Nat := fullR (depth (([wUp ze 8, zr] : List (List Nat)).length : Nat)) [wUp ze 8, zr]
theorem cpR_rt (ze : Nat) (zr : List Nat) (hzr : Rt zr) : Rt (cpR ze zr) := full_rt _ _ (Rts.more (wUp_rt ze 8) (Rts.more hzr Rts.nil))
set_option maxHeartbeats 2000000 in
theorem cpR_any (ze : Nat) (zr : List Nat) (hze : ze < 18446744073709551616) (hzr : Rt zr) (w : World) (hT : Tabs w) :
    Calls Tryz.prog 15 #[.agg (cpC ze zr).toArray] w fun x w' => x = .returned (.agg (nums .u8 (cpR ze zr))) ∧ Below w.heap.size w w' := by
  have hfr := cpR_rt ze zr hzr
  obtain ⟨W, HW⟩ : ∃ W, Hid (cpR ze zr = W) := ⟨_, hid rfl⟩
  rw [HW.out] at hfr ⊢
  go_enter Tryz.func15, Tryz.ntmps15
  go_wp2_with ((with_reducible refine at_list' ?_); first
    | (refine wpList_box_c rfl 1 rfl (.tmp 0) rfl (cpC ze zr) rfl ?_; intro w1 H1 B1 S1)
    | (refine wpList_alloc_has rfl 2 rfl 23 rfl .u8 32 Tryz.zero23 ?_; intro w2 H2 B2 S2; rw [S1] at H2 S2; rw [S1]))
  have HX := hid (H1.keep B2)
  have HY := hid H2
  have HB := hid (B1.trans (B2.mono (by omega)))
  have HT := hid (hT.keep HB.out)
  have s2 : w2.heap.size = w.heap.size + 2 := by omega
  clear H1 B1 S1 H2 B2 S2
  try simp only [Act.put, List.setIfInBounds_toArray, List.set_cons_succ, List.set_cons_zero]
  refine wp_region_flow 7 7 (fun i v wq => match i with
    | 0 => v = .pointer (some ⟨w.heap.size, 0, none⟩)
    | 1 => v = .int .u64 (ze : Nat)
    | 2 => v = .agg (nums .u8 (wUp ze 8))
    | 3 => v = .pointer (some ⟨w.heap.size, 1, none⟩)
    | 4 => v = .agg (nums .u8 zr)
    | 5 => ∃ b, v = .slice (some ⟨b, 0, none⟩) 2 2 ∧ RootsAt wq (some ⟨b, 0, none⟩) [wUp ze 8, zr]
    | _ => v = .agg (nums .u8 W)) (by kernel_rfl) (by kernel_rfl) (fun _ d _ _ _ h => by cases d <;> exact h) ?_ ?_ ?_ ?_
  · intro i v wq wq' hi hv hb
    match i, hi with
    | 0, _ => exact hv
    | 1, _ => exact hv
    | 2, _ => exact hv
    | 3, _ => exact hv
    | 4, _ => exact hv
    | 5, _ => obtain ⟨b, h1, h2⟩ := hv; exact ⟨b, h1, h2.keep hb⟩
    | 6, _ => exact hv
    | (k + 7), hk => exact absurd hk (by omega)
  · intro i o hi ho aq wq hc hk hdep
    match i, hi with
    | 0, _ =>
      cases ho
      have e1 : aq.tmps.getD 1 undef = .pointer (some ⟨w.heap.size, 0, none⟩) := hk 1 (by decide)
      exact flow_value _ (run_fieldAt 55 (.tmp 1) 0 rfl _ _ e1 (by kernel_rfl)) rfl
    | 1, _ =>
      cases ho
      have e0 : aq.tmps.getD 3 undef = .pointer (some ⟨w.heap.size, 0, none⟩) := hdep 0 3 rfl (by kernel_rfl)
      exact flow_value _ (run_cell 24 (.tmp 3) rfl _ e0 _ ((HX.out.keep (hcB hc)).cell (seg (ps := cpP ze zr) (i := 0) (off := 0) rfl (by simp [cpP, cellsB_length, hzr.len]) 0 _ rfl)) _ Tryz.underlying24 rfl) rfl
    | 2, _ =>
      cases ho
      have e0 : aq.tmps.getD 4 undef = .int .u64 (ze : Nat) := hdep 1 4 rfl (by kernel_rfl)
      refine flow_fun 59 _ _ rfl (fun _ _ => by simp [go_sem]) #[.int .u64 (ze : Nat)] (by rw [show (#[Operand.tmp 4] : Array Operand).map aq.eval = #[aq.tmps.getD 4 undef] from by simp [Act.eval], e0]) ?_
      refine (number_any ze hze wq).mono ?_
      rintro x w' ⟨rfl, q⟩
      exact ⟨_, rfl, rfl, q⟩
    | 3, _ =>
      cases ho
      have e1 : aq.tmps.getD 1 undef = .pointer (some ⟨w.heap.size, 0, none⟩) := hk 1 (by decide)
      exact flow_value _ (run_fieldAt 55 (.tmp 1) 1 rfl _ _ e1 (by kernel_rfl)) rfl
    | 4, _ =>
      cases ho
      have e0 : aq.tmps.getD 6 undef = .pointer (some ⟨w.heap.size, 1, none⟩) := hdep 3 6 rfl (by kernel_rfl)
      exact flow_value _ (run_mid 23 (.tmp 6) rfl w.heap.size 1 e0 (cellsB zr) ((HX.out.keep (hcB hc)).range 1 (cellsB zr) (seg (ps := cpP ze zr) (i := 1) (off := 1) rfl (by simp [cpP, cellsB_length, hzr.len]))) _ Tryz.und23 rfl (by rw [cellsB_length, hzr.len]; exact Tryz.size23)) rfl
    | 5, _ =>
      cases ho
      have e0 : aq.tmps.getD 5 undef = .agg (nums .u8 (wUp ze 8)) := hdep 2 5 rfl (by kernel_rfl)
      have e1 : aq.tmps.getD 7 undef = .agg (nums .u8 zr) := hdep 4 7 rfl (by kernel_rfl)
      exact flow_rows 122 23 2 32 _ rfl Tryz.underlying122 rootInfo6 [cellsB (wUp ze 8), cellsB (zr)] [.tmp 5, .tmp 7] rfl (by rw [show [Operand.tmp 5, Operand.tmp 7].map aq.eval = [aq.tmps.getD 5 undef, aq.tmps.getD 7 undef] from rfl, e0, e1]; rfl) (by simp [cellsB_length, ((wUp_rt ze 8)).len, (hzr).len]) rfl (by decide) (by decide) (by decide) (fun w' h => ⟨_, rfl, hasC_roots (rs := [wUp ze 8, zr]) h (Rts.more (wUp_rt ze 8) (Rts.more hzr Rts.nil))⟩)
    | 6, _ =>
      cases ho
      obtain ⟨b, e6, h6⟩ := hdep 5 8 rfl (by kernel_rfl)
      refine flow_fun 19 _ _ rfl (fun _ _ => by simp [go_sem]) #[.slice (some ⟨b, 0, none⟩) 2 2] (by rw [show (#[Operand.tmp 8] : Array Operand).map aq.eval = #[aq.tmps.getD 8 undef] from by simp [Act.eval], e6]) ?_
      refine (cont_any (some ⟨b, 0, none⟩) 2 [wUp ze 8, zr] wq (HT.out.keep (hcB hc)) (Nat.le_refl _) (by decide) (by show 2 ≤ 1048576; decide) h6).mono ?_
      rintro x w' ⟨rfl, q⟩
      exact ⟨_, rfl, (by rw [← HW.out]; rfl), q⟩
    | (k + 7), hk => exact absurd hk (by omega)
  · intro o h7 ho
    omega
  intro vf w8 hc hv
  have e7 : vf 6 = _ := hv 6 9 (by decide) rfl
  have B8 := HB.out.trans ((hcB hc).mono (by omega))
  have H8v := HY.out.keep (hcB hc)
  have s8 := (hcB hc).size
  clear hv hc
  simp only [List.take_succ_cons, List.take_zero, List.drop_succ_cons, List.drop_zero, putAll, Act.put, List.setIfInBounds_toArray, List.set_cons_succ, List.set_cons_zero]
  rw [e7]
  have HB8 := hid B8
  clear B8 e7 HB
  go_wp2_with ((with_reducible refine at_list' ?_); first
    | (refine wpList_store_has rfl 23 (.tmp 2) (.tmp 9) rfl (w.heap.size + 1) .u8 W (zeros 32) rfl rfl 23 H8v (hfr.size _ Tryz.size23) (by rw [hfr.len, zeros_length]) ?_; intro w9 H9 O9))
  refine bodyPost_ret (results_has rfl _ _ (w.heap.size + 1) 23 .u8 W _ _ rfl H9 Tryz.und23 (hfr.size _ Tryz.size23)) rfl ?_
  exact ⟨rfl, below_only HB8.out O9 (by omega)⟩
end Go.Proofs.YtbmcmabimfoknaaGreatDoor

/- slices.Collect of the chunks of no bytes. -/
namespace Go.Proofs.YtbmcmabimfoknaaGreatDoor
open Go.RowKit Go.Shelf
set_option linter.unusedVariables false
set_option maxRecDepth 100000
attribute [local go_sem] Oper.semAt_some

theorem heap_kept {W W' : World} {row : Option Nat} {b : Nat} {c : Array Value} {t : TypeId} {z : Nat × Nat} (h : W.heap[b]? = some (.cells c t z)) (hg : W.grownBy W' row) (hr : ∀ r, row = some r → ∃ o : Obj, W.heap[r]? = some o ∧ o.isCells = false) : W'.heap[b]? = some (.cells c t z) := by
  refine (hg.block b (Array.getElem?_eq_some_iff.1 h).1 (fun e => ?_)).trans h
  obtain ⟨o, ho, hc⟩ := hr b e.symm
  rw [h] at ho
  cases ho
  cases hc
theorem wpListIn_runS {F : Fence} {n : Nat} {P : Program} {w : World} {ops : Array Oper} {rest : List Oper} {o : Oper} {a : Act} {Q : Exit → Act → World → Prop} (hgd : o.guard = none) (hab : o.about P w a.eval = none) (hdf : ∀ c, o.op ≠ .defer c)
    (w' : World) (hrun : (execOp a.eval o).run P w = .ok .skip w') (h : wpListIn F n P ops Q rest (a.put o.dst undef) w') : wpListIn F n P ops Q (o :: rest) a w := by
  refine wpListIn_plain hgd fun K hK => ?_
  unfold Oper.wpIn
  refine ⟨fun f hf => ?_, ?_⟩
  · rw [hab] at hf; cases hf
  · rw [Oper.semAt_plain F _ _ hdf, hrun, Oper.uponIn_skip]; exact hK _ _ h
theorem run_store_has {P : Program} {w : World} {o : Oper} {a : Act} (ty : TypeId) (x y : Operand) (ho : o.op = .store ty x y) (g : Nat) (k : IntKind) (l old : List Nat) (hx : a.eval x = .pointer (some ⟨g, 0, none⟩)) (hy : a.eval y = .agg (nums k l)) (t : TypeId) (hg : Has w g t k old)
    (hi : (P.info? ty).map (·.size) = some l.length) (hl : old.length = l.length) : (execOp a.eval o).run P w = .ok .skip (w.setRow g (nums k l)) := by
  unfold execOp
  simp only [ho, hx, hy, Instr.storeAt, Instr.sureAddr, Sem.run_bind, Sem.run_pure, Result.andThen_ok, run_storeVar_row w g t ty (nums k old) (nums k l) hg (by rw [hi, nums_size]) (by rw [nums_size, nums_size, hl]) (nums_one k l)]
theorem at_listI {F : Fence} {n : Nat} {P : Program} {w : World} {ops : Array Oper} {rest : List Oper} {o : Oper} {a : Act} {Q : Exit → Act → World → Prop} (h : wpListIn F n P ops Q (o :: rest) a w) : wpListIn F n P ops Q (o :: rest) a w := h

set_option maxHeartbeats 2000000 in
theorem appSeq_nil (c cap : Nat) (ao : Option Addr) (w : World) (hm : cap ≤ maxLen) (hc : w.cell? ⟨c, 0, none⟩ = some (.slice ao 0 cap)) :
    CallsIn Fence.wide 5 Tryz.prog 113 #[.slice none 0 0, .func (.func 115) #[] #[.pointer (some ⟨c, 0, none⟩)]] w fun e w' => e = .returned (.slice none 0 0) ∧ Below w.heap.size w w' := by
  refine callsIn_of_wp_marks Tryz.func113 rfl trivial ?_ rfl
  simp only [Tryz.ntmps113, List.size_toArray, List.length_cons, List.length_nil, Nat.reduceAdd, Nat.reduceSub, Array.replicate_succ, Array.replicate_zero, List.push_toArray, List.append_toArray, List.nil_append, List.cons_append]
  gi_wp2_with fail
  have BA : Below w.heap.size w (w.alloc (.cells #[.slice none 0 0] 122)) := (Below.refl _ w).alloc (Nat.le_refl _) _
  have X0 : Go.Boxed (w.alloc (.cells #[.slice none 0 0] 122)) w.heap.size 122 (.slice none 0 0) := Go.Boxed.new w _ _
  have S0 : (w.alloc (.cells #[.slice none 0 0] 122)).heap.size = w.heap.size + 1 := by simp
  have C0 := (BA.cell (p := ⟨c, 0, none⟩) (block_lt_of_cell hc)).trans hc
  have hcl : c < w.heap.size := block_lt_of_cell hc
  generalize w.alloc (.cells #[.slice none 0 0] 122) = w0 at *
  refine wpIn_rangeFunc_ownH rfl (by decide) (gf := 115) (lb := #[.pointer (some ⟨c, 0, none⟩)]) rfl trivial (enters_of Tryz.func115 (by kernel_rfl) rfl)
    (encs := fun x : RtV => #[.agg (nums .u8 x.1)]) (Kp := KeepsOwn c ao []) (S := fun ys => ys.map Subtype.val = chunks []) (Sp := fun pre => pre.map Subtype.val = (chunks []).take pre.length) (N := (chunks []).length) (w0 := w0)
    (fun l J Jx W hW hJ _ hY h0 => chunkI_in Fence.wide _ trivial rfl (by decide) l c cap ao [] (fun _ h => absurd h List.not_mem_nil) (by decide) (Nat.zero_le _) hm W J Jx hJ hY ((hW.cell (p := ⟨c, 0, none⟩) (block_lt_of_cell C0)).trans C0) (.inl rfl) h0)
    KeepsOwn.trans (fun W l o o' hl h hk _ => ⟨World.cell?_of_block (World.putObj_heap_other (fun e => by simp at e; omega)), fun _ => .inl rfl⟩) (Below.refl _ _) (fun _ => rfl)
    (fun pre W => Go.Boxed W w.heap.size 122 (.slice none 0 0) ∧ Below w.heap.size w W)
    (fun _ _ _ => False)
    (OwnFrom.and (Own.from (fun s A B row hs hg hr => heap_kept hs hg hr) _) (ownFrom_below (Nat.le_refl _) (by omega)))
    (fun _ _ _ _ _ hs _ _ => hs) ⟨X0, BA⟩ (fun _ _ _ => True) (fun _ _ _ _ _ _ _ _ _ => trivial) ?assign ?body ?done ?stop
  case assign =>
    rintro l pre x W K ⟨hX, hB⟩ hK
    have hrt := x.2
    have B1 : Below W.heap.size W (W.alloc (.cells (nums .u8 (zeros 32)) 23)) := (Below.refl _ _).alloc (Nat.le_refl _) _
    have H1 : Has (W.alloc (.cells (nums .u8 (zeros 32)) 23)) W.heap.size 23 .u8 (zeros 32) := heap_alloc_new W _
    have hs32 : (nums .u8 x.1).size = 32 := by rw [nums_size, hrt.len]
    have ksc := run_storeCells_from (P := Tryz.prog) W.heap.size 23 (nums .u8 x.1).toList 0 (nums .u8 (zeros 32)) (W.alloc (.cells (nums .u8 (zeros 32)) 23)) H1 (by rw [Array.length_toList, hs32, nums_size, zeros_length]) (fun v hv => (Array.all_eq_true_iff_forall_mem.1 (nums_one .u8 x.1)) v (by simpa using hv))
    rw [List.take_zero, List.nil_append, Array.toArray_toList] at ksc
    have B2 : Below W.heap.size W ((W.alloc (.cells (nums .u8 (zeros 32)) 23)).setRow W.heap.size (nums .u8 x.1)) := below_only B1 (Only.setRow _ _ _) (Nat.le_refl _)
    gi_wp2
    rename_i K2 hK2
    erw [ksc]
    simp only [Result.andThen_ok, Oper.uponIn_skip]
    refine hK2 _ _ ?_
    gi_wp2
    have hBB := hB.trans (B2.mono hB.size)
    refine hK _ _ ⟨B2.size, fun k o _ hk ho => (B2.block k (Array.getElem?_eq_some_iff.1 hk).1).trans hk⟩ ⟨B2.cell (p := ⟨c, 0, none⟩) (by show c < W.heap.size; have := hB.size; omega), fun _ => .inl rfl⟩ ⟨(B2.block _ hX.lt).trans hX, hBB⟩ trivial
  case body =>
    rintro l pre x a' W hl ⟨r, hr⟩ ⟨hX, hB⟩ _ hlt
    exact absurd hlt (Nat.not_lt_zero _)
  case done =>
    rintro D ys W hD hdn ⟨hX, hB⟩ hK
    have hvc := hX.cell
    gi_wp2
    refine ⟨by simp, .inl ⟨_, _, rfl, run_takeDeferred hK, ?_⟩⟩
    refine ⟨_, results_tmp rfl _ _ _, rfl, hB.trans (belowK_b (w := w) (Nat.le_refl _) W D _ _ (by omega) hK rfl rfl)⟩
  case stop =>
    rintro D c pre W _ _ h _
    exact h.elim
end Go.Proofs.YtbmcmabimfoknaaGreatDoor

/- The root of an empty list of numbers. -/
namespace Go.Proofs.YtbmcmabimfoknaaGreatDoor
open Go.RowKit
set_option linter.unusedVariables false
set_option maxRecDepth 100000

set_option maxHeartbeats 1000000 in
theorem collect_nil (c cap : Nat) (ao : Option Addr) (w : World) (hm : cap ≤ maxLen) (hc : w.cell? ⟨c, 0, none⟩ = some (.slice ao 0 cap)) :
    Calls Tryz.prog 104 #[.func (.func 115) #[] #[.pointer (some ⟨c, 0, none⟩)]] w fun e w' => e = .returned (.slice none 0 0) ∧ Below w.heap.size w w' := by
  have HC := hid (callsIn_wide.1 (appSeq_nil c cap ao w hm hc))
  clear hm hc
  go_enter Tryz.func104, Tryz.ntmps104
  go_wp2_with fail
  refine HC.out.mono ?_
  rintro e w1 ⟨rfl, B1⟩
  go_wp2
  go_ret
  exact ⟨rfl, B1⟩
set_option maxHeartbeats 1000000 in
theorem chunksR_nil (w : World) : Calls Tryz.prog 91 #[.slice none 0 0] w fun e w' => e = .returned (.slice none 0 0) ∧ Below w.heap.size w w' := by
  have HC := hid (chunks_any none 0 [] w (fun _ => rfl) (Nat.le_refl _) (by decide) (.inl rfl))
  go_enter Tryz.func91, Tryz.ntmps91
  go_wp2_with fail
  refine HC.out.mono ?_
  rintro e w1 ⟨c, v, hc, rfl, hv, ⟨ao, cap, rfl, h1, h2, _⟩, B1⟩
  have HD := hid (collect_nil c cap ao w1 h2 hv)
  clear HC hv h1 h2
  go_wp2_with fail
  refine HD.out.mono ?_
  rintro e w2 ⟨rfl, B2⟩
  go_wp2
  go_ret
  exact ⟨rfl, B1.trans (B2.mono B1.size)⟩
set_option maxHeartbeats 1000000 in
theorem packed_nil (w : World) : Calls Tryz.prog 62 #[.slice none 0 0] w fun e w' => e = .returned (.slice none 0 0) ∧ Below w.heap.size w w' := by
  have HC := hid (chunksR_nil w)
  go_enter Tryz.func62, Tryz.ntmps62
  go_wp2_with fail
  go_loopw [3, 5, 8] (fun b _ i wr => b = .slice none 0 0 ∧ i = .int .i64 0 ∧ wr = w) (fun _ _ _ _ => 0)
  case atStart => exact ⟨rfl, rfl, rfl⟩
  case round =>
    obtain ⟨rfl, rfl, rfl⟩ := hrel
    go_wp2_with fail
    refine HC.out.mono ?_
    rintro e w2 ⟨rfl, B2⟩
    go_wp2
    go_ret
    exact ⟨rfl, B2⟩
set_option maxHeartbeats 1000000 in
theorem numbers_nil (w : World) (hT : Tabs w) : Calls Tryz.prog 17 #[.slice none 0 0] w fun e w' => e = .returned (.agg (nums .u8 (pr (fullR (depth 8) []) (wUp 0 8)))) ∧ Below w.heap.size w w' := by
  have hfr : Rt (fullR (depth 8) []) := full_rt _ _ Rts.nil
  have hpr := pr_rt (fullR (depth 8) []) (wUp 0 8)
  have HP := hid packed_nil
  have HTr := hid (fun w (hT : Tabs w) => tre_any none 0 [] 8 w hT (Nat.le_refl _) (by decide) (by decide) (RootsAt.nil w none) (by decide) (by decide))
  have HM := hid (fun w (hT : Tabs w) => mix_any' (fullR (depth 8) []) 0 hfr (by decide) w hT)
  generalize pr (fullR (depth 8) []) (wUp 0 8) = Z at *
  generalize fullR (depth 8) [] = W at *
  go_enter Tryz.func17, Tryz.ntmps17
  go_wp2_with ((with_reducible refine at_list' ?_); first
    | (refine wpList_alloc_has rfl 2 rfl 23 rfl .u8 32 Tryz.zero23 ?_; intro w1 H1 B1 S1))
  refine (HP.out w1).mono ?_
  rintro e w2 ⟨rfl, B2⟩
  have L2 := hid (below_more B1 B2 (Nat.le_refl _))
  have H2 := H1.keep B2
  clear H1 B1 S1 B2
  go_wp2_with fail
  refine (HTr.out w2 (hT.keep L2.out)).mono ?_
  rintro e w3 ⟨rfl, B3⟩
  have L3 := hid (below_more L2.out B3 (Nat.le_refl _))
  have H3 := H2.keep B3
  clear H2 L2 B3
  go_wp2_with fail
  refine (HM.out w3 (hT.keep L3.out)).mono ?_
  rintro e w4 ⟨rfl, B4⟩
  have L4 := hid (below_more L3.out B4 (Nat.le_refl _))
  have H4 := H3.keep B4
  clear H3 L3 B4
  go_wp2_with ((with_reducible refine at_list' ?_); first
    | (refine wpList_store_has rfl 23 (.tmp 2) (.tmp 9) rfl w.heap.size .u8 Z (zeros 32) rfl rfl 23 H4 (hpr.size _ Tryz.size23) (by rw [hpr.len, zeros_length]) ?_; intro w5 H5 O5))
  refine bodyPost_ret (results_has rfl _ _ w.heap.size 23 .u8 Z _ _ rfl H5 Tryz.und23 (hpr.size _ Tryz.size23)) rfl ?_
  exact ⟨rfl, below_only L4.out O5 (Nat.le_refl _)⟩
end Go.Proofs.YtbmcmabimfoknaaGreatDoor

