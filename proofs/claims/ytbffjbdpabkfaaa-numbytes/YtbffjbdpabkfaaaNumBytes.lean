/- For every number n, every size and all bytes b, keystonelaw01.NumBytes answers true: Put and Take of package num are the document's, and Take of Put of eight bytes gives the number back; no condition. -/
import Derived.Test.YtbffjbdpabkfaaaRows
import Derived.Test.YtbffjbdpabkfaaaJoin
import Derived.WalkKit
import Derived.ProofKit
import Derived.OpenShut
import Derived.ShutString
import Derived.ChangeOld
import Derived.Below
namespace Go.Proofs.Ytbffjbdpabkfaaa.numBytes
open Go.ChangeShapes Go.WideShapes Go.ChangeAt Go.RowKit
open Go.ChangeMaps (open_string shut_string)
set_option linter.unusedVariables false

theorem own : ownKnob Try.prog.godebug = none := by kernel_rfl
theorem laidOut : laidOutB Try.prog = true := by kernel_rfl

/-- WHAT THE WALK IS TOLD OF A SLICE OF INTEGERS THAT CAME IN: it is nil; or it leads to a row of 'cap' cells, the numbers 'zs' (the first 'len' are its elements, the rest its spare room), each fitting its kind. -/
def IsRow (k : IntKind) (w : World) (a : Option Addr) (len cap : Nat) (zs : List Int) : Prop :=
  (a = none ∧ len = 0 ∧ cap = 0 ∧ zs = []) ∨
  ∃ x, a = some x ∧ len ≤ cap ∧ cap ≤ maxLen ∧ zs.length = cap ∧ (∀ i, i < zs.length → w.cell? (x.add i) = some (.int k (zs.getD i 0))) ∧ ∀ n ∈ zs, (Lit.int k n).wf = true

/-- What came in, as the contracts ask for it. -/
theorem reads_row {w : World} {a : Option Addr} {len cap : Nat} {zs : List Int} (h : IsRow .u8 w a len cap zs) : ReadsBytes w a len (zs.take len) ∧ (a = none → len = 0 ∧ cap = 0) ∧ len ≤ maxLen := by
  rcases h with ⟨rfl, rfl, rfl, rfl⟩ | ⟨x, rfl, hl, hm, hz, hc, hwf⟩
  · exact ⟨⟨rfl, by simp, .inl rfl⟩, fun _ => ⟨rfl, rfl⟩, by decide⟩
  · refine ⟨⟨by rw [List.length_take]; omega, fun z hz' => ?_, ?_⟩, by simp, by omega⟩
    · have := bounds_u8 (hwf z (List.mem_of_mem_take hz'))
      omega
    · by_cases h0 : len = 0
      · exact .inl h0
      · obtain ⟨b, off, rfl, hc'⟩ := ints_at hc (by omega)
        refine .inr ⟨b, off, rfl, fun i hi => ?_⟩
        rw [hc' i (by omega), List.getD_eq_getElem?_getD, List.getD_eq_getElem?_getD, List.getElem?_take, if_pos hi]

theorem bel_own {w W W' : World} {cs : Array Value} {e n c : Nat} (h : Below w.heap.size w W) (hg : (W.alloc (.cells cs e)).grownBy W' (Value.slice (some ⟨W.heap.size, 0, none⟩) n c).ownBlock) : Below w.heap.size w W' := by
  have hs := h.size
  refine (bel_alloc h _).grown hg (by simp; omega) fun k hk => ?_
  simp only [Value.ownBlock, Option.some.injEq] at hk
  omega

set_option maxHeartbeats 4000000 in
theorem walk (a0 : Int) (a1 : Int) (a2 : Option Addr) (len2 cap2 : Nat) (z2 : List Int) (w : World) (w0 : (Lit.int .u64 a0).wf = true) (w1 : (Lit.int .i64 a1).wf = true) (w2 : IsRow .u8 w a2 len2 cap2 z2) :
    Calls Try.prog 5 #[.int .u64 a0, .int .i64 a1, .slice a2 len2 cap2] w fun e w' => e = .returned (.bool true) ∧ Below w.heap.size w w' := by
  obtain ⟨n, rfl⟩ := Int.eq_ofNat_of_zero_le (bounds_u64 w0).1
  have hn : n < 18446744073709551616 := by have := (bounds_u64 w0).2; omega
  obtain ⟨hz, hnil, hml⟩ := reads_row w2
  generalize z2.take len2 = zs at *
  unfold maxLen at hml
  have hs1 : a1.tmod 40 ≤ 2147483647 := by have := Int.tmod_lt_of_pos a1 (show (0 : Int) < 40 by omega); omega
  have HZ : Hid _ := hz
  have HN : Hid _ := hnil
  clear w0 w1 w2 hz hnil
  by_cases hlen : 1000 < len2
  · go_enter Try.func5, Try.ntmps5
    go_wp2_with fail
    refine (awake_any w).mono ?_
    rintro e w1 ⟨rfl, hbel⟩
    go_wp2
    go_ret
    exact ⟨rfl, hbel⟩
  · go_enter Try.func5, Try.ntmps5
    go_wp2_with fail
    refine (awake_any w).mono ?_
    rintro e w1 ⟨rfl, hbel⟩
    have hread := reads_below HZ.out hbel
    go_wp2_with fail
    have hr8 := putL_range n 8
    have ht8 := takeV_put8 n hn
    have HR : Hid _ := hread
    have HB : Hid _ := hbel
    have H8 : Hid _ := hr8
    have HT8 : Hid _ := ht8
    clear hread hr8 ht8
    have hS1 := hbel.drew
    go_region_law (first
        | (refine step_append_bytes (.tmp 24) (.tmp 25) (by rfl) (by rfl) _ _ (World.ownsRow_lit w3 #[] 0 (Nat.le_refl _) (by decide) rfl) (by simp) (by rfl) a2 len2 cap2 zs (by rfl) (reads_below HZ.out (bel_alloc hS3 _)) HN.out (by omega) ?_; intro v4 w4 hown4 hg4; have hS4 := bel_own hS3 hg4; clear hg4)
        | (go_simp; go_at_call_of 20 (Value.int IntKind.i64 8); refine (put_8 n hn _).mono ?_; rintro e w5 ⟨v5, rfl, hown5, hb5⟩; have hS5 := bel_call hS4 hb5; clear hown4 hb5)
        | (go_simp; go_at_call 20; refine (put_int n _ hn hs1 _).mono ?_; rintro e w2 ⟨v2, rfl, hown2, hb2⟩; have hS2 := bel_call hS1 hb2; have hcv2 := conv_own hown2)
        | (go_simp; go_at_call 21; refine (refPut_any n _ hn hs1 _).mono ?_; rintro e w3 ⟨v3, rfl, hown3, hb3⟩; have hS3 := bel_call hS2 hb3; have hcv3 := conv_own hown3; have hcv2b := conv_own (own_below hown2 hb3))
        | (go_simp; go_at_call 23; refine (refTake_any _ _ _ zs _ (by unfold maxLen; omega) (reads_below HZ.out hS4)).mono ?_; rintro e w6 ⟨rfl, rfl⟩)
        | (go_simp; go_at_call 22; refine (take_own hown4 HZ.out.2.1).mono ?_; rintro e w6 ⟨rfl, rfl⟩)
        | (go_simp; go_at_call 22; refine (take_own hown5 H8.out).mono ?_; rintro e w6 ⟨rfl, rfl⟩; rw [HT8.out]))
    all_goals
      go_wp2
      go_ret
      exact ⟨rfl, hS5⟩

set_option maxRecDepth 100000 in
theorem lifted (os : Os) (started : os.Started) (H : Type) (enc : TypeId × Value → H) :
    ReturnsInHanded {} Try.checked os 5 .any (Rows.numBytesSpec.pre6 enc Try.prog Try.f5 Rows.numBytesRow.domain false) (Rows.numBytesSpec.post enc Try.prog Try.f5 false true false false) := by
  refine returnsInHanded_of_change (C := Try.checked) own started (by kernel_rfl) Try.func5
    (ChangeSpec.witness6 (enc := enc) (C := Try.checked) false ⟨#[], #[.int .u64 0, .int .i64 0, .slice none 0 0], []⟩ 8 (by kernel_rfl) (by kernel_rfl) (by kernel_rfl) (by kernel_rfl)) ?_
  intro W base args ds gs before hval0 hW hcnd _
  have hval : ∀ (j : Nat) t v, Try.f5.params[j]? = some t → args[j]? = some v → Value.okWide Try.prog W .any base t v := hval0
  have hW' := hW
  obtain ⟨p, q, hA0, hV, rfl, hfz, hnd⟩ := hW
  have hA : DataW.TrodAll enc Try.prog W 0 (fun _ => true) true Try.f5.params.toList args.toList ds p := hA0
  rw [Try.params5] at hA hval
  obtain ⟨v0, vs0, d0, ds0, p0, q0, hargs, rfl, rfl, h0, r0⟩ := trodAll_cons hA
  obtain ⟨v1, vs1, d1, ds1, p1, q1, rfl, rfl, rfl, h1, r1⟩ := trodAll_cons r0
  obtain ⟨v2, vs2, d2, ds2, p2, q2, rfl, rfl, rfl, h2, r2⟩ := trodAll_cons r1
  obtain ⟨rfl, rfl, rfl⟩ := trodAll_nil r2
  obtain rfl : args = #[v0, v1, v2] := by cases args; simp_all
  obtain ⟨rfl, rfl⟩ := trodVars_none hV
  obtain ⟨a0, rfl, rfl, rfl, w0⟩ := open_int Try.underlying22 (hval 0 22 v0 rfl rfl) h0
  obtain ⟨a1, rfl, rfl, rfl, w1⟩ := open_int Try.underlying3 (hval 1 3 v1 rfl rfl) h1
  obtain ⟨a2, len2, cap2, rfl⟩ := okWide_slice Try.underlying32 (hval 2 32 v2 rfl rfl)
  have k2 := h2
  have lt2 : ∀ x ∈ p2, x.block < W.heap.size := by obtain ⟨m, hm⟩ := k2; exact DataW.trod_lt m _ _ _ hm
  obtain ⟨z2, w2⟩ : ∃ zs, IsRow .u8 W a2 len2 cap2 zs := by
    obtain ⟨fuel, hf⟩ := h2
    rcases open_ints Try.underlying32 Try.underlying5 (by kernel_rfl) hf with ⟨hcs, _⟩ | ⟨x, l, c, zs, hcs, _, hl, hm, hz, _, hcell, hwz⟩
    · simp [Value.cells] at hcs
      obtain ⟨rfl, rfl, rfl⟩ := hcs
      exact ⟨[], .inl ⟨rfl, rfl, rfl, rfl⟩⟩
    · simp [Value.cells] at hcs
      obtain ⟨rfl, rfl, rfl⟩ := hcs
      exact ⟨zs, .inr ⟨_, rfl, hl, hm, by simpa using hz, hcell, hwz⟩⟩
  clear hA0 hval0
  refine (walk a0 a1 a2 len2 cap2 z2 W w0 w1 w2).mono fun e W' ⟨he, bel⟩ => ?_
  subst he
  exact ⟨_, rfl, _, _, _, [], _, [], hW', trodAll_mk1 (shut_bool Try.underlying4 _), (trodAll_cons_mk (shut_int Try.underlying22 w0) (trodAll_cons_mk (shut_int Try.underlying3 w1) (trodAll_cons_mk (Below.trod laidOut (by kernel_rfl) (of_decide_eq_true (by kernel_rfl)) k2 bel lt2) trodAll_mk0))), rfl, bel.frame _, fun h => by cases h⟩

theorem over : Rows.numBytesRow.holds Try.pinned (OpenSpec.ofChange Rows.numBytesSpec) :=
  OpenClaim.holds_of_wide 5 Try.f5 rfl rfl rfl rfl rfl rfl rfl ⟨rfl, rfl, rfl, rfl, rfl⟩ rfl rfl rfl rfl rfl (by kernel_rfl) Try.func5 (by kernel_rfl)
    (of_decide_eq_true (by kernel_rfl)) (by unfold Func.isWrapper; first | (rw [if_pos (by decide +kernel)]; kernel_rfl) | (rw [if_neg (by decide +kernel)]; exact ⟨rfl, rfl⟩))
    (fun os started H enc _ => lifted os started H enc)

end Go.Proofs.Ytbffjbdpabkfaaa.numBytes
namespace Go.Proofs.Ytbffjbdpabkfaaa
theorem numBytes_holds : Rows.NumBytesSaid := numBytes.over
#print axioms numBytes_holds
end Go.Proofs.Ytbffjbdpabkfaaa
