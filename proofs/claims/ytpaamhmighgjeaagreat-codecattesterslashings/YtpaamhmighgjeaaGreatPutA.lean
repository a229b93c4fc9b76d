/- Attestations put: codec.Attestation. -/
import Derived.Test.YtpaamhmighgjeaaGreatPutV
import Derived.Test.YtpaamhmighgjeaaGreatBits
import Derived.Test.YtpaamhmighgjeaaGreatBitsP
namespace Go.Proofs.YtpaamhmighgjeaaGreat
open Go.RowKit Go.Shelf
set_option linter.unusedVariables false
set_option maxRecDepth 100000

theorem vtC_length {sl ix : Nat} {b : List Nat} {es : Nat} {rs : List Nat} {et : Nat} {rt : List Nat} (hb : b.length = 32) (hrs : rs.length = 32) (hrt : rt.length = 32) : (vtC sl ix b es rs et rt).length = 100 := by
  simp [vtC, cellsB_length, hb, cpC_length _ hrs, cpC_length _ hrt]
theorem Tryz.ty29 : Ty Tryz.prog 29 (vtC 0 0 (zeros 32) 0 (zeros 32) 0 (zeros 32)) := ⟨by kernel_rfl, _, Tryz.underlying29, rfl⟩

set_option maxHeartbeats 1000000 in
/-- codec.Attestation: its cells are the bits' slice, a Vote's cells, a root. -/
theorem attestation_any (ao : Option Addr) (bl cap : Nat) (bits : List Bool) (sl ix : Nat) (b : List Nat) (es : Nat) (rs : List Nat) (et : Nat) (rt : List Nat) (sig : List Nat) (w : World) (hT : IsT w (.slice ao bl cap) bits) (hbl : bits.length ≤ 1099511627) (h1 : sl < 18446744073709551616) (h2 : ix < 18446744073709551616) (hb : b.length = 32) (hb8 : ∀ z ∈ b, z < 256)
    (hes : es < 18446744073709551616) (hrs : rs.length = 32) (hrs8 : ∀ z ∈ rs, z < 256) (het : et < 18446744073709551616) (hrt : rt.length = 32) (hrt8 : ∀ z ∈ rt, z < 256) (hsg : sig.length = 32) (hsg8 : ∀ z ∈ sig, z < 256) :
    Calls Tryz.prog 17 #[.agg ([Value.slice ao bl cap] ++ (vtC sl ix b es rs et rt ++ (cellsB sig ++ []))).toArray] w fun x w' => ∃ v, x = .returned v ∧ Row w' w.heap.size v (cont ([(putB bits true, true)] ++ (vtF sl ix b es rs et rt ++ rootF [sig]))) ∧ Below w.heap.size w w' := by
  have HT := hid hT
  have HBB := hid (And.intro hb hb8)
  have HRS := hid (And.intro hrs hrs8)
  have HRT := hid (And.intro hrt hrt8)
  have HSG := hid (And.intro hsg hsg8)
  have HE : Hid (([Value.slice ao bl cap] ++ (vtC sl ix b es rs et rt ++ (cellsB sig ++ [])) : List Value) = ([Value.slice ao bl cap] ++ vtC sl ix b es rs et rt) ++ (cellsB sig ++ [])) := hid (by simp)
  obtain ⟨C, hC⟩ : ∃ C : List Value, [Value.slice ao bl cap] ++ (vtC sl ix b es rs et rt ++ (cellsB sig ++ [])) = C := ⟨_, rfl⟩
  have HC0 : Hid (C[0]? = some (.slice ao bl cap)) := hid (by rw [← hC]; rfl)
  have HC1 : Hid (∀ (j : Nat) v, (vtC sl ix b es rs et rt)[j]? = some v → C[1 + j]? = some v) := hid (fun j v hv => by rw [← hC]; exact get_mid rfl hv)
  have HC2 : Hid (∀ (j : Nat) v, (cellsB sig)[j]? = some v → C[101 + j]? = some v) := hid (fun j v hv => by rw [← hC, HE.out]; exact get_mid (by simp [vtC_length hb hrs hrt]) hv)
  rw [hC]
  clear hC HE hT hb hb8 hrs hrs8 hrt hrt8 hsg hsg8
  go_enter Tryz.func17, Tryz.ntmps17
  go_wp2_with (first
    | (refine wpList_box_c rfl 1 rfl (.tmp 0) rfl C rfl ?_; intro w1 H1 B1 S1; have hc0 := ((H1.keep ((Below.refl _ w1).alloc (Nat.le_refl _) (.cells #[.int .i64 0, .pointer none] 84))).cell (j := 0) HC0.out)))
  have W1 := wr_new w1
  have B2 : Below w1.heap.size w1 (w1.alloc (.cells #[.int .i64 0, .pointer none] 84)) := (Below.refl _ w1).alloc (Nat.le_refl _) _
  have S2 := World.size_alloc w1 (.cells #[.int .i64 0, .pointer none] 84)
  rw [S1] at W1
  have X2 := hid (H1.keep B2)
  generalize w1.alloc (.cells #[.int .i64 0, .pointer none] 84) = w2 at W1 B2 S2 X2 hc0 ⊢
  have B12 := hid (B1.trans (B2.mono (by omega)))
  have s2 : w2.heap.size = w.heap.size + 2 := by omega
  have HP := hid (putBits_any _ bits true w2 (HT.out.keep B12.out) (by omega))
  have HW := hid W1
  clear B1 B2 S1 S2 H1 W1 hc0 HT
  refine HP.out.mono ?_
  rintro x w3 ⟨v3, rfl, q1, q2⟩
  have I3 := q1.isB (putB_byte bits true)
  have s3 := q2.size
  have B13 := hid (B12.out.trans (q2.mono (by omega)))
  have X3 := hid (X2.out.keep q2)
  have HQ := hid (part_wr (w.heap.size + 1) _ [] v3 (putB bits true) w3 (HW.out.below q2) I3 (by simp) (by rw [putB_length]; simp; omega))
  clear q1 q2 I3 HP HW X2 B12
  go_wp2_with fail
  refine HQ.out.mono ?_
  rintro x w4 ⟨⟨u4, rfl⟩, q1, q2⟩
  have s4 := q2.size
  have X4 := hid (X3.out.grown q2 (by omega))
  have W4 := hid q1
  have B4 : Hid (Below w.heap.size w w4) := hid ⟨q2.os.trans B13.out.os, q2.tape.trans B13.out.tape, q2.output.trans B13.out.output, by omega, fun j hj => (q2.block j (by omega) (fun h => by have := Option.some.inj h; omega)).trans (B13.out.block j hj)⟩
  clear q1 q2 HQ X3 B13
  go_wp2_with (first
    | (refine wpList_load_mid rfl 29 (.tmp 8) rfl w.heap.size 1 (by exact rfl) (vtC sl ix b es rs et rt) _ (X4.out.range 1 _ HC1.out) Tryz.underlying29 rfl (by rw [vtC_length HBB.out.1 HRS.out.1 HRT.out.1]; exact Tryz.ty29.size) ?_))
  have HQ := hid (putVt_any (w.heap.size + 1) _ _ sl ix b es rs et rt w4 W4.out (by simp) h1 h2 HBB.out.1 HBB.out.2 hes HRS.out.1 HRS.out.2 het HRT.out.1 HRT.out.2)
  refine HQ.out.mono ?_
  rintro x w5 ⟨⟨u5, rfl⟩, q1, q2⟩
  have s5 := q2.size
  have X5 := hid (X4.out.grown q2 (by omega))
  have W5 := hid q1
  have B5 : Hid (Below w.heap.size w w5) := hid ⟨q2.os.trans B4.out.os, q2.tape.trans B4.out.tape, q2.output.trans B4.out.output, by omega, fun j hj => (q2.block j (by omega) (fun h => by have := Option.some.inj h; omega)).trans (B4.out.block j hj)⟩
  clear q1 q2 HQ X4 W4 B4
  go_wp2_with (first
    | (refine wpList_load_mid rfl 25 (.tmp 11) rfl w.heap.size 101 (by exact rfl) (cellsB sig) _ (X5.out.range 101 _ HC2.out) Tryz.und25 rfl (by rw [cellsB_length, HSG.out.1]; exact Tryz.size25) ?_)
    | (refine wpList_roots rfl 121 25 1 _ rfl Tryz.underlying121 Tryz.rootInfo [sig] [.tmp 12] rfl rfl (by simpa using HSG.out.1) rfl (by omega) (by omega) ?_; intro w6 H6 B6 S6))
  have HQ := hid (roots_wr (w.heap.size + 1) _ _ [sig] w5.heap.size 0 1 w6 (W5.out.below B6) (by omega) (by simp [vtF, numF, rootF, cpF]) (by simpa using HSG.out.1) (by simpa using HSG.out.2) (H6.rsAt (by simpa using HSG.out.1)) (by simp))
  have B56 := hid (B5.out.trans (B6.mono (by omega)))
  have s6 := B6.size
  clear H6 B6 S6 W5 X5
  refine HQ.out.mono ?_
  rintro x w7 ⟨⟨u7, rfl⟩, q1, q2⟩
  have s7 := q2.size
  have B7 : Hid (Below w.heap.size w w7) := hid ⟨q2.os.trans B56.out.os, q2.tape.trans B56.out.tape, q2.output.trans B56.out.output, by omega, fun j hj => (q2.block j (by omega) (fun h => by have := Option.some.inj h; omega)).trans (B56.out.block j hj)⟩
  have HY := hid (bytes_any (w.heap.size + 1) _ _ w7 q1 (by simp [vtF, numF, rootF, cpF]) (by simp [vtF, numF, rootF, cpF, lenF, le_length, putB_length, HBB.out.1, HRS.out.1, HRT.out.1, HSG.out.1]; omega))
  clear q1 q2 HQ B56 B5
  go_wp2_with fail
  refine HY.out.mono ?_
  rintro x w8 ⟨v, rfl, q1, q2⟩
  have X := hid (And.intro q1 q2)
  clear q1 q2
  go_wp2
  go_ret
  refine ⟨v, rfl, ?_, B7.out.trans (X.out.2.mono (by omega))⟩
  have := X.out.1.base (b' := w.heap.size) (by omega)
  simp only [List.append_assoc, List.nil_append] at this
  exact this
end Go.Proofs.YtpaamhmighgjeaaGreat
