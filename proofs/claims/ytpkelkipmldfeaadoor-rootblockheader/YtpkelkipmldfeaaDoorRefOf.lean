/- Contract of the document's digest of bytes. -/
import Derived.Test.YtpkelkipmldfeaaDoorTail
namespace Go.Proofs.YtpkelkipmldfeaaDoor
set_option maxRecDepth 100000
open Go.RowKit
set_option linter.unusedVariables false

theorem Tryd.zero23 : (Tryd.prog.info? 23).map (fun i => (i.zero, i.size)) = some (some (.agg (nums .u8 (zeros 32))), 32) := by kernel_rfl
theorem Tryd.size23 : (Tryd.prog.info? 23).map (·.size) = some 32 := by kernel_rfl

theorem or_four (a b c d : Nat) (ha : a < 256) (hb : b < 256) (hc : c < 256) (hd : d < 256) :
    bits .or .u32 (bits .or .u32 (bits .or .u32 ((a : Int) * 16777216) ((b : Int) * 65536)) ((c : Int) * 256)) (d : Int) = ((((a * 256 + b) * 256 + c) * 256 + d : Nat) : Int) := by
  have e1 : (a : Int) * 16777216 = ((a * 16777216 : Nat) : Int) := by simp
  have e2 : (b : Int) * 65536 = ((b * 65536 : Nat) : Int) := by simp
  have e3 : (c : Int) * 256 = ((c * 256 : Nat) : Int) := by simp
  rw [e1, e2, e3, u32_or_nat _ _ (by omega) (by omega), nat_join 24 (a * 16777216) (b * 65536) (by omega) (by omega), u32_or_nat _ _ (by omega) (by omega),
    nat_join 16 (a * 16777216 + b * 65536) (c * 256) (by omega) (by omega), u32_or_nat _ _ (by omega) (by omega), nat_join 8 _ d (by omega) (by omega)]
  have e4 : a * 16777216 + b * 65536 + c * 256 + d = ((a * 256 + b) * 256 + c) * 256 + d := by omega
  rw [e4]
theorem sched_walk (p x r y : Nat) (hx : x < 4294967296) (hy : y < 4294967296) :
    ((p : Int) + bits .xor .u32 (bits .xor .u32 (rr 7 x : Nat) (rr 18 x : Nat)) ((x : Int) / 8) + (r : Int) + bits .xor .u32 (bits .xor .u32 (rr 17 y : Nat) (rr 19 y : Nat)) ((y : Int) / 1024)) % 4294967296 = (((p + sg0 x + r + sg1 y) % 4294967296 : Nat) : Int) := by
  rw [sg0_walk x hx, sg1_walk y hy]; simp
theorem mix_eight (a b c d e f g h a' b' c' d' e' f' g' h' : Nat) :
    addUp [a, b, c, d, e, f, g, h] [a', b', c', d', e', f', g', h'] 8 = [(a + a') % 4294967296, (b + b') % 4294967296, (c + c') % 4294967296, (d + d') % 4294967296, (e + e') % 4294967296, (f + f') % 4294967296, (g + g') % 4294967296, (h + h') % 4294967296] := by
  simp [addUp]
theorem sum_mod (x y : Nat) : ((x : Int) + (y : Int)) % 4294967296 = (((x + y) % 4294967296 : Nat) : Int) := by simp

end Go.Proofs.YtpkelkipmldfeaaDoor
