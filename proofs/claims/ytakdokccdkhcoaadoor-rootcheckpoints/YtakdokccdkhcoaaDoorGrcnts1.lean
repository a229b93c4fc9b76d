/- Own texts of the proof, joined: Sha Right Mem Words Mix Ending Of RefA. -/
import Derived.Test.YtakdokccdkhcoaaDoorRows
import Derived.WalkKit
import Derived.WalkLawsBesides
import Derived.Laws.BitsAllLaws
import Derived.Deep.QuietTactic
import Derived.BigQuiet
import Derived.Laws.Rows
import Derived.Laws.Tables
import Derived.Laws.CopyRow
import Derived.Laws.IdiomCopy
import Derived.Deep.RegionLaw
import Derived.Deep.RegionWith
/- The plain mathematics of SHA-256, as the document says it: words below 2^32, blocks of 64 bytes. -/

namespace Go.Proofs.YtakdokccdkhcoaaDoor

/-- So many zeros. -/
def zeros (n : Nat) : List Nat := List.replicate n 0
theorem zeros_length (n : Nat) : (zeros n).length = n := by unfold zeros; exact List.length_replicate
theorem zeros_getD (n i : Nat) : (zeros n).getD i 0 = 0 := by
  unfold zeros
  rw [List.getD_eq_getElem?_getD, List.getElem?_replicate]
  split <;> rfl

/-- x turned right by n bits (a word of 32 bits). -/
def rr (n x : Nat) : Nat := (x / 2 ^ n) ||| (x * 2 ^ (32 - n) % 4294967296)
theorem rr_lt (n x : Nat) (h : x < 4294967296) : rr n x < 4294967296 := by
  unfold rr
  exact Nat.or_lt_two_pow (n := 32) (Nat.lt_of_le_of_lt (Nat.div_le_self _ _) h) (Nat.mod_lt _ (by decide))
def sg0 (x : Nat) : Nat := rr 7 x ^^^ rr 18 x ^^^ x / 8
def sg1 (x : Nat) : Nat := rr 17 x ^^^ rr 19 x ^^^ x / 1024
theorem sg0_lt (x : Nat) (h : x < 4294967296) : sg0 x < 4294967296 := by
  unfold sg0
  exact Nat.xor_lt_two_pow (n := 32) (Nat.xor_lt_two_pow (n := 32) (rr_lt _ _ h) (rr_lt _ _ h)) (by omega)
theorem sg1_lt (x : Nat) (h : x < 4294967296) : sg1 x < 4294967296 := by
  unfold sg1
  exact Nat.xor_lt_two_pow (n := 32) (Nat.xor_lt_two_pow (n := 32) (rr_lt _ _ h) (rr_lt _ _ h)) (by omega)
def tOne (e f g h k w : Nat) : Nat := (h + (rr 6 e ^^^ rr 11 e ^^^ rr 25 e) + ((e &&& f) ^^^ ((4294967295 - e) &&& g)) + k + w) % 4294967296
def tTwo (a b c : Nat) : Nat := ((rr 2 a ^^^ rr 13 a ^^^ rr 22 a) + ((a &&& b) ^^^ (a &&& c) ^^^ (b &&& c))) % 4294967296

/-- The first j bytes of the word t of a block, the highest first. -/
def wpart (zs : List Nat) (t : Nat) : Nat → Nat
  | 0 => 0
  | j + 1 => wpart zs t j * 256 + zs.getD (4 * t + j) 0
/-- The word t, out of those ahead of it. -/
def nextW (l : List Nat) (t : Nat) : Nat := (l.getD (t - 16) 0 + sg0 (l.getD (t - 15) 0) + l.getD (t - 7) 0 + sg1 (l.getD (t - 2) 0)) % 4294967296
/-- The row of 64 words behind t steps. -/
def fill (zs : List Nat) : Nat → List Nat
  | 0 => zeros 64
  | t + 1 => (fill zs t).set t (if t < 16 then wpart zs t 4 else nextW (fill zs t) t)
theorem fill_length (zs : List Nat) (t : Nat) : (fill zs t).length = 64 := by
  induction t with
  | zero => simp only [fill, zeros_length]
  | succ t ih => simp [fill, ih]
theorem getD_set (l : List Nat) (i j v : Nat) : (l.set i v).getD j 0 = if i = j ∧ j < l.length then v else l.getD j 0 := by
  by_cases h : i = j
  · subst h
    by_cases h2 : i < l.length
    · simp [h2]
    · simp [h2]
  · simp [h]
theorem fill_zero (zs : List Nat) (t i : Nat) (h : t ≤ i) : (fill zs t).getD i 0 = 0 := by
  induction t with
  | zero => simp only [fill]; exact zeros_getD 64 i
  | succ t ih =>
    simp only [fill]
    rw [getD_set, if_neg (by omega)]
    exact ih (by omega)
theorem bytes_getD (zs : List Nat) (h : ∀ z ∈ zs, z < 256) (i : Nat) : zs.getD i 0 < 256 := by
  by_cases hi : i < zs.length
  · simp [hi]; exact h _ (List.getElem_mem hi)
  · simp [hi]
theorem wpart_lt (zs : List Nat) (h : ∀ z ∈ zs, z < 256) (t j : Nat) : wpart zs t j < 256 ^ j := by
  induction j with
  | zero => simp [wpart]
  | succ j ih =>
    have := bytes_getD zs h (4 * t + j)
    rw [wpart, Nat.pow_succ]; omega
theorem fill_lt (zs : List Nat) (h : ∀ z ∈ zs, z < 256) (t i : Nat) : (fill zs t).getD i 0 < 4294967296 := by
  induction t generalizing i with
  | zero => simp only [fill]; rw [zeros_getD]; decide
  | succ t ih =>
    simp only [fill]
    rw [getD_set]
    split
    · split
      · have := wpart_lt zs h t 4; omega
      · exact Nat.mod_lt _ (by decide)
    · exact ih i
theorem set_same (l : List Nat) (i : Nat) (h : l.getD i 0 = 0) : l.set i 0 = l := by
  apply List.ext_getElem?
  intro j
  rw [List.getElem?_set]
  split
  · rename_i e; subst e
    split
    · rename_i e2; simp [e2] at h ⊢; exact h.symm
    · rename_i e2; simp [e2]
  · rfl
theorem fill_start (zs : List Nat) (t : Nat) : (fill zs t).set t (wpart zs t 0) = fill zs t := set_same _ _ (fill_zero zs t t (Nat.le_refl _))
theorem fill_word (zs : List Nat) (t : Nat) (h : t < 16) : (fill zs t).set t (wpart zs t 4) = fill zs (t + 1) := by simp [fill, h]
theorem fill_next (zs : List Nat) (t : Nat) (h : ¬ t < 16) : (fill zs t).set t (nextW (fill zs t) t) = fill zs (t + 1) := by simp [fill, h]

/-- The numbers of the rounds, and those with which the registers begin. -/
def kNums : List Nat := [1116352408, 1899447441, 3049323471, 3921009573, 961987163, 1508970993, 2453635748, 2870763221, 3624381080, 310598401, 607225278, 1426881987, 1925078388, 2162078206, 2614888103, 3248222580, 3835390401, 4022224774, 264347078, 604807628, 770255983, 1249150122, 1555081692, 1996064986, 2554220882, 2821834349, 2952996808, 3210313671, 3336571891, 3584528711, 113926993, 338241895, 666307205, 773529912, 1294757372, 1396182291, 1695183700, 1986661051, 2177026350, 2456956037, 2730485921, 2820302411, 3259730800, 3345764771, 3516065817, 3600352804, 4094571909, 275423344, 430227734, 506948616, 659060556, 883997877, 958139571, 1322822218, 1537002063, 1747873779, 1955562222, 2024104815, 2227730452, 2361852424, 2428436474, 2756734187, 3204031479, 3329325298]
def startNums : List Nat := [1779033703, 3144134277, 1013904242, 2773480762, 1359893119, 2600822924, 528734635, 1541459225]
/-- One round. -/
def rnd (s : List Nat) (k w : Nat) : List Nat := match s with
  | [a, b, c, d, e, f, g, h] => [(tOne e f g h k w + tTwo a b c) % 4294967296, a, b, c, (d + tOne e f g h k w) % 4294967296, e, f, g]
  | _ => []
def rnds (hs ws : List Nat) : Nat → List Nat
  | 0 => hs
  | t + 1 => rnd (rnds hs ws t) (kNums.getD t 0) (ws.getD t 0)
/-- The registers with the letters added, the first i of them. -/
def addUp (hs rs : List Nat) : Nat → List Nat
  | 0 => hs
  | i + 1 => (addUp hs rs i).set i ((hs.getD i 0 + rs.getD i 0) % 4294967296)
/-- One block. -/
def mixL (hs zs : List Nat) : List Nat := addUp hs (rnds hs (fill zs 64) 64) 8
theorem eight (l : List Nat) (h : l.length = 8) : ∃ a b c d e f g i, l = [a, b, c, d, e, f, g, i] := by
  match l, h with
  | [a, b, c, d, e, f, g, i], _ => exact ⟨a, b, c, d, e, f, g, i, rfl⟩
/-- Eight words. -/
def Reg (l : List Nat) : Prop := l.length = 8 ∧ ∀ x ∈ l, x < 4294967296
theorem rnd_reg (s : List Nat) (k w : Nat) (h : Reg s) : Reg (rnd s k w) := by
  obtain ⟨a, b, c, d, e, f, g, i, rfl⟩ := eight s h.1
  have h2 := h.2
  simp at h2
  refine ⟨rfl, fun x hx => ?_⟩
  simp only [rnd, List.mem_cons, List.not_mem_nil, or_false] at hx
  rcases hx with rfl | rfl | rfl | rfl | rfl | rfl | rfl | rfl
  all_goals omega
theorem rnds_reg (hs ws : List Nat) (h : Reg hs) (t : Nat) : Reg (rnds hs ws t) := by
  induction t with
  | zero => exact h
  | succ t ih => exact rnd_reg _ _ _ ih
theorem addUp_length (hs rs : List Nat) (i : Nat) : (addUp hs rs i).length = hs.length := by
  induction i with
  | zero => rfl
  | succ i ih => simp [addUp, ih]
theorem addUp_old (hs rs : List Nat) (i j : Nat) (h : i ≤ j) : (addUp hs rs i).getD j 0 = hs.getD j 0 := by
  induction i with
  | zero => rfl
  | succ i ih =>
    rw [addUp, getD_set, if_neg (by omega)]
    exact ih (by omega)
theorem addUp_reg (hs rs : List Nat) (h : Reg hs) (i : Nat) : Reg (addUp hs rs i) := by
  induction i with
  | zero => exact h
  | succ i ih =>
    refine ⟨by rw [addUp_length]; exact h.1, fun x hx => ?_⟩
    rw [addUp] at hx
    rcases List.mem_or_eq_of_mem_set hx with hx | rfl
    · exact ih.2 x hx
    · omega
theorem mixL_reg (hs zs : List Nat) (h : Reg hs) : Reg (mixL hs zs) := addUp_reg _ _ h 8
theorem kNums_lt (i : Nat) : kNums.getD i 0 < 4294967296 := by
  by_cases h : i < 64
  · have : ∀ j, j < 64 → kNums.getD j 0 < 4294967296 := by decide +kernel
    exact this i h
  · have e : kNums[i]? = none := List.getElem?_eq_none (by show 64 ≤ i; omega)
    rw [List.getD_eq_getElem?_getD, e]; decide
theorem start_reg : Reg startNums := by unfold Reg startNums; decide
/-- cs laid over l from a place on. -/
def over (l : List Nat) (off : Nat) (cs : List Nat) : List Nat := l.take off ++ (cs ++ l.drop (off + cs.length))
theorem over_length (l : List Nat) (off : Nat) (cs : List Nat) (h : off + cs.length ≤ l.length) : (over l off cs).length = l.length := by simp [over]; omega

/-- The bytes of v, the lowest at the end of l's first n, the first k of them. -/
def beUp (l : List Nat) (n v : Nat) : Nat → List Nat
  | 0 => l
  | k + 1 => (beUp l n v k).set (n - 1 - k) (v / 256 ^ k % 256)
/-- zs, the mark, zeros, and v in eight bytes: n bytes in all. -/
def pad (zs : List Nat) (n v : Nat) : List Nat := beUp ((over (zeros n) 0 zs).set zs.length 128) n v 8
theorem beUp_length (l : List Nat) (n v k : Nat) : (beUp l n v k).length = l.length := by
  induction k with
  | zero => rfl
  | succ k ih => simp [beUp, ih]
theorem pad_length (zs : List Nat) (n v : Nat) (h : zs.length ≤ n) : (pad zs n v).length = n := by
  rw [pad, beUp_length, List.length_set, over_length _ _ _ (by rw [zeros_length]; omega), zeros_length]
/-- A word's bytes, the highest first: the first i of 32. -/
def joinUp (hs : List Nat) : Nat → List Nat
  | 0 => zeros 32
  | i + 1 => (joinUp hs i).set i (hs.getD (i / 4) 0 / 2 ^ (24 - 8 * (i % 4)) % 256)
theorem joinUp_length (hs : List Nat) (i : Nat) : (joinUp hs i).length = 32 := by
  induction i with
  | zero => exact zeros_length 32
  | succ i ih => simp [joinUp, ih]
theorem reg_getD (hs : List Nat) (h : Reg hs) (i : Nat) : hs.getD i 0 < 4294967296 := by
  by_cases hi : i < hs.length
  · simp [hi]; exact h.2 _ (List.getElem_mem hi)
  · simp [hi]
/-- A block of 64 bytes; so many blocks taken in; the digest. -/
def blk (m : List Nat) (j : Nat) : List Nat := (m.drop (64 * j)).take 64
def absorb (hs m : List Nat) : Nat → List Nat
  | 0 => hs
  | j + 1 => mixL (absorb hs m j) (blk m j)
def padTo (n : Nat) : Nat := (n + 72) / 64 * 64
def sha (zs : List Nat) : List Nat := joinUp (absorb startNums (pad zs (padTo zs.length) (8 * zs.length)) (padTo zs.length / 64)) 32
theorem absorb_reg (hs m : List Nat) (h : Reg hs) (j : Nat) : Reg (absorb hs m j) := by
  induction j with
  | zero => exact h
  | succ j ih => exact mixL_reg _ _ ih
theorem sha_length (zs : List Nat) : (sha zs).length = 32 := joinUp_length _ _
theorem over_getD (l : List Nat) (cs : List Nat) (i : Nat) : (over l 0 cs).getD i 0 = if i < cs.length then cs.getD i 0 else l.getD i 0 := by
  unfold over
  simp only [List.take_zero, List.nil_append, Nat.zero_add, List.getD_eq_getElem?_getD]
  split
  · rename_i hi; rw [List.getElem?_append_left hi]
  · rename_i hi; rw [List.getElem?_append_right (by omega), List.getElem?_drop]; congr 2; omega
theorem beUp_getD (l : List Nat) (n v k i : Nat) (hk : k ≤ n) (hn : n ≤ l.length) : (beUp l n v k).getD i 0 = if n - k ≤ i ∧ i < n then v / 256 ^ (n - 1 - i) % 256 else l.getD i 0 := by
  induction k with
  | zero => rw [if_neg (by omega)]; rfl
  | succ k ih =>
    rw [beUp, getD_set, beUp_length, ih (by omega)]
    by_cases h : n - 1 - k = i
    · rw [if_pos ⟨h, by omega⟩, if_pos ⟨by omega, by omega⟩]
      have : n - 1 - i = k := by omega
      rw [this]
    · rw [if_neg (by omega)]
      by_cases h2 : n - k ≤ i ∧ i < n
      · rw [if_pos h2, if_pos ⟨by omega, h2.2⟩]
      · rw [if_neg h2, if_neg (by omega)]
theorem pad_getD (zs : List Nat) (n v i : Nat) (h : zs.length + 9 ≤ n) : (pad zs n v).getD i 0 = if n - 8 ≤ i ∧ i < n then v / 256 ^ (n - 1 - i) % 256 else if i = zs.length then 128 else zs.getD i 0 := by
  have hl : (over (zeros n) 0 zs).length = n := by rw [over_length _ _ _ (by rw [zeros_length]; omega), zeros_length]
  rw [pad, beUp_getD _ _ _ _ _ (by omega) (by rw [List.length_set, hl]; exact Nat.le_refl _), getD_set, hl, over_getD, zeros_getD]
  split
  · rfl
  · by_cases h1 : i = zs.length
    · rw [if_pos ⟨h1.symm, by omega⟩, if_pos h1]
    · rw [if_neg (by omega), if_neg h1]
      split
      · rfl
      · rename_i h2
        rw [List.getD_eq_getElem?_getD, List.getElem?_eq_none (by omega)]; rfl
theorem ext_getD (l m : List Nat) (hl : l.length = m.length) (h : ∀ i, i < l.length → l.getD i 0 = m.getD i 0) : l = m := by
  apply List.ext_getElem hl
  intro i h1 h2
  have := h i h1
  simpa [h1, h2] using this
theorem drop_getD (l : List Nat) (d i : Nat) : (l.drop d).getD i 0 = l.getD (d + i) 0 := by
  simp [List.getD_eq_getElem?_getD, List.getElem?_drop]
theorem take_getD (l : List Nat) (d i : Nat) (h : i < d) : (l.take d).getD i 0 = l.getD i 0 := by
  simp [List.getD_eq_getElem?_getD, h]
/-- Whole blocks at the front are as they were. -/
theorem pad_blk (zs : List Nat) (n v j : Nat) (h : zs.length + 9 ≤ n) (hj : 64 * j + 64 ≤ zs.length) : blk (pad zs n v) j = blk zs j := by
  have hp := pad_length zs n v (by omega)
  apply ext_getD
  · simp only [blk, List.length_take, List.length_drop, hp]; omega
  · intro i hi
    simp only [blk, List.length_take, List.length_drop, hp] at hi
    rw [blk, blk, take_getD _ _ _ (by omega), take_getD _ _ _ (by omega), drop_getD, drop_getD, pad_getD zs n v _ h, if_neg (by omega), if_neg (by omega)]
/-- What is behind them is padded by itself. -/
theorem pad_drop (zs : List Nat) (n v d : Nat) (h : zs.length + 9 ≤ n) (hd : d ≤ zs.length) : (pad zs n v).drop d = pad (zs.drop d) (n - d) v := by
  have hp := pad_length zs n v (by omega)
  have hq := pad_length (zs.drop d) (n - d) v (by simp; omega)
  apply ext_getD
  · rw [List.length_drop, hp, hq]
  · intro i hi
    rw [List.length_drop, hp] at hi
    rw [drop_getD, pad_getD zs n v _ h, pad_getD (zs.drop d) (n - d) v i (by simp; omega), List.length_drop, drop_getD]
    by_cases h1 : n - 8 ≤ d + i
    · rw [if_pos ⟨h1, by omega⟩, if_pos ⟨by omega, by omega⟩]
      have : n - 1 - (d + i) = n - d - 1 - i := by omega
      rw [this]
    · rw [if_neg (show ¬ (n - 8 ≤ d + i ∧ d + i < n) by omega), if_neg (show ¬ (n - d - 8 ≤ i ∧ i < n - d) by omega)]
      by_cases h2 : d + i = zs.length
      · rw [if_pos h2, if_pos (by omega)]
      · rw [if_neg h2, if_neg (by omega)]
theorem absorb_congr (hs m m' : List Nat) (n : Nat) (h : ∀ j, j < n → blk m j = blk m' j) : absorb hs m n = absorb hs m' n := by
  induction n with
  | zero => rfl
  | succ n ih => rw [absorb, absorb, ih (fun j hj => h j (by omega)), h n (by omega)]
theorem absorb_add (hs m : List Nat) (q e : Nat) : absorb hs m (q + e) = absorb (absorb hs m q) (m.drop (64 * q)) e := by
  induction e with
  | zero => rfl
  | succ e ih =>
    rw [← Nat.add_assoc, absorb, absorb, ih]
    congr 1
    simp only [blk, List.drop_drop]
    congr 2; omega
/-- How the program goes about it: the whole blocks, then what is left, padded by itself. -/
theorem sha_parts (zs : List Nat) (q : Nat) (hq : q = zs.length / 64) (n : Nat) (hn : n = if zs.length - 64 * q + 9 ≤ 64 then 64 else 128) :
    sha zs = joinUp (absorb (absorb startNums zs q) (pad (zs.drop (64 * q)) n (8 * zs.length)) (n / 64)) 32 := by
  have h64 : 64 * (zs.length / 64) ≤ zs.length := Nat.mul_div_le _ _
  have h65 : zs.length < 64 * (zs.length / 64) + 64 := by omega
  subst hq
  have hM : padTo zs.length = 64 * (zs.length / 64) + n := by
    unfold padTo
    split at hn <;> omega
  have hN : padTo zs.length / 64 = zs.length / 64 + n / 64 := by
    rw [hM]
    split at hn <;> omega
  have h9 : zs.length + 9 ≤ padTo zs.length := by rw [hM]; split at hn <;> omega
  rw [sha, hN, absorb_add, pad_drop zs _ _ _ h9 h64, absorb_congr startNums (pad zs (padTo zs.length) (8 * zs.length)) zs _ (fun j hj => pad_blk zs _ _ j h9 (by omega))]
  congr 4
  omega
theorem mem_getD (l : List Nat) (z : Nat) (h : z ∈ l) : ∃ i, i < l.length ∧ l.getD i 0 = z := by
  obtain ⟨i, hi, e⟩ := List.mem_iff_getElem.1 h
  exact ⟨i, hi, by simp [hi, e]⟩
theorem over_bytes (l : List Nat) (cs : List Nat) (h : ∀ z ∈ l, z < 256) (h2 : ∀ z ∈ cs, z < 256) (off : Nat) : ∀ z ∈ over l off cs, z < 256 := by
  intro z hz
  simp only [over, List.mem_append] at hz
  rcases hz with hz | hz | hz
  · exact h z (List.mem_of_mem_take hz)
  · exact h2 z hz
  · exact h z (List.mem_of_mem_drop hz)
theorem set_bytes (l : List Nat) (i v : Nat) (h : ∀ z ∈ l, z < 256) (hv : v < 256) : ∀ z ∈ l.set i v, z < 256 := by
  intro z hz
  rcases List.mem_or_eq_of_mem_set hz with hz | rfl
  · exact h z hz
  · exact hv
theorem beUp_bytes (l : List Nat) (n v k : Nat) (h : ∀ z ∈ l, z < 256) : ∀ z ∈ beUp l n v k, z < 256 := by
  induction k with
  | zero => exact h
  | succ k ih => exact set_bytes _ _ _ ih (Nat.mod_lt _ (by decide))
theorem zeros_bytes (n : Nat) : ∀ z ∈ zeros n, z < 256 := by
  intro z hz
  obtain ⟨i, _, e⟩ := mem_getD _ _ hz
  rw [zeros_getD] at e; omega
theorem pad_bytes (zs : List Nat) (n v : Nat) (h : ∀ z ∈ zs, z < 256) : ∀ z ∈ pad zs n v, z < 256 :=
  beUp_bytes _ _ _ _ (set_bytes _ _ _ (over_bytes _ _ (zeros_bytes n) h 0) (by decide))
theorem blk_length (m : List Nat) (j : Nat) (h : 64 * j + 64 ≤ m.length) : (blk m j).length = 64 := by simp [blk]; omega
theorem blk_getD (m : List Nat) (j i : Nat) (h : i < 64) : (blk m j).getD i 0 = m.getD (64 * j + i) 0 := by rw [blk, take_getD _ _ _ h, drop_getD]
theorem blk_mem (m : List Nat) (j : Nat) (h : ∀ z ∈ m, z < 256) : ∀ z ∈ blk m j, z < 256 := fun z hz => h z (List.mem_of_mem_drop (List.mem_of_mem_take hz))
end Go.Proofs.YtakdokccdkhcoaaDoor

/- Contracts of the turns by bits: the program's and the document's. -/
namespace Go.Proofs.YtakdokccdkhcoaaDoor
open Go.RowKit
set_option linter.unusedVariables false

theorem turn_mask (n : Int) (h0 : 0 < n) (h1 : n < 32) : bits .and .u64 (IntKind.u64.wrap (-n)) 31 = 32 - n := by
  have e : IntKind.u64.wrap (-n) = 18446744073709551616 - n := by
    simp [IntKind.wrap, IntKind.bits, IntKind.signed]; omega
  rw [e, u64_and _ _ (by omega) (by omega) (by omega) (by omega), show (31 : Int).toNat = 31 from rfl, nat_mask5]
  omega
theorem turn_or (x : Nat) (n : Int) (h0 : 0 < n) (h1 : n < 32) (hx : x < 4294967296) :
    bits .or .u32 ((x : Int) * 2 ^ (32 - n).toNat % 4294967296) ((x : Int) / 2 ^ n.toNat) = (rr n.toNat x : Nat) := by
  obtain ⟨m, rfl⟩ := Int.eq_ofNat_of_zero_le (Int.le_of_lt h0)
  have e : ((32 : Int) - (m : Int)).toNat = 32 - m := by omega
  rw [e, Int.toNat_natCast]
  have e1 : (x : Int) * 2 ^ (32 - m) % 4294967296 = ((x * 2 ^ (32 - m) % 4294967296 : Nat) : Int) := by simp
  have e2 : (x : Int) / 2 ^ m = ((x / 2 ^ m : Nat) : Int) := by simp
  rw [e1, e2, u32_or_nat _ _ (Nat.mod_lt _ (by decide)) (Nat.lt_of_le_of_lt (Nat.div_le_self _ _) hx)]
  unfold rr
  rw [Nat.or_comm]
theorem turn_or' (x : Nat) (n : Int) (h0 : 0 < n) (h1 : n < 32) (hx : x < 4294967296) :
    bits .or .u32 ((x : Int) / 2 ^ n.toNat) ((x : Int) * 2 ^ (32 - n).toNat % 4294967296) = (rr n.toNat x : Nat) := by
  obtain ⟨m, rfl⟩ := Int.eq_ofNat_of_zero_le (Int.le_of_lt h0)
  have e : ((32 : Int) - (m : Int)).toNat = 32 - m := by omega
  rw [e, Int.toNat_natCast]
  have e1 : (x : Int) * 2 ^ (32 - m) % 4294967296 = ((x * 2 ^ (32 - m) % 4294967296 : Nat) : Int) := by simp
  have e2 : (x : Int) / 2 ^ m = ((x / 2 ^ m : Nat) : Int) := by simp
  rw [e1, e2, u32_or_nat _ _ (Nat.lt_of_le_of_lt (Nat.div_le_self _ _) hx) (Nat.mod_lt _ (by decide))]
  rfl
theorem ret_int {k : IntKind} {a b : Int} (h : a = b) : Ending.returned (.int k a) = .returned (.int k b) := by rw [h]

set_option maxHeartbeats 400000 in
theorem rot_any (x : Nat) (n : Int) (h0 : 0 < n) (h1 : n < 32) (hx : x < 4294967296) (w : World) :
    Calls Tryd.prog 72 #[.int .u32 x, .int .i64 (-n)] w fun e w' => e = .returned (.int .u32 (rr n.toNat x : Nat)) ∧ w' = w := by
  have hm := turn_mask n h0 h1
  have HT : Hid _ := turn_or x n h0 h1 hx
  go_enter Tryd.func72, Tryd.ntmps72
  go_wp2
  go_ret
  refine ⟨ret_int ?_, rfl⟩
  rw [← HT.out]
  have : (32 - (32 - n)).toNat = n.toNat := by omega
  rw [this]

set_option maxHeartbeats 400000 in
theorem right_any (x : Nat) (n : Int) (h0 : 0 < n) (h1 : n < 32) (hx : x < 4294967296) (w : World) :
    Calls Tryd.prog 64 #[.int .u32 x, .int .i64 n] w fun e w' => e = .returned (.int .u32 (rr n.toNat x : Nat)) ∧ w' = w := by
  go_enter Tryd.func64, Tryd.ntmps64
  go_wp2_with fail
  refine (rot_any x n h0 h1 hx _).mono ?_
  rintro e w' ⟨rfl, rfl⟩
  go_wp2
  go_ret
  exact ⟨rfl, rfl⟩

set_option maxHeartbeats 400000 in
theorem rright_any (x : Nat) (n : Int) (h0 : 0 < n) (h1 : n < 32) (hx : x < 4294967296) (w : World) :
    Calls Tryd.prog 74 #[.int .u32 x, .int .i64 n] w fun e w' => e = .returned (.int .u32 (rr n.toNat x : Nat)) ∧ ∃ m, w' = w.drewN m := by
  have HT : Hid _ := turn_or' x n h0 h1 hx
  go_enter Tryd.func74, Tryd.ntmps74
  go_wp2
  go_quiet (fail)
  go_wp2
  go_ret
  exact ⟨ret_int HT.out, _, rfl⟩
end Go.Proofs.YtakdokccdkhcoaaDoor

/- Rows of numbers in memory: what a local array holds, and what a step of the program does to it. -/
namespace Go.Proofs.YtakdokccdkhcoaaDoor
open Go.RowKit
set_option linter.unusedVariables false

/-- Numbers of one kind, as cells. -/
def nums (k : IntKind) (l : List Nat) : Array Value := (l.map fun n : Nat => Value.int k (n : Int)).toArray
theorem nums_size (k : IntKind) (l : List Nat) : (nums k l).size = l.length := by simp [nums]
theorem nums_one (k : IntKind) (l : List Nat) : (nums k l).all (·.oneCell') = true := by simp [nums, Value.oneCell']
theorem nums_get (k : IntKind) (l : List Nat) (i : Nat) (h : i < l.length) : (nums k l)[i]? = some (.int k (l.getD i 0 : Nat)) := by
  simp [nums, h]
theorem nums_set (k : IntKind) (l : List Nat) (i n : Nat) : (nums k l).setIfInBounds i (.int k (n : Nat)) = nums k (l.set i n) := by
  simp [nums, List.map_set]
theorem nums_inj (k : IntKind) (l m : List Nat) (h : nums k l = nums k m) : l = m := by
  have := congrArg Array.toList h
  simp only [nums] at this
  clear h
  induction l generalizing m with
  | nil => cases m <;> simp_all
  | cons x l ih =>
    cases m with
    | nil => simp at this
    | cons y m =>
      simp only [List.map_cons, List.cons.injEq, Value.int.injEq, true_and] at this
      rw [ih m this.2, Int.ofNat_inj.1 this.1]

/-- The block b of the world w holds just these numbers. -/
def Has (w : World) (b : Nat) (t : TypeId) (k : IntKind) (l : List Nat) : Prop := w.heap[b]? = some (.cells (nums k l) t (0, 0))

/-- Nothing but the block g may have turned. -/
structure Only (g : Nat) (w w' : World) : Prop where
  os : w'.os = w.os
  tape : w'.tape = w.tape
  output : w'.output = w.output
  size : w'.heap.size = w.heap.size
  block : ∀ k, k ≠ g → w'.heap[k]? = w.heap[k]?

theorem Only.setCell (w : World) (g i : Nat) (v : Value) : Only g w (w.setCell ⟨g, i, none⟩ v) :=
  ⟨rfl, rfl, rfl, by simp [World.setCell], fun k hk => heap_setCell_other w ⟨g, i, none⟩ k v hk⟩
theorem Only.setRow (w : World) (g : Nat) (c : Array Value) : Only g w (w.setRow g c) :=
  ⟨rfl, rfl, rfl, by simp, fun k hk => setRow_other w g k c hk⟩
theorem Only.trans {g : Nat} {a b c : World} (h : Only g a b) (k : Only g b c) : Only g a c :=
  ⟨k.os.trans h.os, k.tape.trans h.tape, k.output.trans h.output, k.size.trans h.size, fun i hi => (k.block i hi).trans (h.block i hi)⟩
theorem below_only {B g : Nat} {a w w' : World} (h : Below B a w) (ho : Only g w w') (hg : B ≤ g) : Below B a w' :=
  h.trans ⟨ho.os, ho.tape, ho.output, by rw [ho.size]; exact Nat.le_refl _, fun k hk => ho.block k (by omega)⟩
theorem below_drewN {B : Nat} {a w : World} (h : Below B a w) (n : Nat) : Below B a (w.drewN n) :=
  h.trans ⟨rfl, rfl, rfl, Nat.le_refl _, fun _ _ => rfl⟩
theorem below_more {B : Nat} {a w w' : World} (h : Below B a w) (k : Below w.heap.size w w') (hB : B ≤ a.heap.size) : Below B a w' :=
  h.trans (k.mono (Nat.le_trans hB h.size))

theorem Has.lt {w : World} {b : Nat} {t : TypeId} {k : IntKind} {l : List Nat} (h : Has w b t k l) : b < w.heap.size := (Array.getElem?_eq_some_iff.1 h).1
theorem Has.cell {w : World} {b : Nat} {t : TypeId} {k : IntKind} {l : List Nat} (h : Has w b t k l) (i : Nat) (hi : i < l.length) : w.cell? ⟨b, i, none⟩ = some (.int k (l.getD i 0 : Nat)) := by
  rw [cell_of_row w b i _ t (0, 0) h]; exact nums_get k l i hi
theorem Has.frozen {w : World} {b : Nat} {t : TypeId} {k : IntKind} {l : List Nat} (h : Has w b t k l) (i : Nat) : w.frozen? ⟨b, i, none⟩ = false := frozen_of_row w b i _ t h
theorem Has.set {w : World} {b : Nat} {t : TypeId} {k : IntKind} {l : List Nat} (h : Has w b t k l) (i n : Nat) : Has (w.setCell ⟨b, i, none⟩ (.int k (n : Nat))) b t k (l.set i n) := by
  unfold Has; rw [heap_setCell_same w b i _ t _ h, nums_set]
theorem Has.keep {w w' : World} {b : Nat} {t : TypeId} {k : IntKind} {l : List Nat} (h : Has w b t k l) (hb : Below w.heap.size w w') : Has w' b t k l := by
  unfold Has; rw [hb.block b h.lt]; exact h
theorem Has.only {w w' : World} {b g : Nat} {t : TypeId} {k : IntKind} {l : List Nat} (h : Has w b t k l) (ho : Only g w w') (hg : b ≠ g) : Has w' b t k l := by
  unfold Has; rw [ho.block b hg]; exact h
theorem Has.drewN {w : World} {b : Nat} {t : TypeId} {k : IntKind} {l : List Nat} (h : Has w b t k l) (n : Nat) : Has (w.drewN n) b t k l := h
theorem Has.drew {w : World} {b : Nat} {t : TypeId} {k : IntKind} {l : List Nat} (h : Has w b t k l) : Has w.drew b t k l := h
theorem Has.back {w : World} {b n : Nat} {t : TypeId} {k : IntKind} {l : List Nat} (h : Has (w.drewN n) b t k l) : Has w b t k l := h

section
variable {P : Program} {w : World} {ops : Array Oper} {rest : List Oper} {o : Oper} {a : Act} {Q : Exit → Act → World → Prop}

/-- A new array, all zeros. -/
theorem wpList_alloc_has (hgd : o.guard = none) (d : Tmp) (hdst : o.dst = some d) (t : TypeId) (ho : o.op = .alloc t) (k : IntKind) (n : Nat)
    (hz : (P.info? t).map (fun i => (i.zero, i.size)) = some (some (.agg (nums k (zeros n))), n))
    (h : ∀ w', Has w' w.heap.size t k (zeros n) → Below w.heap.size w w' → w'.heap.size = w.heap.size + 1 → wpList P ops Q rest (a.put (some d) (.pointer (some ⟨w.heap.size, 0, none⟩))) w') :
    wpList P ops Q (o :: rest) a w := by
  refine wpList_plain hgd fun K hK => ?_
  have hzv : ∀ w, (zeroValue t).run P w = .ok (.agg (nums k (zeros n))) w := by
    intro w
    cases hq : P.info? t with
    | none => simp [hq] at hz
    | some i => simp [hq] at hz; simp [zeroValue, typeInfo, hq, hz.1]
  have := h (w.alloc (.cells (nums k (zeros n)) t)) (heap_alloc_new w _) ((Below.refl _ _).alloc (Nat.le_refl _) _) (by simp)
  unfold Oper.wp
  simp only [execOp, ho, Instr.alloc]
  simp [hzv, newVar, newRow, newObj, Value.cells, go_sem]
  rw [← hdst] at this
  exact hK _ _ this

/-- A copy of an array that came by value. -/
theorem wpList_box_has (hgd : o.guard = none) (d : Tmp) (hdst : o.dst = some d) (t : TypeId) (x : Operand) (ho : o.op = .box t x) (k : IntKind) (l : List Nat) (hx : a.eval x = .agg (nums k l))
    (h : ∀ w', Has w' w.heap.size t k l → Below w.heap.size w w' → w'.heap.size = w.heap.size + 1 → wpList P ops Q rest (a.put (some d) (.pointer (some ⟨w.heap.size, 0, none⟩))) w') :
    wpList P ops Q (o :: rest) a w := by
  refine wpList_plain hgd fun K hK => ?_
  have := h (w.alloc (.cells (nums k l) t)) (heap_alloc_new w _) ((Below.refl _ _).alloc (Nat.le_refl _) _) (by simp)
  unfold Oper.wp
  simp only [execOp, ho, hx, Instr.box]
  simp [newVar, newRow, newObj, Value.cells, go_sem]
  rw [← hdst] at this
  exact hK _ _ this

/-- A whole array stored over another. -/
theorem wpList_store_has (hgd : o.guard = none) (ty : TypeId) (x y : Operand) (ho : o.op = .store ty x y) (g : Nat) (k : IntKind) (l old : List Nat) (hx : a.eval x = .pointer (some ⟨g, 0, none⟩)) (hy : a.eval y = .agg (nums k l))
    (t : TypeId) (hg : Has w g t k old) (hi : (P.info? ty).map (·.size) = some l.length) (hl : old.length = l.length)
    (h : ∀ w', Has w' g t k l → Only g w w' → wpList P ops Q rest (a.put o.dst undef) w') : wpList P ops Q (o :: rest) a w := by
  refine wpList_store_row hgd ty x y ho g (nums k l) hx hy t (nums k old) hg (by rw [hi, nums_size]) (by rw [nums_size, nums_size, hl]) (nums_one k l) ?_
  exact h _ (setRow_heap w g _ _ t _ hg) (Only.setRow w g _)

/-- A whole array read. -/
theorem wpList_load_has (hgd : o.guard = none) (ty : TypeId) (x : Operand) (ho : o.op = .load ty x) (g : Nat) (k : IntKind) (l : List Nat) (hx : a.eval x = .pointer (some ⟨g, 0, none⟩))
    (t : TypeId) (hg : Has w g t k l) (n : Nat) (e : TypeId) (hu : P.underlying ty = some (.array n e)) (hi : (P.info? ty).map (·.size) = some l.length)
    (h : wpList P ops Q rest (a.put o.dst (.agg (nums k l))) w) : wpList P ops Q (o :: rest) a w :=
  wpList_load_row hgd ty x ho g hx t (nums k l) (0, 0) _ hg hu rfl (by rw [hi, nums_size]) h

/-- make: a new row of zeros. -/
theorem wpList_make_has (hgd : o.guard = none) (l c : Operand) (t : TypeId) (ho : o.op = Op.makeSlice t l c) (e : TypeId) (k : IntKind) (h1 : P.underlying t = some (.slice e))
    (hz : (P.info? e).map (fun i => (i.zero, i.size, i.bytes)) = some (some (.int k 0), 1, 1)) (kl kc : IntKind) (L C : Int) (n : Nat) (hl : a.eval l = .int kl L) (hc : a.eval c = .int kc C) (hL : L = (n : Int)) (hC : C = (n : Int)) (b2 : n ≤ 281474976710656)
    (h : ∀ w', Has w' w.heap.size e k (zeros n) → Below w.heap.size w w' → wpList P ops Q rest (a.put o.dst (.slice (some ⟨w.heap.size, 0, none⟩) n n)) w') : wpList P ops Q (o :: rest) a w := by
  obtain ⟨i0, hi, hz0, hz1, hz2⟩ : ∃ i, P.info? e = some i ∧ i.zero = some (.int k 0) ∧ i.size = 1 ∧ i.bytes = 1 := by
    cases hq : P.info? e with
    | none => simp [hq] at hz
    | some i => simp [hq] at hz; exact ⟨i, rfl, hz.1, hz.2.1, hz.2.2⟩
  refine wpList_make_full w hgd l c t ho w.heap.size e i0 (.int k 0) 1 h1 hi hz0 hz1 kl kc L C n hl hc hL hC (by rw [hz2]; omega) (by unfold maxLen; omega) (Nat.le_refl _) fun w' hown hgrow => ?_
  refine h w' ?_ ((Below.refl _ _).grown hgrow (Nat.le_refl _) (by simp))
  obtain ⟨hlen, ⟨hv, _⟩ | ⟨g, cap, cur, hv, hb, hg, hnc, hm, hcs, htk⟩⟩ := hown
  · cases hv
  · simp only [Value.slice.injEq, Option.some.injEq, Addr.mk.injEq] at hv
    obtain ⟨⟨hv1, _, _⟩, hv2, hv3⟩ := hv
    subst hv1
    subst hv3
    rw [Nat.mul_one, List.take_of_length_le (by simp [hcs])] at htk
    have e : (madeCells (Value.int k 0).cells n).toList = (zeros n).map fun x : Nat => Value.int k (x : Int) := by
      rw [show (Value.int k 0).cells = #[.int k 0] from rfl, toList_madeCells_one]
      unfold zeros
      rw [List.map_replicate]; rfl
    unfold Has
    rw [hg]
    have : cur = nums k (zeros n) := by
      apply Array.toList_inj.1
      rw [htk, e]
      simp [nums]
    rw [this]

/-- A whole array read, of which the cells alone are known. -/
theorem wpList_load_cells (hgd : o.guard = none) (ty : TypeId) (x : Operand) (ho : o.op = .load ty x) (g : Nat) (k : IntKind) (l : List Nat) (hx : a.eval x = .pointer (some ⟨g, 0, none⟩))
    (hc : ∀ i, i < l.length → w.cell? ⟨g, i, none⟩ = some (.int k (l.getD i 0 : Nat))) (n : Nat) (e : TypeId) (hu : P.underlying ty = some (.array n e)) (hi : (P.info? ty).map (·.size) = some l.length)
    (h : wpList P ops Q rest (a.put o.dst (.agg (nums k l))) w) : wpList P ops Q (o :: rest) a w := by
  refine wpList_plain hgd fun K hK => ?_
  have hl : (loadCells ⟨g, 0, none⟩ (nums k l).toList.length).run P w = .ok (nums k l).toList.toArray w :=
    run_loadCells_list (P := P) w ⟨g, 0, none⟩ (nums k l).toList (fun j v hv => by
      have hj : j < l.length := by
        by_cases hj : j < l.length
        · exact hj
        · rw [List.getElem?_eq_none (by simp [nums]; omega)] at hv; cases hv
      rw [Addr.add_lit, Nat.zero_add, hc j hj, ← nums_get k l j hj]
      simpa using hv)
  have hrun : (loadVar ty ⟨g, 0, none⟩).run P w = .ok (.agg (nums k l)) w := by
    cases hq : P.info? ty with
    | none => simp [hq] at hi
    | some i =>
      have hs : i.size = (nums k l).size := by rw [nums_size]; simpa [hq] using hi
      have hagg : (isAgg ty).run P w = .ok true w := by
        unfold isAgg
        rw [Sem.run_bind, run_underlying hu w]
        simp
      simp only [Array.length_toList, Array.toArray_toList] at hl
      simp [loadVar, Sem.run_bind, hagg, sizeOf, typeInfo, hq, hs, hl]
  unfold Oper.wp execOp
  simp only [ho, hx, Instr.loadAt, Instr.sureAddr, Sem.run_bind, Sem.run_pure, Result.andThen_ok, hrun]
  exact hK _ _ h

theorem run_copy_has (dT sT ty elem : TypeId) (hu : P.underlying dT = some (.slice elem)) (hsz : (P.info? elem).map (·.size) = some 1)
    (dp sp : Option Addr) (dLen dCap sLen sCap : Nat) (g off : Nat) (k : IntKind) (l : List Nat) (t : TypeId) (hg : Has w g t k l) (cs : List Nat) (hn : cs.length = Nat.min sLen dLen)
    (hpos : 0 < cs.length → dp = some ⟨g, off, none⟩ ∧ ∃ ad, sp = some ad ∧ ∀ j, j < cs.length → w.cell? (ad.add j) = some (.int k (cs.getD j 0 : Nat))) (hfit : off + cs.length ≤ l.length) :
    ∃ w', (Builtin.copy_ #[dT, sT] ty #[.slice dp dLen dCap, .slice sp sLen sCap]).run P w = .ok (goInt cs.length) w' ∧ Has w' g t k (over l off cs) ∧ Only g w w' := by
  by_cases h0 : cs.length = 0
  · obtain rfl : cs = [] := List.eq_nil_of_length_eq_zero h0
    exact ⟨w, run_copy_none (P := P) w dT sT ty elem dp sp dLen dCap sLen sCap hu hsz (by simpa using hn.symm), by simpa [over] using hg, ⟨rfl, rfl, rfl, rfl, fun _ _ => rfl⟩⟩
  · obtain ⟨rfl, ad, rfl, hsrc⟩ := hpos (by omega)
    have hrun := run_copy_row (P := P) w dT sT ty elem g off dLen dCap ad sLen sCap (nums k l) t (cs.map fun n : Nat => Value.int k (n : Int)) hu hsz hg (by simpa using hn) (fun j v hv => by
      have hj : j < cs.length := by
        by_cases hj : j < cs.length
        · exact hj
        · simp [hj] at hv
      rw [hsrc j hj]; simpa [hj] using hv) (by rw [nums_size]; simpa using hfit) (fun v hv => by simp at hv; obtain ⟨n, _, rfl⟩ := hv; rfl)
    have e : ((nums k l).toList.take off ++ ((cs.map fun n : Nat => Value.int k (n : Int)) ++ (nums k l).toList.drop (off + (cs.map fun n : Nat => Value.int k (n : Int)).length))).toArray = nums k (over l off cs) := by
      simp [nums, over, List.map_take, List.map_drop]
    rw [List.append_assoc, e] at hrun
    exact ⟨_, by simpa using hrun, setRow_heap w g _ _ t _ hg, Only.setRow w g _⟩

/-- copy, into an array of the call's own. -/
theorem wpList_copy_has (hgd : o.guard = none) (d s : Operand) (dT sT : TypeId) (ho : o.op = .call { callee := .builtin .copy, args := #[d, s], argTypes := #[dT, sT] })
    (elem : TypeId) (hu : P.underlying dT = some (.slice elem)) (hsz : (P.info? elem).map (·.size) = some 1)
    (dp sp : Option Addr) (dLen dCap sLen sCap : Nat) (hd : a.eval d = .slice dp dLen dCap) (hs : a.eval s = .slice sp sLen sCap) (g off : Nat) (k : IntKind) (l : List Nat) (t : TypeId) (hg : Has w g t k l) (cs : List Nat) (hn : cs.length = Nat.min sLen dLen)
    (hpos : 0 < cs.length → dp = some ⟨g, off, none⟩ ∧ ∃ ad, sp = some ad ∧ ∀ j, j < cs.length → w.cell? (ad.add j) = some (.int k (cs.getD j 0 : Nat))) (hfit : off + cs.length ≤ l.length)
    (h : ∀ w', Has w' g t k (over l off cs) → Only g w w' → wpList P ops Q rest (a.put o.dst (goInt cs.length)) w') : wpList P ops Q (o :: rest) a w := by
  refine wpList_plain hgd fun K hK => ?_
  obtain ⟨w', hrun, h1, h2⟩ := run_copy_has (P := P) (w := w) dT sT o.type elem hu hsz dp sp dLen dCap sLen sCap g off k l t hg cs hn hpos hfit
  unfold Oper.wp
  simp [execOp, ho, resolve, invoke, builtin, hd, hs, hrun, Result.andThen]
  exact hK _ _ (h w' h1 h2)
theorem step_copy_has {K : Act → World → Prop} {E : Prop} (hgd : o.guard = none) (d s : Operand) (dT sT : TypeId) (ho : o.op = .call { callee := .builtin .copy, args := #[d, s], argTypes := #[dT, sT] })
    (elem : TypeId) (hu : P.underlying dT = some (.slice elem)) (hsz : (P.info? elem).map (·.size) = some 1)
    (dp sp : Option Addr) (dLen dCap sLen sCap : Nat) (hd : a.eval d = .slice dp dLen dCap) (hs : a.eval s = .slice sp sLen sCap) (g off : Nat) (k : IntKind) (l : List Nat) (t : TypeId) (hg : Has w g t k l) (cs : List Nat) (hn : cs.length = Nat.min sLen dLen)
    (hpos : 0 < cs.length → dp = some ⟨g, off, none⟩ ∧ ∃ ad, sp = some ad ∧ ∀ j, j < cs.length → w.cell? (ad.add j) = some (.int k (cs.getD j 0 : Nat))) (hfit : off + cs.length ≤ l.length)
    (h : ∀ w', Has w' g t k (over l off cs) → Only g w w' → K (a.put o.dst (goInt cs.length)) w') :
    if Region.wanted o (yielded ops a.tmps) = true then Oper.wp P o a w K Q else E := by
  have hw : Region.wanted o (yielded ops a.tmps) = true := by simp [Region.wanted, hgd]
  rw [if_pos hw]
  obtain ⟨w', hrun, h1, h2⟩ := run_copy_has (P := P) (w := w) dT sT o.type elem hu hsz dp sp dLen dCap sLen sCap g off k l t hg cs hn hpos hfit
  unfold Oper.wp
  simp [execOp, ho, resolve, invoke, builtin, hd, hs, hrun, Result.andThen]
  exact h w' h1 h2
end

/-- A result that lies in an array of the call's own. -/
theorem results_has {P : Program} {fn : Func} {p : Tmp} {ty : TypeId} (h : fn.results = #[.cell p ty]) (tmps : Array Value) (w : World) (g : Nat) (t : TypeId) (k : IntKind) (l : List Nat) (n : Nat) (e : TypeId)
    (hp : tmps.getD p undef = .pointer (some ⟨g, 0, none⟩)) (hg : Has w g t k l) (hu : P.underlying ty = some (.array n e)) (hi : (P.info? ty).map (·.size) = some l.length) :
    (results fn tmps).run P w = .ok (.agg (nums k l)) w :=
  results_cell_row h tmps w g t (nums k l) (0, 0) _ hp hg hu rfl (by rw [hi, nums_size])
/-- A callee that draws nothing, met behind some draws. -/
theorem quiet_same {P : Program} {f : FuncId} {args : Array Value} {w : World} {q n : Nat} {v : Value}
    (h : Calls P f args (w.drewN (q + n)) fun e w' => e = .returned v ∧ w' = w.drewN (q + n)) : Calls P f args (w.drewN (q + n)) fun e w'' => e = .returned v ∧ ∃ m, w'' = w.drewN (q + m) :=
  h.mono fun _ _ ⟨he, hm⟩ => ⟨he, n, hm⟩
/-- A callee that draws. -/
theorem quiet_some {P : Program} {f : FuncId} {args : Array Value} {w : World} {q n : Nat} {v : Value}
    (h : Calls P f args (w.drewN (q + n)) fun e w' => e = .returned v ∧ ∃ m, w' = (w.drewN (q + n)).drewN m) : Calls P f args (w.drewN (q + n)) fun e w'' => e = .returned v ∧ ∃ m, w'' = w.drewN (q + m) :=
  h.mono fun _ _ ⟨he, m, hm⟩ => ⟨he, n + m, by rw [hm, World.drewN_drewN, Nat.add_assoc]⟩
end Go.Proofs.YtakdokccdkhcoaaDoor

/- Contract of digest.words: a block's 64 words. -/
namespace Go.Proofs.YtakdokccdkhcoaaDoor
open Go.RowKit
set_option linter.unusedVariables false

theorem Tryd.zero105 : (Tryd.prog.info? 105).map (fun i => (i.zero, i.size)) = some (some (.agg (nums .u32 (zeros 64))), 64) := by kernel_rfl
theorem Tryd.size105 : (Tryd.prog.info? 105).map (·.size) = some 64 := by kernel_rfl

theorem or_byte (q x : Nat) (hq : q < 16777216) (hx : x < 256) : bits .or .u32 ((q : Int) * 256) (x : Int) = ((q * 256 + x : Nat) : Int) := by
  have e : (q : Int) * 256 = ((q * 256 : Nat) : Int) := by simp
  rw [e, u32_or_nat _ _ (by omega) (by omega), nat_join 8 (q * 256) x (by omega) (by omega)]

theorem sg0_walk (x : Nat) (hx : x < 4294967296) : bits .xor .u32 (bits .xor .u32 (rr 7 x : Nat) (rr 18 x : Nat)) ((x : Int) / 8) = (sg0 x : Nat) := by
  have e : (x : Int) / 8 = ((x / 8 : Nat) : Int) := by simp
  have h1 := rr_lt 7 x hx
  have h2 := rr_lt 18 x hx
  rw [e, u32_xor_nat _ _ h1 h2, u32_xor_nat _ _ (Nat.xor_lt_two_pow (n := 32) h1 h2) (by omega)]
  rfl
theorem sg1_walk (x : Nat) (hx : x < 4294967296) : bits .xor .u32 (bits .xor .u32 (rr 17 x : Nat) (rr 19 x : Nat)) ((x : Int) / 1024) = (sg1 x : Nat) := by
  have e : (x : Int) / 1024 = ((x / 1024 : Nat) : Int) := by simp
  have h1 := rr_lt 17 x hx
  have h2 := rr_lt 19 x hx
  rw [e, u32_xor_nat _ _ h1 h2, u32_xor_nat _ _ (Nat.xor_lt_two_pow (n := 32) h1 h2) (by omega)]
  rfl

set_option maxHeartbeats 1000000 in
theorem words_any (b off cap : Nat) (zs : List Nat) (w : World) (hl : zs.length = 64) (hcap : 64 ≤ cap) (hm : cap ≤ maxLen) (hby : ∀ z ∈ zs, z < 256)
    (hc : ∀ i, i < 64 → w.cell? ⟨b, off + i, none⟩ = some (.int .u8 (zs.getD i 0 : Nat))) :
    Calls Tryd.prog 63 #[.slice (some ⟨b, off, none⟩) 64 cap] w fun e w' => e = .returned (.agg (nums .u32 (fill zs 64))) ∧ Below w.heap.size w w' := by
  unfold maxLen at hm
  go_enter Tryd.func63, Tryd.ntmps63
  go_wp2_with (first
    | (refine wpList_alloc_has rfl 2 rfl 105 rfl .u32 64 Tryd.zero105 ?_; intro w1 H1 B1 S1)
    | (refine wpList_alloc_has rfl 3 rfl 105 rfl .u32 64 Tryd.zero105 ?_; intro w2 H2 B2 S2))
  rw [S1] at H2 B2 S2
  have hbl := block_lt_of_cell (hc 0 (by omega))
  have B02 : Below w.heap.size w w2 := B1.trans (B2.mono (by omega))
  have H12 : Has w2 w.heap.size 105 .u32 (zeros 64) := H1.keep (by rw [S1]; exact B2)
  clear B1 B2 H1
  go_loopw [12] (fun i wr => ∃ t : Nat, t ≤ 16 ∧ i = .int .i64 t ∧ Has wr w.heap.size 105 .u32 (zeros 64) ∧ Has wr (w.heap.size + 1) 105 .u32 (fill zs t) ∧ Below w.heap.size w wr) (fun i _ => 16 - (intOf i).toNat)
  case atStart => exact ⟨0, by omega, rfl, H12, H2, B02⟩
  case round =>
    clear H12 H2 B02
    obtain ⟨t, ht, rfl, HA, HB, HW⟩ := hrel
    by_cases hlt : t < 16
    · have hcap4 : ¬ cap = 4 * t := by omega
      go_wp2
      go_loopw [23] (fun i wq => ∃ j : Nat, j ≤ 4 ∧ i = .int .i64 j ∧ Has wq w.heap.size 105 .u32 (zeros 64) ∧ Has wq (w.heap.size + 1) 105 .u32 ((fill zs t).set t (wpart zs t j)) ∧ Below w.heap.size w wq) (fun i _ => 4 - (intOf i).toNat)
      case atStart => exact ⟨0, by omega, rfl, HA, by rw [fill_start]; exact HB, HW⟩
      case round =>
        clear HA HB HW
        obtain ⟨j, hj, rfl, HA, HB, HW⟩ := hrel
        by_cases hj4 : j < 4
        · have hcb := (HW.cell (p := ⟨b, off + (4 * t + j), none⟩) hbl).trans (hc (4 * t + j) (by omega))
          have hct := HB.cell t (by rw [List.length_set, fill_length]; omega)
          have hft := HB.frozen t
          rw [getD_set, if_pos ⟨rfl, by rw [fill_length]; omega⟩] at hct
          rw [← Nat.add_assoc] at hcb
          have hx := bytes_getD zs hby (4 * t + j)
          have hp := wpart_lt zs hby t j
          have hp3 : 256 ^ j ≤ 256 ^ 3 := Nat.pow_le_pow_right (by omega) (by omega)
          have hor := or_byte (wpart zs t j) (zs.getD (4 * t + j) 0) (by omega) hx
          have HS : Hid (wpart zs t (j + 1) = wpart zs t j * 256 + zs.getD (4 * t + j) 0) := rfl
          generalize zs.getD (4 * t + j) 0 = x at *
          generalize wpart zs t j = q at *
          have HR : Hid _ := HB.set t (q * 256 + x)
          have HO : Hid _ := Only.setCell wr (w.heap.size + 1) t (.int .u32 ((q * 256 + x : Nat) : Int))
          have HQ : Hid _ := hor
          clear hc HB hor
          go_wp2
          go_roundw
          case rel =>
            rw [HQ.out]
            exact ⟨j + 1, by omega, by go_num, HA.only HO.out (by omega), by rw [HS.out, ← List.set_set q]; exact HR.out, below_only HW HO.out (by omega)⟩
          case measure => simp [intOf]; omega
        · have hj5 : j = 4 := by omega
          subst hj5
          rw [fill_word zs t hlt] at HB
          clear hc hj4
          go_wp2
          go_roundw
          case rel => exact ⟨t + 1, by omega, by go_num, HA, HB, HW⟩
          case measure => simp [intOf]; omega
    · have ht2 : t = 16 := by omega
      subst ht2
      clear hc hlt
      go_wp2
      go_loopw [7] (fun i wr => ∃ t : Nat, 16 ≤ t ∧ t ≤ 64 ∧ i = .int .i64 t ∧ Has wr w.heap.size 105 .u32 (zeros 64) ∧ Has wr (w.heap.size + 1) 105 .u32 (fill zs t) ∧ Below w.heap.size w wr) (fun i _ => 64 - (intOf i).toNat)
      case atStart => exact ⟨16, by omega, by omega, rfl, HA, HB, HW⟩
      case round =>
        clear HA HB HW
        obtain ⟨t, ht1, ht, rfl, HA, HB, HW⟩ := hrel
        by_cases hlt : t < 64
        · have c15 := HB.cell (t - 15) (by rw [fill_length]; omega)
          have c2 := HB.cell (t - 2) (by rw [fill_length]; omega)
          have c16 := HB.cell (t - 16) (by rw [fill_length]; omega)
          have c7 := HB.cell (t - 7) (by rw [fill_length]; omega)
          have c0 := HB.cell t (by rw [fill_length]; omega)
          have hft := HB.frozen t
          have b15 := fill_lt zs hby t (t - 15)
          have b2 := fill_lt zs hby t (t - 2)
          have b16 := fill_lt zs hby t (t - 16)
          have b7 := fill_lt zs hby t (t - 7)
          have HN : Hid (nextW (fill zs t) t = ((fill zs t).getD (t - 16) 0 + sg0 ((fill zs t).getD (t - 15) 0) + (fill zs t).getD (t - 7) 0 + sg1 ((fill zs t).getD (t - 2) 0)) % 4294967296) := rfl
          have HF : Hid _ := fill_next zs t (by omega)
          generalize (fill zs t).getD (t - 15) 0 = x15 at *
          generalize (fill zs t).getD (t - 2) 0 = x2 at *
          generalize (fill zs t).getD (t - 16) 0 = x16 at *
          generalize (fill zs t).getD (t - 7) 0 = x7 at *
          have s0 := sg0_walk x15 b15
          have s1 := sg1_walk x2 b2
          have l0 := sg0_lt x15 b15
          have l1 := sg1_lt x2 b2
          go_wp2
          go_quiet (fail)
          go_wp2_with (go_at_call 64; refine (right_any _ _ (by omega) (by omega) (by omega) _).mono ?_; rintro e w' ⟨rfl, rfl⟩)
          generalize sg0 x15 = y0 at *
          generalize sg1 x2 = y1 at *
          clear s0 s1
          go_region
          go_wp2
          go_roundw
          case rel =>
            have e : ((x16 : Int) + y0 + x7 + y1) % 4294967296 = (((x16 + y0 + x7 + y1) % 4294967296 : Nat) : Int) := by simp
            rw [e]
            have HO := Only.setCell (wr.drewN (nq + 1)) (w.heap.size + 1) t (.int .u32 (((x16 + y0 + x7 + y1) % 4294967296 : Nat) : Int))
            exact ⟨t + 1, by omega, by omega, by go_num, (HA.drewN _).only HO (by omega), by rw [← HF.out, HN.out]; exact (HB.drewN (nq + 1)).set t _, below_only (below_drewN HW _) HO (by omega)⟩
          case measure => simp [intOf]; omega
        · have ht3 : t = 64 := by omega
          subst ht3
          go_wp2_with (first
            | (refine wpList_load_has rfl 105 (.tmp 3) rfl (w.heap.size + 1) .u32 (fill zs 64) rfl 105 HB _ _ Tryd.underlying105 (by rw [fill_length]; exact Tryd.size105) ?_)
            | (refine wpList_store_has rfl 105 (.tmp 2) (.tmp 81) rfl w.heap.size .u32 (fill zs 64) (zeros 64) rfl rfl 105 HA (by rw [fill_length]; exact Tryd.size105) (by rw [fill_length, zeros_length]) ?_; intro w5 H5 O5))
          refine bodyPost_ret (results_has rfl _ _ w.heap.size 105 .u32 (fill zs 64) _ _ rfl H5 Tryd.underlying105 (by rw [fill_length]; exact Tryd.size105)) rfl ?_
          exact ⟨rfl, below_only HW O5 (by omega)⟩
end Go.Proofs.YtakdokccdkhcoaaDoor

/- Contract of digest.mix: one block taken into the registers. -/
namespace Go.Proofs.YtakdokccdkhcoaaDoor
open Go.RowKit
set_option linter.unusedVariables false

theorem Tryd.zero94 : (Tryd.prog.info? 94).map (fun i => (i.zero, i.size)) = some (some (.agg (nums .u32 (zeros 8))), 8) := by kernel_rfl
theorem Tryd.size94 : (Tryd.prog.info? 94).map (·.size) = some 8 := by kernel_rfl

/-- The tables stand as the program's text lays them. -/
def TabR (w : World) : Prop := ∀ i, i < 64 → w.cell? ⟨1, i, none⟩ = some (.int .u32 (kNums.getD i 0 : Nat))
theorem TabR.keep {w w' : World} (h : TabR w) (hb : Below w.heap.size w w') : TabR w' := fun i hi =>
  (hb.cell (p := ⟨1, i, none⟩) (block_lt_of_cell (h i hi))).trans (h i hi)

theorem not_word (x : Nat) (hx : x < 4294967296) : 4294967295 ^^^ x = 4294967295 - x := by
  have h1 : (BitVec.allOnes 32 ^^^ BitVec.ofNat 32 x).toNat = (~~~ BitVec.ofNat 32 x).toNat := by rw [BitVec.allOnes_xor]
  rw [BitVec.toNat_xor, BitVec.toNat_not, BitVec.toNat_ofNat, Nat.mod_eq_of_lt (by omega), BitVec.toNat_allOnes] at h1
  exact h1
theorem not_walk (x : Nat) (hx : x < 4294967296) : bits .xor .u32 IntKind.u32.max (x : Int) = ((4294967295 - x : Nat) : Int) := by
  have e : IntKind.u32.max = ((4294967295 : Nat) : Int) := by decide
  rw [e, u32_xor_nat _ _ (by decide) hx, not_word x hx]
theorem t1_walk (e f g h k w : Nat) (he : e < 4294967296) (hf : f < 4294967296) (hg : g < 4294967296) :
    ((h : Int) + bits .xor .u32 (bits .xor .u32 (rr 6 e : Nat) (rr 11 e : Nat)) (rr 25 e : Nat) + bits .xor .u32 (bits .and .u32 (e : Int) (f : Int)) (bits .and .u32 (bits .xor .u32 IntKind.u32.max (e : Int)) (g : Int)) + (k : Int) + (w : Int)) % 4294967296 = (tOne e f g h k w : Nat) := by
  have h1 := rr_lt 6 e he
  have h2 := rr_lt 11 e he
  have h3 := rr_lt 25 e he
  rw [not_walk e he, u32_xor_nat _ _ h1 h2, u32_xor_nat _ _ (Nat.xor_lt_two_pow (n := 32) h1 h2) h3, u32_and_nat _ _ he hf, u32_and_nat _ _ (by omega) hg,
    u32_xor_nat _ _ (Nat.and_lt_two_pow (n := 32) _ hf) (Nat.and_lt_two_pow (n := 32) _ hg)]
  unfold tOne
  simp
theorem t2_walk (a b c : Nat) (ha : a < 4294967296) (hb : b < 4294967296) (hc : c < 4294967296) :
    (bits .xor .u32 (bits .xor .u32 (rr 2 a : Nat) (rr 13 a : Nat)) (rr 22 a : Nat) + bits .xor .u32 (bits .xor .u32 (bits .and .u32 (a : Int) (b : Int)) (bits .and .u32 (a : Int) (c : Int))) (bits .and .u32 (b : Int) (c : Int))) % 4294967296 = (tTwo a b c : Nat) := by
  have h1 := rr_lt 2 a ha
  have h2 := rr_lt 13 a ha
  have h3 := rr_lt 22 a ha
  have h4 := Nat.and_lt_two_pow (n := 32) a hb
  have h5 := Nat.and_lt_two_pow (n := 32) a hc
  have h6 := Nat.and_lt_two_pow (n := 32) b hc
  rw [u32_xor_nat _ _ h1 h2, u32_xor_nat _ _ (Nat.xor_lt_two_pow (n := 32) h1 h2) h3, u32_and_nat _ _ ha hb, u32_and_nat _ _ ha hc, u32_and_nat _ _ hb hc,
    u32_xor_nat _ _ h4 h5, u32_xor_nat _ _ (Nat.xor_lt_two_pow (n := 32) h4 h5) h6]
  unfold tTwo
  simp
theorem tOne_lt (e f g h k w : Nat) : tOne e f g h k w < 4294967296 := Nat.mod_lt _ (by decide)
theorem tTwo_lt (a b c : Nat) : tTwo a b c < 4294967296 := Nat.mod_lt _ (by decide)
theorem Tryd.one93 : (Tryd.prog.info? 93).map (·.size) = some 1 := by kernel_rfl
theorem u32_unsigned : IntKind.u32.signed = false := rfl

set_option maxRecDepth 100000 in
set_option maxHeartbeats 2000000 in
theorem mix_any (hs : List Nat) (hr : Reg hs) (b off cap : Nat) (zs : List Nat) (w : World) (hT : TabR w) (hl : zs.length = 64) (hcap : 64 ≤ cap) (hm : cap ≤ maxLen) (hby : ∀ z ∈ zs, z < 256)
    (hc : ∀ i, i < 64 → w.cell? ⟨b, off + i, none⟩ = some (.int .u8 (zs.getD i 0 : Nat))) :
    Calls Tryd.prog 55 #[.agg (nums .u32 hs), .slice (some ⟨b, off, none⟩) 64 cap] w fun e w' => e = .returned (.agg (nums .u32 (mixL hs zs))) ∧ Below w.heap.size w w' := by
  have hbl := block_lt_of_cell (hc 0 (by omega))
  go_enter Tryd.func55, Tryd.ntmps55
  go_wp2_with (first
    | (refine wpList_box_has rfl 2 rfl 94 (.tmp 0) rfl .u32 hs rfl ?_; intro w1 H1 B1 S1)
    | (refine wpList_alloc_has rfl 4 rfl 94 rfl .u32 8 Tryd.zero94 ?_; intro w2 H2 B2 S2)
    | (go_at_call 63; fail))
  rw [S1] at H2 B2 S2
  have H12 : Has w2 w.heap.size 94 .u32 hs := H1.keep (by rw [S1]; exact B2)
  have B02 : Below w.heap.size w w2 := B1.trans (B2.mono (by omega))
  clear B1 B2 H1
  refine (words_any b off cap zs w2 hl hcap hm hby (fun i hi => (B02.cell (p := ⟨b, off + i, none⟩) hbl).trans (hc i hi))).mono ?_
  rintro e w3 ⟨rfl, B3⟩
  have H13 := H12.keep B3
  have H23 := H2.keep B3
  have B03 := below_more B02 B3 (Nat.le_refl _)
  have Z3 : w.heap.size + 2 ≤ w3.heap.size := by have := B3.size; omega
  clear B3 B02 H12 H2 S2 S1
  have hf := fill_length zs 64
  go_wp2_with (first
    | (refine wpList_alloc_has rfl 5 rfl 105 rfl .u32 64 Tryd.zero105 ?_; intro w4 H4 B4 S4)
    | (refine wpList_store_has rfl 105 (.tmp 5) (.tmp 18) rfl w3.heap.size .u32 (fill zs 64) (zeros 64) rfl rfl 105 H4 (by rw [hf]; exact Tryd.size105) (by rw [hf, zeros_length]) ?_; intro w5 H5 O5)
    | (refine wpList_load_has rfl 94 (.tmp 2) rfl w.heap.size .u32 hs rfl 94 ((H13.keep B4).only O5 (by omega)) _ _ Tryd.underlying94 (by rw [hr.1]; exact Tryd.size94) ?_)
    | (refine wpList_alloc_has rfl 6 rfl 94 rfl .u32 8 Tryd.zero94 ?_; intro w6 H6 B6 S6)
    | (refine wpList_store_has rfl 94 (.tmp 6) (.tmp 19) rfl w5.heap.size .u32 hs (zeros 8) rfl rfl 94 H6 (by rw [hr.1]; exact Tryd.size94) (by rw [hr.1, zeros_length]) ?_; intro w7 H7 O7))
  have e5 : w5.heap.size = w3.heap.size + 1 := by rw [O5.size, S4]
  have HA : Has w7 w.heap.size 94 .u32 hs := ((((H13.keep B4).only O5 (by omega)).keep B6).only O7 (by omega))
  have HB : Has w7 (w.heap.size + 1) 94 .u32 (zeros 8) := ((((H23.keep B4).only O5 (by omega)).keep B6).only O7 (by omega))
  have HC : Has w7 w3.heap.size 105 .u32 (fill zs 64) := ((H5.keep B6).only O7 (by omega))
  have HW : Below w.heap.size w w7 := below_only ((below_only (B03.trans (B4.mono (by omega))) O5 (by omega)).trans (B6.mono (by omega))) O7 (by omega)
  have hRM : w3.heap.size < w5.heap.size := by omega
  have hwl : ∀ i, (fill zs 64).getD i 0 < 4294967296 := fill_lt zs hby 64
  have HM : Hid (mixL hs zs = addUp hs (rnds hs (fill zs 64) 64) 8) := rfl
  clear H13 H23 B03 H4 B4 H5 O5 H6 B6 O7 e5 S4 S6 hc hby hcap hm hl
  generalize w5.heap.size = R at *
  generalize w3.heap.size = M at *
  generalize fill zs 64 = ws at *
  go_loopw [20] (fun i wr => ∃ t : Nat, t ≤ 64 ∧ i = .int .i64 t ∧ Has wr w.heap.size 94 .u32 hs ∧ Has wr (w.heap.size + 1) 94 .u32 (zeros 8) ∧ Has wr M 105 .u32 ws ∧ Has wr R 94 .u32 (rnds hs ws t) ∧ Below w.heap.size w wr) (fun i _ => 64 - (intOf i).toNat)
  case atStart => exact ⟨0, by omega, rfl, HA, HB, HC, H7, HW⟩
  case round =>
    clear HA HB HC H7 HW
    obtain ⟨t, ht, rfl, HA, HB, HC, HD, HW⟩ := hrel
    have hreg := rnds_reg hs ws hr t
    by_cases hlt : t < 64
    · have HS : Hid (rnds hs ws (t + 1) = rnd (rnds hs ws t) (kNums.getD t 0) (ws.getD t 0)) := rfl
      have ck := (HW.cell (p := ⟨1, t, none⟩) (block_lt_of_cell (hT t hlt))).trans (hT t hlt)
      have cw := HC.cell t (by omega)
      have bk := kNums_lt t
      have bw := hwl t
      generalize rnds hs ws t = s at *
      generalize kNums.getD t 0 = kk at *
      generalize ws.getD t 0 = wt at *
      obtain ⟨ra, rb, rc, rd, re, rf, rg, rh, rfl⟩ := eight s hreg.1
      have hall := hreg.2
      simp only [List.mem_cons, List.not_mem_nil, or_false, forall_eq_or_imp, forall_eq] at hall
      obtain ⟨ba, bb, bc, bd, be, bf, bg, bh⟩ := hall
      have c0 := HD.cell 0 (by simp)
      have c1 := HD.cell 1 (by simp)
      have c2 := HD.cell 2 (by simp)
      have c4 := HD.cell 4 (by simp)
      have c5 := HD.cell 5 (by simp)
      have c6 := HD.cell 6 (by simp)
      have c7 := HD.cell 7 (by simp)
      simp only [List.getD_cons_zero, List.getD_cons_succ] at c0 c1 c2 c4 c5 c6 c7
      have hsg := u32_unsigned
      have q1 := t1_walk re rf rg rh kk wt be bf bg
      have q2 := t2_walk ra rb rc ba bb bc
      have l1 := tOne_lt re rf rg rh kk wt
      have l2 := tTwo_lt ra rb rc
      have HE : Hid (rnd [ra, rb, rc, rd, re, rf, rg, rh] kk wt = [(tOne re rf rg rh kk wt + tTwo ra rb rc) % 4294967296, ra, rb, rc, (rd + tOne re rf rg rh kk wt) % 4294967296, re, rf, rg]) := rfl
      generalize tOne re rf rg rh kk wt = t1 at *
      generalize tTwo ra rb rc = t2 at *
      go_wp2
      go_quiet (fail)
      go_wp2
      go_quiet (fail)
      go_wp2
      go_quiet ((go_at_call 64; refine quiet_same (right_any _ _ ?_ ?_ ?_ _) <;> omega))
      go_wp2_with (go_at_call 64; refine (right_any _ _ (by omega) (by omega) (by omega) _).mono ?_; rintro e w' ⟨rfl, rfl⟩)
      have HSRC : ∀ j, j < 7 → wr.cell? (Addr.add ⟨R, 0, none⟩ j) = some (.int .u32 ([ra, rb, rc, rd, re, rf, rg].getD j 0 : Nat)) := by
        intro j hj
        rw [Addr.add_lit, Nat.zero_add, HD.cell j (by simp; omega)]
        match j, hj with
        | 0, _ | 1, _ | 2, _ | 3, _ | 4, _ | 5, _ | 6, _ => rfl
      simp only [q2]
      clear q1 q2 c0 c1 c2 c4 c5 c6 c7 ck cw hsg
      go_region_law (refine step_copy_has rfl (.tmp 83) (.tmp 84) 108 108 rfl 93 Tryd.underlying108 Tryd.one93 _ _ _ _ _ _ rfl rfl R 1 .u32 [ra, rb, rc, rd, re, rf, rg, rh] 94 (by exact HD) [ra, rb, rc, rd, re, rf, rg] rfl (fun _ => ⟨rfl, _, rfl, by exact HSRC⟩) (by simp) ?_; intro w8 H8 O8)
      all_goals
        have HV : Hid (over [ra, rb, rc, rd, re, rf, rg, rh] 1 [ra, rb, rc, rd, re, rf, rg] = [ra, ra, rb, rc, rd, re, rf, rg]) := rfl
        rw [HV.out] at H8
        have c4 : w8.cell? ⟨R, 4, none⟩ = some (.int .u32 (rd : Nat)) := H8.cell 4 (by simp)
        have c0 : w8.cell? ⟨R, 0, none⟩ = some (.int .u32 (ra : Nat)) := H8.cell 0 (by simp)
        have f4 := H8.frozen 4
        have f0 := H8.frozen 0
        go_wp2
        go_roundw
        case rel =>
          have e1 : ((rd : Int) + t1) % 4294967296 = (((rd + t1) % 4294967296 : Nat) : Int) := by simp
          have e2 : ((t1 : Int) + t2) % 4294967296 = (((t1 + t2) % 4294967296 : Nat) : Int) := by simp
          rw [e1, e2]
          have HO1 := Only.setCell w8 R 4 (.int .u32 (((rd + t1) % 4294967296 : Nat) : Int))
          have HO2 := Only.setCell (w8.setCell ⟨R, 4, none⟩ (.int .u32 (((rd + t1) % 4294967296 : Nat) : Int))) R 0 (.int .u32 (((t1 + t2) % 4294967296 : Nat) : Int))
          refine ⟨t + 1, by omega, by go_num, ((((HA.drewN _).drew).only O8 (by omega)).only HO1 (by omega)).only HO2 (by omega), ((((HB.drewN _).drew).only O8 (by omega)).only HO1 (by omega)).only HO2 (by omega), ((((HC.drewN _).drew).only O8 (by omega)).only HO1 (by omega)).only HO2 (by omega), ?_, below_only (below_only (below_only (below_drewN HW _).drew O8 (by omega)) HO1 (by omega)) HO2 (by omega)⟩
          rw [HS.out, HE.out]
          exact (H8.set 4 _).set 0 _
        case measure => simp [intOf]; omega
    · have ht2 : t = 64 := by omega
      subst ht2
      clear hlt hwl
      generalize rnds hs ws 64 = rs at *
      have h8 := hr.1
      have r8 := hreg.1
      go_wp2
      go_loopw [96] (fun i wr => ∃ t : Nat, t ≤ 8 ∧ i = .int .i64 t ∧ Has wr w.heap.size 94 .u32 (addUp hs rs t) ∧ Has wr (w.heap.size + 1) 94 .u32 (zeros 8) ∧ Has wr R 94 .u32 rs ∧ Below w.heap.size w wr) (fun i _ => 8 - (intOf i).toNat)
      case atStart => exact ⟨0, by omega, rfl, HA, HB, HD, HW⟩
      case round =>
        clear HA HB HC HD HW
        obtain ⟨t, ht, rfl, HA, HB, HD, HW⟩ := hrel
        by_cases hlt : t < 8
        · have c1 := HA.cell t (by rw [addUp_length]; omega)
          have c2 := HD.cell t (by omega)
          have f1 := HA.frozen t
          rw [addUp_old hs rs t t (Nat.le_refl _)] at c1
          have HS : Hid (addUp hs rs (t + 1) = (addUp hs rs t).set t ((hs.getD t 0 + rs.getD t 0) % 4294967296)) := rfl
          generalize hs.getD t 0 = x at *
          generalize rs.getD t 0 = y at *
          go_wp2
          go_region
          all_goals
            go_wp2
            go_roundw
            case rel =>
              have e1 : ((x : Int) + y) % 4294967296 = (((x + y) % 4294967296 : Nat) : Int) := by simp
              rw [e1]
              have HO1 := Only.setCell wr.drew w.heap.size t (.int .u32 (((x + y) % 4294967296 : Nat) : Int))
              exact ⟨t + 1, by omega, by go_num, by rw [HS.out]; exact HA.drew.set t _, HB.drew.only HO1 (by omega), HD.drew.only HO1 (by omega), below_only HW.drew HO1 (by omega)⟩
            case measure => simp [intOf]; omega
        · have ht3 : t = 8 := by omega
          subst ht3
          rw [← HM.out] at HA
          have h9 : (mixL hs zs).length = 8 := by rw [HM.out, addUp_length]; exact h8
          go_wp2_with (first
            | (refine wpList_load_has rfl 94 (.tmp 2) rfl w.heap.size .u32 (mixL hs zs) rfl 94 HA _ _ Tryd.underlying94 (by rw [h9]; exact Tryd.size94) ?_)
            | (refine wpList_store_has rfl 94 (.tmp 4) (.tmp 108) rfl (w.heap.size + 1) .u32 (mixL hs zs) (zeros 8) rfl rfl 94 HB (by rw [h9]; exact Tryd.size94) (by rw [h9, zeros_length]) ?_; intro w9 H9 O9))
          refine bodyPost_ret (results_has rfl _ _ (w.heap.size + 1) 94 .u32 (mixL hs zs) _ _ rfl H9 Tryd.underlying94 (by rw [h9]; exact Tryd.size94)) rfl ?_
          exact ⟨rfl, below_only HW O9 (by omega)⟩
end Go.Proofs.YtakdokccdkhcoaaDoor

/- Contracts of digest.ending (the last block, or two) and digest.join (the registers' bytes). -/
namespace Go.Proofs.YtakdokccdkhcoaaDoor
open Go.RowKit
set_option linter.unusedVariables false

theorem Tryd.zero5 : (Tryd.prog.info? 5).map (fun i => (i.zero, i.size, i.bytes)) = some (some (.int .u8 0), 1, 1) := by kernel_rfl
theorem Tryd.one5 : (Tryd.prog.info? 5).map (·.size) = some 1 := by kernel_rfl
theorem Tryd.zero24 : (Tryd.prog.info? 24).map (fun i => (i.zero, i.size)) = some (some (.agg (nums .u8 (zeros 32))), 32) := by kernel_rfl
theorem Tryd.size24 : (Tryd.prog.info? 24).map (·.size) = some 32 := by kernel_rfl
theorem Tryd.und24 : Tryd.prog.underlying 24 = some (.array 32 5) := by kernel_rfl

/-- The slice at that address reads as these bytes. -/
def Reads (w : World) (ao : Option Addr) (zs : List Nat) : Prop :=
  zs.length = 0 ∨ ∃ b off, ao = some ⟨b, off, none⟩ ∧ ∀ i, i < zs.length → w.cell? ⟨b, off + i, none⟩ = some (.int .u8 (zs.getD i 0 : Nat))
theorem Reads.keep {w w' : World} {ao : Option Addr} {zs : List Nat} (h : Reads w ao zs) (hb : Below w.heap.size w w') : Reads w' ao zs := by
  rcases h with h | ⟨b, off, rfl, hc⟩
  · exact .inl h
  · refine .inr ⟨b, off, rfl, fun i hi => ?_⟩
    exact (hb.cell (p := ⟨b, off + i, none⟩) (block_lt_of_cell (hc i hi))).trans (hc i hi)
theorem Reads.src {w : World} {ao : Option Addr} {zs : List Nat} (h : Reads w ao zs) (h0 : 0 < zs.length) : ∃ ad, ao = some ad ∧ ∀ j, j < zs.length → w.cell? (ad.add j) = some (.int .u8 (zs.getD j 0 : Nat)) := by
  rcases h with h | ⟨b, off, rfl, hc⟩
  · omega
  · exact ⟨_, rfl, fun j hj => by rw [Addr.add_lit]; exact hc j hj⟩

theorem byte_walk (n k : Nat) : (8 * (n : Int)) / 2 ^ (8 * k) % 256 = ((8 * n / 256 ^ k % 256 : Nat) : Int) := by
  have e2 : (256 : Nat) ^ k = 2 ^ (8 * k) := by rw [Nat.pow_mul]
  rw [e2]
  simp

set_option maxRecDepth 100000 in
set_option maxHeartbeats 2000000 in
theorem ending_any (ao : Option Addr) (cap : Nat) (zs : List Nat) (n : Nat) (L : Nat) (hL : L = if zs.length + 9 ≤ 64 then 64 else 128) (hr : zs.length < 64) (hn : 8 * n < 18446744073709551616) (w : World) (hz : Reads w ao zs) :
    Calls Tryd.prog 56 #[.slice ao zs.length cap, .int .u64 n] w fun e w' => e = .returned (.slice (some ⟨w.heap.size, 0, none⟩) L L) ∧ Has w' w.heap.size 5 .u8 (pad zs L (8 * n)) ∧ Below w.heap.size w w' := by
  by_cases h9 : zs.length + 9 ≤ 64
  · rw [if_pos h9] at hL
    subst hL
    have HP : Hid (pad zs 64 (8 * n) = beUp ((over (zeros 64) 0 zs).set zs.length 128) 64 (8 * n) 8) := rfl
    have hol : (over (zeros 64) 0 zs).length = 64 := by rw [over_length _ _ _ (by rw [zeros_length]; omega), zeros_length]
    have hmin : Hid (zs.length = Nat.min zs.length 64) := by show zs.length = Nat.min zs.length 64; simp [Nat.min_def]; omega
    generalize hrr0 : zs.length = r at *
    have hrr : Hid (zs.length = r) := hrr0
    clear hrr0
    go_enter Tryd.func56, Tryd.ntmps56
    go_wp2_with (first
      | (refine wpList_make_has rfl (.tmp 14) (.tmp 14) 67 rfl 5 .u8 Tryd.underlying67 Tryd.zero5 .i64 .i64 _ _ 64 rfl rfl rfl rfl (by decide) ?_; intro w1 H1 B1)
      | (refine wpList_copy_has rfl (.tmp 16) (.tmp 17) 67 67 rfl 5 Tryd.underlying67 Tryd.one5 _ _ _ _ _ _ rfl rfl w.heap.size 0 .u8 (zeros 64) 5 H1 zs (by rw [hrr.out]; exact hmin.out) (fun h0 => ⟨rfl, (hz.keep B1).src h0⟩) (by rw [zeros_length, hrr.out]; omega) ?_; intro w2 H2 O2; have c2 := H2.cell r (by rw [hol]; omega); have f2 := H2.frozen r))
    have H3 := H2.set r 128
    have B3 : Below w.heap.size w _ := below_only (below_only B1 O2 (Nat.le_refl _)) (Only.setCell w2 w.heap.size r (.int .u8 128)) (Nat.le_refl _)
    have hol2 : ((over (zeros 64) 0 zs).set r 128).length = 64 := by rw [List.length_set]; exact hol
    clear c2 f2 H1 B1 H2 O2 hol
    generalize (over (zeros 64) 0 zs).set r 128 = l0 at *
    go_loopw [25] (fun i wr => ∃ k : Nat, k ≤ 8 ∧ i = .int .i64 k ∧ Has wr w.heap.size 5 .u8 (beUp l0 64 (8 * n) k) ∧ Below w.heap.size w wr) (fun i _ => 8 - (intOf i).toNat)
    case atStart => exact ⟨0, by omega, rfl, H3, B3⟩
    case round =>
      clear H3 B3
      obtain ⟨k, hk, rfl, HA, HW⟩ := hrel
      by_cases hlt : k < 8
      · have hlen := beUp_length l0 64 (8 * n) k
        have c1 := HA.cell (64 - 1 - k) (by rw [hlen, hol2]; omega)
        have f1 := HA.frozen (64 - 1 - k)
        have HB : Hid _ := byte_walk n k
        have HS : Hid (beUp l0 64 (8 * n) (k + 1) = (beUp l0 64 (8 * n) k).set (64 - 1 - k) (8 * n / 256 ^ k % 256)) := rfl
        have et : (64 - 1 - (k : Int)).toNat = 64 - 1 - k := by omega
        have et2 : ((63 : Int) - (k : Int)).toNat = 64 - 1 - k := by omega
        clear hlen
        go_wp2
        go_roundw
        case rel =>
          rw [HB.out]
          exact ⟨k + 1, by omega, by go_num, by rw [HS.out]; exact HA.set (64 - 1 - k) _, below_only HW (Only.setCell wr w.heap.size _ _) (Nat.le_refl _)⟩
        case measure => simp [intOf]; omega
      · have hk8 : k = 8 := by omega
        subst hk8
        rw [← HP.out] at HA
        go_wp2
        go_ret
        exact ⟨rfl, HA, HW⟩
  · rw [if_neg h9] at hL
    subst hL
    have HP : Hid (pad zs 128 (8 * n) = beUp ((over (zeros 128) 0 zs).set zs.length 128) 128 (8 * n) 8) := rfl
    have hol : (over (zeros 128) 0 zs).length = 128 := by rw [over_length _ _ _ (by rw [zeros_length]; omega), zeros_length]
    have hmin : Hid (zs.length = Nat.min zs.length 128) := by show zs.length = Nat.min zs.length 128; simp [Nat.min_def]; omega
    generalize hrr0 : zs.length = r at *
    have hrr : Hid (zs.length = r) := hrr0
    clear hrr0
    go_enter Tryd.func56, Tryd.ntmps56
    go_wp2_with (first
      | (refine wpList_make_has rfl (.tmp 14) (.tmp 14) 67 rfl 5 .u8 Tryd.underlying67 Tryd.zero5 .i64 .i64 _ _ 128 rfl rfl rfl rfl (by decide) ?_; intro w1 H1 B1)
      | (refine wpList_copy_has rfl (.tmp 16) (.tmp 17) 67 67 rfl 5 Tryd.underlying67 Tryd.one5 _ _ _ _ _ _ rfl rfl w.heap.size 0 .u8 (zeros 128) 5 H1 zs (by rw [hrr.out]; exact hmin.out) (fun h0 => ⟨rfl, (hz.keep B1).src h0⟩) (by rw [zeros_length, hrr.out]; omega) ?_; intro w2 H2 O2; have c2 := H2.cell r (by rw [hol]; omega); have f2 := H2.frozen r))
    have H3 := H2.set r 128
    have B3 : Below w.heap.size w _ := below_only (below_only B1 O2 (Nat.le_refl _)) (Only.setCell w2 w.heap.size r (.int .u8 128)) (Nat.le_refl _)
    have hol2 : ((over (zeros 128) 0 zs).set r 128).length = 128 := by rw [List.length_set]; exact hol
    clear c2 f2 H1 B1 H2 O2 hol
    generalize (over (zeros 128) 0 zs).set r 128 = l0 at *
    go_loopw [25] (fun i wr => ∃ k : Nat, k ≤ 8 ∧ i = .int .i64 k ∧ Has wr w.heap.size 5 .u8 (beUp l0 128 (8 * n) k) ∧ Below w.heap.size w wr) (fun i _ => 8 - (intOf i).toNat)
    case atStart => exact ⟨0, by omega, rfl, H3, B3⟩
    case round =>
      clear H3 B3
      obtain ⟨k, hk, rfl, HA, HW⟩ := hrel
      by_cases hlt : k < 8
      · have hlen := beUp_length l0 128 (8 * n) k
        have c1 := HA.cell (128 - 1 - k) (by rw [hlen, hol2]; omega)
        have f1 := HA.frozen (128 - 1 - k)
        have HB : Hid _ := byte_walk n k
        have HS : Hid (beUp l0 128 (8 * n) (k + 1) = (beUp l0 128 (8 * n) k).set (128 - 1 - k) (8 * n / 256 ^ k % 256)) := rfl
        have et : (128 - 1 - (k : Int)).toNat = 128 - 1 - k := by omega
        have et2 : ((127 : Int) - (k : Int)).toNat = 128 - 1 - k := by omega
        clear hlen
        go_wp2
        go_roundw
        case rel =>
          rw [HB.out]
          exact ⟨k + 1, by omega, by go_num, by rw [HS.out]; exact HA.set (128 - 1 - k) _, below_only HW (Only.setCell wr w.heap.size _ _) (Nat.le_refl _)⟩
        case measure => simp [intOf]; omega
      · have hk8 : k = 8 := by omega
        subst hk8
        rw [← HP.out] at HA
        go_wp2
        go_ret
        exact ⟨rfl, HA, HW⟩

set_option maxRecDepth 100000 in
set_option maxHeartbeats 2000000 in
theorem join_any (hs : List Nat) (hr : Reg hs) (w : World) :
    Calls Tryd.prog 57 #[.agg (nums .u32 hs)] w fun e w' => e = .returned (.agg (nums .u8 (joinUp hs 32))) ∧ Below w.heap.size w w' := by
  go_enter Tryd.func57, Tryd.ntmps57
  go_wp2_with (first
    | (refine wpList_box_has rfl 1 rfl 94 (.tmp 0) rfl .u32 hs rfl ?_; intro w1 H1 B1 S1)
    | (refine wpList_alloc_has rfl 2 rfl 24 rfl .u8 32 Tryd.zero24 ?_; intro w2 H2 B2 S2)
    | (refine wpList_alloc_has rfl 3 rfl 24 rfl .u8 32 Tryd.zero24 ?_; intro w3 H3 B3 S3))
  rw [S2] at H3 B3 S3
  rw [S1] at H2 B2 S3 B3 H3
  have HA : Has w3 w.heap.size 94 .u32 hs := (H1.keep (by rw [S1]; exact B2)).keep (by rw [S2, S1]; exact B3)
  have HB : Has w3 (w.heap.size + 1) 24 .u8 (zeros 32) := H2.keep (by rw [S2, S1]; exact B3)
  have HW : Below w.heap.size w w3 := (B1.trans (B2.mono (by omega))).trans (B3.mono (by omega))
  clear H1 B1 H2 B2 B3 
  go_loopw [5] (fun i wr => ∃ t : Nat, t ≤ 32 ∧ i = .int .i64 t ∧ Has wr w.heap.size 94 .u32 hs ∧ Has wr (w.heap.size + 1) 24 .u8 (zeros 32) ∧ Has wr (w.heap.size + 2) 24 .u8 (joinUp hs t) ∧ Below w.heap.size w wr) (fun i _ => 32 - (intOf i).toNat)
  case atStart => exact ⟨0, by omega, rfl, HA, HB, H3, HW⟩
  case round =>
    clear HA HB H3 HW
    obtain ⟨t, ht, rfl, HA, HB, HC, HW⟩ := hrel
    by_cases hlt : t < 32
    · have h8 := hr.1
      have c1 := HA.cell (t / 4) (by omega)
      have hl := joinUp_length hs t
      have c2 := HC.cell t (by omega)
      have f2 := HC.frozen t
      have HS : Hid (joinUp hs (t + 1) = (joinUp hs t).set t (hs.getD (t / 4) 0 / 2 ^ (24 - 8 * (t % 4)) % 256)) := rfl
      have bx := reg_getD hs hr (t / 4)
      generalize hs.getD (t / 4) 0 = x at *
      clear hl h8
      go_wp2
      go_roundw
      case rel =>
        have e1 : (x : Int) / 2 ^ (24 - 8 * (t % 4)) % 256 = ((x / 2 ^ (24 - 8 * (t % 4)) % 256 : Nat) : Int) := by simp
        rw [e1]
        have HO := Only.setCell wr (w.heap.size + 2) t (.int .u8 ((x / 2 ^ (24 - 8 * (t % 4)) % 256 : Nat) : Int))
        exact ⟨t + 1, by omega, by go_num, HA.only HO (by omega), HB.only HO (by omega), by rw [HS.out]; exact HC.set t _, below_only HW HO (by omega)⟩
      case measure => simp [intOf]; omega
    · have ht2 : t = 32 := by omega
      subst ht2
      have h9 := joinUp_length hs 32
      go_wp2_with (first
        | (refine wpList_load_has rfl 24 (.tmp 3) rfl (w.heap.size + 2) .u8 (joinUp hs 32) rfl 24 HC _ _ Tryd.und24 (by rw [h9]; exact Tryd.size24) ?_)
        | (refine wpList_store_has rfl 24 (.tmp 2) (.tmp 21) rfl (w.heap.size + 1) .u8 (joinUp hs 32) (zeros 32) rfl rfl 24 HB (by rw [h9]; exact Tryd.size24) (by rw [h9, zeros_length]) ?_; intro w9 H9 O9))
      refine bodyPost_ret (results_has rfl _ _ (w.heap.size + 1) 24 .u8 (joinUp hs 32) _ _ rfl H9 Tryd.und24 (by rw [h9]; exact Tryd.size24)) rfl ?_
      exact ⟨rfl, below_only HW O9 (by omega)⟩
end Go.Proofs.YtakdokccdkhcoaaDoor

/- Contract of digest.Of: the digest of bytes. -/
namespace Go.Proofs.YtakdokccdkhcoaaDoor
open Go.RowKit
set_option linter.unusedVariables false

/-- Both tables stand as the program's text lays them. -/
def Tabs (w : World) : Prop := (∀ i, i < 8 → w.cell? ⟨0, i, none⟩ = some (.int .u32 (startNums.getD i 0 : Nat))) ∧ TabR w
theorem Tabs.keep {w w' : World} (h : Tabs w) (hb : Below w.heap.size w w') : Tabs w' := ⟨fun i hi =>
  (hb.cell (p := ⟨0, i, none⟩) (block_lt_of_cell (h.1 i hi))).trans (h.1 i hi), h.2.keep hb⟩

theorem hid {p : Prop} (h : p) : Hid p := h
/-- An equation of lists that nothing looks into (a bare one, and one inside 'Hid', is laid open at every step of a walk: both sides are reckoned). -/
structure Same {α : Type} (a b : α) : Prop where
  out : a = b

/-- Eight words, as cells, one by one. -/
theorem nums8 (a b c d e f g h : Nat) : nums .u32 [a, b, c, d, e, f, g, h] = #[.int .u32 a, .int .u32 b, .int .u32 c, .int .u32 d, .int .u32 e, .int .u32 f, .int .u32 g, .int .u32 h] := rfl
theorem Has.cells8 {w : World} {B : Nat} {t : TypeId} {a b c d e f g h : Nat} (H : Has w B t .u32 [a, b, c, d, e, f, g, h]) :
    w.cell? ⟨B, 0, none⟩ = some (.int .u32 a) ∧ w.cell? ⟨B, 1, none⟩ = some (.int .u32 b) ∧ w.cell? ⟨B, 2, none⟩ = some (.int .u32 c) ∧ w.cell? ⟨B, 3, none⟩ = some (.int .u32 d) ∧
    w.cell? ⟨B, 4, none⟩ = some (.int .u32 e) ∧ w.cell? ⟨B, 5, none⟩ = some (.int .u32 f) ∧ w.cell? ⟨B, 6, none⟩ = some (.int .u32 g) ∧ w.cell? ⟨B, 7, none⟩ = some (.int .u32 h) :=
  ⟨H.cell 0 (by simp), H.cell 1 (by simp), H.cell 2 (by simp), H.cell 3 (by simp), H.cell 4 (by simp), H.cell 5 (by simp), H.cell 6 (by simp), H.cell 7 (by simp)⟩
theorem Has.set8 {w : World} {B : Nat} {t : TypeId} {l : List Nat} (H : Has w B t .u32 l) (hl : l.length = 8) (a b c d e f g h : Nat) :
    Has ((((((((w.setCell ⟨B, 0, none⟩ (.int .u32 a)).setCell ⟨B, 1, none⟩ (.int .u32 b)).setCell ⟨B, 2, none⟩ (.int .u32 c)).setCell ⟨B, 3, none⟩ (.int .u32 d)).setCell ⟨B, 4, none⟩ (.int .u32 e)).setCell ⟨B, 5, none⟩ (.int .u32 f)).setCell ⟨B, 6, none⟩ (.int .u32 g)).setCell ⟨B, 7, none⟩ (.int .u32 h)) B t .u32 [a, b, c, d, e, f, g, h] ∧
    Only B w ((((((((w.setCell ⟨B, 0, none⟩ (.int .u32 a)).setCell ⟨B, 1, none⟩ (.int .u32 b)).setCell ⟨B, 2, none⟩ (.int .u32 c)).setCell ⟨B, 3, none⟩ (.int .u32 d)).setCell ⟨B, 4, none⟩ (.int .u32 e)).setCell ⟨B, 5, none⟩ (.int .u32 f)).setCell ⟨B, 6, none⟩ (.int .u32 g)).setCell ⟨B, 7, none⟩ (.int .u32 h)) := by
  constructor
  · obtain ⟨x0, x1, x2, x3, x4, x5, x6, x7, rfl⟩ := eight l hl
    exact (((((((H.set 0 a).set 1 b).set 2 c).set 3 d).set 4 e).set 5 f).set 6 g).set 7 h
  · exact (((((((Only.setCell _ B 0 _).trans (Only.setCell _ B 1 _)).trans (Only.setCell _ B 2 _)).trans (Only.setCell _ B 3 _)).trans (Only.setCell _ B 4 _)).trans (Only.setCell _ B 5 _)).trans (Only.setCell _ B 6 _)).trans (Only.setCell _ B 7 _)

/-- The length of a slice that a slot holds. -/
def lenOf : Value → Nat | .slice _ n _ => n | _ => 0

set_option maxRecDepth 100000 in
set_option maxHeartbeats 1000000 in
theorem of_any (ao : Option Addr) (cap : Nat) (zs : List Nat) (w : World) (hT : Tabs w) (hcap : zs.length ≤ cap) (hm : cap ≤ maxLen) (hL : zs.length ≤ 281474976710656) (hby : ∀ z ∈ zs, z < 256) (hz : Reads w ao zs) :
    Calls Tryd.prog 32 #[.slice ao zs.length cap] w fun e w' => e = .returned (.agg (nums .u8 (sha zs))) ∧ Below w.heap.size w w' := by
  go_enter Tryd.func32, Tryd.ntmps32
  go_wp2_with (first
    | (refine wpList_alloc_has rfl 2 rfl 24 rfl .u8 32 Tryd.zero24 ?_; intro w1 H1 B1 S1)
    | (refine wpList_load_cells rfl 94 (.global 0) rfl 0 .u32 startNums rfl (hT.keep B1).1 _ _ Tryd.underlying94 Tryd.size94 ?_)
    | (refine wpList_alloc_has rfl 3 rfl 94 rfl .u32 8 Tryd.zero94 ?_; intro w2 H2 B2 S2)
    | (refine wpList_store_has rfl 94 (.tmp 3) (.tmp 6) rfl w1.heap.size .u32 startNums (zeros 8) rfl rfl 94 H2 Tryd.size94 (by rw [zeros_length]; rfl) ?_; intro w3 H3 O3))
  rw [S1] at H2 B2 S2 H3 O3
  have HA : Has w3 w.heap.size 24 .u8 (zeros 32) := (H1.keep (by rw [S1]; exact B2)).only O3 (by omega)
  have HW : Below w.heap.size w w3 := below_only (B1.trans (B2.mono (by omega))) O3 (by omega)
  clear H1 B1 H2 B2 O3 S1 S2
  unfold maxLen at hm
  go_loopw [4] (fun v wr => ∃ k ap, 64 * k ≤ zs.length ∧ v = .slice ap (zs.length - 64 * k) (cap - 64 * k) ∧ Reads w ap (zs.drop (64 * k)) ∧ Has wr w.heap.size 24 .u8 (zeros 32) ∧ Has wr (w.heap.size + 1) 94 .u32 (absorb startNums zs k) ∧ Below w.heap.size w wr) (fun v _ => lenOf v)
  case atStart => exact ⟨0, ao, by omega, rfl, by rw [Nat.mul_zero, List.drop_zero]; exact hz, HA, H3, HW⟩
  case round =>
    clear HA H3 HW hz
    obtain ⟨k, ap, hk, rfl, HR, HA, HB, HW⟩ := hrel
    have hreg := absorb_reg startNums zs start_reg k
    have h8 := hreg.1
    by_cases hlt : 64 ≤ zs.length - 64 * k
    · have hcs : ∃ b off, ap = some ⟨b, off, none⟩ ∧ ∀ i, i < zs.length - 64 * k → wr.cell? ⟨b, off + i, none⟩ = some (.int .u8 (zs.getD (64 * k + i) 0 : Nat)) := by
        rcases HR.keep HW with HR | ⟨b, off, rfl, hc⟩
        · rw [List.length_drop] at HR; omega
        · exact ⟨b, off, rfl, fun i hi => by have := hc i (by rw [List.length_drop]; exact hi); rw [drop_getD] at this; exact this⟩
      obtain ⟨b, off, rfl, hc⟩ := hcs
      have HM : ∀ w', Tabs w' → (∀ i, i < 64 → w'.cell? ⟨b, off + i, none⟩ = some (.int .u8 ((blk zs k).getD i 0 : Nat))) → Calls Tryd.prog 55 #[.agg (nums .u32 (absorb startNums zs k)), .slice (some ⟨b, off, none⟩) 64 (cap - 64 * k)] w' fun e w'' => e = .returned (.agg (nums .u32 (absorb startNums zs (k + 1)))) ∧ Below w'.heap.size w' w'' := fun w' ht hcc =>
        mix_any (absorb startNums zs k) hreg b off (cap - 64 * k) (blk zs k) w' ht.2 (blk_length zs k (by omega)) (by omega) (by unfold maxLen; omega) (blk_mem zs k hby) hcc
      have HM2 := HM wr.drew ((hT.keep HW).keep (Below.refl _ _).drew) (fun i hi => by rw [blk_getD zs k i hi]; exact hc i (by omega))
      have hreg2 := absorb_reg startNums zs start_reg (k + 1)
      have h82 := hreg2.1
      have HBd : Has wr.drew (w.heap.size + 1) 94 .u32 (absorb startNums zs k) := HB
      clear HM
      generalize absorb startNums zs k = hs at *
      generalize hs2e : absorb startNums zs (k + 1) = hs2 at *
      have HS2 := hid hs2e
      have HC := hid hc
      clear hs2e hc
      obtain ⟨ra, rb, rc, rd, re, rf, rg, rh, rfl⟩ := eight hs h8
      obtain ⟨sa, sb, sc, sd, se, sf, sg, sh, rfl⟩ := eight hs2 h82
      obtain ⟨c0, c1, c2, c3, c4, c5, c6, c7⟩ := HB.cells8
      rw [nums8, nums8] at HM2
      have HQ := hid HM2
      clear HM2
      go_wp2
      go_region_with (go_at_call 55; refine HQ.out.mono ?_; rintro e w5 ⟨rfl, B5⟩; have HB5 := HBd.keep B5; obtain ⟨d0, d1, d2, d3, d4, d5, d6, d7⟩ := HB5.cells8; have f5 := HB5.frozen)
      all_goals
        obtain ⟨H6, O6⟩ := HB5.set8 rfl sa sb sc sd se sf sg sh
        have HA6 := (HA.drew.keep B5).only O6 (by omega)
        have HW6 := below_only (below_more HW.drew B5 (Nat.le_refl _)) O6 (by omega)
        have HR2 : Hid (∀ i, i < zs.length - 64 * k → w.cell? ⟨b, off + i, none⟩ = some (.int .u8 (zs.getD (64 * k + i) 0 : Nat))) := by
          rcases HR with HR | ⟨b', off', he, hc⟩
          · rw [List.length_drop] at HR; omega
          · obtain ⟨rfl, rfl⟩ : b = b' ∧ off = off' := by simpa using he
            exact fun i hi => by have := hc i (by rw [List.length_drop]; exact hi); rw [drop_getD] at this; exact this
        rw [← HS2.out] at H6
        have hk2 : 64 * (k + 1) ≤ zs.length := by omega
        have e1 : zs.length - 64 * k - 64 = zs.length - 64 * (k + 1) := by omega
        have e2 : cap - 64 * k - 64 = cap - 64 * (k + 1) := by omega
        have E1 := hid e1
        have E2 := hid e2
        clear d0 d1 d2 d3 d4 d5 d6 d7 c0 c1 c2 c3 c4 c5 c6 c7 f5 HC HBd HB5 HQ e1 e2 O6
        generalize ((((((((w5.setCell ⟨w.heap.size + 1, 0, none⟩ (.int .u32 sa)).setCell ⟨w.heap.size + 1, 1, none⟩ (.int .u32 sb)).setCell ⟨w.heap.size + 1, 2, none⟩ (.int .u32 sc)).setCell ⟨w.heap.size + 1, 3, none⟩ (.int .u32 sd)).setCell ⟨w.heap.size + 1, 4, none⟩ (.int .u32 se)).setCell ⟨w.heap.size + 1, 5, none⟩ (.int .u32 sf)).setCell ⟨w.heap.size + 1, 6, none⟩ (.int .u32 sg)).setCell ⟨w.heap.size + 1, 7, none⟩ (.int .u32 sh)) = w6 at *
        by_cases hce : cap - 64 * k = 64
        · go_wp2
          go_roundw
          case rel =>
            refine ⟨k + 1, some ⟨b, off, none⟩, hk2, by rw [← E1.out, ← E2.out, hce], .inl (by rw [List.length_drop]; omega), HA6, H6, HW6⟩
          case measure => simp [lenOf]; omega
        · go_wp2
          go_roundw
          case rel =>
            refine ⟨k + 1, _, hk2, by rw [← E1.out, ← E2.out], .inr ⟨b, off + 64, rfl, fun i hi => ?_⟩, HA6, H6, HW6⟩
            rw [List.length_drop] at hi
            rw [drop_getD, Nat.add_assoc, HR2.out (64 + i) (by omega)]
            congr 4; omega
          case measure => simp [lenOf]; omega
    · go_wp2_with fail
      have hkq : k = zs.length / 64 := by omega
      have HSH : Same (sha zs) _ := ⟨sha_parts zs k hkq (if zs.length - 64 * k + 9 ≤ 64 then 64 else 128) rfl⟩
      have HE := ending_any ap (cap - 64 * k) (zs.drop (64 * k)) zs.length (if zs.length - 64 * k + 9 ≤ 64 then 64 else 128) (by rw [List.length_drop]) (by rw [List.length_drop]; omega) (by omega) wr (HR.keep HW)
      rw [List.length_drop] at HE
      have hL2 : (if zs.length - 64 * k + 9 ≤ 64 then 64 else 128) = 64 ∨ (if zs.length - 64 * k + 9 ≤ 64 then 64 else 128) = 128 := by split <;> simp
      have hpl := pad_length (zs.drop (64 * k)) (if zs.length - 64 * k + 9 ≤ 64 then 64 else 128) (8 * zs.length) (by rw [List.length_drop]; split <;> omega)
      have hpb : ∀ z ∈ pad (zs.drop (64 * k)) (if zs.length - 64 * k + 9 ≤ 64 then 64 else 128) (8 * zs.length), z < 256 := pad_bytes _ _ _ (fun z hz => hby z (List.mem_of_mem_drop hz))
      generalize (if zs.length - 64 * k + 9 ≤ 64 then 64 else 128) = L at *
      generalize pad (zs.drop (64 * k)) L (8 * zs.length) = ps at *
      generalize absorb startNums zs k = hs0 at *
      have HEQ := hid HE
      have HPL := hid hpl
      have HL2 := hid hL2
      have HPB := hid hpb
      clear HE hkq hpl hL2 hpb
      refine HEQ.out.mono ?_
      rintro e w4 ⟨rfl, H4, B4⟩
      have HA4 := HA.keep B4
      have HB4 := HB.keep B4
      have HW4 := below_more HW B4 (Nat.le_refl _)
      have hE : w.heap.size + 1 < wr.heap.size := HB.lt
      have HEE := hid hE
      clear HEQ HA HB HW B4 HR
      generalize wr.heap.size = E at *
      go_wp2
      generalize decide ((64 : Int) ≤ ((zs.length - 64 * k : Nat) : Int)) = bb
      clear hlt hk hby hL hcap hm
      go_loopw [5] (fun v wr => ∃ j ap, 64 * j ≤ L ∧ v = .slice ap (L - 64 * j) (L - 64 * j) ∧ (0 < L - 64 * j → ap = some ⟨E, 64 * j, none⟩) ∧ Has wr E 5 .u8 ps ∧ Has wr w.heap.size 24 .u8 (zeros 32) ∧ Has wr (w.heap.size + 1) 94 .u32 (absorb hs0 ps j) ∧ Below w.heap.size w wr) (fun v _ => lenOf v)
      case atStart => exact ⟨0, _, by omega, rfl, fun _ => rfl, H4, HA4, HB4, HW4⟩
      case round =>
        clear HA4 HB4 HW4 H4 h8
        obtain ⟨j, aq, hj, rfl, hap, HP, HA, HB, HW⟩ := hrel
        have hreg1 := absorb_reg hs0 ps hreg j
        have h8 := hreg1.1
        have hLb : L ≤ 128 := by rcases HL2.out with h | h <;> omega
        have hL3 := HL2.out
        by_cases hlt : 64 ≤ L - 64 * j
        · obtain rfl := hap (by omega)
          have HM2 := mix_any (absorb hs0 ps j) hreg1 E (64 * j) (L - 64 * j) (blk ps j) wr.drew ((hT.keep HW).keep (Below.refl _ _).drew).2 (blk_length ps j (by rw [HPL.out]; omega)) (by omega) (by unfold maxLen; omega) (blk_mem ps j HPB.out) (fun i hi => by
            rw [blk_getD ps j i hi]; exact HP.cell (64 * j + i) (by rw [HPL.out]; omega))
          have hreg2 := absorb_reg hs0 ps hreg (j + 1)
          have h82 := hreg2.1
          have HBd : Has wr.drew (w.heap.size + 1) 94 .u32 (absorb hs0 ps j) := HB
          rw [show mixL (absorb hs0 ps j) (blk ps j) = absorb hs0 ps (j + 1) from by rw [absorb]] at HM2
          generalize absorb hs0 ps j = hs at *
          generalize hs2e : absorb hs0 ps (j + 1) = hs2 at *
          have HS2 := hid hs2e
          clear hs2e hap hL3
          obtain ⟨ra, rb, rc, rd, re, rf, rg, rh, rfl⟩ := eight hs h8
          obtain ⟨sa, sb, sc, sd, se, sf, sg, sh, rfl⟩ := eight hs2 h82
          obtain ⟨c0, c1, c2, c3, c4, c5, c6, c7⟩ := HB.cells8
          rw [nums8, nums8] at HM2
          have HQ := hid HM2
          clear HM2
          go_wp2
          go_region_with (go_at_call 55; refine HQ.out.mono ?_; rintro e w5 ⟨rfl, B5⟩; have HB5 := HBd.keep B5; obtain ⟨d0, d1, d2, d3, d4, d5, d6, d7⟩ := HB5.cells8; have f5 := HB5.frozen)
          all_goals
            obtain ⟨H6, O6⟩ := HB5.set8 rfl sa sb sc sd se sf sg sh
            have HA6 := (HA.drew.keep B5).only O6 (by omega)
            have HP6 := (HP.drew.keep B5).only O6 (by omega)
            have HW6 := below_only (below_more HW.drew B5 (Nat.le_refl _)) O6 (by omega)
            rw [← HS2.out] at H6
            have e1 : L - 64 * j - 64 = L - 64 * (j + 1) := by omega
            have hk2 : 64 * (j + 1) ≤ L := by omega
            have E1 := hid e1
            clear d0 d1 d2 d3 d4 d5 d6 d7 c0 c1 c2 c3 c4 c5 c6 c7 f5 HBd HB5 HQ e1 O6
            generalize ((((((((w5.setCell ⟨w.heap.size + 1, 0, none⟩ (.int .u32 sa)).setCell ⟨w.heap.size + 1, 1, none⟩ (.int .u32 sb)).setCell ⟨w.heap.size + 1, 2, none⟩ (.int .u32 sc)).setCell ⟨w.heap.size + 1, 3, none⟩ (.int .u32 sd)).setCell ⟨w.heap.size + 1, 4, none⟩ (.int .u32 se)).setCell ⟨w.heap.size + 1, 5, none⟩ (.int .u32 sf)).setCell ⟨w.heap.size + 1, 6, none⟩ (.int .u32 sg)).setCell ⟨w.heap.size + 1, 7, none⟩ (.int .u32 sh)) = w6 at *
            by_cases hce : L - 64 * j = 64
            · go_wp2
              go_roundw
              case rel =>
                refine ⟨j + 1, some ⟨E, 64 * j, none⟩, hk2, by rw [← E1.out, hce], fun h => by omega, HP6, HA6, H6, HW6⟩
              case measure => simp [lenOf]; omega
            · go_wp2
              go_roundw
              case rel =>
                refine ⟨j + 1, _, hk2, by rw [← E1.out], fun _ => by rw [Nat.mul_add], HP6, HA6, H6, HW6⟩
              case measure => simp [lenOf]; omega
        · have hjl : L / 64 = j := by omega
          have HS : Same (sha zs) (joinUp (absorb hs0 ps j) 32) := by rw [hjl] at HSH; exact HSH
          clear hjl hL3 hap HP HSH HEE
          generalize absorb hs0 ps j = hs at *
          go_wp2_with (first
            | (refine wpList_load_has rfl 94 (.tmp 3) rfl (w.heap.size + 1) .u32 hs rfl 94 HB _ _ Tryd.underlying94 (by rw [h8]; exact Tryd.size94) ?_)
            | (go_at_call 57; refine (join_any hs hreg1 _).mono ?_; rintro e w7 ⟨rfl, B7⟩; rw [← HS.out])
            | (refine wpList_store_has rfl 24 (.tmp 2) (.tmp 32) rfl w.heap.size .u8 (sha zs) (zeros 32) rfl rfl 24 (HA.keep B7) (by rw [sha_length]; exact Tryd.size24) (by rw [sha_length, zeros_length]) ?_; intro w9 H9 O9))
          refine bodyPost_ret (results_has rfl _ _ w.heap.size 24 .u8 (sha zs) _ _ rfl H9 Tryd.und24 (by rw [sha_length]; exact Tryd.size24)) rfl ?_
          exact ⟨rfl, below_only (below_more HW B7 (Nat.le_refl _)) O9 (Nat.le_refl _)⟩
end Go.Proofs.YtakdokccdkhcoaaDoor

/- Contract of the document's table of numbers, and a law for array literals. -/
namespace Go.Proofs.YtakdokccdkhcoaaDoor
open Go.RowKit
set_option linter.unusedVariables false

/-- An array literal. -/
theorem wpList_build_has {P : Program} {w : World} {ops : Array Oper} {rest : List Oper} {o : Oper} {a : Act} {Q : Exit → Act → World → Prop} (hgd : o.guard = none) (t : TypeId) (parts : Array (Nat × Operand)) (ho : o.op = .build t parts) (k : IntKind) (l : List Nat)
    (hb : P.built t (parts.map fun (i, x) => (i, a.eval x)).toList = some (nums k l))
    (h : wpList P ops Q rest (a.put o.dst (.agg (nums k l))) w) : wpList P ops Q (o :: rest) a w :=
  wpList_build hgd t parts ho (by rw [hb]; rfl) (by rw [hb]; exact h)

set_option maxRecDepth 100000 in
set_option maxHeartbeats 400000 in
theorem numbers_any (w : World) :
    Calls Tryd.prog 73 #[] w fun e w' => e = .returned (.agg (nums .u32 kNums)) ∧ Below w.heap.size w w' := by
  go_enter Tryd.func73, Tryd.ntmps73
  go_wp2_with (first
    | (refine wpList_alloc_has rfl 0 rfl 105 rfl .u32 64 Tryd.zero105 ?_; intro w1 H1 B1 S1)
    | (refine wpList_build_has rfl 105 _ rfl .u32 kNums (by kernel_rfl) ?_)
    | (refine wpList_store_has rfl 105 (.tmp 0) (.tmp 1) rfl w.heap.size .u32 kNums (zeros 64) rfl rfl 105 H1 Tryd.size105 (by rw [zeros_length]; rfl) ?_; intro w2 H2 O2))
  refine bodyPost_ret (results_has rfl _ _ w.heap.size 105 .u32 kNums _ _ rfl H2 Tryd.underlying105 Tryd.size105) rfl ?_
  exact ⟨rfl, below_only B1 O2 (Nat.le_refl _)⟩
end Go.Proofs.YtakdokccdkhcoaaDoor

