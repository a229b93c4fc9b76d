/- The plain mathematics of SHA-256, as the document says it: words below 2^32, blocks of 64 bytes. -/

namespace Go.Proofs.YtbmcmabimfoknaaGreatDoor
set_option maxRecDepth 100000

/-- So many zeros. -/
def zeros (n : Nat) : List Nat := List.replicate n 0
theorem zeros_length (n : Nat) : (zeros n).length = n := by unfold zeros; exact List.length_replicate
theorem zeros_getD (n i : Nat) : (zeros n).getD i 0 = 0 := by
  unfold zeros
  rw [List.getD_eq_getElem?_getD, List.getElem?_replicate]
  split <;> rfl

/-- x turned right by n bits (a word of 32 bits). -/
def rr (n x : Nat) : Nat := (x / 2 ^ n) ||| (x * 2 ^ (32 - n) % 4294967296)
theorem rr_lt (n x : Nat) (h : x < 4294967296) : rr n x < 4294967296 := by
  unfold rr
  exact Nat.or_lt_two_pow (n := 32) (Nat.lt_of_le_of_lt (Nat.div_le_self _ _) h) (Nat.mod_lt _ (by decide))
def sg0 (x : Nat) : Nat := rr 7 x ^^^ rr 18 x ^^^ x / 8
def sg1 (x : Nat) : Nat := rr 17 x ^^^ rr 19 x ^^^ x / 1024
theorem sg0_lt (x : Nat) (h : x < 4294967296) : sg0 x < 4294967296 := by
  unfold sg0
  exact Nat.xor_lt_two_pow (n := 32) (Nat.xor_lt_two_pow (n := 32) (rr_lt _ _ h) (rr_lt _ _ h)) (by omega)
theorem sg1_lt (x : Nat) (h : x < 4294967296) : sg1 x < 4294967296 := by
  unfold sg1
  exact Nat.xor_lt_two_pow (n := 32) (Nat.xor_lt_two_pow (n := 32) (rr_lt _ _ h) (rr_lt _ _ h)) (by omega)
def tOne (e f g h k w : Nat) : Nat := (h + (rr 6 e ^^^ rr 11 e ^^^ rr 25 e) + ((e &&& f) ^^^ ((4294967295 - e) &&& g)) + k + w) % 4294967296
def tTwo (a b c : Nat) : Nat := ((rr 2 a ^^^ rr 13 a ^^^ rr 22 a) + ((a &&& b) ^^^ (a &&& c) ^^^ (b &&& c))) % 4294967296

/-- The first j bytes of the word t of a block, the highest first. -/
def wpart (zs : List Nat) (t : Nat) : Nat → Nat
  | 0 => 0
  | j + 1 => wpart zs t j * 256 + zs.getD (4 * t + j) 0
/-- The word t, out of those ahead of it. -/
def nextW (l : List Nat) (t : Nat) : Nat := (l.getD (t - 16) 0 + sg0 (l.getD (t - 15) 0) + l.getD (t - 7) 0 + sg1 (l.getD (t - 2) 0)) % 4294967296
/-- The row of 64 words behind t steps. -/
def fill (zs : List Nat) : Nat → List Nat
  | 0 => zeros 64
  | t + 1 => (fill zs t).set t (if t < 16 then wpart zs t 4 else nextW (fill zs t) t)
theorem fill_length (zs : List Nat) (t : Nat) : (fill zs t).length = 64 := by
  induction t with
  | zero => simp only [fill, zeros_length]
  | succ t ih => simp [fill, ih]
theorem getD_set (l : List Nat) (i j v : Nat) : (l.set i v).getD j 0 = if i = j ∧ j < l.length then v else l.getD j 0 := by
  by_cases h : i = j
  · subst h
    by_cases h2 : i < l.length
    · simp [h2]
    · simp [h2]
  · simp [h]
theorem fill_zero (zs : List Nat) (t i : Nat) (h : t ≤ i) : (fill zs t).getD i 0 = 0 := by
  induction t with
  | zero => simp only [fill]; exact zeros_getD 64 i
  | succ t ih =>
    simp only [fill]
    rw [getD_set, if_neg (by omega)]
    exact ih (by omega)
theorem bytes_getD (zs : List Nat) (h : ∀ z ∈ zs, z < 256) (i : Nat) : zs.getD i 0 < 256 := by
  by_cases hi : i < zs.length
  · simp [hi]; exact h _ (List.getElem_mem hi)
  · simp [hi]
theorem wpart_lt (zs : List Nat) (h : ∀ z ∈ zs, z < 256) (t j : Nat) : wpart zs t j < 256 ^ j := by
  induction j with
  | zero => simp [wpart]
  | succ j ih =>
    have := bytes_getD zs h (4 * t + j)
    rw [wpart, Nat.pow_succ]; omega
theorem fill_lt (zs : List Nat) (h : ∀ z ∈ zs, z < 256) (t i : Nat) : (fill zs t).getD i 0 < 4294967296 := by
  induction t generalizing i with
  | zero => simp only [fill]; rw [zeros_getD]; decide
  | succ t ih =>
    simp only [fill]
    rw [getD_set]
    split
    · split
      · have := wpart_lt zs h t 4; omega
      · exact Nat.mod_lt _ (by decide)
    · exact ih i
theorem set_same (l : List Nat) (i : Nat) (h : l.getD i 0 = 0) : l.set i 0 = l := by
  apply List.ext_getElem?
  intro j
  rw [List.getElem?_set]
  split
  · rename_i e; subst e
    split
    · rename_i e2; simp [e2] at h ⊢; exact h.symm
    · rename_i e2; simp [e2]
  · rfl
theorem fill_start (zs : List Nat) (t : Nat) : (fill zs t).set t (wpart zs t 0) = fill zs t := set_same _ _ (fill_zero zs t t (Nat.le_refl _))
theorem fill_word (zs : List Nat) (t : Nat) (h : t < 16) : (fill zs t).set t (wpart zs t 4) = fill zs (t + 1) := by simp [fill, h]
theorem fill_next (zs : List Nat) (t : Nat) (h : ¬ t < 16) : (fill zs t).set t (nextW (fill zs t) t) = fill zs (t + 1) := by simp [fill, h]

/-- The numbers of the rounds, and those with which the registers begin. -/
def kNums : List Nat := [1116352408, 1899447441, 3049323471, 3921009573, 961987163, 1508970993, 2453635748, 2870763221, 3624381080, 310598401, 607225278, 1426881987, 1925078388, 2162078206, 2614888103, 3248222580, 3835390401, 4022224774, 264347078, 604807628, 770255983, 1249150122, 1555081692, 1996064986, 2554220882, 2821834349, 2952996808, 3210313671, 3336571891, 3584528711, 113926993, 338241895, 666307205, 773529912, 1294757372, 1396182291, 1695183700, 1986661051, 2177026350, 2456956037, 2730485921, 2820302411, 3259730800, 3345764771, 3516065817, 3600352804, 4094571909, 275423344, 430227734, 506948616, 659060556, 883997877, 958139571, 1322822218, 1537002063, 1747873779, 1955562222, 2024104815, 2227730452, 2361852424, 2428436474, 2756734187, 3204031479, 3329325298]
def startNums : List Nat := [1779033703, 3144134277, 1013904242, 2773480762, 1359893119, 2600822924, 528734635, 1541459225]
/-- One round. -/
def rnd (s : List Nat) (k w : Nat) : List Nat := match s with
  | [a, b, c, d, e, f, g, h] => [(tOne e f g h k w + tTwo a b c) % 4294967296, a, b, c, (d + tOne e f g h k w) % 4294967296, e, f, g]
  | _ => []
def rnds (hs ws : List Nat) : Nat → List Nat
  | 0 => hs
  | t + 1 => rnd (rnds hs ws t) (kNums.getD t 0) (ws.getD t 0)
/-- The registers with the letters added, the first i of them. -/
def addUp (hs rs : List Nat) : Nat → List Nat
  | 0 => hs
  | i + 1 => (addUp hs rs i).set i ((hs.getD i 0 + rs.getD i 0) % 4294967296)
/-- One block. -/
def mixL (hs zs : List Nat) : List Nat := addUp hs (rnds hs (fill zs 64) 64) 8
theorem eight (l : List Nat) (h : l.length = 8) : ∃ a b c d e f g i, l = [a, b, c, d, e, f, g, i] := by
  match l, h with
  | [a, b, c, d, e, f, g, i], _ => exact ⟨a, b, c, d, e, f, g, i, rfl⟩
/-- Eight words. -/
def Reg (l : List Nat) : Prop := l.length = 8 ∧ ∀ x ∈ l, x < 4294967296
theorem rnd_reg (s : List Nat) (k w : Nat) (h : Reg s) : Reg (rnd s k w) := by
  obtain ⟨a, b, c, d, e, f, g, i, rfl⟩ := eight s h.1
  have h2 := h.2
  simp at h2
  refine ⟨rfl, fun x hx => ?_⟩
  simp only [rnd, List.mem_cons, List.not_mem_nil, or_false] at hx
  rcases hx with rfl | rfl | rfl | rfl | rfl | rfl | rfl | rfl
  all_goals omega
theorem rnds_reg (hs ws : List Nat) (h : Reg hs) (t : Nat) : Reg (rnds hs ws t) := by
  induction t with
  | zero => exact h
  | succ t ih => exact rnd_reg _ _ _ ih
theorem addUp_length (hs rs : List Nat) (i : Nat) : (addUp hs rs i).length = hs.length := by
  induction i with
  | zero => rfl
  | succ i ih => simp [addUp, ih]
theorem addUp_old (hs rs : List Nat) (i j : Nat) (h : i ≤ j) : (addUp hs rs i).getD j 0 = hs.getD j 0 := by
  induction i with
  | zero => rfl
  | succ i ih =>
    rw [addUp, getD_set, if_neg (by omega)]
    exact ih (by omega)
theorem addUp_reg (hs rs : List Nat) (h : Reg hs) (i : Nat) : Reg (addUp hs rs i) := by
  induction i with
  | zero => exact h
  | succ i ih =>
    refine ⟨by rw [addUp_length]; exact h.1, fun x hx => ?_⟩
    rw [addUp] at hx
    rcases List.mem_or_eq_of_mem_set hx with hx | rfl
    · exact ih.2 x hx
    · omega
theorem mixL_reg (hs zs : List Nat) (h : Reg hs) : Reg (mixL hs zs) := addUp_reg _ _ h 8
theorem kNums_lt (i : Nat) : kNums.getD i 0 < 4294967296 := by
  by_cases h : i < 64
  · have : ∀ j, j < 64 → kNums.getD j 0 < 4294967296 := by decide +kernel
    exact this i h
  · have e : kNums[i]? = none := List.getElem?_eq_none (by show 64 ≤ i; omega)
    rw [List.getD_eq_getElem?_getD, e]; decide
theorem start_reg : Reg startNums := by unfold Reg startNums; decide
/-- cs laid over l from a place on. -/
def over (l : List Nat) (off : Nat) (cs : List Nat) : List Nat := l.take off ++ (cs ++ l.drop (off + cs.length))
theorem over_length (l : List Nat) (off : Nat) (cs : List Nat) (h : off + cs.length ≤ l.length) : (over l off cs).length = l.length := by simp [over]; omega

/-- The bytes of v, the lowest at the end of l's first n, the first k of them. -/
def beUp (l : List Nat) (n v : Nat) : Nat → List Nat
  | 0 => l
  | k + 1 => (beUp l n v k).set (n - 1 - k) (v / 256 ^ k % 256)
/-- zs, the mark, zeros, and v in eight bytes: n bytes in all. -/
def pad (zs : List Nat) (n v : Nat) : List Nat := beUp ((over (zeros n) 0 zs).set zs.length 128) n v 8
theorem beUp_length (l : List Nat) (n v k : Nat) : (beUp l n v k).length = l.length := by
  induction k with
  | zero => rfl
  | succ k ih => simp [beUp, ih]
theorem pad_length (zs : List Nat) (n v : Nat) (h : zs.length ≤ n) : (pad zs n v).length = n := by
  rw [pad, beUp_length, List.length_set, over_length _ _ _ (by rw [zeros_length]; omega), zeros_length]
/-- A word's bytes, the highest first: the first i of 32. -/
def joinUp (hs : List Nat) : Nat → List Nat
  | 0 => zeros 32
  | i + 1 => (joinUp hs i).set i (hs.getD (i / 4) 0 / 2 ^ (24 - 8 * (i % 4)) % 256)
theorem joinUp_length (hs : List Nat) (i : Nat) : (joinUp hs i).length = 32 := by
  induction i with
  | zero => exact zeros_length 32
  | succ i ih => simp [joinUp, ih]
theorem reg_getD (hs : List Nat) (h : Reg hs) (i : Nat) : hs.getD i 0 < 4294967296 := by
  by_cases hi : i < hs.length
  · simp [hi]; exact h.2 _ (List.getElem_mem hi)
  · simp [hi]
/-- A block of 64 bytes; so many blocks taken in; the digest. -/
def blk (m : List Nat) (j : Nat) : List Nat := (m.drop (64 * j)).take 64
def absorb (hs m : List Nat) : Nat → List Nat
  | 0 => hs
  | j + 1 => mixL (absorb hs m j) (blk m j)
def padTo (n : Nat) : Nat := (n + 72) / 64 * 64
def sha (zs : List Nat) : List Nat := joinUp (absorb startNums (pad zs (padTo zs.length) (8 * zs.length)) (padTo zs.length / 64)) 32
theorem absorb_reg (hs m : List Nat) (h : Reg hs) (j : Nat) : Reg (absorb hs m j) := by
  induction j with
  | zero => exact h
  | succ j ih => exact mixL_reg _ _ ih
theorem sha_length (zs : List Nat) : (sha zs).length = 32 := joinUp_length _ _
theorem over_getD (l : List Nat) (cs : List Nat) (i : Nat) : (over l 0 cs).getD i 0 = if i < cs.length then cs.getD i 0 else l.getD i 0 := by
  unfold over
  simp only [List.take_zero, List.nil_append, Nat.zero_add, List.getD_eq_getElem?_getD]
  split
  · rename_i hi; rw [List.getElem?_append_left hi]
  · rename_i hi; rw [List.getElem?_append_right (by omega), List.getElem?_drop]; congr 2; omega
theorem beUp_getD (l : List Nat) (n v k i : Nat) (hk : k ≤ n) (hn : n ≤ l.length) : (beUp l n v k).getD i 0 = if n - k ≤ i ∧ i < n then v / 256 ^ (n - 1 - i) % 256 else l.getD i 0 := by
  induction k with
  | zero => rw [if_neg (by omega)]; rfl
  | succ k ih =>
    rw [beUp, getD_set, beUp_length, ih (by omega)]
    by_cases h : n - 1 - k = i
    · rw [if_pos ⟨h, by omega⟩, if_pos ⟨by omega, by omega⟩]
      have : n - 1 - i = k := by omega
      rw [this]
    · rw [if_neg (by omega)]
      by_cases h2 : n - k ≤ i ∧ i < n
      · rw [if_pos h2, if_pos ⟨by omega, h2.2⟩]
      · rw [if_neg h2, if_neg (by omega)]
theorem pad_getD (zs : List Nat) (n v i : Nat) (h : zs.length + 9 ≤ n) : (pad zs n v).getD i 0 = if n - 8 ≤ i ∧ i < n then v / 256 ^ (n - 1 - i) % 256 else if i = zs.length then 128 else zs.getD i 0 := by
  have hl : (over (zeros n) 0 zs).length = n := by rw [over_length _ _ _ (by rw [zeros_length]; omega), zeros_length]
  rw [pad, beUp_getD _ _ _ _ _ (by omega) (by rw [List.length_set, hl]; exact Nat.le_refl _), getD_set, hl, over_getD, zeros_getD]
  split
  · rfl
  · by_cases h1 : i = zs.length
    · rw [if_pos ⟨h1.symm, by omega⟩, if_pos h1]
    · rw [if_neg (by omega), if_neg h1]
      split
      · rfl
      · rename_i h2
        rw [List.getD_eq_getElem?_getD, List.getElem?_eq_none (by omega)]; rfl
theorem ext_getD (l m : List Nat) (hl : l.length = m.length) (h : ∀ i, i < l.length → l.getD i 0 = m.getD i 0) : l = m := by
  apply List.ext_getElem hl
  intro i h1 h2
  have := h i h1
  simpa [h1, h2] using this
theorem drop_getD (l : List Nat) (d i : Nat) : (l.drop d).getD i 0 = l.getD (d + i) 0 := by
  simp [List.getD_eq_getElem?_getD, List.getElem?_drop]
theorem take_getD (l : List Nat) (d i : Nat) (h : i < d) : (l.take d).getD i 0 = l.getD i 0 := by
  simp [List.getD_eq_getElem?_getD, h]
/-- Whole blocks at the front are as they were. -/
theorem pad_blk (zs : List Nat) (n v j : Nat) (h : zs.length + 9 ≤ n) (hj : 64 * j + 64 ≤ zs.length) : blk (pad zs n v) j = blk zs j := by
  have hp := pad_length zs n v (by omega)
  apply ext_getD
  · simp only [blk, List.length_take, List.length_drop, hp]; omega
  · intro i hi
    simp only [blk, List.length_take, List.length_drop, hp] at hi
    rw [blk, blk, take_getD _ _ _ (by omega), take_getD _ _ _ (by omega), drop_getD, drop_getD, pad_getD zs n v _ h, if_neg (by omega), if_neg (by omega)]
/-- What is behind them is padded by itself. -/
theorem pad_drop (zs : List Nat) (n v d : Nat) (h : zs.length + 9 ≤ n) (hd : d ≤ zs.length) : (pad zs n v).drop d = pad (zs.drop d) (n - d) v := by
  have hp := pad_length zs n v (by omega)
  have hq := pad_length (zs.drop d) (n - d) v (by simp; omega)
  apply ext_getD
  · rw [List.length_drop, hp, hq]
  · intro i hi
    rw [List.length_drop, hp] at hi
    rw [drop_getD, pad_getD zs n v _ h, pad_getD (zs.drop d) (n - d) v i (by simp; omega), List.length_drop, drop_getD]
    by_cases h1 : n - 8 ≤ d + i
    · rw [if_pos ⟨h1, by omega⟩, if_pos ⟨by omega, by omega⟩]
      have : n - 1 - (d + i) = n - d - 1 - i := by omega
      rw [this]
    · rw [if_neg (show ¬ (n - 8 ≤ d + i ∧ d + i < n) by omega), if_neg (show ¬ (n - d - 8 ≤ i ∧ i < n - d) by omega)]
      by_cases h2 : d + i = zs.length
      · rw [if_pos h2, if_pos (by omega)]
      · rw [if_neg h2, if_neg (by omega)]
theorem absorb_congr (hs m m' : List Nat) (n : Nat) (h : ∀ j, j < n → blk m j = blk m' j) : absorb hs m n = absorb hs m' n := by
  induction n with
  | zero => rfl
  | succ n ih => rw [absorb, absorb, ih (fun j hj => h j (by omega)), h n (by omega)]
theorem absorb_add (hs m : List Nat) (q e : Nat) : absorb hs m (q + e) = absorb (absorb hs m q) (m.drop (64 * q)) e := by
  induction e with
  | zero => rfl
  | succ e ih =>
    rw [← Nat.add_assoc, absorb, absorb, ih]
    congr 1
    simp only [blk, List.drop_drop]
    congr 2; omega
/-- How the program goes about it: the whole blocks, then what is left, padded by itself. -/
theorem sha_parts (zs : List Nat) (q : Nat) (hq : q = zs.length / 64) (n : Nat) (hn : n = if zs.length - 64 * q + 9 ≤ 64 then 64 else 128) :
    sha zs = joinUp (absorb (absorb startNums zs q) (pad (zs.drop (64 * q)) n (8 * zs.length)) (n / 64)) 32 := by
  have h64 : 64 * (zs.length / 64) ≤ zs.length := Nat.mul_div_le _ _
  have h65 : zs.length < 64 * (zs.length / 64) + 64 := by omega
  subst hq
  have hM : padTo zs.length = 64 * (zs.length / 64) + n := by
    unfold padTo
    split at hn <;> omega
  have hN : padTo zs.length / 64 = zs.length / 64 + n / 64 := by
    rw [hM]
    split at hn <;> omega
  have h9 : zs.length + 9 ≤ padTo zs.length := by rw [hM]; split at hn <;> omega
  rw [sha, hN, absorb_add, pad_drop zs _ _ _ h9 h64, absorb_congr startNums (pad zs (padTo zs.length) (8 * zs.length)) zs _ (fun j hj => pad_blk zs _ _ j h9 (by omega))]
  congr 4
  omega
theorem mem_getD (l : List Nat) (z : Nat) (h : z ∈ l) : ∃ i, i < l.length ∧ l.getD i 0 = z := by
  obtain ⟨i, hi, e⟩ := List.mem_iff_getElem.1 h
  exact ⟨i, hi, by simp [hi, e]⟩
theorem over_bytes (l : List Nat) (cs : List Nat) (h : ∀ z ∈ l, z < 256) (h2 : ∀ z ∈ cs, z < 256) (off : Nat) : ∀ z ∈ over l off cs, z < 256 := by
  intro z hz
  simp only [over, List.mem_append] at hz
  rcases hz with hz | hz | hz
  · exact h z (List.mem_of_mem_take hz)
  · exact h2 z hz
  · exact h z (List.mem_of_mem_drop hz)
theorem set_bytes (l : List Nat) (i v : Nat) (h : ∀ z ∈ l, z < 256) (hv : v < 256) : ∀ z ∈ l.set i v, z < 256 := by
  intro z hz
  rcases List.mem_or_eq_of_mem_set hz with hz | rfl
  · exact h z hz
  · exact hv
theorem beUp_bytes (l : List Nat) (n v k : Nat) (h : ∀ z ∈ l, z < 256) : ∀ z ∈ beUp l n v k, z < 256 := by
  induction k with
  | zero => exact h
  | succ k ih => exact set_bytes _ _ _ ih (Nat.mod_lt _ (by decide))
theorem zeros_bytes (n : Nat) : ∀ z ∈ zeros n, z < 256 := by
  intro z hz
  obtain ⟨i, _, e⟩ := mem_getD _ _ hz
  rw [zeros_getD] at e; omega
theorem pad_bytes (zs : List Nat) (n v : Nat) (h : ∀ z ∈ zs, z < 256) : ∀ z ∈ pad zs n v, z < 256 :=
  beUp_bytes _ _ _ _ (set_bytes _ _ _ (over_bytes _ _ (zeros_bytes n) h 0) (by decide))
theorem blk_length (m : List Nat) (j : Nat) (h : 64 * j + 64 ≤ m.length) : (blk m j).length = 64 := by simp [blk]; omega
theorem blk_getD (m : List Nat) (j i : Nat) (h : i < 64) : (blk m j).getD i 0 = m.getD (64 * j + i) 0 := by rw [blk, take_getD _ _ _ h, drop_getD]
theorem blk_mem (m : List Nat) (j : Nat) (h : ∀ z ∈ m, z < 256) : ∀ z ∈ blk m j, z < 256 := fun z hz => h z (List.mem_of_mem_drop (List.mem_of_mem_take hz))
end Go.Proofs.YtbmcmabimfoknaaGreatDoor
