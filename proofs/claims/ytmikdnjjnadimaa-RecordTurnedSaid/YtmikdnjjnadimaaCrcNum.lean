/- CRC-32 in words of bit vectors: one bit's step, a byte's, a text's; the steps go through exclusive or, and none takes a register that is not none to none; so what is turned within 32 bits that follow one another always turns the sum. Plain mathematics: no program is named. -/
namespace Go.Proofs.Ytmikdnjjnadimaa.Crc

/-- One bit. -/
def step (r : BitVec 32) : BitVec 32 := if r.getLsbD 0 then (r >>> 1) ^^^ 0xEDB88320#32 else r >>> 1
def steps : Nat → BitVec 32 → BitVec 32
  | 0, r => r
  | n + 1, r => steps n (step r)
/-- A byte. -/
def byte (r : BitVec 32) (c : UInt8) : BitVec 32 := steps 8 (r ^^^ BitVec.ofNat 32 c.toNat)
def upd : BitVec 32 → List UInt8 → BitVec 32
  | r, [] => r
  | r, c :: l => upd (byte r c) l
/-- The sum of a text behind a text whose sum is c. -/
def crc (c : BitVec 32) (l : List UInt8) : BitVec 32 := ~~~ (upd (~~~ c) l)

theorem step_xor (a b : BitVec 32) : step (a ^^^ b) = step a ^^^ step b := by
  have hs : (a ^^^ b) >>> 1 = (a >>> 1) ^^^ (b >>> 1) := by
    apply BitVec.eq_of_getLsbD_eq
    intro i hi
    simp
  have h0 : (a ^^^ b).getLsbD 0 = (a.getLsbD 0 ^^ b.getLsbD 0) := by simp
  unfold step
  rw [h0, hs]
  generalize a >>> 1 = x
  generalize b >>> 1 = y
  generalize (0xEDB88320#32 : BitVec 32) = p
  cases a.getLsbD 0 <;> cases b.getLsbD 0
  · rfl
  · show (x ^^^ y) ^^^ p = x ^^^ (y ^^^ p)
    ac_rfl
  · show (x ^^^ y) ^^^ p = (x ^^^ p) ^^^ y
    ac_rfl
  · show x ^^^ y = (x ^^^ p) ^^^ (y ^^^ p)
    rw [show (x ^^^ p) ^^^ (y ^^^ p) = (x ^^^ y) ^^^ (p ^^^ p) by ac_rfl, BitVec.xor_self, BitVec.xor_zero]
theorem step_zero : step 0#32 = 0#32 := by decide
theorem step_ne {r : BitVec 32} (h : step r = 0#32) : r = 0#32 := by
  unfold step at h
  cases h0 : r.getLsbD 0
  · rw [h0] at h
    apply BitVec.eq_of_getLsbD_eq
    intro i hi
    cases i with
    | zero => simpa using h0
    | succ i =>
      have := congrArg (fun x => x.getLsbD i) h
      simp [Nat.add_comm] at this
      simpa using this
  · rw [h0, if_pos rfl] at h
    have := congrArg (fun x => x.getLsbD 31) h
    simp at this
theorem steps_xor (n : Nat) (a b : BitVec 32) : steps n (a ^^^ b) = steps n a ^^^ steps n b := by
  induction n generalizing a b with
  | zero => rfl
  | succ n ih => rw [steps, steps, steps, step_xor, ih]
theorem steps_zero (n : Nat) : steps n 0#32 = 0#32 := by
  induction n with
  | zero => rfl
  | succ n ih => rw [steps, step_zero, ih]
theorem steps_ne (n : Nat) {r : BitVec 32} (h : steps n r = 0#32) : r = 0#32 := by
  induction n generalizing r with
  | zero => exact h
  | succ n ih => exact step_ne (ih h)
theorem steps_add (m n : Nat) (r : BitVec 32) : steps (m + n) r = steps n (steps m r) := by
  induction m generalizing r with
  | zero => rw [Nat.zero_add]; rfl
  | succ m ih => rw [Nat.succ_add, steps, steps, ih]
theorem byte_xor (r s : BitVec 32) (c d : UInt8) : byte (r ^^^ s) (c ^^^ d) = byte r c ^^^ byte s d := by
  unfold byte
  rw [← steps_xor]
  congr 1
  have e : BitVec.ofNat 32 (c ^^^ d).toNat = BitVec.ofNat 32 c.toNat ^^^ BitVec.ofNat 32 d.toNat := by
    rw [UInt8.toNat_xor]
    apply BitVec.eq_of_toNat_eq
    simp
  rw [e]
  ac_rfl
theorem upd_append (r : BitVec 32) (a b : List UInt8) : upd r (a ++ b) = upd (upd r a) b := by
  induction a generalizing r with
  | nil => rfl
  | cons c l ih => exact ih _
theorem crc_append (c : BitVec 32) (a b : List UInt8) : crc c (a ++ b) = crc (crc c a) b := by
  unfold crc; rw [BitVec.not_not, upd_append]
/-- Two texts of one length, byte by byte. -/
def xors : List UInt8 → List UInt8 → List UInt8
  | c :: a, d :: b => (c ^^^ d) :: xors a b
  | _, _ => []
theorem upd_xor : ∀ (a b : List UInt8) (r s : BitVec 32), a.length = b.length → upd (r ^^^ s) (xors a b) = upd r a ^^^ upd s b
  | [], [], r, s, _ => rfl
  | c :: a, d :: b, r, s, h => by
    rw [xors, upd, upd, upd, byte_xor]
    exact upd_xor a b _ _ (by simpa using h)
  | [], d :: b, r, s, h => by simp at h
  | c :: a, [], r, s, h => by simp at h

/-! Bits. -/
def bit (b : Bool) : BitVec 32 := if b then 1#32 else 0#32
def feed : BitVec 32 → List Bool → BitVec 32
  | r, [] => r
  | r, b :: l => feed (step (r ^^^ bit b)) l
def ofBits : List Bool → BitVec 32
  | [] => 0#32
  | b :: l => bit b ^^^ (ofBits l <<< 1)
theorem bit_at (b : Bool) (i : Nat) : (bit b).getLsbD i = (decide (i = 0) && b) := by
  cases b
  · simp [bit]
  · simp [bit]
theorem ofBits_at : ∀ (l : List Bool) (i : Nat), i < 32 → (ofBits l).getLsbD i = l.getD i false
  | [], i, h => by simp [ofBits]
  | b :: l, 0, _ => by
    rw [ofBits, BitVec.getLsbD_xor, bit_at, BitVec.getLsbD_shiftLeft]
    simp
  | b :: l, i + 1, h => by
    have := ofBits_at l i (by omega)
    rw [ofBits, BitVec.getLsbD_xor, bit_at, BitVec.getLsbD_shiftLeft, show i + 1 - 1 = i by omega, this]
    simp [h]
theorem step_shift (x : BitVec 32) (h : x.getLsbD 31 = false) : step (x <<< 1) = x := by
  have h0 : (x <<< 1).getLsbD 0 = false := by simp
  unfold step
  rw [h0, if_neg (by decide)]
  apply BitVec.eq_of_getLsbD_eq
  intro i hi
  rw [BitVec.getLsbD_ushiftRight, BitVec.getLsbD_shiftLeft]
  by_cases e : i = 31
  · subst e; rw [h]; simp
  · have : 1 + i < 32 := by omega
    have e2 : 1 + i - 1 = i := by omega
    rw [e2]
    simp [this]
theorem feed_steps : ∀ (l : List Bool) (r : BitVec 32), l.length ≤ 32 → feed r l = steps l.length (r ^^^ ofBits l)
  | [], r, _ => by simp [feed, steps, ofBits]
  | b :: l, r, h => by
    rw [feed, feed_steps l _ (by simp at h; omega), List.length_cons, steps, ofBits]
    have h31 : (ofBits l).getLsbD 31 = false := by
      rw [ofBits_at l 31 (by decide)]
      simp [List.getD, List.getElem?_eq_none (show l.length ≤ 31 by simp at h; omega)]
    rw [show r ^^^ (bit b ^^^ ofBits l <<< 1) = (r ^^^ bit b) ^^^ (ofBits l <<< 1) by ac_rfl, step_xor (r ^^^ bit b), step_shift _ h31]
theorem feed_append : ∀ (a b : List Bool) (r : BitVec 32), feed r (a ++ b) = feed (feed r a) b
  | [], _, _ => rfl
  | _ :: a, b, _ => feed_append a b _
theorem feed_zeros : ∀ (n : Nat) (r : BitVec 32), feed r (List.replicate n false) = steps n r
  | 0, r => rfl
  | n + 1, r => by
    rw [List.replicate_succ, feed, feed_zeros n, steps]
    simp [bit]
def bits8 (c : UInt8) : List Bool := (List.range 8).map fun i => c.toNat.testBit i
theorem ofBits_byte (c : UInt8) : ofBits (bits8 c) = BitVec.ofNat 32 c.toNat := by
  apply BitVec.eq_of_getLsbD_eq
  intro i hi
  rw [ofBits_at _ _ hi, BitVec.getLsbD_ofNat]
  unfold bits8
  by_cases h : i < 8
  · simp [List.getD, h, hi]
  · have : c.toNat.testBit i = false := Nat.testBit_lt_two_pow (Nat.lt_of_lt_of_le c.toNat_lt (Nat.pow_le_pow_right (by decide) (by omega)))
    simp [List.getD, h, this]
theorem byte_feed (r : BitVec 32) (c : UInt8) : byte r c = feed r (bits8 c) := by
  rw [feed_steps _ _ (by simp [bits8]), ofBits_byte]
  simp [bits8, byte]
def bitAt (l : List UInt8) (k : Nat) : Bool := (l.getD (k / 8) 0).toNat.testBit (k % 8)
def bitsOf : List UInt8 → List Bool
  | [] => []
  | c :: l => bits8 c ++ bitsOf l
theorem bitsOf_length : ∀ l : List UInt8, (bitsOf l).length = 8 * l.length
  | [] => rfl
  | c :: l => by rw [bitsOf, List.length_append, bitsOf_length l]; simp [bits8]; omega
theorem bitsOf_at : ∀ (l : List UInt8) (k : Nat), k < 8 * l.length → (bitsOf l)[k]? = some (bitAt l k)
  | [], k, h => by simp at h
  | c :: l, k, h => by
    rw [bitsOf]
    by_cases h8 : k < 8
    · rw [List.getElem?_append_left (by simp [bits8]; exact h8)]
      simp [bits8, bitAt, h8, Nat.div_eq_of_lt h8, Nat.mod_eq_of_lt h8]
    · rw [List.getElem?_append_right (by simp [bits8]; omega)]
      have e : (bits8 c).length = 8 := by simp [bits8]
      rw [e, bitsOf_at l (k - 8) (by simp at h; omega)]
      have e1 : k / 8 = (k - 8) / 8 + 1 := by omega
      have e2 : k % 8 = (k - 8) % 8 := by omega
      rw [bitAt, bitAt, e1, e2]
      simp
theorem upd_feed : ∀ (l : List UInt8) (r : BitVec 32), upd r l = feed r (bitsOf l)
  | [], r => rfl
  | c :: l, r => by rw [upd, upd_feed l, bitsOf, feed_append, byte_feed]
theorem xors_length : ∀ (a b : List UInt8), a.length = b.length → (xors a b).length = a.length
  | [], [], _ => rfl
  | c :: a, d :: b, h => by rw [xors, List.length_cons, List.length_cons, xors_length a b (by simpa using h)]
  | [], d :: b, h => by simp at h
  | c :: a, [], h => by simp at h
theorem xors_at : ∀ (a b : List UInt8) (i : Nat), a.length = b.length → (xors a b).getD i 0 = a.getD i 0 ^^^ b.getD i 0
  | [], [], i, _ => by simp [xors]
  | c :: a, d :: b, 0, h => by simp [xors]
  | c :: a, d :: b, i + 1, h => by
    have := xors_at a b i (by simpa using h)
    simpa [xors] using this
  | [], d :: b, i, h => by simp at h
  | c :: a, [], i, h => by simp at h
theorem xors_bit (a b : List UInt8) (k : Nat) (h : a.length = b.length) : bitAt (xors a b) k = (bitAt a k ^^ bitAt b k) := by
  rw [bitAt, xors_at a b _ h, UInt8.toNat_xor, Nat.testBit_xor]; rfl
/-- The bits that a burst turns. -/
def burst (pat m : Nat) : List Bool := (List.range m).map fun j => pat.testBit j
theorem burst_sum (first m rest pat : Nat) (hm : m ≤ 32) : (feed 0#32 (List.replicate first false ++ burst pat m ++ List.replicate rest false) = 0#32) ↔ ∀ j, j < m → pat.testBit j = false := by
  rw [feed_append, feed_append, feed_zeros first, steps_zero, feed_zeros rest, feed_steps _ _ (by simpa [burst] using hm), BitVec.zero_xor]
  constructor
  · intro h j hj
    have z := steps_ne _ (steps_ne _ h)
    have := ofBits_at (burst pat m) j (by omega)
    rw [z] at this
    simp [burst, List.getD, hj] at this
    exact this
  · intro h
    have z : ofBits (burst pat m) = 0#32 := by
      apply BitVec.eq_of_getLsbD_eq
      intro i hi
      rw [ofBits_at _ _ hi]
      by_cases k : i < m
      · simp [burst, List.getD, k, h i k]
      · simp [burst, List.getD, k]
    rw [z, steps_zero, steps_zero]
theorem burst_told (b c : List UInt8) (x : BitVec 32) (hl : c.length = b.length) (first m pat : Nat) (hm : m ≤ 32) (hf : first + m ≤ 8 * b.length)
    (h : ∀ k, k < 8 * b.length → bitAt c k = (bitAt b k ^^ (decide (first ≤ k ∧ k < first + m) && pat.testBit (k - first)))) :
    crc x b = crc x c ↔ ∀ j, j < m → pat.testBit j = false := by
  have e : bitsOf (xors b c) = List.replicate first false ++ burst pat m ++ List.replicate (8 * b.length - (first + m)) false := by
    apply List.ext_getElem?
    intro k
    have hx := xors_length b c hl.symm
    by_cases hk : k < 8 * b.length
    · rw [bitsOf_at _ _ (by rw [hx]; exact hk), xors_bit _ _ _ hl.symm, h k hk, ← Bool.xor_assoc, Bool.xor_self, Bool.false_xor]
      by_cases k1 : k < first
      · rw [List.append_assoc, List.getElem?_append_left (by simpa using k1)]
        have : ¬ first ≤ k := by omega
        simp [k1, this]
      · by_cases k2 : k < first + m
        · have k3 : first ≤ k := by omega
          have k4 : k - first < m := by omega
          rw [List.append_assoc, List.getElem?_append_right (by simpa using k3), List.getElem?_append_left (by simpa [burst] using k4)]
          simp [burst, k2, k3, k4]
        · rw [List.getElem?_append_right (by simp [burst]; omega)]
          have k5 : k - (first + m) < 8 * b.length - (first + m) := by omega
          simp [burst, k2, k5]
    · rw [List.getElem?_eq_none (by rw [bitsOf_length, hx]; omega), List.getElem?_eq_none (by simp [burst]; omega)]
  rw [← burst_sum first m (8 * b.length - (first + m)) pat hm, ← e, ← upd_feed]
  have u := upd_xor b c (~~~ x) (~~~ x) hl.symm
  rw [BitVec.xor_self] at u
  rw [u, crc, crc]
  constructor
  · intro k
    have := congrArg (fun y => ~~~ y) k
    simp only [BitVec.not_not] at this
    rw [this, BitVec.xor_self]
  · intro k
    have := congrArg (fun y => y ^^^ upd (~~~ x) c) k
    simp only [BitVec.xor_assoc, BitVec.xor_self, BitVec.xor_zero, BitVec.zero_xor] at this
    rw [this]
theorem crc_xors (a b c : List UInt8) (x : BitVec 32) (h1 : a.length = b.length) (h2 : b.length = c.length) : crc x (xors (xors a b) c) = crc x a ^^^ crc x b ^^^ crc x c := by
  unfold crc
  have u := upd_xor (xors a b) c (~~~ x ^^^ ~~~ x) (~~~ x) (by rw [xors_length a b h1]; omega)
  rw [upd_xor a b _ _ h1, BitVec.xor_self, BitVec.zero_xor] at u
  rw [u]
  generalize upd (~~~ x) a = p
  generalize upd (~~~ x) b = q
  generalize upd (~~~ x) c = r
  apply BitVec.eq_of_getLsbD_eq
  intro i hi
  simp [hi]
/-- A byte's step by a table of 256 words. -/
theorem steps_split (r : BitVec 32) : steps 8 r = steps 8 (r &&& 255#32) ^^^ (r >>> 8) := by
  have e : r = (r &&& 255#32) ^^^ ((r >>> 8) <<< 8) := by
    apply BitVec.eq_of_getLsbD_eq
    intro i hi
    have h255 : (255#32 : BitVec 32).getLsbD i = decide (i < 8) := by
      rw [show (255#32 : BitVec 32) = BitVec.ofNat 32 (2 ^ 8 - 1) from rfl, BitVec.getLsbD_ofNat, Nat.testBit_two_pow_sub_one]
      simp [hi]
    rw [BitVec.getLsbD_xor, BitVec.getLsbD_and, h255]
    by_cases h : i < 8
    · simp [h]
    · have : 8 + (i - 8) = i := by omega
      simp [h, hi, this]
  have s8 : ∀ y : BitVec 32, (∀ i, 24 ≤ i → y.getLsbD i = false) → steps 8 (y <<< 8) = y := by
    intro y hy
    have one : ∀ (n : Nat), n < 8 → steps (n + 1) (y <<< (n + 1)) = steps n (y <<< n) := by
      intro n hn
      rw [steps]
      have e1 : y <<< (n + 1) = (y <<< n) <<< 1 := by rw [BitVec.shiftLeft_add]
      rw [e1, step_shift]
      rw [BitVec.getLsbD_shiftLeft]
      have : ¬ 31 < n := by omega
      simp [this, hy (31 - n) (by omega)]
    rw [one 7 (by decide), one 6 (by decide), one 5 (by decide), one 4 (by decide), one 3 (by decide), one 2 (by decide), one 1 (by decide), one 0 (by decide)]
    rw [steps]
    simp
  have h := steps_xor 8 (r &&& 255#32) ((r >>> 8) <<< 8)
  rw [← e] at h
  rw [h, s8]
  intro i hi
  rw [BitVec.getLsbD_ushiftRight]
  apply BitVec.getLsbD_of_ge
  omega
end Go.Proofs.Ytmikdnjjnadimaa.Crc
