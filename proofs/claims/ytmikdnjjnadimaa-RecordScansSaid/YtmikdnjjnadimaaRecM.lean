/- Frames and what is found of them, as the document says it, in plain words: a length in four bytes, a sum in four bytes, a body; a text is read frame by frame up to the first place where there is none. Plain mathematics: no program is named. -/
import Derived.Test.YtmikdnjjnadimaaCrcNum
namespace Go.Proofs.Ytmikdnjjnadimaa.Rec

/-- A number in four bytes, the highest first. -/
def be4 (n : Nat) : List UInt8 := [UInt8.ofNat (n / 16777216), UInt8.ofNat (n / 65536), UInt8.ofNat (n / 256), UInt8.ofNat n]
/-- Four bytes as a number (0 where there are none). -/
def num : List UInt8 → Nat
  | a :: b :: c :: d :: _ => ((a.toNat * 256 + b.toNat) * 256 + c.toNat) * 256 + d.toNat
  | _ => 0
def sum (head body : List UInt8) : Nat := (Crc.crc 0#32 (head ++ body)).toNat
/-- A frame. -/
def fr (body : List UInt8) : List UInt8 := be4 body.length ++ be4 (sum (be4 body.length) body) ++ body
/-- Is there a frame at the beginning? -/
def ok (b : List UInt8) : Bool := decide (8 ≤ b.length ∧ num b ≤ 1048576 ∧ 8 + num b ≤ b.length) && ((b.drop 4).take 4 == be4 (sum (b.take 4) ((b.drop 8).take (num b))))
/-- The bodies of the frames at the beginning, and how many bytes they have. -/
def scan (b : List UInt8) : List (List UInt8) × Nat :=
  if h : ok b = true then
    have : (b.drop (8 + num b)).length < b.length := by
      simp only [ok, Bool.and_eq_true, decide_eq_true_eq] at h
      rw [List.length_drop]
      omega
    let r := scan (b.drop (8 + num b))
    ((b.drop 8).take (num b) :: r.1, 8 + num b + r.2)
  else ([], 0)
termination_by b.length

theorem be4_length (n : Nat) : (be4 n).length = 4 := rfl
theorem be4_num (n : Nat) (h : n < 4294967296) (r : List UInt8) : num (be4 n ++ r) = n := by
  simp only [be4, List.cons_append, num, UInt8.toNat_ofNat']
  omega
theorem sum_lt (head body : List UInt8) : sum head body < 4294967296 := (Crc.crc 0#32 (head ++ body)).isLt
theorem be4_inj {n m : Nat} (hn : n < 4294967296) (hm : m < 4294967296) (h : be4 n = be4 m) : n = m := by
  have := be4_num n hn []
  rw [h, be4_num m hm []] at this
  exact this.symm
theorem fr_length (body : List UInt8) : (fr body).length = 8 + body.length := by
  simp [fr, be4_length]; omega
theorem fr_num (body r : List UInt8) (h : body.length ≤ 1048576) : num (fr body ++ r) = body.length := by
  rw [fr, List.append_assoc, List.append_assoc]
  exact be4_num _ (by omega) _
theorem fr_take4 (body r : List UInt8) : (fr body ++ r).take 4 = be4 body.length := by
  rw [fr, List.append_assoc, List.append_assoc]
  exact List.take_left' (be4_length _)
theorem fr_mid (body r : List UInt8) : ((fr body ++ r).drop 4).take 4 = be4 (sum (be4 body.length) body) := by
  rw [fr, List.append_assoc, List.append_assoc, List.drop_left' (be4_length _)]
  exact List.take_left' (be4_length _)
theorem fr_drop8 (body r : List UInt8) : (fr body ++ r).drop 8 = body ++ r := by
  rw [fr, List.append_assoc]
  exact List.drop_left' (by simp [be4_length])
theorem fr_body (body r : List UInt8) : ((fr body ++ r).drop 8).take body.length = body := by
  rw [fr_drop8]
  exact List.take_left' rfl
theorem fr_rest (body r : List UInt8) : (fr body ++ r).drop (8 + body.length) = r := List.drop_left' (fr_length body)
theorem ok_fr (body r : List UInt8) (h : body.length ≤ 1048576) : ok (fr body ++ r) = true := by
  simp only [ok, fr_num body r h, fr_body, fr_take4, fr_mid, beq_self_eq_true, Bool.and_true, decide_eq_true_eq, List.length_append, fr_length]
  omega
theorem scan_fr (body r : List UInt8) (h : body.length ≤ 1048576) : scan (fr body ++ r) = (body :: (scan r).1, 8 + body.length + (scan r).2) := by
  rw [scan, dif_pos (ok_fr body r h)]
  simp only [fr_num body r h, fr_body, fr_rest]
theorem scan_no {b : List UInt8} (h : ok b = false) : scan b = ([], 0) := by
  rw [scan, dif_neg (by rw [h]; decide)]
theorem scan_nil : scan [] = ([], 0) := scan_no (by decide)
/-- Frames, one behind the other. -/
def frs : List (List UInt8) → List UInt8
  | [] => []
  | x :: l => fr x ++ frs l
theorem frs_append : ∀ (l m : List (List UInt8)), frs (l ++ m) = frs l ++ frs m
  | [], m => rfl
  | x :: l, m => by rw [List.cons_append, frs, frs, frs_append l m, List.append_assoc]
theorem frs_snoc (l : List (List UInt8)) (x : List UInt8) : frs (l ++ [x]) = frs l ++ fr x := by
  rw [frs_append]; simp [frs]
theorem scan_frs : ∀ (l : List (List UInt8)) (r : List UInt8), (∀ x ∈ l, x.length ≤ 1048576) → scan (frs l ++ r) = (l ++ (scan r).1, (frs l).length + (scan r).2)
  | [], r, _ => by simp [frs]
  | x :: l, r, h => by
    rw [frs, List.append_assoc, scan_fr x _ (h x (by simp)), scan_frs l r fun y hy => h y (by simp [hy])]
    simp [fr_length, Nat.add_assoc]
/-- A beginning of a frame, short of the whole, is none. -/
theorem ok_short (body : List UInt8) (k : Nat) (h : body.length ≤ 1048576) (hk : k < 8 + body.length) : ok ((fr body).take k) = false := by
  by_cases h8 : k < 8
  · have : ((fr body).take k).length < 8 := by rw [List.length_take]; omega
    simp [ok]
    omega
  · have hn : num ((fr body).take k) = body.length := by
      have e : fr body = (fr body).take 4 ++ (fr body).drop 4 := (List.take_append_drop 4 _).symm
      have t : (fr body).take 4 = be4 body.length := by simpa using fr_take4 body []
      have l4 : (be4 body.length).length = 4 := rfl
      rw [e, t, List.take_append, List.take_of_length_le (by omega)]
      exact be4_num _ (by omega) _
    have hl : ((fr body).take k).length = k := by rw [List.length_take, fr_length]; omega
    simp only [ok, hn, hl]
    have : ¬ (8 + body.length ≤ k) := by omega
    simp [this]
/-- How many frames are whole in the first k bytes. -/
def whole : List (List UInt8) → Nat → Nat
  | [], _ => 0
  | x :: l, k => if 8 + x.length ≤ k then 1 + whole l (k - (8 + x.length)) else 0
theorem whole_le : ∀ (l : List (List UInt8)) (k : Nat), whole l k ≤ l.length
  | [], _ => Nat.le_refl _
  | x :: l, k => by
    rw [whole]
    split
    · have := whole_le l (k - (8 + x.length)); simp; omega
    · simp
theorem scan_cut : ∀ (l : List (List UInt8)) (k : Nat), (∀ x ∈ l, x.length ≤ 1048576) → scan ((frs l).take k) = (l.take (whole l k), (frs (l.take (whole l k))).length)
  | [], k, _ => by simp [frs, whole, scan_nil]
  | x :: l, k, h => by
    have hx := h x (by simp)
    by_cases hk : 8 + x.length ≤ k
    · rw [frs, List.take_append, List.take_of_length_le (by rw [fr_length]; exact hk), fr_length, scan_fr x _ hx, scan_cut l _ fun y hy => h y (by simp [hy]), whole, if_pos hk, Nat.add_comm 1, List.take_succ_cons, frs]
      simp [fr_length]
    · rw [frs, List.take_append_of_le_length (by rw [fr_length]; omega), scan_no (ok_short x k hx (by omega)), whole, if_neg hk]
      simp [frs]
/-- The number of whole frames, told by their ends. -/
theorem whole_iff : ∀ (l : List (List UInt8)) (k i : Nat), i < l.length → ((frs (l.take (i + 1))).length ≤ k ↔ i < whole l k)
  | [], _, _, h => by simp at h
  | x :: l, k, 0, _ => by
    rw [List.take_succ_cons, List.take_zero, frs, frs, List.append_nil, fr_length, whole]
    split <;> rename_i h
    · simp [h]; omega
    · simp [h]
  | x :: l, k, i + 1, h => by
    rw [List.take_succ_cons, frs, List.length_append, fr_length, whole]
    have ih := whole_iff l (k - (8 + x.length)) i (by simpa using h)
    split <;> rename_i hk
    · rw [show 1 + whole l (k - (8 + x.length)) = whole l (k - (8 + x.length)) + 1 by omega, Nat.add_lt_add_iff_right, ← ih]
      omega
    · have : ¬ (8 + x.length + (frs (l.take (i + 1))).length ≤ k) := by omega
      simp [this]
/-- One bit of one byte turned. -/
def flip (l : List UInt8) (p t : Nat) : List UInt8 := l.set p (l.getD p 0 ^^^ UInt8.ofNat (2 ^ t))
theorem flip_length (l : List UInt8) (p t : Nat) : (flip l p t).length = l.length := List.length_set ..
theorem pow_u8 {t : Nat} (h : t < 8) : (UInt8.ofNat (2 ^ t)).toNat = 2 ^ t := by
  rw [UInt8.toNat_ofNat']
  exact Nat.mod_eq_of_lt (Nat.pow_lt_pow_right (by decide) h)
theorem flip_bit (l : List UInt8) (p t k : Nat) (hp : p < l.length) (ht : t < 8) : Crc.bitAt (flip l p t) k = (Crc.bitAt l k ^^ decide (k = 8 * p + t)) := by
  unfold Crc.bitAt flip
  by_cases e : k / 8 = p
  · subst e
    have : (l.set (k / 8) (l.getD (k / 8) 0 ^^^ UInt8.ofNat (2 ^ t))).getD (k / 8) 0 = l.getD (k / 8) 0 ^^^ UInt8.ofNat (2 ^ t) := by
      simp [List.getD, hp]
    rw [this, UInt8.toNat_xor, Nat.testBit_xor, pow_u8 ht, Nat.testBit_two_pow]
    congr 1
    exact decide_eq_decide.mpr (by omega)
  · have : (l.set p (l.getD p 0 ^^^ UInt8.ofNat (2 ^ t))).getD (k / 8) 0 = l.getD (k / 8) 0 := by
      simp [List.getD, Ne.symm e]
    rw [this, show decide (k = 8 * p + t) = false from decide_eq_false (by omega), Bool.xor_false]
theorem flip_crc (l : List UInt8) (p t : Nat) (x : BitVec 32) (hp : p < l.length) (ht : t < 8) : Crc.crc x (flip l p t) ≠ Crc.crc x l := by
  intro h
  have := (Crc.burst_told l (flip l p t) x (flip_length l p t) (8 * p + t) 1 1 (by decide) (by omega) (fun k hk => by
    rw [flip_bit l p t k hp ht]
    congr 1
    by_cases e : k = 8 * p + t
    · subst e
      have : 8 * p + t ≤ 8 * p + t ∧ 8 * p + t < 8 * p + t + 1 := by omega
      simp [this]
    · have : ¬ (8 * p + t ≤ k ∧ k < 8 * p + t + 1) := by omega
      simp [e, this])).1 h.symm 0 (by decide)
  simp at this
theorem flip_ne (l : List UInt8) (p t : Nat) (hp : p < l.length) (ht : t < 8) : flip l p t ≠ l := fun h => flip_crc l p t 0#32 hp ht (by rw [h])
theorem flip_right (a b : List UInt8) (p t : Nat) : flip (a ++ b) (a.length + p) t = a ++ flip b p t := by
  unfold flip
  rw [List.set_append_right _ _ (by omega), Nat.add_sub_cancel_left]
  congr 2
  rw [List.getD, List.getD, List.getElem?_append_right (by omega), Nat.add_sub_cancel_left]
theorem flip_left (a b : List UInt8) (p t : Nat) (h : p < a.length) : flip (a ++ b) p t = flip a p t ++ b := by
  unfold flip
  rw [List.set_append_left _ _ h]
  congr 2
  rw [List.getD, List.getD, List.getElem?_append_left h]
/-- A frame with a bit turned behind its length is none. -/
theorem ok_turned (body r : List UInt8) (p t : Nat) (h : body.length ≤ 1048576) (hp : p < 4 + body.length) (ht : t < 8) : ok (flip (fr body) (4 + p) t ++ r) = false := by
  by_cases h4 : p < 4
  · have e : flip (fr body) (4 + p) t = be4 body.length ++ flip (be4 (sum (be4 body.length) body)) p t ++ body := by
      rw [fr, List.append_assoc, List.append_assoc]
      have := flip_right (be4 body.length) (be4 (sum (be4 body.length) body) ++ body) p t
      rw [be4_length] at this
      rw [this, flip_left _ _ _ _ (by rw [be4_length]; exact h4)]
    rw [e]
    have hl := flip_length (be4 (sum (be4 body.length) body)) p t
    have hn : num (be4 body.length ++ flip (be4 (sum (be4 body.length) body)) p t ++ body ++ r) = body.length := by
      rw [List.append_assoc, List.append_assoc]; exact be4_num _ (by omega) _
    have h1 : (be4 body.length ++ flip (be4 (sum (be4 body.length) body)) p t ++ body ++ r).take 4 = be4 body.length := by
      rw [List.append_assoc, List.append_assoc]; exact List.take_left' (be4_length _)
    have h2 : ((be4 body.length ++ flip (be4 (sum (be4 body.length) body)) p t ++ body ++ r).drop 4).take 4 = flip (be4 (sum (be4 body.length) body)) p t := by
      rw [List.append_assoc, List.append_assoc, List.drop_left' (be4_length _)]; exact List.take_left' (by rw [hl, be4_length])
    have h3 : ((be4 body.length ++ flip (be4 (sum (be4 body.length) body)) p t ++ body ++ r).drop 8).take body.length = body := by
      rw [List.append_assoc, List.drop_left' (by rw [List.length_append, hl, be4_length, be4_length])]; exact List.take_left' rfl
    have hne : (flip (be4 (sum (be4 body.length) body)) p t == be4 (sum (be4 body.length) body)) = false := beq_eq_false_iff_ne.mpr (flip_ne _ p t (by rw [be4_length]; exact h4) ht)
    simp only [ok, hn, h1, h2, h3, hne, Bool.and_false]
  · obtain ⟨q, rfl⟩ : ∃ q, p = 4 + q := ⟨p - 4, by omega⟩
    have e : flip (fr body) (4 + (4 + q)) t = be4 body.length ++ be4 (sum (be4 body.length) body) ++ flip body q t := by
      rw [fr]
      have := flip_right (be4 body.length ++ be4 (sum (be4 body.length) body)) body q t
      rw [List.length_append, be4_length, be4_length] at this
      rw [← Nat.add_assoc, this]
    rw [e]
    have hl := flip_length body q t
    have hn : num (be4 body.length ++ be4 (sum (be4 body.length) body) ++ flip body q t ++ r) = body.length := by
      rw [List.append_assoc, List.append_assoc]; exact be4_num _ (by omega) _
    have h1 : (be4 body.length ++ be4 (sum (be4 body.length) body) ++ flip body q t ++ r).take 4 = be4 body.length := by
      rw [List.append_assoc, List.append_assoc]; exact List.take_left' (be4_length _)
    have h2 : ((be4 body.length ++ be4 (sum (be4 body.length) body) ++ flip body q t ++ r).drop 4).take 4 = be4 (sum (be4 body.length) body) := by
      rw [List.append_assoc, List.append_assoc, List.drop_left' (be4_length _)]; exact List.take_left' (be4_length _)
    have h3 : ((be4 body.length ++ be4 (sum (be4 body.length) body) ++ flip body q t ++ r).drop 8).take body.length = flip body q t := by
      rw [List.append_assoc, List.drop_left' (by rw [List.length_append, be4_length, be4_length])]; exact List.take_left' hl
    have hne : (be4 (sum (be4 body.length) body) == be4 (sum (be4 body.length) (flip body q t))) = false := by
      refine beq_eq_false_iff_ne.mpr fun k => ?_
      have k2 := be4_inj (sum_lt _ _) (sum_lt _ _) k
      have k3 := flip_right (be4 body.length) body q t
      have k4 := flip_crc (be4 body.length ++ body) ((be4 body.length).length + q) t 0#32 (by rw [List.length_append]; omega) ht
      rw [k3] at k4
      exact k4 (BitVec.eq_of_toNat_eq k2).symm
    simp only [ok, hn, h1, h2, h3, hne, Bool.and_false]
/-- Of frames of which one is turned so those ahead of it are found. -/
theorem scan_turned (l : List (List UInt8)) (k p t : Nat) (hk : k < l.length) (h : ∀ x ∈ l, x.length ≤ 1048576) (hp : p < 4 + l[k].length) (ht : t < 8) :
    scan (flip (frs l) ((frs (l.take k)).length + (4 + p)) t) = (l.take k, (frs (l.take k)).length) := by
  have e : frs l = frs (l.take k) ++ (fr l[k] ++ frs (l.drop (k + 1))) := by
    conv => lhs; rw [← List.take_append_drop k l, List.drop_eq_getElem_cons hk, frs_append, frs]
  rw [e, flip_right, flip_left _ _ _ _ (by rw [fr_length]; omega), scan_frs _ _ (fun x hx => h x (List.mem_of_mem_take hx)), scan_no (ok_turned _ _ _ _ (h _ (List.getElem_mem hk)) hp ht)]
  simp
/-- Is there a frame? told by the whole frame of the body that stands there. -/
theorem be4_of_num (a b c d : UInt8) (r : List UInt8) : be4 (num (a :: b :: c :: d :: r)) = [a, b, c, d] := by
  have ha := a.toNat_lt
  have hb := b.toNat_lt
  have hc := c.toNat_lt
  have hd := d.toNat_lt
  have h : ∀ (m : Nat) (x : UInt8), m % 256 = x.toNat → UInt8.ofNat m = x := fun m x e => by
    apply UInt8.toNat_inj.1
    rw [UInt8.toNat_ofNat']
    exact e
  simp only [be4, num]
  rw [h _ a (by omega), h _ b (by omega), h _ c (by omega), h _ d (by omega)]
theorem ok_iff (b : List UInt8) (h8 : 8 ≤ b.length) (hn : num b ≤ 1048576) (hl : 8 + num b ≤ b.length) : ok b = (fr ((b.drop 8).take (num b)) == b.take (8 + num b)) := by
  obtain ⟨a0, a1, a2, a3, r, rfl⟩ : ∃ a0 a1 a2 a3 r, b = a0 :: a1 :: a2 :: a3 :: r := by
    match b, h8 with
    | a0 :: a1 :: a2 :: a3 :: r, _ => exact ⟨a0, a1, a2, a3, r, rfl⟩
  have e4 := be4_of_num a0 a1 a2 a3 r
  generalize hN : num (a0 :: a1 :: a2 :: a3 :: r) = N at *
  have hbl : (((a0 :: a1 :: a2 :: a3 :: r).drop 8).take N).length = N := by
    rw [List.length_take, List.length_drop]; omega
  have h4 : (a0 :: a1 :: a2 :: a3 :: r).take 4 = be4 N := by rw [e4]; rfl
  have ht : (a0 :: a1 :: a2 :: a3 :: r).take (8 + N) = be4 N ++ (((a0 :: a1 :: a2 :: a3 :: r).drop 4).take 4 ++ ((a0 :: a1 :: a2 :: a3 :: r).drop 8).take N) := by
    rw [← h4, show 8 + N = 4 + (4 + N) by omega, List.take_add, List.take_add, List.drop_drop]
  have hk : decide (8 ≤ (a0 :: a1 :: a2 :: a3 :: r).length ∧ N ≤ 1048576 ∧ 8 + N ≤ (a0 :: a1 :: a2 :: a3 :: r).length) = true := decide_eq_true ⟨h8, hn, hl⟩
  rw [ok, hN, hk, Bool.true_and, h4, ht, fr, hbl]
  generalize ((a0 :: a1 :: a2 :: a3 :: r).drop 8).take N = body at *
  generalize ((a0 :: a1 :: a2 :: a3 :: r).drop 4).take 4 = mid at *
  rw [List.append_assoc, Bool.eq_iff_iff, beq_iff_eq, beq_iff_eq]
  constructor
  · rintro rfl; rfl
  · intro k
    exact (List.append_cancel_right (List.append_cancel_left k)).symm
/-- A step of the reading. -/
theorem scan_step (b : List UInt8) (h : ok b = true) : scan b = ((b.drop 8).take (num b) :: (scan (b.drop (8 + num b))).1, 8 + num b + (scan (b.drop (8 + num b))).2) := by
  rw [scan, dif_pos h]
/-- Each frame has eight bytes at least. -/
theorem scan_small (b : List UInt8) : 8 * (scan b).1.length ≤ b.length := by
  induction hn : b.length using Nat.strongRecOn generalizing b with
  | _ n ih =>
    cases h : ok b
    · rw [scan_no h]; simp
    · rw [scan_step b h]
      have hk : 8 ≤ b.length ∧ num b ≤ 1048576 ∧ 8 + num b ≤ b.length := by
        simp only [ok, Bool.and_eq_true, decide_eq_true_eq] at h
        exact h.1
      have := ih (b.drop (8 + num b)).length (by rw [List.length_drop]; omega) (b.drop (8 + num b)) rfl
      rw [List.length_drop] at this
      simp only [List.length_cons]
      omega
end Go.Proofs.Ytmikdnjjnadimaa.Rec
