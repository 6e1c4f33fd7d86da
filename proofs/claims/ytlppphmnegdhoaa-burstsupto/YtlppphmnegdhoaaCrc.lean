/-
  What the sum tells: bits that are turned within sixteen in a row. Plain mathematics.
-/
import Derived.Test.YtlppphmnegdhoaaReadD
namespace Go.Proofs.Ytlppphmnegdhoaa
set_option linter.unusedVariables false
namespace M

def bitsB (c : UInt8) : List Bool := [c.toNat.testBit 7, c.toNat.testBit 6, c.toNat.testBit 5, c.toNat.testBit 4, c.toNat.testBit 3, c.toNat.testBit 2, c.toNat.testBit 1, c.toNat.testBit 0]
def bitsL (l : List UInt8) : List Bool := (l.map bitsB).flatten
def crc (n : Nat) (b : List Bool) : Nat := b.foldl bstep n

theorem bits8_crc (n : Nat) (c : UInt8) : bits8 n c.toNat 8 = crc n (bitsB c) := by
  have h1 : bits8 n c.toNat 1 = bstep n (c.toNat.testBit 7) := rfl
  have h2 : bits8 n c.toNat 2 = bstep (bits8 n c.toNat 1) (c.toNat.testBit 6) := rfl
  have h3 : bits8 n c.toNat 3 = bstep (bits8 n c.toNat 2) (c.toNat.testBit 5) := rfl
  have h4 : bits8 n c.toNat 4 = bstep (bits8 n c.toNat 3) (c.toNat.testBit 4) := rfl
  have h5 : bits8 n c.toNat 5 = bstep (bits8 n c.toNat 4) (c.toNat.testBit 3) := rfl
  have h6 : bits8 n c.toNat 6 = bstep (bits8 n c.toNat 5) (c.toNat.testBit 2) := rfl
  have h7 : bits8 n c.toNat 7 = bstep (bits8 n c.toNat 6) (c.toNat.testBit 1) := rfl
  have h8 : bits8 n c.toNat 8 = bstep (bits8 n c.toNat 7) (c.toNat.testBit 0) := rfl
  rw [h8, h7, h6, h5, h4, h3, h2, h1]
  simp only [crc, bitsB, List.foldl_cons, List.foldl_nil]
theorem crc_append (n : Nat) (a b : List Bool) : crc n (a ++ b) = crc (crc n a) b := by simp [crc]
theorem sumFrom_crc (l : List UInt8) : ∀ n, sumFrom n l = crc n (bitsL l) := by
  induction l with
  | nil => intro n; rfl
  | cons c l ih =>
    intro n
    have e : bitsL (c :: l) = bitsB c ++ bitsL l := by simp [bitsL]
    rw [e, crc_append, ← bits8_crc]
    exact ih _
theorem crc_lt (b : List Bool) : ∀ n, n < 65536 → crc n b < 65536 := by
  induction b with
  | nil => intro n h; exact h
  | cons x b ih => intro n h; exact ih _ (bstep_lt _ _)

/-- the step, as a sum -/
def gate (u : Bool) : Nat := if u then 4129 else 0
theorem bstep_gate (n : Nat) (b : Bool) : bstep n b = (n * 2 % 65536) ^^^ gate (decide (32768 ≤ n) != b) := by
  unfold bstep gate
  split <;> simp
theorem gate_xor (u v : Bool) : gate (u ^^ v) = gate u ^^^ gate v := by
  cases u <;> cases v <;> decide
theorem dbl_xor (n m : Nat) : (n ^^^ m) * 2 % 65536 = (n * 2 % 65536) ^^^ (m * 2 % 65536) := by
  have e : (65536 : Nat) = 2 ^ 16 := by decide
  rw [e, ← Nat.xor_mod_two_pow]
  congr 1
  have h : ∀ x : Nat, x * 2 = x <<< 1 := fun x => by simp [Nat.shiftLeft_eq]
  rw [h, h, h, Nat.shiftLeft_xor_distrib]
theorem top_bit (n : Nat) (h : n < 65536) : decide (32768 ≤ n) = n.testBit 15 := by
  rw [Nat.testBit_eq_decide_div_mod_eq, decide_eq_decide]
  omega
theorem bstep_xor (n m : Nat) (b c : Bool) (hn : n < 65536) (hm : m < 65536) : bstep (n ^^^ m) (b ^^ c) = bstep n b ^^^ bstep m c := by
  have hx : n ^^^ m < 65536 := Nat.xor_lt_two_pow (n := 16) hn hm
  have e : (decide (32768 ≤ n ^^^ m) != (b ^^ c)) = ((decide (32768 ≤ n) != b) ^^ (decide (32768 ≤ m) != c)) := by
    rw [top_bit _ hx, top_bit _ hn, top_bit _ hm, Nat.testBit_xor]
    cases n.testBit 15 <;> cases m.testBit 15 <;> cases b <;> cases c <;> rfl
  rw [bstep_gate, bstep_gate, bstep_gate, e, gate_xor, dbl_xor]
  simp only [Nat.xor_assoc]
  congr 1
  rw [← Nat.xor_assoc, ← Nat.xor_assoc, Nat.xor_comm (gate _) (m * 2 % 65536)]
theorem crc_xor : ∀ (a d : List Bool) (n m : Nat), a.length = d.length → n < 65536 → m < 65536 → crc (n ^^^ m) (List.zipWith (· ^^ ·) a d) = crc n a ^^^ crc m d
  | [], [], n, m, _, _, _ => rfl
  | x :: a, y :: d, n, m, h, hn, hm => by
    show crc (bstep (n ^^^ m) (x ^^ y)) _ = _
    rw [bstep_xor n m x y hn hm]
    exact crc_xor a d _ _ (by simpa using h) (bstep_lt _ _) (bstep_lt _ _)

theorem crc_zeros (k : Nat) : crc 0 (List.replicate k false) = 0 := by
  induction k with
  | zero => rfl
  | succ k ih => exact ih
theorem zero_step (n : Nat) (h : n < 65536) (h0 : bstep n false = 0) : n = 0 := by
  rw [bstep_gate] at h0
  by_cases ht : 32768 ≤ n
  · have e : (decide (32768 ≤ n) != false) = true := by simp [ht]
    rw [e] at h0
    have h1 : n * 2 % 65536 = 4129 := by
      have := congrArg (· ^^^ 4129) h0
      simp only [gate, if_pos, Nat.xor_assoc, Nat.xor_self, Nat.xor_zero, Nat.zero_xor] at this
      exact this
    omega
  · have e : (decide (32768 ≤ n) != false) = false := by simp; omega
    rw [e] at h0
    simp [gate] at h0
    omega
theorem crc_tail (k : Nat) : ∀ n, n < 65536 → n ≠ 0 → crc n (List.replicate k false) ≠ 0 := by
  induction k with
  | zero => intro n _ h; exact h
  | succ k ih =>
    intro n hn h
    exact ih _ (bstep_lt _ _) (fun e => h (zero_step n hn e))
/-- its lowest bit stands at i -/
def low (n i : Nat) : Prop := n % 2 ^ (i + 1) = 2 ^ i
theorem odd_gate (x : Nat) : ((x * 2 % 65536) ^^^ 4129) % 2 = 1 := by
  have h1 : (x * 2 % 65536) % 2 = 0 := by omega
  have h := Nat.xor_mod_two_pow (a := x * 2 % 65536) (b := 4129) (n := 1)
  rw [Nat.pow_one, h1] at h
  rw [h]
  decide
theorem low_step (n i : Nat) (b : Bool) (h : low n i) (hi : i < 15) : ∃ k, k ≤ i + 1 ∧ low (bstep n b) k := by
  rw [bstep_gate]
  cases hu : (decide (32768 ≤ n) != b)
  · refine ⟨i + 1, Nat.le_refl _, ?_⟩
    unfold low at h ⊢
    simp only [gate]
    have hz : (n * 2 % 65536) ^^^ (if false = true then 4129 else 0) = n * 2 % 65536 := by simp
    rw [hz]
    have e : (65536 : Nat) = 2 ^ (i + 1 + 1) * 2 ^ (14 - i) := by
      rw [← Nat.pow_add]
      have : i + 1 + 1 + (14 - i) = 16 := by omega
      rw [this]
    rw [e, Nat.mod_mul_right_mod, Nat.pow_succ, Nat.mul_mod_mul_right, h, Nat.pow_succ]
  · refine ⟨0, by omega, ?_⟩
    unfold low
    simp only [gate]
    exact odd_gate n
theorem low_crc : ∀ (e : List Bool) (n i : Nat), low n i → i + e.length ≤ 15 → ∃ k, k ≤ 15 ∧ low (crc n e) k
  | [], n, i, h, hl => ⟨i, by simpa using hl, h⟩
  | b :: e, n, i, h, hl => by
    simp only [List.length_cons] at hl
    obtain ⟨k, hk, h2⟩ := low_step n i b h (by omega)
    exact low_crc e _ k h2 (by omega)
theorem low_ne (n i : Nat) (h : low n i) : n ≠ 0 := by
  intro e
  subst e
  unfold low at h
  rw [Nat.zero_mod] at h
  have := Nat.two_pow_pos i
  omega
/-- bits that are turned within sixteen in a row are told -/
theorem crc_burst (p q : Nat) (e : List Bool) (he : e.length ≤ 15) : crc 0 (List.replicate p false ++ (true :: e) ++ List.replicate q false) ≠ 0 := by
  rw [crc_append, crc_append, crc_zeros]
  refine crc_tail q _ (crc_lt _ _ (by decide)) ?_
  show crc (bstep 0 true) e ≠ 0
  have h : low (bstep 0 true) 0 := by unfold low; decide
  obtain ⟨k, _, hk⟩ := low_crc e _ 0 h (by omega)
  exact low_ne _ _ hk
theorem sum_burst (s t : List UInt8) (n p q : Nat) (e : List Bool) (hn : n < 65536) (he : e.length ≤ 15) (hl : (bitsL s).length = (List.replicate p false ++ (true :: e) ++ List.replicate q false).length)
    (ht : bitsL t = List.zipWith (· ^^ ·) (bitsL s) (List.replicate p false ++ (true :: e) ++ List.replicate q false)) : sumFrom n t ≠ sumFrom n s := by
  intro h
  rw [sumFrom_crc, sumFrom_crc, ht] at h
  have h2 := crc_xor (bitsL s) _ n 0 hl hn (by decide)
  rw [Nat.xor_zero, h] at h2
  have h3 := congrArg (crc n (bitsL s) ^^^ ·) h2
  simp only [← Nat.xor_assoc, Nat.xor_self, Nat.zero_xor] at h3
  exact crc_burst p q e he h3.symm

/-- a text with its own sum behind it leaves no rest -/
theorem bstep_own (n : Nat) (h : n < 65536) : bstep n (n.testBit 15) = n * 2 % 65536 := by
  rw [bstep_gate, top_bit n h]; simp [gate]
theorem own_bits : ∀ (k n m : Nat), k ≤ 16 → m < 65536 → m = n * 2 ^ (16 - k) % 65536 → crc m ((List.range k).map fun i => n.testBit (k - 1 - i)) = n * 2 ^ 16 % 65536
  | 0, n, m, _, _, h => h
  | k + 1, n, m, hk, hm, h => by
    rw [List.range_succ_eq_map, List.map_cons, List.map_map]
    have hb : n.testBit (k + 1 - 1 - 0) = m.testBit 15 := by
      have e : (65536 : Nat) = 2 ^ 16 := by decide
      rw [h, e, Nat.testBit_mod_two_pow, Nat.testBit_mul_two_pow]
      have : 15 - (16 - (k + 1)) = k := by omega
      rw [this]
      simp
    show crc (bstep m (n.testBit (k + 1 - 1 - 0))) _ = _
    rw [hb, bstep_own m hm]
    have e2 : (List.map ((fun i => n.testBit (k + 1 - 1 - i)) ∘ Nat.succ) (List.range k)) = (List.range k).map fun i => n.testBit (k - 1 - i) := by
      apply List.map_congr_left
      intro i hi
      have : k + 1 - 1 - (i + 1) = k - 1 - i := by omega
      simp only [Function.comp, Nat.succ_eq_add_one, this]
    rw [e2]
    refine own_bits k n _ (by omega) (by omega) ?_
    rw [h]
    have e3 : 16 - k = (16 - (k + 1)) + 1 := by omega
    rw [e3, Nat.pow_succ, ← Nat.mul_assoc, Nat.mod_mul_mod]
theorem bits_two (n : Nat) (h : n < 65536) : bitsL (twoE n) = (List.range 16).map fun i => n.testBit (16 - 1 - i) := by
  have h1 : (UInt8.ofNat (n / 256)).toNat = n / 2 ^ 8 := by rw [u8 _ (by omega)]
  have h2 : (UInt8.ofNat (n % 256)).toNat = n % 2 ^ 8 := by rw [u8 _ (by omega)]
  simp only [bitsL, twoE, List.map_cons, List.map_nil, List.flatten_cons, List.flatten_nil, bitsB, h1, h2, Nat.testBit_div_two_pow, Nat.testBit_mod_two_pow]
  simp [List.range, List.range.loop]
theorem sealed_zero (b : List UInt8) : sumFrom 65535 (b ++ twoE (sum b)) = 0 := by
  have hs := sum_lt b
  have e : sumFrom 65535 (b ++ twoE (sum b)) = sumFrom (sum b) (twoE (sum b)) := by
    unfold sumFrom sum sumFrom; rw [List.foldl_append]
  rw [e, sumFrom_crc, bits_two _ hs, own_bits 16 (sum b) (sum b) (Nat.le_refl _) hs (by simp; omega)]
  omega
theorem tells_zero {s : List UInt8} {j : Jn} (h : Tells s j) : sumFrom 65535 s = 0 := by
  rw [← h.2]
  exact sealed_zero _
/-- a journal in which bits are turned within sixteen in a row is none -/
theorem tells_burst (s t : List UInt8) (j k : Jn) (p q : Nat) (e : List Bool) (he : e.length ≤ 15) (hl : (bitsL s).length = (List.replicate p false ++ (true :: e) ++ List.replicate q false).length)
    (ht : bitsL t = List.zipWith (· ^^ ·) (bitsL s) (List.replicate p false ++ (true :: e) ++ List.replicate q false)) (hs : Tells s j) : ¬ Tells t k := by
  intro h
  exact sum_burst s t 65535 p q e (by decide) he hl ht (by rw [tells_zero h, tells_zero hs])
end M
end Go.Proofs.Ytlppphmnegdhoaa
