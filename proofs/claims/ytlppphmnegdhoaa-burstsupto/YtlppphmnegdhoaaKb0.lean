/-
  Bits that are turned: plain mathematics.
-/
import Derived.Test.YtlppphmnegdhoaaCrc
namespace Go.Proofs.Ytlppphmnegdhoaa
set_option linter.unusedVariables false
namespace M

def bitA (A : List UInt8) (i : Nat) : Bool := (A.getD (i / 8) 0).toNat.testBit (7 - i % 8)
def turnB (p m kk i : Nat) : Bool := decide (p ≤ i ∧ i < p + kk) && m.testBit (i - p)
structure Turned (S A : List UInt8) (p m kk : Nat) : Prop where
  len : A.length = S.length
  bit : ∀ i, i < 8 * S.length → bitA A i = (bitA S i ^^ turnB p m kk i)
theorem turned_zero (S : List UInt8) (p m : Nat) : Turned S S p m 0 := by
  refine ⟨rfl, fun i _ => ?_⟩
  have : turnB p m 0 i = false := by unfold turnB; simp; omega
  rw [this]; simp
theorem turnB_succ (p m kk i : Nat) : turnB p m (kk + 1) i = (turnB p m kk i || (decide (i = p + kk) && m.testBit kk)) := by
  unfold turnB
  by_cases h1 : i = p + kk
  · subst h1
    have e : p + kk - p = kk := by omega
    simp [e]
  · have e1 : decide (i = p + kk) = false := decide_eq_false h1
    have e2 : decide (p ≤ i ∧ i < p + (kk + 1)) = decide (p ≤ i ∧ i < p + kk) := by
      rw [decide_eq_decide]; omega
    rw [e1, e2]; simp
theorem turnB_at (p m kk : Nat) : turnB p m kk (p + kk) = false := by unfold turnB; simp
theorem turned_no {S A : List UInt8} {p m kk : Nat} (h : Turned S A p m kk) (hn : m.testBit kk = false ∨ 8 * S.length ≤ p + kk) : Turned S A p m (kk + 1) := by
  refine ⟨h.len, fun i hi => ?_⟩
  rw [h.bit i hi, turnB_succ]
  rcases hn with hn | hn
  · rw [hn]; simp
  · have e : decide (i = p + kk) = false := decide_eq_false (by omega)
    rw [e]; simp
theorem turned_yes {S A : List UInt8} {p m kk : Nat} (h : Turned S A p m kk) (hm : m.testBit kk = true) (hp : p + kk < 8 * S.length) (c : UInt8)
    (hc : ∀ b, b < 8 → c.toNat.testBit b = ((A.getD ((p + kk) / 8) 0).toNat.testBit b ^^ decide (b = 7 - (p + kk) % 8))) : Turned S (A.set ((p + kk) / 8) c) p m (kk + 1) := by
  have hlen := h.len
  refine ⟨by simpa using hlen, fun i hi => ?_⟩
  have hq : (p + kk) / 8 < A.length := by omega
  have hb := h.bit i hi
  rw [turnB_succ, hm]
  by_cases hi8 : i / 8 = (p + kk) / 8
  · have e : (A.set ((p + kk) / 8) c).getD (i / 8) 0 = c := by
      rw [List.getD_eq_getElem?_getD, hi8, List.getElem?_set_self hq]; rfl
    unfold bitA at hb ⊢
    rw [e, hc _ (by omega), ← hi8, hb]
    by_cases hii : i = p + kk
    · subst hii
      rw [turnB_at]
      simp
    · have e1 : decide (7 - i % 8 = 7 - (p + kk) % 8) = false := decide_eq_false (by omega)
      have e2 : decide (i = p + kk) = false := decide_eq_false hii
      rw [e1, e2]
      simp
  · have e : (A.set ((p + kk) / 8) c).getD (i / 8) 0 = A.getD (i / 8) 0 := by
      rw [List.getD_eq_getElem?_getD, List.getD_eq_getElem?_getD, List.getElem?_set_ne (by omega)]
    have e2 : decide (i = p + kk) = false := decide_eq_false (fun e => hi8 (by rw [e]))
    unfold bitA at hb ⊢
    rw [e, hb, e2]
    simp
theorem bitsL_len (A : List UInt8) : (bitsL A).length = 8 * A.length := by
  induction A with
  | nil => rfl
  | cons c A ih =>
    have e : bitsL (c :: A) = bitsB c ++ bitsL A := by simp [bitsL]
    rw [e, List.length_append, ih]
    simp [bitsB]; omega
theorem bitsB_get (c : UInt8) (i : Nat) (h : i < 8) : (bitsB c)[i]? = some (c.toNat.testBit (7 - i)) := by
  have : i = 0 ∨ i = 1 ∨ i = 2 ∨ i = 3 ∨ i = 4 ∨ i = 5 ∨ i = 6 ∨ i = 7 := by omega
  rcases this with rfl | rfl | rfl | rfl | rfl | rfl | rfl | rfl <;> rfl
theorem bitsL_get (A : List UInt8) : ∀ i, i < 8 * A.length → (bitsL A)[i]? = some (bitA A i) := by
  induction A with
  | nil => intro i h; simp at h
  | cons c A ih =>
    intro i h
    have e : bitsL (c :: A) = bitsB c ++ bitsL A := by simp [bitsL]
    have hl : (bitsB c).length = 8 := rfl
    rw [e]
    simp only [List.length_cons] at h
    by_cases h8 : i < 8
    · rw [List.getElem?_append_left (by omega), bitsB_get c i h8]
      unfold bitA
      have e1 : i / 8 = 0 := by omega
      have e2 : i % 8 = i := by omega
      rw [e1, e2]; rfl
    · rw [List.getElem?_append_right (by omega), hl, ih (i - 8) (by omega)]
      unfold bitA
      have e1 : i / 8 = (i - 8) / 8 + 1 := by omega
      have e2 : i % 8 = (i - 8) % 8 := by omega
      rw [e1, e2]; rfl
/-- the pattern of what is turned -/
theorem turned_pat {S A : List UInt8} {p y : Nat} (h : Turned S A p (y * 2 + 1) 16) (hp : p < 8 * S.length) :
    ∃ (q : Nat) (e : List Bool), e.length ≤ 15 ∧ (bitsL S).length = (List.replicate p false ++ (true :: e) ++ List.replicate q false).length ∧ bitsL A = List.zipWith (· ^^ ·) (bitsL S) (List.replicate p false ++ (true :: e) ++ List.replicate q false) := by
  obtain ⟨k, hk⟩ : ∃ k, min 15 (8 * S.length - p - 1) = k := ⟨_, rfl⟩
  have hk15 : k ≤ 15 := by omega
  have hkn : p + 1 + k ≤ 8 * S.length := by omega
  have hodd : (y * 2 + 1).testBit 0 = true := by rw [Nat.testBit_zero]; simp
  have hlenP : (List.replicate p false ++ (true :: (List.range k).map fun i => (y * 2 + 1).testBit (i + 1)) ++ List.replicate (8 * S.length - p - 1 - k) false).length = 8 * S.length := by
    simp; omega
  have hpat : ∀ i, i < 8 * S.length → (List.replicate p false ++ (true :: (List.range k).map fun i => (y * 2 + 1).testBit (i + 1)) ++ List.replicate (8 * S.length - p - 1 - k) false)[i]? = some (turnB p (y * 2 + 1) 16 i) := by
    intro i hi
    unfold turnB
    by_cases h1 : i < p
    · have e : decide (p ≤ i ∧ i < p + 16) = false := decide_eq_false (by omega)
      rw [List.append_assoc, List.getElem?_append_left (by simpa using h1), e]
      simp [h1]
    · rw [List.append_assoc, List.getElem?_append_right (by simp; omega), List.length_replicate]
      by_cases h2 : i - p < k + 1
      · have e : decide (p ≤ i ∧ i < p + 16) = true := decide_eq_true (by omega)
        rw [List.getElem?_append_left (by simp; omega), e]
        obtain ⟨j, hj⟩ : ∃ j, i - p = j := ⟨_, rfl⟩
        rw [hj] at h2 ⊢
        cases j with
        | zero => simp [hodd]
        | succ j => rw [List.getElem?_cons_succ, List.getElem?_map, List.getElem?_range (by omega)]; simp
      · have e : decide (p ≤ i ∧ i < p + 16) = false := decide_eq_false (by omega)
        rw [List.getElem?_append_right (by simp; omega), e, List.getElem?_replicate, if_pos (by simp; omega)]
        simp
  refine ⟨_, _, ?_, by rw [bitsL_len]; exact hlenP.symm, ?_⟩
  · simp; exact hk15
  · apply List.ext_getElem?
    intro i
    by_cases hi : i < 8 * S.length
    · rw [bitsL_get A i (by rw [h.len]; exact hi), List.getElem?_zipWith, bitsL_get S i hi, hpat i hi, h.bit i hi]
    · rw [List.getElem?_eq_none (by rw [bitsL_len, h.len]; omega), List.getElem?_eq_none (by rw [List.length_zipWith, bitsL_len, hlenP]; omega)]
theorem turned_tells {s t : List UInt8} {j : Jn} {p y : Nat} (h : Turned s t p (y * 2 + 1) 16) (hp : p < 8 * s.length) (hs : Tells s j) : ∀ k, Tells t k → False := by
  obtain ⟨q, e, h1, h2, h3⟩ := turned_pat h hp
  intro k hk
  exact tells_burst s t j k p q e h1 h2 h3 hs hk
theorem turned_sum {s t : List UInt8} {p y : Nat} (h : Turned s t p (y * 2 + 1) 16) (hp : p < 8 * s.length) : sum t ≠ sum s := by
  obtain ⟨q, e, h1, h2, h3⟩ := turned_pat h hp
  exact sum_burst s t 65535 p q e (by decide) h1 h2 h3
end M
end Go.Proofs.Ytlppphmnegdhoaa
