import Derived.Test.YtlppphmnegdhoabRows
import Derived.WalkKit
import Derived.WalkSpells
import Derived.WalkLawsBesides
import Derived.Laws.BitsLemmas
/-
  The sum: plain mathematics (bits, bytes), and what the program's two Sums answer.
-/
namespace Go.Proofs.Ytlppphmnegdhoab
set_option linter.unusedVariables false
open Go.RowKit
namespace M

/-- one bit -/
def bstep (n : Nat) (set : Bool) : Nat := if decide (32768 ≤ n) != set then (n * 2 % 65536) ^^^ 4129 else n * 2 % 65536
/-- the first k bits of a byte, the highest first -/
def bits8 (n c : Nat) : Nat → Nat
  | 0 => n
  | k + 1 => bstep (bits8 n c k) (c.testBit (7 - k))
/-- from a number on, a text's bytes -/
def sumFrom (n : Nat) (l : List UInt8) : Nat := l.foldl (fun n c => bits8 n c.toNat 8) n
def sum (l : List UInt8) : Nat := sumFrom 65535 l

theorem bstep_lt (n : Nat) (b : Bool) : bstep n b < 65536 := by
  unfold bstep
  split
  · exact Nat.xor_lt_two_pow (n := 16) (by omega) (by omega)
  · omega
theorem bits8_lt (n c k : Nat) (h : n < 65536) : bits8 n c k < 65536 := by
  cases k with
  | zero => exact h
  | succ k => exact bstep_lt _ _
theorem sumFrom_lt (n : Nat) (l : List UInt8) (h : n < 65536) : sumFrom n l < 65536 := by
  unfold sumFrom
  induction l generalizing n with
  | nil => exact h
  | cons c l ih => exact ih _ (bits8_lt _ _ _ h)
theorem sum_lt (l : List UInt8) : sum l < 65536 := sumFrom_lt _ _ (by decide)
theorem sumFrom_snoc (n : Nat) (l : List UInt8) (c : UInt8) : sumFrom n (l ++ [c]) = bits8 (sumFrom n l) c.toNat 8 := by
  unfold sumFrom; rw [List.foldl_append]; rfl

theorem and_i64 (a b : Nat) (ha : a < 2 ^ 62) (hb : b < 2 ^ 62) : bits .and .i64 (a : Int) (b : Int) = ((a &&& b : Nat) : Int) :=
  (bits_nat .i64 62 (by decide) (fun n h0 h1 => by rw [IntKind.wrap_i64]; omega) a b ha hb).1
theorem xor_i64 (a b : Nat) (ha : a < 2 ^ 62) (hb : b < 2 ^ 62) : bits .xor .i64 (a : Int) (b : Int) = ((a ^^^ b : Nat) : Int) :=
  by
  have ea : (BitVec.ofInt 64 (a : Int)).toNat = a := by simp; omega
  have eb : (BitVec.ofInt 64 (b : Int)).toNat = b := by simp; omega
  have hx : a ^^^ b < 2 ^ 62 := Nat.xor_lt_two_pow ha hb
  show IntKind.i64.wrap ((BitVec.ofInt 64 (a : Int) ^^^ BitVec.ofInt 64 (b : Int)).toNat : Int) = _
  rw [BitVec.toNat_xor, ea, eb, IntKind.wrap_i64]
  omega
theorem and_mask (m : Nat) (hm : m < 65536) : bits .and .i64 ((m : Int) * 2) 65535 = ((m * 2 % 65536 : Nat) : Int) := by
  have h := and_i64 (m * 2) 65535 (by omega) (by decide)
  rw [show (65535 : Nat) = 2 ^ 16 - 1 from rfl, Nat.and_two_pow_sub_one_eq_mod] at h
  simpa using h
theorem xor_mix (m : Nat) : bits .xor .i64 ((m : Int) * 2 % 65536) 4129 = (((m * 2 % 65536) ^^^ 4129 : Nat) : Int) := by
  have h := xor_i64 (m * 2 % 65536) 4129 (by omega) (by decide)
  simpa using h

/-- the bit that the k-th round looks at -/
def bitAt (k : Nat) : Nat := 128 / 2 ^ k
theorem bitAt_le (k : Nat) : bitAt k ≤ 128 := Nat.div_le_self _ _
theorem bitAt_succ (k : Nat) : bitAt k / 2 = bitAt (k + 1) := by unfold bitAt; rw [Nat.div_div_eq_div_mul, Nat.pow_succ]
theorem bitAt_pos (k : Nat) (h : k < 8) : 0 < bitAt k := by
  obtain rfl | rfl | rfl | rfl | rfl | rfl | rfl | rfl : k = 0 ∨ k = 1 ∨ k = 2 ∨ k = 3 ∨ k = 4 ∨ k = 5 ∨ k = 6 ∨ k = 7 := by omega
  all_goals decide
theorem bitAt_eq (k : Nat) (h : k < 8) : bitAt k = 2 ^ (7 - k) := by
  obtain rfl | rfl | rfl | rfl | rfl | rfl | rfl | rfl : k = 0 ∨ k = 1 ∨ k = 2 ∨ k = 3 ∨ k = 4 ∨ k = 5 ∨ k = 6 ∨ k = 7 := by omega
  all_goals decide
theorem and_bits : ∀ c, c < 256 → ∀ k, k < 8 → ((c &&& bitAt k) != 0) = c.testBit (7 - k) := by decide +kernel
theorem and_bit (c k : Nat) (hc : c < 256) (h : k < 8) : ((((c &&& bitAt k : Nat) : Int) != 0) : Bool) = c.testBit (7 - k) := by
  rw [← and_bits c hc k h, Bool.eq_iff_iff]; simp
theorem bstep_yes (m : Nat) (b : Bool) (h : (!decide (32768 ≤ (m : Int)) == b) = true) : bstep m b = (m * 2 % 65536) ^^^ 4129 := by
  have e : decide (32768 ≤ (m : Int)) = decide (32768 ≤ m) := by rw [decide_eq_decide]; omega
  rw [e] at h
  unfold bstep
  rw [if_pos]
  cases hd : decide (32768 ≤ m) <;> cases b <;> simp_all <;> omega
theorem bstep_no (m : Nat) (b : Bool) (h : (!decide (32768 ≤ (m : Int)) == b) = false) : bstep m b = m * 2 % 65536 := by
  have e : decide (32768 ≤ (m : Int)) = decide (32768 ≤ m) := by rw [decide_eq_decide]; omega
  rw [e] at h
  unfold bstep
  rw [if_neg]
  cases hd : decide (32768 ≤ m) <;> cases b <;> simp_all <;> omega
theorem and_one (x : Nat) (hx : x < 2 ^ 62) : bits .and .i64 (x : Int) 1 = ((x % 2 : Nat) : Int) := by
  have h := and_i64 x 1 hx (by decide)
  rw [show (1 : Nat) = 2 ^ 1 - 1 from rfl, Nat.and_two_pow_sub_one_eq_mod] at h
  simpa using h
theorem shift_test (m c r : Nat) (hm : m < 65536) (hc : c < 256) :
    (bits .and .i64 ((m : Int) / 32768) 1 != bits .and .i64 ((c : Int) / 2 ^ (7 - r)) 1) = (decide (32768 ≤ m) != c.testBit (7 - r)) := by
  have e1 : ((m : Int) / 32768) = ((m / 32768 : Nat) : Int) := by omega
  have e2 : ((c : Int) / 2 ^ (7 - r)) = ((c / 2 ^ (7 - r) : Nat) : Int) := by simp
  have l2 : c / 2 ^ (7 - r) ≤ c := Nat.div_le_self _ _
  rw [e1, e2, and_one _ (by omega), and_one _ (by omega), Nat.testBit_eq_decide_div_mod_eq]
  generalize c / 2 ^ (7 - r) = d at *
  rw [Bool.eq_iff_iff]
  by_cases h : 32768 ≤ m <;> simp [h] <;> omega
theorem bstep_pos (m : Nat) (b : Bool) (h : (decide (32768 ≤ m) != b) = true) : bstep m b = (m * 2 % 65536) ^^^ 4129 := by
  unfold bstep; rw [if_pos h]
theorem bstep_neg (m : Nat) (b : Bool) (h : (decide (32768 ≤ m) != b) = false) : bstep m b = m * 2 % 65536 := by
  unfold bstep; rw [if_neg (by simp [h])]
end M
open M
theorem ret_int {k : IntKind} {a b : Int} (h : a = b) : Ending.returned (.int k a) = .returned (.int k b) := by rw [h]

theorem take_snoc (s : ByteArray) (k : Nat) (h : k < s.size) : s.data.toList.take (k + 1) = s.data.toList.take k ++ [s[k]] := by
  rw [List.take_succ_eq_append_getElem (by simpa using h)]; rfl

end Go.Proofs.Ytlppphmnegdhoab

/-
  Journals: plain mathematics: numbers as bytes, records, what a journal is; readers and writers are one another's inverse.
-/
namespace Go.Proofs.Ytlppphmnegdhoab
set_option linter.unusedVariables false
namespace M

structure Rec where
  kind : Int
  n : Int
  s : ByteArray

def okRec (r : Rec) : Bool := decide (1 ≤ r.n) && ((decide (r.kind = 0) || decide (r.kind = 1)) && decide (r.s.size = 0) || decide (r.kind = 2) && decide ((r.s.size : Int) = r.n))
def inA (r : Rec) : Int := if r.kind = 1 then 0 else r.n
def inB (r : Rec) : Int := if r.kind = 0 ∨ r.kind = 1 then r.n else 0

theorem okRec_iff (r : Rec) : okRec r = true ↔ 1 ≤ r.n ∧ (((r.kind = 0 ∨ r.kind = 1) ∧ r.s.size = 0) ∨ (r.kind = 2 ∧ (r.s.size : Int) = r.n)) := by
  simp [okRec]

theorem ba_ext {a b : ByteArray} (h : a.data.toList = b.data.toList) : a = b := by
  cases a; cases b; simp at h; simp [h]
theorem ba_len (a : ByteArray) : a.data.toList.length = a.size := by rw [Array.length_toList]; rfl

def numE (v : Nat) : List UInt8 :=
  if v < 128 then [UInt8.ofNat v] else if v < 16384 then [UInt8.ofNat (128 + v % 128), UInt8.ofNat (v / 128)]
  else [UInt8.ofNat (128 + v % 128), UInt8.ofNat (128 + v / 128 % 128), UInt8.ofNat (v / 16384)]
def twoE (v : Nat) : List UInt8 := [UInt8.ofNat (v / 256), UInt8.ofNat (v % 256)]

/-- the strict reader of a number: rounds left, what was read so far, the weight, whether it is the first byte -/
def rdN : Nat → Nat → Nat → Bool → List UInt8 → Option (Nat × List UInt8)
  | 0, _, _, _, _ => none
  | _ + 1, _, _, _, [] => none
  | n + 1, v, wt, fst, c :: l => if c.toNat = 0 ∧ fst = false then none else if c.toNat < 128 then some (v + c.toNat * wt, l) else rdN n (v + (c.toNat - 128) * wt) (wt * 128) false l
def rdNum (l : List UInt8) : Option (Nat × List UInt8) := rdN 3 0 1 true l
/-- the loose one -/
def lsN : Nat → Nat → Nat → List UInt8 → Nat × List UInt8
  | 0, v, _, l => (v, l)
  | _ + 1, v, _, [] => (v, [])
  | n + 1, v, wt, c :: l => if c.toNat < 128 then (v + c.toNat % 128 * wt, l) else lsN n (v + c.toNat % 128 * wt) (wt * 128) l
def lsNum (l : List UInt8) : Nat × List UInt8 := lsN 3 0 1 l

theorem u8 (v : Nat) (h : v < 256) : (UInt8.ofNat v).toNat = v := by
  rw [UInt8.toNat_ofNat']; omega
theorem u8' (c : UInt8) : UInt8.ofNat c.toNat = c := by simp

theorem rdNum_numE (v : Nat) (r : List UInt8) (h : v < 2097152) : rdNum (numE v ++ r) = some (v, r) := by
  unfold rdNum numE
  split
  · rename_i h1
    simp only [List.cons_append, List.nil_append, rdN, u8 v (by omega)]
    simp [h1]
  · split
    · rename_i h1 h2
      simp only [List.cons_append, List.nil_append, rdN, u8 (128 + v % 128) (by omega), u8 (v / 128) (by omega)]
      rw [if_neg (by omega), if_neg (by omega), if_neg (by omega), if_pos (by omega)]
      simp; omega
    · rename_i h1 h2
      simp only [List.cons_append, List.nil_append, rdN, u8 (128 + v % 128) (by omega), u8 (128 + v / 128 % 128) (by omega), u8 (v / 16384) (by omega)]
      rw [if_neg (by omega), if_neg (by omega), if_neg (by omega), if_neg (by omega), if_neg (by omega), if_pos (by omega)]
      simp; omega
theorem lsNum_numE (v : Nat) (r : List UInt8) (h : v < 2097152) : lsNum (numE v ++ r) = (v, r) := by
  unfold lsNum numE
  split
  · rename_i h1
    simp only [List.cons_append, List.nil_append, lsN, u8 v (by omega)]
    rw [if_pos (by omega)]
    simp; omega
  · split
    · rename_i h1 h2
      simp only [List.cons_append, List.nil_append, lsN, u8 (128 + v % 128) (by omega), u8 (v / 128) (by omega)]
      rw [if_neg (by omega), if_pos (by omega)]
      simp; omega
    · rename_i h1 h2
      simp only [List.cons_append, List.nil_append, lsN, u8 (128 + v % 128) (by omega), u8 (128 + v / 128 % 128) (by omega), u8 (v / 16384) (by omega)]
      rw [if_neg (by omega), if_neg (by omega), if_pos (by omega)]
      simp; omega
theorem lsN_le : ∀ (n v wt : Nat) (l : List UInt8), (lsN n v wt l).2.length ≤ l.length ∧ (0 < n → l ≠ [] → (lsN n v wt l).2.length < l.length)
  | 0, v, wt, l => by simp [lsN]
  | n + 1, v, wt, [] => by simp [lsN]
  | n + 1, v, wt, c :: l => by
    simp only [lsN]
    split
    · simp
    · have := (lsN_le n (v + c.toNat % 128 * wt) (wt * 128) l).1
      simp; omega
theorem lsNum_lt (l : List UInt8) : (lsNum l).1 < 2097152 := by
  unfold lsNum
  match l with
  | [] => simp [lsN]
  | [a] => simp only [lsN]; split <;> simp <;> omega
  | [a, b] => simp only [lsN]; repeat' split
              all_goals (simp; omega)
  | a :: b :: c :: l => simp only [lsN]; repeat' split
                        all_goals (simp; omega)

theorem rdNum_inv (l : List UInt8) (v : Nat) (r : List UInt8) (h : rdNum l = some (v, r)) : l = numE v ++ r ∧ v < 2097152 := by
  unfold rdNum at h
  match l with
  | [] => simp [rdN] at h
  | c0 :: l =>
    have g0 := c0.toNat_lt
    simp only [rdN] at h
    rw [if_neg (by simp)] at h
    by_cases h0 : c0.toNat < 128
    · rw [if_pos h0] at h
      simp at h
      obtain ⟨rfl, rfl⟩ := h
      refine ⟨?_, by omega⟩
      simp [numE, h0]
    · rw [if_neg h0] at h
      match l with
      | [] => simp [rdN] at h
      | c1 :: l =>
        have g1 := c1.toNat_lt
        simp only [rdN] at h
        by_cases z1 : c1.toNat = 0
        · rw [if_pos ⟨z1, trivial⟩] at h; cases h
        rw [if_neg (fun q => z1 q.1)] at h
        by_cases h1 : c1.toNat < 128
        · rw [if_pos h1] at h
          simp at h
          obtain ⟨rfl, rfl⟩ := h
          refine ⟨?_, by omega⟩
          unfold numE
          rw [if_neg (by omega), if_pos (by omega)]
          have e0 : 128 + (c0.toNat - 128 + c1.toNat * 128) % 128 = c0.toNat := by omega
          have e1 : (c0.toNat - 128 + c1.toNat * 128) / 128 = c1.toNat := by omega
          rw [e0, e1, u8', u8']; rfl
        · rw [if_neg h1] at h
          match l with
          | [] => simp [rdN] at h
          | c2 :: l =>
            have g2 := c2.toNat_lt
            simp only [rdN] at h
            by_cases z2 : c2.toNat = 0
            · rw [if_pos ⟨z2, trivial⟩] at h; cases h
            rw [if_neg (fun q => z2 q.1)] at h
            by_cases h2 : c2.toNat < 128
            · rw [if_pos h2] at h
              simp at h
              obtain ⟨rfl, rfl⟩ := h
              refine ⟨?_, by omega⟩
              unfold numE
              rw [if_neg (by omega), if_neg (by omega)]
              have e0 : 128 + (c0.toNat - 128 + (c1.toNat - 128) * 128 + c2.toNat * 16384) % 128 = c0.toNat := by omega
              have e1 : 128 + (c0.toNat - 128 + (c1.toNat - 128) * 128 + c2.toNat * 16384) / 128 % 128 = c1.toNat := by omega
              have e2 : (c0.toNat - 128 + (c1.toNat - 128) * 128 + c2.toNat * 16384) / 16384 = c2.toNat := by omega
              rw [e0, e1, e2, u8', u8', u8']; rfl
            · rw [if_neg h2] at h; cases h
theorem numE_len (v : Nat) : 1 ≤ (numE v).length ∧ (numE v).length ≤ 3 := by
  unfold numE; repeat' split
  all_goals simp

def rdTwo : List UInt8 → Option (Nat × List UInt8)
  | a :: b :: r => some (a.toNat * 256 + b.toNat, r)
  | _ => none
theorem rdTwo_twoE (v : Nat) (r : List UInt8) (h : v < 65536) : rdTwo (twoE v ++ r) = some (v, r) := by
  simp only [twoE, List.cons_append, List.nil_append, rdTwo, u8 (v / 256) (by omega), u8 (v % 256) (by omega)]
  simp; omega
theorem rdTwo_inv (l : List UInt8) (v : Nat) (r : List UInt8) (h : rdTwo l = some (v, r)) : l = twoE v ++ r ∧ v < 65536 := by
  match l with
  | [] => simp [rdTwo] at h
  | [a] => simp [rdTwo] at h
  | a :: b :: l =>
    have ga := a.toNat_lt
    have gb := b.toNat_lt
    simp [rdTwo] at h
    obtain ⟨rfl, rfl⟩ := h
    refine ⟨?_, by omega⟩
    have e0 : (a.toNat * 256 + b.toNat) / 256 = a.toNat := by omega
    have e1 : (a.toNat * 256 + b.toNat) % 256 = b.toNat := by omega
    simp only [twoE, e0, e1, u8']; rfl

/-- a record's bytes -/
def recE (r : Rec) : List UInt8 := numE (4 * r.n + r.kind).toNat ++ r.s.data.toList
def recsE (l : List Rec) : List UInt8 := (l.map recE).flatten
def mkRec (m : Nat) (s : List UInt8) : Rec := ⟨(m : Int) % 4, (m : Int) / 4, ⟨⟨s⟩⟩⟩
/-- the strict reader of a record -/
def rdRec (l : List UInt8) : Option (Rec × List UInt8) :=
  match rdNum l with
  | none => none
  | some (m, r) =>
    if m % 4 = 2 then (if r.length < m / 4 then none else if okRec (mkRec m (r.take (m / 4))) then some (mkRec m (r.take (m / 4)), r.drop (m / 4)) else none)
    else if okRec (mkRec m []) then some (mkRec m [], r) else none

theorem rdRec_recE (r : Rec) (t : List UInt8) (h : okRec r = true) (hn : r.n ≤ 4096) : rdRec (recE r ++ t) = some (r, t) := by
  have hk := (okRec_iff r).1 h
  unfold rdRec recE
  rw [List.append_assoc, rdNum_numE _ _ (by omega)]
  have e4 : (4 * r.n + r.kind).toNat % 4 = r.kind.toNat := by omega
  have eq : (4 * r.n + r.kind).toNat / 4 = r.n.toNat := by omega
  simp only [e4, eq]
  have hl := ba_len r.s
  have e : ∀ s : List UInt8, s = r.s.data.toList → mkRec (4 * r.n + r.kind).toNat s = r := by
    intro s hs
    obtain ⟨kind, n, b⟩ := r
    have a1 : ((4 * n + kind).toNat : Int) % 4 = kind := by simp at hk; omega
    have a2 : ((4 * n + kind).toNat : Int) / 4 = n := by simp at hk; omega
    simp only [mkRec, a1, a2]
    have : (⟨⟨s⟩⟩ : ByteArray) = b := ba_ext hs
    rw [this]
  by_cases h2 : r.kind = 2
  · rw [if_pos (by omega), if_neg (by simp; omega)]
    have hT : (r.s.data.toList ++ t).take r.n.toNat = r.s.data.toList := by rw [List.take_append_of_le_length (by omega), List.take_of_length_le (by omega)]
    have hD : (r.s.data.toList ++ t).drop r.n.toNat = t := by rw [List.drop_append_of_le_length (by omega), List.drop_of_length_le (by omega)]; rfl
    rw [hT, hD, e _ rfl, if_pos h]
  · rw [if_neg (by omega)]
    have hs0 : r.s.data.toList = [] := List.length_eq_zero_iff.1 (by omega)
    rw [e [] hs0.symm, if_pos h, hs0]; rfl
theorem rdRec_inv (l : List UInt8) (r : Rec) (t : List UInt8) (h : rdRec l = some (r, t)) : okRec r = true ∧ l = recE r ++ t := by
  unfold rdRec at h
  match hm : rdNum l with
  | none => rw [hm] at h; cases h
  | some (m, q) =>
    rw [hm] at h
    obtain ⟨hl, hm2⟩ := rdNum_inv l m q hm
    have em : (4 * ((m : Int) / 4) + (m : Int) % 4).toNat = m := by omega
    simp only [] at h
    split at h
    · split at h
      · cases h
      · split at h
        · rename_i a b c
          simp at h
          obtain ⟨rfl, rfl⟩ := h
          refine ⟨c, ?_⟩
          rw [hl, recE]
          simp [mkRec, em]
        · cases h
    · split at h
      · rename_i a b
        simp at h
        obtain ⟨rfl, rfl⟩ := h
        refine ⟨b, ?_⟩
        rw [hl, recE]
        simp [mkRec, em]
      · cases h
theorem recE_len (r : Rec) : 1 ≤ (recE r).length := by
  unfold recE; have := (numE_len (4 * r.n + r.kind).toNat).1; simp; omega

/-- lengths -/
def lenA : List Rec → Int
  | [] => 0
  | r :: l => inA r + lenA l
def lenB : List Rec → Int
  | [] => 0
  | r :: l => inB r + lenB l
theorem lenA_append (l m : List Rec) : lenA (l ++ m) = lenA l + lenA m := by
  induction l with
  | nil => simp [lenA]
  | cons r l ih => simp only [List.cons_append, lenA, ih]; omega
theorem lenB_append (l m : List Rec) : lenB (l ++ m) = lenB l + lenB m := by
  induction l with
  | nil => simp [lenB]
  | cons r l ih => simp only [List.cons_append, lenB, ih]; omega
theorem recsE_append (l m : List Rec) : recsE (l ++ m) = recsE l ++ recsE m := by simp [recsE]
theorem recsE_cons (r : Rec) (l : List Rec) : recsE (r :: l) = recE r ++ recsE l := by simp [recsE]
def okAll (l : List Rec) : Prop := ∀ r ∈ l, okRec r = true
theorem inA_nn (r : Rec) (h : okRec r = true) : 0 ≤ inA r := by
  have := (okRec_iff r).1 h; unfold inA; split <;> omega
theorem inB_nn (r : Rec) (h : okRec r = true) : 0 ≤ inB r := by
  have := (okRec_iff r).1 h; unfold inB; split <;> omega
theorem inAB (r : Rec) (h : okRec r = true) : r.n ≤ inA r + inB r := by
  have := (okRec_iff r).1 h; unfold inA inB; repeat' split
  all_goals omega
theorem lenA_nn (l : List Rec) (h : okAll l) : 0 ≤ lenA l := by
  induction l with
  | nil => simp [lenA]
  | cons r l ih => have := ih (fun x hx => h x (List.mem_cons_of_mem _ hx)); have := inA_nn r (h r (List.mem_cons_self ..)); simp only [lenA]; omega
theorem lenB_nn (l : List Rec) (h : okAll l) : 0 ≤ lenB l := by
  induction l with
  | nil => simp [lenB]
  | cons r l ih => have := ih (fun x hx => h x (List.mem_cons_of_mem _ hx)); have := inB_nn r (h r (List.mem_cons_self ..)); simp only [lenB]; omega

theorem n_le (r : Rec) (h : okRec r = true) : r.n = inA r ∨ r.n = inB r := by
  have := (okRec_iff r).1 h; unfold inA inB; repeat' split
  all_goals omega
theorem mem_le (l : List Rec) (h : okAll l) (r : Rec) (hr : r ∈ l) : inA r ≤ lenA l ∧ inB r ≤ lenB l := by
  induction l with
  | nil => cases hr
  | cons x l ih =>
    have hl : okAll l := fun y hy => h y (List.mem_cons_of_mem _ hy)
    have h1 := inA_nn x (h x (List.mem_cons_self ..))
    have h2 := inB_nn x (h x (List.mem_cons_self ..))
    have h3 := lenA_nn l hl
    have h4 := lenB_nn l hl
    simp only [lenA, lenB]
    rcases List.mem_cons.1 hr with rfl | hr
    · omega
    · have := ih hl hr; omega
theorem mem_n (l : List Rec) (h : okAll l) (ha : lenA l ≤ 4096) (hb : lenB l ≤ 4096) (r : Rec) (hr : r ∈ l) : r.n ≤ 4096 := by
  have := mem_le l h r hr
  have := n_le r (h r hr)
  omega
theorem okAll_cons {r : Rec} {l : List Rec} (h : okAll (r :: l)) : okRec r = true ∧ okAll l :=
  ⟨h r (List.mem_cons_self ..), fun x hx => h x (List.mem_cons_of_mem _ hx)⟩
theorem okAll_append {l m : List Rec} (h : okAll l) (g : okAll m) : okAll (l ++ m) := fun x hx => by
  rcases List.mem_append.1 hx with hx | hx
  · exact h x hx
  · exact g x hx
/-- records are known by their bytes -/
theorem recs_prefix (l : List Rec) : ∀ (l' : List Rec) (t : List UInt8), okAll l → okAll l' → (∀ r ∈ l, r.n ≤ 4096) → (∀ r ∈ l', r.n ≤ 4096) → recsE l ++ t = recsE l' → ∃ m, l' = l ++ m ∧ t = recsE m := by
  induction l with
  | nil => intro l' t _ _ _ _ h; exact ⟨l', rfl, h⟩
  | cons r l ih =>
    intro l' t ho ho' hn hn' h
    obtain ⟨o1, o2⟩ := okAll_cons ho
    rw [recsE_cons, List.append_assoc] at h
    match l' with
    | [] =>
      have := recE_len r
      have h2 := congrArg List.length h
      simp [recsE] at h2
      have h3 : recE r = [] := h2.1
      rw [h3] at this; simp at this
    | r' :: l' =>
      obtain ⟨p1, p2⟩ := okAll_cons ho'
      rw [recsE_cons] at h
      have e1 := rdRec_recE r (recsE l ++ t) o1 (hn r (List.mem_cons_self ..))
      rw [h, rdRec_recE r' _ p1 (hn' r' (List.mem_cons_self ..))] at e1
      simp only [Option.some.injEq, Prod.mk.injEq] at e1
      obtain ⟨rfl, e2⟩ := e1
      obtain ⟨m, hm, ht⟩ := ih l' t o2 p2 (fun x hx => hn x (List.mem_cons_of_mem _ hx)) (fun x hx => hn' x (List.mem_cons_of_mem _ hx)) e2.symm
      exact ⟨m, by rw [hm]; rfl, ht⟩

structure Jn where
  la : Nat
  lb : Nat
  sa : Nat
  sb : Nat
  l : List Rec
def headE (j : Jn) : List UInt8 := 82 :: 84 :: (numE j.la ++ (numE j.lb ++ (twoE j.sa ++ twoE j.sb)))
def bodyE (j : Jn) : List UInt8 := headE j ++ recsE j.l
def writE (j : Jn) : List UInt8 := bodyE j ++ twoE (sum (bodyE j))
structure Valid (j : Jn) : Prop where
  ok : okAll j.l
  a : lenA j.l = j.la
  b : lenB j.l = j.lb
  la : j.la ≤ 4096
  lb : j.lb ≤ 4096
  sa : j.sa < 65536
  sb : j.sb < 65536
/-- s is the journal that tells j -/
def Tells (s : List UInt8) (j : Jn) : Prop := Valid j ∧ writE j = s
end M
end Go.Proofs.Ytlppphmnegdhoab

/-
  Lists of records place by place: events, the short list by blocks, joining: plain mathematics.
-/
namespace Go.Proofs.Ytlppphmnegdhoab
set_option linter.unusedVariables false
namespace M

inductive Ev where
  | k : Ev
  | d : Ev
  | r : UInt8 → Ev

def expR (r : Rec) : List Ev := if r.kind = 0 then List.replicate r.n.toNat .k else if r.kind = 1 then List.replicate r.n.toNat .d else r.s.data.toList.map .r
def expL : List Rec → List Ev
  | [] => []
  | r :: l => expR r ++ expL l
theorem expL_append (l m : List Rec) : expL (l ++ m) = expL l ++ expL m := by
  induction l with
  | nil => rfl
  | cons r l ih => simp [expL, ih]

/-- of each place of B the place of A, or -1 -/
def evF : Nat → List Ev → List Int
  | _, [] => []
  | a, .k :: es => (a : Int) :: evF (a + 1) es
  | a, .d :: es => -1 :: evF a es
  | a, .r _ :: es => evF (a + 1) es
/-- of each place of A the byte, or -1 -/
def evK : List Ev → List Int
  | [] => []
  | .k :: es => -1 :: evK es
  | .d :: es => evK es
  | .r c :: es => (c.toNat : Int) :: evK es
def evA : List Ev → Nat
  | [] => 0
  | .d :: es => evA es
  | .k :: es => evA es + 1
  | .r _ :: es => evA es + 1
def evB : List Ev → Nat
  | [] => 0
  | .d :: es => evB es + 1
  | .k :: es => evB es + 1
  | .r _ :: es => evB es
theorem evA_append (x y : List Ev) : evA (x ++ y) = evA x + evA y := by
  induction x with
  | nil => simp [evA]
  | cons e x ih => cases e <;> simp [evA, ih] <;> omega
theorem evB_append (x y : List Ev) : evB (x ++ y) = evB x + evB y := by
  induction x with
  | nil => simp [evB]
  | cons e x ih => cases e <;> simp [evB, ih] <;> omega
theorem evF_append (x y : List Ev) : ∀ a, evF a (x ++ y) = evF a x ++ evF (a + evA x) y := by
  induction x with
  | nil => intro a; simp [evF, evA]
  | cons e x ih => intro a; cases e <;> simp [evF, evA, ih] <;> congr 1 <;> omega
theorem evK_append (x y : List Ev) : evK (x ++ y) = evK x ++ evK y := by
  induction x with
  | nil => rfl
  | cons e x ih => cases e <;> simp [evK, ih]
theorem evF_len (x : List Ev) : ∀ a, (evF a x).length = evB x := by
  induction x with
  | nil => intro a; rfl
  | cons e x ih => intro a; cases e <;> simp [evF, evB, ih]
theorem evK_len (x : List Ev) : (evK x).length = evA x := by
  induction x with
  | nil => rfl
  | cons e x ih => cases e <;> simp [evK, evA, ih]
theorem ev_rep_k (n : Nat) : evA (List.replicate n .k) = n ∧ evB (List.replicate n .k) = n := by
  induction n with
  | zero => exact ⟨rfl, rfl⟩
  | succ n ih => simp [List.replicate_succ, evA, evB, ih]
theorem ev_rep_d (n : Nat) : evA (List.replicate n .d) = 0 ∧ evB (List.replicate n .d) = n := by
  induction n with
  | zero => exact ⟨rfl, rfl⟩
  | succ n ih => simp [List.replicate_succ, evA, evB, ih]
theorem ev_map_r (s : List UInt8) : evA (s.map .r) = s.length ∧ evB (s.map .r) = 0 := by
  induction s with
  | nil => exact ⟨rfl, rfl⟩
  | cons c s ih => simp [evA, evB, ih]
theorem expR_len (r : Rec) (h : okRec r = true) : (evA (expR r) : Int) = inA r ∧ (evB (expR r) : Int) = inB r := by
  have hk := (okRec_iff r).1 h
  have hl := ba_len r.s
  unfold expR inA inB
  by_cases h0 : r.kind = 0
  · simp [h0, ev_rep_k]; omega
  · by_cases h1 : r.kind = 1
    · simp [h1, ev_rep_d]; omega
    · have h2 : r.kind = 2 := by omega
      simp [h2, ev_map_r]; omega
theorem expL_len (l : List Rec) (h : okAll l) : (evA (expL l) : Int) = lenA l ∧ (evB (expL l) : Int) = lenB l := by
  induction l with
  | nil => exact ⟨rfl, rfl⟩
  | cons r l ih =>
    have hr := expR_len r (okAll_cons h).1
    have hl := ih (okAll_cons h).2
    simp only [expL, evA_append, evB_append, lenA, lenB]
    omega

/-- the same but for the order of Drops and Restores -/
inductive Eqv : List Ev → List Ev → Prop
  | refl (x) : Eqv x x
  | swap (c x) : Eqv (.d :: .r c :: x) (.r c :: .d :: x)
  | cons (e) {x y} : Eqv x y → Eqv (e :: x) (e :: y)
  | symm {x y} : Eqv x y → Eqv y x
  | trans {x y z} : Eqv x y → Eqv y z → Eqv x z
theorem Eqv.pre (p : List Ev) {x y : List Ev} (h : Eqv x y) : Eqv (p ++ x) (p ++ y) := by
  induction p with
  | nil => exact h
  | cons e p ih => exact .cons e ih
theorem Eqv.post {x y : List Ev} (h : Eqv x y) (q : List Ev) : Eqv (x ++ q) (y ++ q) := by
  induction h with
  | refl x => exact .refl _
  | swap c x => exact .swap c _
  | cons e _ ih => exact .cons e ih
  | symm _ ih => exact .symm ih
  | trans _ _ ih1 ih2 => exact .trans ih1 ih2
theorem eqv_d_map (s : List UInt8) (x : List Ev) : Eqv (.d :: (s.map .r ++ x)) (s.map .r ++ .d :: x) := by
  induction s with
  | nil => exact .refl _
  | cons c s ih => exact .trans (.swap c _) (.cons _ ih)
theorem eqv_r_rep (c : UInt8) (n : Nat) (x : List Ev) : Eqv (.r c :: (List.replicate n .d ++ x)) (List.replicate n .d ++ .r c :: x) := by
  induction n with
  | zero => exact .refl _
  | succ n ih => exact .trans (.symm (.swap c _)) (.cons _ ih)
theorem eqv_turn (n : Nat) (s : List UInt8) (x : List Ev) : Eqv (List.replicate n .d ++ (s.map .r ++ x)) (s.map .r ++ (List.replicate n .d ++ x)) := by
  induction n with
  | zero => exact .refl _
  | succ n ih => exact .trans (.cons _ ih) (eqv_d_map s _)
theorem Eqv.F {x y : List Ev} (h : Eqv x y) : ∀ a, evF a x = evF a y := by
  induction h with
  | refl x => intro a; rfl
  | swap c x => intro a; simp [evF]
  | cons e _ ih => intro a; cases e <;> simp [evF, ih]
  | symm _ ih => intro a; exact (ih a).symm
  | trans _ _ ih1 ih2 => intro a; exact (ih1 a).trans (ih2 a)
theorem Eqv.K {x y : List Ev} (h : Eqv x y) : evK x = evK y := by
  induction h with
  | refl x => rfl
  | swap c x => simp [evK]
  | cons e _ ih => cases e <;> simp [evK, ih]
  | symm _ ih => exact ih.symm
  | trans _ _ ih1 ih2 => exact ih1.trans ih2
theorem Eqv.A {x y : List Ev} (h : Eqv x y) : evA x = evA y := by rw [← evK_len, ← evK_len, h.K]
theorem Eqv.B {x y : List Ev} (h : Eqv x y) : evB x = evB y := by rw [← evF_len _ 0, ← evF_len _ 0, h.F]

/-- blocks: a Drop, a Restore, a Keep -/
structure Blk where
  d : Nat
  s : List UInt8
  m : Nat
def nb (d : Nat) (s : List UInt8) (m : Nat) : List Ev → List Blk
  | [] => if d = 0 ∧ s = [] ∧ m = 0 then [] else [⟨d, s, m⟩]
  | .k :: es => nb d s (m + 1) es
  | .d :: es => if m = 0 then nb (d + 1) s 0 es else ⟨d, s, m⟩ :: nb 1 [] 0 es
  | .r c :: es => if m = 0 then nb d (s ++ [c]) 0 es else ⟨d, s, m⟩ :: nb 0 [c] 0 es
def evBlk (b : Blk) : List Ev := List.replicate b.d .d ++ (b.s.map .r ++ List.replicate b.m .k)
def evBlks : List Blk → List Ev
  | [] => []
  | b :: l => evBlk b ++ evBlks l
def rDrop (d : Nat) : List Rec := if d = 0 then [] else [⟨1, d, ⟨#[]⟩⟩]
def rRest (s : List UInt8) : List Rec := if s = [] then [] else [⟨2, s.length, ⟨⟨s⟩⟩⟩]
def rKeep (m : Nat) : List Rec := if m = 0 then [] else [⟨0, m, ⟨#[]⟩⟩]
def outB (b : Blk) : List Rec := rDrop b.d ++ (rRest b.s ++ rKeep b.m)
def outBs : List Blk → List Rec
  | [] => []
  | b :: l => outB b ++ outBs l
/-- the short list -/
def norm (es : List Ev) : List Rec := outBs (nb 0 [] 0 es)

theorem nb_eqv (es : List Ev) : ∀ d s m, Eqv (List.replicate d .d ++ (s.map .r ++ (List.replicate m .k ++ es))) (evBlks (nb d s m es)) := by
  induction es with
  | nil =>
    intro d s m
    simp only [nb]
    split
    · rename_i h; obtain ⟨rfl, rfl, rfl⟩ := h; exact .refl _
    · simp only [evBlks, evBlk, List.append_nil]; exact .refl _
  | cons e es ih =>
    intro d s m
    cases e with
    | k =>
      simp only [nb]
      have := ih d s (m + 1)
      rw [List.replicate_succ', List.append_assoc] at this
      exact this
    | d =>
      simp only [nb]
      split
      · rename_i h; subst h
        refine .trans ?_ (ih (d + 1) s 0)
        rw [List.replicate_succ', List.append_assoc]
        exact .pre _ (.symm (eqv_d_map s _))
      · have := ih 1 [] 0
        simp only [evBlks, evBlk, List.append_assoc]
        exact .pre _ (.pre _ (.pre _ this))
    | r c =>
      simp only [nb]
      split
      · rename_i h; subst h
        have := ih d (s ++ [c]) 0
        simp only [List.map_append, List.append_assoc] at this
        exact this
      · have := ih 0 [c] 0
        simp only [evBlks, evBlk, List.append_assoc]
        exact .pre _ (.pre _ (.pre _ this))
theorem nb_can (es : List Ev) : Eqv es (evBlks (nb 0 [] 0 es)) := nb_eqv es 0 [] 0

theorem Eqv.nb {x y : List Ev} (h : Eqv x y) : ∀ d s m, M.nb d s m x = M.nb d s m y := by
  induction h with
  | refl x => intro d s m; rfl
  | swap c x =>
    intro d s m
    by_cases h : m = 0
    · subst h; simp [M.nb]
    · simp [M.nb, h]
  | cons e _ ih => intro d s m; cases e <;> simp [M.nb, ih]
  | symm _ ih => intro d s m; exact (ih d s m).symm
  | trans _ _ ih1 ih2 => intro d s m; exact (ih1 d s m).trans (ih2 d s m)
theorem Eqv.norm {x y : List Ev} (h : Eqv x y) : M.norm x = M.norm y := by unfold M.norm; rw [h.nb]

theorem exp_outB (b : Blk) : expL (outB b) = evBlk b := by
  unfold outB evBlk rDrop rRest rKeep
  simp only [expL_append]
  congr 1
  · split
    · rename_i h; simp [h, expL]
    · simp [expL, expR]
  congr 1
  · split
    · rename_i h; simp [h, expL]
    · simp [expL, expR]
  · split
    · rename_i h; simp [h, expL]
    · simp [expL, expR]
theorem exp_outBs (l : List Blk) : expL (outBs l) = evBlks l := by
  induction l with
  | nil => rfl
  | cons b l ih => simp only [outBs, evBlks, expL_append, exp_outB, ih]
theorem exp_norm (es : List Ev) : Eqv es (expL (norm es)) := by
  unfold norm; rw [exp_outBs]; exact nb_can es
theorem norm_norm (es : List Ev) : norm (expL (norm es)) = norm es := (exp_norm es).norm.symm

/-- blocks as they come out: all but the last keep something, all but the first drop or restore something -/
def wfTail : List Blk → Prop
  | [] => True
  | [b] => 0 < b.d ∨ b.s ≠ []
  | b :: c :: l => (0 < b.d ∨ b.s ≠ []) ∧ 0 < b.m ∧ wfTail (c :: l)
def wfBlks : List Blk → Prop
  | [] => True
  | [b] => 0 < b.d ∨ b.s ≠ [] ∨ 0 < b.m
  | b :: c :: l => 0 < b.m ∧ wfTail (c :: l)
theorem wf_cons (b : Blk) (l : List Blk) (h : wfTail l) (hm : 0 < b.m) : wfBlks (b :: l) := by
  cases l with
  | nil => exact .inr (.inr hm)
  | cons c l => exact ⟨hm, h⟩
theorem wfT_cons (b : Blk) (l : List Blk) (h : wfTail l) (hm : 0 < b.m) (hd : 0 < b.d ∨ b.s ≠ []) : wfTail (b :: l) := by
  cases l with
  | nil => exact hd
  | cons c l => exact ⟨hd, hm, h⟩
theorem nb_wfT (es : List Ev) : ∀ d s m, (0 < d ∨ s ≠ []) → wfTail (nb d s m es) := by
  induction es with
  | nil =>
    intro d s m h
    simp only [nb]
    split
    · trivial
    · exact h
  | cons e es ih =>
    intro d s m h
    cases e with
    | k => exact ih d s (m + 1) h
    | d =>
      simp only [nb]
      split
      · exact ih (d + 1) s 0 (.inl (by omega))
      · exact wfT_cons _ _ (ih 1 [] 0 (.inl (by omega))) (by simp; omega) h
    | r c =>
      simp only [nb]
      split
      · exact ih d (s ++ [c]) 0 (.inr (by simp))
      · exact wfT_cons _ _ (ih 0 [c] 0 (.inr (by simp))) (by simp; omega) h
theorem nb_wf (es : List Ev) : ∀ d s m, wfBlks (nb d s m es) := by
  induction es with
  | nil =>
    intro d s m
    simp only [nb]
    split
    · trivial
    · rename_i h
      simp only [wfBlks]
      by_cases h1 : 0 < d
      · exact .inl h1
      · by_cases h2 : s = []
        · refine .inr (.inr ?_)
          apply Nat.pos_of_ne_zero
          intro h3
          exact h ⟨by omega, h2, h3⟩
        · exact .inr (.inl h2)
  | cons e es ih =>
    intro d s m
    cases e with
    | k => exact ih d s (m + 1)
    | d =>
      simp only [nb]
      split
      · exact ih (d + 1) s 0
      · exact wf_cons _ _ (nb_wfT es 1 [] 0 (.inl (by omega))) (by simp; omega)
    | r c =>
      simp only [nb]
      split
      · exact ih d (s ++ [c]) 0
      · exact wf_cons _ _ (nb_wfT es 0 [c] 0 (.inr (by simp))) (by simp; omega)

theorem outB_ok (b : Blk) : okAll (outB b) := by
  intro r hr
  rw [okRec_iff]
  unfold outB rDrop rRest rKeep at hr
  simp only [List.mem_append] at hr
  rcases hr with hr | hr | hr
  · split at hr
    · cases hr
    · rename_i h; simp at hr; subst hr; exact ⟨by simp; omega, .inl ⟨by simp, rfl⟩⟩
  · split at hr
    · cases hr
    · rename_i h
      simp at hr; subst hr
      have : 0 < b.s.length := List.length_pos_iff.2 h
      refine ⟨by simp; omega, .inr ⟨rfl, ?_⟩⟩
      simp [ByteArray.size]
  · split at hr
    · cases hr
    · rename_i h; simp at hr; subst hr; exact ⟨by simp; omega, .inl ⟨by simp, rfl⟩⟩
theorem outBs_ok (l : List Blk) : okAll (outBs l) := by
  induction l with
  | nil => intro r hr; cases hr
  | cons b l ih => exact okAll_append (outB_ok b) ih
theorem norm_ok (es : List Ev) : okAll (norm es) := outBs_ok _
theorem norm_len (es : List Ev) : lenA (norm es) = evA es ∧ lenB (norm es) = evB es := by
  have h := expL_len _ (norm_ok es)
  have e := exp_norm es
  rw [← e.A, ← e.B] at h
  exact ⟨h.1.symm, h.2.symm⟩
end M
end Go.Proofs.Ytlppphmnegdhoab
