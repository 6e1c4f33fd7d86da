/-
  The sum: plain mathematics (bits, bytes), and what the program's two Sums answer.
-/
import Derived.Test.YtlppphmnegdhoaaRows
import Derived.WalkKit
import Derived.WalkSpells
import Derived.WalkLawsBesides
import Derived.Laws.BitsLemmas
namespace Go.Proofs.Ytlppphmnegdhoaa
set_option linter.unusedVariables false
open Go.RowKit
namespace M

/-- one bit -/
def bstep (n : Nat) (set : Bool) : Nat := if decide (32768 ≤ n) != set then (n * 2 % 65536) ^^^ 4129 else n * 2 % 65536
/-- the first k bits of a byte, the highest first -/
def bits8 (n c : Nat) : Nat → Nat
  | 0 => n
  | k + 1 => bstep (bits8 n c k) (c.testBit (7 - k))
/-- from a number on, a text's bytes -/
def sumFrom (n : Nat) (l : List UInt8) : Nat := l.foldl (fun n c => bits8 n c.toNat 8) n
def sum (l : List UInt8) : Nat := sumFrom 65535 l

theorem bstep_lt (n : Nat) (b : Bool) : bstep n b < 65536 := by
  unfold bstep
  split
  · exact Nat.xor_lt_two_pow (n := 16) (by omega) (by omega)
  · omega
theorem bits8_lt (n c k : Nat) (h : n < 65536) : bits8 n c k < 65536 := by
  cases k with
  | zero => exact h
  | succ k => exact bstep_lt _ _
theorem sumFrom_lt (n : Nat) (l : List UInt8) (h : n < 65536) : sumFrom n l < 65536 := by
  unfold sumFrom
  induction l generalizing n with
  | nil => exact h
  | cons c l ih => exact ih _ (bits8_lt _ _ _ h)
theorem sum_lt (l : List UInt8) : sum l < 65536 := sumFrom_lt _ _ (by decide)
theorem sumFrom_snoc (n : Nat) (l : List UInt8) (c : UInt8) : sumFrom n (l ++ [c]) = bits8 (sumFrom n l) c.toNat 8 := by
  unfold sumFrom; rw [List.foldl_append]; rfl

theorem and_i64 (a b : Nat) (ha : a < 2 ^ 62) (hb : b < 2 ^ 62) : bits .and .i64 (a : Int) (b : Int) = ((a &&& b : Nat) : Int) :=
  (bits_nat .i64 62 (by decide) (fun n h0 h1 => by rw [IntKind.wrap_i64]; omega) a b ha hb).1
theorem xor_i64 (a b : Nat) (ha : a < 2 ^ 62) (hb : b < 2 ^ 62) : bits .xor .i64 (a : Int) (b : Int) = ((a ^^^ b : Nat) : Int) :=
  by
  have ea : (BitVec.ofInt 64 (a : Int)).toNat = a := by simp; omega
  have eb : (BitVec.ofInt 64 (b : Int)).toNat = b := by simp; omega
  have hx : a ^^^ b < 2 ^ 62 := Nat.xor_lt_two_pow ha hb
  show IntKind.i64.wrap ((BitVec.ofInt 64 (a : Int) ^^^ BitVec.ofInt 64 (b : Int)).toNat : Int) = _
  rw [BitVec.toNat_xor, ea, eb, IntKind.wrap_i64]
  omega
theorem and_mask (m : Nat) (hm : m < 65536) : bits .and .i64 ((m : Int) * 2) 65535 = ((m * 2 % 65536 : Nat) : Int) := by
  have h := and_i64 (m * 2) 65535 (by omega) (by decide)
  rw [show (65535 : Nat) = 2 ^ 16 - 1 from rfl, Nat.and_two_pow_sub_one_eq_mod] at h
  simpa using h
theorem xor_mix (m : Nat) : bits .xor .i64 ((m : Int) * 2 % 65536) 4129 = (((m * 2 % 65536) ^^^ 4129 : Nat) : Int) := by
  have h := xor_i64 (m * 2 % 65536) 4129 (by omega) (by decide)
  simpa using h

/-- the bit that the k-th round looks at -/
def bitAt (k : Nat) : Nat := 128 / 2 ^ k
theorem bitAt_le (k : Nat) : bitAt k ≤ 128 := Nat.div_le_self _ _
theorem bitAt_succ (k : Nat) : bitAt k / 2 = bitAt (k + 1) := by unfold bitAt; rw [Nat.div_div_eq_div_mul, Nat.pow_succ]
theorem bitAt_pos (k : Nat) (h : k < 8) : 0 < bitAt k := by
  obtain rfl | rfl | rfl | rfl | rfl | rfl | rfl | rfl : k = 0 ∨ k = 1 ∨ k = 2 ∨ k = 3 ∨ k = 4 ∨ k = 5 ∨ k = 6 ∨ k = 7 := by omega
  all_goals decide
theorem bitAt_eq (k : Nat) (h : k < 8) : bitAt k = 2 ^ (7 - k) := by
  obtain rfl | rfl | rfl | rfl | rfl | rfl | rfl | rfl : k = 0 ∨ k = 1 ∨ k = 2 ∨ k = 3 ∨ k = 4 ∨ k = 5 ∨ k = 6 ∨ k = 7 := by omega
  all_goals decide
theorem and_bits : ∀ c, c < 256 → ∀ k, k < 8 → ((c &&& bitAt k) != 0) = c.testBit (7 - k) := by decide +kernel
theorem and_bit (c k : Nat) (hc : c < 256) (h : k < 8) : ((((c &&& bitAt k : Nat) : Int) != 0) : Bool) = c.testBit (7 - k) := by
  rw [← and_bits c hc k h, Bool.eq_iff_iff]; simp
theorem bstep_yes (m : Nat) (b : Bool) (h : (!decide (32768 ≤ (m : Int)) == b) = true) : bstep m b = (m * 2 % 65536) ^^^ 4129 := by
  have e : decide (32768 ≤ (m : Int)) = decide (32768 ≤ m) := by rw [decide_eq_decide]; omega
  rw [e] at h
  unfold bstep
  rw [if_pos]
  cases hd : decide (32768 ≤ m) <;> cases b <;> simp_all <;> omega
theorem bstep_no (m : Nat) (b : Bool) (h : (!decide (32768 ≤ (m : Int)) == b) = false) : bstep m b = m * 2 % 65536 := by
  have e : decide (32768 ≤ (m : Int)) = decide (32768 ≤ m) := by rw [decide_eq_decide]; omega
  rw [e] at h
  unfold bstep
  rw [if_neg]
  cases hd : decide (32768 ≤ m) <;> cases b <;> simp_all <;> omega
theorem and_one (x : Nat) (hx : x < 2 ^ 62) : bits .and .i64 (x : Int) 1 = ((x % 2 : Nat) : Int) := by
  have h := and_i64 x 1 hx (by decide)
  rw [show (1 : Nat) = 2 ^ 1 - 1 from rfl, Nat.and_two_pow_sub_one_eq_mod] at h
  simpa using h
theorem shift_test (m c r : Nat) (hm : m < 65536) (hc : c < 256) :
    (bits .and .i64 ((m : Int) / 32768) 1 != bits .and .i64 ((c : Int) / 2 ^ (7 - r)) 1) = (decide (32768 ≤ m) != c.testBit (7 - r)) := by
  have e1 : ((m : Int) / 32768) = ((m / 32768 : Nat) : Int) := by omega
  have e2 : ((c : Int) / 2 ^ (7 - r)) = ((c / 2 ^ (7 - r) : Nat) : Int) := by simp
  have l2 : c / 2 ^ (7 - r) ≤ c := Nat.div_le_self _ _
  rw [e1, e2, and_one _ (by omega), and_one _ (by omega), Nat.testBit_eq_decide_div_mod_eq]
  generalize c / 2 ^ (7 - r) = d at *
  rw [Bool.eq_iff_iff]
  by_cases h : 32768 ≤ m <;> simp [h] <;> omega
theorem bstep_pos (m : Nat) (b : Bool) (h : (decide (32768 ≤ m) != b) = true) : bstep m b = (m * 2 % 65536) ^^^ 4129 := by
  unfold bstep; rw [if_pos h]
theorem bstep_neg (m : Nat) (b : Bool) (h : (decide (32768 ≤ m) != b) = false) : bstep m b = m * 2 % 65536 := by
  unfold bstep; rw [if_neg (by simp [h])]
end M
open M
theorem ret_int {k : IntKind} {a b : Int} (h : a = b) : Ending.returned (.int k a) = .returned (.int k b) := by rw [h]

set_option maxHeartbeats 400000 in
theorem addByte_calls (n c : Nat) (w : World) (hn : n < 65536) (hc : c < 256) :
    Calls Try.prog 82 #[.int .i64 n, .int .i64 c] w fun e w' => e = .returned (.int .i64 (M.bits8 n c 8 : Nat)) ∧ w' = w := by
  go_enter Try.func82, Try.ntmps82
  go_wp2
  go_loop [0, 5] (fun t b => ∃ k : Nat, k ≤ 8 ∧ b = .int .i64 (M.bitAt k : Nat) ∧ t = .int .i64 (M.bits8 n c k : Nat)) (fun _ b => (intOf b).toNat)
  case atStart => exact ⟨0, by omega, rfl, rfl⟩
  case round =>
    obtain ⟨k, hk, rfl, rfl⟩ := hrel
    have hm := M.bits8_lt n c k hn
    have hbl := M.bitAt_le k
    by_cases hlt : k < 8
    · have hbp := M.bitAt_pos k hlt
      have h1 := M.and_i64 c (M.bitAt k) (by omega) (by omega)
      have h2 := M.and_bit c k hc hlt
      have h3 := M.and_mask _ hm
      have h4 := M.xor_mix (M.bits8 n c k)
      have H5 : Hid (M.bits8 n c (k + 1) = M.bstep (M.bits8 n c k) (c.testBit (7 - k))) := rfl
      have H6 : Hid (M.bitAt k / 2 = M.bitAt (k + 1)) := M.bitAt_succ k
      generalize M.bits8 n c k = m at *
      generalize M.bitAt k = bt at *
      generalize c.testBit (7 - k) = tb at *
      go_wp2
      · go_round
        case rel => exact ⟨k + 1, by omega, by rw [← H6.out]; go_num, by rw [H5.out, M.bstep_yes m tb (by assumption)]⟩
        case measure => simp [intOf]; omega
      · go_round
        case rel => exact ⟨k + 1, by omega, by rw [← H6.out]; go_num, by rw [H5.out, M.bstep_no m tb (by assumption)]; go_num⟩
        case measure => simp [intOf]; omega
    · obtain rfl : k = 8 := by omega
      have hb0 : M.bitAt 8 = 0 := by decide
      rw [hb0]
      go_wp2
      go_ret
      exact ⟨rfl, rfl⟩

theorem take_snoc (s : ByteArray) (k : Nat) (h : k < s.size) : s.data.toList.take (k + 1) = s.data.toList.take k ++ [s[k]] := by
  rw [List.take_succ_eq_append_getElem (by simpa using h)]; rfl

set_option maxHeartbeats 400000 in
theorem sum_calls (s : ByteArray) (w : World) (hs : s.size ≤ maxLen) :
    Calls Try.prog 57 #[.string s] w fun e w' => e = .returned (.int .i64 (M.sum s.data.toList : Nat)) ∧ w' = w := by
  unfold maxLen at hs
  go_enter Try.func57, Try.ntmps57
  go_wp2
  go_loop [3, 4] (fun n i => ∃ k : Nat, k ≤ s.size ∧ i = .int .i64 k ∧ n = .int .i64 (M.sum (s.data.toList.take k) : Nat)) (fun _ i => s.size - (intOf i).toNat)
  case atStart => exact ⟨0, Nat.zero_le _, rfl, rfl⟩
  case round =>
    obtain ⟨k, hk, rfl, rfl⟩ := hrel
    have hm := M.sum_lt (s.data.toList.take k)
    by_cases hlt : k < s.size
    · have HS : Hid (M.sum (s.data.toList.take (k + 1)) = M.bits8 (M.sum (s.data.toList.take k)) s[k].toNat 8) := by
        unfold M.sum; rw [take_snoc s k hlt, M.sumFrom_snoc]; exact rfl
      generalize M.sum (s.data.toList.take k) = m at *
      have hc : s[k].toNat < 256 := s[k].toNat_lt
      go_wp2_with fail
      refine (addByte_calls m s[k].toNat _ hm hc).mono ?_
      rintro e w' ⟨rfl, rfl⟩
      go_wp2
      go_round
      case rel => exact ⟨k + 1, by omega, by go_num, by rw [HS.out]⟩
      case measure => simp [intOf]; omega
    · go_wp2
      go_ret
      exact ⟨ret_int (by rw [List.take_of_length_le (by simp; omega)]), rfl⟩

set_option maxHeartbeats 400000 in
theorem rsum_calls (s : ByteArray) (w : World) (hs : s.size ≤ maxLen) :
    Calls Try.prog 41 #[.string s] w fun e w' => e = .returned (.int .i64 (M.sum s.data.toList : Nat)) ∧ w' = w := by
  go_enter Try.func41, Try.ntmps41
  go_wp2_with fail
  refine (sum_calls s _ hs).mono ?_
  rintro e w' ⟨rfl, rfl⟩
  go_wp2
  go_ret
  exact ⟨rfl, rfl⟩

set_option maxHeartbeats 400000 in
theorem dsum_calls (s : ByteArray) (w : World) (hs : s.size ≤ maxLen) :
    Calls Try.prog 54 #[.string s] w fun e w' => e = .returned (.int .i64 (M.sum s.data.toList : Nat)) ∧ w' = w := by
  unfold maxLen at hs
  go_enter Try.func54, Try.ntmps54
  go_wp2
  go_loop [3, 4] (fun n i => ∃ k : Nat, k ≤ s.size ∧ i = .int .i64 k ∧ n = .int .i64 (M.sum (s.data.toList.take k) : Nat)) (fun _ i => s.size - (intOf i).toNat)
  case atStart => exact ⟨0, Nat.zero_le _, rfl, rfl⟩
  case round =>
    obtain ⟨k, hk, rfl, rfl⟩ := hrel
    have hm := M.sum_lt (s.data.toList.take k)
    by_cases hlt : k < s.size
    · have HS : Hid (M.sum (s.data.toList.take (k + 1)) = M.bits8 (M.sum (s.data.toList.take k)) s[k].toNat 8) := by
        unfold M.sum; rw [take_snoc s k hlt, M.sumFrom_snoc]; exact rfl
      generalize M.sum (s.data.toList.take k) = m at *
      have hc : s[k].toNat < 256 := s[k].toNat_lt
      go_wp2
      go_loop [3, 5] (fun t q => ∃ r : Nat, r ≤ 8 ∧ q = .int .i64 (7 - (r : Int)) ∧ t = .int .i64 (M.bits8 m s[k].toNat r : Nat)) (fun _ q => (intOf q + 1).toNat)
      case atStart => exact ⟨0, by omega, rfl, rfl⟩
      case round =>
        obtain ⟨r, hr, rfl, rfl⟩ := hrel
        have hm2 := M.bits8_lt m s[k].toNat r hm
        by_cases hr8 : r < 8
        · have H5 : Hid (M.bits8 m s[k].toNat (r + 1) = M.bstep (M.bits8 m s[k].toNat r) (s[k].toNat.testBit (7 - r))) := rfl
          have h4 := M.xor_mix (M.bits8 m s[k].toNat r)
          generalize M.bits8 m s[k].toNat r = m2 at *
          have hT := M.shift_test m2 s[k].toNat r hm2 hc
          go_wp2
          · go_round
            case rel => exact ⟨r + 1, by omega, by go_num, by rw [H5.out, M.bstep_pos _ _ (by assumption)]⟩
            case measure => simp [intOf]; omega
          · go_round
            case rel => exact ⟨r + 1, by omega, by go_num, by rw [H5.out, M.bstep_neg _ _ (by assumption)]; go_num⟩
            case measure => simp [intOf]; omega
        · obtain rfl : r = 8 := by omega
          go_wp2
          go_round
          case rel => exact ⟨k + 1, by omega, by go_num, by rw [HS.out]⟩
          case measure => simp [intOf]; omega
    · go_wp2
      go_ret
      exact ⟨ret_int (by rw [List.take_of_length_le (by simp; omega)]), rfl⟩
end Go.Proofs.Ytlppphmnegdhoaa
