import Derived.Test.YtlppphmnegdhoabGreatDoorRows
import Derived.WalkKit
import Derived.WalkSpells
import Derived.WalkLawsBesides
import Derived.Laws.BitsLemmas
import Derived.Deep.QuietTactic
import Derived.BigQuiet
import Derived.Lib.Strings
import Derived.Laws.BytesArg
namespace Go.Proofs.YtlppphmnegdhoabGreatDoor
set_option linter.unusedVariables false
open Go.RowKit
namespace M

/-- one bit -/
def bstep (n : Nat) (set : Bool) : Nat := if decide (32768 ≤ n) != set then (n * 2 % 65536) ^^^ 4129 else n * 2 % 65536
/-- the first k bits of a byte, the highest first -/
def bits8 (n c : Nat) : Nat → Nat
  | 0 => n
  | k + 1 => bstep (bits8 n c k) (c.testBit (7 - k))
/-- from a number on, a text's bytes -/
def sumFrom (n : Nat) (l : List UInt8) : Nat := l.foldl (fun n c => bits8 n c.toNat 8) n
def sum (l : List UInt8) : Nat := sumFrom 65535 l

theorem bstep_lt (n : Nat) (b : Bool) : bstep n b < 65536 := by
  unfold bstep
  split
  · exact Nat.xor_lt_two_pow (n := 16) (by omega) (by omega)
  · omega
theorem bits8_lt (n c k : Nat) (h : n < 65536) : bits8 n c k < 65536 := by
  cases k with
  | zero => exact h
  | succ k => exact bstep_lt _ _
theorem sumFrom_lt (n : Nat) (l : List UInt8) (h : n < 65536) : sumFrom n l < 65536 := by
  unfold sumFrom
  induction l generalizing n with
  | nil => exact h
  | cons c l ih => exact ih _ (bits8_lt _ _ _ h)
theorem sum_lt (l : List UInt8) : sum l < 65536 := sumFrom_lt _ _ (by decide)
theorem sumFrom_snoc (n : Nat) (l : List UInt8) (c : UInt8) : sumFrom n (l ++ [c]) = bits8 (sumFrom n l) c.toNat 8 := by
  unfold sumFrom; rw [List.foldl_append]; rfl

theorem and_i64 (a b : Nat) (ha : a < 2 ^ 62) (hb : b < 2 ^ 62) : bits .and .i64 (a : Int) (b : Int) = ((a &&& b : Nat) : Int) :=
  (bits_nat .i64 62 (by decide) (fun n h0 h1 => by rw [IntKind.wrap_i64]; omega) a b ha hb).1
theorem xor_i64 (a b : Nat) (ha : a < 2 ^ 62) (hb : b < 2 ^ 62) : bits .xor .i64 (a : Int) (b : Int) = ((a ^^^ b : Nat) : Int) :=
  by
  have ea : (BitVec.ofInt 64 (a : Int)).toNat = a := by simp; omega
  have eb : (BitVec.ofInt 64 (b : Int)).toNat = b := by simp; omega
  have hx : a ^^^ b < 2 ^ 62 := Nat.xor_lt_two_pow ha hb
  show IntKind.i64.wrap ((BitVec.ofInt 64 (a : Int) ^^^ BitVec.ofInt 64 (b : Int)).toNat : Int) = _
  rw [BitVec.toNat_xor, ea, eb, IntKind.wrap_i64]
  omega
theorem and_mask (m : Nat) (hm : m < 65536) : bits .and .i64 ((m : Int) * 2) 65535 = ((m * 2 % 65536 : Nat) : Int) := by
  have h := and_i64 (m * 2) 65535 (by omega) (by decide)
  rw [show (65535 : Nat) = 2 ^ 16 - 1 from rfl, Nat.and_two_pow_sub_one_eq_mod] at h
  simpa using h
theorem xor_mix (m : Nat) : bits .xor .i64 ((m : Int) * 2 % 65536) 4129 = (((m * 2 % 65536) ^^^ 4129 : Nat) : Int) := by
  have h := xor_i64 (m * 2 % 65536) 4129 (by omega) (by decide)
  simpa using h

/-- the bit that the k-th round looks at -/
def bitAt (k : Nat) : Nat := 128 / 2 ^ k
theorem bitAt_le (k : Nat) : bitAt k ≤ 128 := Nat.div_le_self _ _
theorem bitAt_succ (k : Nat) : bitAt k / 2 = bitAt (k + 1) := by unfold bitAt; rw [Nat.div_div_eq_div_mul, Nat.pow_succ]
theorem bitAt_pos (k : Nat) (h : k < 8) : 0 < bitAt k := by
  obtain rfl | rfl | rfl | rfl | rfl | rfl | rfl | rfl : k = 0 ∨ k = 1 ∨ k = 2 ∨ k = 3 ∨ k = 4 ∨ k = 5 ∨ k = 6 ∨ k = 7 := by omega
  all_goals decide
theorem and_bits : ∀ c, c < 256 → ∀ k, k < 8 → ((c &&& bitAt k) != 0) = c.testBit (7 - k) := by decide +kernel
theorem and_bit (c k : Nat) (hc : c < 256) (h : k < 8) : ((((c &&& bitAt k : Nat) : Int) != 0) : Bool) = c.testBit (7 - k) := by
  rw [← and_bits c hc k h, Bool.eq_iff_iff]; simp
theorem bstep_yes (m : Nat) (b : Bool) (h : (!decide (32768 ≤ (m : Int)) == b) = true) : bstep m b = (m * 2 % 65536) ^^^ 4129 := by
  have e : decide (32768 ≤ (m : Int)) = decide (32768 ≤ m) := by rw [decide_eq_decide]; omega
  rw [e] at h
  unfold bstep
  rw [if_pos]
  cases hd : decide (32768 ≤ m) <;> cases b <;> simp_all <;> omega
theorem bstep_no (m : Nat) (b : Bool) (h : (!decide (32768 ≤ (m : Int)) == b) = false) : bstep m b = m * 2 % 65536 := by
  have e : decide (32768 ≤ (m : Int)) = decide (32768 ≤ m) := by rw [decide_eq_decide]; omega
  rw [e] at h
  unfold bstep
  rw [if_neg]
  cases hd : decide (32768 ≤ m) <;> cases b <;> simp_all <;> omega
end M
open M
theorem ret_int {k : IntKind} {a b : Int} (h : a = b) : Ending.returned (.int k a) = .returned (.int k b) := by rw [h]

set_option maxHeartbeats 400000 in
theorem addByte_calls (n c : Nat) (w : World) (hn : n < 65536) (hc : c < 256) :
    Calls Tryz.prog 124 #[.int .i64 n, .int .i64 c] w fun e w' => e = .returned (.int .i64 (M.bits8 n c 8 : Nat)) ∧ w' = w := by
  go_enter Tryz.func124, Tryz.ntmps124
  go_wp2
  go_loop [0, 5] (fun t b => ∃ k : Nat, k ≤ 8 ∧ b = .int .i64 (M.bitAt k : Nat) ∧ t = .int .i64 (M.bits8 n c k : Nat)) (fun _ b => (intOf b).toNat)
  case atStart => exact ⟨0, by omega, rfl, rfl⟩
  case round =>
    obtain ⟨k, hk, rfl, rfl⟩ := hrel
    have hm := M.bits8_lt n c k hn
    have hbl := M.bitAt_le k
    by_cases hlt : k < 8
    · have hbp := M.bitAt_pos k hlt
      have h1 := M.and_i64 c (M.bitAt k) (by omega) (by omega)
      have h2 := M.and_bit c k hc hlt
      have h3 := M.and_mask _ hm
      have h4 := M.xor_mix (M.bits8 n c k)
      have H5 : Hid (M.bits8 n c (k + 1) = M.bstep (M.bits8 n c k) (c.testBit (7 - k))) := rfl
      have H6 : Hid (M.bitAt k / 2 = M.bitAt (k + 1)) := M.bitAt_succ k
      generalize M.bits8 n c k = m at *
      generalize M.bitAt k = bt at *
      generalize c.testBit (7 - k) = tb at *
      go_wp2
      · go_round
        case rel => exact ⟨k + 1, by omega, by rw [← H6.out]; go_num, by rw [H5.out, M.bstep_yes m tb (by assumption)]⟩
        case measure => simp [intOf]; omega
      · go_round
        case rel => exact ⟨k + 1, by omega, by rw [← H6.out]; go_num, by rw [H5.out, M.bstep_no m tb (by assumption)]; go_num⟩
        case measure => simp [intOf]; omega
    · obtain rfl : k = 8 := by omega
      have hb0 : M.bitAt 8 = 0 := by decide
      rw [hb0]
      go_wp2
      go_ret
      exact ⟨rfl, rfl⟩

theorem take_snoc (s : ByteArray) (k : Nat) (h : k < s.size) : s.data.toList.take (k + 1) = s.data.toList.take k ++ [s[k]] := by
  rw [List.take_succ_eq_append_getElem (by simpa using h)]; rfl

set_option maxHeartbeats 400000 in
theorem sum_calls (s : ByteArray) (w : World) (hs : s.size ≤ maxLen) :
    Calls Tryz.prog 83 #[.string s] w fun e w' => e = .returned (.int .i64 (M.sum s.data.toList : Nat)) ∧ w' = w := by
  unfold maxLen at hs
  go_enter Tryz.func83, Tryz.ntmps83
  go_wp2
  go_loop [3, 4] (fun n i => ∃ k : Nat, k ≤ s.size ∧ i = .int .i64 k ∧ n = .int .i64 (M.sum (s.data.toList.take k) : Nat)) (fun _ i => s.size - (intOf i).toNat)
  case atStart => exact ⟨0, Nat.zero_le _, rfl, rfl⟩
  case round =>
    obtain ⟨k, hk, rfl, rfl⟩ := hrel
    have hm := M.sum_lt (s.data.toList.take k)
    by_cases hlt : k < s.size
    · have HS : Hid (M.sum (s.data.toList.take (k + 1)) = M.bits8 (M.sum (s.data.toList.take k)) s[k].toNat 8) := by
        unfold M.sum; rw [take_snoc s k hlt, M.sumFrom_snoc]; exact rfl
      generalize M.sum (s.data.toList.take k) = m at *
      have hc : s[k].toNat < 256 := s[k].toNat_lt
      go_wp2_with fail
      refine (addByte_calls m s[k].toNat _ hm hc).mono ?_
      rintro e w' ⟨rfl, rfl⟩
      go_wp2
      go_round
      case rel => exact ⟨k + 1, by omega, by go_num, by rw [HS.out]⟩
      case measure => simp [intOf]; omega
    · go_wp2
      go_ret
      exact ⟨ret_int (by rw [List.take_of_length_le (by simp; omega)]), rfl⟩

end Go.Proofs.YtlppphmnegdhoabGreatDoor

namespace Go.Proofs.YtlppphmnegdhoabGreatDoor
set_option linter.unusedVariables false
namespace M

/-- a byte of an expression; p: it stands without a sign ahead of it -/
structure Mk where
  b : Nat
  p : Bool
def Mk.is (m : Mk) (c : Nat) : Bool := m.p && m.b == c
def escB (d : UInt8) : Nat := if d.toNat = 110 then 10 else d.toNat
def preM (m : Mk) (r : List Mk × List UInt8) : List Mk × List UInt8 := (m :: r.1, r.2)
/-- the marks up to the next plain slash, and what stands behind it -/
def uptoM : List UInt8 → Option (List Mk × List UInt8)
  | [] => none
  | [c] => if c.toNat = 47 then some ([], []) else none
  | c :: d :: t => if c.toNat = 47 then some ([], d :: t) else if c.toNat = 92 then (uptoM t).map (preM ⟨escB d, false⟩) else (uptoM (d :: t)).map (preM ⟨c.toNat, true⟩)
theorem upto_slash (c : UInt8) (t : List UInt8) (h : c.toNat = 47) : uptoM (c :: t) = some ([], t) := by
  cases t with
  | nil => simp [uptoM, h]
  | cons d t => simp [uptoM, h]
theorem upto_plain (c : UInt8) (t : List UInt8) (h : c.toNat ≠ 47) (h2 : c.toNat ≠ 92) : uptoM (c :: t) = (uptoM t).map (preM ⟨c.toNat, true⟩) := by
  cases t with
  | nil => simp [uptoM, h]
  | cons d t => simp [uptoM, h, h2]
theorem upto_esc (c d : UInt8) (t : List UInt8) (h : c.toNat = 92) : uptoM (c :: d :: t) = (uptoM t).map (preM ⟨escB d, false⟩) := by
  simp [uptoM, h]
theorem upto_end (c : UInt8) (h : c.toNat = 92) : uptoM [c] = none := by simp [uptoM, h]
/-- an item: pairs of bytes; all others; all; any number of them -/
structure It where
  any : Bool
  not : Bool
  star : Bool
  rng : List (Nat × Nat)
structure Ex where
  head : Bool
  tail : Bool
  l : List It
def hasI (x : It) (c : Nat) : Bool := x.any || (x.rng.any (fun r => decide (r.1 ≤ c) && decide (c ≤ r.2)) != x.not)

/-- the members of a set, from a mark on -/
def membersM : List Mk → List (Nat × Nat) → Option (List (Nat × Nat) × List Mk)
  | [], _ => none
  | [m], acc => if m.is 93 then (if acc = [] then none else some (acc, [])) else none
  | [m, d], acc => if m.is 93 then (if acc = [] then none else some (acc, [d])) else if m.is 45 then none else if d.is 45 then none else membersM [d] (acc ++ [(m.b, m.b)])
  | m :: d :: h :: v, acc =>
    if m.is 93 then (if acc = [] then none else some (acc, d :: h :: v)) else if m.is 45 then none
    else if d.is 45 then (if h.is 93 || h.is 45 || decide (h.b < m.b) then none else membersM v (acc ++ [(m.b, h.b)]))
    else membersM (d :: h :: v) (acc ++ [(m.b, m.b)])
/-- a set, behind its bracket -/
def setM : List Mk → Option (Bool × List (Nat × Nat) × List Mk)
  | [] => none
  | d :: u => if d.is 94 then (membersM u []).map (fun r => (true, r.1, r.2)) else (membersM (d :: u) []).map (fun r => (false, r.1, r.2))
/-- an item without its star -/
def bareM : List Mk → Option (It × List Mk)
  | [] => none
  | c :: t =>
    if c.is 46 then some (⟨true, false, false, []⟩, t)
    else if c.is 91 then (setM t).map (fun r => (⟨false, r.1, false, r.2.1⟩, r.2.2))
    else if c.is 42 || c.is 93 || c.is 94 || c.is 36 then none
    else some (⟨false, false, false, [(c.b, c.b)]⟩, t)
def starM (r : It × List Mk) : It × List Mk :=
  match r.2 with
  | [] => r
  | d :: u => if d.is 42 then (⟨r.1.any, r.1.not, true, r.1.rng⟩, u) else r
def itemM (m : List Mk) : Option (It × List Mk) := (bareM m).map starM
def itemsM : Nat → List Mk → Option (List It)
  | _, [] => some []
  | 0, _ => none
  | n + 1, m :: t => match itemM (m :: t) with
    | none => none
    | some (x, r) => (itemsM n r).map (x :: ·)
/-- an expression of marks -/
def expM (m : List Mk) : Option Ex :=
  if m = [] then none else
  let hd := (m.head?.map (·.is 94)).getD false
  let at' := if hd then 1 else 0
  let tl := decide (at' < m.length) && (m.getLast?.map (·.is 36)).getD false
  let body := (if tl then m.take (m.length - 1) else m).drop at'
  (itemsM body.length body).map (fun l => ⟨hd, tl, l⟩)

/-- do the items match just these bytes -/
def mt : List It → List UInt8 → Bool
  | [], s => s.isEmpty
  | x :: l, [] => x.star && mt l []
  | x :: l, c :: t => if x.star then mt l (c :: t) || (hasI x c.toNat && mt (x :: l) t) else hasI x c.toNat && mt l t
termination_by l s => (l.length, s.length)
theorem mt_nil (s : List UInt8) : mt [] s = s.isEmpty := by rw [mt]
theorem mt_end (x : It) (l : List It) : mt (x :: l) [] = (x.star && mt l []) := by rw [mt]
theorem mt_cons (x : It) (l : List It) (c : UInt8) (t : List UInt8) : mt (x :: l) (c :: t) = if x.star then mt l (c :: t) || (hasI x c.toNat && mt (x :: l) t) else hasI x c.toNat && mt l t := by rw [mt]
/-- from i to j of a text -/
def seg (s : List UInt8) (i j : Nat) : List UInt8 := (s.take j).drop i
def matchX (x : Ex) (s : List UInt8) (i j : Nat) : Bool := decide (i ≤ j) && decide (j ≤ s.length) && (!x.head || decide (i = 0)) && (!x.tail || decide (j = s.length)) && mt x.l (seg s i j)
/-- what Find finds -/
def FindAt (x : Ex) (s : List UInt8) (at' : Nat) (i j : Int) : Prop :=
  (i = -1 ∧ j = -1 ∧ ∀ a b, at' ≤ a → matchX x s a b = false) ∨ ∃ a b : Nat, i = a ∧ j = b ∧ at' ≤ a ∧ matchX x s a b = true ∧ (∀ c d, at' ≤ c → c < a → matchX x s c d = false) ∧ ∀ d, b < d → matchX x s a d = false
end M
end Go.Proofs.YtlppphmnegdhoabGreatDoor

namespace Go.Proofs.YtlppphmnegdhoabGreatDoor
set_option linter.unusedVariables false
open M
namespace M

def preR (m : Mk) (r : List Mk × List UInt8) : List Mk × List UInt8 := (m :: r.1, r.2)
/-- the marks of a text, as far as they go, and what stands behind them -/
def mksM : List UInt8 → List Mk × List UInt8
  | [] => ([], [])
  | [c] => if c.toNat = 47 ∨ c.toNat = 10 ∨ c.toNat = 92 then ([], [c]) else ([⟨c.toNat, true⟩], [])
  | c :: d :: t => if c.toNat = 47 ∨ c.toNat = 10 then ([], c :: d :: t) else if c.toNat = 92 then (if d.toNat = 10 then ([], c :: d :: t) else preR ⟨escB d, false⟩ (mksM t)) else preR ⟨c.toNat, true⟩ (mksM (d :: t))
theorem mks_stop (c : UInt8) (t : List UInt8) (h : c.toNat = 47 ∨ c.toNat = 10) : mksM (c :: t) = ([], c :: t) := by
  cases t with
  | nil => rw [mksM, if_pos (by omega)]
  | cons d t => rw [mksM, if_pos h]
theorem mks_plain (c : UInt8) (t : List UInt8) (h : c.toNat ≠ 47) (h1 : c.toNat ≠ 10) (h2 : c.toNat ≠ 92) : mksM (c :: t) = preR ⟨c.toNat, true⟩ (mksM t) := by
  cases t with
  | nil => show (if c.toNat = 47 ∨ c.toNat = 10 ∨ c.toNat = 92 then (([], [c]) : List Mk × List UInt8) else ([⟨c.toNat, true⟩], [])) = _; rw [if_neg (by omega)]; rfl
  | cons d t => rw [mksM, if_neg (by omega), if_neg h2]
theorem mks_esc (c d : UInt8) (t : List UInt8) (h : c.toNat = 92) (h1 : d.toNat ≠ 10) : mksM (c :: d :: t) = preR ⟨escB d, false⟩ (mksM t) := by
  rw [mksM, if_neg (by omega), if_pos h, if_neg h1]
theorem mks_esc10 (c d : UInt8) (t : List UInt8) (h : c.toNat = 92) (h1 : d.toNat = 10) : mksM (c :: d :: t) = ([], c :: d :: t) := by
  rw [mksM, if_neg (by omega), if_pos h, if_pos h1]
theorem mks_end (c : UInt8) (h : c.toNat = 92) : mksM [c] = ([], [c]) := by
  rw [mksM, if_pos (by omega)]

/-- does a byte stand at the beginning -/
def stB (t : List UInt8) (c : Nat) : Bool := match t with
  | [] => false
  | d :: _ => d.toNat == c
/-- does a plain mark stand at the beginning -/
def hdIs (m : List Mk) (c : Nat) : Bool := match m with
  | [] => false
  | k :: _ => k.is c
theorem stB_mk (t : List UInt8) (c : Nat) (m : List Mk) (r : List UInt8) (h : mksM t = (m, r)) (h47 : c ≠ 47) (h10 : c ≠ 10) (h92 : c ≠ 92) :
    stB t c = hdIs m c ∧ (stB t c = true → ∃ k m', m = k :: m' ∧ mksM (t.drop 1) = (m', r)) := by
  match t with
  | [] => rw [mksM] at h; simp at h; rw [h.1]; exact ⟨rfl, fun e => by cases e⟩
  | d :: t =>
    by_cases e1 : d.toNat = 47 ∨ d.toNat = 10
    · rw [mks_stop d t e1] at h
      simp at h
      have e : stB (d :: t) c = false := by show (d.toNat == c) = false; simp; omega
      rw [h.1, e]; exact ⟨rfl, fun e => by cases e⟩
    · by_cases e2 : d.toNat = 92
      · have e : stB (d :: t) c = false := by show (d.toNat == c) = false; simp; omega
        rw [e]
        refine ⟨?_, fun e => by cases e⟩
        match t with
        | [] => rw [mks_end d e2] at h; simp at h; rw [h.1]; rfl
        | f :: t =>
          by_cases e3 : f.toNat = 10
          · rw [mks_esc10 d f t e2 e3] at h; simp at h; rw [h.1]; rfl
          · rw [mks_esc d f t e2 e3] at h
            simp [preR] at h
            rw [← h.1]; rfl
      · rw [mks_plain d t (by omega) (by omega) e2] at h
        simp [preR] at h
        rw [← h.1]
        refine ⟨?_, fun _ => ⟨_, _, rfl, ?_⟩⟩
        · show (d.toNat == c) = (true && d.toNat == c)
          rw [Bool.true_and]
        · rw [← h.2]; rfl
theorem stB_slash (t : List UInt8) (m : List Mk) (r : List UInt8) (h : mksM t = (m, r)) : stB t 47 = true ↔ (m = [] ∧ ∃ r', r = 47 :: r' ∧ t = 47 :: r') := by
  match t with
  | [] => rw [mksM] at h; simp at h; rw [h.1, h.2]; simp [stB]
  | d :: t =>
    have hd : ∀ d : UInt8, d.toNat = 47 → d = 47 := fun d h => UInt8.toNat_inj.1 h
    constructor
    · intro e
      have e1 : d.toNat = 47 := by simpa [stB] using e
      rw [mks_stop d t (.inl e1)] at h
      simp at h
      rw [h.1, ← h.2, hd d e1]
      exact ⟨rfl, t, rfl, rfl⟩
    · rintro ⟨_, r', _, e⟩
      simp at e
      rw [e.1]; rfl
theorem mk_lt (t : List UInt8) : ∀ k ∈ (mksM t).1, k.b < 256 := by
  match t with
  | [] => intro k h; simp [mksM] at h
  | [c] =>
    intro k h
    rw [mksM] at h
    split at h
    · simp at h
    · simp at h; rw [h]; exact c.toNat_lt
  | c :: d :: t =>
    intro k h
    rw [mksM] at h
    split at h
    · simp at h
    · split at h
      · split at h
        · simp at h
        · simp [preR] at h
          rcases h with h | h
          · rw [h]
            show escB d < 256
            unfold escB
            have := d.toNat_lt
            split <;> omega
          · exact mk_lt t k h
      · simp [preR] at h
        rcases h with h | h
        · rw [h]; exact c.toNat_lt
        · exact mk_lt (d :: t) k h
/-- the marks up to a slash, by the marks as far as they go -/
theorem upto_mks (t : List UInt8) (hn : ∀ c ∈ t, c.toNat ≠ 10) : uptoM t = match (mksM t).2 with
    | 47 :: r => some ((mksM t).1, r)
    | _ => none := by
  have hd : ∀ d : UInt8, d.toNat = 47 → d = 47 := fun d h => UInt8.toNat_inj.1 h
  match t with
  | [] => simp [uptoM, mksM]
  | [c] =>
    by_cases e1 : c.toNat = 47
    · rw [mks_stop c [] (.inl e1), upto_slash c [] e1, hd c e1]; rfl
    · by_cases e2 : c.toNat = 92
      · rw [mks_end c e2, upto_end c e2]
        have : c ≠ 47 := fun e => e1 (by rw [e]; rfl)
        split
        · rename_i h; simp at h; exact absurd h.1 this
        · rfl
      · rw [mks_plain c [] e1 (hn c (by simp)) e2, upto_plain c [] e1 e2]
        simp [uptoM, mksM, preR]
  | c :: d :: t =>
    by_cases e1 : c.toNat = 47
    · rw [mks_stop c _ (.inl e1), upto_slash c _ e1, hd c e1]; rfl
    · by_cases e2 : c.toNat = 92
      · rw [mks_esc c d t e2 (hn d (by simp)), upto_esc c d t e2, upto_mks t (fun x hx => hn x (by simp [hx]))]
        simp only [preR]
        split <;> simp_all [preM]
      · rw [mks_plain c _ e1 (hn c (by simp)) e2, upto_plain c _ e1 e2, upto_mks (d :: t) (fun x hx => hn x (List.mem_cons_of_mem _ hx))]
        simp only [preR]
        split <;> simp_all [preM]
/-- a member of a set -/
def memP : List Mk → Option (Nat × Nat × List Mk)
  | [] => none
  | [k] => if k.is 93 || k.is 45 then none else some (k.b, k.b, [])
  | [k, d] => if k.is 93 || k.is 45 then none else if d.is 45 then none else some (k.b, k.b, [d])
  | k :: d :: h :: v => if k.is 93 || k.is 45 then none else if d.is 45 then (if h.is 93 || h.is 45 || decide (h.b < k.b) then none else some (k.b, h.b, v)) else some (k.b, k.b, d :: h :: v)
theorem memP_less (m : List Mk) (lo hi : Nat) (m' : List Mk) (h : memP m = some (lo, hi, m')) : m'.length < m.length := by
  match m with
  | [] => simp [memP] at h
  | [k] => rw [memP] at h; split at h <;> simp at h; rw [← h.2.2]; simp
  | [k, d] =>
    rw [memP] at h
    split at h
    · cases h
    · split at h <;> simp at h
      rw [← h.2.2]; simp
  | k :: d :: e :: v =>
    rw [memP] at h
    split at h
    · cases h
    · split at h
      · split at h <;> simp at h
        rw [← h.2.2]; simp; omega
      · simp at h; rw [← h.2.2]; simp
theorem members_step (m : List Mk) (acc : List (Nat × Nat)) : membersM m acc = match memP m with
    | some (lo, hi, m') => membersM m' (acc ++ [(lo, hi)])
    | none => match m with
      | [] => none
      | k :: m' => if k.is 93 then (if acc = [] then none else some (acc, m')) else none := by
  match m with
  | [] => simp [membersM, memP]
  | [k] =>
    cases h1 : k.is 93
    · cases h2 : k.is 45
      · simp [membersM, memP, h1, h2]
      · simp [membersM, memP, h1, h2]
    · simp [membersM, memP, h1]
  | [k, d] =>
    cases h1 : k.is 93
    · cases h2 : k.is 45
      · cases h3 : d.is 45
        · rw [membersM]; simp [memP, h1, h2, h3]
        · rw [membersM]; simp [memP, h1, h2, h3]
      · rw [membersM]; simp [memP, h1, h2]
    · rw [membersM]; simp [memP, h1]
  | k :: d :: e :: v =>
    cases h1 : k.is 93
    · cases h2 : k.is 45
      · cases h3 : d.is 45
        · rw [membersM]; simp [memP, h1, h2, h3]
        · cases h4 : (e.is 93 || e.is 45 || decide (e.b < k.b))
          · rw [membersM]; simp only [memP, h1, h2, h3, h4]; rfl
          · rw [membersM]; simp only [memP, h1, h2, h3, h4]; rfl
      · rw [membersM]; simp [memP, h1, h2]
    · rw [membersM]; simp [memP, h1]
end M
end Go.Proofs.YtlppphmnegdhoabGreatDoor

namespace Go.Proofs.YtlppphmnegdhoabGreatDoor
set_option linter.unusedVariables false
namespace M

structure Rec where
  kind : Int
  n : Int
  s : ByteArray

def okRec (r : Rec) : Bool := decide (1 ≤ r.n) && ((decide (r.kind = 0) || decide (r.kind = 1)) && decide (r.s.size = 0) || decide (r.kind = 2) && decide ((r.s.size : Int) = r.n))
def inA (r : Rec) : Int := if r.kind = 1 then 0 else r.n
def inB (r : Rec) : Int := if r.kind = 0 ∨ r.kind = 1 then r.n else 0

theorem okRec_iff (r : Rec) : okRec r = true ↔ 1 ≤ r.n ∧ (((r.kind = 0 ∨ r.kind = 1) ∧ r.s.size = 0) ∨ (r.kind = 2 ∧ (r.s.size : Int) = r.n)) := by
  simp [okRec]

theorem ba_ext {a b : ByteArray} (h : a.data.toList = b.data.toList) : a = b := by
  cases a; cases b; simp at h; simp [h]
theorem ba_len (a : ByteArray) : a.data.toList.length = a.size := by rw [Array.length_toList]; rfl

def numE (v : Nat) : List UInt8 :=
  if v < 128 then [UInt8.ofNat v] else if v < 16384 then [UInt8.ofNat (128 + v % 128), UInt8.ofNat (v / 128)]
  else [UInt8.ofNat (128 + v % 128), UInt8.ofNat (128 + v / 128 % 128), UInt8.ofNat (v / 16384)]
def twoE (v : Nat) : List UInt8 := [UInt8.ofNat (v / 256), UInt8.ofNat (v % 256)]

/-- the strict reader of a number: rounds left, what was read so far, the weight, whether it is the first byte -/
def rdN : Nat → Nat → Nat → Bool → List UInt8 → Option (Nat × List UInt8)
  | 0, _, _, _, _ => none
  | _ + 1, _, _, _, [] => none
  | n + 1, v, wt, fst, c :: l => if c.toNat = 0 ∧ fst = false then none else if c.toNat < 128 then some (v + c.toNat * wt, l) else rdN n (v + (c.toNat - 128) * wt) (wt * 128) false l
def rdNum (l : List UInt8) : Option (Nat × List UInt8) := rdN 3 0 1 true l
theorem u8 (v : Nat) (h : v < 256) : (UInt8.ofNat v).toNat = v := by
  rw [UInt8.toNat_ofNat']; omega
theorem u8' (c : UInt8) : UInt8.ofNat c.toNat = c := by simp

theorem rdNum_numE (v : Nat) (r : List UInt8) (h : v < 2097152) : rdNum (numE v ++ r) = some (v, r) := by
  unfold rdNum numE
  split
  · rename_i h1
    simp only [List.cons_append, List.nil_append, rdN, u8 v (by omega)]
    simp [h1]
  · split
    · rename_i h1 h2
      simp only [List.cons_append, List.nil_append, rdN, u8 (128 + v % 128) (by omega), u8 (v / 128) (by omega)]
      rw [if_neg (by omega), if_neg (by omega), if_neg (by omega), if_pos (by omega)]
      simp; omega
    · rename_i h1 h2
      simp only [List.cons_append, List.nil_append, rdN, u8 (128 + v % 128) (by omega), u8 (128 + v / 128 % 128) (by omega), u8 (v / 16384) (by omega)]
      rw [if_neg (by omega), if_neg (by omega), if_neg (by omega), if_neg (by omega), if_neg (by omega), if_pos (by omega)]
      simp; omega
theorem rdNum_inv (l : List UInt8) (v : Nat) (r : List UInt8) (h : rdNum l = some (v, r)) : l = numE v ++ r ∧ v < 2097152 := by
  unfold rdNum at h
  match l with
  | [] => simp [rdN] at h
  | c0 :: l =>
    have g0 := c0.toNat_lt
    simp only [rdN] at h
    rw [if_neg (by simp)] at h
    by_cases h0 : c0.toNat < 128
    · rw [if_pos h0] at h
      simp at h
      obtain ⟨rfl, rfl⟩ := h
      refine ⟨?_, by omega⟩
      simp [numE, h0]
    · rw [if_neg h0] at h
      match l with
      | [] => simp [rdN] at h
      | c1 :: l =>
        have g1 := c1.toNat_lt
        simp only [rdN] at h
        by_cases z1 : c1.toNat = 0
        · rw [if_pos ⟨z1, trivial⟩] at h; cases h
        rw [if_neg (fun q => z1 q.1)] at h
        by_cases h1 : c1.toNat < 128
        · rw [if_pos h1] at h
          simp at h
          obtain ⟨rfl, rfl⟩ := h
          refine ⟨?_, by omega⟩
          unfold numE
          rw [if_neg (by omega), if_pos (by omega)]
          have e0 : 128 + (c0.toNat - 128 + c1.toNat * 128) % 128 = c0.toNat := by omega
          have e1 : (c0.toNat - 128 + c1.toNat * 128) / 128 = c1.toNat := by omega
          rw [e0, e1, u8', u8']; rfl
        · rw [if_neg h1] at h
          match l with
          | [] => simp [rdN] at h
          | c2 :: l =>
            have g2 := c2.toNat_lt
            simp only [rdN] at h
            by_cases z2 : c2.toNat = 0
            · rw [if_pos ⟨z2, trivial⟩] at h; cases h
            rw [if_neg (fun q => z2 q.1)] at h
            by_cases h2 : c2.toNat < 128
            · rw [if_pos h2] at h
              simp at h
              obtain ⟨rfl, rfl⟩ := h
              refine ⟨?_, by omega⟩
              unfold numE
              rw [if_neg (by omega), if_neg (by omega)]
              have e0 : 128 + (c0.toNat - 128 + (c1.toNat - 128) * 128 + c2.toNat * 16384) % 128 = c0.toNat := by omega
              have e1 : 128 + (c0.toNat - 128 + (c1.toNat - 128) * 128 + c2.toNat * 16384) / 128 % 128 = c1.toNat := by omega
              have e2 : (c0.toNat - 128 + (c1.toNat - 128) * 128 + c2.toNat * 16384) / 16384 = c2.toNat := by omega
              rw [e0, e1, e2, u8', u8', u8']; rfl
            · rw [if_neg h2] at h; cases h
theorem numE_len (v : Nat) : 1 ≤ (numE v).length ∧ (numE v).length ≤ 3 := by
  unfold numE; repeat' split
  all_goals simp

def rdTwo : List UInt8 → Option (Nat × List UInt8)
  | a :: b :: r => some (a.toNat * 256 + b.toNat, r)
  | _ => none
theorem rdTwo_twoE (v : Nat) (r : List UInt8) (h : v < 65536) : rdTwo (twoE v ++ r) = some (v, r) := by
  simp only [twoE, List.cons_append, List.nil_append, rdTwo, u8 (v / 256) (by omega), u8 (v % 256) (by omega)]
  simp; omega
theorem rdTwo_inv (l : List UInt8) (v : Nat) (r : List UInt8) (h : rdTwo l = some (v, r)) : l = twoE v ++ r ∧ v < 65536 := by
  match l with
  | [] => simp [rdTwo] at h
  | [a] => simp [rdTwo] at h
  | a :: b :: l =>
    have ga := a.toNat_lt
    have gb := b.toNat_lt
    simp [rdTwo] at h
    obtain ⟨rfl, rfl⟩ := h
    refine ⟨?_, by omega⟩
    have e0 : (a.toNat * 256 + b.toNat) / 256 = a.toNat := by omega
    have e1 : (a.toNat * 256 + b.toNat) % 256 = b.toNat := by omega
    simp only [twoE, e0, e1, u8']; rfl

/-- a record's bytes -/
def recE (r : Rec) : List UInt8 := numE (4 * r.n + r.kind).toNat ++ r.s.data.toList
def recsE (l : List Rec) : List UInt8 := (l.map recE).flatten
def mkRec (m : Nat) (s : List UInt8) : Rec := ⟨(m : Int) % 4, (m : Int) / 4, ⟨⟨s⟩⟩⟩
/-- the strict reader of a record -/
def rdRec (l : List UInt8) : Option (Rec × List UInt8) :=
  match rdNum l with
  | none => none
  | some (m, r) =>
    if m % 4 = 2 then (if r.length < m / 4 then none else if okRec (mkRec m (r.take (m / 4))) then some (mkRec m (r.take (m / 4)), r.drop (m / 4)) else none)
    else if okRec (mkRec m []) then some (mkRec m [], r) else none

theorem rdRec_recE (r : Rec) (t : List UInt8) (h : okRec r = true) (hn : r.n ≤ 4096) : rdRec (recE r ++ t) = some (r, t) := by
  have hk := (okRec_iff r).1 h
  unfold rdRec recE
  rw [List.append_assoc, rdNum_numE _ _ (by omega)]
  have e4 : (4 * r.n + r.kind).toNat % 4 = r.kind.toNat := by omega
  have eq : (4 * r.n + r.kind).toNat / 4 = r.n.toNat := by omega
  simp only [e4, eq]
  have hl := ba_len r.s
  have e : ∀ s : List UInt8, s = r.s.data.toList → mkRec (4 * r.n + r.kind).toNat s = r := by
    intro s hs
    obtain ⟨kind, n, b⟩ := r
    have a1 : ((4 * n + kind).toNat : Int) % 4 = kind := by simp at hk; omega
    have a2 : ((4 * n + kind).toNat : Int) / 4 = n := by simp at hk; omega
    simp only [mkRec, a1, a2]
    have : (⟨⟨s⟩⟩ : ByteArray) = b := ba_ext hs
    rw [this]
  by_cases h2 : r.kind = 2
  · rw [if_pos (by omega), if_neg (by simp; omega)]
    have hT : (r.s.data.toList ++ t).take r.n.toNat = r.s.data.toList := by rw [List.take_append_of_le_length (by omega), List.take_of_length_le (by omega)]
    have hD : (r.s.data.toList ++ t).drop r.n.toNat = t := by rw [List.drop_append_of_le_length (by omega), List.drop_of_length_le (by omega)]; rfl
    rw [hT, hD, e _ rfl, if_pos h]
  · rw [if_neg (by omega)]
    have hs0 : r.s.data.toList = [] := List.length_eq_zero_iff.1 (by omega)
    rw [e [] hs0.symm, if_pos h, hs0]; rfl
theorem rdRec_inv (l : List UInt8) (r : Rec) (t : List UInt8) (h : rdRec l = some (r, t)) : okRec r = true ∧ l = recE r ++ t := by
  unfold rdRec at h
  match hm : rdNum l with
  | none => rw [hm] at h; cases h
  | some (m, q) =>
    rw [hm] at h
    obtain ⟨hl, hm2⟩ := rdNum_inv l m q hm
    have em : (4 * ((m : Int) / 4) + (m : Int) % 4).toNat = m := by omega
    simp only [] at h
    split at h
    · split at h
      · cases h
      · split at h
        · rename_i a b c
          simp at h
          obtain ⟨rfl, rfl⟩ := h
          refine ⟨c, ?_⟩
          rw [hl, recE]
          simp [mkRec, em]
        · cases h
    · split at h
      · rename_i a b
        simp at h
        obtain ⟨rfl, rfl⟩ := h
        refine ⟨b, ?_⟩
        rw [hl, recE]
        simp [mkRec, em]
      · cases h
theorem recE_len (r : Rec) : 1 ≤ (recE r).length := by
  unfold recE; have := (numE_len (4 * r.n + r.kind).toNat).1; simp; omega

/-- lengths -/
def lenA : List Rec → Int
  | [] => 0
  | r :: l => inA r + lenA l
def lenB : List Rec → Int
  | [] => 0
  | r :: l => inB r + lenB l
theorem lenA_append (l m : List Rec) : lenA (l ++ m) = lenA l + lenA m := by
  induction l with
  | nil => simp [lenA]
  | cons r l ih => simp only [List.cons_append, lenA, ih]; omega
theorem lenB_append (l m : List Rec) : lenB (l ++ m) = lenB l + lenB m := by
  induction l with
  | nil => simp [lenB]
  | cons r l ih => simp only [List.cons_append, lenB, ih]; omega
theorem recsE_append (l m : List Rec) : recsE (l ++ m) = recsE l ++ recsE m := by simp [recsE]
theorem recsE_cons (r : Rec) (l : List Rec) : recsE (r :: l) = recE r ++ recsE l := by simp [recsE]
def okAll (l : List Rec) : Prop := ∀ r ∈ l, okRec r = true
theorem inA_nn (r : Rec) (h : okRec r = true) : 0 ≤ inA r := by
  have := (okRec_iff r).1 h; unfold inA; split <;> omega
theorem inB_nn (r : Rec) (h : okRec r = true) : 0 ≤ inB r := by
  have := (okRec_iff r).1 h; unfold inB; split <;> omega
theorem inAB (r : Rec) (h : okRec r = true) : r.n ≤ inA r + inB r := by
  have := (okRec_iff r).1 h; unfold inA inB; repeat' split
  all_goals omega
theorem lenA_nn (l : List Rec) (h : okAll l) : 0 ≤ lenA l := by
  induction l with
  | nil => simp [lenA]
  | cons r l ih => have := ih (fun x hx => h x (List.mem_cons_of_mem _ hx)); have := inA_nn r (h r (List.mem_cons_self ..)); simp only [lenA]; omega
theorem lenB_nn (l : List Rec) (h : okAll l) : 0 ≤ lenB l := by
  induction l with
  | nil => simp [lenB]
  | cons r l ih => have := ih (fun x hx => h x (List.mem_cons_of_mem _ hx)); have := inB_nn r (h r (List.mem_cons_self ..)); simp only [lenB]; omega

theorem n_le (r : Rec) (h : okRec r = true) : r.n = inA r ∨ r.n = inB r := by
  have := (okRec_iff r).1 h; unfold inA inB; repeat' split
  all_goals omega
theorem mem_le (l : List Rec) (h : okAll l) (r : Rec) (hr : r ∈ l) : inA r ≤ lenA l ∧ inB r ≤ lenB l := by
  induction l with
  | nil => cases hr
  | cons x l ih =>
    have hl : okAll l := fun y hy => h y (List.mem_cons_of_mem _ hy)
    have h1 := inA_nn x (h x (List.mem_cons_self ..))
    have h2 := inB_nn x (h x (List.mem_cons_self ..))
    have h3 := lenA_nn l hl
    have h4 := lenB_nn l hl
    simp only [lenA, lenB]
    rcases List.mem_cons.1 hr with rfl | hr
    · omega
    · have := ih hl hr; omega
theorem mem_n (l : List Rec) (h : okAll l) (ha : lenA l ≤ 4096) (hb : lenB l ≤ 4096) (r : Rec) (hr : r ∈ l) : r.n ≤ 4096 := by
  have := mem_le l h r hr
  have := n_le r (h r hr)
  omega
theorem okAll_cons {r : Rec} {l : List Rec} (h : okAll (r :: l)) : okRec r = true ∧ okAll l :=
  ⟨h r (List.mem_cons_self ..), fun x hx => h x (List.mem_cons_of_mem _ hx)⟩
theorem okAll_append {l m : List Rec} (h : okAll l) (g : okAll m) : okAll (l ++ m) := fun x hx => by
  rcases List.mem_append.1 hx with hx | hx
  · exact h x hx
  · exact g x hx
/-- records are known by their bytes -/
theorem recs_prefix (l : List Rec) : ∀ (l' : List Rec) (t : List UInt8), okAll l → okAll l' → (∀ r ∈ l, r.n ≤ 4096) → (∀ r ∈ l', r.n ≤ 4096) → recsE l ++ t = recsE l' → ∃ m, l' = l ++ m ∧ t = recsE m := by
  induction l with
  | nil => intro l' t _ _ _ _ h; exact ⟨l', rfl, h⟩
  | cons r l ih =>
    intro l' t ho ho' hn hn' h
    obtain ⟨o1, o2⟩ := okAll_cons ho
    rw [recsE_cons, List.append_assoc] at h
    match l' with
    | [] =>
      have := recE_len r
      have h2 := congrArg List.length h
      simp [recsE] at h2
      have h3 : recE r = [] := h2.1
      rw [h3] at this; simp at this
    | r' :: l' =>
      obtain ⟨p1, p2⟩ := okAll_cons ho'
      rw [recsE_cons] at h
      have e1 := rdRec_recE r (recsE l ++ t) o1 (hn r (List.mem_cons_self ..))
      rw [h, rdRec_recE r' _ p1 (hn' r' (List.mem_cons_self ..))] at e1
      simp only [Option.some.injEq, Prod.mk.injEq] at e1
      obtain ⟨rfl, e2⟩ := e1
      obtain ⟨m, hm, ht⟩ := ih l' t o2 p2 (fun x hx => hn x (List.mem_cons_of_mem _ hx)) (fun x hx => hn' x (List.mem_cons_of_mem _ hx)) e2.symm
      exact ⟨m, by rw [hm]; rfl, ht⟩

structure Jn where
  la : Nat
  lb : Nat
  sa : Nat
  sb : Nat
  l : List Rec
def headE (j : Jn) : List UInt8 := 82 :: 84 :: (numE j.la ++ (numE j.lb ++ (twoE j.sa ++ twoE j.sb)))
def bodyE (j : Jn) : List UInt8 := headE j ++ recsE j.l
def writE (j : Jn) : List UInt8 := bodyE j ++ twoE (sum (bodyE j))
structure Valid (j : Jn) : Prop where
  ok : okAll j.l
  a : lenA j.l = j.la
  b : lenB j.l = j.lb
  la : j.la ≤ 4096
  lb : j.lb ≤ 4096
  sa : j.sa < 65536
  sb : j.sb < 65536
/-- s is the journal that tells j -/
def Tells (s : List UInt8) (j : Jn) : Prop := Valid j ∧ writE j = s
end M
end Go.Proofs.YtlppphmnegdhoabGreatDoor

namespace Go.Proofs.YtlppphmnegdhoabGreatDoor
set_option linter.unusedVariables false
open Go.RowKit
open M

theorem get_drop (s : ByteArray) (p : Nat) (h : p < s.size) : s.data.toList.drop p = s[p] :: s.data.toList.drop (p + 1) := by
  rw [List.drop_eq_getElem_cons (by simpa using h)]; rfl
theorem len_drop (s : ByteArray) (p : Nat) : (s.data.toList.drop p).length = s.size - p := by
  rw [List.length_drop, ba_len]

/-- what a reader of a number answers at a place -/
def numAns (s : ByteArray) (o : Option (Nat × List UInt8)) : Value :=
  match o with
  | none => .tuple #[.int .i64 0, .int .i64 0, .bool false]
  | some (v, r) => .tuple #[.int .i64 (v : Nat), .int .i64 ((s.size - r.length : Nat) : Nat), .bool true]

theorem numAns_some {s : ByteArray} {o : Option (Nat × List UInt8)} {v : Nat} {r : List UInt8} (h : o = some (v, r)) {a b : Int} (ha : a = (v : Int)) (hb : b = ((s.size - r.length : Nat) : Int)) :
    Ending.returned (.tuple #[.int .i64 a, .int .i64 b, .bool true]) = .returned (numAns s o) := by
  rw [h, ha, hb]; rfl

set_option maxRecDepth 100000 in
set_option maxHeartbeats 1000000 in
theorem readNumber_calls (s : ByteArray) (p : Nat) (w : World) (hs : s.size ≤ maxLen) (hp : p ≤ s.size) :
    Calls Tryz.prog 202 #[.string s, .int .i64 p] w fun e w' => e = .returned (numAns s (M.rdNum (s.data.toList.drop p))) ∧ w' = w := by
  unfold maxLen at hs
  go_enter Tryz.func202, Tryz.ntmps202
  go_wp2
  go_loop [1, 7, 8, 9] (fun at' v wt k => ∃ kk vv ww : Nat, (kk = 0 ∧ ww = 1 ∨ kk = 1 ∧ ww = 128 ∨ kk = 2 ∧ ww = 16384 ∨ kk = 3 ∧ ww = 2097152) ∧ p + kk ≤ s.size ∧ at' = .int .i64 (p + kk : Nat) ∧ v = .int .i64 vv ∧ wt = .int .i64 ww ∧ k = .int .i64 kk ∧ vv < ww ∧ Hid (M.rdNum (s.data.toList.drop p) = M.rdN (3 - kk) vv ww (kk == 0) (s.data.toList.drop (p + kk)))) (fun _ _ _ k => 3 - (intOf k).toNat)
  case atStart => exact ⟨0, 0, 1, .inl ⟨rfl, rfl⟩, hp, rfl, rfl, rfl, rfl, by omega, rfl⟩
  case round =>
    obtain ⟨kk, vv, ww, hkw, hps, rfl, rfl, rfl, rfl, hvw, H⟩ := hrel
    rcases hkw with ⟨rfl, rfl⟩ | ⟨rfl, rfl⟩ | ⟨rfl, rfl⟩ | ⟨rfl, rfl⟩
    · obtain rfl : vv = 0 := by omega
      by_cases hlt : p < s.size
      · obtain ⟨c, hcq⟩ : ∃ c : Nat, s[p].toNat = c := ⟨_, rfl⟩
        have hc : c < 256 := by rw [← hcq]; exact s[p].toNat_lt
        have HQ : Hid (M.rdNum (s.data.toList.drop p) = if c = 0 ∧ true = false then none else if c < 128 then some (0 + c * 1, s.data.toList.drop (p + 1)) else M.rdN 2 (0 + (c - 128) * 1) (1 * 128) false (s.data.toList.drop (p + 1))) := by
          rw [H.out]; show M.rdN 3 0 1 true (s.data.toList.drop p) = _
          rw [get_drop s p hlt, ← hcq]; exact rfl
        by_cases h8 : c < 128
        · have HS : Hid (M.rdNum (s.data.toList.drop p) = some (0 + c * 1, s.data.toList.drop (p + 1))) := by
            rw [HQ.out, if_neg (by simp), if_pos h8]; exact rfl
          have HL : Hid ((s.data.toList.drop (p + 1)).length = s.size - (p + 1)) := len_drop s _
          have h81 : (c : Int) < 128 := by omega
          go_wp2
          all_goals go_ret3
          all_goals exact ⟨numAns_some HS.out (by omega) (by rw [HL.out]; omega), rfl⟩
        · have HS : Hid (M.rdNum (s.data.toList.drop p) = M.rdN 2 (0 + (c - 128) * 1) (1 * 128) false (s.data.toList.drop (p + 1))) := by
            rw [HQ.out, if_neg (by simp), if_neg h8]; exact rfl
          have h82 : 128 ≤ c := by omega
          clear h8
          go_wp2
          go_round
          case rel => exact ⟨1, 0 + (c - 128) * 1, 128, by omega, by omega, by go_num, by go_num, rfl, rfl, by omega, HS.out⟩
          case measure => simp [intOf]
      · have HN : Hid (M.rdNum (s.data.toList.drop p) = none) := by
          rw [H.out, List.drop_of_length_le (by rw [ba_len]; omega)]; exact rfl
        have hle : s.size ≤ p := by omega
        go_wp2
        go_ret3
        exact ⟨by rw [HN.out]; rfl, rfl⟩
    · by_cases hlt : p + 1 < s.size
      · obtain ⟨c, hcq⟩ : ∃ c : Nat, s[p + 1].toNat = c := ⟨_, rfl⟩
        have hc : c < 256 := by rw [← hcq]; exact s[p + 1].toNat_lt
        have HQ : Hid (M.rdNum (s.data.toList.drop p) = if c = 0 ∧ false = false then none else if c < 128 then some (vv + c * 128, s.data.toList.drop (p + 2)) else M.rdN 1 (vv + (c - 128) * 128) (128 * 128) false (s.data.toList.drop (p + 2))) := by
          rw [H.out]
          rw [get_drop s (p + 1) hlt, ← hcq]; exact rfl
        by_cases hz : c = 0
        · have HN : Hid (M.rdNum (s.data.toList.drop p) = none) := by
            rw [HQ.out, if_pos ⟨hz, rfl⟩]; exact rfl
          subst hz
          go_wp2
          go_ret3
          exact ⟨by rw [HN.out]; rfl, rfl⟩
        have hz1 : ((c : Int) == 0) = false := by simp; omega
        have hz2 : 0 < c := by omega
        by_cases h8 : c < 128
        · have HS : Hid (M.rdNum (s.data.toList.drop p) = some (vv + c * 128, s.data.toList.drop (p + 2))) := by
            rw [HQ.out, if_neg (fun q => hz q.1), if_pos h8]; exact rfl
          have HL : Hid ((s.data.toList.drop (p + 2)).length = s.size - (p + 2)) := len_drop s _
          clear hz
          have h81 : (c : Int) < 128 := by omega
          go_wp2
          go_ret3
          exact ⟨numAns_some HS.out (by omega) (by rw [HL.out]; omega), rfl⟩
        · have HS : Hid (M.rdNum (s.data.toList.drop p) = M.rdN 1 (vv + (c - 128) * 128) (128 * 128) false (s.data.toList.drop (p + 2))) := by
            rw [HQ.out, if_neg (fun q => hz q.1), if_neg h8]; exact rfl
          clear hz
          have h82 : 128 ≤ c := by omega
          clear h8
          go_wp2
          go_round
          case rel => exact ⟨2, vv + (c - 128) * 128, 16384, by omega, by omega, by go_num, by go_num, rfl, rfl, by omega, HS.out⟩
          case measure => simp [intOf]
      · have HN : Hid (M.rdNum (s.data.toList.drop p) = none) := by
          rw [H.out, List.drop_of_length_le (by rw [ba_len]; omega)]; exact rfl
        have hle : s.size ≤ p + 1 := by omega
        go_wp2
        go_ret3
        exact ⟨by rw [HN.out]; rfl, rfl⟩
    · by_cases hlt : p + 2 < s.size
      · obtain ⟨c, hcq⟩ : ∃ c : Nat, s[p + 2].toNat = c := ⟨_, rfl⟩
        have hc : c < 256 := by rw [← hcq]; exact s[p + 2].toNat_lt
        have HQ : Hid (M.rdNum (s.data.toList.drop p) = if c = 0 ∧ false = false then none else if c < 128 then some (vv + c * 16384, s.data.toList.drop (p + 3)) else M.rdN 0 (vv + (c - 128) * 16384) (16384 * 128) false (s.data.toList.drop (p + 3))) := by
          rw [H.out]
          rw [get_drop s (p + 2) hlt, ← hcq]; exact rfl
        by_cases hz : c = 0
        · have HN : Hid (M.rdNum (s.data.toList.drop p) = none) := by
            rw [HQ.out, if_pos ⟨hz, rfl⟩]; exact rfl
          subst hz
          go_wp2
          go_ret3
          exact ⟨by rw [HN.out]; rfl, rfl⟩
        have hz1 : ((c : Int) == 0) = false := by simp; omega
        have hz2 : 0 < c := by omega
        by_cases h8 : c < 128
        · have HS : Hid (M.rdNum (s.data.toList.drop p) = some (vv + c * 16384, s.data.toList.drop (p + 3))) := by
            rw [HQ.out, if_neg (fun q => hz q.1), if_pos h8]; exact rfl
          have HL : Hid ((s.data.toList.drop (p + 3)).length = s.size - (p + 3)) := len_drop s _
          clear hz
          have h81 : (c : Int) < 128 := by omega
          go_wp2
          go_ret3
          exact ⟨numAns_some HS.out (by omega) (by rw [HL.out]; omega), rfl⟩
        · have HS : Hid (M.rdNum (s.data.toList.drop p) = M.rdN 0 (vv + (c - 128) * 16384) (16384 * 128) false (s.data.toList.drop (p + 3))) := by
            rw [HQ.out, if_neg (fun q => hz q.1), if_neg h8]; exact rfl
          clear hz
          have h82 : 128 ≤ c := by omega
          clear h8
          go_wp2
          go_round
          case rel => exact ⟨3, vv + (c - 128) * 16384, 2097152, by omega, by omega, by go_num, by go_num, rfl, rfl, by omega, HS.out⟩
          case measure => simp [intOf]
      · have HN : Hid (M.rdNum (s.data.toList.drop p) = none) := by
          rw [H.out, List.drop_of_length_le (by rw [ba_len]; omega)]; exact rfl
        have hle : s.size ≤ p + 2 := by omega
        go_wp2
        go_ret3
        exact ⟨by rw [HN.out]; rfl, rfl⟩
    · have HN : Hid (M.rdNum (s.data.toList.drop p) = none) := by rw [H.out]; exact rfl
      go_wp2
      go_ret3
      exact ⟨by rw [HN.out]; rfl, rfl⟩

theorem rdTwo_len (s : ByteArray) (p : Nat) : (∃ v, rdTwo (s.data.toList.drop p) = some (v, s.data.toList.drop (p + 2)) ∧ p + 2 ≤ s.size ∧ v < 65536) ∨ (rdTwo (s.data.toList.drop p) = none ∧ s.size < p + 2) := by
  by_cases h : p + 2 ≤ s.size
  · have h0 : p < s.size := by omega
    have h1 : p + 1 < s.size := by omega
    refine .inl ⟨s[p].toNat * 256 + s[p + 1].toNat, ?_, h, ?_⟩
    · rw [get_drop s p h0, get_drop s (p + 1) h1]; rfl
    · have := s[p].toNat_lt; have := s[p + 1].toNat_lt; omega
  · refine .inr ⟨?_, by omega⟩
    have hl := len_drop s p
    match hd : s.data.toList.drop p with
    | [] => exact rfl
    | [a] => exact rfl
    | a :: b :: l => rw [hd] at hl; simp at hl; omega

set_option maxHeartbeats 400000 in
theorem readTwo_yes (s : ByteArray) (p v : Nat) (w : World) (hs : s.size ≤ maxLen) (hp : p + 2 ≤ s.size) (hv : rdTwo (s.data.toList.drop p) = some (v, s.data.toList.drop (p + 2))) :
    Calls Tryz.prog 162 #[.string s, .int .i64 p] w fun e w' => e = .returned (.tuple #[.int .i64 v, .int .i64 (p + 2 : Nat), .bool true]) ∧ w' = w.drew := by
  unfold maxLen at hs
  have h0 : p < s.size := by omega
  have h1 : p + 1 < s.size := by omega
  have h2 : (p : Int) + 1 < (s.size : Int) := by omega
  have h3 : IntKind.i64.wrap ((p : Int) + 1) = (p : Int) + 1 := by rw [IntKind.wrap_i64]; omega
  have h4 : IntKind.i64.wrap ((p : Int) + 2) = (p : Int) + 2 := by rw [IntKind.wrap_i64]; omega
  obtain ⟨c, hcq⟩ : ∃ c : Nat, s[p].toNat = c := ⟨_, rfl⟩
  have hc : c < 256 := by rw [← hcq]; exact s[p].toNat_lt
  obtain ⟨d, hdq⟩ : ∃ d : Nat, s[p + 1].toNat = d := ⟨_, rfl⟩
  have hd : d < 256 := by rw [← hdq]; exact s[p + 1].toNat_lt
  have HV : Hid (v = c * 256 + d) := by
    rw [get_drop s p h0, get_drop s (p + 1) h1] at hv
    simp [rdTwo, hcq, hdq] at hv
    exact hv.symm
  clear hv
  go_enter Tryz.func162, Tryz.ntmps162
  go_wp2
  go_region
  all_goals go_wp2
  all_goals go_ret3
  all_goals exact ⟨by rw [HV.out]; congr 4, rfl⟩

set_option maxHeartbeats 400000 in
theorem readTwo_no (s : ByteArray) (p : Nat) (w : World) (hs : s.size ≤ maxLen) (hp : p ≤ s.size) (h : s.size < p + 2) :
    Calls Tryz.prog 162 #[.string s, .int .i64 p] w fun e w' => e = .returned (.tuple #[.int .i64 0, .int .i64 0, .bool false]) ∧ w' = w := by
  unfold maxLen at hs
  have h5 : (s.size : Int) - (p : Int) < 2 := by omega
  go_enter Tryz.func162, Tryz.ntmps162
  go_wp2
  go_ret3
  exact ⟨rfl, rfl⟩

theorem ret_bool {a b : Bool} (h : a = b) : Ending.returned (.bool a) = .returned (.bool b) := by rw [h]
theorem ret_two {a b c d : Int} (h : a = c) (g : b = d) : Ending.returned (.tuple #[.int .i64 a, .int .i64 b]) = .returned (.tuple #[.int .i64 c, .int .i64 d]) := by rw [h, g]
theorem empty_iff (s : ByteArray) : s.toList.isEmpty = decide (s.size = 0) := by
  have h : s.toList.length = s.size := by rw [ByteArray.toList_eq]; exact ba_len s
  rw [Bool.eq_iff_iff, List.isEmpty_iff, decide_eq_true_iff, ← h, List.length_eq_zero_iff]
theorem okRec_low (r : M.Rec) (h : r.n < 1) : false = M.okRec r := by
  have : decide (1 ≤ r.n) = false := by simp; omega
  simp [M.okRec, this]
theorem okRec_0 (r : M.Rec) (h : 1 ≤ r.n) (k : (r.kind == 0) = true) : r.s.toList.isEmpty = M.okRec r := by
  simp at k; simp [M.okRec, k, h, empty_iff]
theorem okRec_1 (r : M.Rec) (h : 1 ≤ r.n) (k : (r.kind == 1) = true) : r.s.toList.isEmpty = M.okRec r := by
  simp at k; simp [M.okRec, k, h, empty_iff]
theorem okRec_2 (r : M.Rec) (h : 1 ≤ r.n) (k : (r.kind == 2) = true) : ((r.s.size : Int) == r.n) = M.okRec r := by
  simp at k; simp [M.okRec, k, h]; rfl
theorem okRec_x (r : M.Rec) (k0 : (r.kind == 0) = false) (k1 : (r.kind == 1) = false) (k2 : (r.kind == 2) = false) : false = M.okRec r := by
  simp at k0 k1 k2; simp [M.okRec, k0, k1, k2]

set_option maxHeartbeats 400000 in
theorem isRecord_calls (r : M.Rec) (w : World)  :
    Calls Tryz.prog 126 #[.agg #[.int .i64 r.kind, .int .i64 r.n, .string r.s]] w fun e w' => e = .returned (.bool (M.okRec r)) ∧ Below w.heap.size w w' := by
  go_enter Tryz.func126, Tryz.ntmps126
  go_wp2
  all_goals go_ret
  all_goals refine ⟨?_, (Below.refl _ _).alloc (Nat.le_refl _) _⟩
  all_goals first | exact ret_bool (okRec_low r (by assumption)) | exact ret_bool (okRec_0 r (by assumption) (by assumption)) | exact ret_bool (okRec_1 r (by assumption) (by assumption)) | exact ret_bool (okRec_2 r (by assumption) (by assumption)) | exact ret_bool (okRec_x r (by assumption) (by assumption) (by assumption))

theorem span_0 (r : M.Rec) (k : (r.kind == 0) = true) : r.n = M.inA r ∧ r.n = M.inB r := by
  simp at k; simp [M.inA, M.inB, k]
theorem span_1 (r : M.Rec) (k : (r.kind == 1) = true) : 0 = M.inA r ∧ r.n = M.inB r := by
  simp at k; simp [M.inA, M.inB, k]
theorem span_x (r : M.Rec) (k0 : (r.kind == 0) = false) (k1 : (r.kind == 1) = false) : r.n = M.inA r ∧ 0 = M.inB r := by
  simp at k0 k1; simp [M.inA, M.inB, k0, k1]
set_option maxHeartbeats 400000 in
theorem spans_calls (r : M.Rec) (w : World)  :
    Calls Tryz.prog 125 #[.agg #[.int .i64 r.kind, .int .i64 r.n, .string r.s]] w fun e w' => e = .returned (.tuple #[.int .i64 (M.inA r), .int .i64 (M.inB r)]) ∧ Below w.heap.size w w' := by
  go_enter Tryz.func125, Tryz.ntmps125
  go_wp2
  · go_region
    all_goals go_wp2
    all_goals go_ret2
    all_goals refine ⟨?_, ((Below.refl _ _).alloc (Nat.le_refl _) _).drew⟩
    all_goals exact ret_two (span_0 r (by assumption)).1 (span_0 r (by assumption)).2
  · go_region
    all_goals go_wp2
    all_goals go_ret2
    all_goals refine ⟨?_, ((Below.refl _ _).alloc (Nat.le_refl _) _).drew⟩
    all_goals exact ret_two (span_1 r (by assumption)).1 (span_1 r (by assumption)).2
  · go_ret2
    refine ⟨?_, (Below.refl _ _).alloc (Nat.le_refl _) _⟩
    exact ret_two (span_x r (by assumption) (by assumption)).1 (span_x r (by assumption) (by assumption)).2

end Go.Proofs.YtlppphmnegdhoabGreatDoor

namespace Go.Proofs.YtlppphmnegdhoabGreatDoor
set_option linter.unusedVariables false
open Go.RowKit
open M

/-- what stands behind a part of a text -/
theorem suffix_at (s : ByteArray) (p : Nat) (x r : List UInt8) (hp : p ≤ s.size) (h : s.data.toList.drop p = x ++ r) : p + x.length ≤ s.size ∧ r = s.data.toList.drop (p + x.length) := by
  have hl := len_drop s p
  rw [h] at hl
  simp at hl
  refine ⟨by omega, ?_⟩
  rw [← List.drop_drop, h, List.drop_left]
theorem rdNum_at (s : ByteArray) (p m : Nat) (r : List UInt8) (hp : p ≤ s.size) (h : rdNum (s.data.toList.drop p) = some (m, r)) : ∃ q, p < q ∧ q ≤ s.size ∧ r = s.data.toList.drop q ∧ m < 2097152 := by
  obtain ⟨h1, h2⟩ := rdNum_inv _ _ _ h
  obtain ⟨h3, h4⟩ := suffix_at s p _ _ hp h1
  exact ⟨_, by have := (numE_len m).1; omega, h3, h4, h2⟩
theorem readNumber_none (s : ByteArray) (p : Nat) (w : World) (hs : s.size ≤ maxLen) (hp : p ≤ s.size) (h : rdNum (s.data.toList.drop p) = none) :
    Calls Tryz.prog 202 #[.string s, .int .i64 p] w fun e w' => e = .returned (.tuple #[.int .i64 0, .int .i64 0, .bool false]) ∧ w' = w := by
  refine (readNumber_calls s p w hs hp).mono ?_
  rintro e w' ⟨rfl, rfl⟩
  exact ⟨by rw [h]; rfl, rfl⟩
theorem readNumber_some (s : ByteArray) (p m q : Nat) (w : World) (hs : s.size ≤ maxLen) (hp : p ≤ s.size) (hq : q ≤ s.size) (h : rdNum (s.data.toList.drop p) = some (m, s.data.toList.drop q)) :
    Calls Tryz.prog 202 #[.string s, .int .i64 p] w fun e w' => e = .returned (.tuple #[.int .i64 m, .int .i64 q, .bool true]) ∧ w' = w := by
  refine (readNumber_calls s p w hs hp).mono ?_
  rintro e w' ⟨rfl, rfl⟩
  refine ⟨?_, rfl⟩
  have e : s.size - (s.data.toList.drop q).length = q := by rw [len_drop]; omega
  rw [h]; simp only [numAns, e]

theorem rdRec_at (s : ByteArray) (p : Nat) (r : Rec) (t : List UInt8) (hp : p ≤ s.size) (h : rdRec (s.data.toList.drop p) = some (r, t)) : ∃ q, p < q ∧ q ≤ s.size ∧ t = s.data.toList.drop q := by
  obtain ⟨h1, h2⟩ := rdRec_inv _ _ _ h
  obtain ⟨h3, h4⟩ := suffix_at s p _ _ hp h2
  exact ⟨_, by have := recE_len r; omega, h3, h4⟩

set_option maxRecDepth 100000 in
set_option maxHeartbeats 400000 in
theorem readLength_no (s : ByteArray) (p : Nat) (w : World) (hs : s.size ≤ maxLen) (hp : p ≤ s.size) (h : ∀ m r, rdNum (s.data.toList.drop p) = some (m, r) → 4096 < m) :
    Calls Tryz.prog 163 #[.string s, .int .i64 p] w fun e w' => e = .returned (.tuple #[.int .i64 0, .int .i64 0, .bool false]) ∧ w' = w := by
  match hm : rdNum (s.data.toList.drop p) with
  | none =>
    have HM : Hid (rdNum (s.data.toList.drop p) = none) := hm
    clear h hm
    go_enter Tryz.func163, Tryz.ntmps163
    go_wp2_with fail
    refine (readNumber_none s p _ hs hp HM.out).mono ?_
    rintro e w' ⟨rfl, rfl⟩
    go_wp2
    go_ret3
    exact ⟨rfl, rfl⟩
  | some (m, r) =>
    have hb := h m r hm
    obtain ⟨q, hpq, hq, rfl, hm2⟩ := rdNum_at s p m r hp hm
    have HM : Hid (rdNum (s.data.toList.drop p) = some (m, s.data.toList.drop q)) := hm
    clear h hm
    go_enter Tryz.func163, Tryz.ntmps163
    go_wp2_with fail
    refine (readNumber_some s p m q _ hs hp hq HM.out).mono ?_
    rintro e w' ⟨rfl, rfl⟩
    have hb2 : (4096 : Int) < (m : Int) := by omega
    go_wp2
    go_ret3
    exact ⟨rfl, rfl⟩

set_option maxRecDepth 100000 in
set_option maxHeartbeats 400000 in
theorem readLength_yes (s : ByteArray) (p m q : Nat) (w : World) (hs : s.size ≤ maxLen) (hp : p ≤ s.size) (hq : q ≤ s.size) (h : rdNum (s.data.toList.drop p) = some (m, s.data.toList.drop q)) (hm : m ≤ 4096) :
    Calls Tryz.prog 163 #[.string s, .int .i64 p] w fun e w' => e = .returned (.tuple #[.int .i64 m, .int .i64 q, .bool true]) ∧ w' = w := by
  have HM : Hid (rdNum (s.data.toList.drop p) = some (m, s.data.toList.drop q)) := h
  clear h
  go_enter Tryz.func163, Tryz.ntmps163
  go_wp2_with fail
  refine (readNumber_some s p m q _ hs hp hq HM.out).mono ?_
  rintro e w' ⟨rfl, rfl⟩
  have hb2 : ¬ (4096 : Int) < (m : Int) := by omega
  go_wp2
  go_ret3
  exact ⟨rfl, rfl⟩

theorem bcell {W w1 : World} (hb : Below W.heap.size W w1) : (∀ b o, b < W.heap.size → w1.cell? ⟨b, o, none⟩ = W.cell? ⟨b, o, none⟩) ∧ (∀ b o, b < W.heap.size → w1.frozen? ⟨b, o, none⟩ = W.frozen? ⟨b, o, none⟩) :=
  ⟨fun b o h => hb.cell (p := ⟨b, o, none⟩) h, fun b o h => hb.frozen (p := ⟨b, o, none⟩) h⟩

/-- what is answered where no record is read -/
def noRec : Value := .tuple #[.agg #[.int .i64 0, .int .i64 0, .string ⟨#[]⟩], .int .i64 0, .bool false]
def someRec (r : M.Rec) (q : Nat) : Value := .tuple #[.agg #[.int .i64 r.kind, .int .i64 r.n, .string r.s], .int .i64 q, .bool true]

set_option maxRecDepth 100000 in
set_option maxHeartbeats 400000 in
theorem readRecord_no1 (s : ByteArray) (p : Nat) (w : World) (hs : s.size ≤ maxLen) (hp : p ≤ s.size) (hm : rdNum (s.data.toList.drop p) = none) :
    Calls Tryz.prog 164 #[.string s, .int .i64 p] w fun e w' => e = .returned noRec ∧ Below w.heap.size w w' := by
  unfold maxLen at hs
  have HM : Hid (rdNum (s.data.toList.drop p) = none) := hm
  clear hm
  go_enter Tryz.func164, Tryz.ntmps164
  go_wp2_with fail
  refine (readNumber_none s p _ hs hp HM.out).mono ?_
  rintro e w' ⟨rfl, rfl⟩
  go_wp2
  exact bodyPost_ret (v := noRec) (by simp [results, Tryz.results164, go_sem, noRec]) rfl ⟨rfl, (Below.refl _ _).alloc (Nat.le_refl _) _⟩

set_option maxRecDepth 100000 in
set_option maxHeartbeats 400000 in
theorem readRecord_no2 (s : ByteArray) (p m q : Nat) (w : World) (hs : s.size ≤ maxLen) (hp : p ≤ s.size) (hq : q ≤ s.size) (hm : rdNum (s.data.toList.drop p) = some (m, s.data.toList.drop q)) (hm2 : m < 2097152) (h4 : m % 4 = 2) (h5 : s.size - q < m / 4) :
    Calls Tryz.prog 164 #[.string s, .int .i64 p] w fun e w' => e = .returned noRec ∧ Below w.heap.size w w' := by
  unfold maxLen at hs
  have HM : Hid (rdNum (s.data.toList.drop p) = some (m, s.data.toList.drop q)) := hm
  clear hm
  have h41 : ((m : Int) % 4 == 2) = true := by simp; omega
  go_enter Tryz.func164, Tryz.ntmps164
  go_wp2_with fail
  refine (readNumber_some s p m q _ hs hp hq HM.out).mono ?_
  rintro e w' ⟨rfl, rfl⟩
  go_wp2
  exact bodyPost_ret (v := noRec) (by simp [results, Tryz.results164, go_sem, noRec]) rfl ⟨rfl, ((Below.refl _ _).alloc (Nat.le_refl _) _).alloc (by simp) _⟩

set_option maxRecDepth 100000 in
set_option maxHeartbeats 1000000 in
theorem readRecord_r (s : ByteArray) (p m q : Nat) (ok : Bool) (w : World) (hs : s.size ≤ maxLen) (hp : p ≤ s.size) (hq : q ≤ s.size) (hm : rdNum (s.data.toList.drop p) = some (m, s.data.toList.drop q)) (hm2 : m < 2097152) (h4 : m % 4 = 2) (h5 : ¬ s.size - q < m / 4)
    (hok : okRec ⟨(m : Int) % 4, (m : Int) / 4, s.extract q (q + m / 4)⟩ = ok) :
    Calls Tryz.prog 164 #[.string s, .int .i64 p] w fun e w' => e = .returned (if ok then someRec ⟨(m : Int) % 4, (m : Int) / 4, s.extract q (q + m / 4)⟩ (q + m / 4) else noRec) ∧ Below w.heap.size w w' := by
  unfold maxLen at hs
  have HM : Hid (rdNum (s.data.toList.drop p) = some (m, s.data.toList.drop q)) := hm
  have HO : Hid (okRec ⟨(m : Int) % 4, (m : Int) / 4, s.extract q (q + m / 4)⟩ = ok) := hok
  clear hm hok
  have h41 : ((m : Int) % 4 == 2) = true := by simp; omega
  have h42 : (m : Int) / 4 ≤ (s.size : Int) - (q : Int) := by omega
  go_enter Tryz.func164, Tryz.ntmps164
  go_wp2_with fail
  refine (readNumber_some s p m q _ hs hp hq HM.out).mono ?_
  rintro e w' ⟨rfl, rfl⟩
  go_wp2_with fail
  refine (isRecord_calls ⟨(m : Int) % 4, (m : Int) / 4, s.extract q (q + m / 4)⟩ _).mono ?_
  rintro e w1 ⟨rfl, hb⟩
  rw [HO.out]
  have hb2 := ((Below.refl w.heap.size _).alloc (Nat.le_refl _) _).alloc (by simp) _ |>.trans (hb.mono (by simp; omega))
  obtain ⟨hc, hf⟩ := bcell hb
  have hz : w.heap.size + 1 < w1.heap.size := by have := hb.size; simp at this; omega
  have s0 : w1.cell? ⟨w.heap.size, 0, none⟩ = some (.int .i64 0) := by rw [hc _ _ (by simp; omega)]; simp [go_sem]
  have s1 : w1.cell? ⟨w.heap.size, 1, none⟩ = some (.int .i64 0) := by rw [hc _ _ (by simp; omega)]; simp [go_sem]
  have s2 : w1.cell? ⟨w.heap.size, 2, none⟩ = some (.string ⟨#[]⟩) := by rw [hc _ _ (by simp; omega)]; simp [go_sem]
  clear hb
  cases ok
  · go_wp2
    refine bodyPost_ret (v := noRec) (by simp [results, Tryz.results164, go_sem, noRec, s0, s1, s2]) rfl ⟨rfl, ?_⟩
    first | exact hb2 | exact hb2.setCell (by simp) _ | exact ((hb2.setCell (by simp) _).setCell (by simp) _).setCell (by simp) _
  · go_wp2
    refine bodyPost_ret (v := someRec ⟨(m : Int) % 4, (m : Int) / 4, s.extract q (q + m / 4)⟩ (q + m / 4)) (by simp [results, Tryz.results164, go_sem, someRec, s0, s1, s2]) rfl ⟨rfl, ?_⟩
    first | exact hb2 | exact hb2.setCell (by simp) _ | exact ((hb2.setCell (by simp) _).setCell (by simp) _).setCell (by simp) _

set_option maxRecDepth 100000 in
set_option maxHeartbeats 1000000 in
theorem readRecord_k (s : ByteArray) (p m q : Nat) (ok : Bool) (w : World) (hs : s.size ≤ maxLen) (hp : p ≤ s.size) (hq : q ≤ s.size) (hm : rdNum (s.data.toList.drop p) = some (m, s.data.toList.drop q)) (hm2 : m < 2097152) (h4 : ¬ m % 4 = 2)
    (hok : okRec ⟨(m : Int) % 4, (m : Int) / 4, ⟨#[]⟩⟩ = ok) :
    Calls Tryz.prog 164 #[.string s, .int .i64 p] w fun e w' => e = .returned (if ok then someRec ⟨(m : Int) % 4, (m : Int) / 4, ⟨#[]⟩⟩ (q) else noRec) ∧ Below w.heap.size w w' := by
  unfold maxLen at hs
  have HM : Hid (rdNum (s.data.toList.drop p) = some (m, s.data.toList.drop q)) := hm
  have HO : Hid (okRec ⟨(m : Int) % 4, (m : Int) / 4, ⟨#[]⟩⟩ = ok) := hok
  clear hm hok
  have h41 : ((m : Int) % 4 == 2) = false := by simp; omega
  go_enter Tryz.func164, Tryz.ntmps164
  go_wp2_with fail
  refine (readNumber_some s p m q _ hs hp hq HM.out).mono ?_
  rintro e w' ⟨rfl, rfl⟩
  go_wp2_with fail
  refine (isRecord_calls ⟨(m : Int) % 4, (m : Int) / 4, ⟨#[]⟩⟩ _).mono ?_
  rintro e w1 ⟨rfl, hb⟩
  rw [HO.out]
  have hb2 := ((Below.refl w.heap.size _).alloc (Nat.le_refl _) _).alloc (by simp) _ |>.trans (hb.mono (by simp; omega))
  obtain ⟨hc, hf⟩ := bcell hb
  have hz : w.heap.size + 1 < w1.heap.size := by have := hb.size; simp at this; omega
  have s0 : w1.cell? ⟨w.heap.size, 0, none⟩ = some (.int .i64 0) := by rw [hc _ _ (by simp; omega)]; simp [go_sem]
  have s1 : w1.cell? ⟨w.heap.size, 1, none⟩ = some (.int .i64 0) := by rw [hc _ _ (by simp; omega)]; simp [go_sem]
  have s2 : w1.cell? ⟨w.heap.size, 2, none⟩ = some (.string ⟨#[]⟩) := by rw [hc _ _ (by simp; omega)]; simp [go_sem]
  clear hb
  cases ok
  · go_wp2
    refine bodyPost_ret (v := noRec) (by simp [results, Tryz.results164, go_sem, noRec, s0, s1, s2]) rfl ⟨rfl, ?_⟩
    first | exact hb2 | exact hb2.setCell (by simp) _ | exact ((hb2.setCell (by simp) _).setCell (by simp) _).setCell (by simp) _
  · go_wp2
    refine bodyPost_ret (v := someRec ⟨(m : Int) % 4, (m : Int) / 4, ⟨#[]⟩⟩ (q)) (by simp [results, Tryz.results164, go_sem, someRec, s0, s1, s2]) rfl ⟨rfl, ?_⟩
    first | exact hb2 | exact hb2.setCell (by simp) _ | exact ((hb2.setCell (by simp) _).setCell (by simp) _).setCell (by simp) _

theorem mk_r (s : ByteArray) (m q : Nat) : mkRec m ((s.data.toList.drop q).take (m / 4)) = ⟨(m : Int) % 4, (m : Int) / 4, s.extract q (q + m / 4)⟩ := by
  have : (⟨⟨(s.data.toList.drop q).take (m / 4)⟩⟩ : ByteArray) = s.extract q (q + m / 4) := by
    apply ba_ext
    rw [Lib.extract_data]
    simp
  simp only [mkRec, this]
theorem readRecord_none (s : ByteArray) (p : Nat) (w : World) (hs : s.size ≤ maxLen) (hp : p ≤ s.size) (h : rdRec (s.data.toList.drop p) = none) :
    Calls Tryz.prog 164 #[.string s, .int .i64 p] w fun e w' => e = .returned noRec ∧ Below w.heap.size w w' := by
  match hm : rdNum (s.data.toList.drop p) with
  | none => exact readRecord_no1 s p w hs hp hm
  | some (m, r) =>
    obtain ⟨q, hpq, hq, rfl, hm2⟩ := rdNum_at s p m r hp hm
    simp only [rdRec, hm] at h
    by_cases h4 : m % 4 = 2
    · rw [if_pos h4, len_drop] at h
      by_cases h5 : s.size - q < m / 4
      · exact readRecord_no2 s p m q w hs hp hq hm hm2 h4 h5
      · rw [if_neg h5, mk_r] at h
        have hok : okRec ⟨(m : Int) % 4, (m : Int) / 4, s.extract q (q + m / 4)⟩ = false := by
          cases hx : okRec ⟨(m : Int) % 4, (m : Int) / 4, s.extract q (q + m / 4)⟩
          · rfl
          · rw [hx] at h; simp at h
        exact readRecord_r s p m q false w hs hp hq hm hm2 h4 h5 hok
    · rw [if_neg h4] at h
      have hok : okRec ⟨(m : Int) % 4, (m : Int) / 4, ⟨#[]⟩⟩ = false := by
        cases hx : okRec ⟨(m : Int) % 4, (m : Int) / 4, ⟨#[]⟩⟩
        · rfl
        · have hx' : okRec (mkRec m []) = true := hx
          rw [hx'] at h; simp at h
      exact readRecord_k s p m q false w hs hp hq hm hm2 h4 hok
theorem readRecord_some (s : ByteArray) (p q' : Nat) (r : Rec) (w : World) (hs : s.size ≤ maxLen) (hp : p ≤ s.size) (hq' : q' ≤ s.size) (h : rdRec (s.data.toList.drop p) = some (r, s.data.toList.drop q')) :
    Calls Tryz.prog 164 #[.string s, .int .i64 p] w fun e w' => e = .returned (someRec r q') ∧ Below w.heap.size w w' := by
  match hm : rdNum (s.data.toList.drop p) with
  | none => simp [rdRec, hm] at h
  | some (m, t) =>
    obtain ⟨q, hpq, hq, rfl, hm2⟩ := rdNum_at s p m t hp hm
    simp only [rdRec, hm] at h
    have inj : ∀ a, a ≤ s.size → s.data.toList.drop a = s.data.toList.drop q' → a = q' := by
      intro a ha e
      have h1 := len_drop s a
      rw [e, len_drop] at h1
      omega
    by_cases h4 : m % 4 = 2
    · rw [if_pos h4, len_drop] at h
      by_cases h5 : s.size - q < m / 4
      · rw [if_pos h5] at h; cases h
      · rw [if_neg h5, mk_r] at h
        cases hx : okRec ⟨(m : Int) % 4, (m : Int) / 4, s.extract q (q + m / 4)⟩
        · rw [hx] at h; simp at h
        · rw [hx, if_pos rfl, List.drop_drop] at h
          simp only [Option.some.injEq, Prod.mk.injEq] at h
          obtain ⟨rfl, h2⟩ := h
          obtain rfl := inj _ (by omega) h2
          exact readRecord_r s p m q true w hs hp hq hm hm2 h4 h5 hx
    · rw [if_neg h4] at h
      cases hx : okRec ⟨(m : Int) % 4, (m : Int) / 4, ⟨#[]⟩⟩
      · have hx' : okRec (mkRec m []) = false := hx
        rw [hx'] at h; simp at h
      · have hx' : okRec (mkRec m []) = true := hx
        rw [hx', if_pos rfl] at h
        simp only [Option.some.injEq, Prod.mk.injEq] at h
        obtain ⟨rfl, h2⟩ := h
        obtain rfl := inj _ hq h2
        exact readRecord_k s p m q true w hs hp hq hm hm2 h4 hx

end Go.Proofs.YtlppphmnegdhoabGreatDoor

namespace Go.Proofs.YtlppphmnegdhoabGreatDoor
set_option linter.unusedVariables false
open Go.RowKit
open M

theorem Tryz.info69 : (Tryz.prog.info? 69).map (fun i => (i.zero, i.size, i.bytes)) = some (some (.agg #[.int .i64 0, .int .i64 0, .string ⟨#[]⟩]), 3, 32) := by kernel_rfl

/-- a record's cells, a list's -/
def recC (r : M.Rec) : List Value := [.int .i64 r.kind, .int .i64 r.n, .string r.s]
def recsC (l : List M.Rec) : List Value := (l.map recC).flatten
theorem recsC_snoc (l : List M.Rec) (r : M.Rec) : recsC (l ++ [r]) = recsC l ++ recC r := by simp [recsC]

/-- what is left to read is no list of records of these lengths -/
def NoRecs (t : List UInt8) (a b : Int) : Prop := ∀ l, okAll l → t = recsE l → lenA l = a → lenB l = b → False

theorem noRecs_of {t u : List UInt8} {L : List M.Rec} {a b : Int} (ho : okAll L) (ha : 0 ≤ a - lenA L) (hb : 0 ≤ b - lenB L) (ha4 : a ≤ 4096) (hb4 : b ≤ 4096) (h : t = recsE L ++ u) (hn : NoRecs u (a - lenA L) (b - lenB L)) : NoRecs t a b := by
  intro l hl ht la lb
  have n1 := mem_n L ho (by omega) (by omega)
  have n2 := mem_n l hl (by omega) (by omega)
  obtain ⟨m, hm, hu⟩ := recs_prefix L l u ho hl n1 n2 (by rw [← h, ht])
  subst hm
  rw [lenA_append] at la
  rw [lenB_append] at lb
  exact hn m (fun x hx => hl x (List.mem_append_right _ hx)) hu (by omega) (by omega)
theorem noRecs_none {t : List UInt8} {a b : Int} (ha4 : a ≤ 4096) (hb4 : b ≤ 4096) (h : rdRec t = none) (ht : t ≠ []) : NoRecs t a b := by
  intro l hl hh la lb
  match l with
  | [] => exact ht (by rw [hh]; rfl)
  | r :: l =>
    have n2 := mem_n (r :: l) hl (by omega) (by omega) r (List.mem_cons_self ..)
    rw [hh, recsE_cons, rdRec_recE r _ (okAll_cons hl).1 n2] at h
    cases h
theorem noRecs_big {t u : List UInt8} {r : M.Rec} {a b : Int} (ha4 : a ≤ 4096) (hb4 : b ≤ 4096) (h : rdRec t = some (r, u)) (ht : t ≠ []) (hg : a < inA r ∨ b < inB r) : NoRecs t a b := by
  intro l hl hh la lb
  match l with
  | [] => exact ht (by rw [hh]; rfl)
  | r' :: l =>
    have n2 := mem_n (r' :: l) hl (by omega) (by omega) r' (List.mem_cons_self ..)
    rw [hh, recsE_cons, rdRec_recE r' _ (okAll_cons hl).1 n2] at h
    simp only [Option.some.injEq, Prod.mk.injEq] at h
    obtain ⟨rfl, _⟩ := h
    have h3 := mem_le (r' :: l) hl r' (List.mem_cons_self ..)
    omega
theorem noRecs_end {a b : Int} (hg : 0 < a ∨ 0 < b) : NoRecs [] a b := by
  intro l hl hh la lb
  match l with
  | [] => simp [lenA, lenB] at la lb; omega
  | r :: l =>
    have := recE_len r
    have h2 := congrArg List.length hh
    simp [recsE_cons] at h2
    omega

theorem ownsRow_below {w w' : World} {base : Nat} {e : TypeId} {size : Nat} {v : Value} {n : Nat} {xs : List Value} (h : w.ownsRow base e size v n xs) (hb : Below w.heap.size w w') : w'.ownsRow base e size v n xs :=
  h.kept (row := none) ⟨hb.os, hb.tape, hb.output, hb.size, fun k hk _ => hb.block k hk⟩ (by cases v.ownBlock <;> simp)
theorem recC_at (w : World) (r : M.Rec) (t : TypeId) : ∀ j u, (recC r)[j]? = some u → (w.alloc (.cells #[.int .i64 r.kind, .int .i64 r.n, .string r.s] t)).cell? ((⟨w.heap.size, 0, none⟩ : Addr).add j) = some u := by
  intro j u h
  match j, h with
  | 0, h => simp [recC] at h; subst h; simp [Addr.add]
  | 1, h => simp [recC] at h; subst h; simp [Addr.add]
  | 2, h => simp [recC] at h; subst h; simp [Addr.add]
  | n + 3, h => simp [recC] at h
theorem recC_one (r : M.Rec) : ∀ u ∈ recC r, u.oneCell' = true := by
  intro u h
  simp [recC] at h
  rcases h with rfl | rfl | rfl <;> rfl

/-- what the reader of records answers -/
def RecsPost (B : Nat) (w w' : World) (t : List UInt8) (la lb : Nat) (e : Ending) : Prop :=
  ∃ ok v L, e = .returned (.tuple #[v, .bool ok]) ∧ Below B w w' ∧ (ok = true → okAll L ∧ t = recsE L ∧ lenA L = la ∧ lenB L = lb ∧ w'.ownsRow B 69 3 v L.length (recsC L)) ∧ (ok = false → v = .slice none 0 0 ∧ NoRecs t la lb)

set_option maxRecDepth 100000 in
set_option maxHeartbeats 1000000 in
theorem readRecords_calls (s : ByteArray) (p la lb sa sb : Nat) (w : World) (hs : s.size ≤ 12352) (hp : p ≤ s.size) (hla : la ≤ 4096) (hlb : lb ≤ 4096) :
    Calls Tryz.prog 123 #[.string s, .int .i64 p, .agg #[.int .i64 la, .int .i64 lb, .int .i64 sa, .int .i64 sb]] w fun e w' => RecsPost w.heap.size w w' (s.data.toList.drop p) la lb e := by
  obtain ⟨i0, hi, hz0, hz1, hz2⟩ := info_parts Tryz.info69
  obtain ⟨B, hB⟩ : ∃ B, B = w.heap.size := ⟨_, rfl⟩
  go_enter Tryz.func123, Tryz.ntmps123
  go_wp2
  go_loopw [1, 8, 9, 10] (fun at' v ra rb wr => ∃ (q : Nat) (L : List M.Rec), p + L.length ≤ q ∧ q ≤ s.size ∧ at' = .int .i64 q ∧ ra = .int .i64 (la - lenA L) ∧ rb = .int .i64 (lb - lenB L) ∧ 0 ≤ (la : Int) - lenA L ∧ 0 ≤ (lb : Int) - lenB L ∧ okAll L ∧ Hid (s.data.toList.drop p = recsE L ++ s.data.toList.drop q) ∧ wr.ownsRow w.heap.size 69 3 v L.length (recsC L) ∧ Below w.heap.size w wr)
    (fun at' _ _ _ _ => s.size - (intOf at').toNat)
  case atStart => exact ⟨p, [], by simp, hp, rfl, by simp [lenA], by simp [lenB], by simp [lenA], by simp [lenB], fun x hx => by simp at hx, by simp [Hid, recsE], World.ownsRow_nil _ _ _ _, (Below.refl _ _).alloc (Nat.le_refl _) _⟩
  case round =>
    obtain ⟨q, L, hpq, hq, rfl, rfl, rfl, hra, hrb, hok, HD, hown, hbel⟩ := hrel
    by_cases hlt : q < s.size
    · match hm : rdRec (s.data.toList.drop q) with
      | none =>
        have HN : Hid (NoRecs (s.data.toList.drop p) la lb) := noRecs_of hok hra hrb (by omega) (by omega) HD.out (noRecs_none (by have := lenA_nn L hok; omega) (by have := lenB_nn L hok; omega) hm (fun h => by have := len_drop s q; rw [h] at this; simp at this; omega))
        have HM : Hid (rdRec (s.data.toList.drop q) = none) := hm
        clear hm
        go_wp2_with fail
        refine (readRecord_none s q _ (by unfold maxLen; omega) hq HM.out).mono ?_
        rintro e w1 ⟨rfl, hb⟩
        unfold noRec
        have hsz := hbel.size
        have hb2 := hbel.trans (hb.mono hsz)
        go_wp2
        go_ret2
        exact ⟨false, _, [], rfl, (hb2.alloc (by have := hb2.size; omega) _), fun h => (by cases h), fun _ => ⟨rfl, HN.out⟩⟩
      | some (r, t) =>
        obtain ⟨q', hqq, hq', rfl⟩ := rdRec_at s q r t hq hm
        have HM : Hid (rdRec (s.data.toList.drop q) = some (r, s.data.toList.drop q')) := hm
        have hokr := (rdRec_inv _ _ _ hm).1
        have HD2 : Hid (s.data.toList.drop p = recsE (L ++ [r]) ++ s.data.toList.drop q') := by
          show s.data.toList.drop p = _
          rw [HD.out, (rdRec_inv _ _ _ hm).2, recsE_append]; simp [recsE]
        clear hm
        have hnn := inA_nn r hokr
        have hnb := inB_nn r hokr
        by_cases hg : ((la : Int) - lenA L < inA r) ∨ ((lb : Int) - lenB L < inB r)
        · have HN : Hid (NoRecs (s.data.toList.drop p) la lb) := noRecs_of hok hra hrb (by omega) (by omega) HD.out (noRecs_big (by have := lenA_nn L hok; omega) (by have := lenB_nn L hok; omega) HM.out (fun h => by have := len_drop s q; rw [h] at this; simp at this; omega) hg)
          go_wp2_with fail
          refine (readRecord_some s q q' r _ (by unfold maxLen; omega) hq hq' HM.out).mono ?_
          rintro e w1 ⟨rfl, hb⟩
          unfold someRec
          have hsz := hbel.size
          have hb2 := hbel.trans (hb.mono hsz)
          clear hb
          go_wp2_with fail
          refine (spans_calls r _).mono ?_
          rintro e w2 ⟨rfl, hb⟩
          have hb3 := (hb2.alloc (by have := hb2.size; omega) _).trans (hb.mono (by have := hb2.size; simp; omega))
          clear hb
          go_wp2
          all_goals go_ret2
          all_goals exact ⟨false, _, [], rfl, hb3, fun h => (by cases h), fun _ => ⟨rfl, HN.out⟩⟩
        · have hg1 : inA r ≤ (la : Int) - lenA L := by omega
          have hg2 : inB r ≤ (lb : Int) - lenB L := by omega
          have hl0 := lenA_nn L hok
          have hl1 := lenB_nn L hok
          clear hg
          go_wp2_with fail
          refine (readRecord_some s q q' r _ (by unfold maxLen; omega) hq hq' HM.out).mono ?_
          rintro e w1 ⟨rfl, hb⟩
          unfold someRec
          have hsz := hbel.size
          have hown1 := ownsRow_below hown hb
          have hb2 := hbel.trans (hb.mono hsz)
          have hsz1 := hb2.size
          clear hb hown hbel
          go_wp2_with fail
          refine (spans_calls r _).mono ?_
          rintro e w2 ⟨rfl, hb⟩
          have hown2 := ownsRow_below (hown1.alloc _) hb
          have hb3 := (hb2.alloc (by have := hb2.size; omega) _).trans (hb.mono (by have := hb2.size; simp; omega))
          have c0 : w2.cell? ⟨w1.heap.size, 0, none⟩ = some (.int .i64 r.kind) := by rw [(bcell hb).1 _ _ (by simp)]; simp [go_sem]
          have c1 : w2.cell? ⟨w1.heap.size, 1, none⟩ = some (.int .i64 r.n) := by rw [(bcell hb).1 _ _ (by simp)]; simp [go_sem]
          have c2 : w2.cell? ⟨w1.heap.size, 2, none⟩ = some (.string r.s) := by rw [(bcell hb).1 _ _ (by simp)]; simp [go_sem]
          have hsz2 := hb3.size
          clear hb hown1 hb2
          go_wp2_with (first
            | (at_builtin; refine wpList_append_own _ rfl _ _ 46 rfl w.heap.size 69 i0 (.agg #[.int .i64 0, .int .i64 0, .string ⟨#[]⟩]) 3 32 Tryz.underlying46 hi hz0 hz1 hz2 rfl (by decide) _ _ _ rfl (hown2.alloc _) ⟨w2.heap.size, 0, none⟩ 1 1 (recC r) rfl rfl ?k1 ?k2 ?k3 ?k4 ?k5 ?_)
            | go_in)
          case k1 => exact recC_at w2 r _
          case k2 => exact recC_one r
          case k3 => unfold maxLen; omega
          case k4 => omega
          case k5 => simp; omega
          intro v' w3 hown3 hgrow _
          have hb4 : Below w.heap.size w w3 := (hb3.alloc hsz2 _).grown hgrow (by simp; omega) (fun k hk => (hown2.lt k hk).1)
          rw [← recsC_snoc] at hown3
          clear hgrow hown2 c0 c1 c2 hb3
          go_wp2
          go_roundw
          case rel => exact ⟨q', L ++ [r], by simp; omega, hq', rfl, by rw [lenA_append]; simp [lenA]; omega, by rw [lenB_append]; simp [lenB]; omega, by rw [lenA_append]; simp [lenA]; omega, by rw [lenB_append]; simp [lenB]; omega, okAll_append hok (fun x hx => by simp at hx; rw [hx]; exact hokr), HD2.out, by simpa using hown3, hb4⟩
          case measure => simp [intOf]; omega
    · have hqs : q = s.size := by omega
      have hl0 := lenA_nn L hok
      have hl1 := lenB_nn L hok
      have HE : Hid (s.data.toList.drop q = []) := by
        show s.data.toList.drop q = []
        rw [List.drop_of_length_le (by rw [ba_len]; omega)]
      by_cases hg : 0 < (la : Int) - lenA L ∨ 0 < (lb : Int) - lenB L
      · have HN : Hid (NoRecs (s.data.toList.drop p) la lb) := noRecs_of hok hra hrb (by omega) (by omega) HD.out (by rw [HE.out]; exact noRecs_end hg)
        clear hqs
        go_wp2
        all_goals go_ret2
        all_goals exact ⟨false, _, [], rfl, hbel, fun h => (by cases h), fun _ => ⟨rfl, HN.out⟩⟩
      · have hg1 : (la : Int) - lenA L ≤ 0 := by omega
        have hg2 : (lb : Int) - lenB L ≤ 0 := by omega
        have HD3 : Hid (s.data.toList.drop p = recsE L) := by
          show s.data.toList.drop p = _
          rw [HD.out, HE.out, List.append_nil]
        clear hqs hg
        go_wp2
        all_goals go_ret2
        all_goals exact ⟨true, _, L, rfl, hbel, fun _ => ⟨hok, HD3.out, by omega, by omega, hown⟩, fun h => (by cases h)⟩
end Go.Proofs.YtlppphmnegdhoabGreatDoor

namespace Go.Proofs.YtlppphmnegdhoabGreatDoor
set_option linter.unusedVariables false
open Go.RowKit
open M

/-- the bytes of a head, and what is behind them -/
structure Heads (l : List UInt8) (la lb sa sb : Nat) (t : List UInt8) : Prop where
  eq : l = 82 :: 84 :: (numE la ++ (numE lb ++ (twoE sa ++ (twoE sb ++ t))))
  la : la ≤ 4096
  lb : lb ≤ 4096
  sa : sa < 65536
  sb : sb < 65536
def NoHead (l : List UInt8) : Prop := ∀ la lb sa sb t, Heads l la lb sa sb t → False
theorem Heads.rd {l : List UInt8} {la lb sa sb : Nat} {t : List UInt8} (h : Heads l la lb sa sb t) {l1 : List UInt8} (h1 : l = 82 :: 84 :: l1) :
    rdNum l1 = some (la, numE lb ++ (twoE sa ++ (twoE sb ++ t))) ∧ rdNum (numE lb ++ (twoE sa ++ (twoE sb ++ t))) = some (lb, twoE sa ++ (twoE sb ++ t)) ∧ rdTwo (twoE sa ++ (twoE sb ++ t)) = some (sa, twoE sb ++ t) ∧ rdTwo (twoE sb ++ t) = some (sb, t) := by
  have e := h.eq
  rw [h1] at e
  simp only [List.cons.injEq, true_and] at e
  have := h.la
  have := h.lb
  exact ⟨by rw [e]; exact rdNum_numE _ _ (by omega), rdNum_numE _ _ (by omega), rdTwo_twoE _ _ h.sa, rdTwo_twoE _ _ h.sb⟩
/-- a text whose first two bytes are these -/
theorem magic_iff (s : ByteArray) (h : 2 ≤ s.size) : ((s.extract 0 2).toList == [82, 84]) = true ↔ s.data.toList = 82 :: 84 :: s.data.toList.drop 2 := by
  rw [ByteArray.toList_eq, Lib.extract_data, beq_iff_eq]
  have h0 : 0 < s.size := by omega
  have h1 : 1 < s.size := by omega
  have e0 := get_drop s 0 h0
  have e1 := get_drop s 1 h1
  rw [List.drop_zero] at *
  rw [e1] at e0
  constructor
  · intro h
    rw [e0] at h
    simp at h
    rw [h.1, h.2] at e0
    exact e0
  · intro h
    rw [h]; rfl
theorem magic_no (s : ByteArray) (h : 2 ≤ s.size) (hm : ((s.extract 0 2).toList == [82, 84]) = false) : NoHead s.data.toList := by
  intro la lb sa sb t hh
  have := (magic_iff s h).2 (by rw [hh.eq]; rfl)
  rw [hm] at this
  cases this
theorem short_no (s : ByteArray) (h : s.size < 2) : NoHead s.data.toList := by
  intro la lb sa sb t hh
  have h1 := ba_len s
  rw [hh.eq] at h1
  simp at h1
  omega

def noHead : Value := .tuple #[.agg #[.int .i64 0, .int .i64 0, .int .i64 0, .int .i64 0], .int .i64 0, .bool false]
def HeadPost (s : ByteArray) (w w' : World) (e : Ending) : Prop :=
  (e = .returned noHead ∧ NoHead s.data.toList ∧ Below w.heap.size w w') ∨
  ∃ la lb sa sb q : Nat, e = .returned (.tuple #[.agg #[.int .i64 la, .int .i64 lb, .int .i64 sa, .int .i64 sb], .int .i64 q, .bool true]) ∧ q ≤ s.size ∧ Heads s.data.toList la lb sa sb (s.data.toList.drop q) ∧ Below w.heap.size w w'

set_option maxRecDepth 100000 in
set_option maxHeartbeats 1000000 in
theorem readHead_calls (s : ByteArray) (w : World) (hs : s.size ≤ 12352) :
    Calls Tryz.prog 122 #[.string s] w fun e w' => HeadPost s w w' e := by
  have hsm : s.size ≤ maxLen := by unfold maxLen; omega
  by_cases h2 : 2 ≤ s.size
  · cases hm : ((s.extract 0 2).toList == [82, 84])
    · have HN : Hid (NoHead s.data.toList) := magic_no s h2 hm
      go_enter Tryz.func122, Tryz.ntmps122
      go_wp2
      exact bodyPost_ret (v := noHead) (by simp [results, Tryz.results122, go_sem, noHead]) rfl (.inl ⟨rfl, HN.out, (Below.refl _ _).alloc (Nat.le_refl _) _⟩)
    · have HE : Hid (s.data.toList = 82 :: 84 :: s.data.toList.drop 2) := (magic_iff s h2).1 hm
      by_cases hA : ∃ la l, rdNum (s.data.toList.drop 2) = some (la, l) ∧ la ≤ 4096
      · obtain ⟨la, l1, hA, hla⟩ := hA
        obtain ⟨q1, hq1, hq1s, rfl, _⟩ := rdNum_at s 2 la l1 h2 hA
        have HA : Hid (rdNum (s.data.toList.drop 2) = some (la, s.data.toList.drop q1)) := hA
        have EA : Hid (s.data.toList.drop 2 = numE la ++ s.data.toList.drop q1) := (rdNum_inv _ _ _ hA).1
        clear hA
        by_cases hB : ∃ lb l, rdNum (s.data.toList.drop q1) = some (lb, l) ∧ lb ≤ 4096
        · obtain ⟨lb, l2, hB, hlb⟩ := hB
          obtain ⟨q2, hq2, hq2s, rfl, _⟩ := rdNum_at s q1 lb l2 hq1s hB
          have HB : Hid (rdNum (s.data.toList.drop q1) = some (lb, s.data.toList.drop q2)) := hB
          have EB : Hid (s.data.toList.drop q1 = numE lb ++ s.data.toList.drop q2) := (rdNum_inv _ _ _ hB).1
          clear hB
          rcases rdTwo_len s q2 with ⟨sa, hC, hq3, hsa⟩ | ⟨hC, hq3⟩
          · have HC : Hid (rdTwo (s.data.toList.drop q2) = some (sa, s.data.toList.drop (q2 + 2))) := hC
            have EC : Hid (s.data.toList.drop q2 = twoE sa ++ s.data.toList.drop (q2 + 2)) := (rdTwo_inv _ _ _ hC).1
            clear hC
            rcases rdTwo_len s (q2 + 2) with ⟨sb, hD, hq4, hsb⟩ | ⟨hD, hq4⟩
            · have HD : Hid (rdTwo (s.data.toList.drop (q2 + 2)) = some (sb, s.data.toList.drop (q2 + 2 + 2))) := hD
              have ED : Hid (s.data.toList.drop (q2 + 2) = twoE sb ++ s.data.toList.drop (q2 + 2 + 2)) := (rdTwo_inv _ _ _ hD).1
              clear hD
              have HY : Hid (Heads s.data.toList la lb sa sb (s.data.toList.drop (q2 + 2 + 2))) :=
                ⟨by rw [← ED.out, ← EC.out, ← EB.out, ← EA.out]; exact HE.out, hla, hlb, hsa, hsb⟩
              go_enter Tryz.func122, Tryz.ntmps122
              go_wp2_with fail
              refine (readLength_yes s 2 la q1 _ hsm h2 hq1s HA.out hla).mono ?_
              rintro e w' ⟨rfl, rfl⟩
              go_wp2_with fail
              refine (readLength_yes s q1 lb q2 _ hsm hq1s hq2s HB.out hlb).mono ?_
              rintro e w' ⟨rfl, rfl⟩
              go_wp2_with fail
              refine (readTwo_yes s q2 sa _ hsm hq3 HC.out).mono ?_
              rintro e w' ⟨rfl, rfl⟩
              go_wp2_with fail
              refine (readTwo_yes s (q2 + 2) sb _ hsm hq4 HD.out).mono ?_
              rintro e w' ⟨rfl, rfl⟩
              go_wp2
              refine bodyPost_ret (v := .tuple #[.agg #[.int .i64 la, .int .i64 lb, .int .i64 sa, .int .i64 sb], .int .i64 (q2 + 2 + 2 : Nat), .bool true]) (by simp [results, Tryz.results122, go_sem]) rfl (.inr ⟨la, lb, sa, sb, q2 + 2 + 2, rfl, hq4, HY.out, ?_⟩)
              exact ((Below.refl _ _).alloc (Nat.le_refl _) _).drew.drew
            · have HN : Hid (NoHead s.data.toList) := fun la' lb' sa' sb' t hh => by
                obtain ⟨r1, r2, r3, r4⟩ := hh.rd HE.out
                rw [HA.out] at r1; simp only [Option.some.injEq, Prod.mk.injEq] at r1
                rw [← r1.2, HB.out] at r2; simp only [Option.some.injEq, Prod.mk.injEq] at r2
                rw [← r2.2, HC.out] at r3; simp only [Option.some.injEq, Prod.mk.injEq] at r3
                rw [← r3.2, hD] at r4; cases r4
              clear hD
              go_enter Tryz.func122, Tryz.ntmps122
              go_wp2_with fail
              refine (readLength_yes s 2 la q1 _ hsm h2 hq1s HA.out hla).mono ?_
              rintro e w' ⟨rfl, rfl⟩
              go_wp2_with fail
              refine (readLength_yes s q1 lb q2 _ hsm hq1s hq2s HB.out hlb).mono ?_
              rintro e w' ⟨rfl, rfl⟩
              go_wp2_with fail
              refine (readTwo_yes s q2 sa _ hsm hq3 HC.out).mono ?_
              rintro e w' ⟨rfl, rfl⟩
              go_wp2_with fail
              refine (readTwo_no s (q2 + 2) _ hsm hq3 hq4).mono ?_
              rintro e w' ⟨rfl, rfl⟩
              go_wp2
              exact bodyPost_ret (v := noHead) (by simp [results, Tryz.results122, go_sem, noHead]) rfl (.inl ⟨rfl, HN.out, ((Below.refl _ _).alloc (Nat.le_refl _) _).drew⟩)
          · have HN : Hid (NoHead s.data.toList) := fun la' lb' sa' sb' t hh => by
              obtain ⟨r1, r2, r3, r4⟩ := hh.rd HE.out
              rw [HA.out] at r1; simp only [Option.some.injEq, Prod.mk.injEq] at r1
              rw [← r1.2, HB.out] at r2; simp only [Option.some.injEq, Prod.mk.injEq] at r2
              rw [← r2.2, hC] at r3; cases r3
            clear hC
            go_enter Tryz.func122, Tryz.ntmps122
            go_wp2_with fail
            refine (readLength_yes s 2 la q1 _ hsm h2 hq1s HA.out hla).mono ?_
            rintro e w' ⟨rfl, rfl⟩
            go_wp2_with fail
            refine (readLength_yes s q1 lb q2 _ hsm hq1s hq2s HB.out hlb).mono ?_
            rintro e w' ⟨rfl, rfl⟩
            go_wp2_with fail
            refine (readTwo_no s q2 _ hsm hq2s hq3).mono ?_
            rintro e w' ⟨rfl, rfl⟩
            go_wp2
            exact bodyPost_ret (v := noHead) (by simp [results, Tryz.results122, go_sem, noHead]) rfl (.inl ⟨rfl, HN.out, (Below.refl _ _).alloc (Nat.le_refl _) _⟩)
        · have HN : Hid (NoHead s.data.toList) := fun la' lb' sa' sb' t hh => by
            obtain ⟨r1, r2, r3, r4⟩ := hh.rd HE.out
            rw [HA.out] at r1; simp only [Option.some.injEq, Prod.mk.injEq] at r1
            rw [← r1.2] at r2
            exact hB ⟨lb', _, r2, hh.lb⟩
          have HB : Hid (∀ m r, rdNum (s.data.toList.drop q1) = some (m, r) → 4096 < m) := fun m r h => by
            rcases Nat.lt_or_ge 4096 m with h3 | h3
            · exact h3
            · exact absurd ⟨m, r, h, h3⟩ hB
          clear hB
          go_enter Tryz.func122, Tryz.ntmps122
          go_wp2_with fail
          refine (readLength_yes s 2 la q1 _ hsm h2 hq1s HA.out hla).mono ?_
          rintro e w' ⟨rfl, rfl⟩
          go_wp2_with fail
          refine (readLength_no s q1 _ hsm hq1s HB.out).mono ?_
          rintro e w' ⟨rfl, rfl⟩
          go_wp2
          exact bodyPost_ret (v := noHead) (by simp [results, Tryz.results122, go_sem, noHead]) rfl (.inl ⟨rfl, HN.out, (Below.refl _ _).alloc (Nat.le_refl _) _⟩)
      · have HN : Hid (NoHead s.data.toList) := fun la lb sa sb t hh => hA ⟨la, _, (hh.rd HE.out).1, hh.la⟩
        have HA : Hid (∀ m r, rdNum (s.data.toList.drop 2) = some (m, r) → 4096 < m) := fun m r h => by
          rcases Nat.lt_or_ge 4096 m with h3 | h3
          · exact h3
          · exact absurd ⟨m, r, h, h3⟩ hA
        clear hA
        go_enter Tryz.func122, Tryz.ntmps122
        go_wp2_with fail
        refine (readLength_no s 2 _ hsm h2 HA.out).mono ?_
        rintro e w' ⟨rfl, rfl⟩
        go_wp2
        exact bodyPost_ret (v := noHead) (by simp [results, Tryz.results122, go_sem, noHead]) rfl (.inl ⟨rfl, HN.out, (Below.refl _ _).alloc (Nat.le_refl _) _⟩)
  · have HN : Hid (NoHead s.data.toList) := short_no s (by omega)
    have h3 : (s.size : Int) < 2 := by omega
    go_enter Tryz.func122, Tryz.ntmps122
    go_wp2
    exact bodyPost_ret (v := noHead) (by simp [results, Tryz.results122, go_sem, noHead]) rfl (.inl ⟨rfl, HN.out, (Below.refl _ _).alloc (Nat.le_refl _) _⟩)

/-- is the sum at a text's end right? -/
def UnsealPost (j : ByteArray) (w w' : World) (e : Ending) : Prop :=
  (e = .returned (.tuple #[.string ⟨#[]⟩, .bool false]) ∧ (∀ b, j.data.toList = b ++ twoE (sum b) → False) ∧ Below w.heap.size w w') ∨
  ∃ b : ByteArray, e = .returned (.tuple #[.string b, .bool true]) ∧ b.size ≤ j.size ∧ j.data.toList = b.data.toList ++ twoE (sum b.data.toList) ∧ Below w.heap.size w w'

theorem seal_cut (j : ByteArray) (b : List UInt8) (h : j.data.toList = b ++ twoE (sum b)) : 2 ≤ j.size ∧ b = (j.extract 0 (j.size - 2)).data.toList ∧ rdTwo (j.data.toList.drop (j.size - 2)) = some (sum b, j.data.toList.drop (j.size - 2 + 2)) := by
  have hl := ba_len j
  have hb : b.length + 2 = j.size := by rw [← hl, h]; simp [twoE]
  have e : j.size - 2 = b.length := by omega
  refine ⟨by omega, ?_, ?_⟩
  · rw [Lib.extract_data, h, e]; simp
  · have h0 : j.data.toList.drop (j.size - 2 + 2) = [] := List.drop_of_length_le (by omega)
    rw [h0, h, e, List.drop_left]
    have := rdTwo_twoE (sum b) [] (sum_lt b)
    rwa [List.append_nil] at this

set_option maxRecDepth 100000 in
set_option maxHeartbeats 1000000 in
theorem unsealed_calls (j : ByteArray) (w : World) (hs : j.size ≤ 12352) :
    Calls Tryz.prog 121 #[.string j] w fun e w' => UnsealPost j w w' e := by
  have hsm : j.size ≤ maxLen := by unfold maxLen; omega
  by_cases h2 : 2 ≤ j.size
  · rcases rdTwo_len j (j.size - 2) with ⟨v, hv, hv2, hv3⟩ | ⟨hv, hv2⟩
    · have HV : Hid (rdTwo (j.data.toList.drop (j.size - 2)) = some (v, j.data.toList.drop (j.size - 2 + 2))) := hv
      clear hv
      obtain ⟨p, hp⟩ : ∃ p, p = j.size - 2 := ⟨_, rfl⟩
      have hp2 : p + 2 = j.size := by omega
      rw [← hp] at HV hv2
      clear hp
      have hx : (j.extract 0 p).size ≤ maxLen := by rw [ByteArray.size_extract]; omega
      have hps : ((j.size : Int) - 2) = (p : Int) := by omega
      have hl := sum_lt (j.extract 0 p).data.toList
      by_cases hq : v = sum (j.extract 0 p).data.toList
      · have hq1 : ((v : Int) == ((sum (j.extract 0 p).data.toList : Nat) : Int)) = true := by rw [beq_iff_eq]; omega
        have HY : Hid (j.data.toList = (j.extract 0 p).data.toList ++ twoE (sum (j.extract 0 p).data.toList)) := by
          show j.data.toList = _
          have e := (rdTwo_inv _ _ _ HV.out).1
          have h0 : j.data.toList.drop (p + 2) = [] := List.drop_of_length_le (by rw [ba_len]; omega)
          rw [h0, List.append_nil] at e
          rw [← hq, ← e, Lib.extract_data]; simp
        have HZ : Hid ((j.extract 0 p).size ≤ j.size) := by
          show _ ≤ _
          rw [ByteArray.size_extract]; omega
        generalize hbd : sum (j.extract 0 p).data.toList = sm at *
        have HB : Hid (sum (j.extract 0 p).data.toList = sm) := hbd
        clear hbd hq
        go_enter Tryz.func121, Tryz.ntmps121
        go_wp2_with fail
        refine (readTwo_yes j p v _ hsm hv2 HV.out).mono ?_
        rintro e w' ⟨rfl, rfl⟩
        go_wp2_with fail
        refine (sum_calls (j.extract 0 p) _ hx).mono ?_
        rintro e w' ⟨rfl, rfl⟩
        rw [HB.out]
        go_wp2
        go_ret2
        exact .inr ⟨_, rfl, HZ.out, by rw [HB.out]; exact HY.out, (Below.refl _ _).drew⟩
      · have hq1 : ((v : Int) == ((sum (j.extract 0 p).data.toList : Nat) : Int)) = false := by rw [beq_eq_false_iff_ne]; omega
        have HN : Hid (∀ b, j.data.toList = b ++ twoE (sum b) → False) := fun b hb => by
          obtain ⟨_, h4, h5⟩ := seal_cut j b hb
          have e : j.size - 2 = p := by omega
          rw [e] at h4 h5
          rw [HV.out] at h5
          simp only [Option.some.injEq, Prod.mk.injEq] at h5
          rw [h4] at h5
          exact hq h5.1
        generalize hbd : sum (j.extract 0 p).data.toList = sm at *
        have HB : Hid (sum (j.extract 0 p).data.toList = sm) := hbd
        clear hbd hq
        go_enter Tryz.func121, Tryz.ntmps121
        go_wp2_with fail
        refine (readTwo_yes j p v _ hsm hv2 HV.out).mono ?_
        rintro e w' ⟨rfl, rfl⟩
        go_wp2_with fail
        refine (sum_calls (j.extract 0 p) _ hx).mono ?_
        rintro e w' ⟨rfl, rfl⟩
        rw [HB.out]
        go_wp2
        go_ret2
        exact .inl ⟨rfl, HN.out, (Below.refl _ _).drew⟩
    · omega
  · have HN : Hid (∀ b, j.data.toList = b ++ twoE (sum b) → False) := fun b hb => h2 (seal_cut j b hb).1
    have h3 : (j.size : Int) - 2 < 0 := by omega
    go_enter Tryz.func121, Tryz.ntmps121
    go_wp2
    go_ret2
    exact .inl ⟨rfl, HN.out, Below.refl _ _⟩

def noJn : Value := .tuple #[.agg #[.int .i64 0, .int .i64 0, .int .i64 0, .int .i64 0], .slice none 0 0, .bool false]
/-- what the reader of a journal answers -/
def ReadPost (s : ByteArray) (w w' : World) (e : Ending) : Prop :=
  (e = .returned noJn ∧ (∀ j, Tells s.data.toList j → False) ∧ Below w.heap.size w w') ∨
  ∃ (j : Jn) (v : Value), e = .returned (.tuple #[.agg #[.int .i64 j.la, .int .i64 j.lb, .int .i64 j.sa, .int .i64 j.sb], v, .bool true]) ∧ Tells s.data.toList j ∧ w'.ownsRow w.heap.size 69 3 v j.l.length (recsC j.l) ∧ Below w.heap.size w w'

theorem tells_parts {s : List UInt8} {j : Jn} (h : Tells s j) : s = bodyE j ++ twoE (sum (bodyE j)) ∧ Heads (bodyE j) j.la j.lb j.sa j.sb (recsE j.l) := by
  refine ⟨h.2.symm, ⟨?_, h.1.la, h.1.lb, h.1.sa, h.1.sb⟩⟩
  simp [bodyE, headE]
theorem tells_body {s b : List UInt8} {j : Jn} (hs : s = b ++ twoE (sum b)) (h : Tells s j) : b = bodyE j := by
  have h2 := (tells_parts h).1
  rw [hs] at h2
  exact (List.append_inj' h2 (by simp [twoE])).1
theorem heads_same {l : List UInt8} {la lb sa sb la' lb' sa' sb' : Nat} {t t' : List UInt8} (h : Heads l la lb sa sb t) (h' : Heads l la' lb' sa' sb' t') : la = la' ∧ lb = lb' ∧ sa = sa' ∧ sb = sb' ∧ t = t' := by
  obtain ⟨r1, r2, r3, r4⟩ := h.rd (l1 := numE la ++ (numE lb ++ (twoE sa ++ (twoE sb ++ t)))) h.eq
  obtain ⟨q1, q2, q3, q4⟩ := h'.rd (l1 := numE la ++ (numE lb ++ (twoE sa ++ (twoE sb ++ t)))) h.eq
  rw [r1] at q1; simp only [Option.some.injEq, Prod.mk.injEq] at q1
  rw [← q1.2, r2] at q2; simp only [Option.some.injEq, Prod.mk.injEq] at q2
  rw [← q2.2, r3] at q3; simp only [Option.some.injEq, Prod.mk.injEq] at q3
  rw [← q3.2, r4] at q4; simp only [Option.some.injEq, Prod.mk.injEq] at q4
  exact ⟨q1.1, q2.1, q3.1, q4.1, q4.2⟩

theorem ownsRow_base {w : World} {base base' : Nat} {e : TypeId} {size : Nat} {v : Value} {n : Nat} {xs : List Value} (h : w.ownsRow base e size v n xs) (hb : base' ≤ base) : w.ownsRow base' e size v n xs := by
  obtain ⟨h1, h2 | ⟨g, cap, cur, h3, h4, h5⟩⟩ := h
  · exact ⟨h1, .inl h2⟩
  · exact ⟨h1, .inr ⟨g, cap, cur, h3, by omega, h5⟩⟩

set_option maxRecDepth 100000 in
set_option maxHeartbeats 1000000 in
theorem read_calls (s : ByteArray) (w : World) (hs : s.size ≤ 12352) :
    Calls Tryz.prog 82 #[.string s] w fun e w' => ReadPost s w w' e := by
  go_enter Tryz.func82, Tryz.ntmps82
  go_wp2_with fail
  refine (unsealed_calls s _ hs).mono ?_
  rintro e w1 (⟨rfl, hno, hb⟩ | ⟨b, rfl, hbs, hb1, hb⟩)
  · have hb2 := ((Below.refl w.heap.size _).alloc (Nat.le_refl _) _).trans (hb.mono (by simp))
    have s0 : w1.cell? ⟨w.heap.size, 0, none⟩ = some (.int .i64 0) := by rw [(bcell hb).1 _ _ (by simp)]; simp [go_sem]
    have s1 : w1.cell? ⟨w.heap.size, 1, none⟩ = some (.int .i64 0) := by rw [(bcell hb).1 _ _ (by simp)]; simp [go_sem]
    have s2 : w1.cell? ⟨w.heap.size, 2, none⟩ = some (.int .i64 0) := by rw [(bcell hb).1 _ _ (by simp)]; simp [go_sem]
    have s3 : w1.cell? ⟨w.heap.size, 3, none⟩ = some (.int .i64 0) := by rw [(bcell hb).1 _ _ (by simp)]; simp [go_sem]
    have hf := (bcell hb).2
    have HN : Hid (∀ j, Tells s.data.toList j → False) := fun j hj => hno _ (tells_parts hj).1
    clear hb hno
    go_wp2
    refine bodyPost_ret (v := noJn) (by simp [results, Tryz.results82, go_sem, noJn, s0, s1, s2, s3]) rfl (.inl ⟨rfl, HN.out, ?_⟩)
    first | exact hb2 | exact (((hb2.setCell (by simp) _).setCell (by simp) _).setCell (by simp) _).setCell (by simp) _
  · have hb2 := ((Below.refl w.heap.size _).alloc (Nat.le_refl _) _).trans (hb.mono (by simp))
    have s0 : w1.cell? ⟨w.heap.size, 0, none⟩ = some (.int .i64 0) := by rw [(bcell hb).1 _ _ (by simp)]; simp [go_sem]
    have s1 : w1.cell? ⟨w.heap.size, 1, none⟩ = some (.int .i64 0) := by rw [(bcell hb).1 _ _ (by simp)]; simp [go_sem]
    have s2 : w1.cell? ⟨w.heap.size, 2, none⟩ = some (.int .i64 0) := by rw [(bcell hb).1 _ _ (by simp)]; simp [go_sem]
    have s3 : w1.cell? ⟨w.heap.size, 3, none⟩ = some (.int .i64 0) := by rw [(bcell hb).1 _ _ (by simp)]; simp [go_sem]
    have hz1 : w.heap.size < w1.heap.size := by have := hb.size; simp at this; omega
    have f0 : w1.frozen? ⟨w.heap.size, 0, none⟩ = false := by rw [(bcell hb).2 _ _ (by simp)]; simp [go_sem]
    have f1 : w1.frozen? ⟨w.heap.size, 1, none⟩ = false := by rw [(bcell hb).2 _ _ (by simp)]; simp [go_sem]
    have f2 : w1.frozen? ⟨w.heap.size, 2, none⟩ = false := by rw [(bcell hb).2 _ _ (by simp)]; simp [go_sem]
    have f3 : w1.frozen? ⟨w.heap.size, 3, none⟩ = false := by rw [(bcell hb).2 _ _ (by simp)]; simp [go_sem]
    have HB : Hid (s.data.toList = b.data.toList ++ twoE (sum b.data.toList)) := hb1
    clear hb hb1
    go_wp2_with fail
    refine (readHead_calls b _ (by omega)).mono ?_
    rintro e w2 (⟨rfl, hno, hb⟩ | ⟨la, lb, sa, sb, q, rfl, hq, hhd, hb⟩)
    · have hb3 := hb2.trans (hb.mono (by omega))
      have t0 := ((bcell hb).1 _ 0 hz1).trans s0
      have t1 := ((bcell hb).1 _ 1 hz1).trans s1
      have t2 := ((bcell hb).1 _ 2 hz1).trans s2
      have t3 := ((bcell hb).1 _ 3 hz1).trans s3
      have g0 := ((bcell hb).2 _ 0 hz1).trans f0
      have g1 := ((bcell hb).2 _ 1 hz1).trans f1
      have g2 := ((bcell hb).2 _ 2 hz1).trans f2
      have g3 := ((bcell hb).2 _ 3 hz1).trans f3
      have hz2 : w.heap.size < w2.heap.size := by have := hb.size; omega
      have HN : Hid (∀ j, Tells s.data.toList j → False) := fun j hj => by
        have h := (tells_parts hj).2
        rw [← tells_body HB.out hj] at h
        exact hno _ _ _ _ _ h
      clear hb hno hb2 s0 s1 s2 s3 f0 f1 f2 f3
      unfold noHead
      go_wp2
      refine bodyPost_ret (v := noJn) (by simp [results, Tryz.results82, go_sem, noJn, t0, t1, t2, t3, hz2]) rfl (.inl ⟨rfl, HN.out, ?_⟩)
      exact ((((hb3.setCell (by simp) _).setCell (by simp) _).setCell (by simp) _).setCell (by simp) _).alloc (by simp; omega) _
    · have hb3 := hb2.trans (hb.mono (by omega))
      have t0 := ((bcell hb).1 _ 0 hz1).trans s0
      have t1 := ((bcell hb).1 _ 1 hz1).trans s1
      have t2 := ((bcell hb).1 _ 2 hz1).trans s2
      have t3 := ((bcell hb).1 _ 3 hz1).trans s3
      have g0 := ((bcell hb).2 _ 0 hz1).trans f0
      have g1 := ((bcell hb).2 _ 1 hz1).trans f1
      have g2 := ((bcell hb).2 _ 2 hz1).trans f2
      have g3 := ((bcell hb).2 _ 3 hz1).trans f3
      have hz2 : w.heap.size < w2.heap.size := by have := hb.size; omega
      have HH : Hid (Heads b.data.toList la lb sa sb (b.data.toList.drop q)) := hhd
      clear hb hb2 hhd s0 s1 s2 s3 f0 f1 f2 f3
      go_wp2_with fail
      refine (readRecords_calls b q la lb sa sb _ (by omega) hq HH.out.la HH.out.lb).mono ?_
      rintro e w3 ⟨ok, v, L, rfl, hb, hyes, hno⟩
      have hz3 : w.heap.size < (w2.alloc (Obj.cells #[.int .i64 la, .int .i64 lb, .int .i64 sa, .int .i64 sb] 126)).heap.size := by simp; omega
      have hb4 := (hb3.alloc (by omega) _).trans (hb.mono (by simp; omega))
      have s0 := ((bcell hb).1 _ 0 hz3).trans (by simpa [go_sem, hz2] using t0)
      have s1 := ((bcell hb).1 _ 1 hz3).trans (by simpa [go_sem, hz2] using t1)
      have s2 := ((bcell hb).1 _ 2 hz3).trans (by simpa [go_sem, hz2] using t2)
      have s3 := ((bcell hb).1 _ 3 hz3).trans (by simpa [go_sem, hz2] using t3)
      have f0 := ((bcell hb).2 _ 0 hz3).trans (by simpa [go_sem, hz2] using g0)
      have f1 := ((bcell hb).2 _ 1 hz3).trans (by simpa [go_sem, hz2] using g1)
      have f2 := ((bcell hb).2 _ 2 hz3).trans (by simpa [go_sem, hz2] using g2)
      have f3 := ((bcell hb).2 _ 3 hz3).trans (by simpa [go_sem, hz2] using g3)
      have c0 : w3.cell? ⟨w2.heap.size, 0, none⟩ = some (.int .i64 la) := by rw [(bcell hb).1 _ _ (by simp)]; simp [go_sem]
      have c1 : w3.cell? ⟨w2.heap.size, 1, none⟩ = some (.int .i64 lb) := by rw [(bcell hb).1 _ _ (by simp)]; simp [go_sem]
      have c2 : w3.cell? ⟨w2.heap.size, 2, none⟩ = some (.int .i64 sa) := by rw [(bcell hb).1 _ _ (by simp)]; simp [go_sem]
      have c3 : w3.cell? ⟨w2.heap.size, 3, none⟩ = some (.int .i64 sb) := by rw [(bcell hb).1 _ _ (by simp)]; simp [go_sem]
      cases ok
      · have HN : Hid (∀ j, Tells s.data.toList j → False) := fun j hj => by
          have h := (tells_parts hj).2
          rw [← tells_body HB.out hj] at h
          obtain ⟨e1, e2, e3, e4, e5⟩ := heads_same HH.out h
          exact (hno rfl).2 j.l hj.1.ok e5 (by rw [hj.1.a, e1]) (by rw [hj.1.b, e2])
        have hv := (hno rfl).1
        clear hyes hno hb
        subst hv
        go_wp2
        refine bodyPost_ret (v := noJn) (by simp [results, Tryz.results82, go_sem, noJn, s0, s1, s2, s3]) rfl (.inl ⟨rfl, HN.out, ?_⟩)
        first | exact hb4 | exact (((hb4.setCell (by simp) _).setCell (by simp) _).setCell (by simp) _).setCell (by simp) _
      · obtain ⟨h1, h2, h3, h4, h5⟩ := hyes rfl
        have HT : Hid (Tells s.data.toList ⟨la, lb, sa, sb, L⟩) := by
          refine ⟨⟨h1, h3, h4, HH.out.la, HH.out.lb, HH.out.sa, HH.out.sb⟩, ?_⟩
          have e : bodyE ⟨la, lb, sa, sb, L⟩ = b.data.toList := by
            have := HH.out.eq
            rw [h2] at this
            rw [this]; simp [bodyE, headE]
          rw [HB.out, ← e]; rfl
        have hown := h5
        clear hyes hno hb h1 h2 h3 h4 h5
        have hown2 := ownsRow_base (base' := w.heap.size + 1) hown (by simp; omega)
        clear hown
        go_wp2
        refine bodyPost_ret (v := .tuple #[.agg #[.int .i64 la, .int .i64 lb, .int .i64 sa, .int .i64 sb], v, .bool true]) (by simp [results, Tryz.results82, go_sem, s0, s1, s2, s3]) rfl (.inr ⟨⟨la, lb, sa, sb, L⟩, v, rfl, HT.out, ?_, ?_⟩)
        · exact ownsRow_base (base := w.heap.size + 1) (ownsRow_setCell_below (ownsRow_setCell_below (ownsRow_setCell_below (ownsRow_setCell_below hown2 (by simp) _) (by simp) _) (by simp) _) (by simp) _) (by omega)
        · exact (((hb4.setCell (by simp) _).setCell (by simp) _).setCell (by simp) _).setCell (by simp) _
end Go.Proofs.YtlppphmnegdhoabGreatDoor

namespace Go.Proofs.YtlppphmnegdhoabGreatDoor
set_option linter.unusedVariables false
open Go.RowKit
open M

theorem ba_append (a b : ByteArray) : (a ++ b).data.toList = a.data.toList ++ b.data.toList := by simp [ByteArray.data_append]
theorem numE_step (x : Nat) (h : 128 ≤ x) (hx : x < 2097152) : numE x = [UInt8.ofNat (128 + x % 128)] ++ numE (x / 128) := by
  unfold numE
  rw [if_neg (by omega)]
  by_cases h2 : x < 16384
  · rw [if_pos h2, if_pos (by omega)]; rfl
  · rw [if_neg h2, if_neg (by omega), if_pos (by omega)]
    have e : x / 16384 = x / 128 / 128 := by omega
    rw [e]; rfl
theorem conv_two (a b : Int) : ∃ t : ByteArray, t.data.toList = [UInt8.ofNat a.toNat, UInt8.ofNat b.toNat] ∧ ∀ u : World, (convert 151 9 (.slice (some ⟨u.heap.size, 0, none⟩) 2 2)).run Tryz.prog (u.alloc (.cells #[.int .u8 a, .int .u8 b] 5)) = .ok (.string t) (u.alloc (.cells #[.int .u8 a, .int .u8 b] 5)) := by
  refine ⟨strOfNums [a, b], rfl, fun u => ?_⟩
  refine run_convert_bytes_arg _ 151 5 Tryz.underlying151 Tryz.underlying5 _ 0 2 2 [a, b] rfl (fun i hi => ?_) 9 Tryz.underlying9
  obtain rfl | rfl : i = 0 ∨ i = 1 := by omega
  · simp
  · simp

set_option maxRecDepth 100000 in
set_option maxHeartbeats 400000 in
theorem two_calls (v : Nat) (w : World) (hv : v < 65536) :
    Calls Tryz.prog 129 #[.int .i64 v] w fun e w' => (∃ t : ByteArray, e = .returned (.string t) ∧ t.data.toList = twoE v) ∧ Below w.heap.size w w' := by
  obtain ⟨t, ht, hr⟩ := conv_two ((v : Int) / 256) ((v : Int) % 256)
  have HT : Hid (t.data.toList = twoE v) := by
    show t.data.toList = twoE v
    have e1 : ((v : Int) / 256).toNat = v / 256 := by omega
    have e2 : ((v : Int) % 256).toNat = v % 256 := by omega
    rw [ht, twoE, e1, e2]
  clear ht
  go_enter Tryz.func129, Tryz.ntmps129
  go_wp2
  go_ret
  exact ⟨⟨t, rfl, HT.out⟩, (Below.refl _ _).alloc (Nat.le_refl _) _⟩

end Go.Proofs.YtlppphmnegdhoabGreatDoor

