/-
  The program's bytes of expressions: Stands, among, escaped, Byte, readMark, readMember.
-/
import Derived.Test.YtlppphmnegdhoaaGp0
import Derived.Test.YtlppphmnegdhoaaDoc1
namespace Go.Proofs.Ytlppphmnegdhoaa
set_option linter.unusedVariables false
set_option maxRecDepth 100000
open Go.RowKit
open M

set_option maxRecDepth 100000 in
theorem stands_calls (s : ByteArray) (k c : Nat) (w : World) (hs : s.size ≤ maxLen) (hk : k ≤ s.size) (hc : c < 256) :
    Calls Try.prog 90 #[.string s, .int .i64 k, .int .u8 c] w fun e w' => e = .returned (.bool (stB (s.data.toList.drop k) c)) ∧ w' = w := by
  unfold maxLen at hs
  have h0 : (0 : Int) ≤ (k : Int) := by omega
  by_cases hlt : k < s.size
  · have hlt1 : (k : Int) < (s.size : Int) := by omega
    obtain ⟨x, hx⟩ : ∃ x : Nat, s[k].toNat = x := ⟨_, rfl⟩
    have hxc : x < 256 := by rw [← hx]; exact s[k].toNat_lt
    have HS : Hid (stB (s.data.toList.drop k) c = (x == c)) := by
      show _ = _
      rw [get_drop s k hlt, ← hx]; rfl
    by_cases h : x = c
    · have h1 : ((x : Int) == (c : Int)) = true := by simp [h]
      have HB : Hid (stB (s.data.toList.drop k) c = true) := by show _ = _; rw [HS.out]; simp [h]
      clear h
      go_enter Try.func90, Try.ntmps90
      go_wp2
      go_ret
      exact ⟨ret_bool (by rw [HB.out]), rfl⟩
    · have h1 : ((x : Int) == (c : Int)) = false := by simp; omega
      have HB : Hid (stB (s.data.toList.drop k) c = false) := by show _ = _; rw [HS.out]; simp [h]
      clear h
      go_enter Try.func90, Try.ntmps90
      go_wp2
      go_ret
      exact ⟨ret_bool (by rw [HB.out]), rfl⟩
  · have hlt1 : ¬ (k : Int) < (s.size : Int) := by omega
    have HB : Hid (stB (s.data.toList.drop k) c = false) := by
      show _ = _
      rw [List.drop_of_length_le (by rw [ba_len]; omega)]; rfl
    go_enter Try.func90, Try.ntmps90
    go_wp2
    go_ret
    exact ⟨ret_bool (by rw [HB.out]), rfl⟩

def inB (c : Nat) (l : List UInt8) : Bool := l.any (fun d => d.toNat == c)
set_option maxRecDepth 100000 in
theorem among_calls (c : Nat) (s : ByteArray) (w : World) (hs : s.size ≤ maxLen) (hcc : c < 256) :
    Calls Try.prog 115 #[.int .u8 c, .string s] w fun e w' => e = .returned (.bool (inB c s.data.toList)) ∧ w' = w := by
  unfold maxLen at hs
  go_enter Try.func115, Try.ntmps115
  go_wp2
  go_loop [5] (fun i => ∃ k : Nat, k ≤ s.size ∧ i = .int .i64 k ∧ Hid (inB c s.data.toList = inB c (s.data.toList.drop k))) (fun i => s.size - (intOf i).toNat)
  case atStart => exact ⟨0, Nat.zero_le _, rfl, by show _ = _; rfl⟩
  case round =>
    obtain ⟨k, hk, rfl, H⟩ := hrel
    by_cases hlt : k < s.size
    · have hlt1 : (k : Int) < (s.size : Int) := by omega
      obtain ⟨x, hx⟩ : ∃ x : Nat, s[k].toNat = x := ⟨_, rfl⟩
      have hc : x < 256 := by rw [← hx]; exact s[k].toNat_lt
      have HQ : Hid (inB c s.data.toList = ((x == c) || inB c (s.data.toList.drop (k + 1)))) := by
        show _ = _
        rw [H.out, get_drop s k hlt, ← hx]
        rfl
      clear H
      by_cases h10 : x = c
      · have HB : Hid (inB c s.data.toList = true) := by show _ = _; rw [HQ.out, h10]; simp
        have h1 : ((x : Int) == (c : Int)) = true := by simp [h10]
        clear h10
        go_wp2
        go_ret
        exact ⟨ret_bool (by rw [HB.out]), rfl⟩
      · have h1 : ((x : Int) == (c : Int)) = false := by simp; omega
        have HB : Hid (inB c s.data.toList = inB c (s.data.toList.drop (k + 1))) := by
          have e : (x == c) = false := by simpa using h10
          show _ = _
          rw [HQ.out, e, Bool.false_or]
        clear HQ h10
        go_wp2
        go_round
        case rel => exact ⟨k + 1, by omega, by go_num, HB.out⟩
        case measure => simp [intOf]; omega
    · obtain rfl : k = s.size := by omega
      have HB : Hid (inB c s.data.toList = false) := by
        show _ = _
        rw [H.out, List.drop_of_length_le (by rw [ba_len]; omega)]; rfl
      clear H
      go_wp2
      go_ret
      exact ⟨ret_bool (by rw [HB.out]), rfl⟩

/-- the byte behind a sign -/
def escP (s : ByteArray) (k : Nat) (e : Ending) : Prop :=
  (∃ (h : k < s.size), s[k].toNat ≠ 10 ∧ e = .returned (.tuple #[.int .u8 (escB s[k]), .int .i64 ((k + 1 : Nat) : Int), .bool true])) ∨
  ((s.size ≤ k ∨ ∃ (h : k < s.size), s[k].toNat = 10) ∧ e = .returned (.tuple #[.int .u8 0, .int .i64 k, .bool false]))
set_option maxRecDepth 100000 in
theorem escaped_calls (s : ByteArray) (k : Nat) (w : World) (hs : s.size ≤ maxLen) (hk : k ≤ s.size) :
    Calls Try.prog 114 #[.string s, .int .i64 k] w fun e w' => escP s k e ∧ w' = w := by
  unfold maxLen at hs
  have h0 : ¬ (k : Int) < 0 := by omega
  by_cases hlt : k < s.size
  · have hlt1 : ¬ (s.size : Int) ≤ (k : Int) := by omega
    have hlt2 : (k : Int) < (s.size : Int) := by omega
    obtain ⟨x, hx⟩ : ∃ x : Nat, s[k].toNat = x := ⟨_, rfl⟩
    have hxc : x < 256 := by rw [← hx]; exact s[k].toNat_lt
    by_cases h : x = 10
    · have HP : Hid (escP s k (.returned (.tuple #[.int .u8 0, .int .i64 k, .bool false]))) := .inr ⟨.inr ⟨hlt, by rw [hx]; exact h⟩, rfl⟩
      have h1 : ((x : Int) == 10) = true := by simp [h]
      clear h
      go_enter Try.func114, Try.ntmps114
      go_wp2
      go_ret3
      exact ⟨HP.out, rfl⟩
    · have h1 : ((x : Int) == 10) = false := by simp; omega
      by_cases h2 : x = 110
      · have HP : Hid (escP s k (.returned (.tuple #[.int .u8 10, .int .i64 ((k + 1 : Nat) : Int), .bool true]))) := .inl ⟨hlt, by rw [hx]; exact h, by
          have : escB s[k] = 10 := by unfold escB; rw [if_pos (by rw [hx]; exact h2)]
          rw [this]; rfl⟩
        have h3 : ((x : Int) == 110) = true := by simp [h2]
        clear h h2
        go_enter Try.func114, Try.ntmps114
        go_wp2
        go_ret3
        exact ⟨HP.out, rfl⟩
      · have HP : Hid (escP s k (.returned (.tuple #[.int .u8 x, .int .i64 ((k + 1 : Nat) : Int), .bool true]))) := .inl ⟨hlt, by rw [hx]; exact h, by
          have : escB s[k] = x := by unfold escB; rw [if_neg (by rw [hx]; exact h2), hx]
          rw [this]⟩
        have h3 : ((x : Int) == 110) = false := by simp; omega
        clear h h2
        go_enter Try.func114, Try.ntmps114
        go_wp2
        go_ret3
        exact ⟨HP.out, rfl⟩
  · have hlt1 : (s.size : Int) ≤ (k : Int) := by omega
    have HP : Hid (escP s k (.returned (.tuple #[.int .u8 0, .int .i64 k, .bool false]))) := .inr ⟨.inl (by omega), rfl⟩
    go_enter Try.func114, Try.ntmps114
    go_wp2
    go_ret3
    exact ⟨HP.out, rfl⟩

/-- one byte -/
def ByteP (s : ByteArray) (k : Nat) (ba : List UInt8) (m : List Mk) (r : List UInt8) (e : Ending) : Prop :=
  (∃ (q : Mk) (m' : List Mk) (n : Nat), m = q :: m' ∧ (q.p && inB q.b ba) = false ∧ q.b < 256 ∧ k < n ∧ n ≤ s.size ∧ mksM (s.data.toList.drop n) = (m', r) ∧ e = .returned (.tuple #[.int .u8 q.b, .int .i64 n, .bool true])) ∨
  ((m = [] ∨ ∃ q m', m = q :: m' ∧ (q.p && inB q.b ba) = true) ∧ ∃ n : Nat, e = .returned (.tuple #[.int .u8 0, .int .i64 n, .bool false]) ∧ k ≤ n ∧ n ≤ k + 1)
set_option maxRecDepth 100000 in
set_option maxHeartbeats 1000000 in
theorem byte_calls (s : ByteArray) (k : Nat) (ba : ByteArray) (m : List Mk) (r : List UInt8) (w : World) (hs : s.size ≤ maxLen) (hk : k ≤ s.size) (hba : ba.size ≤ maxLen) (h47 : inB 47 ba.data.toList = true) (hm : mksM (s.data.toList.drop k) = (m, r)) :
    Calls Try.prog 109 #[.string s, .int .i64 k, .string ba] w fun e w' => ByteP s k ba.data.toList m r e ∧ w' = w := by
  have h0 : ¬ (k : Int) < 0 := by omega
  have H47 : Hid (inB 47 ba.data.toList = true) := h47
  have HM : Hid (mksM (s.data.toList.drop k) = (m, r)) := hm
  clear h47 hm
  by_cases hlt : k < s.size
  · have hlt1 : ¬ (s.size : Int) ≤ (k : Int) := by omega
    have hlt2 : (k : Int) < (s.size : Int) := by omega
    have HM2 : Hid (mksM (s[k] :: s.data.toList.drop (k + 1)) = (m, r)) := by rw [← get_drop s k hlt]; exact HM.out
    obtain ⟨x, hx⟩ : ∃ x : Nat, s[k].toNat = x := ⟨_, rfl⟩
    have hxc : x < 256 := by rw [← hx]; exact s[k].toNat_lt
    by_cases h : x = 92
    · have h1 : ((x : Int) == 92) = true := by simp [h]
      have hs' := hs
      unfold maxLen at hs'
      have HX : Hid (s[k].toNat = 92) := by rw [hx]; exact h
      clear h
      go_enter Try.func109, Try.ntmps109
      go_wp2_with fail
      have HC := escaped_calls s (k + 1) w hs (by omega)
      rw [show ((k + 1 : Nat) : Int) = (k : Int) + 1 from rfl] at HC
      refine HC.mono ?_
      clear HC
      rintro e w' ⟨⟨hlt3, h10, rfl⟩ | ⟨hf, rfl⟩, rfl⟩
      · have HP : Hid (ByteP s k ba.data.toList m r (.returned (.tuple #[.int .u8 (escB s[k + 1]), .int .i64 ((k + 1 + 1 : Nat) : Int), .bool true]))) := by
          have h2 := HM2.out
          rw [get_drop s (k + 1) hlt3, mks_esc _ _ _ HX.out h10] at h2
          simp only [preR, Prod.mk.injEq] at h2
          refine .inl ⟨_, _, k + 1 + 1, h2.1.symm, rfl, ?_, by omega, by omega, ?_, rfl⟩
          · show escB _ < 256
            unfold escB
            have := s[k + 1].toNat_lt
            split <;> omega
          · rw [← h2.2]
        clear h10
        generalize escB s[k + 1] = y at *
        go_wp2
        go_ret3
        exact ⟨HP.out, rfl⟩
      · have HP : Hid (ByteP s k ba.data.toList m r (.returned (.tuple #[.int .u8 0, .int .i64 ((k + 1 : Nat) : Int), .bool false]))) := by
          have h2 := HM2.out
          refine .inr ⟨.inl ?_, k + 1, rfl, by omega, by omega⟩
          rcases hf with hf | ⟨hf, h10⟩
          · rw [List.drop_of_length_le (by rw [ba_len]; omega), mks_end _ HX.out] at h2
            simp at h2; exact h2.1
          · rw [get_drop s (k + 1) hf, mks_esc10 _ _ _ HX.out h10] at h2
            simp at h2; exact h2.1
        clear hf
        go_wp2
        go_ret3
        exact ⟨HP.out, rfl⟩
    · have h1 : ((x : Int) == 92) = false := by simp; omega
      by_cases h10 : x = 10
      · have HP : Hid (ByteP s k ba.data.toList m r (.returned (.tuple #[.int .u8 0, .int .i64 (k : Int), .bool false]))) := by
          have h2 := HM2.out
          rw [mks_stop _ _ (.inr (by rw [hx]; exact h10))] at h2
          simp at h2
          exact .inr ⟨.inl h2.1, k, rfl, by omega, by omega⟩
        have h3 : ((x : Int) == 10) = true := by simp [h10]
        clear h h10
        unfold maxLen at hs
        go_enter Try.func109, Try.ntmps109
        go_wp2
        go_ret3
        exact ⟨HP.out, rfl⟩
      · have h3 : ((x : Int) == 10) = false := by simp; omega
        have HN : Hid (x ≠ 92 ∧ x ≠ 10) := ⟨h, h10⟩
        clear h h10
        have hs' := hs
        unfold maxLen at hs
        go_enter Try.func109, Try.ntmps109
        go_wp2_with fail
        refine (among_calls x ba w hba hxc).mono ?_
        rintro e w' ⟨rfl, rfl⟩
        cases hin : inB x ba.data.toList
        · have HP : Hid (ByteP s k ba.data.toList m r (.returned (.tuple #[.int .u8 x, .int .i64 ((k + 1 : Nat) : Int), .bool true]))) := by
            have h2 := HM2.out
            have n47 : x ≠ 47 := fun e => by rw [e, H47.out] at hin; cases hin
            rw [mks_plain _ _ (by rw [hx]; exact n47) (by rw [hx]; exact HN.out.2) (by rw [hx]; exact HN.out.1)] at h2
            simp only [preR, Prod.mk.injEq] at h2
            refine .inl ⟨⟨x, true⟩, (mksM (s.data.toList.drop (k + 1))).1, k + 1, ?_, ?_, hxc, by omega, by omega, ?_, rfl⟩
            · rw [← h2.1, hx]
            · rw [Bool.true_and]; exact hin
            · rw [← h2.2]
          clear hin
          go_wp2
          go_ret3
          exact ⟨HP.out, rfl⟩
        · have HP : Hid (ByteP s k ba.data.toList m r (.returned (.tuple #[.int .u8 0, .int .i64 (k : Int), .bool false]))) := by
            have h2 := HM2.out
            refine .inr ⟨?_, k, rfl, by omega, by omega⟩
            by_cases n47 : x = 47
            · rw [mks_stop _ _ (.inl (by rw [hx]; exact n47))] at h2
              simp at h2; exact .inl h2.1
            · rw [mks_plain _ _ (by rw [hx]; exact n47) (by rw [hx]; exact HN.out.2) (by rw [hx]; exact HN.out.1)] at h2
              simp only [preR, Prod.mk.injEq] at h2
              refine .inr ⟨_, _, h2.1.symm, ?_⟩
              show (true && inB s[k].toNat _) = true
              rw [Bool.true_and, hx]; exact hin
          clear hin
          go_wp2
          go_ret3
          exact ⟨HP.out, rfl⟩
  · have hlt1 : (s.size : Int) ≤ (k : Int) := by omega
    have HP : Hid (ByteP s k ba.data.toList m r (.returned (.tuple #[.int .u8 0, .int .i64 (k : Int), .bool false]))) := by
      have h2 := HM.out
      rw [List.drop_of_length_le (by rw [ba_len]; omega), mksM] at h2
      simp at h2
      exact .inr ⟨.inl h2.1, k, rfl, by omega, by omega⟩
    unfold maxLen at hs
    go_enter Try.func109, Try.ntmps109
    go_wp2
    go_ret3
    exact ⟨HP.out, rfl⟩

set_option maxRecDepth 100000 in
theorem readMark_calls (s : ByteArray) (k : Nat) (m : List Mk) (r : List UInt8) (w : World) (hs : s.size ≤ maxLen) (hk : k ≤ s.size) (hm : mksM (s.data.toList.drop k) = (m, r)) :
    Calls Try.prog 116 #[.string s, .int .i64 k] w fun e w' => ByteP s k [47, 93, 45] m r e ∧ w' = w := by
  have HM : Hid (mksM (s.data.toList.drop k) = (m, r)) := hm
  clear hm
  go_enter Try.func116, Try.ntmps116
  go_wp2_with fail
  refine (byte_calls s k _ m r w hs hk (by unfold maxLen; decide) (by decide) HM.out).mono ?_
  rintro e w' ⟨hb, rfl⟩
  have hb' : ByteP s k [47, 93, 45] m r e := hb
  clear hb
  have HB : Hid (ByteP s k [47, 93, 45] m r e) := hb'
  rcases hb' with ⟨q, m', n, -, -, hq, hkn, hn, -, rfl⟩ | ⟨-, n, rfl, hn1, hn2⟩
  · clear HM
    unfold maxLen at hs
    go_wp2
    go_ret3
    exact ⟨HB.out, rfl⟩
  · clear HM
    unfold maxLen at hs
    go_wp2
    go_ret3
    exact ⟨HB.out, rfl⟩

theorem bar_mem (q : Mk) (h47 : q.is 47 = false) : (q.p && inB q.b [47, 93, 45]) = (q.is 93 || q.is 45) := by
  obtain ⟨b, p⟩ := q
  cases p
  · rfl
  · simp [Mk.is] at h47
    simp only [Mk.is, inB, Bool.true_and, List.any_cons, List.any_nil, Bool.or_false]
    have e1 : ((47 : UInt8).toNat == b) = false := by simp; omega
    have e2 : ((93 : UInt8).toNat == b) = (b == 93) := by
      show (93 == b) = _
      rw [Bool.eq_iff_iff]; simp; omega
    have e3 : ((45 : UInt8).toNat == b) = (b == 45) := by
      show (45 == b) = _
      rw [Bool.eq_iff_iff]; simp; omega
    rw [e1, e2, e3, Bool.false_or]
theorem no47 (t : List UInt8) : ∀ q ∈ (mksM t).1, q.is 47 = false := by
  match t with
  | [] => intro q h; simp [mksM] at h
  | [c] =>
    intro q h
    rw [mksM] at h
    split at h
    · simp at h
    · rename_i hc
      simp at h; rw [h]
      show (true && c.toNat == 47) = false
      simp; omega
  | c :: d :: t =>
    intro q h
    rw [mksM] at h
    split at h
    · simp at h
    · rename_i hc
      split at h
      · split at h
        · simp at h
        · simp [preR] at h
          rcases h with h | h
          · rw [h]; rfl
          · exact no47 t q h
      · simp [preR] at h
        rcases h with h | h
        · rw [h]
          show (true && c.toNat == 47) = false
          simp; omega
        · exact no47 (d :: t) q h
theorem results_tmp4 {fn : Func} {t u v x : Tmp} (h : fn.results = #[.tmp t, .tmp u, .tmp v, .tmp x]) (tmps : Array Value) (P : Program) (w : World) :
    (results fn tmps).run P w = .ok (.tuple #[tmps.getD t undef, tmps.getD u undef, tmps.getD v undef, tmps.getD x undef]) w := by
  simp [results, h]
/-- one member -/
def MemPost (s : ByteArray) (k : Nat) (m : List Mk) (r : List UInt8) (e : Ending) : Prop :=
  (∃ (lo hi : Nat) (m' : List Mk) (n : Nat), memP m = some (lo, hi, m') ∧ lo < 256 ∧ hi < 256 ∧ k < n ∧ n ≤ s.size ∧ mksM (s.data.toList.drop n) = (m', r) ∧ e = .returned (.tuple #[.int .u8 lo, .int .u8 hi, .int .i64 n, .bool true])) ∨
  (memP m = none ∧ ∃ n : Nat, e = .returned (.tuple #[.int .u8 0, .int .u8 0, .int .i64 n, .bool false]) ∧ k ≤ n ∧ n ≤ k + 1)
theorem memP_none (q : Mk) (m : List Mk) (h : (q.is 93 || q.is 45) = true) : memP (q :: m) = none := by
  match m with
  | [] => rw [memP, if_pos h]
  | [d] => rw [memP, if_pos h]
  | d :: e :: v => rw [memP, if_pos h]
theorem memP_one (q : Mk) (m : List Mk) (h : (q.is 93 || q.is 45) = false) (hd : hdIs m 45 = false) : memP (q :: m) = some (q.b, q.b, m) := by
  match m with
  | [] => rw [memP, h]; rfl
  | [d] =>
    have : d.is 45 = false := hd
    rw [memP, h, this]; rfl
  | d :: e :: v =>
    have : d.is 45 = false := hd
    rw [memP, h, this]; rfl
theorem memP_two (q d : Mk) (m : List Mk) (h : (q.is 93 || q.is 45) = false) (hd : d.is 45 = true) : memP (q :: d :: m) = match m with
    | [] => none
    | f :: v => if f.is 93 || f.is 45 || decide (f.b < q.b) then none else some (q.b, f.b, v) := by
  match m with
  | [] => rw [memP, h, hd]; rfl
  | f :: v => rw [memP, h, hd]; rfl
set_option maxRecDepth 100000 in
set_option maxHeartbeats 1000000 in
theorem readMember_calls (s : ByteArray) (k : Nat) (m : List Mk) (r : List UInt8) (w : World) (hs : s.size ≤ maxLen) (hk : k ≤ s.size) (hm : mksM (s.data.toList.drop k) = (m, r)) :
    Calls Try.prog 112 #[.string s, .int .i64 k] w fun e w' => MemPost s k m r e ∧ w' = w := by
  have HM : Hid (mksM (s.data.toList.drop k) = (m, r)) := hm
  have H47 : Hid (∀ q ∈ m, q.is 47 = false) := fun q hq => no47 (s.data.toList.drop k) q (by rw [hm]; exact hq)
  clear hm
  have hs' := hs
  unfold maxLen at hs'
  go_enter Try.func112, Try.ntmps112
  go_wp2_with fail
  refine (readMark_calls s k m r w hs hk HM.out).mono ?_
  rintro e w' ⟨⟨q, m1, n, rfl, hq, hq2, hkn, hn, hm1, rfl⟩ | ⟨hno, n, rfl, hn1, hn2⟩, rfl⟩
  · rw [bar_mem q (H47.out q (by simp))] at hq
    have HQ : Hid ((q.is 93 || q.is 45) = false) := hq
    have HM1 : Hid (mksM (s.data.toList.drop n) = (m1, r)) := hm1
    clear hq hm1 HM
    obtain ⟨hst, hst2⟩ := stB_mk _ 45 _ _ HM1.out (by decide) (by decide) (by decide)
    have HST : Hid (stB (s.data.toList.drop n) 45 = hdIs m1 45) := hst
    have HST2 : Hid (stB (s.data.toList.drop n) 45 = true → ∃ k m', m1 = k :: m' ∧ mksM ((s.data.toList.drop n).drop 1) = (m', r)) := hst2
    clear hst hst2
    obtain ⟨x, hx⟩ : ∃ x, q.b = x := ⟨_, rfl⟩
    rw [hx] at hq2 ⊢
    have HX : Hid (q.b = x) := hx
    clear hx
    go_wp2_with fail
    refine (stands_calls s n 45 _ hs hn (by decide)).mono ?_
    rintro e w2 ⟨rfl, rfl⟩
    cases hb : stB (s.data.toList.drop n) 45
    · have HP : Hid (MemPost s k (q :: m1) r (.returned (.tuple #[.int .u8 x, .int .u8 x, .int .i64 n, .bool true]))) := .inl ⟨q.b, q.b, m1, n, memP_one q m1 HQ.out (by rw [← HST.out]; exact hb), by rw [HX.out]; exact hq2, by rw [HX.out]; exact hq2, hkn, hn, HM1.out, by rw [HX.out]⟩
      clear hb
      go_wp2
      (try simp only [Exit.inBlock, Exit.then])
      refine bodyPost_ret (results_tmp4 rfl _ _ _) rfl ?_
      exact ⟨HP.out, rfl⟩
    · obtain ⟨d, m2, rfl, hm2⟩ := HST2.out hb
      have HD : Hid (d.is 45 = true) := by show _ = _; rw [← hb, HST.out]; rfl
      rw [List.drop_drop] at hm2
      have hn1 : n + 1 ≤ s.size := by
        refine Nat.lt_of_not_le fun h => ?_
        rw [List.drop_of_length_le (by rw [ba_len]; omega)] at hb
        cases hb
      have HM2 : Hid (mksM (s.data.toList.drop (n + 1)) = (m2, r)) := hm2
      clear hm2 hb HST HST2 HM1
      go_wp2_with fail
      have HC := readMark_calls s (n + 1) m2 r w2 hs hn1 HM2.out
      rw [show ((n + 1 : Nat) : Int) = (n : Int) + 1 from rfl] at HC
      refine HC.mono ?_
      clear HC
      rintro e w3 ⟨⟨f, m3, n3, rfl, hf, hf2, hkn3, hn3, hm3, rfl⟩ | ⟨hno, n3, rfl, hn31, hn32⟩, rfl⟩
      · rw [bar_mem f (H47.out f (by simp))] at hf
        obtain ⟨y, hy⟩ : ∃ y, f.b = y := ⟨_, rfl⟩
        rw [hy] at hf2 ⊢
        have HY : Hid (f.b = y) := hy
        have HF : Hid ((f.is 93 || f.is 45) = false) := hf
        have HM3 : Hid (mksM (s.data.toList.drop n3) = (m3, r)) := hm3
        clear hy hf hm3
        by_cases hlt : y < x
        · have HP : Hid (MemPost s k (q :: d :: f :: m3) r (.returned (.tuple #[.int .u8 0, .int .u8 0, .int .i64 k, .bool false]))) := .inr ⟨by
            rw [memP_two q d _ HQ.out HD.out]
            show (if (f.is 93 || f.is 45 || decide (f.b < q.b)) = true then none else some (q.b, f.b, m3)) = none
            rw [HF.out, HX.out, HY.out, decide_eq_true hlt]; rfl, k, rfl, by omega, by omega⟩
          have hlt1 : (y : Int) < (x : Int) := by omega
          go_wp2
          (try simp only [Exit.inBlock, Exit.then])
          refine bodyPost_ret (results_tmp4 rfl _ _ _) rfl ?_
          exact ⟨HP.out, rfl⟩
        · have HP : Hid (MemPost s k (q :: d :: f :: m3) r (.returned (.tuple #[.int .u8 x, .int .u8 y, .int .i64 n3, .bool true]))) := .inl ⟨x, y, m3, n3, by
            rw [memP_two q d _ HQ.out HD.out]
            show (if (f.is 93 || f.is 45 || decide (f.b < q.b)) = true then none else some (q.b, f.b, m3)) = _
            rw [HF.out, HX.out, HY.out, decide_eq_false hlt]; rfl, hq2, hf2, by omega, hn3, HM3.out, rfl⟩
          have hlt1 : ¬ (y : Int) < (x : Int) := by omega
          go_wp2
          (try simp only [Exit.inBlock, Exit.then])
          refine bodyPost_ret (results_tmp4 rfl _ _ _) rfl ?_
          exact ⟨HP.out, rfl⟩
      · have HP : Hid (MemPost s k (q :: d :: m2) r (.returned (.tuple #[.int .u8 0, .int .u8 0, .int .i64 k, .bool false]))) := .inr ⟨by
          rw [memP_two q d _ HQ.out HD.out]
          rcases hno with rfl | ⟨f, v, rfl, hf⟩
          · rfl
          · rw [bar_mem f (H47.out f (by simp))] at hf
            show (if (f.is 93 || f.is 45 || decide (f.b < q.b)) = true then none else some (q.b, f.b, v)) = none
            rw [hf]; rfl, k, rfl, by omega, by omega⟩
        clear hno
        go_wp2
        (try simp only [Exit.inBlock, Exit.then])
        refine bodyPost_ret (results_tmp4 rfl _ _ _) rfl ?_
        exact ⟨HP.out, rfl⟩
  · have HP : Hid (MemPost s k m r (.returned (.tuple #[.int .u8 0, .int .u8 0, .int .i64 n, .bool false]))) := .inr ⟨by
      rcases hno with rfl | ⟨q, v, rfl, hq⟩
      · rfl
      · rw [bar_mem q (H47.out q (by simp))] at hq
        exact memP_none q v hq, n, rfl, hn1, hn2⟩
    clear hno HM
    go_wp2
    (try simp only [Exit.inBlock, Exit.then])
    refine bodyPost_ret (results_tmp4 rfl _ _ _) rfl ?_
    exact ⟨HP.out, rfl⟩
end Go.Proofs.Ytlppphmnegdhoaa
