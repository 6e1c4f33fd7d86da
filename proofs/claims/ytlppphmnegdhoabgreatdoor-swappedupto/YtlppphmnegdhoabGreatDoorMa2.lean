import Derived.Test.YtlppphmnegdhoabGreatDoorRows
import Derived.WalkKit
import Derived.WalkSpells
import Derived.WalkLawsBesides
import Derived.Laws.BitsLemmas
import Derived.Deep.QuietTactic
import Derived.BigQuiet
import Derived.Lib.Strings
import Derived.Laws.BytesArg
import Derived.Deep.MidRow
import Derived.Deep.WholeRow
import Derived.Laws.ResultCell
import Derived.Deep.CutBlock
import Derived.Deep.DeepCutAuto
import Derived.Deep.RegionHeld3
import Derived.Deep.DrawnRows
import Derived.Deep.AppendLies
import Derived.Deep.RegionLaw
import Derived.Test.YtlppphmnegdhoabGreatDoorMa1
namespace Go.Proofs.YtlppphmnegdhoabGreatDoor
set_option linter.unusedVariables false
set_option maxRecDepth 100000
open Go.RowKit
open M

set_option maxRecDepth 100000 in
theorem stands_calls (s : ByteArray) (k c : Nat) (w : World) (hs : s.size ≤ maxLen) (hk : k ≤ s.size) (hc : c < 256) :
    Calls Tryz.prog 130 #[.string s, .int .i64 k, .int .u8 c] w fun e w' => e = .returned (.bool (stB (s.data.toList.drop k) c)) ∧ w' = w := by
  unfold maxLen at hs
  have h0 : (0 : Int) ≤ (k : Int) := by omega
  by_cases hlt : k < s.size
  · have hlt1 : (k : Int) < (s.size : Int) := by omega
    obtain ⟨x, hx⟩ : ∃ x : Nat, s[k].toNat = x := ⟨_, rfl⟩
    have hxc : x < 256 := by rw [← hx]; exact s[k].toNat_lt
    have HS : Hid (stB (s.data.toList.drop k) c = (x == c)) := by
      show _ = _
      rw [get_drop s k hlt, ← hx]; rfl
    by_cases h : x = c
    · have h1 : ((x : Int) == (c : Int)) = true := by simp [h]
      have HB : Hid (stB (s.data.toList.drop k) c = true) := by show _ = _; rw [HS.out]; simp [h]
      clear h
      go_enter Tryz.func130, Tryz.ntmps130
      go_wp2
      go_ret
      exact ⟨ret_bool (by rw [HB.out]), rfl⟩
    · have h1 : ((x : Int) == (c : Int)) = false := by simp; omega
      have HB : Hid (stB (s.data.toList.drop k) c = false) := by show _ = _; rw [HS.out]; simp [h]
      clear h
      go_enter Tryz.func130, Tryz.ntmps130
      go_wp2
      go_ret
      exact ⟨ret_bool (by rw [HB.out]), rfl⟩
  · have hlt1 : ¬ (k : Int) < (s.size : Int) := by omega
    have HB : Hid (stB (s.data.toList.drop k) c = false) := by
      show _ = _
      rw [List.drop_of_length_le (by rw [ba_len]; omega)]; rfl
    go_enter Tryz.func130, Tryz.ntmps130
    go_wp2
    go_ret
    exact ⟨ret_bool (by rw [HB.out]), rfl⟩

def inBs (c : Nat) (l : List UInt8) : Bool := l.any (fun d => d.toNat == c)
set_option maxRecDepth 100000 in
theorem among_calls (c : Nat) (s : ByteArray) (w : World) (hs : s.size ≤ maxLen) (hcc : c < 256) :
    Calls Tryz.prog 235 #[.int .u8 c, .string s] w fun e w' => e = .returned (.bool (inBs c s.data.toList)) ∧ w' = w := by
  unfold maxLen at hs
  go_enter Tryz.func235, Tryz.ntmps235
  go_wp2
  go_loop [5] (fun i => ∃ k : Nat, k ≤ s.size ∧ i = .int .i64 k ∧ Hid (inBs c s.data.toList = inBs c (s.data.toList.drop k))) (fun i => s.size - (intOf i).toNat)
  case atStart => exact ⟨0, Nat.zero_le _, rfl, by show _ = _; rfl⟩
  case round =>
    obtain ⟨k, hk, rfl, H⟩ := hrel
    by_cases hlt : k < s.size
    · have hlt1 : (k : Int) < (s.size : Int) := by omega
      obtain ⟨x, hx⟩ : ∃ x : Nat, s[k].toNat = x := ⟨_, rfl⟩
      have hc : x < 256 := by rw [← hx]; exact s[k].toNat_lt
      have HQ : Hid (inBs c s.data.toList = ((x == c) || inBs c (s.data.toList.drop (k + 1)))) := by
        show _ = _
        rw [H.out, get_drop s k hlt, ← hx]
        rfl
      clear H
      by_cases h10 : x = c
      · have HB : Hid (inBs c s.data.toList = true) := by show _ = _; rw [HQ.out, h10]; simp
        have h1 : ((x : Int) == (c : Int)) = true := by simp [h10]
        clear h10
        go_wp2
        go_ret
        exact ⟨ret_bool (by rw [HB.out]), rfl⟩
      · have h1 : ((x : Int) == (c : Int)) = false := by simp; omega
        have HB : Hid (inBs c s.data.toList = inBs c (s.data.toList.drop (k + 1))) := by
          have e : (x == c) = false := by simpa using h10
          show _ = _
          rw [HQ.out, e, Bool.false_or]
        clear HQ h10
        go_wp2
        go_round
        case rel => exact ⟨k + 1, by omega, by go_num, HB.out⟩
        case measure => simp [intOf]; omega
    · obtain rfl : k = s.size := by omega
      have HB : Hid (inBs c s.data.toList = false) := by
        show _ = _
        rw [H.out, List.drop_of_length_le (by rw [ba_len]; omega)]; rfl
      clear H
      go_wp2
      go_ret
      exact ⟨ret_bool (by rw [HB.out]), rfl⟩

/-- the byte behind a sign -/
def escP (s : ByteArray) (k : Nat) (e : Ending) : Prop :=
  (∃ (h : k < s.size), s[k].toNat ≠ 10 ∧ e = .returned (.tuple #[.int .u8 (escB s[k]), .int .i64 ((k + 1 : Nat) : Int), .bool true])) ∨
  ((s.size ≤ k ∨ ∃ (h : k < s.size), s[k].toNat = 10) ∧ e = .returned (.tuple #[.int .u8 0, .int .i64 k, .bool false]))
set_option maxRecDepth 100000 in
theorem escaped_calls (s : ByteArray) (k : Nat) (w : World) (hs : s.size ≤ maxLen) (hk : k ≤ s.size) :
    Calls Tryz.prog 234 #[.string s, .int .i64 k] w fun e w' => escP s k e ∧ w' = w := by
  unfold maxLen at hs
  have h0 : ¬ (k : Int) < 0 := by omega
  by_cases hlt : k < s.size
  · have hlt1 : ¬ (s.size : Int) ≤ (k : Int) := by omega
    have hlt2 : (k : Int) < (s.size : Int) := by omega
    obtain ⟨x, hx⟩ : ∃ x : Nat, s[k].toNat = x := ⟨_, rfl⟩
    have hxc : x < 256 := by rw [← hx]; exact s[k].toNat_lt
    by_cases h : x = 10
    · have HP : Hid (escP s k (.returned (.tuple #[.int .u8 0, .int .i64 k, .bool false]))) := .inr ⟨.inr ⟨hlt, by rw [hx]; exact h⟩, rfl⟩
      have h1 : ((x : Int) == 10) = true := by simp [h]
      clear h
      go_enter Tryz.func234, Tryz.ntmps234
      go_wp2
      go_ret3
      exact ⟨HP.out, rfl⟩
    · have h1 : ((x : Int) == 10) = false := by simp; omega
      by_cases h2 : x = 110
      · have HP : Hid (escP s k (.returned (.tuple #[.int .u8 10, .int .i64 ((k + 1 : Nat) : Int), .bool true]))) := .inl ⟨hlt, by rw [hx]; exact h, by
          have : escB s[k] = 10 := by unfold escB; rw [if_pos (by rw [hx]; exact h2)]
          rw [this]; rfl⟩
        have h3 : ((x : Int) == 110) = true := by simp [h2]
        clear h h2
        go_enter Tryz.func234, Tryz.ntmps234
        go_wp2
        go_ret3
        exact ⟨HP.out, rfl⟩
      · have HP : Hid (escP s k (.returned (.tuple #[.int .u8 x, .int .i64 ((k + 1 : Nat) : Int), .bool true]))) := .inl ⟨hlt, by rw [hx]; exact h, by
          have : escB s[k] = x := by unfold escB; rw [if_neg (by rw [hx]; exact h2), hx]
          rw [this]⟩
        have h3 : ((x : Int) == 110) = false := by simp; omega
        clear h h2
        go_enter Tryz.func234, Tryz.ntmps234
        go_wp2
        go_ret3
        exact ⟨HP.out, rfl⟩
  · have hlt1 : (s.size : Int) ≤ (k : Int) := by omega
    have HP : Hid (escP s k (.returned (.tuple #[.int .u8 0, .int .i64 k, .bool false]))) := .inr ⟨.inl (by omega), rfl⟩
    go_enter Tryz.func234, Tryz.ntmps234
    go_wp2
    go_ret3
    exact ⟨HP.out, rfl⟩

/-- one byte -/
def ByteP (s : ByteArray) (k : Nat) (ba : List UInt8) (m : List Mk) (r : List UInt8) (e : Ending) : Prop :=
  (∃ (q : Mk) (m' : List Mk) (n : Nat), m = q :: m' ∧ (q.p && inBs q.b ba) = false ∧ q.b < 256 ∧ k < n ∧ n ≤ s.size ∧ mksM (s.data.toList.drop n) = (m', r) ∧ e = .returned (.tuple #[.int .u8 q.b, .int .i64 n, .bool true])) ∨
  ((m = [] ∨ ∃ q m', m = q :: m' ∧ (q.p && inBs q.b ba) = true) ∧ ∃ n : Nat, e = .returned (.tuple #[.int .u8 0, .int .i64 n, .bool false]) ∧ k ≤ n ∧ n ≤ k + 1)
set_option maxRecDepth 100000 in
set_option maxHeartbeats 1000000 in
theorem byte_calls (s : ByteArray) (k : Nat) (ba : ByteArray) (m : List Mk) (r : List UInt8) (w : World) (hs : s.size ≤ maxLen) (hk : k ≤ s.size) (hba : ba.size ≤ maxLen) (h47 : inBs 47 ba.data.toList = true) (hm : mksM (s.data.toList.drop k) = (m, r)) :
    Calls Tryz.prog 211 #[.string s, .int .i64 k, .string ba] w fun e w' => ByteP s k ba.data.toList m r e ∧ w' = w := by
  have h0 : ¬ (k : Int) < 0 := by omega
  have H47 : Hid (inBs 47 ba.data.toList = true) := h47
  have HM : Hid (mksM (s.data.toList.drop k) = (m, r)) := hm
  clear h47 hm
  by_cases hlt : k < s.size
  · have hlt1 : ¬ (s.size : Int) ≤ (k : Int) := by omega
    have hlt2 : (k : Int) < (s.size : Int) := by omega
    have HM2 : Hid (mksM (s[k] :: s.data.toList.drop (k + 1)) = (m, r)) := by rw [← get_drop s k hlt]; exact HM.out
    obtain ⟨x, hx⟩ : ∃ x : Nat, s[k].toNat = x := ⟨_, rfl⟩
    have hxc : x < 256 := by rw [← hx]; exact s[k].toNat_lt
    by_cases h : x = 92
    · have h1 : ((x : Int) == 92) = true := by simp [h]
      have hs' := hs
      unfold maxLen at hs'
      have HX : Hid (s[k].toNat = 92) := by rw [hx]; exact h
      clear h
      go_enter Tryz.func211, Tryz.ntmps211
      go_wp2_with fail
      have HC := escaped_calls s (k + 1) w hs (by omega)
      rw [show ((k + 1 : Nat) : Int) = (k : Int) + 1 from rfl] at HC
      refine HC.mono ?_
      clear HC
      rintro e w' ⟨⟨hlt3, h10, rfl⟩ | ⟨hf, rfl⟩, rfl⟩
      · have HP : Hid (ByteP s k ba.data.toList m r (.returned (.tuple #[.int .u8 (escB s[k + 1]), .int .i64 ((k + 1 + 1 : Nat) : Int), .bool true]))) := by
          have h2 := HM2.out
          rw [get_drop s (k + 1) hlt3, mks_esc _ _ _ HX.out h10] at h2
          simp only [preR, Prod.mk.injEq] at h2
          refine .inl ⟨_, _, k + 1 + 1, h2.1.symm, rfl, ?_, by omega, by omega, ?_, rfl⟩
          · show escB _ < 256
            unfold escB
            have := s[k + 1].toNat_lt
            split <;> omega
          · rw [← h2.2]
        clear h10
        generalize escB s[k + 1] = y at *
        go_wp2
        go_ret3
        exact ⟨HP.out, rfl⟩
      · have HP : Hid (ByteP s k ba.data.toList m r (.returned (.tuple #[.int .u8 0, .int .i64 ((k + 1 : Nat) : Int), .bool false]))) := by
          have h2 := HM2.out
          refine .inr ⟨.inl ?_, k + 1, rfl, by omega, by omega⟩
          rcases hf with hf | ⟨hf, h10⟩
          · rw [List.drop_of_length_le (by rw [ba_len]; omega), mks_end _ HX.out] at h2
            simp at h2; exact h2.1
          · rw [get_drop s (k + 1) hf, mks_esc10 _ _ _ HX.out h10] at h2
            simp at h2; exact h2.1
        clear hf
        go_wp2
        go_ret3
        exact ⟨HP.out, rfl⟩
    · have h1 : ((x : Int) == 92) = false := by simp; omega
      by_cases h10 : x = 10
      · have HP : Hid (ByteP s k ba.data.toList m r (.returned (.tuple #[.int .u8 0, .int .i64 (k : Int), .bool false]))) := by
          have h2 := HM2.out
          rw [mks_stop _ _ (.inr (by rw [hx]; exact h10))] at h2
          simp at h2
          exact .inr ⟨.inl h2.1, k, rfl, by omega, by omega⟩
        have h3 : ((x : Int) == 10) = true := by simp [h10]
        clear h h10
        unfold maxLen at hs
        go_enter Tryz.func211, Tryz.ntmps211
        go_wp2
        go_ret3
        exact ⟨HP.out, rfl⟩
      · have h3 : ((x : Int) == 10) = false := by simp; omega
        have HN : Hid (x ≠ 92 ∧ x ≠ 10) := ⟨h, h10⟩
        clear h h10
        have hs' := hs
        unfold maxLen at hs
        go_enter Tryz.func211, Tryz.ntmps211
        go_wp2_with fail
        refine (among_calls x ba w hba hxc).mono ?_
        rintro e w' ⟨rfl, rfl⟩
        cases hin : inBs x ba.data.toList
        · have HP : Hid (ByteP s k ba.data.toList m r (.returned (.tuple #[.int .u8 x, .int .i64 ((k + 1 : Nat) : Int), .bool true]))) := by
            have h2 := HM2.out
            have n47 : x ≠ 47 := fun e => by rw [e, H47.out] at hin; cases hin
            rw [mks_plain _ _ (by rw [hx]; exact n47) (by rw [hx]; exact HN.out.2) (by rw [hx]; exact HN.out.1)] at h2
            simp only [preR, Prod.mk.injEq] at h2
            refine .inl ⟨⟨x, true⟩, (mksM (s.data.toList.drop (k + 1))).1, k + 1, ?_, ?_, hxc, by omega, by omega, ?_, rfl⟩
            · rw [← h2.1, hx]
            · rw [Bool.true_and]; exact hin
            · rw [← h2.2]
          clear hin
          go_wp2
          go_ret3
          exact ⟨HP.out, rfl⟩
        · have HP : Hid (ByteP s k ba.data.toList m r (.returned (.tuple #[.int .u8 0, .int .i64 (k : Int), .bool false]))) := by
            have h2 := HM2.out
            refine .inr ⟨?_, k, rfl, by omega, by omega⟩
            by_cases n47 : x = 47
            · rw [mks_stop _ _ (.inl (by rw [hx]; exact n47))] at h2
              simp at h2; exact .inl h2.1
            · rw [mks_plain _ _ (by rw [hx]; exact n47) (by rw [hx]; exact HN.out.2) (by rw [hx]; exact HN.out.1)] at h2
              simp only [preR, Prod.mk.injEq] at h2
              refine .inr ⟨_, _, h2.1.symm, ?_⟩
              show (true && inBs s[k].toNat _) = true
              rw [Bool.true_and, hx]; exact hin
          clear hin
          go_wp2
          go_ret3
          exact ⟨HP.out, rfl⟩
  · have hlt1 : (s.size : Int) ≤ (k : Int) := by omega
    have HP : Hid (ByteP s k ba.data.toList m r (.returned (.tuple #[.int .u8 0, .int .i64 (k : Int), .bool false]))) := by
      have h2 := HM.out
      rw [List.drop_of_length_le (by rw [ba_len]; omega), mksM] at h2
      simp at h2
      exact .inr ⟨.inl h2.1, k, rfl, by omega, by omega⟩
    unfold maxLen at hs
    go_enter Tryz.func211, Tryz.ntmps211
    go_wp2
    go_ret3
    exact ⟨HP.out, rfl⟩

set_option maxRecDepth 100000 in
theorem readMark_calls (s : ByteArray) (k : Nat) (m : List Mk) (r : List UInt8) (w : World) (hs : s.size ≤ maxLen) (hk : k ≤ s.size) (hm : mksM (s.data.toList.drop k) = (m, r)) :
    Calls Tryz.prog 244 #[.string s, .int .i64 k] w fun e w' => ByteP s k [47, 93, 45] m r e ∧ w' = w := by
  have HM : Hid (mksM (s.data.toList.drop k) = (m, r)) := hm
  clear hm
  go_enter Tryz.func244, Tryz.ntmps244
  go_wp2_with fail
  refine (byte_calls s k _ m r w hs hk (by unfold maxLen; decide) (by decide) HM.out).mono ?_
  rintro e w' ⟨hb, rfl⟩
  have hb' : ByteP s k [47, 93, 45] m r e := hb
  clear hb
  have HB : Hid (ByteP s k [47, 93, 45] m r e) := hb'
  rcases hb' with ⟨q, m', n, -, -, hq, hkn, hn, -, rfl⟩ | ⟨-, n, rfl, hn1, hn2⟩
  · clear HM
    unfold maxLen at hs
    go_wp2
    go_ret3
    exact ⟨HB.out, rfl⟩
  · clear HM
    unfold maxLen at hs
    go_wp2
    go_ret3
    exact ⟨HB.out, rfl⟩

theorem bar_mem (q : Mk) (h47 : q.is 47 = false) : (q.p && inBs q.b [47, 93, 45]) = (q.is 93 || q.is 45) := by
  obtain ⟨b, p⟩ := q
  cases p
  · rfl
  · simp [Mk.is] at h47
    simp only [Mk.is, inBs, Bool.true_and, List.any_cons, List.any_nil, Bool.or_false]
    have e1 : ((47 : UInt8).toNat == b) = false := by simp; omega
    have e2 : ((93 : UInt8).toNat == b) = (b == 93) := by
      show (93 == b) = _
      rw [Bool.eq_iff_iff]; simp; omega
    have e3 : ((45 : UInt8).toNat == b) = (b == 45) := by
      show (45 == b) = _
      rw [Bool.eq_iff_iff]; simp; omega
    rw [e1, e2, e3, Bool.false_or]
theorem no47 (t : List UInt8) : ∀ q ∈ (mksM t).1, q.is 47 = false := by
  match t with
  | [] => intro q h; simp [mksM] at h
  | [c] =>
    intro q h
    rw [mksM] at h
    split at h
    · simp at h
    · rename_i hc
      simp at h; rw [h]
      show (true && c.toNat == 47) = false
      simp; omega
  | c :: d :: t =>
    intro q h
    rw [mksM] at h
    split at h
    · simp at h
    · rename_i hc
      split at h
      · split at h
        · simp at h
        · simp [preR] at h
          rcases h with h | h
          · rw [h]; rfl
          · exact no47 t q h
      · simp [preR] at h
        rcases h with h | h
        · rw [h]
          show (true && c.toNat == 47) = false
          simp; omega
        · exact no47 (d :: t) q h
theorem results_tmp4 {fn : Func} {t u v x : Tmp} (h : fn.results = #[.tmp t, .tmp u, .tmp v, .tmp x]) (tmps : Array Value) (P : Program) (w : World) :
    (results fn tmps).run P w = .ok (.tuple #[tmps.getD t undef, tmps.getD u undef, tmps.getD v undef, tmps.getD x undef]) w := by
  simp [results, h]
/-- one member -/
def MemPost (s : ByteArray) (k : Nat) (m : List Mk) (r : List UInt8) (e : Ending) : Prop :=
  (∃ (lo hi : Nat) (m' : List Mk) (n : Nat), memP m = some (lo, hi, m') ∧ lo < 256 ∧ hi < 256 ∧ k < n ∧ n ≤ s.size ∧ mksM (s.data.toList.drop n) = (m', r) ∧ e = .returned (.tuple #[.int .u8 lo, .int .u8 hi, .int .i64 n, .bool true])) ∨
  (memP m = none ∧ ∃ n : Nat, e = .returned (.tuple #[.int .u8 0, .int .u8 0, .int .i64 n, .bool false]) ∧ k ≤ n ∧ n ≤ k + 1)
theorem memP_none (q : Mk) (m : List Mk) (h : (q.is 93 || q.is 45) = true) : memP (q :: m) = none := by
  match m with
  | [] => rw [memP, if_pos h]
  | [d] => rw [memP, if_pos h]
  | d :: e :: v => rw [memP, if_pos h]
theorem memP_one (q : Mk) (m : List Mk) (h : (q.is 93 || q.is 45) = false) (hd : hdIs m 45 = false) : memP (q :: m) = some (q.b, q.b, m) := by
  match m with
  | [] => rw [memP, h]; rfl
  | [d] =>
    have : d.is 45 = false := hd
    rw [memP, h, this]; rfl
  | d :: e :: v =>
    have : d.is 45 = false := hd
    rw [memP, h, this]; rfl
theorem memP_two (q d : Mk) (m : List Mk) (h : (q.is 93 || q.is 45) = false) (hd : d.is 45 = true) : memP (q :: d :: m) = match m with
    | [] => none
    | f :: v => if f.is 93 || f.is 45 || decide (f.b < q.b) then none else some (q.b, f.b, v) := by
  match m with
  | [] => rw [memP, h, hd]; rfl
  | f :: v => rw [memP, h, hd]; rfl
set_option maxRecDepth 100000 in
set_option maxHeartbeats 1000000 in
theorem readMember_calls (s : ByteArray) (k : Nat) (m : List Mk) (r : List UInt8) (w : World) (hs : s.size ≤ maxLen) (hk : k ≤ s.size) (hm : mksM (s.data.toList.drop k) = (m, r)) :
    Calls Tryz.prog 232 #[.string s, .int .i64 k] w fun e w' => MemPost s k m r e ∧ w' = w := by
  have HM : Hid (mksM (s.data.toList.drop k) = (m, r)) := hm
  have H47 : Hid (∀ q ∈ m, q.is 47 = false) := fun q hq => no47 (s.data.toList.drop k) q (by rw [hm]; exact hq)
  clear hm
  have hs' := hs
  unfold maxLen at hs'
  go_enter Tryz.func232, Tryz.ntmps232
  go_wp2_with fail
  refine (readMark_calls s k m r w hs hk HM.out).mono ?_
  rintro e w' ⟨⟨q, m1, n, rfl, hq, hq2, hkn, hn, hm1, rfl⟩ | ⟨hno, n, rfl, hn1, hn2⟩, rfl⟩
  · rw [bar_mem q (H47.out q (by simp))] at hq
    have HQ : Hid ((q.is 93 || q.is 45) = false) := hq
    have HM1 : Hid (mksM (s.data.toList.drop n) = (m1, r)) := hm1
    clear hq hm1 HM
    obtain ⟨hst, hst2⟩ := stB_mk _ 45 _ _ HM1.out (by decide) (by decide) (by decide)
    have HST : Hid (stB (s.data.toList.drop n) 45 = hdIs m1 45) := hst
    have HST2 : Hid (stB (s.data.toList.drop n) 45 = true → ∃ k m', m1 = k :: m' ∧ mksM ((s.data.toList.drop n).drop 1) = (m', r)) := hst2
    clear hst hst2
    obtain ⟨x, hx⟩ : ∃ x, q.b = x := ⟨_, rfl⟩
    rw [hx] at hq2 ⊢
    have HX : Hid (q.b = x) := hx
    clear hx
    go_wp2_with fail
    refine (stands_calls s n 45 _ hs hn (by decide)).mono ?_
    rintro e w2 ⟨rfl, rfl⟩
    cases hb : stB (s.data.toList.drop n) 45
    · have HP : Hid (MemPost s k (q :: m1) r (.returned (.tuple #[.int .u8 x, .int .u8 x, .int .i64 n, .bool true]))) := .inl ⟨q.b, q.b, m1, n, memP_one q m1 HQ.out (by rw [← HST.out]; exact hb), by rw [HX.out]; exact hq2, by rw [HX.out]; exact hq2, hkn, hn, HM1.out, by rw [HX.out]⟩
      clear hb
      go_wp2
      (try simp only [Exit.inBlock, Exit.then])
      refine bodyPost_ret (results_tmp4 rfl _ _ _) rfl ?_
      exact ⟨HP.out, rfl⟩
    · obtain ⟨d, m2, rfl, hm2⟩ := HST2.out hb
      have HD : Hid (d.is 45 = true) := by show _ = _; rw [← hb, HST.out]; rfl
      rw [List.drop_drop] at hm2
      have hn1 : n + 1 ≤ s.size := by
        refine Nat.lt_of_not_le fun h => ?_
        rw [List.drop_of_length_le (by rw [ba_len]; omega)] at hb
        cases hb
      have HM2 : Hid (mksM (s.data.toList.drop (n + 1)) = (m2, r)) := hm2
      clear hm2 hb HST HST2 HM1
      go_wp2_with fail
      have HC := readMark_calls s (n + 1) m2 r w2 hs hn1 HM2.out
      rw [show ((n + 1 : Nat) : Int) = (n : Int) + 1 from rfl] at HC
      refine HC.mono ?_
      clear HC
      rintro e w3 ⟨⟨f, m3, n3, rfl, hf, hf2, hkn3, hn3, hm3, rfl⟩ | ⟨hno, n3, rfl, hn31, hn32⟩, rfl⟩
      · rw [bar_mem f (H47.out f (by simp))] at hf
        obtain ⟨y, hy⟩ : ∃ y, f.b = y := ⟨_, rfl⟩
        rw [hy] at hf2 ⊢
        have HY : Hid (f.b = y) := hy
        have HF : Hid ((f.is 93 || f.is 45) = false) := hf
        have HM3 : Hid (mksM (s.data.toList.drop n3) = (m3, r)) := hm3
        clear hy hf hm3
        by_cases hlt : y < x
        · have HP : Hid (MemPost s k (q :: d :: f :: m3) r (.returned (.tuple #[.int .u8 0, .int .u8 0, .int .i64 k, .bool false]))) := .inr ⟨by
            rw [memP_two q d _ HQ.out HD.out]
            show (if (f.is 93 || f.is 45 || decide (f.b < q.b)) = true then none else some (q.b, f.b, m3)) = none
            rw [HF.out, HX.out, HY.out, decide_eq_true hlt]; rfl, k, rfl, by omega, by omega⟩
          have hlt1 : (y : Int) < (x : Int) := by omega
          go_wp2
          (try simp only [Exit.inBlock, Exit.then])
          refine bodyPost_ret (results_tmp4 rfl _ _ _) rfl ?_
          exact ⟨HP.out, rfl⟩
        · have HP : Hid (MemPost s k (q :: d :: f :: m3) r (.returned (.tuple #[.int .u8 x, .int .u8 y, .int .i64 n3, .bool true]))) := .inl ⟨x, y, m3, n3, by
            rw [memP_two q d _ HQ.out HD.out]
            show (if (f.is 93 || f.is 45 || decide (f.b < q.b)) = true then none else some (q.b, f.b, m3)) = _
            rw [HF.out, HX.out, HY.out, decide_eq_false hlt]; rfl, hq2, hf2, by omega, hn3, HM3.out, rfl⟩
          have hlt1 : ¬ (y : Int) < (x : Int) := by omega
          go_wp2
          (try simp only [Exit.inBlock, Exit.then])
          refine bodyPost_ret (results_tmp4 rfl _ _ _) rfl ?_
          exact ⟨HP.out, rfl⟩
      · have HP : Hid (MemPost s k (q :: d :: m2) r (.returned (.tuple #[.int .u8 0, .int .u8 0, .int .i64 k, .bool false]))) := .inr ⟨by
          rw [memP_two q d _ HQ.out HD.out]
          rcases hno with rfl | ⟨f, v, rfl, hf⟩
          · rfl
          · rw [bar_mem f (H47.out f (by simp))] at hf
            show (if (f.is 93 || f.is 45 || decide (f.b < q.b)) = true then none else some (q.b, f.b, v)) = none
            rw [hf]; rfl, k, rfl, by omega, by omega⟩
        clear hno
        go_wp2
        (try simp only [Exit.inBlock, Exit.then])
        refine bodyPost_ret (results_tmp4 rfl _ _ _) rfl ?_
        exact ⟨HP.out, rfl⟩
  · have HP : Hid (MemPost s k m r (.returned (.tuple #[.int .u8 0, .int .u8 0, .int .i64 n, .bool false]))) := .inr ⟨by
      rcases hno with rfl | ⟨q, v, rfl, hq⟩
      · rfl
      · rw [bar_mem q (H47.out q (by simp))] at hq
        exact memP_none q v hq, n, rfl, hn1, hn2⟩
    clear hno HM
    go_wp2
    (try simp only [Exit.inBlock, Exit.then])
    refine bodyPost_ret (results_tmp4 rfl _ _ _) rfl ?_
    exact ⟨HP.out, rfl⟩
end Go.Proofs.YtlppphmnegdhoabGreatDoor

namespace Go.Proofs.YtlppphmnegdhoabGreatDoor
set_option linter.unusedVariables false
set_option maxRecDepth 100000
open Go.RowKit
open M

/-- a box of Booleans that may be written into -/
structure BR (w : World) (g n : Nat) (f : Nat → Bool) : Prop where
  lt : g < w.heap.size
  c : ∀ i, i < n → w.cell? ⟨g, i, none⟩ = some (.bool (f i))
  fz : ∀ i, i < n → w.frozen? ⟨g, i, none⟩ = false
theorem BR.keep {w w' : World} {g n : Nat} {f : Nat → Bool} (h : BR w g n f) (hk : w'.heap[g]? = w.heap[g]?) (hs : w.heap.size ≤ w'.heap.size) : BR w' g n f :=
  ⟨by have := h.lt; omega, fun i hi => (World.cell?_of_block hk).trans (h.c i hi), fun i hi => (World.frozen?_of_block hk).trans (h.fz i hi)⟩
theorem BR.below {w w' : World} {g n B : Nat} {f : Nat → Bool} (h : BR w g n f) (hb : Below B w w') (hg : g < B) : BR w' g n f := h.keep (hb.block g hg) hb.size
theorem BR.congr {w : World} {g n : Nat} {f f' : Nat → Bool} (h : BR w g n f) (e : ∀ i, i < n → f i = f' i) : BR w g n f' :=
  ⟨h.lt, fun i hi => by rw [← e i hi]; exact h.c i hi, h.fz⟩
theorem BR.set {w : World} {g n : Nat} {f : Nat → Bool} (h : BR w g n f) (q : Nat) (hq : q < n) (b : Bool) : BR (w.setCell ⟨g, q, none⟩ (.bool b)) g n (fun i => if i = q then b else f i) := by
  refine ⟨by simpa using h.lt, fun i hi => ?_, fun i hi => by simpa using h.fz i hi⟩
  by_cases hqi : i = q
  · subst hqi
    rw [if_pos rfl]
    exact World.cell?_setCell_same' _ _ _ (by rw [h.c i hi]; rfl)
  · rw [if_neg hqi]
    rw [World.cell?_setCell_other _ _ _ _ (fun e => hqi (congrArg Addr.off e).symm)]
    exact h.c i hi
theorem BR.drew {w : World} {g n : Nat} {f : Nat → Bool} (h : BR w g n f) : BR w.drew g n f := h.keep rfl (Nat.le_refl _)
/-- all but one block is as it was -/
structure Only (b : Nat) (w w' : World) : Prop where
  os : w'.os = w.os
  tape : w'.tape = w.tape
  output : w'.output = w.output
  size : w'.heap.size = w.heap.size
  block : ∀ k, k ≠ b → w'.heap[k]? = w.heap[k]?
theorem Only.refl (b : Nat) (w : World) : Only b w w := ⟨rfl, rfl, rfl, rfl, fun _ _ => rfl⟩
theorem Only.trans {b : Nat} {w1 w2 w3 : World} (h : Only b w1 w2) (g : Only b w2 w3) : Only b w1 w3 := ⟨g.os.trans h.os, g.tape.trans h.tape, g.output.trans h.output, g.size.trans h.size, fun k hk => (g.block k hk).trans (h.block k hk)⟩
theorem Only.below {b B : Nat} {w w' : World} (h : Only b w w') (hB : B ≤ b) : Below B w w' := ⟨h.os, h.tape, h.output, by rw [h.size]; exact Nat.le_refl _, fun k hk => h.block k (by omega)⟩
theorem Only.set (b o : Nat) (u : Value) (w : World) : Only b w (w.setCell ⟨b, o, none⟩ u) := ⟨rfl, rfl, rfl, by simp, fun k hk => heap_setCell_other w _ k u hk⟩
theorem Only.drew {b : Nat} {w w' : World} (h : Only b w w') : Only b w w'.drew := ⟨h.os, h.tape, h.output, h.size, h.block⟩

def addF (lo hi : Nat) (f : Nat → Bool) : Nat → Bool := fun i => if lo ≤ i ∧ i ≤ hi then true else f i
set_option maxRecDepth 100000 in
set_option maxHeartbeats 1000000 in
theorem itadd_calls (b lo hi : Nat) (f : Nat → Bool) (w : World) (h : BR w b 257 f) (hlo : lo < 256) (hhi : hi < 256) :
    Calls Tryz.prog 233 #[.pointer (some ⟨b, 0, none⟩), .int .u8 lo, .int .u8 hi] w fun e w' => e = .returned (.tuple #[]) ∧ BR w' b 257 (addF lo hi f) ∧ Only b w w' := by
  go_enter Tryz.func233, Tryz.ntmps233
  go_wp2
  go_loopw [6] (fun i' wr => ∃ i : Nat, lo ≤ i ∧ i ≤ 256 ∧ (i ≤ hi + 1 ∨ i = lo) ∧ i' = .int .i64 i ∧ Hid (BR wr b 257 (fun q => if lo ≤ q ∧ q < i then true else f q) ∧ Only b w wr)) (fun i' _ => 256 - (intOf i').toNat)
  case atStart => exact ⟨lo, Nat.le_refl _, by omega, .inr rfl, rfl, h.congr (fun i _ => by rw [if_neg (by omega)]), Only.refl _ _⟩
  case round =>
    obtain ⟨i, h1, h2, h3, rfl, HB⟩ := hrel
    by_cases hlt : i ≤ hi
    · have hlt1 : (i : Int) ≤ (hi : Int) := by omega
      have hlt2 : (i : Int) < 256 := by omega
      have hc := HB.out.1.c i (by omega)
      have hf := HB.out.1.fz i (by omega)
      go_wp2
      go_round
      case rel => exact ⟨i + 1, by omega, by omega, .inl (by omega), by go_num, (HB.out.1.set i (by omega) true).congr (fun q _ => by
        by_cases e : q = i
        · rw [if_pos e, if_pos (by omega)]
        · rw [if_neg e]
          by_cases e2 : lo ≤ q ∧ q < i
          · rw [if_pos e2, if_pos (by omega)]
          · rw [if_neg e2, if_neg (by omega)]), HB.out.2.trans (Only.set _ _ _ _)⟩
      case measure => simp [intOf]; omega
    · have hlt1 : ¬ (i : Int) ≤ (hi : Int) := by omega
      go_wp2
      go_end0
      refine ⟨rfl, HB.out.1.congr (fun q _ => ?_), HB.out.2⟩
      unfold addF
      by_cases e2 : lo ≤ q ∧ q < i
      · rw [if_pos e2, if_pos (by omega)]
      · rw [if_neg e2, if_neg (by omega)]

def turnF (f : Nat → Bool) : Nat → Bool := fun i => if i < 256 then !f i else f i
set_option maxRecDepth 100000 in
set_option maxHeartbeats 1000000 in
theorem turn_calls (b : Nat) (f : Nat → Bool) (w : World) (h : BR w b 257 f) :
    Calls Tryz.prog 210 #[.pointer (some ⟨b, 0, none⟩)] w fun e w' => e = .returned (.tuple #[]) ∧ BR w' b 257 (turnF f) ∧ Only b w w' := by
  go_enter Tryz.func210, Tryz.ntmps210
  go_wp2
  go_loopw [3] (fun i' wr => ∃ i : Nat, i ≤ 256 ∧ i' = .int .i64 i ∧ Hid (BR wr b 257 (fun q => if q < i then !f q else f q) ∧ Only b w wr)) (fun i' _ => 256 - (intOf i').toNat)
  case atStart => exact ⟨0, by omega, rfl, h.congr (fun i _ => by rw [if_neg (by omega)]), Only.refl _ _⟩
  case round =>
    obtain ⟨i, h2, rfl, HB⟩ := hrel
    by_cases hlt : i < 256
    · have hlt2 : (i : Int) < 256 := by omega
      have hc := HB.out.1.c i (by omega)
      have hf := HB.out.1.fz i (by omega)
      rw [if_neg (Nat.lt_irrefl _)] at hc
      go_wp2_with fail
      go_region
      go_wp2
      go_round
      case rel => exact ⟨i + 1, by omega, by go_num, (HB.out.1.drew.set i (by omega) (!f i)).congr (fun q _ => by
        by_cases e : q = i
        · rw [if_pos e, if_pos (by omega), e]
        · rw [if_neg e]
          by_cases e2 : q < i
          · rw [if_pos e2, if_pos (by omega)]
          · rw [if_neg e2, if_neg (by omega)]), HB.out.2.drew.trans (Only.set _ _ _ _)⟩
      case measure => simp [intOf]; omega
    · obtain rfl : i = 256 := by omega
      go_wp2
      go_end0
      exact ⟨rfl, HB.out.1, HB.out.2⟩
end Go.Proofs.YtlppphmnegdhoabGreatDoor

namespace Go.Proofs.YtlppphmnegdhoabGreatDoor
set_option linter.unusedVariables false
set_option maxRecDepth 100000
open Go.RowKit
open M

theorem infoIt : (Tryz.prog.info? 211).map (fun i => (i.zero, i.size)) = some (some (.agg (Array.replicate 257 (.bool false))), 257) := by kernel_rfl
theorem undIt : ∃ fs, Tryz.prog.underlying 211 = some (.struct fs) := ⟨_, Tryz.underlying211⟩
/-- Booleans, a cell each -/
def bC (n : Nat) (f : Nat → Bool) : List Value := (List.range n).map (fun i => .bool (f i))
theorem bC_len (n : Nat) (f : Nat → Bool) : (bC n f).length = n := by simp [bC]
theorem bC_get (n : Nat) (f : Nat → Bool) (i : Nat) (h : i < n) : (bC n f)[i]? = some (.bool (f i)) := by simp [bC, h]
theorem bC_one (n : Nat) (f : Nat → Bool) : ∀ v ∈ bC n f, v.oneCell' = true := by
  intro v hv
  simp [bC] at hv
  obtain ⟨a, _, rfl⟩ := hv
  rfl
theorem bC_congr (n : Nat) (f g : Nat → Bool) (h : ∀ i, i < n → f i = g i) : bC n f = bC n g := by
  unfold bC
  apply List.map_congr_left
  intro i hi
  rw [h i (by simpa using hi)]
def itV (f : Nat → Bool) : Value := .agg (bC 257 f).toArray
theorem BR.range {w : World} {g n : Nat} {f : Nat → Bool} (h : BR w g n f) : w.rangeAt g 0 (bC n f) := fun j v hv => by
  have hj : j < n := by have := (List.getElem?_eq_some_iff.1 hv).1; rwa [bC_len] at this
  rw [bC_get n f j hj] at hv
  rw [Nat.zero_add, h.c j hj]; exact hv
theorem BR.there {w : World} {g n : Nat} {f : Nat → Bool} (h : BR w g n f) : w.there g 0 n := fun j hj => by
  rw [Nat.zero_add]
  exact ⟨by rw [h.c j hj]; rfl, h.fz j hj⟩
theorem heap_setCells_other (b : Nat) (vs : List Value) : ∀ (o : Nat) (w : World) (k : Nat), k ≠ b → (w.setCells b o vs).heap[k]? = w.heap[k]? := by
  induction vs with
  | nil => intro o w k h; rfl
  | cons v vs ih =>
    intro o w k h
    rw [World.setCells, ih _ _ k h]
    exact heap_setCell_other w _ k v h
theorem setCells_plain (b : Nat) (vs : List Value) : ∀ (o : Nat) (w : World), (w.setCells b o vs).os = w.os ∧ (w.setCells b o vs).tape = w.tape ∧ (w.setCells b o vs).output = w.output ∧ (w.setCells b o vs).heap.size = w.heap.size := by
  induction vs with
  | nil => intro o w; exact ⟨rfl, rfl, rfl, rfl⟩
  | cons v vs ih =>
    intro o w
    rw [World.setCells]
    obtain ⟨h1, h2, h3, h4⟩ := ih (o + 1) (w.setCell ⟨b, o, none⟩ v)
    exact ⟨h1, h2, h3, by rw [h4]; simp⟩
theorem Only.setCells (b o : Nat) (vs : List Value) (w : World) : Only b w (w.setCells b o vs) := by
  obtain ⟨h1, h2, h3, h4⟩ := setCells_plain b vs o w
  exact ⟨h1, h2, h3, h4, fun k hk => heap_setCells_other b vs o w k hk⟩
theorem BR.store {w : World} {g n : Nat} {f : Nat → Bool} (h : BR w g n f) (f' : Nat → Bool) : BR (w.setCells g 0 (bC n f')) g n f' := by
  have ht := h.there
  have hr := World.rangeAt_setCells_same w g 0 (bC n f') (by rw [bC_len]; exact ht)
  refine ⟨by rw [(setCells_plain g _ 0 w).2.2.2]; exact h.lt, fun i hi => ?_, fun i hi => ?_⟩
  · have := hr i _ (bC_get n f' i hi)
    rwa [Nat.zero_add] at this
  · rw [World.frozen?_setCells]; exact h.fz i hi
theorem BR.new (w : World) (t : TypeId) (n : Nat) : BR (w.alloc (.cells (Array.replicate n (.bool false)) t)) w.heap.size n (fun _ => false) := by
  refine ⟨by simp, fun i hi => ?_, fun i hi => ?_⟩
  · rw [cell_of_row _ _ _ _ _ _ (heap_alloc_new w _)]
    simp [hi]
  · simp [go_sem]
theorem BR.load {w : World} {g : Nat} {f : Nat → Bool} (h : BR w g 257 f) : (loadVar 211 ⟨g, 0, none⟩).run Tryz.prog w = .ok (itV f) w := by
  obtain ⟨fs, hu⟩ := undIt
  exact run_loadVar_mid w g 0 _ (bC 257 f) _ h.range hu rfl (by rw [bC_len]; exact (zero_of_info infoIt).2)
theorem BR.sto {w : World} {g : Nat} {f : Nat → Bool} (h : BR w g 257 f) (f' : Nat → Bool) : (storeVar 211 ⟨g, 0, none⟩ (itV f')).run Tryz.prog w = .ok () (w.setCells g 0 (bC 257 f')) := by
  have := run_storeVar_mid (P := Tryz.prog) w g 0 211 (bC 257 f').toArray (by rw [List.size_toArray, bC_len]; exact h.there) (by rw [List.size_toArray, bC_len]; exact (zero_of_info infoIt).2) (all_oneCell_toArray (bC_one _ _))
  exact this
theorem results_item {fn : Func} {p u v : Tmp} (h : fn.results = #[.cell p 211, .tmp u, .tmp v]) (tmps : Array Value) (w : World) (g : Nat) (f : Nat → Bool) (hp : tmps.getD p undef = .pointer (some ⟨g, 0, none⟩)) (hb : BR w g 257 f) :
    (results fn tmps).run Tryz.prog w = .ok (.tuple #[itV f, tmps.getD u undef, tmps.getD v undef]) w := by
  have hp' : tmps[p]?.getD undef = .pointer (some ⟨g, 0, none⟩) := by simpa using hp
  simp [results, h, hp', asAddr, hb.load, Result.andThen]
/-- an item out of a box, by value -/
theorem it_load {ops : Array Oper} {rest : List Oper} {op : Oper} {a : Act} {w : World} {Q : Exit → Act → World → Prop} {g : Nat} {f : Nat → Bool} (hb : BR w g 257 f) (hgd : op.guard = none) (x : Operand) (ho : op.op = .load 211 x) (hx : a.eval x = .pointer (some ⟨g, 0, none⟩))
    (h : wpList Tryz.prog ops Q rest (a.put op.dst (itV f)) w) : wpList Tryz.prog ops Q (op :: rest) a w := by
  obtain ⟨fs, hu⟩ := undIt
  exact wpList_load_mid hgd _ x ho g 0 hx (bC 257 f) _ hb.range hu rfl (by rw [bC_len]; exact (zero_of_info infoIt).2) h
/-- an item into a box -/
theorem it_store {ops : Array Oper} {rest : List Oper} {op : Oper} {a : Act} {w : World} {Q : Exit → Act → World → Prop} {g : Nat} {f : Nat → Bool} (hb : BR w g 257 f) (hgd : op.guard = none) (x y : Operand) (ho : op.op = .store 211 x y) (hx : a.eval x = .pointer (some ⟨g, 0, none⟩)) (f' : Nat → Bool) (hy : a.eval y = itV f')
    (h : ∀ w', BR w' g 257 f' → Only g w w' → wpList Tryz.prog ops Q rest (a.put op.dst undef) w') : wpList Tryz.prog ops Q (op :: rest) a w := by
  have := h _ (hb.store f') (Only.setCells g 0 (bC 257 f') w)
  exact wpList_store_mid hgd _ x y ho g 0 (bC 257 f').toArray hx hy (by rw [List.size_toArray, bC_len]; exact hb.there) (by rw [List.size_toArray, bC_len]; exact (zero_of_info infoIt).2) (all_oneCell_toArray (bC_one _ _)) this
/-- what an item says, of each byte; and whether there may be any number -/
def itF (x : It) : Nat → Bool := fun i => if i = 256 then x.star else hasI x i
end Go.Proofs.YtlppphmnegdhoabGreatDoor

namespace Go.Proofs.YtlppphmnegdhoabGreatDoor
set_option linter.unusedVariables false
set_option maxRecDepth 100000
open Go.RowKit
open M

theorem itV_congr {f g : Nat → Bool} (h : ∀ i, i < 257 → f i = g i) : itV f = itV g := by unfold itV; rw [bC_congr 257 f g h]
theorem zeroV : (.agg (Array.replicate 257 (.bool false)) : Value) = itV (fun _ => false) := by
  unfold itV bC
  congr 1
def accF (acc : List (Nat × Nat)) : Nat → Bool := fun i => if i = 256 then false else acc.any (fun r => decide (r.1 ≤ i) && decide (i ≤ r.2))
theorem accF_snoc (acc : List (Nat × Nat)) (lo hi : Nat) (hhi : hi < 256) (i : Nat) : addF lo hi (accF acc) i = accF (acc ++ [(lo, hi)]) i := by
  unfold addF accF
  by_cases e : i = 256
  · rw [if_neg (by omega), if_pos e, if_pos e]
  · rw [if_neg e, if_neg e, List.any_append]
    by_cases e2 : lo ≤ i ∧ i ≤ hi
    · rw [if_pos e2]; simp [e2]
    · rw [if_neg e2]
      have : (decide (lo ≤ i) && decide (i ≤ hi)) = false := by
        rw [Bool.eq_false_iff]; intro h; simp at h; exact e2 h
      simp [this]
theorem accF_it (acc : List (Nat × Nat)) (i : Nat) : accF acc i = itF ⟨false, false, false, acc⟩ i := by
  unfold accF itF hasI
  split
  · rfl
  · simp
theorem turn_it (acc : List (Nat × Nat)) (i : Nat) (h : i < 257) : turnF (accF acc) i = itF ⟨false, true, false, acc⟩ i := by
  unfold turnF accF itF hasI
  by_cases e : i = 256
  · subst e; rfl
  · rw [if_pos (by omega), if_neg e, if_neg e]; simp
/-- a set behind its bracket -/
def SetPost (s : ByteArray) (k : Nat) (m : List Mk) (r : List UInt8) (e : Ending) : Prop :=
  (∃ (no : Bool) (acc : List (Nat × Nat)) (m' : List Mk) (n : Nat), setM m = some (no, acc, m') ∧ k < n ∧ n ≤ s.size ∧ mksM (s.data.toList.drop n) = (m', r) ∧ e = .returned (.tuple #[itV (itF ⟨false, no, false, acc⟩), .int .i64 n, .bool true])) ∨
  (setM m = none ∧ e = .returned (.tuple #[itV (fun _ => false), .int .i64 k, .bool false]))
theorem set_by (m : List Mk) (oth : Bool) (h : oth = hdIs m 94) : setM m = (membersM (if oth then m.drop 1 else m) []).map (fun r => (oth, r.1, r.2)) := by
  match m with
  | [] => subst h; rfl
  | d :: u =>
    have e : oth = d.is 94 := h
    show (if d.is 94 then _ else _) = _
    rw [← e]
    cases oth <;> rfl
/-- what the reader of members holds -/
def MemAt (s : ByteArray) (k : Nat) (m : List Mk) (r : List UInt8) (v1 v2 v3 v4 : Value) : Prop :=
  (∃ (lo hi : Nat) (m' : List Mk) (n : Nat), memP m = some (lo, hi, m') ∧ lo < 256 ∧ hi < 256 ∧ k < n ∧ n ≤ s.size ∧ mksM (s.data.toList.drop n) = (m', r) ∧ v1 = .int .u8 lo ∧ v2 = .int .u8 hi ∧ v3 = .int .i64 n ∧ v4 = .bool true) ∨
  (memP m = none ∧ v1 = .int .u8 0 ∧ v2 = .int .u8 0 ∧ ∃ n : Nat, v3 = .int .i64 n ∧ v4 = .bool false)
theorem mem_at {s : ByteArray} {k : Nat} {m : List Mk} {r : List UInt8} {e : Ending} (h : MemPost s k m r e) : ∃ v1 v2 v3 v4, e = .returned (.tuple #[v1, v2, v3, v4]) ∧ MemAt s k m r v1 v2 v3 v4 := by
  rcases h with ⟨lo, hi, m', n, h1, h2, h3, h4, h5, h6, rfl⟩ | ⟨h1, n, rfl, _, _⟩
  · exact ⟨_, _, _, _, rfl, .inl ⟨lo, hi, m', n, h1, h2, h3, h4, h5, h6, rfl, rfl, rfl, rfl⟩⟩
  · exact ⟨_, _, _, _, rfl, .inr ⟨h1, rfl, rfl, n, rfl, rfl⟩⟩
theorem members_stop (m : List Mk) (acc : List (Nat × Nat)) (h : memP m = none) : (hdIs m 93 = true → acc ≠ [] → ∀ k m', m = k :: m' → membersM m acc = some (acc, m')) ∧ (hdIs m 93 = false ∨ acc = [] → membersM m acc = none) := by
  have hst := members_step m acc
  rw [h] at hst
  match m with
  | [] => exact ⟨fun e => Bool.noConfusion e, fun _ => hst⟩
  | k :: m' =>
    have hst2 : membersM (k :: m') acc = if k.is 93 then (if acc = [] then none else some (acc, m')) else none := hst
    refine ⟨fun e ha k2 m2 e2 => ?_, fun e => ?_⟩
    · have e' : k.is 93 = true := e
      simp at e2
      rw [hst2, if_pos e', if_neg ha, e2.2]
    · rw [hst2]
      rcases e with e | e
      · have e' : k.is 93 = false := e
        rw [e']; rfl
      · rw [if_pos e]; split <;> rfl
theorem stB_size (s : ByteArray) (k c : Nat) (hb : stB (s.data.toList.drop k) c = true) : k + 1 ≤ s.size := by
  refine Nat.lt_of_not_le fun h => ?_
  rw [List.drop_of_length_le (by rw [ba_len]; omega)] at hb
  cases hb

set_option maxRecDepth 100000 in
set_option maxHeartbeats 2000000 in
theorem readMembers_calls (s : ByteArray) (k : Nat) (m : List Mk) (r : List UInt8) (w : World) (hs : s.size ≤ maxLen) (hk : k ≤ s.size) (hm : mksM (s.data.toList.drop k) = (m, r)) :
    Calls Tryz.prog 209 #[.string s, .int .i64 k] w fun e w' => SetPost s k m r e ∧ Below w.heap.size w w' := by
  obtain ⟨h94, h94'⟩ := stB_mk _ 94 _ _ hm (by decide) (by decide) (by decide)
  obtain ⟨oth, hoth⟩ : ∃ b, stB (s.data.toList.drop k) 94 = b := ⟨_, rfl⟩
  have HO : Hid (setM m = (membersM (if oth then m.drop 1 else m) []).map (fun r => (oth, r.1, r.2))) := set_by m oth (hoth.symm.trans h94)
  obtain ⟨p, hp⟩ : ∃ p : Nat, p = if oth then k + 1 else k := ⟨_, rfl⟩
  obtain ⟨m0, hm0⟩ : ∃ m0 : List Mk, m0 = if oth then m.drop 1 else m := ⟨_, rfl⟩
  have hps : p ≤ s.size := by
    cases oth
    · rw [hp]; exact hk
    · rw [hp]; exact stB_size s k 94 hoth
  have hkp : k ≤ p := by rw [hp]; cases oth <;> simp
  have HM0 : Hid (mksM (s.data.toList.drop p) = (m0, r)) := by
    show _ = _
    rw [hp, hm0]
    cases oth
    · exact hm
    · obtain ⟨q, m1, e1, e2⟩ := h94' hoth
      rw [List.drop_drop] at e2
      rw [e1]; exact e2
  rw [← hm0] at HO
  have HP : Hid (p = if oth then k + 1 else k) := hp
  have HOTH : Hid (stB (s.data.toList.drop k) 94 = oth) := hoth
  clear h94 h94' hm hp hm0 hoth
  have hs' := hs
  unfold maxLen at hs'
  have hzv := (zero_of_info infoIt).1
  obtain ⟨g0, hg0⟩ : ∃ g, w.heap.size = g := ⟨_, rfl⟩
  rw [hg0]
  go_enter Tryz.func209, Tryz.ntmps209
  go_wp2_with fail
  have hb0 : BR (w.alloc (.cells (Array.replicate 257 (.bool false)) 211)) w.heap.size 257 (fun _ => false) := BR.new w _ 257
  have B0 : Below w.heap.size w (w.alloc (.cells (Array.replicate 257 (.bool false)) 211)) := (Below.refl _ _).alloc (Nat.le_refl _) _
  have hsz0 : (w.alloc (.cells (Array.replicate 257 (.bool false)) 211)).heap.size = w.heap.size + 1 := by simp
  generalize w.alloc (.cells (Array.replicate 257 (.bool false)) 211) = W0 at *
  have hb1 : BR (W0.alloc (.cells (Array.replicate 257 (.bool false)) 211)) W0.heap.size 257 (fun _ => false) := BR.new W0 _ 257
  have hb01 : BR (W0.alloc (.cells (Array.replicate 257 (.bool false)) 211)) w.heap.size 257 (fun _ => false) := hb0.below ((Below.refl _ _).alloc (Nat.le_refl _) _) (by omega)
  have B1 : Below w.heap.size w (W0.alloc (.cells (Array.replicate 257 (.bool false)) 211)) := B0.alloc (by omega) _
  generalize W0.alloc (.cells (Array.replicate 257 (.bool false)) 211) = W at *
  rw [hsz0] at hb1
  rw [hg0] at hb1 hb01 B1
  clear hb0 B0 hsz0 hg0
  refine (stands_calls s k 94 _ hs hk (by decide)).mono ?_
  rintro e w2 ⟨rfl, rfl⟩
  rw [HOTH.out]
  go_upto_if 19 with fail
  go_cut [8] (fun v wx => v = .int .i64 p ∧ wx = w2)
  case first =>
    cases oth
    · obtain rfl : p = k := HP.out
      go_wp2
      go_meet
      exact ⟨rfl, rfl⟩
    · obtain rfl : p = k + 1 := HP.out
      go_wp2
      go_meet
      exact ⟨rfl, rfl⟩
  case rest =>
    obtain ⟨rfl, rfl⟩ := hcut
    go_wp2_with fail
    refine (readMember_calls s p m0 r _ hs hps HM0.out).mono ?_
    rintro e w3 ⟨hpost, rfl⟩
    obtain ⟨v1, v2, v3, v4, rfl, hat⟩ := mem_at hpost
    have HAT : Hid (MemAt s p m0 r v1 v2 v3 v4) := hat
    clear hpost hat
    go_wp2_with fail
    go_loopw [10, 11, 12, 13, 14] (fun v10 v11 v12 v13 v14 wr => ∃ (n : Nat) (acc : List (Nat × Nat)) (m1 : List Mk), v10 = .int .i64 n ∧ p ≤ n ∧ n ≤ s.size ∧ Hid (mksM (s.data.toList.drop n) = (m1, r)) ∧ Hid (membersM m0 [] = membersM m1 acc) ∧ Hid (acc = [] ↔ n = p) ∧ Hid (MemAt s n m1 r v11 v12 v13 v14) ∧ BR wr (g0 + 1) 257 (accF acc) ∧ BR wr g0 257 (fun _ => false) ∧ Below g0 w wr) (fun v10 _ _ _ _ _ => s.size - (intOf v10).toNat)
    case atStart =>
      refine ⟨p, [], m0, rfl, Nat.le_refl _, hps, HM0, rfl, ⟨fun _ => rfl, fun _ => rfl⟩, HAT, hb1.congr (fun i _ => ?_), hb01, B1⟩
      unfold accF; split <;> rfl
    case round =>
      obtain ⟨n, acc, m1, rfl, hpn, hns, HM1, HME, HAC, HAT2, hbr, hbr0, Br⟩ := hrel
      rcases HAT2.out with ⟨lo, hi, m2, n2, hmem, hlo, hhi, hn2, hn2s, hm2, rfl, rfl, rfl, rfl⟩ | ⟨hmem, rfl, rfl, n2, rfl, rfl⟩
      · have HM2 : Hid (mksM (s.data.toList.drop n2) = (m2, r)) := hm2
        have HME2 : Hid (membersM m0 [] = membersM m2 (acc ++ [(lo, hi)])) := by
          show _ = _
          rw [HME.out, members_step m1, hmem]
        clear hmem hm2 HAT2 HME
        go_wp2_with fail
        refine (itadd_calls _ lo hi _ _ hbr hlo hhi).mono ?_
        rintro e w4 ⟨rfl, hb4, O4⟩
        have hb40 := hbr0.keep (O4.block _ (by omega)) (by rw [O4.size]; exact Nat.le_refl _)
        have B4 := Br.trans (O4.below (B := g0) (by omega))
        go_wp2_with fail
        refine (readMember_calls s n2 m2 r _ hs hn2s HM2.out).mono ?_
        rintro e w5 ⟨hpost, rfl⟩
        obtain ⟨x1, x2, x3, x4, rfl, hat⟩ := mem_at hpost
        have HAT3 : Hid (MemAt s n2 m2 r x1 x2 x3 x4) := hat
        clear hpost hat
        go_wp2_with fail
        go_roundw
        case rel =>
          exact ⟨n2, acc ++ [(lo, hi)], m2, rfl, by omega, hn2s, HM2, HME2, ⟨fun e => absurd e (by simp), fun e => by omega⟩, HAT3, hb4.congr (fun i _ => accF_snoc acc lo hi hhi i), hb40, B4⟩
        case measure => simp [intOf]; omega
      · obtain ⟨hs1, hs2⟩ := members_stop m1 acc hmem
        have HS1 : Hid (hdIs m1 93 = true → acc ≠ [] → ∀ k m', m1 = k :: m' → membersM m1 acc = some (acc, m')) := hs1
        have HS2 : Hid (hdIs m1 93 = false ∨ acc = [] → membersM m1 acc = none) := hs2
        clear hs1 hs2 hmem HAT2
        by_cases hnp : n = p
        · have HF : Hid (SetPost s k m r (.returned (.tuple #[itV (fun _ => false), .int .i64 k, .bool false]))) := .inr ⟨by rw [HO.out, HME.out, HS2.out (.inr (HAC.out.2 hnp))]; rfl, rfl⟩
          have hnp1 : ((n : Int) == (p : Int)) = true := by simp [hnp]
          clear hnp
          go_wp2_with (refine it_store hbr0 rfl _ _ rfl rfl (fun _ => false) zeroV ?_; intro w5 hb5 O5)
          refine bodyPost_ret (results_item rfl _ _ _ _ rfl hb5) rfl ?_
          exact ⟨HF.out, Br.trans (O5.below (Nat.le_refl _))⟩
        · have hnp1 : ((n : Int) == (p : Int)) = false := by simp; omega
          have HNE : Hid (acc ≠ []) := fun e => hnp (HAC.out.1 e)
          clear hnp
          go_wp2_with fail
          refine (stands_calls s n 93 _ hs hns (by decide)).mono ?_
          rintro e w4 ⟨rfl, rfl⟩
          obtain ⟨h93, h93'⟩ := stB_mk _ 93 _ _ HM1.out (by decide) (by decide) (by decide)
          cases hb : stB (s.data.toList.drop n) 93
          · have HF : Hid (SetPost s k m r (.returned (.tuple #[itV (fun _ => false), .int .i64 k, .bool false]))) := .inr ⟨by rw [HO.out, HME.out, HS2.out (.inl (by rw [← h93]; exact hb))]; rfl, rfl⟩
            clear h93 h93' hb
            go_wp2_with (refine it_store hbr0 rfl _ _ rfl rfl (fun _ => false) zeroV ?_; intro w5 hb5 O5)
            refine bodyPost_ret (results_item rfl _ _ _ _ rfl hb5) rfl ?_
            exact ⟨HF.out, Br.trans (O5.below (Nat.le_refl _))⟩
          · obtain ⟨q, m3, hq, hm3⟩ := h93' hb
            have hn1 := stB_size s n 93 hb
            rw [List.drop_drop] at hm3
            have HSET : Hid (setM m = some (oth, acc, m3)) := by
              show _ = _
              rw [HO.out, HME.out, HS1.out (by rw [← h93]; exact hb) HNE.out q m3 hq]; rfl
            have HM3 : Hid (mksM (s.data.toList.drop (n + 1)) = (m3, r)) := hm3
            clear h93 h93' hb hq hm3
            cases oth
            · have HF : Hid (SetPost s k m r (.returned (.tuple #[itV (itF ⟨false, false, false, acc⟩), .int .i64 ((n + 1 : Nat) : Int), .bool true]))) := .inl ⟨false, acc, m3, n + 1, HSET.out, by omega, hn1, HM3.out, rfl⟩
              rw [itV_congr (fun i _ => (accF_it acc i).symm)] at HF
              go_wp2_with (first | refine it_load hbr rfl _ rfl rfl ?_ | (refine it_store hbr0 rfl _ _ rfl rfl _ rfl ?_; intro w5 hb5 O5))
              refine bodyPost_ret (results_item rfl _ _ _ _ rfl hb5) rfl ?_
              exact ⟨HF.out, Br.trans (O5.below (Nat.le_refl _))⟩
            · have HF : Hid (SetPost s k m r (.returned (.tuple #[itV (itF ⟨false, true, false, acc⟩), .int .i64 ((n + 1 : Nat) : Int), .bool true]))) := .inl ⟨true, acc, m3, n + 1, HSET.out, by omega, hn1, HM3.out, rfl⟩
              rw [itV_congr (fun i h => (turn_it acc i h).symm)] at HF
              go_wp2_with fail
              refine (turn_calls _ _ _ hbr).mono ?_
              rintro e w5 ⟨rfl, hb5, O5⟩
              have hb50 := hbr0.keep (O5.block _ (by omega)) (by rw [O5.size]; exact Nat.le_refl _)
              have B5 := Br.trans (O5.below (B := g0) (by omega))
              go_wp2_with (first | refine it_load hb5 rfl _ rfl rfl ?_ | (refine it_store hb50 rfl _ _ rfl rfl _ rfl ?_; intro w6 hb6 O6))
              refine bodyPost_ret (results_item rfl _ _ _ _ rfl hb6) rfl ?_
              exact ⟨HF.out, B5.trans (O6.below (Nat.le_refl _))⟩
end Go.Proofs.YtlppphmnegdhoabGreatDoor

namespace Go.Proofs.YtlppphmnegdhoabGreatDoor
set_option linter.unusedVariables false
set_option maxRecDepth 100000
open Go.RowKit
open M

/-- an item without its star -/
def BytesPost (s : ByteArray) (k : Nat) (m : List Mk) (r : List UInt8) (e : Ending) : Prop :=
  (∃ (x : It) (m' : List Mk) (n : Nat), bareM m = some (x, m') ∧ k < n ∧ n ≤ s.size ∧ mksM (s.data.toList.drop n) = (m', r) ∧ e = .returned (.tuple #[itV (itF x), .int .i64 n, .bool true])) ∨
  (bareM m = none ∧ ∃ (f : Nat → Bool) (n : Nat), e = .returned (.tuple #[itV f, .int .i64 n, .bool false]))
theorem any_it (i : Nat) (h : i < 257) : turnF (fun _ => false) i = itF ⟨true, false, false, []⟩ i := by
  unfold turnF itF hasI
  by_cases e : i = 256
  · subst e; rfl
  · rw [if_pos (by omega), if_neg e]; rfl
theorem one_it (c i : Nat) (h : i < 257) (hc : c < 256) : (if i = c then true else false) = itF ⟨false, false, false, [(c, c)]⟩ i := by
  unfold itF hasI
  by_cases e : i = 256
  · rw [if_neg (by omega), if_pos e]
  · rw [if_neg e]
    by_cases e2 : i = c
    · subst e2; simp
    · rw [if_neg e2]
      have : (decide (c ≤ i) && decide (i ≤ c)) = false := by
        rw [Bool.eq_false_iff]; intro h; simp at h; omega
      simp [this]
theorem bar_bare (q : Mk) (h47 : q.is 47 = false) (h91 : q.is 91 = false) (h46 : q.is 46 = false) : (q.p && inBs q.b [47, 46, 42, 91, 93, 94, 36]) = (q.is 42 || q.is 93 || q.is 94 || q.is 36) := by
  obtain ⟨b, p⟩ := q
  cases p
  · rfl
  · simp [Mk.is] at h47 h91 h46
    have e : ∀ c : UInt8, (c.toNat == b) = (b == c.toNat) := fun c => by
      rw [Bool.eq_iff_iff]; simp; exact eq_comm
    simp only [Mk.is, inBs, Bool.true_and, List.any_cons, List.any_nil, Bool.or_false, e]
    have e1 : (b == (47 : UInt8).toNat) = false := by simp; omega
    have e2 : (b == (46 : UInt8).toNat) = false := by simp; omega
    have e3 : (b == (91 : UInt8).toNat) = false := by simp; omega
    rw [e1, e2, e3]
    show (false || (false || ((b == 42) || (false || ((b == 93) || ((b == 94) || (b == 36))))))) = _
    simp [Bool.or_assoc]
def bareT : List Mk → Option (It × List Mk)
  | [] => none
  | c :: t => if c.is 42 || c.is 93 || c.is 94 || c.is 36 then none else some (⟨false, false, false, [(c.b, c.b)]⟩, t)
theorem bare_by (m : List Mk) (h91 : hdIs m 91 = false) (h46 : hdIs m 46 = false) : bareM m = bareT m := by
  match m, h91, h46 with
  | [], _, _ => rfl
  | c :: t, h91, h46 =>
    have e1 : c.is 91 = false := h91
    have e2 : c.is 46 = false := h46
    show (if c.is 46 then _ else if c.is 91 then _ else _) = _
    rw [e1, e2]; rfl
theorem bare_91 (c : Mk) (t : List Mk) (h : c.is 91 = true) : bareM (c :: t) = (setM t).map (fun r => (⟨false, r.1, false, r.2.1⟩, r.2.2)) := by
  have e : c.is 46 = false := by
    obtain ⟨b, p⟩ := c
    cases p
    · rfl
    · simp [Mk.is] at h ⊢; omega
  show (if c.is 46 then _ else if c.is 91 then _ else _) = _
  rw [e, h]; rfl
theorem bare_46 (c : Mk) (t : List Mk) (h : c.is 46 = true) : bareM (c :: t) = some (⟨true, false, false, []⟩, t) := by
  show (if c.is 46 then _ else _) = _
  rw [h]; rfl

set_option maxRecDepth 100000 in
set_option maxHeartbeats 2000000 in
theorem readBytes_calls (s : ByteArray) (k : Nat) (m : List Mk) (r : List UInt8) (w : World) (hs : s.size ≤ maxLen) (hk : k ≤ s.size) (hm : mksM (s.data.toList.drop k) = (m, r)) :
    Calls Tryz.prog 172 #[.string s, .int .i64 k] w fun e w' => BytesPost s k m r e ∧ Below w.heap.size w w' := by
  have HM : Hid (mksM (s.data.toList.drop k) = (m, r)) := hm
  have H47 : Hid (∀ q ∈ m, q.is 47 = false) := fun q hq => no47 (s.data.toList.drop k) q (by rw [hm]; exact hq)
  obtain ⟨h91, h91'⟩ := stB_mk _ 91 _ _ hm (by decide) (by decide) (by decide)
  obtain ⟨h46, h46'⟩ := stB_mk _ 46 _ _ hm (by decide) (by decide) (by decide)
  have H91 : Hid (stB (s.data.toList.drop k) 91 = hdIs m 91 ∧ (stB (s.data.toList.drop k) 91 = true → ∃ k' m', m = k' :: m' ∧ mksM ((s.data.toList.drop k).drop 1) = (m', r))) := ⟨h91, h91'⟩
  have H46 : Hid (stB (s.data.toList.drop k) 46 = hdIs m 46 ∧ (stB (s.data.toList.drop k) 46 = true → ∃ k' m', m = k' :: m' ∧ mksM ((s.data.toList.drop k).drop 1) = (m', r))) := ⟨h46, h46'⟩
  clear h91 h91' h46 h46' hm
  have hs' := hs
  unfold maxLen at hs'
  have hzv := (zero_of_info infoIt).1
  obtain ⟨g0, hg0⟩ : ∃ g, w.heap.size = g := ⟨_, rfl⟩
  rw [hg0]
  go_enter Tryz.func172, Tryz.ntmps172
  go_wp2_with fail
  have hb0 : BR (w.alloc (.cells (Array.replicate 257 (.bool false)) 211)) w.heap.size 257 (fun _ => false) := BR.new w _ 257
  have B0 : Below w.heap.size w (w.alloc (.cells (Array.replicate 257 (.bool false)) 211)) := (Below.refl _ _).alloc (Nat.le_refl _) _
  have hsz0 : (w.alloc (.cells (Array.replicate 257 (.bool false)) 211)).heap.size = w.heap.size + 1 := by simp
  generalize w.alloc (.cells (Array.replicate 257 (.bool false)) 211) = W at *
  rw [hg0] at hb0 B0 hsz0
  clear hg0
  refine (stands_calls s k 91 _ hs hk (by decide)).mono ?_
  rintro e w2 ⟨rfl, rfl⟩
  cases hb : stB (s.data.toList.drop k) 91
  · have HN91 : Hid (hdIs m 91 = false) := by show _ = _; rw [← H91.out.1]; exact hb
    clear hb
    go_wp2_with fail
    have hb1 : BR (w2.alloc (.cells (Array.replicate 257 (.bool false)) 211)) w2.heap.size 257 (fun _ => false) := BR.new w2 _ 257
    have hb01 : BR (w2.alloc (.cells (Array.replicate 257 (.bool false)) 211)) g0 257 (fun _ => false) := hb0.below ((Below.refl _ _).alloc (Nat.le_refl _) _) (by omega)
    have B1 : Below g0 w (w2.alloc (.cells (Array.replicate 257 (.bool false)) 211)) := B0.alloc (by omega) _
    generalize w2.alloc (.cells (Array.replicate 257 (.bool false)) 211) = W at *
    rw [hsz0] at hb1
    refine (stands_calls s k 46 _ hs hk (by decide)).mono ?_
    rintro e w3 ⟨rfl, rfl⟩
    cases hb2 : stB (s.data.toList.drop k) 46
    · have HN46 : Hid (hdIs m 46 = false) := by show _ = _; rw [← H46.out.1]; exact hb2
      have HBB : Hid (bareM m = bareT m) := bare_by m HN91.out HN46.out
      clear hb2
      go_wp2_with fail
      refine (byte_calls s k _ m r _ hs hk (by unfold maxLen; decide) (by decide) HM.out).mono ?_
      rintro e w4 ⟨hpost, rfl⟩
      have hpost2 : ByteP s k [47, 46, 42, 91, 93, 94, 36] m r e := hpost
      clear hpost
      rcases hpost2 with ⟨q, m', n, rfl, hq, hq2, hkn, hn, hm', rfl⟩ | ⟨hno, n, rfl, hn1, hn2⟩
      · rw [bar_bare q (H47.out q (by simp)) HN91.out HN46.out] at hq
        obtain ⟨x, hx⟩ : ∃ x, q.b = x := ⟨_, rfl⟩
        have HF : Hid (BytesPost s k (q :: m') r (.returned (.tuple #[itV (itF ⟨false, false, false, [(x, x)]⟩), .int .i64 n, .bool true]))) := .inl ⟨_, m', n, by
          rw [HBB.out]
          show (if (q.is 42 || q.is 93 || q.is 94 || q.is 36) = true then none else some ((⟨false, false, false, [(q.b, q.b)]⟩ : It), m')) = _
          rw [hq, hx]; rfl, hkn, hn, hm', rfl⟩
        rw [hx] at hq2 ⊢
        rw [itV_congr (fun i h => (one_it x i h hq2).symm)] at HF
        clear hx hq hm' HBB
        have hc := hb1.c x (by omega)
        have hf := hb1.fz x (by omega)
        have hx1 : (x : Int) < 256 := by omega
        have hb6 := hb1.set x (by omega) true
        have hb06 := hb01.keep (heap_setCell_other w4 ⟨g0 + 1, x, none⟩ g0 (.bool true) (by simp)) (by simp)
        have O6 := Only.set (g0 + 1) x (.bool true) w4
        go_wp2_with (first | refine it_load hb6 rfl _ rfl rfl ?_ | (refine it_store hb06 rfl _ _ rfl rfl _ rfl ?_; intro w7 hb7 O7))
        refine bodyPost_ret (results_item rfl _ _ _ _ rfl hb7) rfl ?_
        exact ⟨HF.out, (B1.trans (O6.below (by omega))).trans (O7.below (Nat.le_refl _))⟩
      · have HF : Hid (BytesPost s k m r (.returned (.tuple #[itV (fun _ => false), .int .i64 n, .bool false]))) := .inr ⟨by
          rw [HBB.out]
          rcases hno with rfl | ⟨q, v, rfl, hq⟩
          · rfl
          · rw [bar_bare q (H47.out q (by simp)) HN91.out HN46.out] at hq
            show (if (q.is 42 || q.is 93 || q.is 94 || q.is 36) = true then none else some ((⟨false, false, false, [(q.b, q.b)]⟩ : It), v)) = none
            rw [hq]; rfl, _, n, rfl⟩
        clear hno HBB
        go_wp2_with (first | refine it_load hb1 rfl _ rfl rfl ?_ | (refine it_store hb01 rfl _ _ rfl rfl _ rfl ?_; intro w7 hb7 O7))
        refine bodyPost_ret (results_item rfl _ _ _ _ rfl hb7) rfl ?_
        exact ⟨HF.out, B1.trans (O7.below (Nat.le_refl _))⟩
    · have hk1 := stB_size s k 46 hb2
      obtain ⟨q, m1, rfl, hm1⟩ := H46.out.2 hb2
      rw [List.drop_drop] at hm1
      have HF : Hid (BytesPost s k (q :: m1) r (.returned (.tuple #[itV (itF ⟨true, false, false, []⟩), .int .i64 ((k + 1 : Nat) : Int), .bool true]))) := .inl ⟨_, m1, k + 1, bare_46 q m1 (by rw [← hb2, H46.out.1]; rfl), by omega, hk1, hm1, rfl⟩
      rw [itV_congr (fun i h => (any_it i h).symm)] at HF
      clear hb2 hm1
      go_wp2_with fail
      refine (turn_calls _ _ _ hb1).mono ?_
      rintro e w4 ⟨rfl, hb4, O4⟩
      have hb04 := hb01.keep (O4.block _ (by omega)) (by rw [O4.size]; exact Nat.le_refl _)
      have B4 := B1.trans (O4.below (B := g0) (by omega))
      go_wp2_with (first | refine it_load hb4 rfl _ rfl rfl ?_ | (refine it_store hb04 rfl _ _ rfl rfl _ rfl ?_; intro w5 hb5 O5))
      refine bodyPost_ret (results_item rfl _ _ _ _ rfl hb5) rfl ?_
      exact ⟨HF.out, B4.trans (O5.below (Nat.le_refl _))⟩
  · have hk1 := stB_size s k 91 hb
    obtain ⟨q, m1, rfl, hm1⟩ := H91.out.2 hb
    have HQ : Hid (bareM (q :: m1) = (setM m1).map (fun r => (⟨false, r.1, false, r.2.1⟩, r.2.2))) := bare_91 q m1 (by rw [← hb, H91.out.1]; rfl)
    rw [List.drop_drop] at hm1
    have HM1 : Hid (mksM (s.data.toList.drop (k + 1)) = (m1, r)) := hm1
    clear hm1 H91 H46 hb
    go_wp2_with fail
    have HC := readMembers_calls s (k + 1) m1 r w2 hs hk1 HM1.out
    rw [show ((k + 1 : Nat) : Int) = (k : Int) + 1 from rfl] at HC
    refine HC.mono ?_
    clear HC
    rintro e w3 ⟨⟨no, acc, m', n, hset, hkn, hn, hm', rfl⟩ | ⟨hset, rfl⟩, B3⟩
    · have HF : Hid (BytesPost s k (q :: m1) r (.returned (.tuple #[itV (itF ⟨false, no, false, acc⟩), .int .i64 n, .bool true]))) := .inl ⟨_, m', n, by rw [HQ.out, hset]; rfl, by omega, hn, hm', rfl⟩
      clear hset hm'
      have hb3 := hb0.below B3 (by omega)
      go_wp2_with (refine it_store hb3 rfl _ _ rfl rfl _ rfl ?_; intro w5 hb5 O5)
      refine bodyPost_ret (results_item rfl _ _ _ _ rfl hb5) rfl ?_
      exact ⟨HF.out, (B0.trans (B3.mono (by omega))).trans (O5.below (Nat.le_refl _))⟩
    · have HF : Hid (BytesPost s k (q :: m1) r (.returned (.tuple #[itV (fun _ => false), .int .i64 ((k + 1 : Nat) : Int), .bool false]))) := .inr ⟨by rw [HQ.out, hset]; rfl, _, k + 1, rfl⟩
      clear hset
      have hb3 := hb0.below B3 (by omega)
      go_wp2_with (refine it_store hb3 rfl _ _ rfl rfl _ rfl ?_; intro w5 hb5 O5)
      refine bodyPost_ret (results_item rfl _ _ _ _ rfl hb5) rfl ?_
      exact ⟨HF.out, (B0.trans (B3.mono (by omega))).trans (O5.below (Nat.le_refl _))⟩

/-- an item -/
def ItmPost (s : ByteArray) (k : Nat) (m : List Mk) (r : List UInt8) (f : Nat → Bool) (v2 v3 : Value) : Prop :=
  (∃ (x : It) (m' : List Mk) (n : Nat), itemM m = some (x, m') ∧ k < n ∧ n ≤ s.size ∧ mksM (s.data.toList.drop n) = (m', r) ∧ f = itF x ∧ v2 = .int .i64 n ∧ v3 = .bool true) ∨
  (itemM m = none ∧ ∃ (n : Nat), v2 = .int .i64 n ∧ v3 = .bool false)
theorem itm_star (m m' : List Mk) (x : It) (h : bareM m = some (x, m')) : itemM m = some (if hdIs m' 42 then (⟨x.any, x.not, true, x.rng⟩, m'.drop 1) else (x, m')) := by
  unfold itemM
  rw [h]
  match m' with
  | [] => rfl
  | d :: u =>
    show some (starM (x, d :: u)) = some (if d.is 42 then _ else _)
    unfold starM
    rfl
theorem bare_star (m m' : List Mk) (x : It) (h : bareM m = some (x, m')) : x.star = false := by
  match m with
  | [] => simp [bareM] at h
  | c :: t =>
    have h' : (if c.is 46 then some ((⟨true, false, false, []⟩ : It), t) else if c.is 91 then (setM t).map (fun r => ((⟨false, r.1, false, r.2.1⟩ : It), r.2.2)) else if c.is 42 || c.is 93 || c.is 94 || c.is 36 then none else some (⟨false, false, false, [(c.b, c.b)]⟩, t)) = some (x, m') := h
    replace h := h'
    clear h'
    split at h
    · simp at h; rw [← h.1]
    · split at h
      · cases hset : setM t with
        | none => rw [hset] at h; cases h
        | some p => rw [hset] at h; simp at h; rw [← h.1]
      · split at h
        · cases h
        · simp only [Option.some.injEq, Prod.mk.injEq] at h; rw [← h.1]
theorem star_it (x : It) (hx : x.star = false) (i : Nat) : (if i = 256 then true else itF x i) = itF ⟨x.any, x.not, true, x.rng⟩ i := by
  unfold itF
  by_cases e : i = 256
  · rw [if_pos e, if_pos e]
  · rw [if_neg e, if_neg e, if_neg e]; rfl
set_option maxRecDepth 100000 in
set_option maxHeartbeats 2000000 in
theorem readItem_calls (s : ByteArray) (k : Nat) (m : List Mk) (r : List UInt8) (w : World) (hs : s.size ≤ maxLen) (hk : k ≤ s.size) (hm : mksM (s.data.toList.drop k) = (m, r)) :
    Calls Tryz.prog 142 #[.string s, .int .i64 k] w fun e w' => (∃ f v2 v3, e = .returned (.tuple #[itV f, v2, v3]) ∧ ItmPost s k m r f v2 v3) ∧ Below w.heap.size w w' := by
  have HM : Hid (mksM (s.data.toList.drop k) = (m, r)) := hm
  clear hm
  have hs' := hs
  unfold maxLen at hs'
  have hzv := (zero_of_info infoIt).1
  obtain ⟨g0, hg0⟩ : ∃ g, w.heap.size = g := ⟨_, rfl⟩
  rw [hg0]
  go_enter Tryz.func142, Tryz.ntmps142
  go_wp2_with fail
  have hb0 : BR (w.alloc (.cells (Array.replicate 257 (.bool false)) 211)) w.heap.size 257 (fun _ => false) := BR.new w _ 257
  have B0 : Below w.heap.size w (w.alloc (.cells (Array.replicate 257 (.bool false)) 211)) := (Below.refl _ _).alloc (Nat.le_refl _) _
  have hsz0 : (w.alloc (.cells (Array.replicate 257 (.bool false)) 211)).heap.size = w.heap.size + 1 := by simp
  generalize w.alloc (.cells (Array.replicate 257 (.bool false)) 211) = W at *
  rw [hg0] at hb0 B0 hsz0
  clear hg0
  refine (readBytes_calls s k m r W hs hk HM.out).mono ?_
  rintro e w2 ⟨hpost, B2⟩
  have hb2 := hb0.below B2 (by omega)
  have BB2 := B0.trans (B2.mono (by omega))
  have hsz2 : g0 < w2.heap.size := hb2.lt
  obtain ⟨g2, hg2⟩ : ∃ g, w2.heap.size = g := ⟨_, rfl⟩
  have hb3 : BR (w2.alloc (.cells (Array.replicate 257 (.bool false)) 211)) w2.heap.size 257 (fun _ => false) := BR.new w2 _ 257
  have hb03 : BR (w2.alloc (.cells (Array.replicate 257 (.bool false)) 211)) g0 257 (fun _ => false) := hb2.below ((Below.refl _ _).alloc (Nat.le_refl _) _) (by omega)
  have B3 : Below g0 w (w2.alloc (.cells (Array.replicate 257 (.bool false)) 211)) := BB2.alloc (by omega) _
  obtain ⟨W3, hW3⟩ : ∃ W3, w2.alloc (.cells (Array.replicate 257 (.bool false)) 211) = W3 := ⟨_, rfl⟩
  rw [hW3] at hb3 hb03 B3
  rw [hg2] at hb3
  rw [hg2] at hsz2
  clear hb0 B0 B2 hb2 BB2
  rcases hpost with ⟨x, m', n, hbare, hkn, hn, hm', rfl⟩ | ⟨hbare, f, n, rfl⟩
  · have HI : Hid (itemM m = some (if hdIs m' 42 then (⟨x.any, x.not, true, x.rng⟩, m'.drop 1) else (x, m'))) := itm_star m m' x hbare
    have HXS : Hid (x.star = false) := bare_star m m' x hbare
    have HM' : Hid (mksM (s.data.toList.drop n) = (m', r)) := hm'
    clear hbare hm'
    go_wp2_with (refine it_store hb3 rfl _ _ rfl rfl _ rfl ?_; intro w4 hb4 O4)
    have hb04 := hb03.keep (O4.block _ (by omega)) (by rw [O4.size]; exact Nat.le_refl _)
    have B4 := B3.trans (O4.below (B := g0) (by omega))
    refine (stands_calls s n 42 _ hs hn (by decide)).mono ?_
    rintro e w5 ⟨rfl, rfl⟩
    obtain ⟨h42, h42'⟩ := stB_mk _ 42 _ _ HM'.out (by decide) (by decide) (by decide)
    cases hb : stB (s.data.toList.drop n) 42
    · have HF : Hid (ItmPost s k m r (itF x) (.int .i64 n) (.bool true)) := .inl ⟨x, m', n, by rw [HI.out, ← h42, hb]; rfl, hkn, hn, HM'.out, rfl, rfl, rfl⟩
      clear h42 h42' hb
      go_wp2_with (first | refine it_load hb4 rfl _ rfl rfl ?_ | (refine it_store hb04 rfl _ _ rfl rfl _ rfl ?_; intro w6 hb6 O6))
      refine bodyPost_ret (results_item rfl _ _ _ _ rfl hb6) rfl ?_
      exact ⟨⟨_, _, _, rfl, HF.out⟩, B4.trans (O6.below (Nat.le_refl _))⟩
    · have hn1 := stB_size s n 42 hb
      obtain ⟨q, m3, hq, hm3⟩ := h42' hb
      rw [List.drop_drop] at hm3
      have HF : Hid (ItmPost s k m r (itF ⟨x.any, x.not, true, x.rng⟩) (.int .i64 ((n + 1 : Nat) : Int)) (.bool true)) := .inl ⟨_, m3, n + 1, by rw [HI.out, ← h42, hb, hq]; rfl, by omega, hn1, hm3, rfl, rfl, rfl⟩
      clear h42 h42' hb hq hm3
      have hc := hb4.c 256 (by omega)
      have hf := hb4.fz 256 (by omega)
      have hb6 := (hb4.set 256 (by omega) true).congr (fun i _ => star_it x HXS.out i)
      have hb06 := hb04.keep (heap_setCell_other w5 ⟨g2, 256, none⟩ g0 (.bool true) (by simp; omega)) (by simp)
      have O6 := Only.set g2 256 (.bool true) w5
      go_wp2_with (first | refine it_load hb6 rfl _ rfl rfl ?_ | (refine it_store hb06 rfl _ _ rfl rfl _ rfl ?_; intro w7 hb7 O7))
      refine bodyPost_ret (results_item rfl _ _ _ _ rfl hb7) rfl ?_
      exact ⟨⟨_, _, _, rfl, HF.out⟩, (B4.trans (O6.below (by omega))).trans (O7.below (Nat.le_refl _))⟩
  · have HF : Hid (ItmPost s k m r f (.int .i64 n) (.bool false)) := .inr ⟨by unfold itemM; rw [hbare]; rfl, n, rfl, rfl⟩
    clear hbare
    go_wp2_with (first | (refine it_store hb3 rfl _ _ rfl rfl _ rfl ?_; intro w4 hb4 O4; have hb04 := hb03.keep (O4.block _ (by omega)) (by rw [O4.size]; exact Nat.le_refl _)) | refine it_load hb4 rfl _ rfl rfl ?_ | (refine it_store hb04 rfl _ _ rfl rfl _ rfl ?_; intro w6 hb6 O6))
    refine bodyPost_ret (results_item rfl _ _ _ _ rfl hb6) rfl ?_
    exact ⟨⟨_, _, _, rfl, HF.out⟩, (B3.trans (O4.below (by omega))).trans (O6.below (Nat.le_refl _))⟩
end Go.Proofs.YtlppphmnegdhoabGreatDoor

namespace Go.Proofs.YtlppphmnegdhoabGreatDoor
set_option linter.unusedVariables false
open Go.RowKit
open M
theorem numE_size {t : ByteArray} {v : Nat} (h : t.data.toList = numE v) : t.size ≤ 3 := by
  rw [← ba_len, h]; exact (numE_len v).2
theorem twoE_size {t : ByteArray} {v : Nat} (h : t.data.toList = twoE v) : t.size ≤ 3 := by
  rw [← ba_len, h]; simp [twoE]
/-- the cells of a list of records, as a slice leads to them -/
structure RecsAt (w : World) (a : Option Addr) (n : Nat) (l : List M.Rec) : Prop where
  len : n = l.length
  cells : l = [] ∨ ∃ b off, a = some ⟨b, off, none⟩ ∧ b < w.heap.size ∧ ∀ i (h : i < l.length), w.cell? ⟨b, off + i * 3, none⟩ = some (.int .i64 l[i].kind) ∧ w.cell? ⟨b, off + i * 3 + 1, none⟩ = some (.int .i64 l[i].n) ∧ w.cell? ⟨b, off + i * 3 + 2, none⟩ = some (.string l[i].s)
theorem RecsAt.below {w w' : World} {a : Option Addr} {n : Nat} {l : List M.Rec} (h : RecsAt w a n l) (hb : Below w.heap.size w w') : RecsAt w' a n l := by
  refine ⟨h.len, ?_⟩
  rcases h.cells with h1 | ⟨b, off, h1, h2, h3⟩
  · exact .inl h1
  · refine .inr ⟨b, off, h1, Nat.lt_of_lt_of_le h2 hb.size, fun i hi => ?_⟩
    obtain ⟨c0, c1, c2⟩ := h3 i hi
    exact ⟨(hb.cell (by exact h2)).trans c0, (hb.cell (by exact h2)).trans c1, (hb.cell (by exact h2)).trans c2⟩
theorem recE_le (r : M.Rec) (h : okRec r = true) : ((recE r).length : Int) ≤ 4 * (inA r + inB r) := by
  have h1 := (numE_len (4 * r.n + r.kind).toNat).2
  have h2 := (okRec_iff r).1 h
  have h3 := ba_len r.s
  unfold recE
  rw [List.length_append, h3]
  have h4 := inAB r h
  have h5 : (r.s.size : Int) ≤ inA r := by unfold inA; split <;> omega
  have h6 := inB_nn r h
  omega
theorem recsE_le (l : List M.Rec) (h : okAll l) : ((recsE l).length : Int) ≤ 4 * (lenA l + lenB l) := by
  induction l with
  | nil => simp [recsE, lenA, lenB]
  | cons r l ih =>
    have h1 := recE_le r (okAll_cons h).1
    have h2 := ih (okAll_cons h).2
    rw [recsE_cons, List.length_append]
    simp only [lenA, lenB]
    omega
theorem okAll_take {l : List M.Rec} (h : okAll l) (k : Nat) : okAll (l.take k) := fun r hr => h r (List.mem_of_mem_take hr)
theorem len_take (l : List M.Rec) (h : okAll l) (k : Nat) : lenA (l.take k) ≤ lenA l ∧ lenB (l.take k) ≤ lenB l := by
  have e := List.take_append_drop k l
  have h1 := lenA_append (l.take k) (l.drop k)
  have h2 := lenB_append (l.take k) (l.drop k)
  rw [e] at h1 h2
  have ho : okAll (l.drop k) := fun r hr => h r (List.mem_of_mem_drop hr)
  have := lenA_nn _ ho
  have := lenB_nn _ ho
  omega
theorem take_rec (l : List M.Rec) (k : Nat) (h : k < l.length) : recsE (l.take (k + 1)) = recsE (l.take k) ++ recE l[k] := by
  rw [List.take_succ_eq_append_getElem h, recsE_append]; simp [recsE]
attribute [local go_sem ↓] Go.wp_at_zero Go.wp_at_succ


theorem okAll_len (l : List M.Rec) (h : okAll l) : (l.length : Int) ≤ lenA l + lenB l := by
  induction l with
  | nil => simp [lenA, lenB]
  | cons r l ih =>
    have h1 := ih (okAll_cons h).2
    have h2 := inAB r (okAll_cons h).1
    have h3 := (okRec_iff r).1 (okAll_cons h).1
    simp only [lenA, lenB, List.length_cons]
    omega
theorem headE_len (la lb sa sb : Nat) (l : List M.Rec) : (headE ⟨la, lb, sa, sb, l⟩).length ≤ 12 := by
  have := numE_len la
  have := numE_len lb
  simp [headE, twoE]
  omega
/-- the head's bytes, before the records -/
theorem headE_eq (la lb sa sb : Nat) (l : List M.Rec) {t1 t2 t3 t4 : ByteArray} (h1 : t1.data.toList = numE la) (h2 : t2.data.toList = numE lb) (h3 : t3.data.toList = twoE sa) (h4 : t4.data.toList = twoE sb) :
    ((⟨#[82, 84]⟩ : ByteArray) ++ t1 ++ t2 ++ t3 ++ t4).data.toList = headE ⟨la, lb, sa, sb, l⟩ := by
  rw [ba_append, ba_append, ba_append, ba_append, h1, h2, h3, h4, headE]
  simp

end Go.Proofs.YtlppphmnegdhoabGreatDoor

namespace Go.Proofs.YtlppphmnegdhoabGreatDoor
set_option linter.unusedVariables false
open Go.RowKit
open M

theorem own_form {w : World} {base : Nat} {e : TypeId} {size : Nat} {v : Value} {n : Nat} {xs : List Value} (h : w.ownsRow base e size v n xs) : ∃ a c, v = .slice a n c := by
  obtain ⟨h1, ⟨rfl, rfl⟩ | ⟨g, cap, cur, h3, _⟩⟩ := h
  · exact ⟨none, 0, rfl⟩
  · exact ⟨_, _, h3⟩

end Go.Proofs.YtlppphmnegdhoabGreatDoor

namespace Go.Proofs.YtlppphmnegdhoabGreatDoor
set_option linter.unusedVariables false
namespace M

inductive Ev where
  | k : Ev
  | d : Ev
  | r : UInt8 → Ev

def expR (r : Rec) : List Ev := if r.kind = 0 then List.replicate r.n.toNat .k else if r.kind = 1 then List.replicate r.n.toNat .d else r.s.data.toList.map .r
def expL : List Rec → List Ev
  | [] => []
  | r :: l => expR r ++ expL l
theorem expL_append (l m : List Rec) : expL (l ++ m) = expL l ++ expL m := by
  induction l with
  | nil => rfl
  | cons r l ih => simp [expL, ih]

/-- of each place of B the place of A, or -1 -/
def evF : Nat → List Ev → List Int
  | _, [] => []
  | a, .k :: es => (a : Int) :: evF (a + 1) es
  | a, .d :: es => -1 :: evF a es
  | a, .r _ :: es => evF (a + 1) es
/-- of each place of A the byte, or -1 -/
def evK : List Ev → List Int
  | [] => []
  | .k :: es => -1 :: evK es
  | .d :: es => evK es
  | .r c :: es => (c.toNat : Int) :: evK es
def evA : List Ev → Nat
  | [] => 0
  | .d :: es => evA es
  | .k :: es => evA es + 1
  | .r _ :: es => evA es + 1
def evB : List Ev → Nat
  | [] => 0
  | .d :: es => evB es + 1
  | .k :: es => evB es + 1
  | .r _ :: es => evB es
theorem evA_append (x y : List Ev) : evA (x ++ y) = evA x + evA y := by
  induction x with
  | nil => simp [evA]
  | cons e x ih => cases e <;> simp [evA, ih] <;> omega
theorem evB_append (x y : List Ev) : evB (x ++ y) = evB x + evB y := by
  induction x with
  | nil => simp [evB]
  | cons e x ih => cases e <;> simp [evB, ih] <;> omega
theorem evF_len (x : List Ev) : ∀ a, (evF a x).length = evB x := by
  induction x with
  | nil => intro a; rfl
  | cons e x ih => intro a; cases e <;> simp [evF, evB, ih]
theorem evK_len (x : List Ev) : (evK x).length = evA x := by
  induction x with
  | nil => rfl
  | cons e x ih => cases e <;> simp [evK, evA, ih]
theorem ev_rep_k (n : Nat) : evA (List.replicate n .k) = n ∧ evB (List.replicate n .k) = n := by
  induction n with
  | zero => exact ⟨rfl, rfl⟩
  | succ n ih => simp [List.replicate_succ, evA, evB, ih]
theorem ev_rep_d (n : Nat) : evA (List.replicate n .d) = 0 ∧ evB (List.replicate n .d) = n := by
  induction n with
  | zero => exact ⟨rfl, rfl⟩
  | succ n ih => simp [List.replicate_succ, evA, evB, ih]
theorem ev_map_r (s : List UInt8) : evA (s.map .r) = s.length ∧ evB (s.map .r) = 0 := by
  induction s with
  | nil => exact ⟨rfl, rfl⟩
  | cons c s ih => simp [evA, evB, ih]
theorem expR_len (r : Rec) (h : okRec r = true) : (evA (expR r) : Int) = inA r ∧ (evB (expR r) : Int) = inB r := by
  have hk := (okRec_iff r).1 h
  have hl := ba_len r.s
  unfold expR inA inB
  by_cases h0 : r.kind = 0
  · simp [h0, ev_rep_k]; omega
  · by_cases h1 : r.kind = 1
    · simp [h1, ev_rep_d]; omega
    · have h2 : r.kind = 2 := by omega
      simp [h2, ev_map_r]; omega
theorem expL_len (l : List Rec) (h : okAll l) : (evA (expL l) : Int) = lenA l ∧ (evB (expL l) : Int) = lenB l := by
  induction l with
  | nil => exact ⟨rfl, rfl⟩
  | cons r l ih =>
    have hr := expR_len r (okAll_cons h).1
    have hl := ih (okAll_cons h).2
    simp only [expL, evA_append, evB_append, lenA, lenB]
    omega

/-- the same but for the order of Drops and Restores -/
inductive Eqv : List Ev → List Ev → Prop
  | refl (x) : Eqv x x
  | swap (c x) : Eqv (.d :: .r c :: x) (.r c :: .d :: x)
  | cons (e) {x y} : Eqv x y → Eqv (e :: x) (e :: y)
  | symm {x y} : Eqv x y → Eqv y x
  | trans {x y z} : Eqv x y → Eqv y z → Eqv x z
theorem Eqv.pre (p : List Ev) {x y : List Ev} (h : Eqv x y) : Eqv (p ++ x) (p ++ y) := by
  induction p with
  | nil => exact h
  | cons e p ih => exact .cons e ih
theorem Eqv.post {x y : List Ev} (h : Eqv x y) (q : List Ev) : Eqv (x ++ q) (y ++ q) := by
  induction h with
  | refl x => exact .refl _
  | swap c x => exact .swap c _
  | cons e _ ih => exact .cons e ih
  | symm _ ih => exact .symm ih
  | trans _ _ ih1 ih2 => exact .trans ih1 ih2
theorem eqv_d_map (s : List UInt8) (x : List Ev) : Eqv (.d :: (s.map .r ++ x)) (s.map .r ++ .d :: x) := by
  induction s with
  | nil => exact .refl _
  | cons c s ih => exact .trans (.swap c _) (.cons _ ih)
theorem Eqv.F {x y : List Ev} (h : Eqv x y) : ∀ a, evF a x = evF a y := by
  induction h with
  | refl x => intro a; rfl
  | swap c x => intro a; simp [evF]
  | cons e _ ih => intro a; cases e <;> simp [evF, ih]
  | symm _ ih => intro a; exact (ih a).symm
  | trans _ _ ih1 ih2 => intro a; exact (ih1 a).trans (ih2 a)
theorem Eqv.K {x y : List Ev} (h : Eqv x y) : evK x = evK y := by
  induction h with
  | refl x => rfl
  | swap c x => simp [evK]
  | cons e _ ih => cases e <;> simp [evK, ih]
  | symm _ ih => exact ih.symm
  | trans _ _ ih1 ih2 => exact ih1.trans ih2
theorem Eqv.A {x y : List Ev} (h : Eqv x y) : evA x = evA y := by rw [← evK_len, ← evK_len, h.K]
theorem Eqv.B {x y : List Ev} (h : Eqv x y) : evB x = evB y := by rw [← evF_len _ 0, ← evF_len _ 0, h.F]

/-- blocks: a Drop, a Restore, a Keep -/
structure Blk where
  d : Nat
  s : List UInt8
  m : Nat
def nb (d : Nat) (s : List UInt8) (m : Nat) : List Ev → List Blk
  | [] => if d = 0 ∧ s = [] ∧ m = 0 then [] else [⟨d, s, m⟩]
  | .k :: es => nb d s (m + 1) es
  | .d :: es => if m = 0 then nb (d + 1) s 0 es else ⟨d, s, m⟩ :: nb 1 [] 0 es
  | .r c :: es => if m = 0 then nb d (s ++ [c]) 0 es else ⟨d, s, m⟩ :: nb 0 [c] 0 es
def evBlk (b : Blk) : List Ev := List.replicate b.d .d ++ (b.s.map .r ++ List.replicate b.m .k)
def evBlks : List Blk → List Ev
  | [] => []
  | b :: l => evBlk b ++ evBlks l
def rDrop (d : Nat) : List Rec := if d = 0 then [] else [⟨1, d, ⟨#[]⟩⟩]
def rRest (s : List UInt8) : List Rec := if s = [] then [] else [⟨2, s.length, ⟨⟨s⟩⟩⟩]
def rKeep (m : Nat) : List Rec := if m = 0 then [] else [⟨0, m, ⟨#[]⟩⟩]
def outB (b : Blk) : List Rec := rDrop b.d ++ (rRest b.s ++ rKeep b.m)
def outBs : List Blk → List Rec
  | [] => []
  | b :: l => outB b ++ outBs l
/-- the short list -/
def norm (es : List Ev) : List Rec := outBs (nb 0 [] 0 es)

theorem nb_eqv (es : List Ev) : ∀ d s m, Eqv (List.replicate d .d ++ (s.map .r ++ (List.replicate m .k ++ es))) (evBlks (nb d s m es)) := by
  induction es with
  | nil =>
    intro d s m
    simp only [nb]
    split
    · rename_i h; obtain ⟨rfl, rfl, rfl⟩ := h; exact .refl _
    · simp only [evBlks, evBlk, List.append_nil]; exact .refl _
  | cons e es ih =>
    intro d s m
    cases e with
    | k =>
      simp only [nb]
      have := ih d s (m + 1)
      rw [List.replicate_succ', List.append_assoc] at this
      exact this
    | d =>
      simp only [nb]
      split
      · rename_i h; subst h
        refine .trans ?_ (ih (d + 1) s 0)
        rw [List.replicate_succ', List.append_assoc]
        exact .pre _ (.symm (eqv_d_map s _))
      · have := ih 1 [] 0
        simp only [evBlks, evBlk, List.append_assoc]
        exact .pre _ (.pre _ (.pre _ this))
    | r c =>
      simp only [nb]
      split
      · rename_i h; subst h
        have := ih d (s ++ [c]) 0
        simp only [List.map_append, List.append_assoc] at this
        exact this
      · have := ih 0 [c] 0
        simp only [evBlks, evBlk, List.append_assoc]
        exact .pre _ (.pre _ (.pre _ this))
theorem nb_can (es : List Ev) : Eqv es (evBlks (nb 0 [] 0 es)) := nb_eqv es 0 [] 0

theorem Eqv.nb {x y : List Ev} (h : Eqv x y) : ∀ d s m, M.nb d s m x = M.nb d s m y := by
  induction h with
  | refl x => intro d s m; rfl
  | swap c x =>
    intro d s m
    by_cases h : m = 0
    · subst h; simp [M.nb]
    · simp [M.nb, h]
  | cons e _ ih => intro d s m; cases e <;> simp [M.nb, ih]
  | symm _ ih => intro d s m; exact (ih d s m).symm
  | trans _ _ ih1 ih2 => intro d s m; exact (ih1 d s m).trans (ih2 d s m)
theorem Eqv.norm {x y : List Ev} (h : Eqv x y) : M.norm x = M.norm y := by unfold M.norm; rw [h.nb]

theorem exp_outB (b : Blk) : expL (outB b) = evBlk b := by
  unfold outB evBlk rDrop rRest rKeep
  simp only [expL_append]
  congr 1
  · split
    · rename_i h; simp [h, expL]
    · simp [expL, expR]
  congr 1
  · split
    · rename_i h; simp [h, expL]
    · simp [expL, expR]
  · split
    · rename_i h; simp [h, expL]
    · simp [expL, expR]
theorem exp_outBs (l : List Blk) : expL (outBs l) = evBlks l := by
  induction l with
  | nil => rfl
  | cons b l ih => simp only [outBs, evBlks, expL_append, exp_outB, ih]
theorem exp_norm (es : List Ev) : Eqv es (expL (norm es)) := by
  unfold norm; rw [exp_outBs]; exact nb_can es
theorem outB_ok (b : Blk) : okAll (outB b) := by
  intro r hr
  rw [okRec_iff]
  unfold outB rDrop rRest rKeep at hr
  simp only [List.mem_append] at hr
  rcases hr with hr | hr | hr
  · split at hr
    · cases hr
    · rename_i h; simp at hr; subst hr; exact ⟨by simp; omega, .inl ⟨by simp, rfl⟩⟩
  · split at hr
    · cases hr
    · rename_i h
      simp at hr; subst hr
      have : 0 < b.s.length := List.length_pos_iff.2 h
      refine ⟨by simp; omega, .inr ⟨rfl, ?_⟩⟩
      simp [ByteArray.size]
  · split at hr
    · cases hr
    · rename_i h; simp at hr; subst hr; exact ⟨by simp; omega, .inl ⟨by simp, rfl⟩⟩
theorem outBs_ok (l : List Blk) : okAll (outBs l) := by
  induction l with
  | nil => intro r hr; cases hr
  | cons b l ih => exact okAll_append (outB_ok b) ih
theorem norm_ok (es : List Ev) : okAll (norm es) := outBs_ok _
theorem norm_len (es : List Ev) : lenA (norm es) = evA es ∧ lenB (norm es) = evB es := by
  have h := expL_len _ (norm_ok es)
  have e := exp_norm es
  rw [← e.A, ← e.B] at h
  exact ⟨h.1.symm, h.2.symm⟩
end M
end Go.Proofs.YtlppphmnegdhoabGreatDoor

namespace Go.Proofs.YtlppphmnegdhoabGreatDoor
set_option linter.unusedVariables false
namespace M

def kk : List Ev → List Int → List Int
  | [], _ => []
  | .r c :: es, yb => (c.toNat : Int) :: kk es yb
  | .k :: es, v :: yb => v :: kk es yb
  | .d :: es, _ :: yb => kk es yb
  | .k :: es, [] => []
  | .d :: es, [] => []
end M
end Go.Proofs.YtlppphmnegdhoabGreatDoor

namespace Go.Proofs.YtlppphmnegdhoabGreatDoor
set_option linter.unusedVariables false
open Go.RowKit
open M

theorem exp_take (l : List M.Rec) (k : Nat) (h : k < l.length) : expL (l.take (k + 1)) = expL (l.take k) ++ expR l[k] := by
  rw [List.take_succ_eq_append_getElem h, expL_append]; simp [expL]
theorem infoInt : (Tryz.prog.info? 3).map (fun i => (i.zero, i.size, i.bytes)) = some (some (.int .i64 0), 1, 8) := by kernel_rfl
end Go.Proofs.YtlppphmnegdhoabGreatDoor

namespace Go.Proofs.YtlppphmnegdhoabGreatDoor
set_option linter.unusedVariables false
open Go.RowKit
open M

theorem count_le (l : List M.Rec) (h : okAll l) : (l.length : Int) ≤ lenA l + lenB l := by
  induction l with
  | nil => simp [lenA, lenB]
  | cons r l ih =>
    have h1 := ih (okAll_cons h).2
    have h2 := inAB r (okAll_cons h).1
    have h3 := ((okRec_iff r).1 (okAll_cons h).1).1
    simp only [List.length_cons, lenA, lenB]
    omega
end Go.Proofs.YtlppphmnegdhoabGreatDoor

namespace Go.Proofs.YtlppphmnegdhoabGreatDoor
set_option linter.unusedVariables false
set_option maxRecDepth 100000
open Go.RowKit
open M

theorem mem_close (m : Mk) (t : List Mk) (acc : List (Nat × Nat)) (h : m.is 93 = true) : membersM (m :: t) acc = if acc = [] then none else some (acc, t) := by
  match t with
  | [] => simp [membersM, h]
  | [d] => simp [membersM, h]
  | d :: e :: v => simp [membersM, h]
theorem mem_dash (m : Mk) (t : List Mk) (acc : List (Nat × Nat)) (h : m.is 93 = false) (h2 : m.is 45 = true) : membersM (m :: t) acc = none := by
  match t with
  | [] => simp [membersM, h]
  | [d] => simp [membersM, h, h2]
  | d :: e :: v => simp [membersM, h, h2]
theorem mem_one (m : Mk) (t : List Mk) (acc : List (Nat × Nat)) (h : m.is 93 = false) (h2 : m.is 45 = false) (h3 : ∀ d u, t = d :: u → d.is 45 = false) : membersM (m :: t) acc = membersM t (acc ++ [(m.b, m.b)]) := by
  match t, h3 with
  | [], _ => simp [membersM, h]
  | [d], h3 => have := h3 d [] rfl; simp [membersM, h, h2, this]
  | d :: e :: v, h3 => have := h3 d (e :: v) rfl; simp [membersM, h, h2, this]
theorem mem_range0 (m d : Mk) (acc : List (Nat × Nat)) (h : m.is 93 = false) (h2 : m.is 45 = false) (h3 : d.is 45 = true) : membersM [m, d] acc = none := by
  simp [membersM, h, h2, h3]
theorem mem_range (m d e : Mk) (v : List Mk) (acc : List (Nat × Nat)) (h : m.is 93 = false) (h2 : m.is 45 = false) (h3 : d.is 45 = true) : membersM (m :: d :: e :: v) acc = if e.is 93 || e.is 45 || decide (e.b < m.b) then none else membersM v (acc ++ [(m.b, e.b)]) := by
  rw [membersM]; simp [h, h2, h3]
/-- the rest is an end of the marks -/
theorem mem_rest : ∀ (t : List Mk) (acc acc' : List (Nat × Nat)) (r : List Mk), membersM t acc = some (acc', r) → ∃ q, q ≤ t.length ∧ r = t.drop q
  | [], acc, acc', r, h => by simp [membersM] at h
  | m :: t, acc, acc', r, h => by
    cases h1 : m.is 93
    · cases h2 : m.is 45
      · by_cases h3 : ∀ d u, t = d :: u → d.is 45 = false
        · rw [mem_one m t acc h1 h2 h3] at h
          obtain ⟨q, hq, hr⟩ := mem_rest t _ _ _ h
          exact ⟨q + 1, by simp; omega, by rw [hr]; rfl⟩
        · match t, h3 with
          | [], h3 => exact absurd (fun d u e => by cases e) h3
          | d :: u, h3 =>
            have hd : d.is 45 = true := by
              cases hd : d.is 45
              · exact absurd (fun d' u' e => by simp at e; rw [← e.1]; exact hd) h3
              · rfl
            match u with
            | [] => rw [mem_range0 m d acc h1 h2 hd] at h; cases h
            | e :: v =>
              rw [mem_range m d e v acc h1 h2 hd] at h
              split at h
              · cases h
              · obtain ⟨q, hq, hr⟩ := mem_rest v _ _ _ h
                exact ⟨q + 3, by simp; omega, by rw [hr]; rfl⟩
      · rw [mem_dash m t acc h1 h2] at h; cases h
    · rw [mem_close m t acc h1] at h
      split at h
      · cases h
      · simp at h
        exact ⟨1, by simp, by rw [← h.2]; rfl⟩
termination_by t => t.length

def his (l : List (Nat × Nat)) : List Int := l.map fun r => (r.2 : Int)
end Go.Proofs.YtlppphmnegdhoabGreatDoor

namespace Go.Proofs.YtlppphmnegdhoabGreatDoor
set_option linter.unusedVariables false
set_option maxRecDepth 100000
open Go.RowKit
open M

def caret : List Mk → Bool
  | [] => false
  | d :: _ => d.is 94
theorem set_caret (t : List Mk) : setM t = if caret t then (membersM (t.drop 1) []).map (fun r => (true, r.1, r.2)) else (membersM t []).map (fun r => (false, r.1, r.2)) := by
  match t with
  | [] => simp [setM, caret, membersM]
  | d :: u => simp [setM, caret]
end Go.Proofs.YtlppphmnegdhoabGreatDoor

namespace Go.Proofs.YtlppphmnegdhoabGreatDoor
set_option linter.unusedVariables false
set_option maxRecDepth 100000
open Go.RowKit
open M

/-- the bytes that begin no item -/
def badI (m : Mk) : Bool := m.is 42 || m.is 93 || m.is 94 || m.is 36
theorem bare_any (m : Mk) (t : List Mk) (h : m.is 46 = true) : bareM (m :: t) = some (⟨true, false, false, []⟩, t) := by simp [bareM, h]
theorem bare_set (m : Mk) (t : List Mk) (h : m.is 46 = false) (h2 : m.is 91 = true) : bareM (m :: t) = (setM t).map (fun r => (⟨false, r.1, false, r.2.1⟩, r.2.2)) := by simp [bareM, h, h2]
theorem bare_bad (m : Mk) (t : List Mk) (h : m.is 46 = false) (h2 : m.is 91 = false) (h3 : badI m = true) : bareM (m :: t) = none := by
  have e : bareM (m :: t) = if badI m then none else some (⟨false, false, false, [(m.b, m.b)]⟩, t) := by simp only [bareM, h, h2]; rfl
  rw [e, h3]; rfl
theorem bare_one (m : Mk) (t : List Mk) (h : m.is 46 = false) (h2 : m.is 91 = false) (h3 : badI m = false) : bareM (m :: t) = some (⟨false, false, false, [(m.b, m.b)]⟩, t) := by
  have e : bareM (m :: t) = if badI m then none else some (⟨false, false, false, [(m.b, m.b)]⟩, t) := by simp only [bareM, h, h2]; rfl
  rw [e, h3]; rfl
end Go.Proofs.YtlppphmnegdhoabGreatDoor

namespace Go.Proofs.YtlppphmnegdhoabGreatDoor
set_option linter.unusedVariables false
set_option maxRecDepth 100000
open Go.RowKit
open M

/-- an item takes something -/
theorem bare_less (m : List Mk) (x : It) (r : List Mk) (h : bareM m = some (x, r)) : r.length < m.length := by
  match m with
  | [] => simp [bareM] at h
  | c :: t =>
    cases h46 : c.is 46
    · cases h91 : c.is 91
      · cases hb : badI c
        · rw [bare_one c t h46 h91 hb] at h
          simp at h
          rw [← h.2]; simp
        · rw [bare_bad c t h46 h91 hb] at h; cases h
      · rw [bare_set c t h46 h91, set_caret] at h
        cases hc : caret t
        · rw [hc] at h
          simp only [Bool.false_eq_true, if_false] at h
          cases hm : membersM t [] with
          | none => rw [hm] at h; cases h
          | some p =>
            obtain ⟨q, hq, hr⟩ := mem_rest t _ _ _ hm
            rw [hm] at h
            simp at h
            rw [← h.2, hr, List.length_drop]
            simp; omega
        · rw [hc] at h
          simp only [if_true] at h
          cases hm : membersM (t.drop 1) [] with
          | none => rw [hm] at h; cases h
          | some p =>
            obtain ⟨q, hq, hr⟩ := mem_rest (t.drop 1) _ _ _ hm
            rw [hm] at h
            simp at h
            rw [← h.2, hr, List.length_drop, List.length_drop]
            simp; omega
    · rw [bare_any c t h46] at h
      simp at h
      rw [← h.2]; simp
theorem item_less (m : List Mk) (x : It) (r : List Mk) (h : itemM m = some (x, r)) : r.length < m.length := by
  unfold itemM at h
  cases hb : bareM m with
  | none => rw [hb] at h; cases h
  | some p =>
    have h1 := bare_less m p.1 p.2 hb
    rw [hb] at h
    simp only [Option.map_some, Option.some.injEq] at h
    unfold starM at h
    match hp : p.2 with
    | [] => rw [hp] at h; simp only at h; rw [h] at h1; exact h1
    | d :: u =>
      rw [hp] at h h1
      simp only at h
      split at h
      · simp at h
        rw [← h.2]
        simp at h1; omega
      · rw [h] at hp
        simp only at hp
        rw [hp]; exact h1
theorem items_fuel : ∀ (n k : Nat) (m : List Mk), m.length ≤ n → m.length ≤ k → itemsM n m = itemsM k m := by
  intro n
  induction n with
  | zero => intro k m h _; cases m with
    | nil => simp [itemsM]
    | cons a t => simp at h
  | succ n ih =>
    intro k m h hk
    cases m with
    | nil => simp [itemsM]
    | cons a t =>
      simp only [List.length_cons] at h hk
      obtain ⟨k, rfl⟩ : ∃ k', k = k' + 1 := ⟨k - 1, by omega⟩
      simp only [itemsM]
      cases hi : itemM (a :: t) with
      | none => rfl
      | some p =>
        have hl := item_less (a :: t) p.1 p.2 hi
        simp only [List.length_cons] at hl
        simp only
        rw [ih k p.2 (by omega) (by omega)]
/-- all items of marks -/
def itemsA (m : List Mk) : Option (List It) := itemsM m.length m
theorem itemsA_nil : itemsA [] = some [] := by simp [itemsA, itemsM]
theorem itemsA_none (m : List Mk) (hm : m ≠ []) (h : itemM m = none) : itemsA m = none := by
  match m with
  | [] => exact absurd rfl hm
  | a :: t => simp [itemsA, itemsM, h]
theorem itemsA_some (m : List Mk) (x : It) (r : List Mk) (hm : m ≠ []) (h : itemM m = some (x, r)) : itemsA m = (itemsA r).map (x :: ·) := by
  match m with
  | [] => exact absurd rfl hm
  | a :: t =>
    have hl := item_less _ _ _ h
    simp only [List.length_cons] at hl
    simp only [itemsA, List.length_cons, itemsM, h]
    rw [items_fuel t.length r.length r (by omega) (Nat.le_refl _)]
/-- an expression, by its ends -/
theorem expM_eq (m : List Mk) (hm : m ≠ []) (hd tl : Bool) (at' en : Nat) (h0 : 0 < m.length) (h1 : hd = m[0].is 94) (h2 : at' = if hd then 1 else 0) (h3 : tl = (decide (at' < m.length) && (m[m.length - 1]'(by omega)).is 36)) (h4 : en = if tl then m.length - 1 else m.length) :
    expM m = (itemsA ((m.take en).drop at')).map (fun l => ⟨hd, tl, l⟩) := by
  have e1 : (m.head?.map (·.is 94)).getD false = hd := by
    rw [h1]
    match m, h0 with
    | a :: t, _ => rfl
  have e2 : (m.getLast?.map (·.is 36)).getD false = (m[m.length - 1]'(by omega)).is 36 := by
    rw [List.getLast?_eq_getElem?, List.getElem?_eq_getElem (by omega)]; rfl
  unfold expM
  rw [if_neg hm]
  simp only [e1, e2]
  rw [← h2, ← h3]
  unfold itemsA
  have e3 : (if tl = true then m.take (m.length - 1) else m) = m.take en := by
    rw [h4]; cases tl
    · simp
    · simp
  rw [e3]
end Go.Proofs.YtlppphmnegdhoabGreatDoor

namespace Go.Proofs.YtlppphmnegdhoabGreatDoor
set_option linter.unusedVariables false
open M

theorem hd_app (a b : List Mk) (c : Nat) (h : a ≠ []) : hdIs (a ++ b) c = hdIs a c := by
  match a, h with
  | x :: t, _ => rfl
theorem is_ne (k : Mk) (a b : Nat) (h : k.is a = true) (hab : a ≠ b) : k.is b = false := by
  obtain ⟨x, p⟩ := k
  cases p
  · rfl
  · simp [Mk.is] at h ⊢; omega
theorem memP_inv (m : List Mk) (lo hi : Nat) (m1 : List Mk) (h : memP m = some (lo, hi, m1)) : (∃ q, m = q :: m1 ∧ (q.is 93 || q.is 45) = false ∧ hdIs m1 45 = false ∧ lo = q.b ∧ hi = q.b) ∨ (∃ q d f, m = q :: d :: f :: m1 ∧ ∀ m', memP (q :: d :: f :: m') = some (lo, hi, m')) := by
  match m with
  | [] => simp [memP] at h
  | q :: m' =>
    cases hq : (q.is 93 || q.is 45)
    · cases hd : hdIs m' 45
      · rw [memP_one q m' hq hd] at h
        simp at h
        obtain ⟨rfl, rfl, rfl⟩ := h
        exact .inl ⟨q, rfl, hq, hd, rfl, rfl⟩
      · match m', hd with
        | d :: m'', hd =>
          have hd' : d.is 45 = true := hd
          rw [memP_two q d m'' hq hd'] at h
          match m'' with
          | [] => cases h
          | f :: v =>
            have h' : (if (f.is 93 || f.is 45 || decide (f.b < q.b)) = true then none else some (q.b, f.b, v)) = some (lo, hi, m1) := h
            split at h'
            · cases h'
            · rename_i hf
              simp at h'
              obtain ⟨rfl, rfl, rfl⟩ := h'
              refine .inr ⟨q, d, f, rfl, fun m' => ?_⟩
              rw [memP_two q d _ hq hd']
              show (if (f.is 93 || f.is 45 || decide (f.b < q.b)) = true then none else some (q.b, f.b, m')) = _
              rw [if_neg hf]
    · rw [memP_none q m' hq] at h; cases h
theorem members_local : ∀ (n : Nat) (m : List Mk) (acc a : List (Nat × Nat)) (r : List Mk), m.length ≤ n → membersM m acc = some (a, r) → ∃ sp, m = sp ++ r ∧ sp ≠ [] ∧ (∃ k, sp.getLast? = some k ∧ k.is 93 = true) ∧ ∀ r2, membersM (sp ++ r2) acc = some (a, r2) := by
  intro n
  induction n with
  | zero =>
    intro m acc a r hl h
    match m with
    | [] => simp [membersM] at h
    | q :: t => simp at hl
  | succ n ih =>
    intro m acc a r hl h
    cases hmem : memP m with
    | none =>
      obtain ⟨s1, s2⟩ := members_stop m acc hmem
      by_cases hc : hdIs m 93 = false ∨ acc = []
      · rw [s2 hc] at h; cases h
      · have h93 : hdIs m 93 = true := by
          cases e : hdIs m 93
          · exact absurd (.inl e) hc
          · rfl
        have hne : acc ≠ [] := fun e => hc (.inr e)
        match m, h93, hmem, h, s1 with
        | k :: m', h93, hmem, h, s1 =>
          rw [s1 h93 hne k m' rfl] at h
          simp at h
          obtain ⟨rfl, rfl⟩ := h
          have hk : k.is 93 = true := h93
          refine ⟨[k], rfl, by simp, ⟨k, rfl, hk⟩, fun r2 => ?_⟩
          exact (members_stop (k :: r2) acc (memP_none k r2 (by rw [hk]; rfl))).1 hk hne k r2 rfl
    | some p =>
      obtain ⟨lo, hi, m1⟩ := p
      have hless := memP_less m lo hi m1 hmem
      rw [members_step, hmem] at h
      obtain ⟨sp, e1, e2, e3, e4⟩ := ih m1 _ a r (by omega) h
      rcases memP_inv m lo hi m1 hmem with ⟨q, rfl, hq, hd, rfl, rfl⟩ | ⟨q, d, f, rfl, hf⟩
      · refine ⟨q :: sp, by rw [e1]; rfl, by simp, ?_, fun r2 => ?_⟩
        · obtain ⟨k, h1, h2⟩ := e3
          refine ⟨k, ?_, h2⟩
          rw [List.getLast?_cons, h1]; rfl
        · show membersM (q :: (sp ++ r2)) acc = _
          have hd2 : hdIs (sp ++ r2) 45 = false := by
            rw [hd_app sp r2 45 e2]
            rw [e1, hd_app sp r 45 e2] at hd
            exact hd
          rw [members_step, memP_one q _ hq hd2]
          exact e4 r2
      · refine ⟨q :: d :: f :: sp, by rw [e1]; rfl, by simp, ?_, fun r2 => ?_⟩
        · obtain ⟨k, h1, h2⟩ := e3
          refine ⟨k, ?_, h2⟩
          rw [List.getLast?_cons, List.getLast?_cons, List.getLast?_cons, h1]; rfl
        · show membersM (q :: d :: f :: (sp ++ r2)) acc = _
          rw [members_step, hf]
          exact e4 r2
theorem bare_local (m : List Mk) (x : It) (r : List Mk) (h : bareM m = some (x, r)) : ∃ sp, m = sp ++ r ∧ sp ≠ [] ∧ (∃ k, sp.getLast? = some k ∧ k.is 36 = false) ∧ ∀ r2, bareM (sp ++ r2) = some (x, r2) := by
  match m with
  | [] => simp [bareM] at h
  | c :: t =>
    cases h46 : c.is 46
    · cases h91 : c.is 91
      · rw [bare_by (c :: t) h91 h46] at h
        have h' : (if (c.is 42 || c.is 93 || c.is 94 || c.is 36) = true then none else some ((⟨false, false, false, [(c.b, c.b)]⟩ : It), t)) = some (x, r) := h
        split at h'
        · cases h'
        · rename_i hc
          simp only [Option.some.injEq, Prod.mk.injEq] at h'
          obtain ⟨rfl, rfl⟩ := h'
          refine ⟨[c], rfl, by simp, ⟨c, rfl, ?_⟩, fun r2 => ?_⟩
          · cases e : c.is 36
            · rfl
            · rw [e] at hc; simp at hc
          · show bareM (c :: r2) = _
            rw [bare_by (c :: r2) h91 h46]
            show (if (c.is 42 || c.is 93 || c.is 94 || c.is 36) = true then none else some ((⟨false, false, false, [(c.b, c.b)]⟩ : It), r2)) = _
            rw [if_neg hc]
      · rw [bare_91 c t h91] at h
        cases hset : setM t with
        | none => rw [hset] at h; cases h
        | some p =>
          obtain ⟨no, acc, r0⟩ := p
          rw [hset] at h
          simp only [Option.map_some, Option.some.injEq, Prod.mk.injEq] at h
          obtain ⟨rfl, rfl⟩ := h
          rw [set_by t (hdIs t 94) rfl] at hset
          cases h94 : hdIs t 94
          · rw [h94] at hset
            cases hm : membersM t [] with
            | none =>
              have : (membersM t []).map (fun r => (false, r.1, r.2)) = some (no, acc, r0) := hset
              rw [hm] at this; cases this
            | some p =>
              have h1 : (membersM t []).map (fun r => (false, r.1, r.2)) = some (no, acc, r0) := hset
              rw [hm] at h1
              simp only [Option.map_some, Option.some.injEq, Prod.mk.injEq] at h1
              obtain ⟨rfl, h2, h3⟩ := h1
              obtain ⟨sp, e1, e2, ⟨k, e3, e3'⟩, e4⟩ := members_local t.length t [] p.1 p.2 (Nat.le_refl _) hm
              rw [h2] at e4
              rw [h3] at e1
              refine ⟨c :: sp, by rw [e1]; rfl, by simp, ⟨k, by rw [List.getLast?_cons, e3]; rfl, is_ne k 93 36 e3' (by decide)⟩, fun r2 => ?_⟩
              show bareM (c :: (sp ++ r2)) = _
              have hh : hdIs (sp ++ r2) 94 = false := by
                rw [hd_app sp r2 94 e2]
                rw [e1, hd_app sp r0 94 e2] at h94
                exact h94
              rw [bare_91 c _ h91, set_by (sp ++ r2) false hh.symm]
              show (Option.map _ (Option.map _ (membersM (sp ++ r2) []))) = _
              rw [e4 r2]; rfl
          · rw [h94] at hset
            match t, h94, hset with
            | d :: u, h94, hset =>
              have h1 : (membersM u []).map (fun r => (true, r.1, r.2)) = some (no, acc, r0) := hset
              cases hm : membersM u [] with
              | none => rw [hm] at h1; cases h1
              | some p =>
                rw [hm] at h1
                simp only [Option.map_some, Option.some.injEq, Prod.mk.injEq] at h1
                obtain ⟨rfl, h2, h3⟩ := h1
                obtain ⟨sp, e1, e2, ⟨k, e3, e3'⟩, e4⟩ := members_local u.length u [] p.1 p.2 (Nat.le_refl _) hm
                rw [h2] at e4
                rw [h3] at e1
                refine ⟨c :: d :: sp, by rw [e1]; rfl, by simp, ⟨k, by rw [List.getLast?_cons, List.getLast?_cons, e3]; rfl, is_ne k 93 36 e3' (by decide)⟩, fun r2 => ?_⟩
                show bareM (c :: d :: (sp ++ r2)) = _
                rw [bare_91 c _ h91, set_by (d :: (sp ++ r2)) true (show true = d.is 94 from Eq.symm h94)]
                show (Option.map _ (Option.map _ (membersM (sp ++ r2) []))) = _
                rw [e4 r2]; rfl
    · rw [bare_46 c t h46] at h
      simp only [Option.some.injEq, Prod.mk.injEq] at h
      obtain ⟨rfl, rfl⟩ := h
      exact ⟨[c], rfl, by simp, ⟨c, rfl, is_ne c 46 36 h46 (by decide)⟩, fun r2 => bare_46 c r2 h46⟩
theorem item_local (m : List Mk) (x : It) (r : List Mk) (h : itemM m = some (x, r)) : ∃ sp, m = sp ++ r ∧ sp ≠ [] ∧ (∃ k, sp.getLast? = some k ∧ k.is 36 = false) ∧ ∀ r2, (hdIs r2 42 = false ∨ hdIs r2 42 = hdIs r 42) → itemM (sp ++ r2) = some (x, r2) := by
  cases hb : bareM m with
  | none => unfold itemM at h; rw [hb] at h; cases h
  | some p =>
    obtain ⟨x0, r0⟩ := p
    obtain ⟨sp, e1, e2, e3, e4⟩ := bare_local m x0 r0 hb
    rw [itm_star m r0 x0 hb] at h
    cases h42 : hdIs r0 42
    · rw [h42] at h
      simp only [Bool.false_eq_true, if_false, Option.some.injEq, Prod.mk.injEq] at h
      obtain ⟨rfl, rfl⟩ := h
      refine ⟨sp, e1, e2, e3, fun r2 hr => ?_⟩
      have : hdIs r2 42 = false := by
        rcases hr with hr | hr
        · exact hr
        · rw [hr]; exact h42
      rw [itm_star _ r2 x0 (e4 r2), this]; rfl
    · rw [h42] at h
      simp only [if_true, Option.some.injEq, Prod.mk.injEq] at h
      obtain ⟨rfl, rfl⟩ := h
      match r0, h42 with
      | d :: u, h42 =>
        have h42' : d.is 42 = true := h42
        refine ⟨sp ++ [d], by rw [e1]; simp, by simp, ⟨d, by simp, is_ne d 42 36 h42' (by decide)⟩, fun r2 hr => ?_⟩
        rw [List.append_assoc]
        rw [itm_star _ _ x0 (e4 ([d] ++ r2))]
        show some (if d.is 42 then _ else _) = _
        rw [h42']; rfl

/-- the items that are taken, one behind the other -/
def RunsM : List Mk → List It → List Mk → Prop
  | m, [], m' => m = m'
  | m, x :: L, m' => ∃ m1, itemM m = some (x, m1) ∧ RunsM m1 L m'
theorem runs_snoc : ∀ (L : List It) (m m1 m2 : List Mk) (x : It), RunsM m L m1 → itemM m1 = some (x, m2) → RunsM m (L ++ [x]) m2 := by
  intro L
  induction L with
  | nil => intro m m1 m2 x h g; exact ⟨m2, by rw [show m = m1 from h]; exact g, rfl⟩
  | cons y L ih =>
    intro m m1 m2 x h g
    obtain ⟨m3, h1, h2⟩ := h
    exact ⟨m3, h1, ih m3 m1 m2 x h2 g⟩
theorem item_ne (m : List Mk) (p : It × List Mk) (h : itemM m = some p) : m ≠ [] := by
  rintro rfl
  simp [itemM, bareM] at h
theorem runs_items : ∀ (L : List It) (m m' : List Mk), RunsM m L m' → itemsA m = (itemsA m').map (L ++ ·) := by
  intro L
  induction L with
  | nil => intro m m' h; rw [show m = m' from h]; cases itemsA m' <;> rfl
  | cons y L ih =>
    intro m m' h
    obtain ⟨m3, h1, h2⟩ := h
    rw [itemsA_some m y m3 (item_ne _ _ h1) h1, ih m3 m' h2]
    cases itemsA m' <;> rfl
theorem runs_cut : ∀ (L : List It) (m m' : List Mk) (d : Mk), d.is 36 = true → RunsM m L (m' ++ [d]) → ∃ m1, m = m1 ++ [d] ∧ RunsM m1 L m' := by
  intro L
  induction L with
  | nil => intro m m' d hd h; exact ⟨m', h, rfl⟩
  | cons y L ih =>
    intro m m' d hd h
    obtain ⟨m3, h1, h2⟩ := h
    obtain ⟨m4, e, h4⟩ := ih m3 m' d hd h2
    obtain ⟨sp, e1, e2, e3, e5⟩ := item_local m y m3 h1
    refine ⟨sp ++ m4, by rw [e1, e, List.append_assoc], m4, e5 m4 ?_, h4⟩
    by_cases h0 : m4 = []
    · subst h0; exact .inl rfl
    · exact .inr (by rw [e, hd_app m4 [d] 42 h0])
theorem runs_last : ∀ (L : List It) (m m' : List Mk), RunsM m L m' → ∃ p, m = p ++ m' ∧ (p = [] ∨ ∃ k, p.getLast? = some k ∧ k.is 36 = false) := by
  intro L
  induction L with
  | nil => intro m m' h; exact ⟨[], h, .inl rfl⟩
  | cons y L ih =>
    intro m m' h
    obtain ⟨m3, h1, h2⟩ := h
    obtain ⟨p, e, h4⟩ := ih m3 m' h2
    obtain ⟨sp, e1, e2, ⟨k, e3, e3'⟩, e5⟩ := item_local m y m3 h1
    refine ⟨sp ++ p, by rw [e1, e, List.append_assoc], .inr ?_⟩
    rcases h4 with rfl | ⟨k2, h4, h5⟩
    · exact ⟨k, by rw [List.append_nil]; exact e3, e3'⟩
    · exact ⟨k2, by rw [List.getLast?_append, h4]; rfl, h5⟩
theorem item_more (m : List Mk) (x : It) (r : List Mk) (d : Mk) (hd : d.is 36 = true) (h : itemM m = some (x, r)) : itemM (m ++ [d]) = some (x, r ++ [d]) := by
  obtain ⟨sp, e1, e2, e3, e4⟩ := item_local m x r h
  have := e4 (r ++ [d]) (by
    by_cases h0 : r = []
    · subst h0; exact .inl (is_ne d 36 42 hd (by decide))
    · exact .inr (hd_app r [d] 42 h0))
  rw [e1, List.append_assoc]; exact this
def lastIs (m : List Mk) : Bool := (m.getLast?.map (·.is 36)).getD false
theorem exp_by (m : List Mk) (hm : m ≠ []) (hd : Bool) (hhd : hd = hdIs m 94) (m1 : List Mk) (h1 : m1 = if hd then m.drop 1 else m) : expM m = if lastIs m1 then (itemsA m1.dropLast).map (fun l => ⟨hd, true, l⟩) else (itemsA m1).map (fun l => ⟨hd, false, l⟩) := by
  have hl : 0 < m.length := List.length_pos_iff.2 hm
  have e0 : hd = m[0].is 94 := by
    rw [hhd]
    match m, hl with
    | a :: t, _ => rfl
  rw [expM_eq m hm hd (decide ((if hd then 1 else 0) < m.length) && (m[m.length - 1]'(by omega)).is 36) (if hd then 1 else 0) _ hl e0 rfl rfl rfl]
  have hlast : m.getLast? = some (m[m.length - 1]'(by omega)) := by rw [List.getLast?_eq_getElem?, List.getElem?_eq_getElem (by omega)]
  cases hd
  · have e1 : m1 = m := h1
    have e2 : lastIs m1 = (m[m.length - 1]'(by omega)).is 36 := by unfold lastIs; rw [e1, hlast]; rfl
    rw [e2, e1]
    simp only [Bool.false_eq_true, if_false, hl, decide_true, Bool.true_and, List.drop_zero]
    cases h36 : (m[m.length - 1]'(by omega)).is 36
    · simp
    · simp [List.dropLast_eq_take]
  · have e1 : m1 = m.drop 1 := h1
    simp only [if_true]
    by_cases h0 : 1 < m.length
    · have e2 : lastIs m1 = (m[m.length - 1]'(by omega)).is 36 := by
        unfold lastIs
        rw [e1, List.getLast?_drop, if_neg (by omega), hlast]; rfl
      rw [e2, e1]
      simp only [h0, decide_true, Bool.true_and]
      cases h36 : (m[m.length - 1]'(by omega)).is 36
      · simp
      · simp only [if_true]
        congr 2
        rw [List.dropLast_eq_take, List.length_drop, List.drop_take]
    · have e2 : m1 = [] := by rw [e1, List.drop_of_length_le (by omega)]
      have e3 : decide (1 < m.length) = false := by simpa using h0
      rw [e2]
      simp only [e3, Bool.false_and, Bool.false_eq_true, if_false, List.take_length]
      rw [List.drop_of_length_le (by omega)]; rfl
theorem exp_read (m : List Mk) (hd : Bool) (hhd : hd = hdIs m 94) (L : List It) (m2 : List Mk) (hr : RunsM (if hd then m.drop 1 else m) L m2) (hn : itemM m2 = none) :
    (m ≠ [] → m2 = [] → expM m = some ⟨hd, false, L⟩) ∧ (∀ d, m2 = [d] → d.is 36 = true → expM m = some ⟨hd, true, L⟩) ∧ (m2 ≠ [] → (∀ d, m2 = [d] → d.is 36 = false) → expM m = none) := by
  obtain ⟨m1, h1⟩ : ∃ m1 : List Mk, m1 = if hd then m.drop 1 else m := ⟨_, rfl⟩
  rw [← h1] at hr
  have hne : ∀ m' : List Mk, m1 ≠ [] → m ≠ [] := fun _ h e => h (by rw [h1, e]; cases hd <;> rfl)
  have hi := runs_items L m1 m2 hr
  refine ⟨fun hm e => ?_, fun d e hd36 => ?_, fun h2 h3 => ?_⟩
  · subst e
    rw [exp_by m hm hd hhd m1 h1]
    have hl : lastIs m1 = false := by
      obtain ⟨p, e, hp⟩ := runs_last L m1 [] hr
      rw [List.append_nil] at e
      rw [e]
      rcases hp with rfl | ⟨k, hk, hk2⟩
      · rfl
      · unfold lastIs; rw [hk]; exact hk2
    rw [hl, hi, itemsA_nil]
    simp
  · subst e
    obtain ⟨m3, e, hr3⟩ := runs_cut L m1 [] d hd36 hr
    have hm : m ≠ [] := hne m1 (by rw [e]; simp)
    rw [exp_by m hm hd hhd m1 h1]
    have hl : lastIs m1 = true := by unfold lastIs; rw [e]; simp [hd36]
    rw [hl, e]
    simp only [if_true, List.dropLast_concat]
    rw [runs_items L m3 [] hr3, itemsA_nil]
    simp
  · obtain ⟨p, e, hp⟩ := runs_last L m1 m2 hr
    have hm : m ≠ [] := hne m1 (by rw [e]; simp [h2])
    rw [exp_by m hm hd hhd m1 h1]
    cases hl : lastIs m1
    · simp only [Bool.false_eq_true, if_false]
      rw [hi, itemsA_none m2 h2 hn]; rfl
    · simp only [if_true]
      obtain ⟨m2', d, rfl⟩ : ∃ m' d, m2 = m' ++ [d] := ⟨m2.dropLast, m2.getLast h2, (List.dropLast_concat_getLast h2).symm⟩
      have hd36 : d.is 36 = true := by
        unfold lastIs at hl
        rw [e, ← List.append_assoc] at hl
        simpa using hl
      have h2' : m2' ≠ [] := fun e0 => by
        subst e0
        rw [h3 d rfl] at hd36; cases hd36
      obtain ⟨m3, e3, hr3⟩ := runs_cut L m1 m2' d hd36 hr
      rw [e3, List.dropLast_concat, runs_items L m3 m2' hr3]
      have hn' : itemM m2' = none := by
        cases hi2 : itemM m2' with
        | none => rfl
        | some q => rw [item_more m2' q.1 q.2 d hd36 hi2] at hn; cases hn
      rw [itemsA_none m2' h2' hn']; rfl
end Go.Proofs.YtlppphmnegdhoabGreatDoor

