/-
  The program's Find.
-/
import Derived.Test.YtlppphmnegdhoaaGm3
namespace Go.Proofs.Ytlppphmnegdhoaa
set_option linter.unusedVariables false
set_option maxRecDepth 100000
open Go.RowKit
open M

theorem find_hit (x : Ex) (s : List UInt8) (n i : Nat) (e : Int) (h : EndAt x s i e) (hne : e ≠ -1) (hn : n ≤ i) (hno : ∀ p d, n ≤ p → p < i → matchX x s p d = false) : FindAt x s n i e := by
  rcases h with ⟨rfl, _⟩ | ⟨q, rfl, h1, h2⟩
  · exact absurd rfl hne
  · exact .inr ⟨i, q, rfl, rfl, hn, h1, hno, h2⟩
theorem find_miss (x : Ex) (s : List UInt8) (i : Nat) (h : EndAt x s i (-1)) (d : Nat) : matchX x s i d = false := by
  rcases h with ⟨_, h⟩ | ⟨q, h, _⟩
  · exact h d
  · omega
theorem find_out (x : Ex) (s : List UInt8) (i d : Nat) (h : s.length < i) : matchX x s i d = false := by
  unfold matchX
  by_cases h1 : i ≤ d
  · rw [decide_eq_false (show ¬ d ≤ s.length by omega)]; simp
  · rw [decide_eq_false h1]; simp
def FPost (x : Ex) (s : ByteArray) (n : Nat) (w : World) (e : Ending) (w' : World) : Prop :=
  (∃ i j : Int, e = .returned (.tuple #[.int .i64 i, .int .i64 j]) ∧ FindAt x s.data.toList n i j) ∧ Below w.heap.size w w'
set_option maxRecDepth 100000 in
set_option maxHeartbeats 4000000 in
theorem efind_calls (hd tl : Bool) (a : Option Addr) (c : Nat) (L : List It) (s : ByteArray) (n : Nat) (w : World) (hs : s.size ≤ 256) (hn : n ≤ s.size) (hL : L.length ≤ 8192) (hit : ∀ k (h : k < L.length), ∃ g, a = some ⟨g, 0, none⟩ ∧ g < w.heap.size ∧ w.rangeAt g (k * 257) (bC 257 (itF L[k]))) :
    Calls Try.prog 65 #[.agg #[.bool hd, .bool tl, .slice a L.length c], .string s, .int .i64 n] w fun x w' => FPost ⟨hd, tl, L⟩ s n w x w' := by
  have HL : Hid (s.data.toList.length = s.size) := ba_len s
  go_enter Try.func65, Try.ntmps65
  go_wp2_with fail
  have hb1 : Below w.heap.size w (w.alloc (.cells #[.bool hd, .bool tl, .slice a L.length c] 82)) := (Below.refl _ _).alloc (Nat.le_refl _) _
  refine (ends_calls hd tl a c L s _ hs hL (fun k hk => by
    obtain ⟨g, e1, e2, e3⟩ := hit k hk
    exact ⟨g, e1, by have := hb1.size; omega, range_below e3 hb1 e2⟩)).mono ?_
  rintro e w2 ⟨⟨g, c', E, rfl, hr, he⟩, B2⟩
  have hB := hb1.trans (B2.mono hb1.size)
  have HE : Hid (∀ p, p ≤ s.size → EndAt ⟨hd, tl, L⟩ s.data.toList p (E p)) := he
  have HB : Hid (Below w.heap.size w w2) := hB
  clear he hb1 B2 hB hit
  go_wp2_with fail
  go_loop [9] (fun v9 => ∃ i : Nat, n ≤ i ∧ i ≤ s.size + 1 ∧ v9 = .int .i64 i ∧ Hid (∀ p d, n ≤ p → p < i → matchX ⟨hd, tl, L⟩ s.data.toList p d = false)) (fun v9 => s.size + 1 - (intOf v9).toNat)
  case atStart => exact ⟨n, Nat.le_refl _, by omega, rfl, fun p d h1 h2 => by omega⟩
  case round =>
    obtain ⟨i, hni, his, rfl, HN⟩ := hrel
    have h0 : (0 : Int) ≤ (i : Int) := by omega
    by_cases hlt : i ≤ s.size
    · have hlt1 : (i : Int) < (s.size : Int) + 1 := by omega
      have z0 := hr.c i (by omega)
      have HEi : Hid (EndAt ⟨hd, tl, L⟩ s.data.toList i (E i)) := HE.out i hlt
      generalize E i = x at *
      by_cases hx : x = -1
      · subst hx
        have HN2 : Hid (∀ p d, n ≤ p → p < i + 1 → matchX ⟨hd, tl, L⟩ s.data.toList p d = false) := fun p d h1 h2 => by
          by_cases e : p = i
          · rw [e]; exact find_miss _ _ _ HEi.out d
          · exact HN.out p d h1 (by omega)
        clear HN
        go_wp2
        go_round
        case rel => exact ⟨i + 1, by omega, by omega, by go_num, HN2.out⟩
        case measure => first | (simp [intOf]; done) | (simp [intOf]; omega)
      · have hx1 : (x != -1) = true := by simpa using hx
        have HF : Hid (FindAt ⟨hd, tl, L⟩ s.data.toList n i x) := find_hit _ _ n i x HEi.out hx hni HN.out
        clear hx HN HEi
        go_wp2_with fail
        go_quiet (fail)
        go_wp2
        go_ret2
        exact ⟨⟨i, x, rfl, HF.out⟩, below_drewN HB.out _⟩
    · have hlt1 : ¬ (i : Int) < (s.size : Int) + 1 := by omega
      have HF : Hid (FindAt ⟨hd, tl, L⟩ s.data.toList n (-1) (-1)) := .inl ⟨rfl, rfl, fun p d h1 => by
        by_cases e : p < i
        · exact HN.out p d h1 e
        · exact find_out _ _ p d (by rw [HL.out]; omega)⟩
      clear HN
      go_wp2
      go_ret2
      exact ⟨⟨-1, -1, rfl, HF.out⟩, HB.out⟩
theorem mks_zero (t m : List UInt8) (k : List Mk) (r : List UInt8) (h : mksM t = (k, r)) (ht : t = []) : k = [] ∧ r = [] := by
  subst ht; rw [mksM] at h; simp at h; exact h
theorem mks_ne (t : List UInt8) (m : List Mk) (h : mksM t = (m, [])) (ht : t ≠ []) : m ≠ [] := by
  rintro rfl
  match t, ht with
  | [c], _ =>
    rw [mksM] at h
    split at h <;> simp at h
  | c :: d :: t, _ =>
    rw [mksM] at h
    split at h
    · simp at h
    · split at h
      · split at h
        · simp at h
        · simp [preR] at h
      · simp [preR] at h
def PFPost (re s : ByteArray) (at' : Int) (w : World) (e : Ending) (w' : World) : Prop :=
  (∃ i j x : Int, e = .returned (.tuple #[.int .i64 i, .int .i64 j, .int .i64 x]) ∧ FindSpec re s at' i j x) ∧ Below w.heap.size w w'
set_option maxRecDepth 100000 in
set_option maxHeartbeats 4000000 in
theorem pfind_calls (re s : ByteArray) (at' : Int) (w : World) (hrm : re.size ≤ maxLen) (hsm : s.size ≤ maxLen) (h0 : -9223372036854775808 ≤ at') (h00 : at' ≤ 9223372036854775807) :
    Calls Try.prog 44 #[.string re, .string s, .int .i64 at'] w fun e w' => PFPost re s at' w e w' := by
  unfold maxLen at hrm hsm
  by_cases h1 : 400 < re.size
  · have h11 : (400 : Int) < (re.size : Int) := by omega
    go_enter Try.func44, Try.ntmps44
    go_wp2
    go_ret3
    exact ⟨⟨0, 0, 1, rfl, .inl ⟨.inl h1, rfl, rfl, rfl⟩⟩, Below.refl _ _⟩
  have h11 : ¬ (400 : Int) < (re.size : Int) := by omega
  by_cases h2 : 256 < s.size
  · have h21 : (256 : Int) < (s.size : Int) := by omega
    go_enter Try.func44, Try.ntmps44
    go_wp2
    go_ret3
    exact ⟨⟨0, 0, 1, rfl, .inl ⟨.inr h2, rfl, rfl, rfl⟩⟩, Below.refl _ _⟩
  have h21 : ¬ (256 : Int) < (s.size : Int) := by omega
  have hle : re.size ≤ 400 ∧ s.size ≤ 256 := by omega
  obtain ⟨m, r, hmr⟩ : ∃ m r, mksM re.data.toList = (m, r) := ⟨_, _, rfl⟩
  have HM : Hid (mksM (re.data.toList.drop 0) = (m, r)) := by show _ = _; rw [List.drop_zero]; exact hmr
  have HX : Hid (expOf re.data.toList = if r = [] then expM m else none) := expOf_mks _ m r hmr
  clear hmr
  go_enter Try.func44, Try.ntmps44
  go_wp2_with fail
  have HUP := rd_calls re 0 m r w (by omega) (Nat.zero_le _) HM.out
  rw [show ((0 : Nat) : Int) = 0 from rfl] at HUP
  refine HUP.mono ?_
  clear HUP
  rintro e w1 ⟨hd, tl, L, m3, n, a, c, rfl, hkn, hns, hm3, hown, B1, hLs, hA, hB⟩
  have hLb : L.length ≤ 8192 := by omega
  have HIT : Hid (∀ k (h : k < L.length), ∃ g, a = some ⟨g, 0, none⟩ ∧ g < w1.heap.size ∧ w1.rangeAt g (k * 257) (bC 257 (itF L[k]))) := fun k hk => its_range hown k hk
  have HNO : Hid (¬ (0 < n ∧ n = re.size) → expOf re.data.toList = none) := fun h => by
    rw [HX.out]
    split
    · rename_i hr
      subst hr
      by_cases hn : n = re.size
      · have : re.size = 0 := by omega
        have e : re.data.toList.drop 0 = [] := List.drop_of_length_le (by rw [ba_len]; omega)
        have h9 := HM.out
        rw [e, mksM] at h9
        simp at h9
        rw [h9]; rfl
      · refine hB fun h3 => ?_
        subst h3
        have : re.data.toList.drop n ≠ [] := fun e => by
          have := congrArg List.length e
          rw [List.length_drop, ba_len] at this
          simp at this; omega
        exact mks_ne _ _ hm3 this rfl
    · rfl
  have HYES : Hid (0 < n → n = re.size → expOf re.data.toList = some ⟨hd, tl, L⟩) := fun h h' => by
    have e : re.data.toList.drop n = [] := List.drop_of_length_le (by rw [ba_len]; omega)
    rw [e, mksM] at hm3
    simp at hm3
    rw [HX.out, if_pos hm3.2]
    refine hA (mks_ne _ _ (by have h9 := HM.out; rw [hm3.2] at h9; exact h9) (fun e => ?_)) hm3.1
    have := congrArg List.length e
    rw [List.length_drop, ba_len] at this
    have h9 : re.size - 0 = 0 := this
    omega
  clear hm3 hA hB hown HX HM
  by_cases hn0 : 0 < n
  · by_cases hnr : n = re.size
    · have HXX : Hid (expOf re.data.toList = some ⟨hd, tl, L⟩) := HYES.out hn0 hnr
      have hd1 : decide (0 < n) = true := decide_eq_true hn0
      have hne : ((n : Int) != (re.size : Int)) = false := by simp; omega
      rw [hd1]
      clear HNO HYES hnr hd1
      by_cases ha : at' < 0
      · have HS : Hid (FindSpec re s at' 0 0 3) := .inr ⟨hle, .inr ⟨_, HXX.out, .inl ⟨.inl ha, rfl, rfl, rfl⟩⟩⟩
        go_wp2
        go_ret3
        exact ⟨⟨0, 0, 3, rfl, HS.out⟩, B1.alloc B1.size _⟩
      · by_cases ha2 : (s.size : Int) < at'
        · have HS : Hid (FindSpec re s at' 0 0 3) := .inr ⟨hle, .inr ⟨_, HXX.out, .inl ⟨.inr ha2, rfl, rfl, rfl⟩⟩⟩
          go_wp2
          go_ret3
          exact ⟨⟨0, 0, 3, rfl, HS.out⟩, B1.alloc B1.size _⟩
        · obtain ⟨k, rfl⟩ : ∃ k : Nat, at' = k := ⟨at'.toNat, by omega⟩
          have hk : k ≤ s.size := by omega
          go_wp2_with fail
          have hb2 : Below w1.heap.size w1 (w1.alloc (.cells #[.bool hd, .bool tl, .slice a L.length c] 82)) := (Below.refl _ _).alloc (Nat.le_refl _) _
          refine (efind_calls hd tl a c L s k _ hle.2 hk hLb (fun k hk => by
            obtain ⟨g, e1, e2, e3⟩ := HIT.out k hk
            exact ⟨g, e1, by have := hb2.size; omega, range_below e3 hb2 e2⟩)).mono ?_
          rintro e w4 ⟨⟨i, j, rfl, hf⟩, B4⟩
          have HS : Hid (FindSpec re s k i j 0) := .inr ⟨hle, .inr ⟨_, HXX.out, .inr ⟨k, rfl, hk, rfl, hf⟩⟩⟩
          have B5 : Below w.heap.size w w4 := (B1.trans (hb2.mono B1.size)).trans (B4.mono (by have := hb2.size; have := B1.size; omega))
          clear hf HIT hb2 B4
          go_wp2
          go_ret3
          exact ⟨⟨i, j, 0, rfl, HS.out⟩, B5⟩
    · have HS : Hid (FindSpec re s at' 0 0 2) := .inr ⟨hle, .inl ⟨HNO.out (fun h => hnr h.2), rfl, rfl, rfl⟩⟩
      have hd1 : decide (0 < n) = true := decide_eq_true hn0
      have hne : ((n : Int) != (re.size : Int)) = true := by simp; omega
      rw [hd1]
      clear HNO HYES hnr hd1
      go_wp2
      go_ret3
      exact ⟨⟨0, 0, 2, rfl, HS.out⟩, B1.alloc B1.size _⟩
  · have HS : Hid (FindSpec re s at' 0 0 2) := .inr ⟨hle, .inl ⟨HNO.out (fun h => hn0 h.1), rfl, rfl, rfl⟩⟩
    have hd1 : decide (0 < n) = false := decide_eq_false hn0
    rw [hd1]
    clear HNO HYES hd1
    go_wp2
    go_ret3
    exact ⟨⟨0, 0, 2, rfl, HS.out⟩, B1.alloc B1.size _⟩
end Go.Proofs.Ytlppphmnegdhoaa
