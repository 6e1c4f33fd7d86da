/-
  The document's answer: its loose reader.
-/
import Derived.Test.YtlppphmnegdhoaaDoc2
namespace Go.Proofs.Ytlppphmnegdhoaa
set_option linter.unusedVariables false
open Go.RowKit
open M

/-- what the loose reader of a number answers -/
def LsPost (s : ByteArray) (p : Nat) (e : Ending) : Prop :=
  ∃ v q : Nat, e = .returned (.tuple #[.int .i64 v, .int .i64 q]) ∧ lsNum (s.data.toList.drop p) = (v, s.data.toList.drop q) ∧ p ≤ q ∧ (q ≤ s.size ∨ q = p) ∧ (p < s.size → p < q)

set_option maxRecDepth 100000 in
set_option maxHeartbeats 1000000 in
theorem number_calls (s : ByteArray) (p : Nat) (w : World) (hs : s.size ≤ 12352) (hp : p ≤ 20000) :
    Calls Try.prog 99 #[.string s, .int .i64 p] w fun e w' => LsPost s p e ∧ w' = w := by
  go_enter Try.func99, Try.ntmps99
  go_wp2
  go_loop [1, 6, 7, 8] (fun at' v wt k => ∃ kk vv ww : Nat, (kk = 0 ∧ ww = 1 ∨ kk = 1 ∧ ww = 128 ∨ kk = 2 ∧ ww = 16384 ∨ kk = 3 ∧ ww = 2097152) ∧ (kk = 0 ∨ p + kk ≤ s.size) ∧ at' = .int .i64 (p + kk : Nat) ∧ v = .int .i64 vv ∧ wt = .int .i64 ww ∧ k = .int .i64 kk ∧ vv < ww ∧ Hid (lsNum (s.data.toList.drop p) = lsN (3 - kk) vv ww (s.data.toList.drop (p + kk)))) (fun _ _ _ k => 3 - (intOf k).toNat)
  case atStart => exact ⟨0, 0, 1, .inl ⟨rfl, rfl⟩, .inl rfl, rfl, rfl, rfl, rfl, by omega, rfl⟩
  case round =>
    obtain ⟨kk, vv, ww, hkw, hkx, rfl, rfl, rfl, rfl, hvw, H⟩ := hrel
    rcases hkw with ⟨rfl, rfl⟩ | ⟨rfl, rfl⟩ | ⟨rfl, rfl⟩ | ⟨rfl, rfl⟩
    · obtain rfl : vv = 0 := by omega
      by_cases hlt : p < s.size
      · obtain ⟨c, hcq⟩ : ∃ c : Nat, s[p].toNat = c := ⟨_, rfl⟩
        have hc : c < 256 := by rw [← hcq]; exact s[p].toNat_lt
        have HQ : Hid (lsNum (s.data.toList.drop p) = if c < 128 then (0 + c % 128 * 1, s.data.toList.drop (p + 1)) else lsN 2 (0 + c % 128 * 1) (1 * 128) (s.data.toList.drop (p + 1))) := by
          rw [H.out]; show lsN 3 0 1 (s.data.toList.drop p) = _
          rw [get_drop s p hlt, ← hcq]; exact rfl
        have hlt1 : (p : Int) < (s.size : Int) := by omega
        by_cases h8 : c < 128
        · have HS : Hid (lsNum (s.data.toList.drop p) = (0 + c % 128 * 1, s.data.toList.drop (p + 1))) := by
            rw [HQ.out, if_pos h8]; exact rfl
          have h81 : (c : Int) < 128 := by omega
          clear hkx
          go_wp2
          go_ret2
          exact ⟨⟨0 + c % 128 * 1, p + 1, ret_two (by omega) (by omega), HS.out, by omega, by omega, by omega⟩, rfl⟩
        · have HS : Hid (lsNum (s.data.toList.drop p) = lsN 2 (0 + c % 128 * 1) (1 * 128) (s.data.toList.drop (p + 1))) := by
            rw [HQ.out, if_neg h8]; exact rfl
          have h82 : ¬ (c : Int) < 128 := by omega
          clear h8 hkx
          go_wp2
          go_round
          case rel => exact ⟨1, 0 + c % 128 * 1, 128, by omega, by omega, by go_num, by go_num, rfl, rfl, by omega, HS.out⟩
          case measure => simp [intOf]
      · have HN : Hid (lsNum (s.data.toList.drop p) = (0, s.data.toList.drop p)) := by
          rw [H.out, List.drop_of_length_le (i := p) (by rw [ba_len]; omega)]; show lsN 3 0 1 (s.data.toList.drop p) = _; rw [List.drop_of_length_le (by rw [ba_len]; omega)]; exact rfl
        have hle : ¬ (p : Int) < (s.size : Int) := by omega
        clear hlt
        go_wp2
        go_ret2
        exact ⟨⟨0, p, ret_two (by omega) (by omega), HN.out, by omega, by omega, by omega⟩, rfl⟩
    · by_cases hlt : p + 1 < s.size
      · obtain ⟨c, hcq⟩ : ∃ c : Nat, s[p + 1].toNat = c := ⟨_, rfl⟩
        have hc : c < 256 := by rw [← hcq]; exact s[p + 1].toNat_lt
        have HQ : Hid (lsNum (s.data.toList.drop p) = if c < 128 then (vv + c % 128 * 128, s.data.toList.drop (p + 2)) else lsN 1 (vv + c % 128 * 128) (128 * 128) (s.data.toList.drop (p + 2))) := by
          rw [H.out]
          rw [get_drop s (p + 1) hlt, ← hcq]; exact rfl
        have hlt1 : ((p + 1) : Int) < (s.size : Int) := by omega
        by_cases h8 : c < 128
        · have HS : Hid (lsNum (s.data.toList.drop p) = (vv + c % 128 * 128, s.data.toList.drop (p + 2))) := by
            rw [HQ.out, if_pos h8]; exact rfl
          have h81 : (c : Int) < 128 := by omega
          clear hkx
          go_wp2
          go_ret2
          exact ⟨⟨vv + c % 128 * 128, p + 2, ret_two (by omega) (by omega), HS.out, by omega, by omega, by omega⟩, rfl⟩
        · have HS : Hid (lsNum (s.data.toList.drop p) = lsN 1 (vv + c % 128 * 128) (128 * 128) (s.data.toList.drop (p + 2))) := by
            rw [HQ.out, if_neg h8]; exact rfl
          have h82 : ¬ (c : Int) < 128 := by omega
          clear h8 hkx
          go_wp2
          go_round
          case rel => exact ⟨2, vv + c % 128 * 128, 16384, by omega, by omega, by go_num, by go_num, rfl, rfl, by omega, HS.out⟩
          case measure => simp [intOf]
      · have HN : Hid (lsNum (s.data.toList.drop p) = (vv, s.data.toList.drop (p + 1))) := by
          rw [H.out, List.drop_of_length_le (i := (p + 1)) (by rw [ba_len]; omega)]; exact rfl
        have hle : ¬ ((p + 1) : Int) < (s.size : Int) := by omega
        clear hlt
        go_wp2
        go_ret2
        exact ⟨⟨vv, p + 1, ret_two (by omega) (by omega), HN.out, by omega, by omega, by omega⟩, rfl⟩
    · by_cases hlt : p + 2 < s.size
      · obtain ⟨c, hcq⟩ : ∃ c : Nat, s[p + 2].toNat = c := ⟨_, rfl⟩
        have hc : c < 256 := by rw [← hcq]; exact s[p + 2].toNat_lt
        have HQ : Hid (lsNum (s.data.toList.drop p) = if c < 128 then (vv + c % 128 * 16384, s.data.toList.drop (p + 3)) else lsN 0 (vv + c % 128 * 16384) (16384 * 128) (s.data.toList.drop (p + 3))) := by
          rw [H.out]
          rw [get_drop s (p + 2) hlt, ← hcq]; exact rfl
        have hlt1 : ((p + 2) : Int) < (s.size : Int) := by omega
        by_cases h8 : c < 128
        · have HS : Hid (lsNum (s.data.toList.drop p) = (vv + c % 128 * 16384, s.data.toList.drop (p + 3))) := by
            rw [HQ.out, if_pos h8]; exact rfl
          have h81 : (c : Int) < 128 := by omega
          clear hkx
          go_wp2
          go_ret2
          exact ⟨⟨vv + c % 128 * 16384, p + 3, ret_two (by omega) (by omega), HS.out, by omega, by omega, by omega⟩, rfl⟩
        · have HS : Hid (lsNum (s.data.toList.drop p) = lsN 0 (vv + c % 128 * 16384) (16384 * 128) (s.data.toList.drop (p + 3))) := by
            rw [HQ.out, if_neg h8]; exact rfl
          have h82 : ¬ (c : Int) < 128 := by omega
          clear h8 hkx
          go_wp2
          go_round
          case rel => exact ⟨3, vv + c % 128 * 16384, 2097152, by omega, by omega, by go_num, by go_num, rfl, rfl, by omega, HS.out⟩
          case measure => simp [intOf]
      · have HN : Hid (lsNum (s.data.toList.drop p) = (vv, s.data.toList.drop (p + 2))) := by
          rw [H.out, List.drop_of_length_le (i := (p + 2)) (by rw [ba_len]; omega)]; exact rfl
        have hle : ¬ ((p + 2) : Int) < (s.size : Int) := by omega
        clear hlt
        go_wp2
        go_ret2
        exact ⟨⟨vv, p + 2, ret_two (by omega) (by omega), HN.out, by omega, by omega, by omega⟩, rfl⟩
    · have HN : Hid (lsNum (s.data.toList.drop p) = (vv, s.data.toList.drop (p + 3))) := by rw [H.out]; exact rfl
      go_wp2
      go_ret2
      exact ⟨⟨vv, p + 3, ret_two (by omega) (by omega), HN.out, by omega, by omega, by omega⟩, rfl⟩

set_option maxRecDepth 100000 in
set_option maxHeartbeats 400000 in
theorem pair_calls (s : ByteArray) (p : Nat) (w : World) (hs : s.size ≤ 12352) (hp : p ≤ 20010) :
    Calls Try.prog 100 #[.string s, .int .i64 p] w fun e w' => (∃ x : Nat, e = .returned (.int .i64 x) ∧ x < 65536 ∧ ∀ v t, v < 65536 → s.data.toList.drop p = twoE v ++ t → x = v) ∧ ∃ n, w' = w.drewN n := by
  by_cases hlt : p + 1 < s.size
  · have h0 : p < s.size := by omega
    have h2 : (p : Int) + 1 < (s.size : Int) := by omega
    have h3 : IntKind.i64.wrap ((p : Int) + 1) = (p : Int) + 1 := by rw [IntKind.wrap_i64]; omega
    obtain ⟨c, hcq⟩ : ∃ c : Nat, s[p].toNat = c := ⟨_, rfl⟩
    have hc : c < 256 := by rw [← hcq]; exact s[p].toNat_lt
    obtain ⟨d, hdq⟩ : ∃ d : Nat, s[p + 1].toNat = d := ⟨_, rfl⟩
    have hd : d < 256 := by rw [← hdq]; exact s[p + 1].toNat_lt
    have HV : Hid (∀ v t, v < 65536 → s.data.toList.drop p = twoE v ++ t → c * 256 + d = v) := by
      intro v t hv h
      have e1 := rdTwo_twoE v t hv
      rw [← h, get_drop s p h0, get_drop s (p + 1) hlt] at e1
      simp [rdTwo, hcq, hdq] at e1
      exact e1.1
    go_enter Try.func100, Try.ntmps100
    go_wp2
    go_region
    all_goals go_wp2
    all_goals go_ret
    all_goals exact ⟨⟨c * 256 + d, ret_int (by omega), by omega, HV.out⟩, 1, rfl⟩
  · have HV : Hid (∀ v t, v < 65536 → s.data.toList.drop p = twoE v ++ t → 0 = v) := by
      intro v t hv h
      have e1 := len_drop s p
      rw [h] at e1
      simp [twoE] at e1
      omega
    have h2 : ¬ (p : Int) + 1 < (s.size : Int) := by omega
    go_enter Try.func100, Try.ntmps100
    go_wp2
    go_ret
    exact ⟨⟨0, rfl, by omega, HV.out⟩, 0, rfl⟩
end Go.Proofs.Ytlppphmnegdhoaa
