/-
  What the readers of numbers, sums and records answer.
-/
import Derived.Test.YtlppphmnegdhoaaMath
import Derived.Deep.QuietTactic
import Derived.BigQuiet
namespace Go.Proofs.Ytlppphmnegdhoaa
set_option linter.unusedVariables false
open Go.RowKit
open M

theorem get_drop (s : ByteArray) (p : Nat) (h : p < s.size) : s.data.toList.drop p = s[p] :: s.data.toList.drop (p + 1) := by
  rw [List.drop_eq_getElem_cons (by simpa using h)]; rfl
theorem len_drop (s : ByteArray) (p : Nat) : (s.data.toList.drop p).length = s.size - p := by
  rw [List.length_drop, ba_len]

/-- what a reader of a number answers at a place -/
def numAns (s : ByteArray) (o : Option (Nat × List UInt8)) : Value :=
  match o with
  | none => .tuple #[.int .i64 0, .int .i64 0, .bool false]
  | some (v, r) => .tuple #[.int .i64 (v : Nat), .int .i64 ((s.size - r.length : Nat) : Nat), .bool true]

theorem numAns_some {s : ByteArray} {o : Option (Nat × List UInt8)} {v : Nat} {r : List UInt8} (h : o = some (v, r)) {a b : Int} (ha : a = (v : Int)) (hb : b = ((s.size - r.length : Nat) : Int)) :
    Ending.returned (.tuple #[.int .i64 a, .int .i64 b, .bool true]) = .returned (numAns s o) := by
  rw [h, ha, hb]; rfl

set_option maxRecDepth 100000 in
set_option maxHeartbeats 1000000 in
theorem readNumber_calls (s : ByteArray) (p : Nat) (w : World) (hs : s.size ≤ maxLen) (hp : p ≤ s.size) :
    Calls Try.prog 106 #[.string s, .int .i64 p] w fun e w' => e = .returned (numAns s (M.rdNum (s.data.toList.drop p))) ∧ w' = w := by
  unfold maxLen at hs
  go_enter Try.func106, Try.ntmps106
  go_wp2
  go_loop [1, 7, 8, 9] (fun at' v wt k => ∃ kk vv ww : Nat, (kk = 0 ∧ ww = 1 ∨ kk = 1 ∧ ww = 128 ∨ kk = 2 ∧ ww = 16384 ∨ kk = 3 ∧ ww = 2097152) ∧ p + kk ≤ s.size ∧ at' = .int .i64 (p + kk : Nat) ∧ v = .int .i64 vv ∧ wt = .int .i64 ww ∧ k = .int .i64 kk ∧ vv < ww ∧ Hid (M.rdNum (s.data.toList.drop p) = M.rdN (3 - kk) vv ww (kk == 0) (s.data.toList.drop (p + kk)))) (fun _ _ _ k => 3 - (intOf k).toNat)
  case atStart => exact ⟨0, 0, 1, .inl ⟨rfl, rfl⟩, hp, rfl, rfl, rfl, rfl, by omega, rfl⟩
  case round =>
    obtain ⟨kk, vv, ww, hkw, hps, rfl, rfl, rfl, rfl, hvw, H⟩ := hrel
    rcases hkw with ⟨rfl, rfl⟩ | ⟨rfl, rfl⟩ | ⟨rfl, rfl⟩ | ⟨rfl, rfl⟩
    · obtain rfl : vv = 0 := by omega
      by_cases hlt : p < s.size
      · obtain ⟨c, hcq⟩ : ∃ c : Nat, s[p].toNat = c := ⟨_, rfl⟩
        have hc : c < 256 := by rw [← hcq]; exact s[p].toNat_lt
        have HQ : Hid (M.rdNum (s.data.toList.drop p) = if c = 0 ∧ true = false then none else if c < 128 then some (0 + c * 1, s.data.toList.drop (p + 1)) else M.rdN 2 (0 + (c - 128) * 1) (1 * 128) false (s.data.toList.drop (p + 1))) := by
          rw [H.out]; show M.rdN 3 0 1 true (s.data.toList.drop p) = _
          rw [get_drop s p hlt, ← hcq]; exact rfl
        by_cases h8 : c < 128
        · have HS : Hid (M.rdNum (s.data.toList.drop p) = some (0 + c * 1, s.data.toList.drop (p + 1))) := by
            rw [HQ.out, if_neg (by simp), if_pos h8]; exact rfl
          have HL : Hid ((s.data.toList.drop (p + 1)).length = s.size - (p + 1)) := len_drop s _
          have h81 : (c : Int) < 128 := by omega
          go_wp2
          all_goals go_ret3
          all_goals exact ⟨numAns_some HS.out (by omega) (by rw [HL.out]; omega), rfl⟩
        · have HS : Hid (M.rdNum (s.data.toList.drop p) = M.rdN 2 (0 + (c - 128) * 1) (1 * 128) false (s.data.toList.drop (p + 1))) := by
            rw [HQ.out, if_neg (by simp), if_neg h8]; exact rfl
          have h82 : 128 ≤ c := by omega
          clear h8
          go_wp2
          go_round
          case rel => exact ⟨1, 0 + (c - 128) * 1, 128, by omega, by omega, by go_num, by go_num, rfl, rfl, by omega, HS.out⟩
          case measure => simp [intOf]
      · have HN : Hid (M.rdNum (s.data.toList.drop p) = none) := by
          rw [H.out, List.drop_of_length_le (by rw [ba_len]; omega)]; exact rfl
        have hle : s.size ≤ p := by omega
        go_wp2
        go_ret3
        exact ⟨by rw [HN.out]; rfl, rfl⟩
    · by_cases hlt : p + 1 < s.size
      · obtain ⟨c, hcq⟩ : ∃ c : Nat, s[p + 1].toNat = c := ⟨_, rfl⟩
        have hc : c < 256 := by rw [← hcq]; exact s[p + 1].toNat_lt
        have HQ : Hid (M.rdNum (s.data.toList.drop p) = if c = 0 ∧ false = false then none else if c < 128 then some (vv + c * 128, s.data.toList.drop (p + 2)) else M.rdN 1 (vv + (c - 128) * 128) (128 * 128) false (s.data.toList.drop (p + 2))) := by
          rw [H.out]
          rw [get_drop s (p + 1) hlt, ← hcq]; exact rfl
        by_cases hz : c = 0
        · have HN : Hid (M.rdNum (s.data.toList.drop p) = none) := by
            rw [HQ.out, if_pos ⟨hz, rfl⟩]; exact rfl
          subst hz
          go_wp2
          go_ret3
          exact ⟨by rw [HN.out]; rfl, rfl⟩
        have hz1 : ((c : Int) == 0) = false := by simp; omega
        have hz2 : 0 < c := by omega
        by_cases h8 : c < 128
        · have HS : Hid (M.rdNum (s.data.toList.drop p) = some (vv + c * 128, s.data.toList.drop (p + 2))) := by
            rw [HQ.out, if_neg (fun q => hz q.1), if_pos h8]; exact rfl
          have HL : Hid ((s.data.toList.drop (p + 2)).length = s.size - (p + 2)) := len_drop s _
          clear hz
          have h81 : (c : Int) < 128 := by omega
          go_wp2
          go_ret3
          exact ⟨numAns_some HS.out (by omega) (by rw [HL.out]; omega), rfl⟩
        · have HS : Hid (M.rdNum (s.data.toList.drop p) = M.rdN 1 (vv + (c - 128) * 128) (128 * 128) false (s.data.toList.drop (p + 2))) := by
            rw [HQ.out, if_neg (fun q => hz q.1), if_neg h8]; exact rfl
          clear hz
          have h82 : 128 ≤ c := by omega
          clear h8
          go_wp2
          go_round
          case rel => exact ⟨2, vv + (c - 128) * 128, 16384, by omega, by omega, by go_num, by go_num, rfl, rfl, by omega, HS.out⟩
          case measure => simp [intOf]
      · have HN : Hid (M.rdNum (s.data.toList.drop p) = none) := by
          rw [H.out, List.drop_of_length_le (by rw [ba_len]; omega)]; exact rfl
        have hle : s.size ≤ p + 1 := by omega
        go_wp2
        go_ret3
        exact ⟨by rw [HN.out]; rfl, rfl⟩
    · by_cases hlt : p + 2 < s.size
      · obtain ⟨c, hcq⟩ : ∃ c : Nat, s[p + 2].toNat = c := ⟨_, rfl⟩
        have hc : c < 256 := by rw [← hcq]; exact s[p + 2].toNat_lt
        have HQ : Hid (M.rdNum (s.data.toList.drop p) = if c = 0 ∧ false = false then none else if c < 128 then some (vv + c * 16384, s.data.toList.drop (p + 3)) else M.rdN 0 (vv + (c - 128) * 16384) (16384 * 128) false (s.data.toList.drop (p + 3))) := by
          rw [H.out]
          rw [get_drop s (p + 2) hlt, ← hcq]; exact rfl
        by_cases hz : c = 0
        · have HN : Hid (M.rdNum (s.data.toList.drop p) = none) := by
            rw [HQ.out, if_pos ⟨hz, rfl⟩]; exact rfl
          subst hz
          go_wp2
          go_ret3
          exact ⟨by rw [HN.out]; rfl, rfl⟩
        have hz1 : ((c : Int) == 0) = false := by simp; omega
        have hz2 : 0 < c := by omega
        by_cases h8 : c < 128
        · have HS : Hid (M.rdNum (s.data.toList.drop p) = some (vv + c * 16384, s.data.toList.drop (p + 3))) := by
            rw [HQ.out, if_neg (fun q => hz q.1), if_pos h8]; exact rfl
          have HL : Hid ((s.data.toList.drop (p + 3)).length = s.size - (p + 3)) := len_drop s _
          clear hz
          have h81 : (c : Int) < 128 := by omega
          go_wp2
          go_ret3
          exact ⟨numAns_some HS.out (by omega) (by rw [HL.out]; omega), rfl⟩
        · have HS : Hid (M.rdNum (s.data.toList.drop p) = M.rdN 0 (vv + (c - 128) * 16384) (16384 * 128) false (s.data.toList.drop (p + 3))) := by
            rw [HQ.out, if_neg (fun q => hz q.1), if_neg h8]; exact rfl
          clear hz
          have h82 : 128 ≤ c := by omega
          clear h8
          go_wp2
          go_round
          case rel => exact ⟨3, vv + (c - 128) * 16384, 2097152, by omega, by omega, by go_num, by go_num, rfl, rfl, by omega, HS.out⟩
          case measure => simp [intOf]
      · have HN : Hid (M.rdNum (s.data.toList.drop p) = none) := by
          rw [H.out, List.drop_of_length_le (by rw [ba_len]; omega)]; exact rfl
        have hle : s.size ≤ p + 2 := by omega
        go_wp2
        go_ret3
        exact ⟨by rw [HN.out]; rfl, rfl⟩
    · have HN : Hid (M.rdNum (s.data.toList.drop p) = none) := by rw [H.out]; exact rfl
      go_wp2
      go_ret3
      exact ⟨by rw [HN.out]; rfl, rfl⟩

theorem rdTwo_len (s : ByteArray) (p : Nat) : (∃ v, rdTwo (s.data.toList.drop p) = some (v, s.data.toList.drop (p + 2)) ∧ p + 2 ≤ s.size ∧ v < 65536) ∨ (rdTwo (s.data.toList.drop p) = none ∧ s.size < p + 2) := by
  by_cases h : p + 2 ≤ s.size
  · have h0 : p < s.size := by omega
    have h1 : p + 1 < s.size := by omega
    refine .inl ⟨s[p].toNat * 256 + s[p + 1].toNat, ?_, h, ?_⟩
    · rw [get_drop s p h0, get_drop s (p + 1) h1]; rfl
    · have := s[p].toNat_lt; have := s[p + 1].toNat_lt; omega
  · refine .inr ⟨?_, by omega⟩
    have hl := len_drop s p
    match hd : s.data.toList.drop p with
    | [] => exact rfl
    | [a] => exact rfl
    | a :: b :: l => rw [hd] at hl; simp at hl; omega

set_option maxHeartbeats 400000 in
theorem readTwo_yes (s : ByteArray) (p v : Nat) (w : World) (hs : s.size ≤ maxLen) (hp : p + 2 ≤ s.size) (hv : rdTwo (s.data.toList.drop p) = some (v, s.data.toList.drop (p + 2))) :
    Calls Try.prog 96 #[.string s, .int .i64 p] w fun e w' => e = .returned (.tuple #[.int .i64 v, .int .i64 (p + 2 : Nat), .bool true]) ∧ w' = w.drew := by
  unfold maxLen at hs
  have h0 : p < s.size := by omega
  have h1 : p + 1 < s.size := by omega
  have h2 : (p : Int) + 1 < (s.size : Int) := by omega
  have h3 : IntKind.i64.wrap ((p : Int) + 1) = (p : Int) + 1 := by rw [IntKind.wrap_i64]; omega
  have h4 : IntKind.i64.wrap ((p : Int) + 2) = (p : Int) + 2 := by rw [IntKind.wrap_i64]; omega
  obtain ⟨c, hcq⟩ : ∃ c : Nat, s[p].toNat = c := ⟨_, rfl⟩
  have hc : c < 256 := by rw [← hcq]; exact s[p].toNat_lt
  obtain ⟨d, hdq⟩ : ∃ d : Nat, s[p + 1].toNat = d := ⟨_, rfl⟩
  have hd : d < 256 := by rw [← hdq]; exact s[p + 1].toNat_lt
  have HV : Hid (v = c * 256 + d) := by
    rw [get_drop s p h0, get_drop s (p + 1) h1] at hv
    simp [rdTwo, hcq, hdq] at hv
    exact hv.symm
  clear hv
  go_enter Try.func96, Try.ntmps96
  go_wp2
  go_region
  all_goals go_wp2
  all_goals go_ret3
  all_goals exact ⟨by rw [HV.out]; congr 4, rfl⟩

set_option maxHeartbeats 400000 in
theorem readTwo_no (s : ByteArray) (p : Nat) (w : World) (hs : s.size ≤ maxLen) (hp : p ≤ s.size) (h : s.size < p + 2) :
    Calls Try.prog 96 #[.string s, .int .i64 p] w fun e w' => e = .returned (.tuple #[.int .i64 0, .int .i64 0, .bool false]) ∧ w' = w := by
  unfold maxLen at hs
  have h5 : (s.size : Int) - (p : Int) < 2 := by omega
  go_enter Try.func96, Try.ntmps96
  go_wp2
  go_ret3
  exact ⟨rfl, rfl⟩

theorem ret_bool {a b : Bool} (h : a = b) : Ending.returned (.bool a) = .returned (.bool b) := by rw [h]
theorem ret_two {a b c d : Int} (h : a = c) (g : b = d) : Ending.returned (.tuple #[.int .i64 a, .int .i64 b]) = .returned (.tuple #[.int .i64 c, .int .i64 d]) := by rw [h, g]
theorem empty_iff (s : ByteArray) : s.toList.isEmpty = decide (s.size = 0) := by
  have h : s.toList.length = s.size := by rw [ByteArray.toList_eq]; exact ba_len s
  rw [Bool.eq_iff_iff, List.isEmpty_iff, decide_eq_true_iff, ← h, List.length_eq_zero_iff]
theorem okRec_low (r : M.Rec) (h : r.n < 1) : false = M.okRec r := by
  have : decide (1 ≤ r.n) = false := by simp; omega
  simp [M.okRec, this]
theorem okRec_0 (r : M.Rec) (h : 1 ≤ r.n) (k : (r.kind == 0) = true) : r.s.toList.isEmpty = M.okRec r := by
  simp at k; simp [M.okRec, k, h, empty_iff]
theorem okRec_1 (r : M.Rec) (h : 1 ≤ r.n) (k : (r.kind == 1) = true) : r.s.toList.isEmpty = M.okRec r := by
  simp at k; simp [M.okRec, k, h, empty_iff]
theorem okRec_2 (r : M.Rec) (h : 1 ≤ r.n) (k : (r.kind == 2) = true) : ((r.s.size : Int) == r.n) = M.okRec r := by
  simp at k; simp [M.okRec, k, h]; rfl
theorem okRec_x (r : M.Rec) (k0 : (r.kind == 0) = false) (k1 : (r.kind == 1) = false) (k2 : (r.kind == 2) = false) : false = M.okRec r := by
  simp at k0 k1 k2; simp [M.okRec, k0, k1, k2]

set_option maxHeartbeats 400000 in
theorem isRecord_calls (r : M.Rec) (w : World)  :
    Calls Try.prog 71 #[.agg #[.int .i64 r.kind, .int .i64 r.n, .string r.s]] w fun e w' => e = .returned (.bool (M.okRec r)) ∧ Below w.heap.size w w' := by
  go_enter Try.func71, Try.ntmps71
  go_wp2
  all_goals go_ret
  all_goals refine ⟨?_, (Below.refl _ _).alloc (Nat.le_refl _) _⟩
  all_goals first | exact ret_bool (okRec_low r (by assumption)) | exact ret_bool (okRec_0 r (by assumption) (by assumption)) | exact ret_bool (okRec_1 r (by assumption) (by assumption)) | exact ret_bool (okRec_2 r (by assumption) (by assumption)) | exact ret_bool (okRec_x r (by assumption) (by assumption) (by assumption))

set_option maxHeartbeats 400000 in
theorem record_calls (r : M.Rec) (w : World)  :
    Calls Try.prog 51 #[.agg #[.int .i64 r.kind, .int .i64 r.n, .string r.s]] w fun e w' => e = .returned (.bool (M.okRec r)) ∧ Below w.heap.size w w' := by
  go_enter Try.func51, Try.ntmps51
  go_wp2
  all_goals go_ret
  all_goals refine ⟨?_, (Below.refl _ _).alloc (Nat.le_refl _) _⟩
  all_goals first | exact ret_bool (okRec_low r (by assumption)) | exact ret_bool (okRec_0 r (by assumption) (by assumption)) | exact ret_bool (okRec_1 r (by assumption) (by assumption)) | exact ret_bool (okRec_2 r (by assumption) (by assumption)) | exact ret_bool (okRec_x r (by assumption) (by assumption) (by assumption))

theorem span_0 (r : M.Rec) (k : (r.kind == 0) = true) : r.n = M.inA r ∧ r.n = M.inB r := by
  simp at k; simp [M.inA, M.inB, k]
theorem span_1 (r : M.Rec) (k : (r.kind == 1) = true) : 0 = M.inA r ∧ r.n = M.inB r := by
  simp at k; simp [M.inA, M.inB, k]
theorem span_x (r : M.Rec) (k0 : (r.kind == 0) = false) (k1 : (r.kind == 1) = false) : r.n = M.inA r ∧ 0 = M.inB r := by
  simp at k0 k1; simp [M.inA, M.inB, k0, k1]
set_option maxHeartbeats 400000 in
theorem spans_calls (r : M.Rec) (w : World)  :
    Calls Try.prog 72 #[.agg #[.int .i64 r.kind, .int .i64 r.n, .string r.s]] w fun e w' => e = .returned (.tuple #[.int .i64 (M.inA r), .int .i64 (M.inB r)]) ∧ Below w.heap.size w w' := by
  go_enter Try.func72, Try.ntmps72
  go_wp2
  · go_region
    all_goals go_wp2
    all_goals go_ret2
    all_goals refine ⟨?_, ((Below.refl _ _).alloc (Nat.le_refl _) _).drew⟩
    all_goals exact ret_two (span_0 r (by assumption)).1 (span_0 r (by assumption)).2
  · go_region
    all_goals go_wp2
    all_goals go_ret2
    all_goals refine ⟨?_, ((Below.refl _ _).alloc (Nat.le_refl _) _).drew⟩
    all_goals exact ret_two (span_1 r (by assumption)).1 (span_1 r (by assumption)).2
  · go_ret2
    refine ⟨?_, (Below.refl _ _).alloc (Nat.le_refl _) _⟩
    exact ret_two (span_x r (by assumption) (by assumption)).1 (span_x r (by assumption) (by assumption)).2

end Go.Proofs.Ytlppphmnegdhoaa
