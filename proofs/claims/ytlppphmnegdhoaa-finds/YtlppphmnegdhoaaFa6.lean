/-
  The document's answer: Find.
-/
import Derived.Test.YtlppphmnegdhoaaFa5
namespace Go.Proofs.Ytlppphmnegdhoaa
set_option linter.unusedVariables false
set_option maxRecDepth 100000
open Go.RowKit
open M

theorem own_cap {w : World} {base : Nat} {e : TypeId} {size : Nat} {a : Option Addr} {n c : Nat} {xs : List Value} (h : w.ownsRow base e size (.slice a n c) n xs) : n ≤ c := by
  rcases h.2 with ⟨_, h0⟩ | ⟨g, cap, cur, hv, _, _, h1, _⟩
  · omega
  · simp at hv; omega
theorem expOf_none (re : List UInt8) (h : uptoM (re ++ [47]) = none) : expOf re = none := by unfold expOf; rw [h]
theorem expOf_more (re : List UInt8) (m : List Mk) (r : List UInt8) (h : uptoM (re ++ [47]) = some (m, r)) (hr : r ≠ []) : expOf re = none := by
  unfold expOf; rw [h]
  cases r with
  | nil => exact absurd rfl hr
  | cons a t => rfl
theorem expOf_some (re : List UInt8) (m : List Mk) (h : uptoM (re ++ [47]) = some (m, [])) : expOf re = if hasNL re then none else expM m := by
  unfold expOf; rw [h]; rfl

set_option maxRecDepth 100000 in
set_option maxHeartbeats 4000000 in
theorem dfind_calls (re s : ByteArray) (at' : Int) (w : World) (hrm : re.size ≤ maxLen) (hsm : s.size ≤ maxLen) (h0 : -9223372036854775808 ≤ at') (h00 : at' ≤ 9223372036854775807) :
    Calls Try.prog 45 #[.string re, .string s, .int .i64 at'] w fun e w' => (∃ i j x : Int, e = .returned (.tuple #[.int .i64 i, .int .i64 j, .int .i64 x]) ∧ FindSpec re s at' i j x) ∧ Below w.heap.size w w' := by
  unfold maxLen at hrm hsm
  by_cases h1 : 400 < re.size
  · have h11 : (400 : Int) < (re.size : Int) := by omega
    go_enter Try.func45, Try.ntmps45
    go_wp2
    go_ret3
    exact ⟨⟨0, 0, 1, rfl, .inl ⟨.inl h1, rfl, rfl, rfl⟩⟩, Below.refl _ _⟩
  have h11 : ¬ (400 : Int) < (re.size : Int) := by omega
  by_cases h2 : 256 < s.size
  · have h21 : (256 : Int) < (s.size : Int) := by omega
    go_enter Try.func45, Try.ntmps45
    go_wp2
    go_ret3
    exact ⟨⟨0, 0, 1, rfl, .inl ⟨.inr h2, rfl, rfl, rfl⟩⟩, Below.refl _ _⟩
  have h21 : ¬ (256 : Int) < (s.size : Int) := by omega
  have hle : re.size ≤ 400 ∧ s.size ≤ 256 := by omega
  have hsz : (re ++ ⟨#[47]⟩).size = re.size + 1 := ByteArray.size_append' _ _
  have hda : (re ++ ⟨#[47]⟩).data.toList = re.data.toList ++ [47] := ba_append _ _
  have hcat : re.size + (⟨#[47]⟩ : ByteArray).size ≤ 9223372036854775807 := by show re.size + 1 ≤ _; omega
  have hcat2 : ¬ 9223372036854775807 < re.size + 1 := by omega
  have HSZ : Hid ((re ++ ⟨#[47]⟩).size = re.size + 1) := hsz
  have HDA : Hid ((re ++ ⟨#[47]⟩).data.toList = re.data.toList ++ [47]) := hda
  clear hsz hda
  go_enter Try.func45, Try.ntmps45
  go_wp2_with fail
  clear hcat hcat2
  generalize (re ++ ⟨#[47]⟩ : ByteArray) = rs at *
  have HUP := upto_calls rs 0 w (by rw [HSZ.out]; omega) (Nat.zero_le _)
  rw [show ((0 : Nat) : Int) = 0 from rfl] at HUP
  refine HUP.mono ?_
  clear HUP
  rintro e w1 ⟨b1, ⟨hno, rfl⟩ | ⟨l, q, a, c, hsome, hq0, hq1, hlq, rfl, hown⟩⟩
  · have HS : Hid (FindSpec re s at' 0 0 2) := .inr ⟨hle, .inl ⟨expOf_none _ (by rw [← HDA.out]; exact hno), rfl, rfl, rfl⟩⟩
    have hne : ((-1 : Int) != (re.size : Int) + 1) = true := by simp; omega
    clear hno
    go_wp2
    go_ret3
    exact ⟨⟨0, 0, 2, rfl, HS.out⟩, b1⟩
  · rw [HSZ.out] at hq1
    rw [List.drop_zero, HDA.out] at hsome
    by_cases hq : q = re.size + 1
    · have HU : Hid (uptoM (re.data.toList ++ [47]) = some (l, [])) := by
        show _ = _
        rw [hsome, List.drop_of_length_le (by rw [List.length_append, ba_len]; simp; omega)]
      have hne : ((q : Int) != (re.size : Int) + 1) = false := by simp; omega
      have hll : l.length ≤ 401 := by omega
      have hcap := own_cap hown
      have hmk := marksAt_own hown
      clear hsome hown hq
      go_wp2_with fail
      refine (newline_calls re _ (by unfold maxLen; omega)).mono ?_
      rintro e w2 ⟨rfl, hw⟩
      obtain rfl : w1 = w2 := hw.symm
      clear hw
      cases hnl : hasNL re.data.toList
      · have HE : Hid (expOf re.data.toList = expM l) := by show _ = _; rw [expOf_some _ _ HU.out, hnl]; rfl
        clear hnl HU
        go_wp2_with fail
        refine (expression_calls _ _ _ l _ hmk (by omega) hcap).mono ?_
        rintro e w2 ⟨hd, tl, a2, n2, c2, b2, ⟨hno, rfl⟩ | ⟨L, hex, hn2, rfl, hown2, hok2, hLl⟩⟩
        · have HS : Hid (FindSpec re s at' 0 0 2) := .inr ⟨hle, .inl ⟨by rw [HE.out]; exact hno, rfl, rfl, rfl⟩⟩
          have B2 := b1.trans (b2.mono b1.size)
          clear hno
          go_wp2
          go_ret3
          exact ⟨⟨0, 0, 2, rfl, HS.out⟩, B2.alloc B2.size _⟩
        · have HX : Hid (expOf re.data.toList = some ⟨hd, tl, L.map IV.it⟩) := by show _ = _; rw [HE.out]; exact hex
          have B2 := b1.trans (b2.mono b1.size)
          subst hn2
          have hit := itemsAt_own hown2 hok2
          clear hex hown2 hok2 HE
          by_cases ha : at' < 0
          · have HS : Hid (FindSpec re s at' 0 0 3) := .inr ⟨hle, .inr ⟨_, HX.out, .inl ⟨.inl ha, rfl, rfl, rfl⟩⟩⟩
            go_wp2
            go_ret3
            exact ⟨⟨0, 0, 3, rfl, HS.out⟩, B2.alloc B2.size _⟩
          · by_cases ha2 : (s.size : Int) < at'
            · have HS : Hid (FindSpec re s at' 0 0 3) := .inr ⟨hle, .inr ⟨_, HX.out, .inl ⟨.inr ha2, rfl, rfl, rfl⟩⟩⟩
              go_wp2
              go_ret3
              exact ⟨⟨0, 0, 3, rfl, HS.out⟩, B2.alloc B2.size _⟩
            · obtain ⟨k, rfl⟩ : ∃ k : Nat, at' = k := ⟨at'.toNat, by omega⟩
              have hk : k ≤ s.size := by omega
              go_wp2_with fail
              refine (table_calls hd tl a2 L.length c2 L s _ rfl (hit.below ((Below.refl _ _).alloc (Nat.le_refl _) _)) (by omega) hle.2).mono ?_
              rintro e w3 ⟨G, a3, c3, hG, rfl, hown3, hrows3, b3⟩
              have B3 : Below w.heap.size w w3 := (B2.alloc B2.size _).trans (b3.mono (by have := B2.size; simp; omega))
              go_wp2_with fail
              refine (match_calls G a3 c3 _ ⟨hd, tl, L.map IV.it⟩ s k _ hle.2 hG hown3 hrows3 hk).mono ?_
              rintro e w4 ⟨⟨i, j, rfl, hf⟩, hw⟩
              obtain rfl : w3 = w4 := hw.symm
              have HS : Hid (FindSpec re s k i j 0) := .inr ⟨hle, .inr ⟨_, HX.out, .inr ⟨k, rfl, hk, rfl, hf⟩⟩⟩
              clear hw hf hrows3 hown3
              go_wp2
              go_ret3
              exact ⟨⟨i, j, 0, rfl, HS.out⟩, B3⟩
      · have HS : Hid (FindSpec re s at' 0 0 2) := .inr ⟨hle, .inl ⟨by rw [expOf_some _ _ HU.out, hnl]; rfl, rfl, rfl, rfl⟩⟩
        clear hnl HU
        go_wp2
        go_ret3
        exact ⟨⟨0, 0, 2, rfl, HS.out⟩, b1⟩
    · have HS : Hid (FindSpec re s at' 0 0 2) := .inr ⟨hle, .inl ⟨expOf_more _ _ _ hsome (fun e => by
        have := congrArg List.length e
        rw [List.length_drop, List.length_append, ba_len] at this
        simp at this
        omega), rfl, rfl, rfl⟩⟩
      have hne : ((q : Int) != (re.size : Int) + 1) = true := by simp; omega
      clear hsome hq
      go_wp2
      go_ret3
      exact ⟨⟨0, 0, 2, rfl, HS.out⟩, b1⟩
end Go.Proofs.Ytlppphmnegdhoaa
