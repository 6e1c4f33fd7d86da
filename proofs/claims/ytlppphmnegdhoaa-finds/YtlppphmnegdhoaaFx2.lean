/-
  The document's expressions: the marks up to a slash.
-/
import Derived.Test.YtlppphmnegdhoaaFx1
namespace Go.Proofs.Ytlppphmnegdhoaa
set_option linter.unusedVariables false
set_option maxRecDepth 100000
open Go.RowKit
open M

/-- what 'upto' answers -/
def UptoPost (s : ByteArray) (p : Nat) (w w' : World) (e : Ending) : Prop :=
  Below w.heap.size w w' ∧ ((uptoM (s.data.toList.drop p) = none ∧ e = .returned (.tuple #[.slice none 0 0, .int .i64 (-1)])) ∨
    ∃ (l : List Mk) (q : Nat) (a : Option Addr) (c : Nat), uptoM (s.data.toList.drop p) = some (l, s.data.toList.drop q) ∧ p < q ∧ q ≤ s.size ∧ l.length ≤ q ∧ e = .returned (.tuple #[.slice a l.length c, .int .i64 (q : Int)]) ∧ w'.ownsRow w.heap.size 124 2 (.slice a l.length c) l.length (marksC l))

set_option maxRecDepth 100000 in
set_option maxHeartbeats 2000000 in
theorem upto_calls (s : ByteArray) (p : Nat) (w : World) (hs : s.size ≤ 8192) (hp : p ≤ s.size) :
    Calls Try.prog 66 #[.string s, .int .i64 p] w fun e w' => UptoPost s p w w' e := by
  obtain ⟨i0, hi, hz0, hz1, hz2⟩ := info_parts infoMark
  go_enter Try.func66, Try.ntmps66
  go_wp2
  go_loopw [1, 6] (fun at' v wr => ∃ (k : Nat) (L : List Mk), at' = .int .i64 k ∧ p ≤ k ∧ k ≤ s.size ∧ wr.ownsRow w.heap.size 124 2 v L.length (marksC L) ∧ L.length ≤ k ∧ Hid (uptoM (s.data.toList.drop p) = (uptoM (s.data.toList.drop k)).map (catM L)) ∧ Below w.heap.size w wr) (fun at' _ _ => s.size - (intOf at').toNat)
  case atStart => exact ⟨p, [], rfl, Nat.le_refl _, hp, World.ownsRow_nil _ _ _ _, Nat.zero_le _, by show _ = _; cases uptoM (s.data.toList.drop p) <;> rfl, Below.refl _ _⟩
  case round =>
    obtain ⟨k, L, rfl, hpk, hk, hown, hLk, H, B⟩ := hrel
    have hz := B.size
    by_cases hlt : k < s.size
    · have hlt1 : (k : Int) < (s.size : Int) := by omega
      obtain ⟨x, hx⟩ : ∃ x : Nat, s[k].toNat = x := ⟨_, rfl⟩
      have hc : x < 256 := by rw [← hx]; exact s[k].toNat_lt
      have HD : Hid (s.data.toList.drop k = s[k] :: s.data.toList.drop (k + 1)) := get_drop s k hlt
      by_cases h47 : x = 47
      · obtain ⟨a, c, rfl⟩ := own_form hown
        have HF : Hid (uptoM (s.data.toList.drop p) = some (L, s.data.toList.drop (k + 1))) := by
          show _ = _
          rw [H.out, HD.out, upto_slash _ _ (by rw [hx]; exact h47)]
          simp [catM]
        clear H HD
        subst h47
        go_wp2
        go_ret2
        exact ⟨B, .inr ⟨L, k + 1, a, c, HF.out, by omega, by omega, by omega, rfl, hown⟩⟩
      · have h1 : ((x : Int) == 47) = false := by simp; omega
        by_cases h92 : x = 92
        · by_cases hlt2 : k + 1 < s.size
          · have hlt3 : ¬ (s.size : Int) ≤ (k : Int) + 1 := by omega
            have hlt4 : (k : Int) + 1 < (s.size : Int) := by omega
            obtain ⟨y, hy⟩ : ∃ y : Nat, s[k + 1].toNat = y := ⟨_, rfl⟩
            have hd : y < 256 := by rw [← hy]; exact s[k + 1].toNat_lt
            have HN : Hid (uptoM (s.data.toList.drop p) = (uptoM (s.data.toList.drop (k + 2))).map (catM (L ++ [⟨escB s[k + 1], false⟩]))) := by
              show _ = _
              rw [H.out, HD.out, get_drop s (k + 1) hlt2, upto_esc _ _ _ (by rw [hx]; exact h92), cat_pre]
            by_cases h110 : y = 110
            · have HE : Hid (escB s[k + 1] = 10) := if_pos (by rw [hy]; exact h110)
              clear H HD h47
              subst h92 h110
              go_wp2_with (first
                | (at_builtin; refine wpList_append_own _ rfl (.tmp 42) (.tmp 45) 87 rfl w.heap.size 124 i0 (.agg #[.int .i64 0, .bool false]) 2 16 undMarks hi hz0 hz1 hz2 rfl (by decide) _ _ _ rfl (hown.alloc _) ⟨wr.heap.size, 0, none⟩ 1 1 (markC ⟨10, false⟩) rfl rfl ?k1 ?k2 ?k3 ?k4 ?k5 ?_)
                | go_in)
              case k1 => first | exact fun j u h => h | exact markC_at wr ⟨10, false⟩ _
              case k2 => exact markC_one _
              case k3 => unfold maxLen; omega
              case k4 => omega
              case k5 => first | omega | (simp; omega)
              intro v' w3 hown3 hgrow _
              have B3 : Below w.heap.size w w3 := (B.alloc hz _).grown hgrow (by simp; omega) (fun k hk => (hown.lt k hk).1)
              rw [← marksC_snoc] at hown3
              clear hgrow hown
              go_wp2
              go_roundw
              case rel => exact ⟨k + 2, L ++ [⟨10, false⟩], by go_num, by omega, by omega, by simpa using hown3, by simp; omega, by have := HN.out; rw [HE.out] at this; exact this, B3⟩
              case measure => simp [intOf]; omega
            · have h3 : ((y : Int) == 110) = false := by simp; omega
              have HE : Hid (escB s[k + 1] = y) := (if_neg (by rw [hy]; exact h110)).trans hy
              clear H HD h47 h110
              subst h92
              go_wp2_with (first
                | (at_builtin; refine wpList_append_own _ rfl (.tmp 42) (.tmp 45) 87 rfl w.heap.size 124 i0 (.agg #[.int .i64 0, .bool false]) 2 16 undMarks hi hz0 hz1 hz2 rfl (by decide) _ _ _ rfl (hown.alloc _) ⟨wr.heap.size, 0, none⟩ 1 1 (markC ⟨y, false⟩) rfl rfl ?k1 ?k2 ?k3 ?k4 ?k5 ?_)
                | go_in)
              case k1 => first | exact fun j u h => h | exact markC_at wr ⟨y, false⟩ _
              case k2 => exact markC_one _
              case k3 => unfold maxLen; omega
              case k4 => omega
              case k5 => first | omega | (simp; omega)
              intro v' w3 hown3 hgrow _
              have B3 : Below w.heap.size w w3 := (B.alloc hz _).grown hgrow (by simp; omega) (fun k hk => (hown.lt k hk).1)
              rw [← marksC_snoc] at hown3
              clear hgrow hown
              go_wp2
              go_roundw
              case rel => exact ⟨k + 2, L ++ [⟨y, false⟩], by go_num, by omega, by omega, by simpa using hown3, by simp; omega, by have := HN.out; rw [HE.out] at this; exact this, B3⟩
              case measure => simp [intOf]; omega
          · have hlt3 : (s.size : Int) ≤ (k : Int) + 1 := by omega
            have HF : Hid (uptoM (s.data.toList.drop p) = none) := by
              show _ = _
              rw [H.out, HD.out, List.drop_of_length_le (by rw [ba_len]; omega), upto_end _ (by rw [hx]; exact h92)]; rfl
            clear H HD h47
            subst h92
            go_wp2
            go_ret2
            exact ⟨B, .inl ⟨HF.out, rfl⟩⟩
        · have h2 : ((x : Int) != 92) = true := by simp; omega
          have HN : Hid (uptoM (s.data.toList.drop p) = (uptoM (s.data.toList.drop (k + 1))).map (catM (L ++ [⟨x, true⟩]))) := by
            show _ = _
            rw [H.out, HD.out, upto_plain _ _ (by rw [hx]; exact h47) (by rw [hx]; exact h92), cat_pre, hx]
          clear H HD h47 h92
          go_wp2_with (first
            | (at_builtin; refine wpList_append_own _ rfl (.tmp 23) (.tmp 26) 87 rfl w.heap.size 124 i0 (.agg #[.int .i64 0, .bool false]) 2 16 undMarks hi hz0 hz1 hz2 rfl (by decide) _ _ _ rfl (hown.alloc _) ⟨wr.heap.size, 0, none⟩ 1 1 (markC ⟨x, true⟩) rfl rfl ?k1 ?k2 ?k3 ?k4 ?k5 ?_)
            | go_in)
          case k1 => first | exact fun j u h => h | exact markC_at wr ⟨x, true⟩ _
          case k2 => exact markC_one _
          case k3 => unfold maxLen; omega
          case k4 => omega
          case k5 => first | omega | (simp; omega)
          intro v' w3 hown3 hgrow _
          have B3 : Below w.heap.size w w3 := (B.alloc hz _).grown hgrow (by simp; omega) (fun k hk => (hown.lt k hk).1)
          rw [← marksC_snoc] at hown3
          clear hgrow hown
          go_wp2
          go_roundw
          case rel => exact ⟨k + 1, L ++ [(⟨x, true⟩ : Mk)], by go_num, by omega, by omega, by simpa using hown3, by simp; omega, HN.out, B3⟩
          case measure => simp [intOf]; omega
    · have hlt1 : ¬ (k : Int) < (s.size : Int) := by omega
      have HF : Hid (uptoM (s.data.toList.drop p) = none) := by
        show _ = _
        rw [H.out, List.drop_of_length_le (by rw [ba_len]; omega)]; rfl
      clear H
      go_wp2
      go_ret2
      exact ⟨B, .inl ⟨HF.out, rfl⟩⟩
end Go.Proofs.Ytlppphmnegdhoaa
