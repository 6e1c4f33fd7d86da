/-
  Undo: the program's.
-/
import Derived.Test.YtlppphmnegdhoaaUnd1
namespace Go.Proofs.Ytlppphmnegdhoaa
set_option linter.unusedVariables false
open Go.RowKit
open M

/-- what Undo answers -/
def UndoSpec (b s : ByteArray) (a : List UInt8) (err : Int) : Prop :=
  ((4096 < b.size ∨ 12352 < s.size) ∧ err = 1 ∧ a = []) ∨
  (¬ (4096 < b.size ∨ 12352 < s.size) ∧ (
    ((∀ j, Tells s.data.toList j → False) ∧ err = 8 ∧ a = []) ∨
    ∃ j, Tells s.data.toList j ∧ (
      (¬ (b.size = j.lb ∧ sum b.data.toList = j.sb) ∧ err = 9 ∧ a = []) ∨
      ((b.size = j.lb ∧ sum b.data.toList = j.sb) ∧ (
        (sum (undoL j.l b.data.toList) ≠ j.sa ∧ err = 9 ∧ a = []) ∨ (sum (undoL j.l b.data.toList) = j.sa ∧ err = 0 ∧ a = undoL j.l b.data.toList))))))
def UndoPost (b s : ByteArray) (w w' : World) (e : Ending) : Prop :=
  (∃ (t : ByteArray) (err : Int), e = .returned (.tuple #[.string t, .int .i64 err]) ∧ UndoSpec b s t.data.toList err) ∧ Below w.heap.size w w'

set_option maxRecDepth 100000 in
set_option maxHeartbeats 4000000 in
theorem undo_calls (b s : ByteArray) (w : World) (hbm : b.size ≤ maxLen) (hsm : s.size ≤ maxLen) :
    Calls Try.prog 25 #[.string b, .string s] w fun e w' => UndoPost b s w w' e := by
  unfold maxLen at hbm hsm
  by_cases h1 : 4096 < b.size
  · have HS : Hid (UndoSpec b s [] 1) := .inl ⟨.inl h1, rfl, rfl⟩
    have h11 : (4096 : Int) < (b.size : Int) := by omega
    go_enter Try.func25, Try.ntmps25
    go_wp2
    go_ret2
    exact ⟨⟨⟨#[]⟩, 1, rfl, HS.out⟩, Below.refl _ _⟩
  have h11 : ¬ (4096 : Int) < (b.size : Int) := by omega
  by_cases h2 : 12352 < s.size
  · have HS : Hid (UndoSpec b s [] 1) := .inl ⟨.inr h2, rfl, rfl⟩
    have h21 : (12352 : Int) < (s.size : Int) := by omega
    go_enter Try.func25, Try.ntmps25
    go_wp2
    go_ret2
    exact ⟨⟨⟨#[]⟩, 1, rfl, HS.out⟩, Below.refl _ _⟩
  have h21 : ¬ (12352 : Int) < (s.size : Int) := by omega
  have HL : Hid (¬ (4096 < b.size ∨ 12352 < s.size)) := fun h => by omega
  have hb4 : b.size ≤ 4096 := by omega
  have hbm2 : b.size ≤ maxLen := by unfold maxLen; omega
  clear h1
  go_enter Try.func25, Try.ntmps25
  go_wp2_with fail
  refine (read_calls s _ (by omega)).mono ?_
  rintro e w1 (⟨rfl, hno, hb⟩ | ⟨⟨la, lb, sa, sb, l⟩, v, rfl, ht, hown, hb⟩)
  · have HS : Hid (UndoSpec b s [] 8) := .inr ⟨HL.out, .inl ⟨hno, rfl, rfl⟩⟩
    clear hno
    unfold noJn
    go_wp2
    go_ret2
    exact ⟨⟨⟨#[]⟩, 8, rfl, HS.out⟩, hb.alloc hb.size _⟩
  · obtain ⟨a, c, rfl⟩ := own_form hown
    simp only at hown ht
    have hrec := recsAt_own hown
    have HT : Hid (Tells s.data.toList ⟨la, lb, sa, sb, l⟩) := ht
    have hok : okAll l := ht.1.ok
    have hA : lenA l ≤ 4096 := by rw [ht.1.a]; have := ht.1.la; simp at this ⊢; omega
    have hBl : lenB l ≤ 4096 := by rw [ht.1.b]; have := ht.1.lb; simp at this ⊢; omega
    have hsz := hb.size
    clear ht hown
    by_cases hl : b.size = lb
    · have hl1 : ((b.size : Int) == (lb : Int)) = true := by rw [beq_iff_eq]; omega
      by_cases hq : sum b.data.toList = sb
      · have hq1 : (((sum b.data.toList : Nat) : Int) == (sb : Int)) = true := by rw [beq_iff_eq]; omega
        have hfit : lenB l = b.size := by rw [hl]; exact HT.out.1.b
        go_wp2_with fail
        go_quiet ((go_at_call 57; exact Calls.quiet_of_same (sum_calls b _ hbm2)))
        go_wp2_with fail
        refine (undoJ_calls l.length c a l b _ (hrec.below (below_drewN ((Below.refl _ _).alloc (Nat.le_refl _) _) _)) hok hA hBl hfit).mono ?_
        rintro e w2 ⟨⟨t, rfl, ht⟩, hb2⟩
        have B2 : Below w.heap.size w w2 := (below_drewN (hb.alloc hb.size _) _).trans (hb2.mono (by simp; omega))
        have d2 : w2.cell? ⟨w1.heap.size, 2, none⟩ = some (.int .i64 sa) := by rw [(bcell hb2).1 _ _ (by simp)]; simp [go_sem]
        have hz2 : w1.heap.size < w2.heap.size := by have := hb2.size; simp at this; omega
        have hts : t.size ≤ 4096 := by
          have h := undoL_len l b.data.toList hok
          rw [← ht, ba_len] at h
          omega
        have hts2 : t.size ≤ maxLen := by unfold maxLen; omega
        clear hb2
        by_cases hx : sum t.data.toList = sa
        · have HS : Hid (UndoSpec b s t.data.toList 0) := .inr ⟨HL.out, .inr ⟨_, HT.out, .inr ⟨⟨hl, hq⟩, .inr ⟨by rw [← ht]; exact hx, rfl, ht⟩⟩⟩⟩
          have hx1 : (((sum t.data.toList : Nat) : Int) == (sa : Int)) = true := by rw [beq_iff_eq]; omega
          clear ht hx
          go_wp2_with fail
          go_quiet ((go_at_call 57; exact Calls.quiet_of_same (sum_calls t _ hts2)))
          go_wp2
          go_ret2
          exact ⟨⟨t, 0, rfl, HS.out⟩, below_drewN B2 _⟩
        · have HS : Hid (UndoSpec b s [] 9) := .inr ⟨HL.out, .inr ⟨_, HT.out, .inr ⟨⟨hl, hq⟩, .inl ⟨by rw [← ht]; exact hx, rfl, rfl⟩⟩⟩⟩
          have hx1 : (((sum t.data.toList : Nat) : Int) == (sa : Int)) = false := by rw [beq_eq_false_iff_ne]; omega
          clear ht hx
          go_wp2_with fail
          go_quiet ((go_at_call 57; exact Calls.quiet_of_same (sum_calls t _ hts2)))
          go_wp2
          go_ret2
          exact ⟨⟨⟨#[]⟩, 9, rfl, HS.out⟩, below_drewN B2 _⟩
      · have HS : Hid (UndoSpec b s [] 9) := .inr ⟨HL.out, .inr ⟨_, HT.out, .inl ⟨fun h => hq h.2, rfl, rfl⟩⟩⟩
        have hq1 : (((sum b.data.toList : Nat) : Int) == (sb : Int)) = false := by rw [beq_eq_false_iff_ne]; omega
        clear hq
        go_wp2_with fail
        go_quiet ((go_at_call 57; exact Calls.quiet_of_same (sum_calls b _ hbm2)))
        go_wp2
        go_ret2
        exact ⟨⟨⟨#[]⟩, 9, rfl, HS.out⟩, below_drewN (hb.alloc hb.size _) _⟩
    · have HS : Hid (UndoSpec b s [] 9) := .inr ⟨HL.out, .inr ⟨_, HT.out, .inl ⟨fun h => hl h.1, rfl, rfl⟩⟩⟩
      have hl1 : ((b.size : Int) == (lb : Int)) = false := by rw [beq_eq_false_iff_ne]; omega
      have hl4 : ((b.size : Int) != (lb : Int)) = true := by simp; omega
      clear hl
      go_wp2_with fail
      go_quiet (fail)
      go_wp2
      go_ret2
      exact ⟨⟨⟨#[]⟩, 9, rfl, HS.out⟩, below_drewN (hb.alloc hb.size _) _⟩
end Go.Proofs.Ytlppphmnegdhoaa
