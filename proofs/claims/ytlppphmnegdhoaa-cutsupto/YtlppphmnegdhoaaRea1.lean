/-
  Read: the program's and the document's.
-/
import Derived.Test.YtlppphmnegdhoaaMark
import Derived.Test.YtlppphmnegdhoaaUnd4
namespace Go.Proofs.Ytlppphmnegdhoaa
set_option linter.unusedVariables false
open Go.RowKit
open M

/-- what Read answers: an error, or the records of the journal -/
def ReadSpec (s : ByteArray) (l : List M.Rec) (err : Int) : Prop :=
  (12352 < s.size ∧ err = 1 ∧ l = []) ∨
  (¬ 12352 < s.size ∧ (((∀ j, Tells s.data.toList j → False) ∧ err = 8 ∧ l = []) ∨ ∃ j, Tells s.data.toList j ∧ err = 0 ∧ l = j.l))
theorem readSpec_same {s : ByteArray} {l l' : List M.Rec} {e e' : Int} (h : ReadSpec s l e) (h' : ReadSpec s l' e') : l = l' ∧ e = e' := by
  rcases h with ⟨h1, h2, h3⟩ | ⟨h1, ⟨h2, h3, h4⟩ | ⟨j, h2, h3, h4⟩⟩
  · rcases h' with ⟨g1, g2, g3⟩ | ⟨g1, _⟩
    · exact ⟨by rw [h3, g3], by rw [h2, g2]⟩
    · exact absurd h1 g1
  · rcases h' with ⟨g1, _⟩ | ⟨_, ⟨g2, g3, g4⟩ | ⟨j', g2, _⟩⟩
    · exact absurd g1 h1
    · exact ⟨by rw [h4, g4], by rw [h3, g3]⟩
    · exact absurd g2 (fun g => h2 _ g)
  · rcases h' with ⟨g1, _⟩ | ⟨_, ⟨g2, _⟩ | ⟨j', g2, g3, g4⟩⟩
    · exact absurd g1 h1
    · exact absurd h2 (fun g => g2 _ g)
    · obtain rfl := tells_same h2 g2
      exact ⟨by rw [h4, g4], by rw [h3, g3]⟩
theorem readSpec_len {s : ByteArray} {l : List M.Rec} {e : Int} (h : ReadSpec s l e) : l.length ≤ 8192 ∧ (e = 0 ∨ l = []) := by
  rcases h with ⟨h1, h2, h3⟩ | ⟨h1, ⟨h2, h3, h4⟩ | ⟨j, h2, h3, h4⟩⟩
  · subst h3; simp
  · subst h4; simp
  · subst h4
    have h5 := okAll_len j.l h2.1.ok
    have h6 := h2.1.a
    have h7 := h2.1.b
    have h8 := h2.1.la
    have h9 := h2.1.lb
    exact ⟨by omega, .inl h3⟩
/-- a list that a call hands out: nil with an error; else its own row -/
def ReadPost2 (s : ByteArray) (w w' : World) (e : Ending) : Prop :=
  ∃ (l : List M.Rec) (err : Int) (v : Value), e = .returned (.tuple #[v, .int .i64 err]) ∧ ReadSpec s l err ∧ w'.ownsRow w.heap.size 57 3 v l.length (recsC l) ∧ (err ≠ 0 → v = .slice none 0 0) ∧ Below w.heap.size w w'

set_option maxRecDepth 100000 in
set_option maxHeartbeats 1000000 in
theorem rread_calls (s : ByteArray) (w : World) (hsm : s.size ≤ maxLen) :
    Calls Try.prog 20 #[.string s] w fun e w' => ReadPost2 s w w' e := by
  unfold maxLen at hsm
  by_cases h2 : 12352 < s.size
  · have h21 : (12352 : Int) < (s.size : Int) := by omega
    have HS : Hid (ReadSpec s [] 1) := .inl ⟨h2, rfl, rfl⟩
    go_enter Try.func20, Try.ntmps20
    go_wp2
    go_ret2
    exact ⟨[], 1, _, rfl, HS.out, World.ownsRow_nil _ _ _ _, fun _ => rfl, Below.refl _ _⟩
  have h21 : ¬ (12352 : Int) < (s.size : Int) := by omega
  go_enter Try.func20, Try.ntmps20
  go_wp2_with fail
  refine (read_calls s _ (by omega)).mono ?_
  rintro e w1 (⟨rfl, hno, hb⟩ | ⟨⟨la, lb, sa, sb, l⟩, v, rfl, ht, hown, hb⟩)
  · have HS : Hid (ReadSpec s [] 8) := .inr ⟨h2, .inl ⟨hno, rfl, rfl⟩⟩
    clear hno
    unfold noJn
    go_wp2
    go_ret2
    exact ⟨[], 8, _, rfl, HS.out, World.ownsRow_nil _ _ _ _, fun _ => rfl, hb.alloc hb.size _⟩
  · have HS : Hid (ReadSpec s l 0) := .inr ⟨h2, .inr ⟨_, ht, rfl, rfl⟩⟩
    simp only at hown
    clear ht
    go_wp2
    go_ret2
    exact ⟨l, 0, v, rfl, HS.out, hown.alloc _, fun h => absurd rfl h, hb.alloc hb.size _⟩

set_option maxRecDepth 100000 in
set_option maxHeartbeats 1000000 in
theorem dread_calls (s : ByteArray) (w : World) (hsm : s.size ≤ maxLen) :
    Calls Try.prog 21 #[.string s] w fun e w' => ReadPost2 s w w' e := by
  unfold maxLen at hsm
  by_cases h2 : 12352 < s.size
  · have h21 : (12352 : Int) < (s.size : Int) := by omega
    have HS : Hid (ReadSpec s [] 1) := .inl ⟨h2, rfl, rfl⟩
    go_enter Try.func21, Try.ntmps21
    go_wp2
    go_ret2
    exact ⟨[], 1, _, rfl, HS.out, World.ownsRow_nil _ _ _ _, fun _ => rfl, Below.refl _ _⟩
  have h21 : ¬ (12352 : Int) < (s.size : Int) := by omega
  go_enter Try.func21, Try.ntmps21
  go_wp2_with fail
  refine (parsed_calls s _ (by omega)).mono ?_
  rintro e w1 ⟨hb, ⟨x0, x1, x2, x3, ax, nx, cx, rfl, hno⟩ | ⟨⟨la, lb, sa, sb, l⟩, a, c, rfl, ht, hown⟩⟩
  · have HS : Hid (ReadSpec s [] 8) := .inr ⟨h2, .inl ⟨hno, rfl, rfl⟩⟩
    clear hno
    go_wp2
    go_ret2
    exact ⟨[], 8, _, rfl, HS.out, World.ownsRow_nil _ _ _ _, fun _ => rfl, hb.alloc hb.size _⟩
  · have HS : Hid (ReadSpec s l 0) := .inr ⟨h2, .inr ⟨_, ht, rfl, rfl⟩⟩
    simp only at hown
    clear ht
    go_wp2
    go_ret2
    exact ⟨l, 0, _, rfl, HS.out, hown.alloc _, fun h => absurd rfl h, hb.alloc hb.size _⟩
end Go.Proofs.Ytlppphmnegdhoaa
