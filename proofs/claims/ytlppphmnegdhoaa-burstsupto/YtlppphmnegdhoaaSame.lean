/-
  Lists that are the same; marks.
-/
import Derived.Test.YtlppphmnegdhoaaDoc6
namespace Go.Proofs.Ytlppphmnegdhoaa
set_option linter.unusedVariables false
open Go.RowKit
open M

set_option maxRecDepth 100000 in
set_option maxHeartbeats 2000000 in
theorem same_calls (a b : Option Addr) (n m c d : Nat) (l : List M.Rec) (w : World) (ha : RecsAt w a n l) (hb : RecsAt w b m l) (hl : l.length ≤ maxLen) :
    Calls Try.prog 22 #[.slice a n c, .slice b m d] w fun e w' => e = .returned (.bool true) ∧ ∃ q, w' = w.drewN q := by
  have h1 := ha.len
  have h2 := hb.len
  subst h1 h2
  unfold maxLen at hl
  go_enter Try.func22, Try.ntmps22
  go_wp2
  go_loopw [5] (fun i wr => ∃ k q : Nat, k ≤ l.length ∧ i = .int .i64 k ∧ wr = w.drewN q) (fun i _ => l.length - (intOf i).toNat)
  case atStart => exact ⟨0, 0, Nat.zero_le _, rfl, rfl⟩
  case round =>
    obtain ⟨k, q, hk, rfl, rfl⟩ := hrel
    by_cases hlt : k < l.length
    · have hlt1 : (k : Int) < (l.length : Int) := by omega
      have hno : l ≠ [] := fun h => by rw [h] at hlt; simp at hlt
      obtain ⟨b1, o1, e1, z1, c1⟩ := ha.cells.resolve_left hno
      obtain ⟨b2, o2, e2, z2, c2⟩ := hb.cells.resolve_left hno
      obtain ⟨x0, x1, x2⟩ := c1 k hlt
      obtain ⟨y0, y1, y2⟩ := c2 k hlt
      subst e1 e2
      clear c1 c2 ha hb hno
      generalize l[k] = r at *
      go_wp2_with fail
      go_quiet (fail)
      go_wp2
      go_roundw
      case rel => exact ⟨k + 1, q + nq, by omega, by go_num, rfl⟩
      case measure => simp [intOf]; omega
    · go_wp2
      go_ret
      exact ⟨rfl, q, rfl⟩

set_option maxRecDepth 100000 in
set_option maxHeartbeats 2000000 in
theorem ksame_calls (a b : Option Addr) (n m c d : Nat) (l : List M.Rec) (w : World) (ha : RecsAt w a n l) (hb : RecsAt w b m l) (hl : l.length ≤ maxLen) :
    Calls Try.prog 30 #[.slice a n c, .slice b m d] w fun e w' => e = .returned (.bool true) ∧ ∃ q, w' = w.drewN q := by
  have h1 := ha.len
  have h2 := hb.len
  subst h1 h2
  unfold maxLen at hl
  go_enter Try.func30, Try.ntmps30
  go_wp2
  go_loopw [5] (fun i wr => ∃ k q : Nat, k ≤ l.length ∧ i = .int .i64 k ∧ wr = w.drewN q) (fun i _ => l.length - (intOf i).toNat)
  case atStart => exact ⟨0, 0, Nat.zero_le _, rfl, rfl⟩
  case round =>
    obtain ⟨k, q, hk, rfl, rfl⟩ := hrel
    by_cases hlt : k < l.length
    · have hlt1 : (k : Int) < (l.length : Int) := by omega
      have hno : l ≠ [] := fun h => by rw [h] at hlt; simp at hlt
      obtain ⟨b1, o1, e1, z1, c1⟩ := ha.cells.resolve_left hno
      obtain ⟨b2, o2, e2, z2, c2⟩ := hb.cells.resolve_left hno
      obtain ⟨x0, x1, x2⟩ := c1 k hlt
      obtain ⟨y0, y1, y2⟩ := c2 k hlt
      subst e1 e2
      clear c1 c2 ha hb hno
      generalize l[k] = r at *
      go_wp2_with fail
      go_quiet (fail)
      go_wp2
      go_roundw
      case rel => exact ⟨k + 1, q + nq, by omega, by go_num, rfl⟩
      case measure => simp [intOf]; omega
    · go_wp2
      go_ret
      exact ⟨rfl, q, rfl⟩

/-- the mark -/
def markR : M.Rec := ⟨7, -7, ⟨#[109, 97, 114, 107]⟩⟩
set_option maxHeartbeats 400000 in
theorem mark_calls (w : World) : Calls Try.prog 46 #[] w fun e w' => e = .returned (.agg #[.int .i64 7, .int .i64 (-7), .string ⟨#[109, 97, 114, 107]⟩]) ∧ w' = w.alloc (.cells #[.int .i64 7, .int .i64 (-7), .string ⟨#[109, 97, 114, 107]⟩] 57) := by
  go_enter Try.func46, Try.ntmps46
  go_wp2
  exact bodyPost_ret (v := .agg #[.int .i64 7, .int .i64 (-7), .string ⟨#[109, 97, 114, 107]⟩]) (by simp [results, Try.results46, go_sem]) rfl ⟨rfl, rfl⟩
end Go.Proofs.Ytlppphmnegdhoaa
