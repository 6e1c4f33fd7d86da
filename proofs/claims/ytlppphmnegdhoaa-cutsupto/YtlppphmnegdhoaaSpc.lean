/-
  What Pack and Join answer.
-/
import Derived.Test.YtlppphmnegdhoaaEvj
namespace Go.Proofs.Ytlppphmnegdhoaa
set_option linter.unusedVariables false
open M

/-- what Pack answers -/
def PackSpec (s : ByteArray) (t : List UInt8) (e : Int) : Prop :=
  (12352 < s.size ∧ t = [] ∧ e = 1) ∨ (s.size ≤ 12352 ∧ (((∀ j, Tells s.data.toList j → False) ∧ t = [] ∧ e = 8) ∨ ∃ j, Tells s.data.toList j ∧ t = writE ⟨j.la, j.lb, j.sa, j.sb, norm (expL j.l)⟩ ∧ e = 0))

/-- what Join answers -/
def JoinSpec (s t : ByteArray) (u : List UInt8) (e : Int) : Prop :=
  ((12352 < s.size ∨ 12352 < t.size) ∧ u = [] ∧ e = 1) ∨ ((s.size ≤ 12352 ∧ t.size ≤ 12352) ∧ ((((∀ j, Tells s.data.toList j → False) ∨ (∀ j, Tells t.data.toList j → False)) ∧ u = [] ∧ e = 8) ∨
    ∃ j k, Tells s.data.toList j ∧ Tells t.data.toList k ∧ (((j.lb ≠ k.la ∨ j.sb ≠ k.sa) ∧ u = [] ∧ e = 9) ∨ ((j.lb = k.la ∧ j.sb = k.sa) ∧ u = writE ⟨j.la, k.lb, j.sa, k.sb, joinN (expL j.l) (expL k.l)⟩ ∧ e = 0))))

end Go.Proofs.Ytlppphmnegdhoaa
