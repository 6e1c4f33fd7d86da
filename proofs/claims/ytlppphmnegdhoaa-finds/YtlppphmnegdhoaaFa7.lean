/-
  Find's answer is one.
-/
import Derived.Test.YtlppphmnegdhoaaFx0
namespace Go.Proofs.Ytlppphmnegdhoaa
set_option linter.unusedVariables false
open M

theorem findSpec_same {re s : ByteArray} {at' i j e i' j' e' : Int} (h : FindSpec re s at' i j e) (g : FindSpec re s at' i' j' e') : i = i' ∧ j = j' ∧ e = e' := by
  rcases h with ⟨h1, rfl, rfl, rfl⟩ | ⟨h1, ⟨h2, rfl, rfl, rfl⟩ | ⟨x, h2, ⟨h3, rfl, rfl, rfl⟩ | ⟨n, h3, h4, rfl, h5⟩⟩⟩ <;>
  rcases g with ⟨g1, rfl, rfl, rfl⟩ | ⟨g1, ⟨g2, rfl, rfl, rfl⟩ | ⟨y, g2, ⟨g3, rfl, rfl, rfl⟩ | ⟨k, g3, g4, rfl, g5⟩⟩⟩
  · exact ⟨rfl, rfl, rfl⟩
  · omega
  · omega
  · omega
  · omega
  · exact ⟨rfl, rfl, rfl⟩
  · rw [h2] at g2; cases g2
  · rw [h2] at g2; cases g2
  · omega
  · rw [h2] at g2; cases g2
  · exact ⟨rfl, rfl, rfl⟩
  · omega
  · omega
  · rw [h2] at g2; cases g2
  · omega
  · rw [h2] at g2
    simp only [Option.some.injEq] at g2
    subst g2
    obtain rfl : n = k := by omega
    obtain ⟨e1, e2⟩ := findAt_same h5 g5
    exact ⟨e1, e2, rfl⟩
end Go.Proofs.Ytlppphmnegdhoaa
