/-
  The greatest place to which items match: plain mathematics.
-/
import Derived.Test.YtlppphmnegdhoaaFa2
namespace Go.Proofs.Ytlppphmnegdhoaa
set_option linter.unusedVariables false
open M

/-- the greatest place to which the items from k on match from p, or -1 -/
def Gre (tl : Bool) (l : List It) (s : List UInt8) (k p : Nat) (e : Int) : Prop :=
  (e = -1 ∧ ∀ q, q ≤ s.length → stg tl l s q k p = false) ∨ ∃ q : Nat, q ≤ s.length ∧ e = q ∧ stg tl l s q k p = true ∧ ∀ q', q < q' → q' ≤ s.length → stg tl l s q' k p = false
theorem stg_far (tl : Bool) (l : List It) (s : List UInt8) (q k p : Nat) (h : q < p) : stg tl l s q k p = false := by
  unfold stg
  rw [decide_eq_false (by omega)]; rfl
theorem gre_end (tl : Bool) (l : List It) (s : List UInt8) (p : Nat) (hp : p ≤ s.length) : Gre tl l s l.length p (if tl = true ∧ p < s.length then -1 else (p : Int)) := by
  by_cases h : tl = true ∧ p < s.length
  · rw [if_pos h]
    refine .inl ⟨rfl, fun q hq => ?_⟩
    rw [stg_end tl l s q p hq, h.1]
    by_cases e : p = q
    · subst e; simp; omega
    · simp [e]
  · rw [if_neg h]
    refine .inr ⟨p, hp, rfl, ?_, fun q' h1 h2 => ?_⟩
    · rw [stg_end tl l s p p hp]
      cases tl
      · simp
      · have : p = s.length := by
          by_cases e : p < s.length
          · exact absurd ⟨rfl, e⟩ h
          · omega
        simp [this]
    · rw [stg_end tl l s q' p h2, decide_eq_false (by omega)]; rfl
theorem stg_one (tl : Bool) (l : List It) (s : List UInt8) (q k p : Nat) (hk : k < l.length) (hs : l[k].star = false) (hp : p < s.length) (hq : q ≤ s.length) : stg tl l s q k p = (hasI l[k] s[p].toNat && stg tl l s q (k + 1) (p + 1)) := by
  have e : s.getD p 0 = s[p] := by rw [List.getD_eq_getElem?_getD, List.getElem?_eq_getElem hp]; rfl
  by_cases h : p ≤ q
  · rw [stg_step tl l s q k p hk hq h, hs, e]
    by_cases h2 : p < q
    · simp [h2]
    · rw [stg_far tl l s q (k + 1) (p + 1) (by omega)]; simp
  · rw [stg_far tl l s q k p (by omega), stg_far tl l s q (k + 1) (p + 1) (by omega)]; simp
theorem stg_one_end (tl : Bool) (l : List It) (s : List UInt8) (q k : Nat) (hk : k < l.length) (hs : l[k].star = false) (hq : q ≤ s.length) : stg tl l s q k s.length = false := by
  by_cases h : s.length ≤ q
  · rw [stg_step tl l s q k s.length hk hq h, hs, decide_eq_false (by omega)]; simp
  · exact stg_far tl l s q k s.length (by omega)
theorem stg_many (tl : Bool) (l : List It) (s : List UInt8) (q k p : Nat) (hk : k < l.length) (hs : l[k].star = true) (hp : p < s.length) (hq : q ≤ s.length) : stg tl l s q k p = (stg tl l s q (k + 1) p || (hasI l[k] s[p].toNat && stg tl l s q k (p + 1))) := by
  have e : s.getD p 0 = s[p] := by rw [List.getD_eq_getElem?_getD, List.getElem?_eq_getElem hp]; rfl
  by_cases h : p ≤ q
  · rw [stg_step tl l s q k p hk hq h, hs, e]
    by_cases h2 : p < q
    · simp [h2]
    · rw [stg_far tl l s q k (p + 1) (by omega)]; simp
  · rw [stg_far tl l s q k p (by omega), stg_far tl l s q k (p + 1) (by omega), stg_far tl l s q (k + 1) p (by omega)]; simp
theorem stg_many_end (tl : Bool) (l : List It) (s : List UInt8) (q k : Nat) (hk : k < l.length) (hs : l[k].star = true) (hq : q ≤ s.length) : stg tl l s q k s.length = stg tl l s q (k + 1) s.length := by
  by_cases h : s.length ≤ q
  · rw [stg_step tl l s q k s.length hk hq h, hs, decide_eq_false (show ¬ s.length < q by omega)]; simp
  · rw [stg_far tl l s q k s.length (by omega), stg_far tl l s q (k + 1) s.length (by omega)]
theorem gre_one (tl : Bool) (l : List It) (s : List UInt8) (k p : Nat) (e : Int) (hk : k < l.length) (hs : l[k].star = false) (hp : p < s.length) (h : Gre tl l s (k + 1) (p + 1) e) : Gre tl l s k p (if hasI l[k] s[p].toNat then e else -1) := by
  cases hh : hasI l[k] s[p].toNat
  · exact .inl ⟨rfl, fun q hq => by rw [stg_one tl l s q k p hk hs hp hq, hh]; rfl⟩
  · simp only [if_true]
    rcases h with ⟨rfl, h⟩ | ⟨q, hq, rfl, h1, h2⟩
    · exact .inl ⟨rfl, fun q hq => by rw [stg_one tl l s q k p hk hs hp hq, h q hq, Bool.and_false]⟩
    · exact .inr ⟨q, hq, rfl, by rw [stg_one tl l s q k p hk hs hp hq, hh, h1]; rfl, fun q' hl hq' => by rw [stg_one tl l s q' k p hk hs hp hq', h2 q' hl hq', Bool.and_false]⟩
theorem gre_one_end (tl : Bool) (l : List It) (s : List UInt8) (k : Nat) (hk : k < l.length) (hs : l[k].star = false) : Gre tl l s k s.length (-1) :=
  .inl ⟨rfl, fun q hq => stg_one_end tl l s q k hk hs hq⟩
theorem gre_many (tl : Bool) (l : List It) (s : List UInt8) (k p : Nat) (e1 e2 : Int) (hk : k < l.length) (hs : l[k].star = true) (hp : p < s.length) (h : Gre tl l s (k + 1) p e1) (g : Gre tl l s k (p + 1) e2) : Gre tl l s k p (if hasI l[k] s[p].toNat = true ∧ e1 < e2 then e2 else e1) := by
  cases hh : hasI l[k] s[p].toNat
  · rw [if_neg (by simp)]
    have e : ∀ q, q ≤ s.length → stg tl l s q k p = stg tl l s q (k + 1) p := fun q hq => by rw [stg_many tl l s q k p hk hs hp hq, hh]; simp
    rcases h with ⟨rfl, h⟩ | ⟨q, hq, rfl, h1, h2⟩
    · exact .inl ⟨rfl, fun q hq => by rw [e q hq]; exact h q hq⟩
    · exact .inr ⟨q, hq, rfl, by rw [e q hq]; exact h1, fun q' hl hq' => by rw [e q' hq']; exact h2 q' hl hq'⟩
  · have e : ∀ q, q ≤ s.length → stg tl l s q k p = (stg tl l s q (k + 1) p || stg tl l s q k (p + 1)) := fun q hq => by rw [stg_many tl l s q k p hk hs hp hq, hh]; simp
    rcases h with ⟨rfl, h⟩ | ⟨q, hq, rfl, h1, h2⟩ <;> rcases g with ⟨rfl, g⟩ | ⟨r, hr, rfl, g1, g2⟩
    · rw [if_neg (by omega)]
      exact .inl ⟨rfl, fun q hq => by rw [e q hq, h q hq, g q hq]; rfl⟩
    · rw [if_pos ⟨rfl, by omega⟩]
      exact .inr ⟨r, hr, rfl, by rw [e r hr, g1, Bool.or_true], fun q' hl hq' => by rw [e q' hq', h q' hq', g2 q' hl hq']; rfl⟩
    · rw [if_neg (by omega)]
      exact .inr ⟨q, hq, rfl, by rw [e q hq, h1]; rfl, fun q' hl hq' => by rw [e q' hq', h2 q' hl hq', g q' hq']; rfl⟩
    · by_cases hlt : q < r
      · rw [if_pos ⟨rfl, by omega⟩]
        exact .inr ⟨r, hr, rfl, by rw [e r hr, g1, Bool.or_true], fun q' hl hq' => by rw [e q' hq', h2 q' (by omega) hq', g2 q' hl hq']; rfl⟩
      · rw [if_neg (by omega)]
        exact .inr ⟨q, hq, rfl, by rw [e q hq, h1]; rfl, fun q' hl hq' => by rw [e q' hq', h2 q' hl hq', g2 q' (by omega) hq']; rfl⟩
theorem gre_many_end (tl : Bool) (l : List It) (s : List UInt8) (k : Nat) (e : Int) (hk : k < l.length) (hs : l[k].star = true) (h : Gre tl l s (k + 1) s.length e) : Gre tl l s k s.length e := by
  rcases h with ⟨rfl, h⟩ | ⟨q, hq, rfl, h1, h2⟩
  · exact .inl ⟨rfl, fun q hq => by rw [stg_many_end tl l s q k hk hs hq]; exact h q hq⟩
  · exact .inr ⟨q, hq, rfl, by rw [stg_many_end tl l s q k hk hs hq]; exact h1, fun q' hl hq' => by rw [stg_many_end tl l s q' k hk hs hq']; exact h2 q' hl hq'⟩
theorem matchX_stg (x : Ex) (s : List UInt8) (i j : Nat) (hj : j ≤ s.length) : matchX x s i j = ((!x.head || decide (i = 0)) && stg x.tail x.l s j 0 i) := by
  unfold matchX stg
  rw [List.drop_zero, decide_eq_true hj]
  cases decide (i ≤ j) <;> cases (!x.head || decide (i = 0)) <;> cases (!x.tail || decide (j = s.length)) <;> rfl
theorem matchX_long (x : Ex) (s : List UInt8) (i j : Nat) (hj : s.length < j) : matchX x s i j = false := by
  unfold matchX
  rw [decide_eq_false (show ¬ j ≤ s.length by omega)]; simp
/-- what the row of ends says at last -/
def EndAt (x : Ex) (s : List UInt8) (p : Nat) (e : Int) : Prop :=
  (e = -1 ∧ ∀ q, matchX x s p q = false) ∨ ∃ q : Nat, e = q ∧ matchX x s p q = true ∧ ∀ q', q < q' → matchX x s p q' = false
theorem end_of (x : Ex) (s : List UInt8) (p : Nat) (e : Int) (hp : x.head = false ∨ p = 0) (h : Gre x.tail x.l s 0 p e) : EndAt x s p e := by
  have ht : (!x.head || decide (p = 0)) = true := by
    rcases hp with h | h <;> simp [h]
  have e1 : ∀ q, q ≤ s.length → matchX x s p q = stg x.tail x.l s q 0 p := fun q hq => by rw [matchX_stg x s p q hq, ht]; rfl
  rcases h with ⟨rfl, h⟩ | ⟨q, hq, rfl, h1, h2⟩
  · refine .inl ⟨rfl, fun q => ?_⟩
    by_cases hq : q ≤ s.length
    · rw [e1 q hq]; exact h q hq
    · exact matchX_long x s p q (by omega)
  · refine .inr ⟨q, rfl, by rw [e1 q hq]; exact h1, fun q' hl => ?_⟩
    by_cases hq' : q' ≤ s.length
    · rw [e1 q' hq']; exact h2 q' hl hq'
    · exact matchX_long x s p q' (by omega)
theorem end_head (x : Ex) (s : List UInt8) (p : Nat) (hx : x.head = true) (hp : p ≠ 0) : EndAt x s p (-1) := by
  refine .inl ⟨rfl, fun q => ?_⟩
  by_cases hq : q ≤ s.length
  · rw [matchX_stg x s p q hq, hx, decide_eq_false hp]; rfl
  · exact matchX_long x s p q (by omega)
end Go.Proofs.Ytlppphmnegdhoaa
