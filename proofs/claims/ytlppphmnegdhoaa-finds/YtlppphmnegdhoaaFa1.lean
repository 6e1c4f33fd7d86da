/-
  The document's expressions: is a byte one of an item's?
-/
import Derived.Test.YtlppphmnegdhoaaFx9
namespace Go.Proofs.Ytlppphmnegdhoaa
set_option linter.unusedVariables false
set_option maxRecDepth 100000
open Go.RowKit
open M

theorem own_max {w : World} {base : Nat} {e : TypeId} {size : Nat} {v : Value} {n : Nat} {xs : List Value} (h : w.ownsRow base e size v n xs) : n ≤ 9223372036854775807 := by
  rcases h.2 with ⟨_, h0⟩ | ⟨g, cap, cur, _, _, _, h1, h2, _⟩
  · omega
  · unfold maxLen at h2; omega
def inR (c : Nat) (r : Nat × Nat) : Bool := decide (r.1 ≤ c) && decide (c ≤ r.2)
theorem hasI_eq (x : It) (c : Nat) : hasI x c = (x.any || (x.rng.any (inR c) != x.not)) := rfl

set_option maxRecDepth 100000 in
set_option maxHeartbeats 2000000 in
theorem has_calls (x : IV) (c : Nat) (w : World) (B : Nat) (h : IVok B w x) (hc : c < 256) :
    Calls Try.prog 105 #[.agg #[.bool x.it.any, .bool x.it.not, .bool x.it.star, x.f, x.b], .int .u8 c] w fun e w' => e = .returned (.bool (hasI x.it c)) ∧ Below w.heap.size w w' := by
  have hlen : x.it.rng.length ≤ 9223372036854775807 := by
    have := own_max h.f
    simp [los] at this
    exact this
  obtain ⟨⟨a1, c1, hf, if1⟩, ⟨a2, c2, hb, ib1⟩⟩ := rng_twin h
  obtain ⟨⟨an, nt, st, rng⟩, vf, vb⟩ := x
  simp only at hf hb hlen if1 ib1
  subst hf hb
  clear h
  cases an
  · have HQ : Hid (hasI ⟨false, nt, st, rng⟩ c = (rng.any (inR c) != nt)) := by show _ = _; rw [hasI_eq]; rfl
    go_enter Try.func105, Try.ntmps105
    go_wp2
    go_loop [5, 6] (fun in' i => ∃ k : Nat, k ≤ rng.length ∧ i = .int .i64 k ∧ in' = .bool ((rng.take k).any (inR c))) (fun _ i => rng.length - (intOf i).toNat)
    case atStart => exact ⟨0, Nat.zero_le _, rfl, rfl⟩
    case round =>
      obtain ⟨k, hk, rfl, rfl⟩ := hrel
      by_cases hlt : k < rng.length
      · have hlt1 : (k : Int) < (rng.length : Int) := by omega
        have hl1 : k < (los rng).length := by simpa [los] using hlt
        have hl2 : k < (his rng).length := by simpa [his] using hlt
        have hn1 : los rng ≠ [] := fun e => by rw [e] at hl1; simp at hl1
        have hn2 : his rng ≠ [] := fun e => by rw [e] at hl2; simp at hl2
        obtain ⟨g1, rfl, hg1, q1⟩ := if1.cells.resolve_left hn1
        obtain ⟨g2, rfl, hg2, q2⟩ := ib1.cells.resolve_left hn2
        have d1 := q1 k hl1
        have d2 := q2 k hl2
        have e1 : (los rng)[k] = (rng[k].1 : Int) := by simp [los]
        have e2 : (his rng)[k] = (rng[k].2 : Int) := by simp [his]
        rw [e1] at d1
        rw [e2] at d2
        have HT : Hid ((rng.take (k + 1)).any (inR c) = ((rng.take k).any (inR c) || inR c rng[k])) := by
          show _ = _
          rw [List.take_succ_eq_append_getElem hlt, List.any_append]; simp
        clear q1 q2 e1 e2 hn1 hn2
        generalize rng[k] = r at *
        obtain ⟨lo, hi'⟩ := r
        simp only at d1 d2
        generalize (rng.take k).any (inR c) = bb at *
        by_cases h1 : lo ≤ c
        · have h11 : (lo : Int) ≤ (c : Int) := by omega
          by_cases h2 : c ≤ hi'
          · have h21 : (c : Int) ≤ (hi' : Int) := by omega
            have HT2 : Hid ((rng.take (k + 1)).any (inR c) = true) := by show _ = _; rw [HT.out]; simp [inR, h1, h2]
            go_wp2
            go_round
            case rel => exact ⟨k + 1, by omega, by go_num, by rw [HT2.out]⟩
            case measure => simp [intOf]; omega
          · have h21 : ¬ (c : Int) ≤ (hi' : Int) := by omega
            have HT2 : Hid ((rng.take (k + 1)).any (inR c) = bb) := by show _ = _; rw [HT.out]; simp [inR, h2]
            go_wp2
            go_round
            case rel => exact ⟨k + 1, by omega, by go_num, by rw [HT2.out]⟩
            case measure => simp [intOf]; omega
        · have h11 : ¬ (lo : Int) ≤ (c : Int) := by omega
          have HT2 : Hid ((rng.take (k + 1)).any (inR c) = bb) := by show _ = _; rw [HT.out]; simp [inR, h1]
          go_wp2
          go_round
          case rel => exact ⟨k + 1, by omega, by go_num, by rw [HT2.out]⟩
          case measure => simp [intOf]; omega
      · obtain rfl : k = rng.length := by omega
        have hlt1 : ¬ (rng.length : Int) < (rng.length : Int) := by omega
        rw [List.take_length]
        generalize rng.any (inR c) = bb at *
        cases bb <;> cases nt
        all_goals go_wp2
        all_goals go_ret
        all_goals exact ⟨ret_bool (by rw [HQ.out]; rfl), (Below.refl _ _).alloc (Nat.le_refl _) _⟩
  · have HQ : Hid (hasI ⟨true, nt, st, rng⟩ c = true) := by show _ = _; rw [hasI_eq]; rfl
    go_enter Try.func105, Try.ntmps105
    go_wp2
    go_ret
    exact ⟨ret_bool (by rw [HQ.out]), (Below.refl _ _).alloc (Nat.le_refl _) _⟩
end Go.Proofs.Ytlppphmnegdhoaa
