/-
  The document's expressions: the first and longest match; Find.
-/
import Derived.Test.YtlppphmnegdhoaaFa4
namespace Go.Proofs.Ytlppphmnegdhoaa
set_option linter.unusedVariables false
set_option maxRecDepth 100000
open Go.RowKit
open M

theorem matchX_out (x : Ex) (s : List UInt8) (i j : Nat) (h : j < i ∨ s.length < j) : matchX x s i j = false := by
  unfold matchX
  rcases h with h | h
  · have e : decide (i ≤ j) = false := decide_eq_false (by omega)
    simp [e]
  · have e : decide (j ≤ s.length) = false := decide_eq_false (by omega)
    simp [e]

set_option maxRecDepth 100000 in
set_option maxHeartbeats 4000000 in
theorem match_calls (G : List Nat) (a : Option Addr) (c B : Nat) (x : Ex) (s : ByteArray) (k : Nat) (w : World) (hs : s.size ≤ 256) (hG : G.length = s.size + 1) (hown : w.ownsRow B 130 1 (.slice a (s.size + 1) c) (s.size + 1) (tabC (s.size + 1) G)) (hrows : ∀ j (h : j < G.length), RowF w G[j] (s.size + 1) (fun p => matchX x s.data.toList p j)) (hk : k ≤ s.size) :
    Calls Try.prog 70 #[.slice a (s.size + 1) c, .int .i64 k, .int .i64 (-1)] w fun e w' => (∃ i j : Int, e = .returned (.tuple #[.int .i64 i, .int .i64 j]) ∧ FindAt x s.data.toList k i j) ∧ w' = w := by
  obtain ⟨gt, cap, hv, _, hgt⟩ := hown.form (by omega)
  simp only [Value.slice.injEq] at hv
  obtain ⟨rfl, _, rfl⟩ := hv
  have hl := ba_len s
  have HT : Hid (∀ j i, j ≤ s.size → i ≤ s.size → ∃ gj, gj < w.heap.size ∧ w.cell? ⟨gt, j, none⟩ = some (.slice (some ⟨gj, 0, none⟩) (s.size + 1) (s.size + 1)) ∧ w.cell? ⟨gj, i, none⟩ = some (.bool (matchX x s.data.toList i j))) := fun j i hj hi => by
    have hjG : j < G.length := by omega
    refine ⟨G[j], (hrows j hjG).lt, ?_, (hrows j hjG).c i (by omega)⟩
    have h1 := hown.cells rfl j _ (show (tabC (s.size + 1) G)[j]? = some (.slice (some ⟨G[j], 0, none⟩) (s.size + 1) (s.size + 1)) by simp [tabC, List.getElem?_eq_getElem hjG])
    rw [show (⟨gt, 0, none⟩ : Addr).add j = ⟨gt, j, none⟩ by unfold Addr.add; split <;> simp_all] at h1
    exact h1
  clear hown hrows
  go_enter Try.func70, Try.ntmps70
  go_wp2
  go_loop [8] (fun i' => ∃ i : Nat, k ≤ i ∧ i ≤ s.size + 1 ∧ i' = .int .i64 i ∧ Hid (∀ p d, k ≤ p → p < i → matchX x s.data.toList p d = false)) (fun i' => s.size + 1 - (intOf i').toNat)
  case atStart => exact ⟨k, Nat.le_refl _, by omega, rfl, fun p d h1 h2 => by omega⟩
  case round =>
    obtain ⟨i, hki, hi, rfl, HN⟩ := hrel
    by_cases hlt : i ≤ s.size
    · have hlt1 : (i : Int) < (s.size : Int) + 1 := by omega
      go_wp2
      go_loop [9] (fun j' => ∃ jj : Nat, i ≤ jj ∧ jj ≤ s.size + 1 ∧ j' = .int .i64 ((jj : Int) - 1) ∧ Hid (∀ d, jj ≤ d → matchX x s.data.toList i d = false)) (fun j' => (intOf j' + 1).toNat)
      case atStart => exact ⟨s.size + 1, by omega, Nat.le_refl _, by congr 1; omega, fun d hd => matchX_out x _ i d (.inr (by omega))⟩
      case round =>
        obtain ⟨jj, hij, hjs, rfl, HD⟩ := hrel
        by_cases hlt2 : i < jj
        · obtain ⟨j, rfl⟩ : ∃ j, jj = j + 1 := ⟨jj - 1, by omega⟩
          have ej : (((j + 1 : Nat) : Int) - 1) = (j : Int) := by omega
          rw [ej]
          have h1 : (i : Int) ≤ (j : Int) := by omega
          have h2 : (j : Int) < (s.size : Int) + 1 := by omega
          obtain ⟨gj, hgj, c0, c1⟩ := HT.out j i (by omega) hlt
          have h3 : (0 : Int) ≤ (j : Int) := by omega
          have h4 : (0 : Int) ≤ (i : Int) := by omega
          have h5 : ((i : Int) != -1) = true := by simp
          clear ej
          cases hm : matchX x s.data.toList i j
          · rw [hm] at c1
            have HD2 : Hid (∀ d, j ≤ d → matchX x s.data.toList i d = false) := fun d hd => by
              by_cases h : d = j
              · rw [h]; exact hm
              · exact HD.out d (by omega)
            clear hm HD
            go_wp2
            go_round
            case rel => exact ⟨j, by omega, by omega, rfl, HD2.out⟩
            case measure => simp [intOf]
          · rw [hm] at c1
            have HF : Hid (FindAt x s.data.toList k (i : Int) (j : Int)) := .inr ⟨i, j, rfl, rfl, hki, hm, fun p d q1 q2 => HN.out p d q1 q2, fun d hd => HD.out d (by omega)⟩
            clear hm HD HN
            by_cases hji : (i : Int) < (j : Int)
            · go_wp2
              go_ret2
              exact ⟨⟨_, _, rfl, HF.out⟩, rfl⟩
            · go_wp2
              go_ret2
              exact ⟨⟨_, _, rfl, HF.out⟩, rfl⟩
        · obtain rfl : i = jj := by omega
          have h1 : ¬ (i : Int) ≤ (i : Int) - 1 := by omega
          have HN2 : Hid (∀ p d, k ≤ p → p < i + 1 → matchX x s.data.toList p d = false) := fun p d q1 q2 => by
            by_cases h : p = i
            · subst h
              by_cases hd : p ≤ d
              · exact HD.out d hd
              · exact matchX_out x _ p d (.inl (by omega))
            · exact HN.out p d q1 (by omega)
          clear HD HN
          go_wp2
          go_round
          case rel => exact ⟨i + 1, by omega, by omega, by go_num, HN2.out⟩
          case measure => simp [intOf]; omega
    · have hlt1 : ¬ (i : Int) < (s.size : Int) + 1 := by omega
      have HF : Hid (FindAt x s.data.toList k (-1) (-1)) := .inl ⟨rfl, rfl, fun p d q1 => by
        by_cases hp : p < i
        · exact HN.out p d q1 hp
        · exact matchX_out x _ p d (by omega)⟩
      clear HN
      go_wp2
      go_ret2
      exact ⟨⟨_, _, rfl, HF.out⟩, rfl⟩
end Go.Proofs.Ytlppphmnegdhoaa
