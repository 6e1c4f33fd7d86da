/-
  The document's expressions: the table of all matches; the first and longest match.
-/
import Derived.Test.YtlppphmnegdhoaaFa3
namespace Go.Proofs.Ytlppphmnegdhoaa
set_option linter.unusedVariables false
set_option maxRecDepth 100000
open Go.RowKit
open M

theorem infoBools : (Try.prog.info? 130).map (fun i => (i.zero, i.size, i.bytes)) = some (some (.slice none 0 0), 1, 24) := by kernel_rfl
theorem undBoolss : Try.prog.underlying 95 = some (.slice 130) := by kernel_rfl
/-- the rows' values -/
def tabC (N : Nat) (G : List Nat) : List Value := G.map fun g => .slice (some ⟨g, 0, none⟩) N N
theorem tabC_snoc (N : Nat) (G : List Nat) (g : Nat) : tabC N (G ++ [g]) = tabC N G ++ [.slice (some ⟨g, 0, none⟩) N N] := by simp [tabC]
theorem one_slice (g N : Nat) : ∀ u ∈ [Value.slice (some ⟨g, 0, none⟩) N N], u.oneCell' = true := by
  intro u hu; simp at hu; subst hu; rfl
/-- what 'table' answers -/
def TablePost (x : Ex) (s : ByteArray) (w w' : World) (e : Ending) : Prop :=
  ∃ (G : List Nat) (a : Option Addr) (c : Nat), G.length = s.size + 1 ∧ e = .returned (.slice a (s.size + 1) c) ∧ w'.ownsRow w.heap.size 130 1 (.slice a (s.size + 1) c) (s.size + 1) (tabC (s.size + 1) G) ∧ (∀ j (h : j < G.length), RowF w' G[j] (s.size + 1) (fun p => matchX x s.data.toList p j)) ∧ Below w.heap.size w w'

theorem RowF.grown {w w3 : World} {g n : Nat} {f : Nat → Bool} {o : Obj} {row : Option Nat} (h : RowF w g n f) (hg : (w.alloc o).grownBy w3 row) (hne : some g ≠ row) : RowF w3 g n f := by
  have hl := h.lt
  have hs := hg.size
  simp at hs
  exact h.keep ((hg.block g (by simp; omega) hne).trans (Below.heap_alloc _ _ _ hl)) (by omega)
theorem tab_apart {w : World} {B N k : Nat} {v : Value} {G : List Nat} (h : w.ownsRow B 130 1 v k (tabC N G)) (hk : k = 0 → v = .slice none 0 0) {g n : Nat} {f : Nat → Bool} (hr : RowF w g n f) (hn : 0 < n) : some g ≠ v.ownBlock := by
  intro e
  by_cases h0 : k = 0
  · rw [hk h0] at e; cases e
  · obtain ⟨g', cap, hv, _, _⟩ := h.form (by omega)
    subst hv
    simp [Value.ownBlock] at e
    subst e
    have hl : G.length = k := by have := h.1; simpa [tabC] using this
    have h1 := h.cells rfl 0 _ (show (tabC N G)[0]? = some (.slice (some ⟨G[0]'(by omega), 0, none⟩) N N) by simp [tabC, List.getElem?_eq_getElem (show 0 < G.length by omega)])
    have h2 := hr.c 0 hn
    rw [show (⟨g, 0, none⟩ : Addr).add 0 = ⟨g, 0, none⟩ by unfold Addr.add; split <;> simp_all, h2] at h1
    cases h1

set_option maxRecDepth 100000 in
set_option maxHeartbeats 4000000 in
theorem table_calls (hd tl : Bool) (a : Option Addr) (n c : Nat) (L : List IV) (s : ByteArray) (w : World) (hn : n = L.length) (hit : ItemsAt w a L) (hL : L.length ≤ 8192) (hs : s.size ≤ 256) :
    Calls Try.prog 69 #[.agg #[.bool hd, .bool tl, .slice a n c], .string s] w fun e w' => TablePost ⟨hd, tl, L.map IV.it⟩ s w w' e := by
  subst hn
  obtain ⟨i0, hi, hz0, hz1, hz2⟩ := info_parts infoBools
  go_enter Try.func69, Try.ntmps69
  go_wp2
  go_loopw [5, 6] (fun v j' wr => ∃ (k : Nat) (G : List Nat), G.length = k ∧ k ≤ s.size + 1 ∧ j' = .int .i64 k ∧ wr.ownsRow (w.heap.size + 1) 130 1 v k (tabC (s.size + 1) G) ∧ (k = 0 → v = .slice none 0 0) ∧ (∀ j (h : j < G.length), RowF wr G[j] (s.size + 1) (fun p => matchX ⟨hd, tl, L.map IV.it⟩ s.data.toList p j)) ∧ FB w.heap.size wr hd tl (.slice a L.length c) ∧ Below w.heap.size w wr) (fun _ j' _ => s.size + 1 - (intOf j').toNat)
  case atStart => exact ⟨0, [], rfl, Nat.zero_le _, rfl, World.ownsRow_nil _ _ _ _, fun _ => rfl, fun j h => by simp at h, by constructor <;> simp [go_sem], (Below.refl _ _).alloc (Nat.le_refl _) _⟩
  case round =>
    obtain ⟨k, G, hGk, hk, rfl, hown, hnil, hrows, hfb, hB⟩ := hrel
    have hbx := hfb
    obtain ⟨x0, x1, x2, xl⟩ := hbx
    have hszB := hB.size
    by_cases hlt : k ≤ s.size
    · have hlt1 : (k : Int) ≤ (s.size : Int) := by omega
      go_wp2_with fail
      refine (fromTo_calls hd tl a L.length c L s k _ rfl (hit.below hB) hL hs hlt).mono ?_
      rintro e w1 ⟨g, rfl, hg, hrow, b1⟩
      have hown1 := ownsRow_below hown b1
      have hrows1 : ∀ j (h : j < G.length), RowF w1 G[j] (s.size + 1) (fun p => matchX ⟨hd, tl, L.map IV.it⟩ s.data.toList p j) := fun j h => (hrows j h).below b1 (hrows j h).lt
      have hfb1 := hfb.below b1 hfb.lt
      have hB1 : Below w.heap.size w w1 := hB.trans (b1.mono hszB)
      have hsz1 := b1.size
      have HRW : Hid (∀ j (h : j < G.length), RowF w1 G[j] (s.size + 1) (fun p => matchX ⟨hd, tl, L.map IV.it⟩ s.data.toList p j)) := hrows1
      have HROW : Hid (RowF w1 g (s.size + 1) (fun p => matchX ⟨hd, tl, L.map IV.it⟩ s.data.toList p k)) := hrow
      clear hrows hrows1 hrow hown hfb x0 x1 x2 xl b1
      go_wp2_with (first
        | (at_builtin; refine wpList_append_own _ rfl (.tmp 18) (.tmp 20) 95 rfl (w.heap.size + 1) 130 i0 (.slice none 0 0) 1 24 undBoolss hi hz0 hz1 hz2 rfl (by decide) _ _ _ rfl (hown1.alloc _) ⟨w1.heap.size, 0, none⟩ 1 1 [.slice (some ⟨g, 0, none⟩) (s.size + 1) (s.size + 1)] rfl rfl ?k1 ?k2 ?k3 ?k4 ?k5 ?_)
        | go_in)
      try (case k1 =>
        first
        | exact fun j u h => h
        | (intro j u h
           match j, h with
           | 0, h => simp at h; subst h; simp [go_sem, Addr.add]
           | j + 1, h => simp at h))
      try (case k2 => exact one_slice _ _)
      try (case k3 => first | omega | (unfold maxLen; omega))
      try (case k4 => omega)
      try (case k5 => first | omega | (simp; omega))
      intro v' w3 hown3 hgrow hnil3
      have hrows3 : ∀ j (h : j < (G ++ [g]).length), RowF w3 (G ++ [g])[j] (s.size + 1) (fun p => matchX ⟨hd, tl, L.map IV.it⟩ s.data.toList p j) := fun j h => by
        by_cases hj : j < G.length
        · rw [List.getElem_append_left hj]
          exact (HRW.out j hj).grown hgrow (tab_apart hown1 hnil (HRW.out j hj) (by omega))
        · have : j = k := by simp at h; omega
          subst this
          rw [List.getElem_append_right (by omega)]
          simp only [hGk, Nat.sub_self, List.getElem_cons_zero]
          exact HROW.out.grown hgrow (tab_apart hown1 hnil HROW.out (by omega))
      have hfb3 : FB w.heap.size w3 hd tl (.slice a L.length c) := by
        have hs3 := hgrow.size
        simp at hs3
        have hl := hfb1.lt
        exact hfb1.keep ((hgrow.block _ (by simp; omega) (fun e => by have := (hown1.lt _ e.symm).1; omega)).trans (Below.heap_alloc _ _ _ hl)) (by omega)
      have B3 : Below w.heap.size w w3 := (hB1.alloc (by omega) _).grown hgrow (by simp; omega) (fun k hk => by have := (hown1.lt k hk).1; omega)
      rw [← tabC_snoc] at hown3
      have HR3 : Hid (∀ j (h : j < (G ++ [g]).length), RowF w3 (G ++ [g])[j] (s.size + 1) (fun p => matchX ⟨hd, tl, L.map IV.it⟩ s.data.toList p j)) := hrows3
      clear hgrow hown1 hrows3 HRW HROW hnil hnil3
      go_wp2
      go_roundw
      case rel => exact ⟨k + 1, G ++ [g], by simp [hGk], by omega, by go_num, hown3, fun h => by omega, HR3.out, hfb3, B3⟩
      case measure => simp [intOf]; omega
    · obtain rfl : k = s.size + 1 := by omega
      have hlt1 : ¬ ((s.size + 1 : Nat) : Int) ≤ (s.size : Int) := by omega
      obtain ⟨av, cv, rfl⟩ := own_form hown
      have HRW : Hid (∀ j (h : j < G.length), RowF wr G[j] (s.size + 1) (fun p => matchX ⟨hd, tl, L.map IV.it⟩ s.data.toList p j)) := hrows
      have own2 := ownsRow_base hown (Nat.le_succ _)
      clear hrows x0 x1 x2 xl hnil hown
      go_wp2
      go_ret
      exact ⟨G, av, cv, hGk, rfl, own2, HRW.out, hB⟩
end Go.Proofs.Ytlppphmnegdhoaa
