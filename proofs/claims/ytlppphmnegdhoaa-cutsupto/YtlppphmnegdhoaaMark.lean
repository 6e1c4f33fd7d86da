/-
  Lists that are written full of marks.
-/
import Derived.Test.YtlppphmnegdhoaaSame
import Derived.Deep.RegionHeld3
import Derived.Deep.DrawnRows
namespace Go.Proofs.Ytlppphmnegdhoaa
set_option linter.unusedVariables false
open Go.RowKit
open M
attribute [local go_sem ↓] Go.wp_at_zero Go.wp_at_succ

/-- a row of records that may be written -/
def Room (w : World) (g cap : Nat) : Prop := ∀ o, o < cap * 3 → (w.cell? ⟨g, o, none⟩).isSome = true ∧ w.frozen? ⟨g, o, none⟩ = false
/-- its first k records are marks -/
def Marks (w : World) (g k : Nat) : Prop := ∀ i, i < k → w.cell? ⟨g, i * 3, none⟩ = some (.int .i64 7) ∧ w.cell? ⟨g, i * 3 + 1, none⟩ = some (.int .i64 (-7)) ∧ w.cell? ⟨g, i * 3 + 2, none⟩ = some (.string ⟨#[109, 97, 114, 107]⟩)

/-- three stores and a new block -/
def stored3 (w : World) (g o : Nat) (x y z : Value) (t : Obj) : World := (((w.setCell ⟨g, o, none⟩ x).setCell ⟨g, o + 1, none⟩ y).setCell ⟨g, o + 2, none⟩ z).alloc t
theorem stored3_cell (w : World) (g o : Nat) (x y z : Value) (t : Obj) (hg : g < w.heap.size) (i : Nat) :
    (stored3 w g o x y z t).cell? ⟨g, i, none⟩ = (((w.setCell ⟨g, o, none⟩ x).setCell ⟨g, o + 1, none⟩ y).setCell ⟨g, o + 2, none⟩ z).cell? ⟨g, i, none⟩ := by
  unfold stored3
  exact World.cell?_alloc_past _ _ _ (by simpa using hg)
theorem set_same (w : World) (a : Addr) (v u : Value) (h : w.cell? a = some u) : (w.setCell a v).cell? a = some v := World.cell?_setCell_same' w a v (by rw [h]; rfl)
theorem set_far (w : World) (g i j : Nat) (v : Value) (h : i ≠ j) : (w.setCell ⟨g, i, none⟩ v).cell? ⟨g, j, none⟩ = w.cell? ⟨g, j, none⟩ := by
  apply World.cell?_setCell_other
  exact fun e => h (congrArg Addr.off e)
theorem stored3_other (w : World) (g o : Nat) (x y z : Value) (t : Obj) (hg : g < w.heap.size) (i : Nat) (hi : i < o ∨ o + 2 < i) : (stored3 w g o x y z t).cell? ⟨g, i, none⟩ = w.cell? ⟨g, i, none⟩ := by
  rw [stored3_cell w g o x y z t hg, set_far _ _ _ _ _ (by omega), set_far _ _ _ _ _ (by omega), set_far _ _ _ _ _ (by omega)]
theorem stored3_at (w : World) (g o : Nat) (x y z u v p : Value) (t : Obj) (hg : g < w.heap.size) (h0 : w.cell? ⟨g, o, none⟩ = some u) (h1 : w.cell? ⟨g, o + 1, none⟩ = some v) (h2 : w.cell? ⟨g, o + 2, none⟩ = some p) :
    (stored3 w g o x y z t).cell? ⟨g, o, none⟩ = some x ∧ (stored3 w g o x y z t).cell? ⟨g, o + 1, none⟩ = some y ∧ (stored3 w g o x y z t).cell? ⟨g, o + 2, none⟩ = some z := by
  refine ⟨?_, ?_, ?_⟩
  · rw [stored3_cell w g o x y z t hg, set_far _ _ _ _ _ (by omega), set_far _ _ _ _ _ (by omega), set_same _ _ _ _ h0]
  · rw [stored3_cell w g o x y z t hg, set_far _ _ _ _ _ (by omega)]
    exact set_same _ _ _ v (by rw [set_far _ _ _ _ _ (by omega)]; exact h1)
  · rw [stored3_cell w g o x y z t hg]
    exact set_same _ _ _ p (by rw [set_far _ _ _ _ _ (by omega), set_far _ _ _ _ _ (by omega)]; exact h2)
theorem stored3_frozen (w : World) (g o : Nat) (x y z : Value) (t : Obj) (hg : g < w.heap.size) (i : Nat) : (stored3 w g o x y z t).frozen? ⟨g, i, none⟩ = w.frozen? ⟨g, i, none⟩ := by
  unfold stored3
  rw [World.frozen?_alloc_past _ _ _ (by simpa using hg)]
  simp
theorem stored3_grown {w0 w : World} {g : Nat} (h : w0.grownBy w (some g)) (o : Nat) (x y z : Value) (t : Obj) : w0.grownBy (stored3 w g o x y z t) (some g) := by
  have hsz : (((w.setCell ⟨g, o, none⟩ x).setCell ⟨g, o + 1, none⟩ y).setCell ⟨g, o + 2, none⟩ z).heap.size = w.heap.size := by simp
  refine ⟨h.os, h.tape, h.output, ?_, fun k hk hne => ?_⟩
  · have := h.size
    unfold stored3
    simp
    omega
  · have hkg : k ≠ g := fun e => hne (by rw [e])
    have := h.size
    unfold stored3
    rw [Below.heap_alloc _ _ _ (by omega), Below.heap_setCell _ _ _ _ hkg, Below.heap_setCell _ _ _ _ hkg, Below.heap_setCell _ _ _ _ hkg]
    exact h.block k hk hne
theorem room_stored {w : World} {g cap k : Nat} (h : Room w g cap) (hg : g < w.heap.size) (hk : k < cap) (x y z : Value) (t : Obj) : Room (stored3 w g (k * 3) x y z t) g cap := by
  intro o ho
  rw [stored3_frozen w g (k * 3) x y z t hg]
  refine ⟨?_, (h o ho).2⟩
  obtain ⟨u0, c0⟩ := Option.isSome_iff_exists.1 (h (k * 3) (by omega)).1
  obtain ⟨u1, c1⟩ := Option.isSome_iff_exists.1 (h (k * 3 + 1) (by omega)).1
  obtain ⟨u2, c2⟩ := Option.isSome_iff_exists.1 (h (k * 3 + 2) (by omega)).1
  obtain ⟨a0, a1, a2⟩ := stored3_at w g (k * 3) x y z u0 u1 u2 t hg c0 c1 c2
  by_cases h0 : o = k * 3
  · rw [h0, a0]; rfl
  by_cases h1 : o = k * 3 + 1
  · rw [h1, a1]; rfl
  by_cases h2 : o = k * 3 + 2
  · rw [h2, a2]; rfl
  rw [stored3_other w g (k * 3) x y z t hg o (by omega)]
  exact (h o ho).1
theorem marks_stored {w : World} {g cap k : Nat} (h : Marks w g k) (hr : Room w g cap) (hg : g < w.heap.size) (hk : k < cap) (t : Obj) : Marks (stored3 w g (k * 3) (.int .i64 7) (.int .i64 (-7)) (.string ⟨#[109, 97, 114, 107]⟩) t) g (k + 1) := by
  intro i hi
  obtain ⟨u0, c0⟩ := Option.isSome_iff_exists.1 (hr (k * 3) (by omega)).1
  obtain ⟨u1, c1⟩ := Option.isSome_iff_exists.1 (hr (k * 3 + 1) (by omega)).1
  obtain ⟨u2, c2⟩ := Option.isSome_iff_exists.1 (hr (k * 3 + 2) (by omega)).1
  by_cases he : i = k
  · subst he
    exact stored3_at w g (i * 3) _ _ _ u0 u1 u2 t hg c0 c1 c2
  · obtain ⟨b0, b1, b2⟩ := h i (by omega)
    exact ⟨(stored3_other w g (k * 3) _ _ _ t hg _ (by omega)).trans b0, (stored3_other w g (k * 3) _ _ _ t hg _ (by omega)).trans b1, (stored3_other w g (k * 3) _ _ _ t hg _ (by omega)).trans b2⟩

set_option maxRecDepth 100000 in
set_option maxHeartbeats 2000000 in
theorem marked_calls (g n cap : Nat) (w : World) (hg : g < w.heap.size) (hn : n ≤ cap) (hc : cap ≤ 9223372036854775807) (hroom : Room w g cap) :
    Calls Try.prog 23 #[.slice (some ⟨g, 0, none⟩) n cap] w fun e w' => e = .returned (.slice (some ⟨g, 0, none⟩) cap cap) ∧ Marks w' g cap ∧ w.grownBy w' (some g) := by
  have hn1 : (n : Int) ≤ (cap : Int) := by omega
  go_enter Try.func23, Try.ntmps23
  go_wp2
  go_loopw [4] (fun i wr => ∃ k : Nat, k ≤ cap ∧ i = .int .i64 k ∧ Room wr g cap ∧ Marks wr g k ∧ w.grownBy wr (some g)) (fun i _ => cap - (intOf i).toNat)
  case atStart => exact ⟨0, Nat.zero_le _, rfl, hroom, fun i hi => by omega, ⟨rfl, rfl, rfl, Nat.le_refl _, fun _ _ _ => rfl⟩⟩
  case round =>
    obtain ⟨k, hk, rfl, hR, hM, hG⟩ := hrel
    have HR : Hid (Room wr g cap) := hR
    have HM : Hid (Marks wr g k) := hM
    have hgs := hG.size
    by_cases hlt : k < cap
    · have hlt1 : (k : Int) < (cap : Int) := by omega
      obtain ⟨p0, f0⟩ := hR (k * 3) (by omega)
      obtain ⟨p1, f1⟩ := hR (k * 3 + 1) (by omega)
      obtain ⟨p2, f2⟩ := hR (k * 3 + 2) (by omega)
      obtain ⟨u0, c0⟩ := Option.isSome_iff_exists.1 p0
      obtain ⟨u1, c1⟩ := Option.isSome_iff_exists.1 p1
      obtain ⟨u2, c2⟩ := Option.isSome_iff_exists.1 p2
      have hgw : g < wr.heap.size := by omega
      clear hR hM p0 p1 p2
      go_wp2_with fail
      refine (mark_calls _).mono ?_
      rintro e w1 ⟨rfl, hw1⟩
      subst hw1
      go_wp2
      go_roundw
      case rel => exact ⟨k + 1, by omega, by go_num, room_stored HR.out hgw hlt _ _ _ _, marks_stored HM.out HR.out hgw hlt _, stored3_grown hG _ _ _ _ _⟩
      case measure => simp [intOf]; omega
    · obtain rfl : k = cap := by omega
      go_wp2
      go_ret
      exact ⟨rfl, HM.out, hG⟩

set_option maxRecDepth 100000 in
set_option maxHeartbeats 2000000 in
theorem full_calls (g cap : Nat) (w : World) (hg : g < w.heap.size) (hc : cap ≤ 9223372036854775807) (hM : Marks w g cap) :
    Calls Try.prog 24 #[.slice (some ⟨g, 0, none⟩) cap cap] w fun e w' => e = .returned (.bool true) ∧ Below w.heap.size w w' := by
  have HM : Hid (Marks w g cap) := hM
  clear hM
  go_enter Try.func24, Try.ntmps24
  go_wp2
  go_loopw [3] (fun i wr => ∃ k : Nat, k ≤ cap ∧ i = .int .i64 k ∧ Below w.heap.size w wr) (fun i _ => cap - (intOf i).toNat)
  case atStart => exact ⟨0, Nat.zero_le _, rfl, Below.refl _ _⟩
  case round =>
    obtain ⟨k, hk, rfl, B⟩ := hrel
    by_cases hlt : k < cap
    · have hlt1 : (k : Int) < (cap : Int) := by omega
      have hk0 : (0 : Int) ≤ (k : Int) := by omega
      have hk1 : (k : Int) + 1 ≤ (cap : Int) := by omega
      have hk2 : IntKind.i64.wrap ((k : Int) + 1) = (k : Int) + 1 := by rw [IntKind.wrap_i64]; omega
      go_wp2_with fail
      have hgw : g < wr.heap.size := by have := B.size; omega
      obtain ⟨m0, m1, m2⟩ := HM.out k hlt
      have d0 := (B.cell (by exact hg)).trans m0
      have d1 := (B.cell (by exact hg)).trans m1
      have d2 := (B.cell (by exact hg)).trans m2
      have HX : Hid (∀ w1 : World, Below wr.heap.size wr w1 → RecsAt w1 (some ⟨g, k * 3, none⟩) 1 [markR]) := fun w1 hb1 => ⟨rfl, .inr ⟨g, k * 3, rfl, Nat.lt_of_lt_of_le hgw hb1.size, fun i hi => by
        obtain rfl : i = 0 := by simpa using hi
        exact ⟨(hb1.cell (by exact hgw)).trans d0, (hb1.cell (by exact hgw)).trans d1, (hb1.cell (by exact hgw)).trans d2⟩⟩⟩
      clear d0 d1 d2 m0 m1 m2
      have HS : Hid (∀ q, Calls Try.prog 22 #[.slice (some ⟨g, k * 3, none⟩) 1 (cap - k), .slice (some ⟨wr.heap.size + 1, 0, none⟩) 1 1] (((wr.alloc (.cells #[.int .i64 7, .int .i64 (-7), .string ⟨#[109, 97, 114, 107]⟩] 57)).alloc (.cells #[.int .i64 7, .int .i64 (-7), .string ⟨#[109, 97, 114, 107]⟩] 57)).drewN q)
          fun e w' => e = .returned (.bool true) ∧ Below wr.heap.size wr w') := fun q => by
        have hb1 : Below wr.heap.size wr (((wr.alloc (.cells #[.int .i64 7, .int .i64 (-7), .string ⟨#[109, 97, 114, 107]⟩] 57)).alloc (.cells #[.int .i64 7, .int .i64 (-7), .string ⟨#[109, 97, 114, 107]⟩] 57)).drewN q) := below_drewN (((Below.refl _ _).alloc (Nat.le_refl _) _).alloc (by simp) _) _
        refine (same_calls _ _ _ _ _ _ [markR] _ (HX.out _ hb1) ⟨rfl, .inr ⟨_, 0, rfl, ?_, fun i hi => ?_⟩⟩ (by unfold maxLen; simp)).mono ?_
        · simp
        · obtain rfl : i = 0 := by simpa using hi
          simp [go_sem, markR]
        · rintro e w2 ⟨rfl, q2, rfl⟩
          exact ⟨rfl, below_drewN hb1 _⟩
      go_region_with (first
        | (go_at_call 46; refine (mark_calls _).mono ?_; rintro e w1 ⟨rfl, rfl⟩)
        | (go_at_call 22; refine (HS.out 1).mono ?_; rintro e w2 ⟨rfl, hb2⟩))
      all_goals
        go_wp2
        go_roundw
        case rel => exact ⟨k + 1, by omega, by go_num, B.trans (hb2.mono B.size)⟩
        case measure => simp [intOf]; omega
    · go_wp2
      go_ret
      exact ⟨rfl, B⟩
end Go.Proofs.Ytlppphmnegdhoaa
