/-
  The document's expressions: one item.
-/
import Derived.Test.YtlppphmnegdhoaaFx4
namespace Go.Proofs.Ytlppphmnegdhoaa
set_option linter.unusedVariables false
set_option maxRecDepth 100000
open Go.RowKit
open M

theorem ItBox.set0 {b : Nat} {w : World} {a n s : Bool} {vf vb : Value} (h : ItBox b w a n s vf vb) (u : Bool) : ItBox b (w.setCell ⟨b, 0, none⟩ (.bool u)) u n s vf vb := by
  obtain ⟨c0, c1, c2, c3, c4, f0, f1, f2, f3, f4⟩ := h
  refine ⟨?_, ?_, ?_, ?_, ?_, ?_, ?_, ?_, ?_, ?_⟩
  all_goals first | (simp [go_sem, *]; done) | (rw [World.cell?_setCell_other (by simp)]; assumption) | exact World.cell?_setCell_same c0
theorem ItBox.set2 {b : Nat} {w : World} {a n s : Bool} {vf vb : Value} (h : ItBox b w a n s vf vb) (u : Bool) : ItBox b (w.setCell ⟨b, 2, none⟩ (.bool u)) a n u vf vb := by
  obtain ⟨c0, c1, c2, c3, c4, f0, f1, f2, f3, f4⟩ := h
  refine ⟨?_, ?_, ?_, ?_, ?_, ?_, ?_, ?_, ?_, ?_⟩
  all_goals first | (simp [go_sem, *]; done) | (rw [World.cell?_setCell_other (by simp)]; assumption) | exact World.cell?_setCell_same c2
/-- an item's ranges, to be read -/
structure RngAt (w : World) (vf vb : Value) (r : List (Nat × Nat)) : Prop where
  f : ∃ a c, vf = .slice a r.length c ∧ IntsAt w a (los r)
  b : ∃ a c, vb = .slice a r.length c ∧ IntsAt w a (his r)
theorem IntsAt.below {w w' : World} {a : Option Addr} {F : List Int} (h : IntsAt w a F) (hb : Below w.heap.size w w') : IntsAt w' a F := by
  rcases h.cells with h0 | ⟨g, ha, hg, hc⟩
  · exact ⟨.inl h0⟩
  · exact ⟨.inr ⟨g, ha, by have := hb.size; omega, fun i hi => (hb.cell (by exact hg)).trans (hc i hi)⟩⟩
theorem RngAt.below {w w' : World} {vf vb : Value} {r : List (Nat × Nat)} (h : RngAt w vf vb r) (hb : Below w.heap.size w w') : RngAt w' vf vb r := by
  obtain ⟨⟨a, c, h1, h2⟩, ⟨a', c', h3, h4⟩⟩ := h
  exact ⟨⟨a, c, h1, h2.below hb⟩, ⟨a', c', h3, h4.below hb⟩⟩
theorem rng_twin {w : World} {B : Nat} {vf vb : Value} {r : List (Nat × Nat)} (h : Twin B w vf vb (los r) (his r)) : RngAt w vf vb r := by
  obtain ⟨a, c, h1⟩ := own_form h.f
  obtain ⟨a', c', h2⟩ := own_form h.k
  have hf := h.f
  have hk := h.k
  rw [h1] at hf
  rw [h2] at hk
  have e1 : (los r).length = r.length := by simp [los]
  have e2 : (his r).length = r.length := by simp [his]
  exact ⟨⟨a, c, by rw [h1, e1], ints_own hf⟩, ⟨a', c', by rw [h2, e2], ints_own hk⟩⟩
/-- what 'item' answers -/
def ItemPost (l : List Mk) (k : Nat) (w w' : World) (e : Ending) : Prop :=
  ∃ (an nt st : Bool) (vf vb : Value), Below w.heap.size w w' ∧ (∃ a1 n1 c1 a2 n2 c2, vf = .slice a1 n1 c1 ∧ vb = .slice a2 n2 c2) ∧
    ((itemM (l.drop k) = none ∧ e = .returned (.tuple #[.agg #[.bool an, .bool nt, .bool st, vf, vb], .int .i64 (-1)])) ∨
     ∃ (rng : List (Nat × Nat)) (q : Nat), itemM (l.drop k) = some (⟨an, nt, st, rng⟩, l.drop q) ∧ k < q ∧ q ≤ l.length ∧ e = .returned (.tuple #[.agg #[.bool an, .bool nt, .bool st, vf, vb], .int .i64 (q : Int)]) ∧ Twin w.heap.size w' vf vb (los rng) (his rng))

/-- all that 'item' holds -/
structure IInv (w wr : World) (an nt st : Bool) (vf vb : Value) (F K : List Int) : Prop where
  res : ItBox w.heap.size wr false false false (.slice none 0 0) (.slice none 0 0)
  box : ItBox (w.heap.size + 1) wr an nt st vf vb
  twin : Twin (w.heap.size + 2) wr vf vb F K
  below : Below w.heap.size w wr
  size : w.heap.size + 2 ≤ wr.heap.size
theorem IInv.keep {w wr w' : World} {an nt st : Bool} {vf vb : Value} {F K : List Int} (h : IInv w wr an nt st vf vb F K) (hb : Below wr.heap.size wr w') : IInv w w' an nt st vf vb F K := by
  have hs := h.size
  have hs2 := hb.size
  exact ⟨h.res.keep (hb.block _ (by omega)), h.box.keep (hb.block _ (by omega)), ⟨ownsRow_below h.twin.f hb, ownsRow_below h.twin.k hb, h.twin.ap⟩, h.below.trans (hb.mono (by omega)), by omega⟩
theorem IInv.fin {w wr : World} {an nt st : Bool} {vf vb : Value} {F K : List Int} (h : IInv w wr an nt st vf vb F K) :
    Twin w.heap.size (((((wr.setCell ⟨w.heap.size, 0, none⟩ (.bool an)).setCell ⟨w.heap.size, 1, none⟩ (.bool nt)).setCell ⟨w.heap.size, 2, none⟩ (.bool st)).setCell ⟨w.heap.size, 3, none⟩ vf).setCell ⟨w.heap.size, 4, none⟩ vb) vf vb F K ∧
    Below w.heap.size w (((((wr.setCell ⟨w.heap.size, 0, none⟩ (.bool an)).setCell ⟨w.heap.size, 1, none⟩ (.bool nt)).setCell ⟨w.heap.size, 2, none⟩ (.bool st)).setCell ⟨w.heap.size, 3, none⟩ vf).setCell ⟨w.heap.size, 4, none⟩ vb) := by
  have t2 := ((((h.twin.set (a := ⟨w.heap.size, 0, none⟩) (by simp) (.bool an)).set (a := ⟨w.heap.size, 1, none⟩) (by simp) (.bool nt)).set (a := ⟨w.heap.size, 2, none⟩) (by simp) (.bool st)).set (a := ⟨w.heap.size, 3, none⟩) (by simp) vf).set (a := ⟨w.heap.size, 4, none⟩) (by simp) vb
  exact ⟨⟨ownsRow_base t2.f (by omega), ownsRow_base t2.k (by omega), t2.ap⟩, ((((h.below.setCell (by simp) _).setCell (by simp) _).setCell (by simp) _).setCell (by simp) _).setCell (by simp) _⟩
theorem IInv.set0 {w wr : World} {an nt st : Bool} {vf vb : Value} {F K : List Int} (h : IInv w wr an nt st vf vb F K) (u : Bool) : IInv w (wr.setCell ⟨w.heap.size + 1, 0, none⟩ (.bool u)) u nt st vf vb F K :=
  ⟨h.res.keep (heap_setCell_other _ _ _ _ (by simp)), h.box.set0 u, h.twin.set (by simp) _, h.below.setCell (by simp) _, by simpa using h.size⟩
theorem IInv.set2 {w wr : World} {an nt st : Bool} {vf vb : Value} {F K : List Int} (h : IInv w wr an nt st vf vb F K) (u : Bool) : IInv w (wr.setCell ⟨w.heap.size + 1, 2, none⟩ (.bool u)) an nt u vf vb F K :=
  ⟨h.res.keep (heap_setCell_other _ _ _ _ (by simp)), h.box.set2 u, h.twin.set (by simp) _, h.below.setCell (by simp) _, by simpa using h.size⟩
/-- a slice of one number that was just built -/
theorem built_row (w : World) (B : Nat) (x : Int) (hB : B ≤ w.heap.size) : (w.alloc (.cells #[.int .i64 x] 3)).ownsRow B 3 1 (.slice (some ⟨w.heap.size, 0, none⟩) 1 1) 1 (intC [x]) :=
  ⟨rfl, .inr ⟨w.heap.size, 1, #[.int .i64 x], rfl, hB, heap_alloc_new w _, Nat.le_refl _, by unfold maxLen; omega, rfl, rfl⟩⟩
/-- both bounds of one byte -/
theorem IInv.one {w wr : World} {an nt st : Bool} (h : IInv w wr an nt st (.slice none 0 0) (.slice none 0 0) [] []) (x : Nat) :
    IInv w ((((wr.setCell ⟨w.heap.size + 1, 3, none⟩ (.slice (some ⟨wr.heap.size, 0, none⟩) 1 1)).setCell ⟨w.heap.size + 1, 4, none⟩ (.slice (some ⟨wr.heap.size + 1, 0, none⟩) 1 1)).alloc (.cells #[.int .i64 (x : Int)] 3)).alloc (.cells #[.int .i64 (x : Int)] 3)) an nt st (.slice (some ⟨wr.heap.size, 0, none⟩) 1 1) (.slice (some ⟨wr.heap.size + 1, 0, none⟩) 1 1) (los [(x, x)]) (his [(x, x)]) := by
  have hs := h.size
  have r1 := (h.res.keep (heap_setCell_other wr ⟨w.heap.size + 1, 3, none⟩ w.heap.size (.slice (some ⟨wr.heap.size, 0, none⟩) 1 1) (by simp))).keep (heap_setCell_other (wr.setCell ⟨w.heap.size + 1, 3, none⟩ (.slice (some ⟨wr.heap.size, 0, none⟩) 1 1)) ⟨w.heap.size + 1, 4, none⟩ w.heap.size (.slice (some ⟨wr.heap.size + 1, 0, none⟩) 1 1) (by simp))
  have b1 := (h.box.set3 (.slice (some ⟨wr.heap.size, 0, none⟩) 1 1)).set4 (.slice (some ⟨wr.heap.size + 1, 0, none⟩) 1 1)
  have bl := (h.below.setCell (a := w) (show w.heap.size ≤ (⟨w.heap.size + 1, 3, none⟩ : Addr).block by simp) (.slice (some ⟨wr.heap.size, 0, none⟩) 1 1)).setCell (show w.heap.size ≤ (⟨w.heap.size + 1, 4, none⟩ : Addr).block by simp) (.slice (some ⟨wr.heap.size + 1, 0, none⟩) 1 1)
  have hsz : ((wr.setCell ⟨w.heap.size + 1, 3, none⟩ (.slice (some ⟨wr.heap.size, 0, none⟩) 1 1)).setCell ⟨w.heap.size + 1, 4, none⟩ (.slice (some ⟨wr.heap.size + 1, 0, none⟩) 1 1)).heap.size = wr.heap.size := by simp
  generalize ((wr.setCell ⟨w.heap.size + 1, 3, none⟩ (.slice (some ⟨wr.heap.size, 0, none⟩) 1 1)).setCell ⟨w.heap.size + 1, 4, none⟩ (.slice (some ⟨wr.heap.size + 1, 0, none⟩) 1 1)) = V at *
  have t1 := built_row V (w.heap.size + 2) x (by omega)
  have t2 := built_row (V.alloc (.cells #[.int .i64 (x : Int)] 3)) (w.heap.size + 2) x (by simp; omega)
  have e2 : (V.alloc (.cells #[.int .i64 (x : Int)] 3)).heap.size = wr.heap.size + 1 := by simp [hsz]
  rw [e2] at t2
  rw [hsz] at t1
  have al : ∀ k, k < wr.heap.size → ((V.alloc (.cells #[.int .i64 (x : Int)] 3)).alloc (.cells #[.int .i64 (x : Int)] 3)).heap[k]? = V.heap[k]? := fun k hk => (Below.heap_alloc _ _ _ (by rw [e2]; omega)).trans (Below.heap_alloc _ _ _ (by rw [hsz]; exact hk))
  refine ⟨r1.keep (al _ (by omega)), b1.keep (al _ (by omega)), ⟨t1.alloc _, t2, ?_⟩, (bl.alloc (by omega) _).alloc (by rw [e2]; omega) _, by rw [show ((V.alloc (.cells #[.int .i64 (x : Int)] 3)).alloc (.cells #[.int .i64 (x : Int)] 3)).heap.size = wr.heap.size + 2 by simp [hsz]]; omega⟩
  intro g hg hb
  simp [Value.ownBlock] at hg hb
  omega
end Go.Proofs.Ytlppphmnegdhoaa
