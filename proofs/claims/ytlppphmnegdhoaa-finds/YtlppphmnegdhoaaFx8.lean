/-
  The document's expressions: the walk of 'expression'.
-/
import Derived.Test.YtlppphmnegdhoaaFx7
namespace Go.Proofs.Ytlppphmnegdhoaa
set_option linter.unusedVariables false
set_option maxRecDepth 100000
open Go.RowKit
open M

/-- an expression's three cells -/
structure ExBox (b : Nat) (w : World) (h t : Bool) (v : Value) : Prop where
  c0 : w.cell? ⟨b, 0, none⟩ = some (.bool h)
  c1 : w.cell? ⟨b, 1, none⟩ = some (.bool t)
  c2 : w.cell? ⟨b, 2, none⟩ = some v
  f0 : w.frozen? ⟨b, 0, none⟩ = false
  f1 : w.frozen? ⟨b, 1, none⟩ = false
  f2 : w.frozen? ⟨b, 2, none⟩ = false
theorem ExBox.keep {b : Nat} {w w' : World} {h t : Bool} {v : Value} (e : ExBox b w h t v) (hk : w'.heap[b]? = w.heap[b]?) : ExBox b w' h t v := by
  have hc : ∀ o, w'.cell? ⟨b, o, none⟩ = w.cell? ⟨b, o, none⟩ := fun o => World.cell?_of_block hk
  have hf : ∀ o, w'.frozen? ⟨b, o, none⟩ = w.frozen? ⟨b, o, none⟩ := fun o => World.frozen?_of_block hk
  exact ⟨(hc _).trans e.c0, (hc _).trans e.c1, (hc _).trans e.c2, (hf _).trans e.f0, (hf _).trans e.f1, (hf _).trans e.f2⟩
theorem ExBox.set0 {b : Nat} {w : World} {h t : Bool} {v : Value} (e : ExBox b w h t v) (u : Bool) : ExBox b (w.setCell ⟨b, 0, none⟩ (.bool u)) u t v := by
  obtain ⟨c0, c1, c2, f0, f1, f2⟩ := e
  refine ⟨?_, ?_, ?_, ?_, ?_, ?_⟩
  all_goals first | (simp [go_sem, *]; done) | (rw [World.cell?_setCell_other (by simp)]; assumption) | exact World.cell?_setCell_same c0
theorem ExBox.set1 {b : Nat} {w : World} {h t : Bool} {v : Value} (e : ExBox b w h t v) (u : Bool) : ExBox b (w.setCell ⟨b, 1, none⟩ (.bool u)) h u v := by
  obtain ⟨c0, c1, c2, f0, f1, f2⟩ := e
  refine ⟨?_, ?_, ?_, ?_, ?_, ?_⟩
  all_goals first | (simp [go_sem, *]; done) | (rw [World.cell?_setCell_other (by simp)]; assumption) | exact World.cell?_setCell_same c1
theorem ExBox.set2 {b : Nat} {w : World} {h t : Bool} {v : Value} (e : ExBox b w h t v) (u : Value) : ExBox b (w.setCell ⟨b, 2, none⟩ u) h t u := by
  obtain ⟨c0, c1, c2, f0, f1, f2⟩ := e
  refine ⟨?_, ?_, ?_, ?_, ?_, ?_⟩
  all_goals first | (simp [go_sem, *]; done) | (rw [World.cell?_setCell_other (by simp)]; assumption) | exact World.cell?_setCell_same c2
/-- all that 'expression' holds -/
structure EInv (w wr : World) (hd tl : Bool) (v : Value) (L : List IV) : Prop where
  res : ExBox w.heap.size wr false false (.slice none 0 0)
  box : ExBox (w.heap.size + 1) wr hd tl v
  own : wr.ownsRow (w.heap.size + 2) 127 5 v L.length (ivsC L)
  ok : ∀ x ∈ L, IVok (w.heap.size + 2) wr x
  below : Below w.heap.size w wr
  size : w.heap.size + 2 ≤ wr.heap.size
theorem IVok.below {B : Nat} {w w' : World} {x : IV} (h : IVok B w x) (hb : Below w.heap.size w w') : IVok B w' x := ⟨ownsRow_below h.f hb, ownsRow_below h.k hb, h.ap⟩
theorem EInv.keep {w wr w' : World} {hd tl : Bool} {v : Value} {L : List IV} (h : EInv w wr hd tl v L) (hb : Below wr.heap.size wr w') : EInv w w' hd tl v L := by
  have hs := h.size
  have hs2 := hb.size
  exact ⟨h.res.keep (hb.block _ (by omega)), h.box.keep (hb.block _ (by omega)), ownsRow_below h.own hb, fun x hx => (h.ok x hx).below hb, h.below.trans (hb.mono (by omega)), by omega⟩
theorem EInv.set0 {w wr : World} {hd tl : Bool} {v : Value} {L : List IV} (h : EInv w wr hd tl v L) (u : Bool) : EInv w (wr.setCell ⟨w.heap.size + 1, 0, none⟩ (.bool u)) u tl v L :=
  ⟨h.res.keep (heap_setCell_other _ _ _ _ (by simp)), h.box.set0 u, ownsRow_setCell_below h.own (by simp) _, fun x hx => (h.ok x hx).set (by simp) _, h.below.setCell (by simp) _, by simpa using h.size⟩
theorem EInv.set1 {w wr : World} {hd tl : Bool} {v : Value} {L : List IV} (h : EInv w wr hd tl v L) (u : Bool) : EInv w (wr.setCell ⟨w.heap.size + 1, 1, none⟩ (.bool u)) hd u v L :=
  ⟨h.res.keep (heap_setCell_other _ _ _ _ (by simp)), h.box.set1 u, ownsRow_setCell_below h.own (by simp) _, fun x hx => (h.ok x hx).set (by simp) _, h.below.setCell (by simp) _, by simpa using h.size⟩
theorem EInv.grow {w wr w3 : World} {hd tl : Bool} {v v' : Value} {L : List IV} {o : Obj} {x : IV} (h : EInv w wr hd tl v L) (hx : IVok (w.heap.size + 2) wr x)
    (hown : w3.ownsRow (w.heap.size + 2) 127 5 v' (L.length + 1) (ivsC L ++ ivC x)) (hg : (wr.alloc o).grownBy w3 v.ownBlock) :
    ExBox (w.heap.size + 1) w3 hd tl v ∧ EInv w (w3.setCell ⟨w.heap.size + 1, 2, none⟩ v') hd tl v' (L ++ [x]) := by
  have hs := h.size
  have hs3 := hg.size
  simp at hs3
  have hk : ∀ k, k < w.heap.size + 2 → w3.heap[k]? = wr.heap[k]? := fun k hk => by
    rw [hg.block k (by simp; omega) (fun e => by have := (h.own.lt k e.symm).1; omega), Below.heap_alloc _ _ _ (by omega)]
  have hb := h.box.keep (hk _ (by omega))
  have hr := h.res.keep (hk _ (by omega))
  have hiv : ∀ y, IVok (w.heap.size + 2) wr y → IVok (w.heap.size + 2) w3 y := fun y hy =>
    ⟨(hy.f.alloc o).kept hg (rows_apart2 hy.f h.own (by decide)), (hy.k.alloc o).kept hg (rows_apart2 hy.k h.own (by decide)), hy.ap⟩
  refine ⟨hb, hr.keep (heap_setCell_other _ _ _ _ (by simp)), hb.set2 _, ?_, ?_, ?_, by simp; omega⟩
  · rw [← ivsC_snoc] at hown
    rw [List.length_append]
    exact ownsRow_setCell_below hown (by simp) _
  · intro y hy
    rcases List.mem_append.1 hy with hy | hy
    · exact (hiv y (h.ok y hy)).set (by simp) _
    · simp at hy; rw [hy]; exact (hiv x hx).set (by simp) _
  · exact ((h.below.alloc (by omega) _).grown hg (by simp; omega) (fun k hk => by have := (h.own.lt k hk).1; omega)).setCell (by simp) _
theorem EInv.fin {w wr : World} {hd tl : Bool} {v : Value} {L : List IV} (h : EInv w wr hd tl v L) :
    ((((wr.setCell ⟨w.heap.size, 0, none⟩ (.bool hd)).setCell ⟨w.heap.size, 1, none⟩ (.bool tl)).setCell ⟨w.heap.size, 2, none⟩ v)).ownsRow w.heap.size 127 5 v L.length (ivsC L) ∧
    (∀ x ∈ L, IVok w.heap.size (((wr.setCell ⟨w.heap.size, 0, none⟩ (.bool hd)).setCell ⟨w.heap.size, 1, none⟩ (.bool tl)).setCell ⟨w.heap.size, 2, none⟩ v) x) ∧
    Below w.heap.size w (((wr.setCell ⟨w.heap.size, 0, none⟩ (.bool hd)).setCell ⟨w.heap.size, 1, none⟩ (.bool tl)).setCell ⟨w.heap.size, 2, none⟩ v) := by
  refine ⟨ownsRow_base (ownsRow_setCell_below (ownsRow_setCell_below (ownsRow_setCell_below h.own (by simp) _) (by simp) _) (by simp) _) (by omega), fun x hx => ?_, ((h.below.setCell (by simp) _).setCell (by simp) _).setCell (by simp) _⟩
  have t := (((h.ok x hx).set (a := ⟨w.heap.size, 0, none⟩) (by simp) (.bool hd)).set (a := ⟨w.heap.size, 1, none⟩) (by simp) (.bool tl)).set (a := ⟨w.heap.size, 2, none⟩) (by simp) v
  exact ⟨ownsRow_base t.f (by omega), ownsRow_base t.k (by omega), t.ap⟩
/-- what 'expression' answers -/
def ExpPost (l : List Mk) (w w' : World) (e : Ending) : Prop :=
  ∃ (hd tl : Bool) (a : Option Addr) (n c : Nat), Below w.heap.size w w' ∧
    ((expM l = none ∧ e = .returned (.tuple #[.agg #[.bool hd, .bool tl, .slice a n c], .bool false])) ∨
     ∃ L : List IV, expM l = some ⟨hd, tl, L.map IV.it⟩ ∧ n = L.length ∧ e = .returned (.tuple #[.agg #[.bool hd, .bool tl, .slice a n c], .bool true]) ∧ w'.ownsRow w.heap.size 127 5 (.slice a n c) L.length (ivsC L) ∧ (∀ x ∈ L, IVok w.heap.size w' x) ∧ L.length ≤ l.length)
end Go.Proofs.Ytlppphmnegdhoaa
