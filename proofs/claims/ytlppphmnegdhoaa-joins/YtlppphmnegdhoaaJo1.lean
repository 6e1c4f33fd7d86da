/-
  The document's places: 'joined': what its loops hold.
-/
import Derived.Test.YtlppphmnegdhoaaSh1
import Derived.Deep.DeepCutAuto
namespace Go.Proofs.Ytlppphmnegdhoaa
set_option linter.unusedVariables false
open Go.RowKit
open M

/-- four boxes: the two arguments, the answer (empty yet), the places that are made -/
structure JBox (b : Nat) (w : World) (xf xb yf yb vf vb : Value) : Prop where
  a0 : w.cell? ⟨b, 0, none⟩ = some xf
  a1 : w.cell? ⟨b, 1, none⟩ = some xb
  c0 : w.cell? ⟨b + 1, 0, none⟩ = some yf
  c1 : w.cell? ⟨b + 1, 1, none⟩ = some yb
  r0 : w.cell? ⟨b + 2, 0, none⟩ = some (.slice none 0 0)
  r1 : w.cell? ⟨b + 2, 1, none⟩ = some (.slice none 0 0)
  f0 : w.frozen? ⟨b + 2, 0, none⟩ = false
  f1 : w.frozen? ⟨b + 2, 1, none⟩ = false
  x0 : w.cell? ⟨b + 3, 0, none⟩ = some vf
  x1 : w.cell? ⟨b + 3, 1, none⟩ = some vb
  g0 : w.frozen? ⟨b + 3, 0, none⟩ = false
  g1 : w.frozen? ⟨b + 3, 1, none⟩ = false
theorem JBox.keep {b : Nat} {w w' : World} {xf xb yf yb vf vb : Value} (h : JBox b w xf xb yf yb vf vb) (hk : ∀ k, k < b + 4 → w'.heap[k]? = w.heap[k]?) : JBox b w' xf xb yf yb vf vb := by
  have hc : ∀ k o, k < b + 4 → w'.cell? ⟨k, o, none⟩ = w.cell? ⟨k, o, none⟩ := fun k o hk2 => World.cell?_of_block (hk k hk2)
  have hf : ∀ k o, k < b + 4 → w'.frozen? ⟨k, o, none⟩ = w.frozen? ⟨k, o, none⟩ := fun k o hk2 => World.frozen?_of_block (hk k hk2)
  have l0 : b < b + 4 := by omega
  have l1 : b + 1 < b + 4 := by omega
  have l2 : b + 2 < b + 4 := by omega
  have l3 : b + 3 < b + 4 := by omega
  exact ⟨(hc _ _ l0).trans h.a0, (hc _ _ l0).trans h.a1, (hc _ _ l1).trans h.c0, (hc _ _ l1).trans h.c1, (hc _ _ l2).trans h.r0, (hc _ _ l2).trans h.r1, (hf _ _ l2).trans h.f0, (hf _ _ l2).trans h.f1, (hc _ _ l3).trans h.x0, (hc _ _ l3).trans h.x1, (hf _ _ l3).trans h.g0, (hf _ _ l3).trans h.g1⟩
theorem JBox.set0 {b : Nat} {w : World} {xf xb yf yb vf vb : Value} (h : JBox b w xf xb yf yb vf vb) (u : Value) : JBox b (w.setCell ⟨b + 3, 0, none⟩ u) xf xb yf yb u vb := by
  obtain ⟨a0, a1, c0, c1, r0, r1, f0, f1, x0, x1, g0, g1⟩ := h
  refine ⟨?_, ?_, ?_, ?_, ?_, ?_, ?_, ?_, ?_, ?_, ?_, ?_⟩
  all_goals first | (simp [go_sem, *]; done) | (rw [World.cell?_setCell_other (by simp)]; assumption) | exact World.cell?_setCell_same x0
theorem JBox.set1 {b : Nat} {w : World} {xf xb yf yb vf vb : Value} (h : JBox b w xf xb yf yb vf vb) (u : Value) : JBox b (w.setCell ⟨b + 3, 1, none⟩ u) xf xb yf yb vf u := by
  obtain ⟨a0, a1, c0, c1, r0, r1, f0, f1, x0, x1, g0, g1⟩ := h
  refine ⟨?_, ?_, ?_, ?_, ?_, ?_, ?_, ?_, ?_, ?_, ?_, ?_⟩
  all_goals first | (simp [go_sem, *]; done) | (rw [World.cell?_setCell_other (by simp)]; assumption) | exact World.cell?_setCell_same x1
structure JInv (w wr : World) (xf xb yf yb vf vb : Value) (F K : List Int) : Prop where
  box : JBox w.heap.size wr xf xb yf yb vf vb
  twin : Twin (w.heap.size + 4) wr vf vb F K
  below : Below w.heap.size w wr
  size : w.heap.size + 4 ≤ wr.heap.size
theorem JInv.drew {w wr : World} {xf xb yf yb vf vb : Value} {F K : List Int} (h : JInv w wr xf xb yf yb vf vb F K) (n : Nat) : JInv w (wr.drewN n) xf xb yf yb vf vb F K :=
  ⟨h.box.keep (fun k _ => rfl), ⟨h.twin.f, h.twin.k, h.twin.ap⟩, below_drewN h.below n, h.size⟩
theorem grow_keep4 {wr w3 : World} {o : Obj} {v : Value} {b : Nat} {n : Nat} {xs : List Value} (hown : wr.ownsRow (b + 4) 3 1 v n xs) (hs : b + 4 ≤ wr.heap.size) (hgrow : (wr.alloc o).grownBy w3 v.ownBlock) : ∀ k, k < b + 4 → w3.heap[k]? = wr.heap[k]? := fun k hk => by
  rw [hgrow.block k (by simp; omega) (fun e => by have := (hown.lt k e.symm).1; omega), Below.heap_alloc _ _ _ (by omega)]
theorem JInv.grow0 {w wr w3 : World} {xf xb yf yb vf vb : Value} {F K : List Int} {o : Obj} {g cap : Nat} {x : Int} (h : JInv w wr xf xb yf yb vf vb F K)
    (hown : w3.ownsRow (w.heap.size + 4) 3 1 (.slice (some ⟨g, 0, none⟩) (F.length + 1) cap) (F.length + 1) (intC F ++ [.int .i64 x])) (hg : (wr.alloc o).grownBy w3 vf.ownBlock) (hat : vf.ownBlock = some g ∨ g = wr.heap.size + 1) :
    JBox w.heap.size w3 xf xb yf yb vf vb ∧ JInv w (w3.setCell ⟨w.heap.size + 3, 0, none⟩ (.slice (some ⟨g, 0, none⟩) (F.length + 1) cap)) xf xb yf yb (.slice (some ⟨g, 0, none⟩) (F.length + 1) cap) vb (F ++ [x]) K := by
  have hb := h.box.keep (grow_keep4 h.twin.f h.size hg)
  refine ⟨hb, hb.set0 _, (h.twin.grow hown hg hat).set (by simp) _, ?_, ?_⟩
  · exact ((h.below.alloc (by have := h.size; omega) _).grown hg (by have := h.size; simp; omega) (fun k hk => by have := (h.twin.f.lt k hk).1; omega)).setCell (by simp) _
  · have := hg.size; have := h.size; simp at *; omega
theorem JInv.grow1 {w wr w3 : World} {xf xb yf yb vf vb : Value} {F K : List Int} {o : Obj} {g cap : Nat} {x : Int} (h : JInv w wr xf xb yf yb vf vb F K)
    (hown : w3.ownsRow (w.heap.size + 4) 3 1 (.slice (some ⟨g, 0, none⟩) (K.length + 1) cap) (K.length + 1) (intC K ++ [.int .i64 x])) (hg : (wr.alloc o).grownBy w3 vb.ownBlock) (hat : vb.ownBlock = some g ∨ g = wr.heap.size + 1) :
    JBox w.heap.size w3 xf xb yf yb vf vb ∧ JInv w (w3.setCell ⟨w.heap.size + 3, 1, none⟩ (.slice (some ⟨g, 0, none⟩) (K.length + 1) cap)) xf xb yf yb vf (.slice (some ⟨g, 0, none⟩) (K.length + 1) cap) F (K ++ [x]) := by
  have hb := h.box.keep (grow_keep4 h.twin.k h.size hg)
  refine ⟨hb, hb.set1 _, (h.twin.swap.grow hown hg hat).swap.set (by simp) _, ?_, ?_⟩
  · exact ((h.below.alloc (by have := h.size; omega) _).grown hg (by have := h.size; simp; omega) (fun k hk => by have := (h.twin.k.lt k hk).1; omega)).setCell (by simp) _
  · have := hg.size; have := h.size; simp at *; omega
theorem intC_set (l : List Int) (i : Nat) (x : Int) : (intC l).set i (.int .i64 x) = intC (l.set i x) := by simp [intC, List.map_set]
/-- a number is written into Back -/
theorem JInv.put1 {w wr : World} {xf xb yf yb vf : Value} {g cap i : Nat} {F K : List Int} {x : Int} (h : JInv w wr xf xb yf yb vf (.slice (some ⟨g, 0, none⟩) K.length cap) F K) :
    JInv w (wr.setCell ⟨g, i, none⟩ (.int .i64 x)) xf xb yf yb vf (.slice (some ⟨g, 0, none⟩) K.length cap) F (K.set i x) := by
  have hg := h.twin.k.lt g rfl
  obtain ⟨s1, s2⟩ := h.twin.k.stored i (.int .i64 x)
  rw [intC_set] at s1
  refine ⟨h.box.keep (fun k hk => s2.block k (by have := h.size; omega) (fun e => by simp at e; omega)), ⟨?_, ?_, h.twin.ap⟩, ?_, ?_⟩
  · exact h.twin.f.kept s2 (by
      cases hv : vf.ownBlock with
      | none => exact .inl rfl
      | some q => exact .inr (fun e => h.twin.ap q hv (by simp at e; simp [Value.ownBlock, e])))
  · rw [List.length_set]; exact s1
  · exact h.below.grown s2 (by have := h.size; omega) (fun k hk => by simp at hk; omega)
  · have := s2.size; have := h.size; omega
/-- what 'joined' answers -/
def JoinedPost (es fs : List Ev) (w w' : World) (e : Ending) : Prop :=
  ∃ vf vb, e = .returned (.agg #[vf, vb]) ∧ Twin w.heap.size w' vf vb (evF 0 (joinE es fs)) (evK (joinE es fs)) ∧ Below w.heap.size w w'
theorem from_lt (es fs : List Ev) (h : evB es = evA fs) (i : Nat) (hi : i < (evF 0 fs).length) : (evF 0 fs)[i] < ((evF 0 es).length : Int) := by
  have := evF_lt fs 0 _ (List.getElem_mem hi)
  rw [evF_len]
  omega
theorem from_lt2 (es : List Ev) (i : Nat) (hi : i < (evF 0 es).length) : (evF 0 es)[i] < ((evK es).length : Int) := by
  have := evF_lt es 0 _ (List.getElem_mem hi)
  rw [evK_len]
  omega
theorem from_ge (es : List Ev) (i : Nat) (hi : i < (evF 0 es).length) : (evF 0 es)[i] = -1 ∨ 0 ≤ (evF 0 es)[i] := by
  have := evF_ge es 0 _ (List.getElem_mem hi)
  omega
end Go.Proofs.Ytlppphmnegdhoaa
