/-
  The document's expressions: an item in memory; the members of a set.
-/
import Derived.Test.YtlppphmnegdhoaaFx2
namespace Go.Proofs.Ytlppphmnegdhoaa
set_option linter.unusedVariables false
set_option maxRecDepth 100000
open Go.RowKit
open M

theorem mem_close (m : Mk) (t : List Mk) (acc : List (Nat × Nat)) (h : m.is 93 = true) : membersM (m :: t) acc = if acc = [] then none else some (acc, t) := by
  match t with
  | [] => simp [membersM, h]
  | [d] => simp [membersM, h]
  | d :: e :: v => simp [membersM, h]
theorem mem_dash (m : Mk) (t : List Mk) (acc : List (Nat × Nat)) (h : m.is 93 = false) (h2 : m.is 45 = true) : membersM (m :: t) acc = none := by
  match t with
  | [] => simp [membersM, h]
  | [d] => simp [membersM, h, h2]
  | d :: e :: v => simp [membersM, h, h2]
theorem mem_one (m : Mk) (t : List Mk) (acc : List (Nat × Nat)) (h : m.is 93 = false) (h2 : m.is 45 = false) (h3 : ∀ d u, t = d :: u → d.is 45 = false) : membersM (m :: t) acc = membersM t (acc ++ [(m.b, m.b)]) := by
  match t, h3 with
  | [], _ => simp [membersM, h]
  | [d], h3 => have := h3 d [] rfl; simp [membersM, h, h2, this]
  | d :: e :: v, h3 => have := h3 d (e :: v) rfl; simp [membersM, h, h2, this]
theorem mem_range0 (m d : Mk) (acc : List (Nat × Nat)) (h : m.is 93 = false) (h2 : m.is 45 = false) (h3 : d.is 45 = true) : membersM [m, d] acc = none := by
  simp [membersM, h, h2, h3]
theorem mem_range (m d e : Mk) (v : List Mk) (acc : List (Nat × Nat)) (h : m.is 93 = false) (h2 : m.is 45 = false) (h3 : d.is 45 = true) : membersM (m :: d :: e :: v) acc = if e.is 93 || e.is 45 || decide (e.b < m.b) then none else membersM v (acc ++ [(m.b, e.b)]) := by
  rw [membersM]; simp [h, h2, h3]
/-- the rest is an end of the marks -/
theorem mem_rest : ∀ (t : List Mk) (acc acc' : List (Nat × Nat)) (r : List Mk), membersM t acc = some (acc', r) → ∃ q, q ≤ t.length ∧ r = t.drop q
  | [], acc, acc', r, h => by simp [membersM] at h
  | m :: t, acc, acc', r, h => by
    cases h1 : m.is 93
    · cases h2 : m.is 45
      · by_cases h3 : ∀ d u, t = d :: u → d.is 45 = false
        · rw [mem_one m t acc h1 h2 h3] at h
          obtain ⟨q, hq, hr⟩ := mem_rest t _ _ _ h
          exact ⟨q + 1, by simp; omega, by rw [hr]; rfl⟩
        · match t, h3 with
          | [], h3 => exact absurd (fun d u e => by cases e) h3
          | d :: u, h3 =>
            have hd : d.is 45 = true := by
              cases hd : d.is 45
              · exact absurd (fun d' u' e => by simp at e; rw [← e.1]; exact hd) h3
              · rfl
            match u with
            | [] => rw [mem_range0 m d acc h1 h2 hd] at h; cases h
            | e :: v =>
              rw [mem_range m d e v acc h1 h2 hd] at h
              split at h
              · cases h
              · obtain ⟨q, hq, hr⟩ := mem_rest v _ _ _ h
                exact ⟨q + 3, by simp; omega, by rw [hr]; rfl⟩
      · rw [mem_dash m t acc h1 h2] at h; cases h
    · rw [mem_close m t acc h1] at h
      split at h
      · cases h
      · simp at h
        exact ⟨1, by simp, by rw [← h.2]; rfl⟩
termination_by t => t.length

/-- an item's five cells -/
structure ItBox (b : Nat) (w : World) (a n s : Bool) (vf vb : Value) : Prop where
  c0 : w.cell? ⟨b, 0, none⟩ = some (.bool a)
  c1 : w.cell? ⟨b, 1, none⟩ = some (.bool n)
  c2 : w.cell? ⟨b, 2, none⟩ = some (.bool s)
  c3 : w.cell? ⟨b, 3, none⟩ = some vf
  c4 : w.cell? ⟨b, 4, none⟩ = some vb
  f0 : w.frozen? ⟨b, 0, none⟩ = false
  f1 : w.frozen? ⟨b, 1, none⟩ = false
  f2 : w.frozen? ⟨b, 2, none⟩ = false
  f3 : w.frozen? ⟨b, 3, none⟩ = false
  f4 : w.frozen? ⟨b, 4, none⟩ = false
theorem ItBox.keep {b : Nat} {w w' : World} {a n s : Bool} {vf vb : Value} (h : ItBox b w a n s vf vb) (hk : w'.heap[b]? = w.heap[b]?) : ItBox b w' a n s vf vb := by
  have hc : ∀ o, w'.cell? ⟨b, o, none⟩ = w.cell? ⟨b, o, none⟩ := fun o => World.cell?_of_block hk
  have hf : ∀ o, w'.frozen? ⟨b, o, none⟩ = w.frozen? ⟨b, o, none⟩ := fun o => World.frozen?_of_block hk
  exact ⟨(hc _).trans h.c0, (hc _).trans h.c1, (hc _).trans h.c2, (hc _).trans h.c3, (hc _).trans h.c4, (hf _).trans h.f0, (hf _).trans h.f1, (hf _).trans h.f2, (hf _).trans h.f3, (hf _).trans h.f4⟩
theorem ItBox.set1 {b : Nat} {w : World} {a n s : Bool} {vf vb : Value} (h : ItBox b w a n s vf vb) (u : Bool) : ItBox b (w.setCell ⟨b, 1, none⟩ (.bool u)) a u s vf vb := by
  obtain ⟨c0, c1, c2, c3, c4, f0, f1, f2, f3, f4⟩ := h
  refine ⟨?_, ?_, ?_, ?_, ?_, ?_, ?_, ?_, ?_, ?_⟩
  all_goals first | (simp [go_sem, *]; done) | (rw [World.cell?_setCell_other (by simp)]; assumption) | exact World.cell?_setCell_same c1
theorem ItBox.set3 {b : Nat} {w : World} {a n s : Bool} {vf vb : Value} (h : ItBox b w a n s vf vb) (u : Value) : ItBox b (w.setCell ⟨b, 3, none⟩ u) a n s u vb := by
  obtain ⟨c0, c1, c2, c3, c4, f0, f1, f2, f3, f4⟩ := h
  refine ⟨?_, ?_, ?_, ?_, ?_, ?_, ?_, ?_, ?_, ?_⟩
  all_goals first | (simp [go_sem, *]; done) | (rw [World.cell?_setCell_other (by simp)]; assumption) | exact World.cell?_setCell_same c3
theorem ItBox.set4 {b : Nat} {w : World} {a n s : Bool} {vf vb : Value} (h : ItBox b w a n s vf vb) (u : Value) : ItBox b (w.setCell ⟨b, 4, none⟩ u) a n s vf u := by
  obtain ⟨c0, c1, c2, c3, c4, f0, f1, f2, f3, f4⟩ := h
  refine ⟨?_, ?_, ?_, ?_, ?_, ?_, ?_, ?_, ?_, ?_⟩
  all_goals first | (simp [go_sem, *]; done) | (rw [World.cell?_setCell_other (by simp)]; assumption) | exact World.cell?_setCell_same c4
def los (l : List (Nat × Nat)) : List Int := l.map fun r => (r.1 : Int)
def his (l : List (Nat × Nat)) : List Int := l.map fun r => (r.2 : Int)
theorem los_snoc (l : List (Nat × Nat)) (r : Nat × Nat) : los (l ++ [r]) = los l ++ [(r.1 : Int)] := by simp [los]
theorem his_snoc (l : List (Nat × Nat)) (r : Nat × Nat) : his (l ++ [r]) = his l ++ [(r.2 : Int)] := by simp [his]
/-- all that 'members' holds -/
structure MInv (w wr : World) (nt : Bool) (vf vb : Value) (F K : List Int) : Prop where
  res : ItBox w.heap.size wr false false false (.slice none 0 0) (.slice none 0 0)
  box : ItBox (w.heap.size + 1) wr false nt false vf vb
  twin : Twin (w.heap.size + 2) wr vf vb F K
  below : Below w.heap.size w wr
  size : w.heap.size + 2 ≤ wr.heap.size
theorem MInv.keep {w wr w' : World} {nt : Bool} {vf vb : Value} {F K : List Int} (h : MInv w wr nt vf vb F K) (hb : Below wr.heap.size wr w') : MInv w w' nt vf vb F K := by
  have hs := h.size
  have hs2 := hb.size
  exact ⟨h.res.keep (hb.block _ (by omega)), h.box.keep (hb.block _ (by omega)), ⟨ownsRow_below h.twin.f hb, ownsRow_below h.twin.k hb, h.twin.ap⟩, h.below.trans (hb.mono (by omega)), by omega⟩
theorem MInv.grow0 {w wr w3 : World} {nt : Bool} {vf vb : Value} {F K : List Int} {o : Obj} {g cap : Nat} {x : Int} (h : MInv w wr nt vf vb F K)
    (hown : w3.ownsRow (w.heap.size + 2) 3 1 (.slice (some ⟨g, 0, none⟩) (F.length + 1) cap) (F.length + 1) (intC F ++ [.int .i64 x])) (hg : (wr.alloc o).grownBy w3 vf.ownBlock) (hat : vf.ownBlock = some g ∨ g = wr.heap.size + 1) :
    ItBox (w.heap.size + 1) w3 false nt false vf vb ∧ MInv w (w3.setCell ⟨w.heap.size + 1, 3, none⟩ (.slice (some ⟨g, 0, none⟩) (F.length + 1) cap)) nt (.slice (some ⟨g, 0, none⟩) (F.length + 1) cap) vb (F ++ [x]) K := by
  have hk := grow_keep h.twin.f h.size hg
  have hb := h.box.keep (hk (w.heap.size + 1) (by omega))
  have hr := h.res.keep (hk w.heap.size (by omega))
  refine ⟨hb, hr.keep (heap_setCell_other _ _ _ _ (by simp)), hb.set3 _, (h.twin.grow hown hg hat).set (by simp) _, ?_, ?_⟩
  · exact ((h.below.alloc (by have := h.size; omega) _).grown hg (by have := h.size; simp; omega) (fun k hk => by have := (h.twin.f.lt k hk).1; omega)).setCell (by simp) _
  · have := hg.size; have := h.size; simp at *; omega
theorem MInv.grow1 {w wr w3 : World} {nt : Bool} {vf vb : Value} {F K : List Int} {o : Obj} {g cap : Nat} {x : Int} (h : MInv w wr nt vf vb F K)
    (hown : w3.ownsRow (w.heap.size + 2) 3 1 (.slice (some ⟨g, 0, none⟩) (K.length + 1) cap) (K.length + 1) (intC K ++ [.int .i64 x])) (hg : (wr.alloc o).grownBy w3 vb.ownBlock) (hat : vb.ownBlock = some g ∨ g = wr.heap.size + 1) :
    ItBox (w.heap.size + 1) w3 false nt false vf vb ∧ MInv w (w3.setCell ⟨w.heap.size + 1, 4, none⟩ (.slice (some ⟨g, 0, none⟩) (K.length + 1) cap)) nt vf (.slice (some ⟨g, 0, none⟩) (K.length + 1) cap) F (K ++ [x]) := by
  have hk := grow_keep h.twin.k h.size hg
  have hb := h.box.keep (hk (w.heap.size + 1) (by omega))
  have hr := h.res.keep (hk w.heap.size (by omega))
  refine ⟨hb, hr.keep (heap_setCell_other _ _ _ _ (by simp)), hb.set4 _, (h.twin.swap.grow hown hg hat).swap.set (by simp) _, ?_, ?_⟩
  · exact ((h.below.alloc (by have := h.size; omega) _).grown hg (by have := h.size; simp; omega) (fun k hk => by have := (h.twin.k.lt k hk).1; omega)).setCell (by simp) _
  · have := hg.size; have := h.size; simp at *; omega
end Go.Proofs.Ytlppphmnegdhoaa
