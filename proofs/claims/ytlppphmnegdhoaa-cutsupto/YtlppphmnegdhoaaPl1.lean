/-
  The program's growing short list: its box, its two rows, 'settle'.
-/
import Derived.Test.YtlppphmnegdhoaaSh1
import Derived.Test.YtlppphmnegdhoaaUnd1
import Derived.Test.YtlppphmnegdhoaaPl0
import Derived.Deep.DeepCutAuto
import Derived.Deep.AppendLies
import Derived.Deep.RegionLaw
namespace Go.Proofs.Ytlppphmnegdhoaa
set_option linter.unusedVariables false
open Go.RowKit
open M

def bytC (A : List UInt8) : List Value := A.map fun b => .int .u8 (b.toNat : Int)
structure SLBox (b : Nat) (w : World) (vo : Value) (m d : Nat) (vr : Value) : Prop where
  c0 : w.cell? ⟨b, 0, none⟩ = some vo
  c1 : w.cell? ⟨b, 1, none⟩ = some (.int .i64 m)
  c2 : w.cell? ⟨b, 2, none⟩ = some (.int .i64 d)
  c3 : w.cell? ⟨b, 3, none⟩ = some vr
  f0 : w.frozen? ⟨b, 0, none⟩ = false
  f1 : w.frozen? ⟨b, 1, none⟩ = false
  f2 : w.frozen? ⟨b, 2, none⟩ = false
  f3 : w.frozen? ⟨b, 3, none⟩ = false
theorem SLBox.keep {b : Nat} {w w' : World} {vo vr : Value} {m d : Nat} (h : SLBox b w vo m d vr) (hk : w'.heap[b]? = w.heap[b]?) : SLBox b w' vo m d vr := by
  have hc : ∀ o, w'.cell? ⟨b, o, none⟩ = w.cell? ⟨b, o, none⟩ := fun o => World.cell?_of_block hk
  have hf : ∀ o, w'.frozen? ⟨b, o, none⟩ = w.frozen? ⟨b, o, none⟩ := fun o => World.frozen?_of_block hk
  exact ⟨(hc _).trans h.c0, (hc _).trans h.c1, (hc _).trans h.c2, (hc _).trans h.c3, (hf _).trans h.f0, (hf _).trans h.f1, (hf _).trans h.f2, (hf _).trans h.f3⟩
theorem SLBox.set0 {b : Nat} {w : World} {vo vr : Value} {m d : Nat} (h : SLBox b w vo m d vr) (u : Value) : SLBox b (w.setCell ⟨b, 0, none⟩ u) u m d vr := by
  obtain ⟨c0, c1, c2, c3, f0, f1, f2, f3⟩ := h
  refine ⟨?_, ?_, ?_, ?_, ?_, ?_, ?_, ?_⟩
  all_goals first | (simp [go_sem, *]; done) | (rw [World.cell?_setCell_other (by simp)]; assumption) | exact World.cell?_setCell_same c0
theorem SLBox.set1 {b : Nat} {w : World} {vo vr : Value} {m d : Nat} (h : SLBox b w vo m d vr) (u : Nat) : SLBox b (w.setCell ⟨b, 1, none⟩ (.int .i64 u)) vo u d vr := by
  obtain ⟨c0, c1, c2, c3, f0, f1, f2, f3⟩ := h
  refine ⟨?_, ?_, ?_, ?_, ?_, ?_, ?_, ?_⟩
  all_goals first | (simp [go_sem, *]; done) | (rw [World.cell?_setCell_other (by simp)]; assumption) | exact World.cell?_setCell_same c1
theorem SLBox.set2 {b : Nat} {w : World} {vo vr : Value} {m d : Nat} (h : SLBox b w vo m d vr) (u : Nat) : SLBox b (w.setCell ⟨b, 2, none⟩ (.int .i64 u)) vo m u vr := by
  obtain ⟨c0, c1, c2, c3, f0, f1, f2, f3⟩ := h
  refine ⟨?_, ?_, ?_, ?_, ?_, ?_, ?_, ?_⟩
  all_goals first | (simp [go_sem, *]; done) | (rw [World.cell?_setCell_other (by simp)]; assumption) | exact World.cell?_setCell_same c2
theorem SLBox.set3 {b : Nat} {w : World} {vo vr : Value} {m d : Nat} (h : SLBox b w vo m d vr) (u : Value) : SLBox b (w.setCell ⟨b, 3, none⟩ u) vo m d u := by
  obtain ⟨c0, c1, c2, c3, f0, f1, f2, f3⟩ := h
  refine ⟨?_, ?_, ?_, ?_, ?_, ?_, ?_, ?_⟩
  all_goals first | (simp [go_sem, *]; done) | (rw [World.cell?_setCell_other (by simp)]; assumption) | exact World.cell?_setCell_same c3

/-- a growing short list in memory -/
structure SLAt (b : Nat) (w : World) (S : SL) (vo vr : Value) : Prop where
  box : SLBox b w vo S.m S.d vr
  out : w.ownsRow (b + 1) 57 3 vo S.out.length (recsC S.out)
  s : w.ownsRow (b + 1) 5 1 vr S.s.length (bytC S.s)
  lt : b < w.heap.size
theorem rows_apart {w : World} {B1 B2 : Nat} {e1 e2 : TypeId} {s1 s2 : Nat} {v1 v2 : Value} {n1 n2 : Nat} {x1 x2 : List Value} (h1 : w.ownsRow B1 e1 s1 v1 n1 x1) (h2 : w.ownsRow B2 e2 s2 v2 n2 x2) (hne : e1 ≠ e2) : v1.ownBlock = none ∨ v1.ownBlock ≠ v2.ownBlock := by
  rcases h1.2 with ⟨rfl, _⟩ | ⟨g, cap, cur, rfl, hb, hg, _⟩
  · exact .inl rfl
  · right
    rcases h2.2 with ⟨rfl, _⟩ | ⟨g', cap', cur', rfl, hb', hg', _⟩
    · simp [Value.ownBlock]
    · intro e
      simp [Value.ownBlock] at e
      subst e
      rw [hg] at hg'
      simp at hg'
      exact hne hg'.2
theorem SLAt.keep {b : Nat} {w w' : World} {S : SL} {vo vr : Value} (h : SLAt b w S vo vr) (hb : Below w.heap.size w w') : SLAt b w' S vo vr :=
  ⟨h.box.keep (hb.block b h.lt), ownsRow_below h.out hb, ownsRow_below h.s hb, by have := hb.size; have := h.lt; omega⟩
theorem SLAt.alloc {b : Nat} {w : World} {S : SL} {vo vr : Value} (h : SLAt b w S vo vr) (o : Obj) : SLAt b (w.alloc o) S vo vr :=
  h.keep ((Below.refl w.heap.size w).alloc (Nat.le_refl _) o)
theorem SLAt.setFar {b : Nat} {w : World} {S : SL} {vo vr : Value} (h : SLAt b w S vo vr) {a : Addr} (ha : a.block < b) (u : Value) : SLAt b (w.setCell a u) S vo vr := by
  refine ⟨h.box.keep ?_, ownsRow_setCell_below h.out (by omega) u, ownsRow_setCell_below h.s (by omega) u, by simpa using h.lt⟩
  exact heap_setCell_other w a b u (by omega)
/-- what else is as it was: all but the box and the row of records; where that row lies now -/
def Fr (b : Nat) (vo : Value) (w w' : World) (vo' : Value) : Prop :=
  (∀ k, k < w.heap.size → k ≠ b → vo.ownBlock ≠ some k → w'.heap[k]? = w.heap[k]?) ∧ (vo'.ownBlock = vo.ownBlock ∨ ∃ g, vo'.ownBlock = some g ∧ w.heap.size ≤ g)
theorem Fr.refl (b : Nat) (vo : Value) (w : World) : Fr b vo w w vo := ⟨fun _ _ _ _ => rfl, .inl rfl⟩
theorem Fr.trans {b : Nat} {v0 v1 v2 : Value} {w0 w1 w2 : World} (h : Fr b v0 w0 w1 v1) (hs : w0.heap.size ≤ w1.heap.size) (g : Fr b v1 w1 w2 v2) : Fr b v0 w0 w2 v2 := by
  refine ⟨fun k hk hb hv => ?_, ?_⟩
  · rw [g.1 k (by omega) hb (fun e => ?_), h.1 k hk hb hv]
    rcases h.2 with h2 | ⟨q, h2, h3⟩
    · exact hv (h2.symm.trans e)
    · rw [h2] at e; simp at e; omega
  · rcases g.2 with g2 | ⟨q, g2, g3⟩
    · rcases h.2 with h2 | ⟨q, h2, h3⟩
      · exact .inl (g2.trans h2)
      · exact .inr ⟨q, g2.trans h2, h3⟩
    · exact .inr ⟨q, g2, by omega⟩
theorem Fr.set {b : Nat} {v0 v1 : Value} {w0 w1 : World} (h : Fr b v0 w0 w1 v1) (o : Nat) (u : Value) : Fr b v0 w0 (w1.setCell ⟨b, o, none⟩ u) v1 :=
  ⟨fun k hk hb hv => (heap_setCell_other w1 _ k u hb).trans (h.1 k hk hb hv), h.2⟩
theorem SLAt.growOut {b : Nat} {w w3 : World} {S : SL} {vo vr v' : Value} {o : Obj} {r : M.Rec} (h : SLAt b w S vo vr) (hown : w3.ownsRow (b + 1) 57 3 v' (S.out.length + 1) (recsC S.out ++ recC r)) (hg : (w.alloc o).grownBy w3 vo.ownBlock) {g : Nat} (hv : v'.ownBlock = some g) (hat : vo.ownBlock = some g ∨ g = w.heap.size + 1) :
    SLBox b w3 vo S.m S.d vr ∧ SLAt b (w3.setCell ⟨b, 0, none⟩ v') ⟨S.out ++ [r], S.m, S.d, S.s⟩ v' vr ∧ Below b w (w3.setCell ⟨b, 0, none⟩ v') ∧ Fr b vo w (w3.setCell ⟨b, 0, none⟩ v') v' := by
  have hlt := h.lt
  have hb := (h.alloc o).box.keep (hg.block b (by simp; omega) (fun e => by have := (h.out.lt b e.symm).1; omega))
  have hs := hg.size
  simp at hs
  have h3 : w3.ownsRow (b + 1) 5 1 vr S.s.length (bytC S.s) := (h.s.alloc o).kept hg (rows_apart h.s h.out (by decide))
  rw [← recsC_snoc] at hown
  refine ⟨hb, ⟨hb.set0 _, ?_, ownsRow_setCell_below h3 (by simp) _, by simp; omega⟩, ?_, Fr.set ⟨?_, ?_⟩ _ _⟩
  · rw [List.length_append]; exact ownsRow_setCell_below hown (by simp) _
  · exact (((Below.refl b w).alloc (by omega) o).grown hg (by simp; omega) (fun k hk => by have := (h.out.lt k hk).1; omega)).setCell (by simp) _
  · intro k hk hkb hkv
    rw [hg.block k (by simp; omega) (fun e => hkv e.symm), Below.heap_alloc _ _ _ hk]
  · rcases hat with hat | hat
    · exact .inl (hv.trans hat.symm)
    · exact .inr ⟨g, hv, by omega⟩
theorem SLAt.growS {b : Nat} {w w3 : World} {S : SL} {vo vr v' : Value} {t : ByteArray} (h : SLAt b w S vo vr) (hown : w3.ownsRow (b + 1) 5 1 v' (S.s.length + t.size) (bytC S.s ++ Lib.strCells t)) (hg : w.grownBy w3 vr.ownBlock) :
    SLBox b w3 vo S.m S.d vr ∧ SLAt b (w3.setCell ⟨b, 3, none⟩ v') ⟨S.out, S.m, S.d, S.s ++ t.data.toList⟩ vo v' ∧ Below b w (w3.setCell ⟨b, 3, none⟩ v') ∧ (∀ k, k < w.heap.size → k ≠ b → vr.ownBlock ≠ some k → (w3.setCell ⟨b, 3, none⟩ v').heap[k]? = w.heap[k]?) := by
  have hlt := h.lt
  have hb := h.box.keep (hg.block b (by omega) (fun e => by have := (h.s.lt b e.symm).1; omega))
  have hs := hg.size
  have h3 : w3.ownsRow (b + 1) 57 3 vo S.out.length (recsC S.out) := h.out.kept hg (rows_apart h.out h.s (by decide))
  refine ⟨hb, ⟨hb.set3 _, ownsRow_setCell_below h3 (by simp) _, ?_, by simp; omega⟩, ?_, ?_⟩
  · rw [List.length_append, ba_len]
    have e : bytC (S.s ++ t.data.toList) = bytC S.s ++ Lib.strCells t := by rw [strCells_eq]; simp [bytC]
    rw [e]
    exact ownsRow_setCell_below hown (by simp) _
  · exact ((Below.refl b w).grown hg (by omega) (fun k hk => by have := (h.s.lt k hk).1; omega)).setCell (by simp) _
  · intro k hk hkb hkv
    rw [heap_setCell_other w3 _ k _ hkb, hg.block k hk (fun e => hkv e.symm)]
theorem SLAt.setM {b : Nat} {w : World} {S : SL} {vo vr : Value} (h : SLAt b w S vo vr) (u : Nat) : SLAt b (w.setCell ⟨b, 1, none⟩ (.int .i64 u)) ⟨S.out, u, S.d, S.s⟩ vo vr :=
  ⟨h.box.set1 u, ownsRow_setCell_below h.out (by simp) _, ownsRow_setCell_below h.s (by simp) _, by simpa using h.lt⟩
theorem SLAt.setD {b : Nat} {w : World} {S : SL} {vo vr : Value} (h : SLAt b w S vo vr) (u : Nat) : SLAt b (w.setCell ⟨b, 2, none⟩ (.int .i64 u)) ⟨S.out, S.m, u, S.s⟩ vo vr :=
  ⟨h.box.set2 u, ownsRow_setCell_below h.out (by simp) _, ownsRow_setCell_below h.s (by simp) _, by simpa using h.lt⟩
theorem SLAt.setNil {b : Nat} {w : World} {S : SL} {vo vr : Value} (h : SLAt b w S vo vr) : SLAt b (w.setCell ⟨b, 3, none⟩ (.slice none 0 0)) ⟨S.out, S.m, S.d, []⟩ vo (.slice none 0 0) :=
  ⟨h.box.set3 _, ownsRow_setCell_below h.out (by simp) _, World.ownsRow_nil _ _ _ _, by simpa using h.lt⟩
end Go.Proofs.Ytlppphmnegdhoaa
