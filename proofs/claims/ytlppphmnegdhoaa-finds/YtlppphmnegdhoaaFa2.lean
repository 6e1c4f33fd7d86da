/-
  The document's expressions: from which places an expression matches up to a place: plain part, rows of Booleans.
-/
import Derived.Test.YtlppphmnegdhoaaFa1
import Derived.Deep.RegionHeld3
namespace Go.Proofs.Ytlppphmnegdhoaa
set_option linter.unusedVariables false
set_option maxRecDepth 100000
open Go.RowKit
open M

/-- a row of Booleans that may be written into -/
structure RowF (w : World) (g n : Nat) (f : Nat → Bool) : Prop where
  lt : g < w.heap.size
  c : ∀ i, i < n → w.cell? ⟨g, i, none⟩ = some (.bool (f i))
  fz : ∀ i, i < n → w.frozen? ⟨g, i, none⟩ = false
theorem RowF.keep {w w' : World} {g n : Nat} {f : Nat → Bool} (h : RowF w g n f) (hk : w'.heap[g]? = w.heap[g]?) (hs : w.heap.size ≤ w'.heap.size) : RowF w' g n f :=
  ⟨by have := h.lt; omega, fun i hi => (World.cell?_of_block hk).trans (h.c i hi), fun i hi => (World.frozen?_of_block hk).trans (h.fz i hi)⟩
theorem RowF.below {w w' : World} {g n B : Nat} {f : Nat → Bool} (h : RowF w g n f) (hb : Below B w w') (hg : g < B) : RowF w' g n f := h.keep (hb.block g hg) hb.size
theorem RowF.congr {w : World} {g n : Nat} {f f' : Nat → Bool} (h : RowF w g n f) (e : ∀ i, i < n → f i = f' i) : RowF w g n f' :=
  ⟨h.lt, fun i hi => by rw [← e i hi]; exact h.c i hi, h.fz⟩
theorem RowF.set {w : World} {g n : Nat} {f : Nat → Bool} (h : RowF w g n f) (q : Nat) (hq : q < n) (b : Bool) : RowF (w.setCell ⟨g, q, none⟩ (.bool b)) g n (fun i => if i = q then b else f i) := by
  refine ⟨by simpa using h.lt, fun i hi => ?_, fun i hi => by simpa using h.fz i hi⟩
  by_cases hqi : i = q
  · subst hqi
    rw [if_pos rfl]
    exact World.cell?_setCell_same' _ _ _ (by rw [h.c i hi]; rfl)
  · rw [if_neg hqi]
    rw [World.cell?_setCell_other _ _ _ _ (fun e => hqi (congrArg Addr.off e).symm)]
    exact h.c i hi
theorem RowF.setFar {w : World} {g n : Nat} {f : Nat → Bool} (h : RowF w g n f) {a : Addr} (ha : g ≠ a.block) (u : Value) : RowF (w.setCell a u) g n f :=
  h.keep (heap_setCell_other _ _ _ _ ha) (by simp)
theorem infoBool : (Try.prog.info? 4).map (fun i => (i.zero, i.size, i.bytes)) = some (some (.bool false), 1, 1) := by kernel_rfl
theorem undBools : Try.prog.underlying 130 = some (.slice 4) := by kernel_rfl
theorem made_row (u : World) (n : Nat) : RowF (u.alloc (.cells (madeCells (Value.bool false).cells n) 4)) u.heap.size n (fun _ => false) := by
  have hs := size_madeCells (Value.bool false).cells n
  refine ⟨by simp, fun i hi => ?_, fun i hi => ?_⟩
  · have e : (u.alloc (.cells (madeCells (Value.bool false).cells n) 4)).cell? ⟨u.heap.size, i, none⟩ = (madeCells (Value.bool false).cells n)[i]? := by
      rw [cell_of_row _ _ _ _ _ _ (heap_alloc_new u _)]
    rw [e]
    simp [madeCells, Value.cells, hi]
    rw [Nat.mod_one]; rfl
  · simp [go_sem]

/-- up to j, from the items behind k on -/
def stg (tl : Bool) (l : List It) (s : List UInt8) (j k p : Nat) : Bool := decide (p ≤ j) && ((!tl || decide (j = s.length)) && mt (l.drop k) (seg s p j))
theorem seg_nil (s : List UInt8) (j : Nat) : seg s j j = [] := by unfold seg; rw [List.drop_of_length_le]; rw [List.length_take]; omega
theorem seg_cons (s : List UInt8) (p j : Nat) (h : p < j) (hj : j ≤ s.length) : seg s p j = s[p] :: seg s (p + 1) j := by
  unfold seg
  have hl : p < (s.take j).length := by rw [List.length_take]; omega
  rw [List.drop_eq_getElem_cons hl]
  congr 1
  rw [List.getElem_take]
theorem stg_end (tl : Bool) (l : List It) (s : List UInt8) (j p : Nat) (hj : j ≤ s.length) : stg tl l s j l.length p = (decide (p = j) && (!tl || decide (j = s.length))) := by
  unfold stg
  rw [List.drop_length, mt_nil]
  by_cases h : p = j
  · subst h; rw [seg_nil]; simp
  · by_cases h2 : p ≤ j
    · rw [seg_cons s p j (by omega) hj]; simp [h]
    · simp [h2, h]
theorem stg_step (tl : Bool) (l : List It) (s : List UInt8) (j k p : Nat) (hk : k < l.length) (hj : j ≤ s.length) (hp : p ≤ j) :
    stg tl l s j k p = if l[k].star then (stg tl l s j (k + 1) p || ((decide (p < j) && hasI l[k] ((s.getD p 0).toNat)) && stg tl l s j k (p + 1))) else ((decide (p < j) && hasI l[k] ((s.getD p 0).toNat)) && stg tl l s j (k + 1) (p + 1)) := by
  unfold stg
  rw [List.drop_eq_getElem_cons hk]
  generalize (!tl || decide (j = s.length)) = T
  by_cases h : p < j
  · have e : s.getD p 0 = s[p] := by rw [List.getD_eq_getElem?_getD, List.getElem?_eq_getElem (by omega)]; rfl
    rw [seg_cons s p j h hj, mt_cons, e]
    have h1 : p ≤ j := hp
    have h2 : p + 1 ≤ j := h
    cases l[k].star <;> cases T <;> simp [h, h1, h2]
  · obtain rfl : p = j := by omega
    rw [seg_nil, mt_end]
    cases l[k].star <;> cases T <;> simp
/-- items in memory, to be read -/
structure ItemsAt (w : World) (a : Option Addr) (L : List IV) : Prop where
  cells : L = [] ∨ ∃ g, a = some ⟨g, 0, none⟩ ∧ g < w.heap.size ∧ ∀ i (h : i < L.length), w.cell? ⟨g, i * 5, none⟩ = some (.bool L[i].it.any) ∧ w.cell? ⟨g, i * 5 + 1, none⟩ = some (.bool L[i].it.not) ∧ w.cell? ⟨g, i * 5 + 2, none⟩ = some (.bool L[i].it.star) ∧ w.cell? ⟨g, i * 5 + 3, none⟩ = some L[i].f ∧ w.cell? ⟨g, i * 5 + 4, none⟩ = some L[i].b
  ok : ∀ x ∈ L, IVok 0 w x
theorem ItemsAt.below {w w' : World} {a : Option Addr} {L : List IV} (h : ItemsAt w a L) (hb : Below w.heap.size w w') : ItemsAt w' a L := by
  refine ⟨?_, fun x hx => (h.ok x hx).below hb⟩
  rcases h.cells with h0 | ⟨g, ha, hg, hc⟩
  · exact .inl h0
  · refine .inr ⟨g, ha, by have := hb.size; omega, fun i hi => ?_⟩
    obtain ⟨c0, c1, c2, c3, c4⟩ := hc i hi
    exact ⟨(hb.cell (by exact hg)).trans c0, (hb.cell (by exact hg)).trans c1, (hb.cell (by exact hg)).trans c2, (hb.cell (by exact hg)).trans c3, (hb.cell (by exact hg)).trans c4⟩
theorem ivsC_get (l : List IV) : ∀ i (h : i < l.length), (ivsC l)[i * 5]? = some (.bool l[i].it.any) ∧ (ivsC l)[i * 5 + 1]? = some (.bool l[i].it.not) ∧ (ivsC l)[i * 5 + 2]? = some (.bool l[i].it.star) ∧ (ivsC l)[i * 5 + 3]? = some l[i].f ∧ (ivsC l)[i * 5 + 4]? = some l[i].b := by
  induction l with
  | nil => intro i h; simp at h
  | cons m l ih =>
    intro i h
    have e : ivsC (m :: l) = ivC m ++ ivsC l := by simp [ivsC]
    rw [e]
    cases i with
    | zero => exact ⟨rfl, rfl, rfl, rfl, rfl⟩
    | succ i =>
      have := ih i (by simpa using h)
      have e1 : (i + 1) * 5 = i * 5 + 5 := by omega
      rw [e1]
      simpa [ivC] using this
theorem itemsAt_own {w : World} {B : Nat} {a : Option Addr} {c : Nat} {L : List IV} (h : w.ownsRow B 127 5 (.slice a L.length c) L.length (ivsC L)) (hok : ∀ x ∈ L, IVok B w x) : ItemsAt w a L := by
  refine ⟨?_, fun x hx => ⟨ownsRow_base (hok x hx).f (Nat.zero_le _), ownsRow_base (hok x hx).k (Nat.zero_le _), (hok x hx).ap⟩⟩
  by_cases h0 : L = []
  · exact .inl h0
  · right
    have hp : 0 < L.length := List.length_pos_iff.2 h0
    rcases h.2 with ⟨_, hz⟩ | ⟨g, cap, cur, hv, hb, hg, _⟩
    · omega
    · simp at hv
      obtain ⟨rfl, rfl⟩ := hv
      refine ⟨g, rfl, (h.lt g rfl).2, fun i hi => ?_⟩
      obtain ⟨q0, q1, q2, q3, q4⟩ := ivsC_get L i hi
      have e : ∀ j, (⟨g, 0, none⟩ : Addr).add j = ⟨g, j, none⟩ := fun j => by unfold Addr.add; split <;> simp_all
      have h0 := h.cells rfl (i * 5) _ q0
      have h1 := h.cells rfl (i * 5 + 1) _ q1
      have h2 := h.cells rfl (i * 5 + 2) _ q2
      have h3 := h.cells rfl (i * 5 + 3) _ q3
      have h4 := h.cells rfl (i * 5 + 4) _ q4
      rw [e] at h0 h1 h2 h3 h4
      exact ⟨h0, h1, h2, h3, h4⟩
end Go.Proofs.Ytlppphmnegdhoaa
