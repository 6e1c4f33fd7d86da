/-
  The program's expressions: rows of items; what Read holds.
-/
import Derived.Test.YtlppphmnegdhoaaGp6
import Derived.Test.YtlppphmnegdhoaaFx8
import Derived.Great.BuildSlice
namespace Go.Proofs.Ytlppphmnegdhoaa
set_option linter.unusedVariables false
set_option maxRecDepth 100000
open Go.RowKit
open M

theorem infoItB : (Try.prog.info? 119).map (fun i => (i.zero, i.size, i.bytes)) = some (some (.agg (Array.replicate 257 (.bool false))), 257, 257) := by kernel_rfl
theorem undIts : Try.prog.underlying 80 = some (.slice 119) := by kernel_rfl
def itsC (L : List It) : List Value := (L.map (fun x => bC 257 (itF x))).flatten
theorem itsC_snoc (L : List It) (x : It) : itsC (L ++ [x]) = itsC L ++ bC 257 (itF x) := by simp [itsC]
theorem it_fill (f : Nat → Bool) (Z : Array Value) (hZ : Z.size = 257) : Instr.fill (fun i => some (i * 257, 257)) Z [(0, itV f)] = some (bC 257 f).toArray := by
  have hc : (itV f).cells = (bC 257 f).toArray := rfl
  have hcs : (itV f).cells.size = 257 := by rw [hc, List.size_toArray, bC_len]
  obtain ⟨r, h1, h2, h3⟩ := Great.fill_dense (s := 257) (by decide) [itV f] 0 Z (fun v hv => by simp at hv; rw [hv]; exact hcs) (by rw [hZ]; exact Nat.le_refl 257)
  have h1' : Instr.fill (fun i => some (i * 257, 257)) Z [(0, itV f)] = some r := h1
  rw [h1']
  congr 1
  apply Array.ext_getElem?
  intro k
  rw [h3 k]
  by_cases hk : k < 257
  · rw [if_pos (by simp; omega)]
    have e1 : k / 257 = 0 := Nat.div_eq_of_lt hk
    have e2 : k % 257 = k := Nat.mod_eq_of_lt hk
    rw [e1, e2]
    show (itV f).cells[k]? = _
    rw [hc]
  · rw [if_neg (by simp; omega)]
    rw [Array.getElem?_eq_none (by omega), Array.getElem?_eq_none (by rw [List.size_toArray, bC_len]; omega)]
/-- a slice of one item -/
theorem it_build {ops : Array Oper} {rest : List Oper} {op : Oper} {a : Act} {w : World} {Q : Exit → Act → World → Prop} (hgd : op.guard = none) (x : Operand) (ho : op.op = .buildSlice 80 1 #[(0, x)]) (f : Nat → Bool) (hx : a.eval x = itV f)
    (h : wpList Try.prog ops Q rest (a.put op.dst (.slice (some ⟨w.heap.size, 0, none⟩) 1 1)) (w.alloc (.cells (bC 257 f).toArray 119))) : wpList Try.prog ops Q (op :: rest) a w := by
  obtain ⟨i0, hi, hz0, hz1, hz2⟩ := info_parts infoItB
  refine wpList_buildSlice hgd _ _ 1 _ ho (bC 257 f).toArray i0 _ undIts hi hz0 (by rw [hz1]; decide) (by rw [hz1]; decide) ?_ h
  rw [hz1]
  have e : (#[((0 : Nat), x)].map fun (p : Nat × Operand) => (p.1, a.eval p.2)).toList = [(0, itV f)] := by simp [hx]
  have e' : (#[((0 : Nat), x)].map fun ((i, x) : Nat × Operand) => (i, a.eval x)).toList = [(0, itV f)] := e
  rw [e']
  exact it_fill f _ (by simp)
/-- one more item at the end of a row -/
theorem it_append {ops : Array Oper} {rest : List Oper} {o : Oper} {a : Act} {w : World} {Q : Exit → Act → World → Prop} {B : Nat} {v : Value} {n : Nat} {xs : List Value} (hown : w.ownsRow B 119 257 v n xs) (g : Nat) (f : Nat → Bool) (hg : w.heap[g]? = some (.cells (bC 257 f).toArray 119)) (hn : n ≤ 8192) (hB : B ≤ w.heap.size) (hgd : o.guard = none) (s x : Operand)
    (ho : o.op = .call { callee := .builtin .append, args := #[s, x], argTypes := #[80, 80] }) (hs : a.eval s = v) (hx : a.eval x = .slice (some ⟨g, 0, none⟩) 1 1)
    (h : ∀ v' w', w'.ownsRow B 119 257 v' (n + 1) (xs ++ bC 257 f) → w.grownBy w' v.ownBlock → wpList Try.prog ops Q rest (a.put o.dst v') w') : wpList Try.prog ops Q (o :: rest) a w := by
  obtain ⟨i0, hi, hz0, hz1, hz2⟩ := info_parts infoItB
  refine wpList_append_own w hgd s x _ ho B _ i0 _ 257 257 undIts hi hz0 hz1 hz2 (by simp [Value.cells]) (by decide) v n xs hs hown ⟨g, 0, none⟩ 1 1 (bC 257 f) hx (by rw [bC_len]) ?_ (bC_one _ _) (by unfold maxLen; omega) (by omega) hB (fun v' w' h1 h2 _ => h v' w' h1 h2)
  intro j u hu
  rw [Addr.add_mid, cell_of_row _ _ _ _ _ _ hg]
  simpa using hu
theorem ownsRow_up {w w' : World} {base : Nat} {e : TypeId} {size : Nat} {v : Value} {n : Nat} {xs : List Value} (h : w.ownsRow base e size v n xs) (hk : ∀ k, base ≤ k → w'.heap[k]? = w.heap[k]?) : w'.ownsRow base e size v n xs := by
  obtain ⟨h1, h2⟩ := h
  refine ⟨h1, ?_⟩
  rcases h2 with h2 | ⟨g, cap, cur, e1, e2, e3, e4⟩
  · exact .inl h2
  · exact .inr ⟨g, cap, cur, e1, e2, by rw [hk g e2]; exact e3, e4⟩
/-- all that Read holds -/
structure PInv (h0 g9 : Nat) (w wr : World) (hd tl : Bool) (v : Value) (L : List It) (f : Nat → Bool) : Prop where
  res : ExBox h0 wr false false (.slice none 0 0)
  box : ExBox (h0 + 1) wr hd tl v
  it : BR wr g9 257 f
  own : wr.ownsRow (g9 + 1) 119 257 v L.length (itsC L)
  below : Below h0 w wr
  size : g9 + 1 ≤ wr.heap.size
  far : h0 + 2 ≤ g9
theorem PInv.keep {h0 g9 : Nat} {w wr w' : World} {hd tl : Bool} {v : Value} {L : List It} {f : Nat → Bool} (h : PInv h0 g9 w wr hd tl v L f) (hb : Below wr.heap.size wr w') : PInv h0 g9 w w' hd tl v L f := by
  have hs := h.size
  have hf := h.far
  have hs2 := hb.size
  exact ⟨h.res.keep (hb.block _ (by omega)), h.box.keep (hb.block _ (by omega)), h.it.below hb (by omega), ownsRow_below h.own hb, h.below.trans (hb.mono (by omega)), by omega, h.far⟩
theorem PInv.sto {h0 g9 : Nat} {w wr w' : World} {hd tl : Bool} {v : Value} {L : List It} {f f' : Nat → Bool} (h : PInv h0 g9 w wr hd tl v L f) (ho : Only g9 wr w') (hb : BR w' g9 257 f') : PInv h0 g9 w w' hd tl v L f' := by
  have hf := h.far
  exact ⟨h.res.keep (ho.block _ (by omega)), h.box.keep (ho.block _ (by omega)), hb, ownsRow_up h.own (fun k hk => ho.block k (by omega)), h.below.trans (ho.below (by omega)), by rw [ho.size]; exact h.size, h.far⟩
theorem PInv.set1 {h0 g9 : Nat} {w wr : World} {hd tl : Bool} {v : Value} {L : List It} {f : Nat → Bool} (h : PInv h0 g9 w wr hd tl v L f) (u : Bool) : PInv h0 g9 w (wr.setCell ⟨h0 + 1, 1, none⟩ (.bool u)) hd u v L f := by
  have hf := h.far
  exact ⟨h.res.keep (heap_setCell_other _ _ _ _ (by simp)), h.box.set1 u, h.it.keep (heap_setCell_other _ _ _ _ (by simp; omega)) (by simp), ownsRow_setCell_below h.own (by simp; omega) _, h.below.setCell (by simp) _, by simpa using h.size, h.far⟩
theorem PInv.grow {h0 g9 : Nat} {w wr w3 : World} {hd tl : Bool} {v v' : Value} {L : List It} {f : Nat → Bool} {o : Obj} {x : It} (h : PInv h0 g9 w wr hd tl v L f)
    (hown : w3.ownsRow (g9 + 1) 119 257 v' (L.length + 1) (itsC L ++ bC 257 (itF x))) (hg : (wr.alloc o).grownBy w3 v.ownBlock) :
    ExBox (h0 + 1) w3 hd tl v ∧ PInv h0 g9 w (w3.setCell ⟨h0 + 1, 2, none⟩ v') hd tl v' (L ++ [x]) f := by
  have hs := h.size
  have hf := h.far
  have hs3 := hg.size
  simp at hs3
  have hk : ∀ k, k < g9 + 1 → w3.heap[k]? = wr.heap[k]? := fun k hk => by
    rw [hg.block k (by simp; omega) (fun e => by have := (h.own.lt k e.symm).1; omega), Below.heap_alloc _ _ _ (by omega)]
  have hb := h.box.keep (hk _ (by omega))
  have hr := h.res.keep (hk _ (by omega))
  refine ⟨hb, hr.keep (heap_setCell_other _ _ _ _ (by simp)), hb.set2 _, ?_, ?_, ?_, by simp; omega, h.far⟩
  · exact (h.it.keep (hk _ (by omega)) (by omega)).keep (heap_setCell_other _ _ _ _ (by simp; omega)) (by simp)
  · rw [← itsC_snoc] at hown
    rw [List.length_append]
    exact ownsRow_setCell_below hown (by simp; omega) _
  · exact ((h.below.alloc (by omega) _).grown hg (by simp; omega) (fun k hk => by have := (h.own.lt k hk).1; omega)).setCell (by simp) _
theorem PInv.fin {h0 g9 : Nat} {w wr : World} {hd tl : Bool} {v : Value} {L : List It} {f : Nat → Bool} (h : PInv h0 g9 w wr hd tl v L f) :
    (((wr.setCell ⟨h0, 0, none⟩ (.bool hd)).setCell ⟨h0, 1, none⟩ (.bool tl)).setCell ⟨h0, 2, none⟩ v).ownsRow h0 119 257 v L.length (itsC L) ∧
    Below h0 w (((wr.setCell ⟨h0, 0, none⟩ (.bool hd)).setCell ⟨h0, 1, none⟩ (.bool tl)).setCell ⟨h0, 2, none⟩ v) := by
  have hf := h.far
  exact ⟨ownsRow_base (ownsRow_setCell_below (ownsRow_setCell_below (ownsRow_setCell_below h.own (by simp; omega) _) (by simp; omega) _) (by simp; omega) _) (by omega), ((h.below.setCell (by simp) _).setCell (by simp) _).setCell (by simp) _⟩
/-- what Read answers -/
def RdPost (s : ByteArray) (k : Nat) (m : List Mk) (r : List UInt8) (w w' : World) (e : Ending) : Prop :=
  ∃ (hd tl : Bool) (L : List It) (m3 : List Mk) (n : Nat) (a : Option Addr) (c : Nat), e = .returned (.tuple #[.agg #[.bool hd, .bool tl, .slice a L.length c], .int .i64 n, .bool (decide (k < n))]) ∧ k ≤ n ∧ n ≤ s.size ∧ mksM (s.data.toList.drop n) = (m3, r) ∧
    w'.ownsRow w.heap.size 119 257 (.slice a L.length c) L.length (itsC L) ∧ Below w.heap.size w w' ∧ L.length ≤ s.size ∧ (m ≠ [] → m3 = [] → expM m = some ⟨hd, tl, L⟩) ∧ (m3 ≠ [] → expM m = none)
end Go.Proofs.Ytlppphmnegdhoaa
