/-
  The program's items: values of 257 cells, in and out of boxes; readMembers.
-/
import Derived.Test.YtlppphmnegdhoaaGp2
import Derived.Laws.ResultCell
namespace Go.Proofs.Ytlppphmnegdhoaa
set_option linter.unusedVariables false
set_option maxRecDepth 100000
open Go.RowKit
open M

theorem infoIt : (Try.prog.info? 119).map (fun i => (i.zero, i.size)) = some (some (.agg (Array.replicate 257 (.bool false))), 257) := by kernel_rfl
theorem undIt : ∃ fs, Try.prog.underlying 119 = some (.struct fs) := ⟨_, Try.underlying119⟩
/-- Booleans, a cell each -/
def bC (n : Nat) (f : Nat → Bool) : List Value := (List.range n).map (fun i => .bool (f i))
theorem bC_len (n : Nat) (f : Nat → Bool) : (bC n f).length = n := by simp [bC]
theorem bC_get (n : Nat) (f : Nat → Bool) (i : Nat) (h : i < n) : (bC n f)[i]? = some (.bool (f i)) := by simp [bC, h]
theorem bC_one (n : Nat) (f : Nat → Bool) : ∀ v ∈ bC n f, v.oneCell' = true := by
  intro v hv
  simp [bC] at hv
  obtain ⟨a, _, rfl⟩ := hv
  rfl
theorem bC_congr (n : Nat) (f g : Nat → Bool) (h : ∀ i, i < n → f i = g i) : bC n f = bC n g := by
  unfold bC
  apply List.map_congr_left
  intro i hi
  rw [h i (by simpa using hi)]
def itV (f : Nat → Bool) : Value := .agg (bC 257 f).toArray
theorem BR.range {w : World} {g n : Nat} {f : Nat → Bool} (h : BR w g n f) : w.rangeAt g 0 (bC n f) := fun j v hv => by
  have hj : j < n := by have := (List.getElem?_eq_some_iff.1 hv).1; rwa [bC_len] at this
  rw [bC_get n f j hj] at hv
  rw [Nat.zero_add, h.c j hj]; exact hv
theorem BR.there {w : World} {g n : Nat} {f : Nat → Bool} (h : BR w g n f) : w.there g 0 n := fun j hj => by
  rw [Nat.zero_add]
  exact ⟨by rw [h.c j hj]; rfl, h.fz j hj⟩
theorem heap_setCells_other (b : Nat) (vs : List Value) : ∀ (o : Nat) (w : World) (k : Nat), k ≠ b → (w.setCells b o vs).heap[k]? = w.heap[k]? := by
  induction vs with
  | nil => intro o w k h; rfl
  | cons v vs ih =>
    intro o w k h
    rw [World.setCells, ih _ _ k h]
    exact heap_setCell_other w _ k v h
theorem setCells_plain (b : Nat) (vs : List Value) : ∀ (o : Nat) (w : World), (w.setCells b o vs).os = w.os ∧ (w.setCells b o vs).tape = w.tape ∧ (w.setCells b o vs).output = w.output ∧ (w.setCells b o vs).heap.size = w.heap.size := by
  induction vs with
  | nil => intro o w; exact ⟨rfl, rfl, rfl, rfl⟩
  | cons v vs ih =>
    intro o w
    rw [World.setCells]
    obtain ⟨h1, h2, h3, h4⟩ := ih (o + 1) (w.setCell ⟨b, o, none⟩ v)
    exact ⟨h1, h2, h3, by rw [h4]; simp⟩
theorem Only.setCells (b o : Nat) (vs : List Value) (w : World) : Only b w (w.setCells b o vs) := by
  obtain ⟨h1, h2, h3, h4⟩ := setCells_plain b vs o w
  exact ⟨h1, h2, h3, h4, fun k hk => heap_setCells_other b vs o w k hk⟩
theorem BR.store {w : World} {g n : Nat} {f : Nat → Bool} (h : BR w g n f) (f' : Nat → Bool) : BR (w.setCells g 0 (bC n f')) g n f' := by
  have ht := h.there
  have hr := World.rangeAt_setCells_same w g 0 (bC n f') (by rw [bC_len]; exact ht)
  refine ⟨by rw [(setCells_plain g _ 0 w).2.2.2]; exact h.lt, fun i hi => ?_, fun i hi => ?_⟩
  · have := hr i _ (bC_get n f' i hi)
    rwa [Nat.zero_add] at this
  · rw [World.frozen?_setCells]; exact h.fz i hi
theorem BR.new (w : World) (t : TypeId) (n : Nat) : BR (w.alloc (.cells (Array.replicate n (.bool false)) t)) w.heap.size n (fun _ => false) := by
  refine ⟨by simp, fun i hi => ?_, fun i hi => ?_⟩
  · rw [cell_of_row _ _ _ _ _ _ (heap_alloc_new w _)]
    simp [hi]
  · simp [go_sem]
theorem BR.load {w : World} {g : Nat} {f : Nat → Bool} (h : BR w g 257 f) : (loadVar 119 ⟨g, 0, none⟩).run Try.prog w = .ok (itV f) w := by
  obtain ⟨fs, hu⟩ := undIt
  exact run_loadVar_mid w g 0 _ (bC 257 f) _ h.range hu rfl (by rw [bC_len]; exact (zero_of_info infoIt).2)
theorem BR.sto {w : World} {g : Nat} {f : Nat → Bool} (h : BR w g 257 f) (f' : Nat → Bool) : (storeVar 119 ⟨g, 0, none⟩ (itV f')).run Try.prog w = .ok () (w.setCells g 0 (bC 257 f')) := by
  have := run_storeVar_mid (P := Try.prog) w g 0 119 (bC 257 f').toArray (by rw [List.size_toArray, bC_len]; exact h.there) (by rw [List.size_toArray, bC_len]; exact (zero_of_info infoIt).2) (all_oneCell_toArray (bC_one _ _))
  exact this
theorem results_item {fn : Func} {p u v : Tmp} (h : fn.results = #[.cell p 119, .tmp u, .tmp v]) (tmps : Array Value) (w : World) (g : Nat) (f : Nat → Bool) (hp : tmps.getD p undef = .pointer (some ⟨g, 0, none⟩)) (hb : BR w g 257 f) :
    (results fn tmps).run Try.prog w = .ok (.tuple #[itV f, tmps.getD u undef, tmps.getD v undef]) w := by
  have hp' : tmps[p]?.getD undef = .pointer (some ⟨g, 0, none⟩) := by simpa using hp
  simp [results, h, hp', asAddr, hb.load, Result.andThen]
theorem BR.loadC {w : World} {g : Nat} {f : Nat → Bool} (h : BR w g 257 f) : (loadCellsFrom ⟨g, 0, none⟩ 0 257 #[]).run Try.prog w = .ok (bC 257 f).toArray w := by
  have := run_loadCells_list (P := Try.prog) w ⟨g, 0, none⟩ (bC 257 f) (fun j v hv => by rw [Addr.add_mid]; exact h.range j v hv)
  rw [bC_len] at this
  exact this
theorem BR.stoC {w : World} {g : Nat} {f : Nat → Bool} (h : BR w g 257 f) (f' : Nat → Bool) : (storeCells ⟨g, 0, none⟩ (bC 257 f').toArray.toList 0).run Try.prog w = .ok () (w.setCells g 0 (bC 257 f')) := by
  have := run_storeCells_cells (P := Try.prog) g 0 (bC 257 f') 0 w (fun j hj => by rw [bC_len] at hj; simpa using (h.there j hj).1) (fun j hj => by rw [bC_len] at hj; simpa using (h.there j hj).2) (bC_one _ _)
  simpa using this
/-- an item out of a box, by value -/
theorem it_load {ops : Array Oper} {rest : List Oper} {op : Oper} {a : Act} {w : World} {Q : Exit → Act → World → Prop} {g : Nat} {f : Nat → Bool} (hb : BR w g 257 f) (hgd : op.guard = none) (x : Operand) (ho : op.op = .load 119 x) (hx : a.eval x = .pointer (some ⟨g, 0, none⟩))
    (h : wpList Try.prog ops Q rest (a.put op.dst (itV f)) w) : wpList Try.prog ops Q (op :: rest) a w := by
  obtain ⟨fs, hu⟩ := undIt
  exact wpList_load_mid hgd _ x ho g 0 hx (bC 257 f) _ hb.range hu rfl (by rw [bC_len]; exact (zero_of_info infoIt).2) h
/-- an item into a box -/
theorem it_store {ops : Array Oper} {rest : List Oper} {op : Oper} {a : Act} {w : World} {Q : Exit → Act → World → Prop} {g : Nat} {f : Nat → Bool} (hb : BR w g 257 f) (hgd : op.guard = none) (x y : Operand) (ho : op.op = .store 119 x y) (hx : a.eval x = .pointer (some ⟨g, 0, none⟩)) (f' : Nat → Bool) (hy : a.eval y = itV f')
    (h : ∀ w', BR w' g 257 f' → Only g w w' → wpList Try.prog ops Q rest (a.put op.dst undef) w') : wpList Try.prog ops Q (op :: rest) a w := by
  have := h _ (hb.store f') (Only.setCells g 0 (bC 257 f') w)
  exact wpList_store_mid hgd _ x y ho g 0 (bC 257 f').toArray hx hy (by rw [List.size_toArray, bC_len]; exact hb.there) (by rw [List.size_toArray, bC_len]; exact (zero_of_info infoIt).2) (all_oneCell_toArray (bC_one _ _)) this
/-- what an item says, of each byte; and whether there may be any number -/
def itF (x : It) : Nat → Bool := fun i => if i = 256 then x.star else hasI x i
end Go.Proofs.Ytlppphmnegdhoaa
