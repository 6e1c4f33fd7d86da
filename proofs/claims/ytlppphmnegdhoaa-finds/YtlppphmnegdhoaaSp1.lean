/-
  The document's places: the walk of 'spread'.
-/
import Derived.Test.YtlppphmnegdhoaaDoc5
import Derived.Test.YtlppphmnegdhoaaEvp
import Derived.Deep.AppendLies
import Derived.Deep.RegionLaw
namespace Go.Proofs.Ytlppphmnegdhoaa
set_option linter.unusedVariables false
open Go.RowKit
open M

def intC (l : List Int) : List Value := l.map fun i => .int .i64 i
theorem intC_snoc (l : List Int) (x : Int) : intC (l ++ [x]) = intC l ++ [.int .i64 x] := by simp [intC]
theorem intC_one (x : Int) : ∀ v ∈ [Value.int .i64 x], v.oneCell' = true := by
  intro v hv; simp at hv; subst hv; rfl
theorem intC_get (l : List Int) (i : Nat) (h : i < l.length) : (intC l)[i]? = some (.int .i64 l[i]) := by
  simp [intC, h]

/-- two slices of numbers that the call owns -/
structure Twin (B : Nat) (w : World) (vf vb : Value) (F K : List Int) : Prop where
  f : w.ownsRow B 3 1 vf F.length (intC F)
  k : w.ownsRow B 3 1 vb K.length (intC K)
  ap : ∀ g, vf.ownBlock = some g → vb.ownBlock ≠ some g
theorem Twin.swap {B : Nat} {w : World} {vf vb : Value} {F K : List Int} (h : Twin B w vf vb F K) : Twin B w vb vf K F :=
  ⟨h.k, h.f, fun g hb hf => h.ap g hf hb⟩
theorem Twin.grow {B : Nat} {w w' : World} {vf vb : Value} {F K : List Int} {o : Obj} {g cap : Nat} {x : Int} (h : Twin B w vf vb F K)
    (hown : w'.ownsRow B 3 1 (.slice (some ⟨g, 0, none⟩) (F.length + 1) cap) (F.length + 1) (intC F ++ [.int .i64 x])) (hg : (w.alloc o).grownBy w' vf.ownBlock) (hat : vf.ownBlock = some g ∨ g = w.heap.size + 1) :
    Twin B w' (.slice (some ⟨g, 0, none⟩) (F.length + 1) cap) vb (F ++ [x]) K := by
  refine ⟨?_, (h.k.alloc o).kept hg ?_, ?_⟩
  · rw [intC_snoc, List.length_append]; exact hown
  · cases hv : vb.ownBlock with
    | none => exact .inl rfl
    | some q => exact .inr (fun e => h.ap q e.symm hv)
  · intro q hq hb
    simp [Value.ownBlock] at hq
    subst hq
    rcases hat with hat | hat
    · exact h.ap _ hat hb
    · have := (h.k.lt _ hb).2; omega
theorem Twin.set {B : Nat} {w : World} {vf vb : Value} {F K : List Int} (h : Twin B w vf vb F K) {a : Addr} (ha : a.block < B) (u : Value) : Twin B (w.setCell a u) vf vb F K :=
  ⟨ownsRow_setCell_below h.f ha u, ownsRow_setCell_below h.k ha u, h.ap⟩
theorem one_new (w : World) (x : Int) (t : TypeId) : ∀ j u, [Value.int .i64 x][j]? = some u → (w.alloc (.cells #[.int .i64 x] t)).cell? ((⟨w.heap.size, 0, none⟩ : Addr).add j) = some u := by
  intro j u h
  match j with
  | 0 => simp at h; subst h; simp [go_sem, Addr.add]
  | j + 1 => simp at h

/-- two boxes: the answer's (empty yet) and that of the places -/
structure SBox (b : Nat) (w : World) (vf vb : Value) : Prop where
  r0 : w.cell? ⟨b, 0, none⟩ = some (.slice none 0 0)
  r1 : w.cell? ⟨b, 1, none⟩ = some (.slice none 0 0)
  f0 : w.frozen? ⟨b, 0, none⟩ = false
  f1 : w.frozen? ⟨b, 1, none⟩ = false
  x0 : w.cell? ⟨b + 1, 0, none⟩ = some vf
  x1 : w.cell? ⟨b + 1, 1, none⟩ = some vb
  g0 : w.frozen? ⟨b + 1, 0, none⟩ = false
  g1 : w.frozen? ⟨b + 1, 1, none⟩ = false
theorem SBox.keep {b : Nat} {w w' : World} {vf vb : Value} (h : SBox b w vf vb) (hk : ∀ k, k < b + 2 → w'.heap[k]? = w.heap[k]?) : SBox b w' vf vb := by
  have hc : ∀ k o, k < b + 2 → w'.cell? ⟨k, o, none⟩ = w.cell? ⟨k, o, none⟩ := fun k o hk2 => World.cell?_of_block (hk k hk2)
  have hf : ∀ k o, k < b + 2 → w'.frozen? ⟨k, o, none⟩ = w.frozen? ⟨k, o, none⟩ := fun k o hk2 => World.frozen?_of_block (hk k hk2)
  have l0 : b < b + 2 := by omega
  have l1 : b + 1 < b + 2 := by omega
  exact ⟨(hc _ _ l0).trans h.r0, (hc _ _ l0).trans h.r1, (hf _ _ l0).trans h.f0, (hf _ _ l0).trans h.f1, (hc _ _ l1).trans h.x0, (hc _ _ l1).trans h.x1, (hf _ _ l1).trans h.g0, (hf _ _ l1).trans h.g1⟩
theorem SBox.set0 {b : Nat} {w : World} {vf vb : Value} (h : SBox b w vf vb) (u : Value) : SBox b (w.setCell ⟨b + 1, 0, none⟩ u) u vb := by
  obtain ⟨r0, r1, f0, f1, x0, x1, g0, g1⟩ := h
  refine ⟨?_, ?_, ?_, ?_, ?_, ?_, ?_, ?_⟩
  all_goals first | (simp [go_sem, *]; done) | (rw [World.cell?_setCell_other (by simp)]; assumption) | exact World.cell?_setCell_same x0
theorem SBox.set1 {b : Nat} {w : World} {vf vb : Value} (h : SBox b w vf vb) (u : Value) : SBox b (w.setCell ⟨b + 1, 1, none⟩ u) vf u := by
  obtain ⟨r0, r1, f0, f1, x0, x1, g0, g1⟩ := h
  refine ⟨?_, ?_, ?_, ?_, ?_, ?_, ?_, ?_⟩
  all_goals first | (simp [go_sem, *]; done) | (rw [World.cell?_setCell_other (by simp)]; assumption) | exact World.cell?_setCell_same x1

/-- all that the loops of 'spread' hold, at the places so far -/
structure SInv (w wr : World) (vf vb : Value) (F K : List Int) : Prop where
  box : SBox w.heap.size wr vf vb
  twin : Twin (w.heap.size + 2) wr vf vb F K
  below : Below w.heap.size w wr
  size : w.heap.size + 2 ≤ wr.heap.size
theorem grow_keep {wr w3 : World} {o : Obj} {v : Value} {b : Nat} {n : Nat} {xs : List Value} (hown : wr.ownsRow (b + 2) 3 1 v n xs) (hs : b + 2 ≤ wr.heap.size) (hgrow : (wr.alloc o).grownBy w3 v.ownBlock) : ∀ k, k < b + 2 → w3.heap[k]? = wr.heap[k]? := fun k hk => by
  rw [hgrow.block k (by simp; omega) (fun e => by have := (hown.lt k e.symm).1; omega), Below.heap_alloc _ _ _ (by omega)]
theorem SInv.grow0 {w wr w3 : World} {vf vb : Value} {F K : List Int} {o : Obj} {g cap : Nat} {x : Int} (h : SInv w wr vf vb F K)
    (hown : w3.ownsRow (w.heap.size + 2) 3 1 (.slice (some ⟨g, 0, none⟩) (F.length + 1) cap) (F.length + 1) (intC F ++ [.int .i64 x])) (hg : (wr.alloc o).grownBy w3 vf.ownBlock) (hat : vf.ownBlock = some g ∨ g = wr.heap.size + 1) :
    SBox w.heap.size w3 vf vb ∧ SInv w (w3.setCell ⟨w.heap.size + 1, 0, none⟩ (.slice (some ⟨g, 0, none⟩) (F.length + 1) cap)) (.slice (some ⟨g, 0, none⟩) (F.length + 1) cap) vb (F ++ [x]) K := by
  have hb := h.box.keep (grow_keep h.twin.f h.size hg)
  refine ⟨hb, hb.set0 _, (h.twin.grow hown hg hat).set (by simp) _, ?_, ?_⟩
  · exact ((h.below.alloc (by have := h.size; omega) _).grown hg (by have := h.size; simp; omega) (fun k hk => by have := (h.twin.f.lt k hk).1; omega)).setCell (by simp) _
  · have := hg.size; have := h.size; simp at *; omega
theorem SInv.grow1 {w wr w3 : World} {vf vb : Value} {F K : List Int} {o : Obj} {g cap : Nat} {x : Int} (h : SInv w wr vf vb F K)
    (hown : w3.ownsRow (w.heap.size + 2) 3 1 (.slice (some ⟨g, 0, none⟩) (K.length + 1) cap) (K.length + 1) (intC K ++ [.int .i64 x])) (hg : (wr.alloc o).grownBy w3 vb.ownBlock) (hat : vb.ownBlock = some g ∨ g = wr.heap.size + 1) :
    SBox w.heap.size w3 vf vb ∧ SInv w (w3.setCell ⟨w.heap.size + 1, 1, none⟩ (.slice (some ⟨g, 0, none⟩) (K.length + 1) cap)) vf (.slice (some ⟨g, 0, none⟩) (K.length + 1) cap) F (K ++ [x]) := by
  have hb := h.box.keep (grow_keep h.twin.k h.size hg)
  refine ⟨hb, hb.set1 _, (h.twin.swap.grow hown hg hat).swap.set (by simp) _, ?_, ?_⟩
  · exact ((h.below.alloc (by have := h.size; omega) _).grown hg (by have := h.size; simp; omega) (fun k hk => by have := (h.twin.k.lt k hk).1; omega)).setCell (by simp) _
  · have := hg.size; have := h.size; simp at *; omega

theorem evF_snoc_k (es : List Ev) : evF 0 (es ++ [.k]) = evF 0 es ++ [((evK es).length : Int)] := by rw [evF_append]; simp [evF, evK_len]
theorem evK_snoc_k (es : List Ev) : evK (es ++ [.k]) = evK es ++ [-1] := by rw [evK_append]; simp [evK]
theorem evF_snoc_d (es : List Ev) : evF 0 (es ++ [.d]) = evF 0 es ++ [-1] := by rw [evF_append]; simp [evF]
theorem evK_snoc_d (es : List Ev) : evK (es ++ [.d]) = evK es := by rw [evK_append]; simp [evK]
theorem evF_snoc_r (es : List Ev) (c : UInt8) : evF 0 (es ++ [.r c]) = evF 0 es := by rw [evF_append]; simp [evF]
theorem evK_snoc_r (es : List Ev) (c : UInt8) : evK (es ++ [.r c]) = evK es ++ [(c.toNat : Int)] := by rw [evK_append]; simp [evK]
def evAt (r : M.Rec) (j : Nat) : List Ev := (expR r).take j
theorem evAt_k (r : M.Rec) (j : Nat) (h : r.kind = 0) (hj : (j : Int) < r.n) : evAt r (j + 1) = evAt r j ++ [.k] := by
  have e : expR r = List.replicate r.n.toNat .k := by simp [expR, h]
  unfold evAt
  rw [e, List.take_succ_eq_append_getElem (by simp; omega)]
  simp
theorem evAt_d (r : M.Rec) (j : Nat) (h : r.kind = 1) (hj : (j : Int) < r.n) : evAt r (j + 1) = evAt r j ++ [.d] := by
  have e : expR r = List.replicate r.n.toNat .d := by simp [expR, h]
  unfold evAt
  rw [e, List.take_succ_eq_append_getElem (by simp; omega)]
  simp
theorem evAt_r (r : M.Rec) (j : Nat) (h : r.kind = 2) (hj : j < r.s.size) : evAt r (j + 1) = evAt r j ++ [.r r.s[j]] := by
  have e : expR r = r.s.data.toList.map .r := by simp [expR, h]
  unfold evAt
  have hl := ba_len r.s
  rw [e, List.take_succ_eq_append_getElem (by simpa using hj)]
  simp
  rfl
theorem evAt_all (r : M.Rec) (h : okRec r = true) (j : Nat) (hj : r.n ≤ j) : evAt r j = expR r := by
  have hk := (okRec_iff r).1 h
  have hl := ba_len r.s
  unfold evAt
  apply List.take_of_length_le
  unfold expR
  split
  · simp; omega
  · split
    · simp; omega
    · simp only [List.length_map]; omega
theorem exp_take (l : List M.Rec) (k : Nat) (h : k < l.length) : expL (l.take (k + 1)) = expL (l.take k) ++ expR l[k] := by
  rw [List.take_succ_eq_append_getElem h, expL_append]; simp [expL]
theorem exp_le (l : List M.Rec) (hok : okAll l) (k : Nat) (h : k < l.length) (j : Nat) : (evA (expL (l.take k) ++ evAt l[k] j) : Int) ≤ lenA l ∧ (evB (expL (l.take k) ++ evAt l[k] j) : Int) ≤ lenB l := by
  have e : expL l = (expL (l.take k) ++ evAt l[k] j) ++ ((expR l[k]).drop j ++ expL (l.drop (k + 1))) := by
    unfold evAt
    rw [List.append_assoc, ← List.append_assoc ((expR l[k]).take j), List.take_append_drop, ← List.append_assoc, ← exp_take l k h, ← expL_append, List.take_append_drop]
  have hl := expL_len l hok
  rw [e, evA_append, evB_append] at hl
  omega

theorem infoInt : (Try.prog.info? 3).map (fun i => (i.zero, i.size, i.bytes)) = some (some (.int .i64 0), 1, 8) := by kernel_rfl
theorem undInt : Try.prog.underlying 72 = some (.slice 3) := by kernel_rfl
/-- what 'spread' answers -/
def SpreadPost (l : List M.Rec) (w w' : World) (e : Ending) : Prop :=
  ∃ vf vb, e = .returned (.agg #[vf, vb]) ∧ Twin w.heap.size w' vf vb (evF 0 (expL l)) (evK (expL l)) ∧ Below w.heap.size w w'
end Go.Proofs.Ytlppphmnegdhoaa
