import Derived.Test.YtlppphmnegdhoabMg2
import Derived.Deep.AppendLies
import Derived.Deep.RegionLaw
import Derived.Test.YtlppphmnegdhoabMg1
/-
  The document's places: spread, short, joined, as functions of lists: plain mathematics.
-/
namespace Go.Proofs.Ytlppphmnegdhoab
set_option linter.unusedVariables false
namespace M

/-- what 'joined' writes into From -/
def jF (xf : List Int) (i : Int) : Int := if 0 ≤ i then xf.getD i.toNat (-1) else -1
theorem jF_neg (xf : List Int) : jF xf (-1) = -1 := by simp [jF]
def jG (b : Nat) (xf : List Int) (i : Int) : Int := if 0 ≤ i then xf.getD (i.toNat - b) (-1) else -1
theorem evF_ge (es : List Ev) : ∀ a, ∀ i ∈ evF a es, i = -1 ∨ (a : Int) ≤ i := by
  induction es with
  | nil => intro a i h; cases h
  | cons e es ih =>
    intro a i h
    cases e with
    | k =>
      simp only [evF, List.mem_cons] at h
      rcases h with rfl | h
      · exact .inr (Int.le_refl _)
      · have := ih _ i h; omega
    | d =>
      simp only [evF, List.mem_cons] at h
      rcases h with rfl | h
      · exact .inl rfl
      · exact ih _ i h
    | r c => have := ih _ i h; omega
theorem evF_lt (es : List Ev) : ∀ a, ∀ i ∈ evF a es, i < a + evA es := by
  induction es with
  | nil => intro a i h; cases h
  | cons e es ih =>
    intro a i h
    cases e with
    | k =>
      simp only [evF, List.mem_cons] at h
      simp only [evA]
      rcases h with rfl | h
      · omega
      · have := ih _ i h; omega
    | d =>
      simp only [evF, List.mem_cons] at h
      simp only [evA]
      rcases h with rfl | h
      · omega
      · exact ih _ i h
    | r c => have := ih _ i h; simp only [evA]; omega
theorem jG_step (b : Nat) (x : Int) (xf : List Int) (l : List Int) (h : ∀ i ∈ l, i = -1 ∨ ((b + 1 : Nat) : Int) ≤ i) : l.map (jG b (x :: xf)) = l.map (jG (b + 1) xf) := by
  apply List.map_congr_left
  intro i hi
  rcases h i hi with rfl | h
  · simp [jG]
  · have e : i.toNat - b = (i.toNat - (b + 1)) + 1 := by omega
    simp only [jG, e]
    simp
theorem joinF : ∀ (es fs : List Ev) (a b : Nat), evB es = evA fs → evF a (joinE es fs) = (evF b fs).map (jG b (evF a es))
  | .r c :: es, fs, a, b, h => by
    rw [j_r]; simp only [evF]
    exact joinF es fs (a + 1) b (by simpa [evB] using h)
  | .k :: es, .d :: fs, a, b, h => by
    have := joinF (.k :: es) fs a b (by simpa [evA] using h)
    rw [j_kd]; simp only [evF, List.map_cons] at this ⊢; rw [this]; simp [jG]
  | .d :: es, .d :: fs, a, b, h => by
    have := joinF (.d :: es) fs a b (by simpa [evA] using h)
    rw [j_dd]; simp only [evF, List.map_cons] at this ⊢; rw [this]; simp [jG]
  | [], .d :: fs, a, b, h => by
    have := joinF [] fs a b (by simpa [evA] using h)
    rw [j_nd]; simp only [evF, List.map_cons] at this ⊢; rw [this]; simp [jG]
  | .k :: es, .k :: fs, a, b, h => by
    have := joinF es fs (a + 1) (b + 1) (by simp only [evA, evB] at h; omega)
    rw [j_kk]; simp only [evF, List.map_cons]
    rw [jG_step _ _ _ _ (evF_ge fs (b + 1)), ← this]
    simp [jG]
  | .k :: es, .r c :: fs, a, b, h => by
    have := joinF es fs (a + 1) (b + 1) (by simp only [evA, evB] at h; omega)
    rw [j_kr]; simp only [evF]
    rw [jG_step _ _ _ _ (evF_ge fs (b + 1)), ← this]
  | .d :: es, .k :: fs, a, b, h => by
    have := joinF es fs a (b + 1) (by simp only [evA, evB] at h; omega)
    rw [j_dk]; simp only [evF, List.map_cons]
    rw [jG_step _ _ _ _ (evF_ge fs (b + 1)), ← this]
    simp [jG]
  | .d :: es, .r c :: fs, a, b, h => by
    have := joinF es fs a (b + 1) (by simp only [evA, evB] at h; omega)
    rw [j_dr]; simp only [evF]
    rw [jG_step _ _ _ _ (evF_ge fs (b + 1)), ← this]
  | .k :: es, [], a, b, h => by simp [evA, evB] at h
  | .d :: es, [], a, b, h => by simp [evA, evB] at h
  | [], .k :: fs, a, b, h => by simp [evA, evB] at h
  | [], .r c :: fs, a, b, h => by simp [evA, evB] at h
  | [], [], a, b, h => by simp [evF]
termination_by es fs => es.length + fs.length
theorem join_from (es fs : List Ev) (h : evB es = evA fs) : evF 0 (joinE es fs) = (evF 0 fs).map (jF (evF 0 es)) := by
  rw [joinF es fs 0 0 h]
  apply List.map_congr_left
  intro i hi
  simp [jF, jG]

/-- what 'joined' writes into Back -/
def setF : List Int → List Int → List Int → List Int
  | z, [], _ => z
  | z, _, [] => z
  | z, i :: xf, v :: yb => setF (if 0 ≤ i then z.set i.toNat v else z) xf yb
def kk : List Ev → List Int → List Int
  | [], _ => []
  | .r c :: es, yb => (c.toNat : Int) :: kk es yb
  | .k :: es, v :: yb => v :: kk es yb
  | .d :: es, _ :: yb => kk es yb
  | .k :: es, [] => []
  | .d :: es, [] => []
theorem setF_kk (es : List Ev) : ∀ (pre yb : List Int), evB es = yb.length → setF (pre ++ evK es) (evF pre.length es) yb = pre ++ kk es yb := by
  induction es with
  | nil => intro pre yb h; simp [evF, evK, setF, kk]
  | cons e es ih =>
    intro pre yb h
    cases e with
    | r c =>
      have := ih (pre ++ [(c.toNat : Int)]) yb h
      simp only [List.length_append, List.length_cons, List.length_nil, List.append_assoc, List.cons_append, List.nil_append] at this
      simpa [evF, evK, kk] using this
    | k =>
      match yb, h with
      | [], h => simp [evB] at h
      | v :: yb, h =>
        have := ih (pre ++ [v]) yb (by simpa [evB] using h)
        simp only [List.length_append, List.length_cons, List.length_nil, List.append_assoc, List.cons_append, List.nil_append] at this
        simp only [evF, evK, setF, kk]
        rw [if_pos (by omega), ← this]
        congr 1
        simp
    | d =>
      match yb, h with
      | [], h => simp [evB] at h
      | v :: yb, h =>
        have := ih pre yb (by simpa [evB] using h)
        simp only [evF, evK, setF, kk]
        rw [if_neg (by omega), this]
theorem kk_join : ∀ (es fs : List Ev), evB es = evA fs → evK (joinE es fs) = kk es (evK fs)
  | .r c :: es, fs, h => by
    rw [j_r]; simp only [evK, kk]; rw [kk_join es fs (by simpa [evB] using h)]
  | .k :: es, .d :: fs, h => by
    have := kk_join (.k :: es) fs (by simpa [evA] using h)
    rw [j_kd]; simp only [evK]; exact this
  | .d :: es, .d :: fs, h => by
    have := kk_join (.d :: es) fs (by simpa [evA] using h)
    rw [j_dd]; simp only [evK]; exact this
  | [], .d :: fs, h => by
    have := kk_join [] fs (by simpa [evA] using h)
    rw [j_nd]; simp only [evK]; exact this
  | .k :: es, .k :: fs, h => by
    have := kk_join es fs (by simp only [evA, evB] at h; omega)
    rw [j_kk]; simp only [evK, kk]; rw [this]
  | .k :: es, .r c :: fs, h => by
    have := kk_join es fs (by simp only [evA, evB] at h; omega)
    rw [j_kr]; simp only [evK, kk]; rw [this]
  | .d :: es, .k :: fs, h => by
    have := kk_join es fs (by simp only [evA, evB] at h; omega)
    rw [j_dk]; simp only [evK, kk]; exact this
  | .d :: es, .r c :: fs, h => by
    have := kk_join es fs (by simp only [evA, evB] at h; omega)
    rw [j_dr]; simp only [evK, kk]; exact this
  | .k :: es, [], h => by simp [evA, evB] at h
  | .d :: es, [], h => by simp [evA, evB] at h
  | [], .k :: fs, h => by simp [evA, evB] at h
  | [], .r c :: fs, h => by simp [evA, evB] at h
  | [], [], h => by simp [evK, kk]
termination_by es fs => es.length + fs.length
theorem join_back (es fs : List Ev) (h : evB es = evA fs) : setF (evK es) (evF 0 es) (evK fs) = evK (joinE es fs) := by
  have := setF_kk es [] (evK fs) (by rw [evK_len]; exact h)
  rw [kk_join es fs h]
  exact this
theorem setF_drop (z xf yb : List Int) (b : Nat) (h : b < xf.length) (g : b < yb.length) : setF z (xf.drop b) (yb.drop b) = setF (if 0 ≤ xf[b] then z.set xf[b].toNat yb[b] else z) (xf.drop (b + 1)) (yb.drop (b + 1)) := by
  rw [List.drop_eq_getElem_cons h, List.drop_eq_getElem_cons g]; rfl

/-- what stands in From and Back of blocks -/
theorem evF_rep_d (n a : Nat) (x : List Ev) : evF a (List.replicate n .d ++ x) = List.replicate n (-1) ++ evF a x := by
  induction n with
  | zero => rfl
  | succ n ih => simp [List.replicate_succ, evF, ih]
theorem evK_rep_d (n : Nat) (x : List Ev) : evK (List.replicate n .d ++ x) = evK x := by
  induction n with
  | zero => rfl
  | succ n ih => simp [List.replicate_succ, evK, ih]
theorem evF_map_r (s : List UInt8) (x : List Ev) : ∀ a, evF a (s.map .r ++ x) = evF (a + s.length) x := by
  induction s with
  | nil => intro a; rfl
  | cons c s ih => intro a; simp [evF, ih]; congr 1; omega
theorem evK_map_r (s : List UInt8) (x : List Ev) : evK (s.map .r ++ x) = s.map (fun c => (c.toNat : Int)) ++ evK x := by
  induction s with
  | nil => rfl
  | cons c s ih => simp [evK, ih]
theorem evK_rep_k (n : Nat) (x : List Ev) : evK (List.replicate n .k ++ x) = List.replicate n (-1) ++ evK x := by
  induction n with
  | zero => rfl
  | succ n ih => simp [List.replicate_succ, evK, ih]
theorem tail_F (bs : List Blk) (h : wfTail bs) (a : Nat) : (evF a (evBlks bs)).head? ≠ some (a : Int) := by
  match bs, h with
  | [], _ => simp [evBlks, evF]
  | b :: bs, h =>
    simp only [evBlks, evBlk, List.append_assoc]
    rw [evF_rep_d, evF_map_r]
    by_cases hd : b.d = 0
    · have hs : b.s ≠ [] := by
        cases bs with
        | nil => rcases h with h | h; · omega
                 · exact h
        | cons c l => rcases h.1 with h | h; · omega
                      · exact h
      have : 0 < b.s.length := List.length_pos_iff.2 hs
      rw [hd]
      simp only [List.replicate_zero, List.nil_append]
      intro e
      have m := List.mem_of_mem_head? e
      have := evF_ge _ _ _ m
      omega
    · obtain ⟨n, hn⟩ := Nat.exists_eq_succ_of_ne_zero hd
      rw [hn]; simp [List.replicate_succ]
theorem keep_F (m : Nat) (bs : List Blk) (hm : 0 < m ∨ bs = []) (a : Nat) : ∀ i, (evF a (List.replicate m .k ++ evBlks bs)).head? = some i → 0 ≤ i := by
  intro i h
  rcases hm with hm | rfl
  · obtain ⟨n, rfl⟩ := Nat.exists_eq_succ_of_ne_zero (by omega : m ≠ 0)
    simp [List.replicate_succ, evF] at h; omega
  · cases m with
    | zero => simp [evBlks, evF] at h
    | succ n => simp [List.replicate_succ, evF] at h; omega
theorem keep_K (m : Nat) (bs : List Blk) (hm : 0 < m ∨ bs = []) : ∀ i, (evK (List.replicate m .k ++ evBlks bs)).head? = some i → i = -1 := by
  intro i h
  rcases hm with hm | rfl
  · obtain ⟨n, rfl⟩ := Nat.exists_eq_succ_of_ne_zero (by omega : m ≠ 0)
    simp [List.replicate_succ, evK] at h; omega
  · cases m with
    | zero => simp [evBlks, evK] at h
    | succ n => simp [List.replicate_succ, evK] at h; omega
/-- the blocks that are left -/
def wfLeft (bs : List Blk) : Prop := wfBlks bs
theorem wf_tail {b : Blk} {bs : List Blk} (h : wfBlks (b :: bs)) : wfTail bs ∧ (0 < b.m ∨ bs = []) ∧ (0 < b.d ∨ b.s ≠ [] ∨ 0 < b.m) := by
  cases bs with
  | nil => exact ⟨trivial, .inr rfl, h⟩
  | cons c l => exact ⟨h.2, .inl h.1, .inr (.inr h.1)⟩
theorem wfT_wf {bs : List Blk} (h : wfTail bs) : wfBlks bs := by
  cases bs with
  | nil => trivial
  | cons b l =>
    cases l with
    | nil => rcases h with h | h
             · exact .inl h
             · exact .inr (.inl h)
    | cons c l => exact ⟨h.2.1, h.2.2⟩
end M
end Go.Proofs.Ytlppphmnegdhoab

/-
  The document's places: the walk of 'spread'.
-/
namespace Go.Proofs.Ytlppphmnegdhoab
set_option linter.unusedVariables false
open Go.RowKit
open M

def intC (l : List Int) : List Value := l.map fun i => .int .i64 i
theorem intC_snoc (l : List Int) (x : Int) : intC (l ++ [x]) = intC l ++ [.int .i64 x] := by simp [intC]
theorem intC_one (x : Int) : ∀ v ∈ [Value.int .i64 x], v.oneCell' = true := by
  intro v hv; simp at hv; subst hv; rfl
theorem intC_get (l : List Int) (i : Nat) (h : i < l.length) : (intC l)[i]? = some (.int .i64 l[i]) := by
  simp [intC, h]

/-- two slices of numbers that the call owns -/
structure Twin (B : Nat) (w : World) (vf vb : Value) (F K : List Int) : Prop where
  f : w.ownsRow B 3 1 vf F.length (intC F)
  k : w.ownsRow B 3 1 vb K.length (intC K)
  ap : ∀ g, vf.ownBlock = some g → vb.ownBlock ≠ some g
theorem Twin.swap {B : Nat} {w : World} {vf vb : Value} {F K : List Int} (h : Twin B w vf vb F K) : Twin B w vb vf K F :=
  ⟨h.k, h.f, fun g hb hf => h.ap g hf hb⟩
theorem Twin.grow {B : Nat} {w w' : World} {vf vb : Value} {F K : List Int} {o : Obj} {g cap : Nat} {x : Int} (h : Twin B w vf vb F K)
    (hown : w'.ownsRow B 3 1 (.slice (some ⟨g, 0, none⟩) (F.length + 1) cap) (F.length + 1) (intC F ++ [.int .i64 x])) (hg : (w.alloc o).grownBy w' vf.ownBlock) (hat : vf.ownBlock = some g ∨ g = w.heap.size + 1) :
    Twin B w' (.slice (some ⟨g, 0, none⟩) (F.length + 1) cap) vb (F ++ [x]) K := by
  refine ⟨?_, (h.k.alloc o).kept hg ?_, ?_⟩
  · rw [intC_snoc, List.length_append]; exact hown
  · cases hv : vb.ownBlock with
    | none => exact .inl rfl
    | some q => exact .inr (fun e => h.ap q e.symm hv)
  · intro q hq hb
    simp [Value.ownBlock] at hq
    subst hq
    rcases hat with hat | hat
    · exact h.ap _ hat hb
    · have := (h.k.lt _ hb).2; omega
theorem Twin.set {B : Nat} {w : World} {vf vb : Value} {F K : List Int} (h : Twin B w vf vb F K) {a : Addr} (ha : a.block < B) (u : Value) : Twin B (w.setCell a u) vf vb F K :=
  ⟨ownsRow_setCell_below h.f ha u, ownsRow_setCell_below h.k ha u, h.ap⟩
theorem one_new (w : World) (x : Int) (t : TypeId) : ∀ j u, [Value.int .i64 x][j]? = some u → (w.alloc (.cells #[.int .i64 x] t)).cell? ((⟨w.heap.size, 0, none⟩ : Addr).add j) = some u := by
  intro j u h
  match j with
  | 0 => simp at h; subst h; simp [go_sem, Addr.add]
  | j + 1 => simp at h

/-- two boxes: the answer's (empty yet) and that of the places -/
structure SBox (b : Nat) (w : World) (vf vb : Value) : Prop where
  r0 : w.cell? ⟨b, 0, none⟩ = some (.slice none 0 0)
  r1 : w.cell? ⟨b, 1, none⟩ = some (.slice none 0 0)
  f0 : w.frozen? ⟨b, 0, none⟩ = false
  f1 : w.frozen? ⟨b, 1, none⟩ = false
  x0 : w.cell? ⟨b + 1, 0, none⟩ = some vf
  x1 : w.cell? ⟨b + 1, 1, none⟩ = some vb
  g0 : w.frozen? ⟨b + 1, 0, none⟩ = false
  g1 : w.frozen? ⟨b + 1, 1, none⟩ = false
theorem SBox.keep {b : Nat} {w w' : World} {vf vb : Value} (h : SBox b w vf vb) (hk : ∀ k, k < b + 2 → w'.heap[k]? = w.heap[k]?) : SBox b w' vf vb := by
  have hc : ∀ k o, k < b + 2 → w'.cell? ⟨k, o, none⟩ = w.cell? ⟨k, o, none⟩ := fun k o hk2 => World.cell?_of_block (hk k hk2)
  have hf : ∀ k o, k < b + 2 → w'.frozen? ⟨k, o, none⟩ = w.frozen? ⟨k, o, none⟩ := fun k o hk2 => World.frozen?_of_block (hk k hk2)
  have l0 : b < b + 2 := by omega
  have l1 : b + 1 < b + 2 := by omega
  exact ⟨(hc _ _ l0).trans h.r0, (hc _ _ l0).trans h.r1, (hf _ _ l0).trans h.f0, (hf _ _ l0).trans h.f1, (hc _ _ l1).trans h.x0, (hc _ _ l1).trans h.x1, (hf _ _ l1).trans h.g0, (hf _ _ l1).trans h.g1⟩
theorem SBox.set0 {b : Nat} {w : World} {vf vb : Value} (h : SBox b w vf vb) (u : Value) : SBox b (w.setCell ⟨b + 1, 0, none⟩ u) u vb := by
  obtain ⟨r0, r1, f0, f1, x0, x1, g0, g1⟩ := h
  refine ⟨?_, ?_, ?_, ?_, ?_, ?_, ?_, ?_⟩
  all_goals first | (simp [go_sem, *]; done) | (rw [World.cell?_setCell_other (by simp)]; assumption) | exact World.cell?_setCell_same x0
theorem SBox.set1 {b : Nat} {w : World} {vf vb : Value} (h : SBox b w vf vb) (u : Value) : SBox b (w.setCell ⟨b + 1, 1, none⟩ u) vf u := by
  obtain ⟨r0, r1, f0, f1, x0, x1, g0, g1⟩ := h
  refine ⟨?_, ?_, ?_, ?_, ?_, ?_, ?_, ?_⟩
  all_goals first | (simp [go_sem, *]; done) | (rw [World.cell?_setCell_other (by simp)]; assumption) | exact World.cell?_setCell_same x1

/-- all that the loops of 'spread' hold, at the places so far -/
structure SInv (w wr : World) (vf vb : Value) (F K : List Int) : Prop where
  box : SBox w.heap.size wr vf vb
  twin : Twin (w.heap.size + 2) wr vf vb F K
  below : Below w.heap.size w wr
  size : w.heap.size + 2 ≤ wr.heap.size
theorem grow_keep {wr w3 : World} {o : Obj} {v : Value} {b : Nat} {n : Nat} {xs : List Value} (hown : wr.ownsRow (b + 2) 3 1 v n xs) (hs : b + 2 ≤ wr.heap.size) (hgrow : (wr.alloc o).grownBy w3 v.ownBlock) : ∀ k, k < b + 2 → w3.heap[k]? = wr.heap[k]? := fun k hk => by
  rw [hgrow.block k (by simp; omega) (fun e => by have := (hown.lt k e.symm).1; omega), Below.heap_alloc _ _ _ (by omega)]
theorem SInv.grow0 {w wr w3 : World} {vf vb : Value} {F K : List Int} {o : Obj} {g cap : Nat} {x : Int} (h : SInv w wr vf vb F K)
    (hown : w3.ownsRow (w.heap.size + 2) 3 1 (.slice (some ⟨g, 0, none⟩) (F.length + 1) cap) (F.length + 1) (intC F ++ [.int .i64 x])) (hg : (wr.alloc o).grownBy w3 vf.ownBlock) (hat : vf.ownBlock = some g ∨ g = wr.heap.size + 1) :
    SBox w.heap.size w3 vf vb ∧ SInv w (w3.setCell ⟨w.heap.size + 1, 0, none⟩ (.slice (some ⟨g, 0, none⟩) (F.length + 1) cap)) (.slice (some ⟨g, 0, none⟩) (F.length + 1) cap) vb (F ++ [x]) K := by
  have hb := h.box.keep (grow_keep h.twin.f h.size hg)
  refine ⟨hb, hb.set0 _, (h.twin.grow hown hg hat).set (by simp) _, ?_, ?_⟩
  · exact ((h.below.alloc (by have := h.size; omega) _).grown hg (by have := h.size; simp; omega) (fun k hk => by have := (h.twin.f.lt k hk).1; omega)).setCell (by simp) _
  · have := hg.size; have := h.size; simp at *; omega
theorem SInv.grow1 {w wr w3 : World} {vf vb : Value} {F K : List Int} {o : Obj} {g cap : Nat} {x : Int} (h : SInv w wr vf vb F K)
    (hown : w3.ownsRow (w.heap.size + 2) 3 1 (.slice (some ⟨g, 0, none⟩) (K.length + 1) cap) (K.length + 1) (intC K ++ [.int .i64 x])) (hg : (wr.alloc o).grownBy w3 vb.ownBlock) (hat : vb.ownBlock = some g ∨ g = wr.heap.size + 1) :
    SBox w.heap.size w3 vf vb ∧ SInv w (w3.setCell ⟨w.heap.size + 1, 1, none⟩ (.slice (some ⟨g, 0, none⟩) (K.length + 1) cap)) vf (.slice (some ⟨g, 0, none⟩) (K.length + 1) cap) F (K ++ [x]) := by
  have hb := h.box.keep (grow_keep h.twin.k h.size hg)
  refine ⟨hb, hb.set1 _, (h.twin.swap.grow hown hg hat).swap.set (by simp) _, ?_, ?_⟩
  · exact ((h.below.alloc (by have := h.size; omega) _).grown hg (by have := h.size; simp; omega) (fun k hk => by have := (h.twin.k.lt k hk).1; omega)).setCell (by simp) _
  · have := hg.size; have := h.size; simp at *; omega

theorem evF_snoc_k (es : List Ev) : evF 0 (es ++ [.k]) = evF 0 es ++ [((evK es).length : Int)] := by rw [evF_append]; simp [evF, evK_len]
theorem evK_snoc_k (es : List Ev) : evK (es ++ [.k]) = evK es ++ [-1] := by rw [evK_append]; simp [evK]
theorem evF_snoc_d (es : List Ev) : evF 0 (es ++ [.d]) = evF 0 es ++ [-1] := by rw [evF_append]; simp [evF]
theorem evK_snoc_d (es : List Ev) : evK (es ++ [.d]) = evK es := by rw [evK_append]; simp [evK]
theorem evF_snoc_r (es : List Ev) (c : UInt8) : evF 0 (es ++ [.r c]) = evF 0 es := by rw [evF_append]; simp [evF]
theorem evK_snoc_r (es : List Ev) (c : UInt8) : evK (es ++ [.r c]) = evK es ++ [(c.toNat : Int)] := by rw [evK_append]; simp [evK]
def evAt (r : M.Rec) (j : Nat) : List Ev := (expR r).take j
theorem evAt_k (r : M.Rec) (j : Nat) (h : r.kind = 0) (hj : (j : Int) < r.n) : evAt r (j + 1) = evAt r j ++ [.k] := by
  have e : expR r = List.replicate r.n.toNat .k := by simp [expR, h]
  unfold evAt
  rw [e, List.take_succ_eq_append_getElem (by simp; omega)]
  simp
theorem evAt_d (r : M.Rec) (j : Nat) (h : r.kind = 1) (hj : (j : Int) < r.n) : evAt r (j + 1) = evAt r j ++ [.d] := by
  have e : expR r = List.replicate r.n.toNat .d := by simp [expR, h]
  unfold evAt
  rw [e, List.take_succ_eq_append_getElem (by simp; omega)]
  simp
theorem evAt_r (r : M.Rec) (j : Nat) (h : r.kind = 2) (hj : j < r.s.size) : evAt r (j + 1) = evAt r j ++ [.r r.s[j]] := by
  have e : expR r = r.s.data.toList.map .r := by simp [expR, h]
  unfold evAt
  have hl := ba_len r.s
  rw [e, List.take_succ_eq_append_getElem (by simpa using hj)]
  simp
  rfl
theorem evAt_all (r : M.Rec) (h : okRec r = true) (j : Nat) (hj : r.n ≤ j) : evAt r j = expR r := by
  have hk := (okRec_iff r).1 h
  have hl := ba_len r.s
  unfold evAt
  apply List.take_of_length_le
  unfold expR
  split
  · simp; omega
  · split
    · simp; omega
    · simp only [List.length_map]; omega
theorem exp_take (l : List M.Rec) (k : Nat) (h : k < l.length) : expL (l.take (k + 1)) = expL (l.take k) ++ expR l[k] := by
  rw [List.take_succ_eq_append_getElem h, expL_append]; simp [expL]
theorem exp_le (l : List M.Rec) (hok : okAll l) (k : Nat) (h : k < l.length) (j : Nat) : (evA (expL (l.take k) ++ evAt l[k] j) : Int) ≤ lenA l ∧ (evB (expL (l.take k) ++ evAt l[k] j) : Int) ≤ lenB l := by
  have e : expL l = (expL (l.take k) ++ evAt l[k] j) ++ ((expR l[k]).drop j ++ expL (l.drop (k + 1))) := by
    unfold evAt
    rw [List.append_assoc, ← List.append_assoc ((expR l[k]).take j), List.take_append_drop, ← List.append_assoc, ← exp_take l k h, ← expL_append, List.take_append_drop]
  have hl := expL_len l hok
  rw [e, evA_append, evB_append] at hl
  omega

theorem infoInt : (Try.prog.info? 3).map (fun i => (i.zero, i.size, i.bytes)) = some (some (.int .i64 0), 1, 8) := by kernel_rfl
theorem undInt : Try.prog.underlying 77 = some (.slice 3) := by kernel_rfl
/-- what 'spread' answers -/
def SpreadPost (l : List M.Rec) (w w' : World) (e : Ending) : Prop :=
  ∃ vf vb, e = .returned (.agg #[vf, vb]) ∧ Twin w.heap.size w' vf vb (evF 0 (expL l)) (evK (expL l)) ∧ Below w.heap.size w w'
end Go.Proofs.Ytlppphmnegdhoab

/-
  The document's short list: what its loops meet.
-/
namespace Go.Proofs.Ytlppphmnegdhoab
set_option linter.unusedVariables false
open Go.RowKit
open M

/-- a slice of numbers, to be read -/
structure IntsAt (w : World) (a : Option Addr) (F : List Int) : Prop where
  cells : F = [] ∨ ∃ g, a = some ⟨g, 0, none⟩ ∧ g < w.heap.size ∧ ∀ i (h : i < F.length), w.cell? ⟨g, i, none⟩ = some (.int .i64 F[i])
theorem ints_own {w : World} {B : Nat} {a : Option Addr} {c : Nat} {F : List Int} (h : w.ownsRow B 3 1 (.slice a F.length c) F.length (intC F)) : IntsAt w a F := by
  by_cases h0 : F = []
  · exact ⟨.inl h0⟩
  · have hp : 0 < F.length := List.length_pos_iff.2 h0
    obtain ⟨g, cap, e, _, hg⟩ := h.form hp
    simp only [Value.slice.injEq] at e
    obtain ⟨rfl, _, rfl⟩ := e
    refine ⟨.inr ⟨g, rfl, hg, fun i hi => ?_⟩⟩
    rw [h.cellAt i (by omega), intC_get F i hi]

theorem drop_get {F G : List Int} {b : Nat} (h : F.drop b = G) (t : Nat) : F[b + t]? = G[t]? := by rw [← h, List.getElem?_drop]
theorem drop_len {F G : List Int} {b : Nat} (h : F.drop b = G) (hb : b ≤ F.length) : F.length = b + G.length := by rw [← h, List.length_drop]; omega
theorem get_some {F : List Int} {i : Nat} {x : Int} (h : F[i]? = some x) : ∃ hi : i < F.length, F[i] = x := List.getElem?_eq_some_iff.1 h

/-- From, where a block begins: its Drops -/
theorem drops_at {F G : List Int} {b d : Nat} (h : F.drop b = List.replicate d (-1) ++ G) (hb : b ≤ F.length) (hG : ∀ i, G.head? = some i → 0 ≤ i) :
    (∀ t, t < d → ∃ hi : b + t < F.length, F[b + t] = -1) ∧ (∀ hi : b + d < F.length, 0 ≤ F[b + d]) ∧ b + d ≤ F.length ∧ F.drop (b + d) = G := by
  refine ⟨fun t ht => ?_, fun hi => ?_, ?_, ?_⟩
  · apply get_some; rw [drop_get h, List.getElem?_append_left (by simpa using ht)]; simp [ht]
  · apply hG
    rw [List.head?_eq_getElem?]
    have := drop_get h d
    rw [List.getElem?_append_right (by simp)] at this
    simp at this
    rw [List.getElem?_eq_getElem hi] at this
    simpa using this.symm
  · have := drop_len h hb; simp at this; omega
  · rw [← List.drop_drop, h, List.drop_append_of_le_length (by simp), List.drop_of_length_le (by simp)]; rfl
/-- Back: its Restores -/
theorem rests_at {K G : List Int} {a : Nat} {s : List UInt8} (h : K.drop a = s.map (fun c => (c.toNat : Int)) ++ G) (ha : a ≤ K.length) (hG : ∀ i, G.head? = some i → i = -1) :
    (∀ t (ht : t < s.length), ∃ hi : a + t < K.length, K[a + t] = (s[t].toNat : Int)) ∧ (∀ hi : a + s.length < K.length, K[a + s.length] = -1) ∧ a + s.length ≤ K.length ∧ K.drop (a + s.length) = G := by
  refine ⟨fun t ht => ?_, fun hi => ?_, ?_, ?_⟩
  · apply get_some; rw [drop_get h, List.getElem?_append_left (by simpa using ht)]; simp [ht]
  · apply hG
    rw [List.head?_eq_getElem?]
    have := drop_get h s.length
    rw [List.getElem?_append_right (by simp)] at this
    simp at this
    rw [List.getElem?_eq_getElem hi] at this
    simpa using this.symm
  · have := drop_len h ha; simp at this; omega
  · rw [← List.drop_drop, h, List.drop_append_of_le_length (by simp), List.drop_of_length_le (by simp)]; rfl
theorem evF_rep_k (m : Nat) (x : List Ev) : ∀ a t, t < m → (evF a (List.replicate m .k ++ x))[t]? = some ((a + t : Nat) : Int) := by
  induction m with
  | zero => intro a t h; omega
  | succ m ih =>
    intro a t h
    simp only [List.replicate_succ, List.cons_append, evF]
    cases t with
    | zero => simp
    | succ t => rw [List.getElem?_cons_succ, ih (a + 1) t (by omega)]; congr 2; omega
theorem evF_rep_k_drop (m : Nat) (x : List Ev) : ∀ a, (evF a (List.replicate m .k ++ x)).drop m = evF (a + m) x := by
  induction m with
  | zero => intro a; simp
  | succ m ih => intro a; simp only [List.replicate_succ, List.cons_append, evF, List.drop_succ_cons]; rw [ih (a + 1)]; congr 1; omega
/-- both: its Keeps -/
theorem keeps_at {F K : List Int} {a b m : Nat} {bs : List Blk} (h : F.drop b = evF a (List.replicate m .k ++ evBlks bs)) (g : K.drop a = List.replicate m (-1) ++ evK (evBlks bs)) (hb : b ≤ F.length) (ha : a ≤ K.length) (hw : wfTail bs) :
    (∀ t, t < m → a + t < K.length ∧ ∃ hi : b + t < F.length, F[b + t] = ((a + t : Nat) : Int)) ∧ (∀ hi : b + m < F.length, F[b + m] ≠ ((a + m : Nat) : Int)) ∧ b + m ≤ F.length ∧ a + m ≤ K.length ∧ F.drop (b + m) = evF (a + m) (evBlks bs) ∧ K.drop (a + m) = evK (evBlks bs) := by
  have hF : F.drop (b + m) = evF (a + m) (evBlks bs) := by rw [← List.drop_drop, h, evF_rep_k_drop]
  have lf := drop_len h hb
  have lk := drop_len g ha
  rw [evF_len, evB_append, (ev_rep_k m).2] at lf
  simp at lk
  refine ⟨fun t ht => ⟨by omega, ?_⟩, fun hi e => ?_, by omega, by omega, hF, ?_⟩
  · apply get_some; rw [drop_get h, evF_rep_k m _ a t ht]
  · apply tail_F bs hw (a + m)
    rw [← hF, List.head?_drop, List.getElem?_eq_getElem hi, e]
  · rw [← List.drop_drop, g, List.drop_append_of_le_length (by simp), List.drop_of_length_le (by simp)]; rfl

theorem count_le (l : List M.Rec) (h : okAll l) : (l.length : Int) ≤ lenA l + lenB l := by
  induction l with
  | nil => simp [lenA, lenB]
  | cons r l ih =>
    have h1 := ih (okAll_cons h).2
    have h2 := inAB r (okAll_cons h).1
    have h3 := ((okRec_iff r).1 (okAll_cons h).1).1
    simp only [List.length_cons, lenA, lenB]
    omega
theorem norm_count (es : List Ev) : (norm es).length ≤ evA es + evB es := by
  have h := count_le _ (norm_ok es)
  have g := norm_len es
  omega
/-- where the outer loop stands -/
structure ShAt (F K : List Int) (L all : List M.Rec) (bs : List Blk) (a b : Nat) : Prop where
  wf : wfBlks bs
  hf : F.drop b = evF a (evBlks bs)
  hk : K.drop a = evK (evBlks bs)
  hb : b ≤ F.length
  ha : a ≤ K.length
  out : L ++ outBs bs = all
theorem ShAt.start (es : List Ev) : ShAt (evF 0 es) (evK es) [] (norm es) (nb 0 [] 0 es) 0 0 :=
  ⟨nb_wf es 0 [] 0, by rw [List.drop_zero, (nb_can es).F], by rw [List.drop_zero, (nb_can es).K], Nat.zero_le _, Nat.zero_le _, rfl⟩
theorem ShAt.fin {F K : List Int} {L all : List M.Rec} {a b : Nat} (h : ShAt F K L all [] a b) : a = K.length ∧ b = F.length ∧ L = all := by
  have h1 := drop_len h.hf h.hb
  have h2 := drop_len h.hk h.ha
  have h3 := h.out
  simp [evBlks, evF, evK, outBs] at h1 h2 h3
  exact ⟨h2.symm, h1.symm, h3⟩
/-- all that a round needs to know of its block -/
structure ShRound (F K : List Int) (L all : List M.Rec) (blk : Blk) (bs : List Blk) (a b : Nat) : Prop where
  some : 0 < blk.d ∨ blk.s ≠ [] ∨ 0 < blk.m
  drops : ∀ t, t < blk.d → ∃ hi : b + t < F.length, F[b + t] = -1
  dend : ∀ hi : b + blk.d < F.length, 0 ≤ F[b + blk.d]
  rests : ∀ t (ht : t < blk.s.length), ∃ hi : a + t < K.length, K[a + t] = (blk.s[t].toNat : Int)
  rend : ∀ hi : a + blk.s.length < K.length, K[a + blk.s.length] = -1
  keeps : ∀ t, t < blk.m → a + blk.s.length + t < K.length ∧ ∃ hi : b + blk.d + t < F.length, F[b + blk.d + t] = ((a + blk.s.length + t : Nat) : Int)
  kend : ∀ hi : b + blk.d + blk.m < F.length, F[b + blk.d + blk.m] ≠ ((a + blk.s.length + blk.m : Nat) : Int)
  la : a + blk.s.length + blk.m ≤ K.length
  lb : b + blk.d + blk.m ≤ F.length
  next : ShAt F K (L ++ (rDrop blk.d ++ (rRest blk.s ++ rKeep blk.m))) all bs (a + blk.s.length + blk.m) (b + blk.d + blk.m)
theorem ShAt.round {F K : List Int} {L all : List M.Rec} {blk : Blk} {bs : List Blk} {a b : Nat} (h : ShAt F K L all (blk :: bs) a b) : ShRound F K L all blk bs a b := by
  obtain ⟨w1, w2, w3⟩ := wf_tail h.wf
  have hf := h.hf
  have hk := h.hk
  simp only [evBlks, evBlk, List.append_assoc] at hf hk
  rw [evF_rep_d, evF_map_r] at hf
  rw [evK_rep_d, evK_map_r] at hk
  obtain ⟨p1, p2, p3, p4⟩ := drops_at hf h.hb (keep_F _ _ w2 _)
  obtain ⟨q1, q2, q3, q4⟩ := rests_at hk h.ha (keep_K _ _ w2)
  rw [evK_rep_k] at q4
  obtain ⟨r1, r2, r3, r4, r5, r6⟩ := keeps_at p4 q4 p3 q3 w1
  refine ⟨w3, p1, p2, q1, q2, r1, r2, r4, r3, wfT_wf w1, r5, r6, r3, r4, ?_⟩
  have := h.out
  simp only [outBs, outB] at this
  rw [← this]
  simp only [List.append_assoc]
end Go.Proofs.Ytlppphmnegdhoab

/-
  Expressions: marks, items, what matches: plain mathematics.
-/
namespace Go.Proofs.Ytlppphmnegdhoab
set_option linter.unusedVariables false
namespace M

/-- a byte of an expression; p: it stands without a sign ahead of it -/
structure Mk where
  b : Nat
  p : Bool
def Mk.is (m : Mk) (c : Nat) : Bool := m.p && m.b == c
def escB (d : UInt8) : Nat := if d.toNat = 110 then 10 else d.toNat
def preM (m : Mk) (r : List Mk × List UInt8) : List Mk × List UInt8 := (m :: r.1, r.2)
/-- the marks up to the next plain slash, and what stands behind it -/
def uptoM : List UInt8 → Option (List Mk × List UInt8)
  | [] => none
  | [c] => if c.toNat = 47 then some ([], []) else none
  | c :: d :: t => if c.toNat = 47 then some ([], d :: t) else if c.toNat = 92 then (uptoM t).map (preM ⟨escB d, false⟩) else (uptoM (d :: t)).map (preM ⟨c.toNat, true⟩)
def catM (l : List Mk) (r : List Mk × List UInt8) : List Mk × List UInt8 := (l ++ r.1, r.2)
theorem upto_slash (c : UInt8) (t : List UInt8) (h : c.toNat = 47) : uptoM (c :: t) = some ([], t) := by
  cases t with
  | nil => simp [uptoM, h]
  | cons d t => simp [uptoM, h]
theorem upto_plain (c : UInt8) (t : List UInt8) (h : c.toNat ≠ 47) (h2 : c.toNat ≠ 92) : uptoM (c :: t) = (uptoM t).map (preM ⟨c.toNat, true⟩) := by
  cases t with
  | nil => simp [uptoM, h]
  | cons d t => simp [uptoM, h, h2]
theorem upto_esc (c d : UInt8) (t : List UInt8) (h : c.toNat = 92) : uptoM (c :: d :: t) = (uptoM t).map (preM ⟨escB d, false⟩) := by
  simp [uptoM, h]
theorem upto_end (c : UInt8) (h : c.toNat = 92) : uptoM [c] = none := by simp [uptoM, h]
theorem cat_pre (l : List Mk) (m : Mk) (o : Option (List Mk × List UInt8)) : (o.map (preM m)).map (catM l) = o.map (catM (l ++ [m])) := by
  cases o with
  | none => rfl
  | some r => simp [preM, catM]

/-- an item: pairs of bytes; all others; all; any number of them -/
structure It where
  any : Bool
  not : Bool
  star : Bool
  rng : List (Nat × Nat)
structure Ex where
  head : Bool
  tail : Bool
  l : List It
def hasI (x : It) (c : Nat) : Bool := x.any || (x.rng.any (fun r => decide (r.1 ≤ c) && decide (c ≤ r.2)) != x.not)

/-- the members of a set, from a mark on -/
def membersM : List Mk → List (Nat × Nat) → Option (List (Nat × Nat) × List Mk)
  | [], _ => none
  | [m], acc => if m.is 93 then (if acc = [] then none else some (acc, [])) else none
  | [m, d], acc => if m.is 93 then (if acc = [] then none else some (acc, [d])) else if m.is 45 then none else if d.is 45 then none else membersM [d] (acc ++ [(m.b, m.b)])
  | m :: d :: h :: v, acc =>
    if m.is 93 then (if acc = [] then none else some (acc, d :: h :: v)) else if m.is 45 then none
    else if d.is 45 then (if h.is 93 || h.is 45 || decide (h.b < m.b) then none else membersM v (acc ++ [(m.b, h.b)]))
    else membersM (d :: h :: v) (acc ++ [(m.b, m.b)])
/-- a set, behind its bracket -/
def setM : List Mk → Option (Bool × List (Nat × Nat) × List Mk)
  | [] => none
  | d :: u => if d.is 94 then (membersM u []).map (fun r => (true, r.1, r.2)) else (membersM (d :: u) []).map (fun r => (false, r.1, r.2))
/-- an item without its star -/
def bareM : List Mk → Option (It × List Mk)
  | [] => none
  | c :: t =>
    if c.is 46 then some (⟨true, false, false, []⟩, t)
    else if c.is 91 then (setM t).map (fun r => (⟨false, r.1, false, r.2.1⟩, r.2.2))
    else if c.is 42 || c.is 93 || c.is 94 || c.is 36 then none
    else some (⟨false, false, false, [(c.b, c.b)]⟩, t)
def starM (r : It × List Mk) : It × List Mk :=
  match r.2 with
  | [] => r
  | d :: u => if d.is 42 then (⟨r.1.any, r.1.not, true, r.1.rng⟩, u) else r
def itemM (m : List Mk) : Option (It × List Mk) := (bareM m).map starM
def itemsM : Nat → List Mk → Option (List It)
  | _, [] => some []
  | 0, _ => none
  | n + 1, m :: t => match itemM (m :: t) with
    | none => none
    | some (x, r) => (itemsM n r).map (x :: ·)
/-- an expression of marks -/
def expM (m : List Mk) : Option Ex :=
  if m = [] then none else
  let hd := (m.head?.map (·.is 94)).getD false
  let at' := if hd then 1 else 0
  let tl := decide (at' < m.length) && (m.getLast?.map (·.is 36)).getD false
  let body := (if tl then m.take (m.length - 1) else m).drop at'
  (itemsM body.length body).map (fun l => ⟨hd, tl, l⟩)

/-- do the items match just these bytes -/
def mt : List It → List UInt8 → Bool
  | [], s => s.isEmpty
  | x :: l, [] => x.star && mt l []
  | x :: l, c :: t => if x.star then mt l (c :: t) || (hasI x c.toNat && mt (x :: l) t) else hasI x c.toNat && mt l t
termination_by l s => (l.length, s.length)
theorem mt_nil (s : List UInt8) : mt [] s = s.isEmpty := by rw [mt]
theorem mt_end (x : It) (l : List It) : mt (x :: l) [] = (x.star && mt l []) := by rw [mt]
theorem mt_cons (x : It) (l : List It) (c : UInt8) (t : List UInt8) : mt (x :: l) (c :: t) = if x.star then mt l (c :: t) || (hasI x c.toNat && mt (x :: l) t) else hasI x c.toNat && mt l t := by rw [mt]
/-- from i to j of a text -/
def seg (s : List UInt8) (i j : Nat) : List UInt8 := (s.take j).drop i
def matchX (x : Ex) (s : List UInt8) (i j : Nat) : Bool := decide (i ≤ j) && decide (j ≤ s.length) && (!x.head || decide (i = 0)) && (!x.tail || decide (j = s.length)) && mt x.l (seg s i j)
/-- what Find finds -/
def FindAt (x : Ex) (s : List UInt8) (at' : Nat) (i j : Int) : Prop :=
  (i = -1 ∧ j = -1 ∧ ∀ a b, at' ≤ a → matchX x s a b = false) ∨ ∃ a b : Nat, i = a ∧ j = b ∧ at' ≤ a ∧ matchX x s a b = true ∧ (∀ c d, at' ≤ c → c < a → matchX x s c d = false) ∧ ∀ d, b < d → matchX x s a d = false
/-- the expression that a text is -/
def expOf (re : List UInt8) : Option Ex :=
  match uptoM (re ++ [47]) with
  | some (m, []) => if re.any (fun c => c.toNat == 10) then none else expM m
  | _ => none
/-- what Find answers -/
def FindSpec (re s : ByteArray) (at' : Int) (i j e : Int) : Prop :=
  ((400 < re.size ∨ 256 < s.size) ∧ i = 0 ∧ j = 0 ∧ e = 1) ∨ ((re.size ≤ 400 ∧ s.size ≤ 256) ∧
    ((expOf re.data.toList = none ∧ i = 0 ∧ j = 0 ∧ e = 2) ∨ ∃ x, expOf re.data.toList = some x ∧
      (((at' < 0 ∨ (s.size : Int) < at') ∧ i = 0 ∧ j = 0 ∧ e = 3) ∨ ∃ n : Nat, at' = n ∧ n ≤ s.size ∧ e = 0 ∧ FindAt x s.data.toList n i j)))
theorem findAt_same {x : Ex} {s : List UInt8} {n : Nat} {i j i' j' : Int} (h : FindAt x s n i j) (g : FindAt x s n i' j') : i = i' ∧ j = j' := by
  rcases h with ⟨rfl, rfl, h⟩ | ⟨a, b, rfl, rfl, h1, h2, h3, h4⟩ <;> rcases g with ⟨rfl, rfl, g⟩ | ⟨c, d, rfl, rfl, g1, g2, g3, g4⟩
  · exact ⟨rfl, rfl⟩
  · rw [h c d g1] at g2; cases g2
  · rw [g a b h1] at h2; cases h2
  · have e1 : a = c := by
      rcases Nat.lt_trichotomy a c with h | h | h
      · rw [g3 a b h1 h] at h2; cases h2
      · exact h
      · rw [h3 c d g1 h] at g2; cases g2
    subst e1
    have e2 : b = d := by
      rcases Nat.lt_trichotomy b d with h | h | h
      · rw [h4 d h] at g2; cases g2
      · exact h
      · rw [g4 b h] at h2; cases h2
    subst e2
    exact ⟨rfl, rfl⟩
end M
end Go.Proofs.Ytlppphmnegdhoab

/-
  The document's expressions: marks in memory: is, newline, upto.
-/
namespace Go.Proofs.Ytlppphmnegdhoab
set_option linter.unusedVariables false
set_option maxRecDepth 100000
open Go.RowKit
open M

theorem infoMark : (Try.prog.info? 89).map (fun i => (i.zero, i.size, i.bytes)) = some (some (.agg #[.int .i64 0, .bool false]), 2, 16) := by kernel_rfl
theorem undMarks : Try.prog.underlying 43 = some (.slice 89) := by kernel_rfl
def markC (m : Mk) : List Value := [.int .i64 m.b, .bool m.p]
def marksC (l : List Mk) : List Value := (l.map markC).flatten
theorem marksC_snoc (l : List Mk) (m : Mk) : marksC (l ++ [m]) = marksC l ++ markC m := by simp [marksC]
theorem markC_one (m : Mk) : ∀ u ∈ markC m, u.oneCell' = true := by
  intro u h
  simp [markC] at h
  rcases h with rfl | rfl <;> rfl
theorem markC_at (w : World) (m : Mk) (t : TypeId) : ∀ j u, (markC m)[j]? = some u → (w.alloc (.cells #[.int .i64 m.b, .bool m.p] t)).cell? ((⟨w.heap.size, 0, none⟩ : Addr).add j) = some u := by
  intro j u h
  match j, h with
  | 0, h => simp [markC] at h; subst h; simp [Addr.add]
  | 1, h => simp [markC] at h; subst h; simp [Addr.add]
  | n + 2, h => simp [markC] at h
/-- a slice of marks, to be read -/
structure MarksAt (w : World) (a : Option Addr) (n : Nat) (l : List Mk) : Prop where
  len : l.length = n
  cells : l = [] ∨ ∃ b off, a = some ⟨b, off, none⟩ ∧ b < w.heap.size ∧ ∀ i (h : i < l.length), w.cell? ⟨b, off + i * 2, none⟩ = some (.int .i64 l[i].b) ∧ w.cell? ⟨b, off + i * 2 + 1, none⟩ = some (.bool l[i].p)
theorem MarksAt.below {w w' : World} {a : Option Addr} {n : Nat} {l : List Mk} (h : MarksAt w a n l) (hb : Below w.heap.size w w') : MarksAt w' a n l := by
  refine ⟨h.len, ?_⟩
  rcases h.cells with h0 | ⟨b, off, ha, hlt, hc⟩
  · exact .inl h0
  · exact .inr ⟨b, off, ha, by have := hb.size; omega, fun i hi => ⟨(hb.cell (by exact hlt)).trans (hc i hi).1, (hb.cell (by exact hlt)).trans (hc i hi).2⟩⟩
theorem MarksAt.below' {w w' : World} {a : Option Addr} {n B : Nat} {l : List Mk} (h : MarksAt w a n l) (hb : Below B w w') (hB : w.heap.size ≤ B) : MarksAt w' a n l := h.below (hb.mono hB)
theorem marksC_get (l : List Mk) : ∀ i (h : i < l.length), (marksC l)[i * 2]? = some (.int .i64 l[i].b) ∧ (marksC l)[i * 2 + 1]? = some (.bool l[i].p) := by
  induction l with
  | nil => intro i h; simp at h
  | cons m l ih =>
    intro i h
    have e : marksC (m :: l) = [.int .i64 m.b, .bool m.p] ++ marksC l := by simp [marksC, markC]
    rw [e]
    cases i with
    | zero => exact ⟨rfl, rfl⟩
    | succ i =>
      have := ih i (by simpa using h)
      have e1 : (i + 1) * 2 = i * 2 + 2 := by omega
      rw [e1]
      simpa using this
theorem marksAt_own {w : World} {B : Nat} {a : Option Addr} {c : Nat} {l : List Mk} (h : w.ownsRow B 89 2 (.slice a l.length c) l.length (marksC l)) : MarksAt w a l.length l := by
  refine ⟨rfl, ?_⟩
  by_cases h0 : l = []
  · exact .inl h0
  · right
    have hp : 0 < l.length := List.length_pos_iff.2 h0
    rcases h.2 with ⟨_, hz⟩ | ⟨g, cap, cur, hv, hb, hg, _⟩
    · omega
    · simp at hv
      obtain ⟨rfl, rfl⟩ := hv
      refine ⟨g, 0, rfl, (h.lt g rfl).2, fun i hi => ?_⟩
      have hc := marksC_get l i hi
      have h1 := h.cells rfl (i * 2) _ hc.1
      have h2 := h.cells rfl (i * 2 + 1) _ hc.2
      have e : ∀ j, (⟨g, 0, none⟩ : Addr).add j = ⟨g, j, none⟩ := fun j => by unfold Addr.add; split <;> simp_all
      rw [e] at h1 h2
      rw [Nat.zero_add]
      exact ⟨h1, h2⟩

set_option maxRecDepth 100000 in
theorem is_calls (m : Mk) (c : Nat) (w : World) : Calls Try.prog 33 #[.agg #[.int .i64 m.b, .bool m.p], .int .i64 c] w fun e w' => e = .returned (.bool (m.is c)) ∧ Below w.heap.size w w' := by
  obtain ⟨b, p⟩ := m
  cases p
  · go_enter Try.func33, Try.ntmps33
    go_wp2
    go_ret
    exact ⟨rfl, (Below.refl _ _).alloc (Nat.le_refl _) _⟩
  · by_cases h : b = c
    · have h1 : ((b : Int) == (c : Int)) = true := by simp [h]
      have H : Hid (Mk.is ⟨b, true⟩ c = true) := by show _ = _; simp [Mk.is, h]
      clear h
      go_enter Try.func33, Try.ntmps33
      go_wp2
      go_ret
      exact ⟨ret_bool (by rw [H.out]), (Below.refl _ _).alloc (Nat.le_refl _) _⟩
    · have h1 : ((b : Int) == (c : Int)) = false := by simp; omega
      have H : Hid (Mk.is ⟨b, true⟩ c = false) := by show _ = _; simp [Mk.is, h]
      go_enter Try.func33, Try.ntmps33
      go_wp2
      go_ret
      exact ⟨ret_bool (by rw [H.out]), (Below.refl _ _).alloc (Nat.le_refl _) _⟩

def hasNL (l : List UInt8) : Bool := l.any (fun c => c.toNat == 10)
end Go.Proofs.Ytlppphmnegdhoab
