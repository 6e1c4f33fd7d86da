import Derived.Test.YtlppphmnegdhoabMg4
import Derived.Deep.CutBlock
/-
  The document's expressions: one item.
-/
namespace Go.Proofs.Ytlppphmnegdhoab
set_option linter.unusedVariables false
set_option maxRecDepth 100000
open Go.RowKit
open M

theorem ItBox.set0 {b : Nat} {w : World} {a n s : Bool} {vf vb : Value} (h : ItBox b w a n s vf vb) (u : Bool) : ItBox b (w.setCell ⟨b, 0, none⟩ (.bool u)) u n s vf vb := by
  obtain ⟨c0, c1, c2, c3, c4, f0, f1, f2, f3, f4⟩ := h
  refine ⟨?_, ?_, ?_, ?_, ?_, ?_, ?_, ?_, ?_, ?_⟩
  all_goals first | (simp [go_sem, *]; done) | (rw [World.cell?_setCell_other (by simp)]; assumption) | exact World.cell?_setCell_same c0
theorem ItBox.set2 {b : Nat} {w : World} {a n s : Bool} {vf vb : Value} (h : ItBox b w a n s vf vb) (u : Bool) : ItBox b (w.setCell ⟨b, 2, none⟩ (.bool u)) a n u vf vb := by
  obtain ⟨c0, c1, c2, c3, c4, f0, f1, f2, f3, f4⟩ := h
  refine ⟨?_, ?_, ?_, ?_, ?_, ?_, ?_, ?_, ?_, ?_⟩
  all_goals first | (simp [go_sem, *]; done) | (rw [World.cell?_setCell_other (by simp)]; assumption) | exact World.cell?_setCell_same c2
/-- an item's ranges, to be read -/
structure RngAt (w : World) (vf vb : Value) (r : List (Nat × Nat)) : Prop where
  f : ∃ a c, vf = .slice a r.length c ∧ IntsAt w a (los r)
  b : ∃ a c, vb = .slice a r.length c ∧ IntsAt w a (his r)
theorem IntsAt.below {w w' : World} {a : Option Addr} {F : List Int} (h : IntsAt w a F) (hb : Below w.heap.size w w') : IntsAt w' a F := by
  rcases h.cells with h0 | ⟨g, ha, hg, hc⟩
  · exact ⟨.inl h0⟩
  · exact ⟨.inr ⟨g, ha, by have := hb.size; omega, fun i hi => (hb.cell (by exact hg)).trans (hc i hi)⟩⟩
theorem RngAt.below {w w' : World} {vf vb : Value} {r : List (Nat × Nat)} (h : RngAt w vf vb r) (hb : Below w.heap.size w w') : RngAt w' vf vb r := by
  obtain ⟨⟨a, c, h1, h2⟩, ⟨a', c', h3, h4⟩⟩ := h
  exact ⟨⟨a, c, h1, h2.below hb⟩, ⟨a', c', h3, h4.below hb⟩⟩
theorem rng_twin {w : World} {B : Nat} {vf vb : Value} {r : List (Nat × Nat)} (h : Twin B w vf vb (los r) (his r)) : RngAt w vf vb r := by
  obtain ⟨a, c, h1⟩ := own_form h.f
  obtain ⟨a', c', h2⟩ := own_form h.k
  have hf := h.f
  have hk := h.k
  rw [h1] at hf
  rw [h2] at hk
  have e1 : (los r).length = r.length := by simp [los]
  have e2 : (his r).length = r.length := by simp [his]
  exact ⟨⟨a, c, by rw [h1, e1], ints_own hf⟩, ⟨a', c', by rw [h2, e2], ints_own hk⟩⟩
/-- what 'item' answers -/
def ItemPost (l : List Mk) (k : Nat) (w w' : World) (e : Ending) : Prop :=
  ∃ (an nt st : Bool) (vf vb : Value), Below w.heap.size w w' ∧ (∃ a1 n1 c1 a2 n2 c2, vf = .slice a1 n1 c1 ∧ vb = .slice a2 n2 c2) ∧
    ((itemM (l.drop k) = none ∧ e = .returned (.tuple #[.agg #[.bool an, .bool nt, .bool st, vf, vb], .int .i64 (-1)])) ∨
     ∃ (rng : List (Nat × Nat)) (q : Nat), itemM (l.drop k) = some (⟨an, nt, st, rng⟩, l.drop q) ∧ k < q ∧ q ≤ l.length ∧ e = .returned (.tuple #[.agg #[.bool an, .bool nt, .bool st, vf, vb], .int .i64 (q : Int)]) ∧ Twin w.heap.size w' vf vb (los rng) (his rng))

/-- all that 'item' holds -/
structure IInv (w wr : World) (an nt st : Bool) (vf vb : Value) (F K : List Int) : Prop where
  res : ItBox w.heap.size wr false false false (.slice none 0 0) (.slice none 0 0)
  box : ItBox (w.heap.size + 1) wr an nt st vf vb
  twin : Twin (w.heap.size + 2) wr vf vb F K
  below : Below w.heap.size w wr
  size : w.heap.size + 2 ≤ wr.heap.size
theorem IInv.keep {w wr w' : World} {an nt st : Bool} {vf vb : Value} {F K : List Int} (h : IInv w wr an nt st vf vb F K) (hb : Below wr.heap.size wr w') : IInv w w' an nt st vf vb F K := by
  have hs := h.size
  have hs2 := hb.size
  exact ⟨h.res.keep (hb.block _ (by omega)), h.box.keep (hb.block _ (by omega)), ⟨ownsRow_below h.twin.f hb, ownsRow_below h.twin.k hb, h.twin.ap⟩, h.below.trans (hb.mono (by omega)), by omega⟩
theorem IInv.fin {w wr : World} {an nt st : Bool} {vf vb : Value} {F K : List Int} (h : IInv w wr an nt st vf vb F K) :
    Twin w.heap.size (((((wr.setCell ⟨w.heap.size, 0, none⟩ (.bool an)).setCell ⟨w.heap.size, 1, none⟩ (.bool nt)).setCell ⟨w.heap.size, 2, none⟩ (.bool st)).setCell ⟨w.heap.size, 3, none⟩ vf).setCell ⟨w.heap.size, 4, none⟩ vb) vf vb F K ∧
    Below w.heap.size w (((((wr.setCell ⟨w.heap.size, 0, none⟩ (.bool an)).setCell ⟨w.heap.size, 1, none⟩ (.bool nt)).setCell ⟨w.heap.size, 2, none⟩ (.bool st)).setCell ⟨w.heap.size, 3, none⟩ vf).setCell ⟨w.heap.size, 4, none⟩ vb) := by
  have t2 := ((((h.twin.set (a := ⟨w.heap.size, 0, none⟩) (by simp) (.bool an)).set (a := ⟨w.heap.size, 1, none⟩) (by simp) (.bool nt)).set (a := ⟨w.heap.size, 2, none⟩) (by simp) (.bool st)).set (a := ⟨w.heap.size, 3, none⟩) (by simp) vf).set (a := ⟨w.heap.size, 4, none⟩) (by simp) vb
  exact ⟨⟨ownsRow_base t2.f (by omega), ownsRow_base t2.k (by omega), t2.ap⟩, ((((h.below.setCell (by simp) _).setCell (by simp) _).setCell (by simp) _).setCell (by simp) _).setCell (by simp) _⟩
theorem IInv.set0 {w wr : World} {an nt st : Bool} {vf vb : Value} {F K : List Int} (h : IInv w wr an nt st vf vb F K) (u : Bool) : IInv w (wr.setCell ⟨w.heap.size + 1, 0, none⟩ (.bool u)) u nt st vf vb F K :=
  ⟨h.res.keep (heap_setCell_other _ _ _ _ (by simp)), h.box.set0 u, h.twin.set (by simp) _, h.below.setCell (by simp) _, by simpa using h.size⟩
theorem IInv.set2 {w wr : World} {an nt st : Bool} {vf vb : Value} {F K : List Int} (h : IInv w wr an nt st vf vb F K) (u : Bool) : IInv w (wr.setCell ⟨w.heap.size + 1, 2, none⟩ (.bool u)) an nt u vf vb F K :=
  ⟨h.res.keep (heap_setCell_other _ _ _ _ (by simp)), h.box.set2 u, h.twin.set (by simp) _, h.below.setCell (by simp) _, by simpa using h.size⟩
/-- a slice of one number that was just built -/
theorem built_row (w : World) (B : Nat) (x : Int) (hB : B ≤ w.heap.size) : (w.alloc (.cells #[.int .i64 x] 3)).ownsRow B 3 1 (.slice (some ⟨w.heap.size, 0, none⟩) 1 1) 1 (intC [x]) :=
  ⟨rfl, .inr ⟨w.heap.size, 1, #[.int .i64 x], rfl, hB, heap_alloc_new w _, Nat.le_refl _, by unfold maxLen; omega, rfl, rfl⟩⟩
/-- both bounds of one byte -/
theorem IInv.one {w wr : World} {an nt st : Bool} (h : IInv w wr an nt st (.slice none 0 0) (.slice none 0 0) [] []) (x : Nat) :
    IInv w ((((wr.setCell ⟨w.heap.size + 1, 3, none⟩ (.slice (some ⟨wr.heap.size, 0, none⟩) 1 1)).setCell ⟨w.heap.size + 1, 4, none⟩ (.slice (some ⟨wr.heap.size + 1, 0, none⟩) 1 1)).alloc (.cells #[.int .i64 (x : Int)] 3)).alloc (.cells #[.int .i64 (x : Int)] 3)) an nt st (.slice (some ⟨wr.heap.size, 0, none⟩) 1 1) (.slice (some ⟨wr.heap.size + 1, 0, none⟩) 1 1) (los [(x, x)]) (his [(x, x)]) := by
  have hs := h.size
  have r1 := (h.res.keep (heap_setCell_other wr ⟨w.heap.size + 1, 3, none⟩ w.heap.size (.slice (some ⟨wr.heap.size, 0, none⟩) 1 1) (by simp))).keep (heap_setCell_other (wr.setCell ⟨w.heap.size + 1, 3, none⟩ (.slice (some ⟨wr.heap.size, 0, none⟩) 1 1)) ⟨w.heap.size + 1, 4, none⟩ w.heap.size (.slice (some ⟨wr.heap.size + 1, 0, none⟩) 1 1) (by simp))
  have b1 := (h.box.set3 (.slice (some ⟨wr.heap.size, 0, none⟩) 1 1)).set4 (.slice (some ⟨wr.heap.size + 1, 0, none⟩) 1 1)
  have bl := (h.below.setCell (a := w) (show w.heap.size ≤ (⟨w.heap.size + 1, 3, none⟩ : Addr).block by simp) (.slice (some ⟨wr.heap.size, 0, none⟩) 1 1)).setCell (show w.heap.size ≤ (⟨w.heap.size + 1, 4, none⟩ : Addr).block by simp) (.slice (some ⟨wr.heap.size + 1, 0, none⟩) 1 1)
  have hsz : ((wr.setCell ⟨w.heap.size + 1, 3, none⟩ (.slice (some ⟨wr.heap.size, 0, none⟩) 1 1)).setCell ⟨w.heap.size + 1, 4, none⟩ (.slice (some ⟨wr.heap.size + 1, 0, none⟩) 1 1)).heap.size = wr.heap.size := by simp
  generalize ((wr.setCell ⟨w.heap.size + 1, 3, none⟩ (.slice (some ⟨wr.heap.size, 0, none⟩) 1 1)).setCell ⟨w.heap.size + 1, 4, none⟩ (.slice (some ⟨wr.heap.size + 1, 0, none⟩) 1 1)) = V at *
  have t1 := built_row V (w.heap.size + 2) x (by omega)
  have t2 := built_row (V.alloc (.cells #[.int .i64 (x : Int)] 3)) (w.heap.size + 2) x (by simp; omega)
  have e2 : (V.alloc (.cells #[.int .i64 (x : Int)] 3)).heap.size = wr.heap.size + 1 := by simp [hsz]
  rw [e2] at t2
  rw [hsz] at t1
  have al : ∀ k, k < wr.heap.size → ((V.alloc (.cells #[.int .i64 (x : Int)] 3)).alloc (.cells #[.int .i64 (x : Int)] 3)).heap[k]? = V.heap[k]? := fun k hk => (Below.heap_alloc _ _ _ (by rw [e2]; omega)).trans (Below.heap_alloc _ _ _ (by rw [hsz]; exact hk))
  refine ⟨r1.keep (al _ (by omega)), b1.keep (al _ (by omega)), ⟨t1.alloc _, t2, ?_⟩, (bl.alloc (by omega) _).alloc (by rw [e2]; omega) _, by rw [show ((V.alloc (.cells #[.int .i64 (x : Int)] 3)).alloc (.cells #[.int .i64 (x : Int)] 3)).heap.size = wr.heap.size + 2 by simp [hsz]]; omega⟩
  intro g hg hb
  simp [Value.ownBlock] at hg hb
  omega
end Go.Proofs.Ytlppphmnegdhoab

/-
  The document's expressions: the walk of 'item'.
-/
namespace Go.Proofs.Ytlppphmnegdhoab
set_option linter.unusedVariables false
set_option maxRecDepth 100000
open Go.RowKit
open M

/-- the bytes that begin no item -/
def badI (m : Mk) : Bool := m.is 42 || m.is 93 || m.is 94 || m.is 36
theorem bare_any (m : Mk) (t : List Mk) (h : m.is 46 = true) : bareM (m :: t) = some (⟨true, false, false, []⟩, t) := by simp [bareM, h]
theorem bare_set (m : Mk) (t : List Mk) (h : m.is 46 = false) (h2 : m.is 91 = true) : bareM (m :: t) = (setM t).map (fun r => (⟨false, r.1, false, r.2.1⟩, r.2.2)) := by simp [bareM, h, h2]
theorem bare_bad (m : Mk) (t : List Mk) (h : m.is 46 = false) (h2 : m.is 91 = false) (h3 : badI m = true) : bareM (m :: t) = none := by
  have e : bareM (m :: t) = if badI m then none else some (⟨false, false, false, [(m.b, m.b)]⟩, t) := by simp only [bareM, h, h2]; rfl
  rw [e, h3]; rfl
theorem bare_one (m : Mk) (t : List Mk) (h : m.is 46 = false) (h2 : m.is 91 = false) (h3 : badI m = false) : bareM (m :: t) = some (⟨false, false, false, [(m.b, m.b)]⟩, t) := by
  have e : bareM (m :: t) = if badI m then none else some (⟨false, false, false, [(m.b, m.b)]⟩, t) := by simp only [bareM, h, h2]; rfl
  rw [e, h3]; rfl
theorem item_star (l : List Mk) (k q : Nat) (an nt : Bool) (rng : List (Nat × Nat)) (h : bareM (l.drop k) = some (⟨an, nt, false, rng⟩, l.drop q)) (hq : q < l.length) (hs : l[q].is 42 = true) : itemM (l.drop k) = some (⟨an, nt, true, rng⟩, l.drop (q + 1)) := by
  have e := getM hq
  unfold itemM
  rw [h]
  simp only [Option.map_some, starM, e, hs, if_true]
theorem item_plain (l : List Mk) (k q : Nat) (an nt : Bool) (rng : List (Nat × Nat)) (h : bareM (l.drop k) = some (⟨an, nt, false, rng⟩, l.drop q)) (hs : ∀ hq : q < l.length, l[q].is 42 = false) : itemM (l.drop k) = some (⟨an, nt, false, rng⟩, l.drop q) := by
  unfold itemM
  rw [h]
  by_cases hq : q < l.length
  · have e := getM hq
    have e2 := hs hq
    simp only [Option.map_some, starM, e, e2]
    rfl
  · have e : l.drop q = [] := List.drop_of_length_le (by omega)
    simp only [Option.map_some, starM, e]
theorem item_none (l : List Mk) (k : Nat) (h : bareM (l.drop k) = none) : itemM (l.drop k) = none := by unfold itemM; rw [h]; rfl

/-- the box of an item, written over -/
def putI (w : World) (b : Nat) (a n s : Bool) (vf vb : Value) : World := ((((w.setCell ⟨b, 0, none⟩ (.bool a)).setCell ⟨b, 1, none⟩ (.bool n)).setCell ⟨b, 2, none⟩ (.bool s)).setCell ⟨b, 3, none⟩ vf).setCell ⟨b, 4, none⟩ vb
theorem ItBox.put {b : Nat} {w : World} {a n s : Bool} {vf vb : Value} (h : ItBox b w a n s vf vb) (a' n' s' : Bool) (vf' vb' : Value) : ItBox b (putI w b a' n' s' vf' vb') a' n' s' vf' vb' := ((((h.set0 a').set1 n').set2 s').set3 vf').set4 vb'
theorem putI_far {b k : Nat} (w : World) (a n s : Bool) (vf vb : Value) (h : k ≠ b) : (putI w b a n s vf vb).heap[k]? = w.heap[k]? := by
  unfold putI
  rw [heap_setCell_other _ _ _ _ h, heap_setCell_other _ _ _ _ h, heap_setCell_other _ _ _ _ h, heap_setCell_other _ _ _ _ h, heap_setCell_other _ _ _ _ h]
theorem putI_below {B b : Nat} {w0 w : World} (h : Below B w0 w) (a n s : Bool) (vf vb : Value) (hb : B ≤ b) : Below B w0 (putI w b a n s vf vb) :=
  ((((h.setCell (by exact hb) _).setCell (by exact hb) _).setCell (by exact hb) _).setCell (by exact hb) _).setCell (by exact hb) _
theorem IInv.put {w wr : World} {vf vb : Value} {F K : List Int} {a0 n0 s0 : Bool} {v0 v1 : Value} {F0 K0 : List Int} (h : IInv w wr a0 n0 s0 v0 v1 F0 K0) (t : Twin (w.heap.size + 2) wr vf vb F K) (a n s : Bool) : IInv w (putI wr (w.heap.size + 1) a n s vf vb) a n s vf vb F K := by
  refine ⟨h.res.keep (putI_far _ _ _ _ _ _ (by omega)), h.box.put a n s vf vb, ?_, putI_below h.below a n s vf vb (by omega), ?_⟩
  · exact ((((t.set (by simp) _).set (by simp) _).set (by simp) _).set (by simp) _).set (by simp) _
  · have := h.size; unfold putI; simpa using this

set_option maxRecDepth 100000 in
set_option maxHeartbeats 8000000 in
theorem item_calls (n c : Nat) (ad : Option Addr) (l : List Mk) (k : Nat) (w : World) (hat : MarksAt w ad n l) (hln : l.length ≤ 8192) (hk : k < l.length) :
    Calls Try.prog 34 #[.slice ad n c, .int .i64 k] w fun e w' => ItemPost l k w w' e := by
  have hn := hat.len
  subst hn
  have hk1 : (k : Int) < (l.length : Int) := by omega
  obtain ⟨b, off, rfl, hb, d0, d1⟩ := hat.get hk
  obtain ⟨m, hmm⟩ : ∃ m, l[k] = m := ⟨_, rfl⟩
  have HD : Hid (l.drop k = m :: l.drop (k + 1)) := by show _ = _; rw [← hmm]; exact getM hk
  rw [hmm] at d0 d1
  clear hmm
  go_enter Try.func34, Try.ntmps34
  go_upto_block 0 with fail
  have hi0 : IInv w (((w.alloc (.cells #[.bool false, .bool false, .bool false, .slice none 0 0, .slice none 0 0] 92)).alloc (.cells #[.bool false, .bool false, .bool false, .slice none 0 0, .slice none 0 0] 92)).alloc (.cells #[.int .i64 (m.b : Int), .bool m.p] 89)) false false false (.slice none 0 0) (.slice none 0 0) [] [] := by
    refine ⟨?_, ?_, ⟨World.ownsRow_nil _ _ _ _, World.ownsRow_nil _ _ _ _, fun g h => by cases h⟩, (((Below.refl _ _).alloc (Nat.le_refl _) _).alloc (by simp) _).alloc (by simp; omega) _, by simp⟩
    · constructor <;> simp [go_sem]
    · constructor <;> simp [go_sem]
  have j0 : (((w.alloc (.cells #[.bool false, .bool false, .bool false, .slice none 0 0, .slice none 0 0] 92)).alloc (.cells #[.bool false, .bool false, .bool false, .slice none 0 0, .slice none 0 0] 92)).alloc (.cells #[.int .i64 (m.b : Int), .bool m.p] 89)).cell? ⟨w.heap.size + 1 + 1, 0, none⟩ = some (.int .i64 (m.b : Int)) := by simp [go_sem]
  have j1 : (((w.alloc (.cells #[.bool false, .bool false, .bool false, .slice none 0 0, .slice none 0 0] 92)).alloc (.cells #[.bool false, .bool false, .bool false, .slice none 0 0, .slice none 0 0] 92)).alloc (.cells #[.int .i64 (m.b : Int), .bool m.p] 89)).cell? ⟨w.heap.size + 1 + 1, 1, none⟩ = some (.bool m.p) := by simp [go_sem]
  have hs0 : w.heap.size + 1 + 1 < (((w.alloc (.cells #[.bool false, .bool false, .bool false, .slice none 0 0, .slice none 0 0] 92)).alloc (.cells #[.bool false, .bool false, .bool false, .slice none 0 0, .slice none 0 0] 92)).alloc (.cells #[.int .i64 (m.b : Int), .bool m.p] 89)).heap.size := by simp
  generalize (((w.alloc (.cells #[.bool false, .bool false, .bool false, .slice none 0 0, .slice none 0 0] 92)).alloc (.cells #[.bool false, .bool false, .bool false, .slice none 0 0, .slice none 0 0] 92)).alloc (.cells #[.int .i64 (m.b : Int), .bool m.p] 89)) = W at hi0 j0 j1 hs0 ⊢
  clear d0 d1
  go_cut [7] (fun nx wx => ∃ (an nt : Bool) (vf vb : Value) (rng : List (Nat × Nat)) (q : Nat), nx = .int .i64 q ∧ k < q ∧ q ≤ l.length ∧ IInv w wx an nt false vf vb (los rng) (his rng) ∧ Hid (bareM (l.drop k) = some (⟨an, nt, false, rng⟩, l.drop q)))
  case first =>
    have i00 := j0
    have i10 := j1
    clear j0 j1
    go_wp2_with fail
    refine (is_calls m 46 _).mono ?_
    rintro e w1 ⟨rfl, b1⟩
    have hi1 := hi0.keep b1
    have i01 := (b1.cell (by exact hs0)).trans i00
    have i11 := (b1.cell (by exact hs0)).trans i10
    have hs1 : w.heap.size + 1 + 1 < w1.heap.size := by have := b1.size; omega
    clear hi0 i00 i10 hs0 b1
    cases h46 : m.is 46
    · go_wp2_with fail
      refine (is_calls m 91 _).mono ?_
      rintro e w2 ⟨rfl, b2⟩
      have hi2 := hi1.keep b2
      have i02 := (b2.cell (by exact hs1)).trans i01
      have i12 := (b2.cell (by exact hs1)).trans i11
      have hs2 : w.heap.size + 1 + 1 < w2.heap.size := by have := b2.size; omega
      clear hi1 i01 i11 hs1 b2
      cases h91 : m.is 91
      · go_wp2_with fail
        refine (is_calls m 42 _).mono ?_
        rintro e w3 ⟨rfl, b3⟩
        have hi3 := hi2.keep b3
        have i03 := (b3.cell (by exact hs2)).trans i02
        have i13 := (b3.cell (by exact hs2)).trans i12
        have hs3 : w.heap.size + 1 + 1 < w3.heap.size := by have := b3.size; omega
        clear hi2 i02 i12 hs2 b3
        cases h42 : m.is 42
        · go_wp2_with fail
          refine (is_calls m 93 _).mono ?_
          rintro e w4 ⟨rfl, b4⟩
          have hi4 := hi3.keep b4
          have i04 := (b4.cell (by exact hs3)).trans i03
          have i14 := (b4.cell (by exact hs3)).trans i13
          have hs4 : w.heap.size + 1 + 1 < w4.heap.size := by have := b4.size; omega
          clear hi3 i03 i13 hs3 b4
          cases h93 : m.is 93
          · go_wp2_with fail
            refine (is_calls m 94 _).mono ?_
            rintro e w5 ⟨rfl, b5⟩
            have hi5 := hi4.keep b5
            have i05 := (b5.cell (by exact hs4)).trans i04
            have i15 := (b5.cell (by exact hs4)).trans i14
            have hs5 : w.heap.size + 1 + 1 < w5.heap.size := by have := b5.size; omega
            clear hi4 i04 i14 hs4 b5
            cases h94 : m.is 94
            · go_wp2_with fail
              refine (is_calls m 36 _).mono ?_
              rintro e w6 ⟨rfl, b6⟩
              have hi6 := hi5.keep b6
              have i06 := (b6.cell (by exact hs5)).trans i05
              have i16 := (b6.cell (by exact hs5)).trans i15
              have hs6 : w.heap.size + 1 + 1 < w6.heap.size := by have := b6.size; omega
              clear hi5 i05 i15 hs5 b6
              cases h36 : m.is 36
              · have HB : Hid (bareM (l.drop k) = some (⟨false, false, false, [(m.b, m.b)]⟩, l.drop (k + 1))) := by
                  show _ = _
                  rw [HD.out, bare_one m _ h46 h91 (by simp [badI, h42, h93, h94, h36])]
                have ho := hi6.one m.b
                obtain ⟨x0, x1, x2, x3, x4, p0, p1, p2, p3, p4⟩ := hi6.box
                have hszB := hi6.size
                have hlt7 : w.heap.size + 1 < w6.heap.size := by omega
                have hlt8 : w.heap.size + 1 < w6.heap.size + 1 := by omega
                clear HD h46 h91 h42 h93 h94 h36
                go_wp2
                go_meet
                exact ⟨false, false, _, _, [(m.b, m.b)], k + 1, by go_num, by omega, by omega, ho, HB.out⟩
              · have HF : Hid (itemM (l.drop k) = none) := item_none l k (by rw [HD.out]; exact bare_bad m _ h46 h91 (by simp [badI, h36]))
                obtain ⟨x0, x1, x2, x3, x4, p0, p1, p2, p3, p4⟩ := hi6.box
                obtain ⟨r0, r1, r2, r3, r4, o0, o1, o2, o3, o4⟩ := hi6.res
                have hszB := hi6.size
                clear HD
                go_wp2
                refine bodyPost_ret (v := .tuple #[.agg #[.bool false, .bool false, .bool false, .slice none 0 0, .slice none 0 0], .int .i64 (-1)]) (by simp [results, Try.results34, go_sem, r0, r1, r2, r3, r4]) rfl ⟨false, false, false, .slice none 0 0, .slice none 0 0, hi6.fin.2, ⟨_, _, _, _, _, _, rfl, rfl⟩, .inl ⟨HF.out, rfl⟩⟩
            · have HF : Hid (itemM (l.drop k) = none) := item_none l k (by rw [HD.out]; exact bare_bad m _ h46 h91 (by simp [badI, h94]))
              obtain ⟨x0, x1, x2, x3, x4, p0, p1, p2, p3, p4⟩ := hi5.box
              obtain ⟨r0, r1, r2, r3, r4, o0, o1, o2, o3, o4⟩ := hi5.res
              have hszB := hi5.size
              clear HD
              go_wp2
              refine bodyPost_ret (v := .tuple #[.agg #[.bool false, .bool false, .bool false, .slice none 0 0, .slice none 0 0], .int .i64 (-1)]) (by simp [results, Try.results34, go_sem, r0, r1, r2, r3, r4]) rfl ⟨false, false, false, .slice none 0 0, .slice none 0 0, hi5.fin.2, ⟨_, _, _, _, _, _, rfl, rfl⟩, .inl ⟨HF.out, rfl⟩⟩
          · have HF : Hid (itemM (l.drop k) = none) := item_none l k (by rw [HD.out]; exact bare_bad m _ h46 h91 (by simp [badI, h93]))
            obtain ⟨x0, x1, x2, x3, x4, p0, p1, p2, p3, p4⟩ := hi4.box
            obtain ⟨r0, r1, r2, r3, r4, o0, o1, o2, o3, o4⟩ := hi4.res
            have hszB := hi4.size
            clear HD
            go_wp2
            refine bodyPost_ret (v := .tuple #[.agg #[.bool false, .bool false, .bool false, .slice none 0 0, .slice none 0 0], .int .i64 (-1)]) (by simp [results, Try.results34, go_sem, r0, r1, r2, r3, r4]) rfl ⟨false, false, false, .slice none 0 0, .slice none 0 0, hi4.fin.2, ⟨_, _, _, _, _, _, rfl, rfl⟩, .inl ⟨HF.out, rfl⟩⟩
        · have HF : Hid (itemM (l.drop k) = none) := item_none l k (by rw [HD.out]; exact bare_bad m _ h46 h91 (by simp [badI, h42]))
          obtain ⟨x0, x1, x2, x3, x4, p0, p1, p2, p3, p4⟩ := hi3.box
          obtain ⟨r0, r1, r2, r3, r4, o0, o1, o2, o3, o4⟩ := hi3.res
          have hszB := hi3.size
          clear HD
          go_wp2
          refine bodyPost_ret (v := .tuple #[.agg #[.bool false, .bool false, .bool false, .slice none 0 0, .slice none 0 0], .int .i64 (-1)]) (by simp [results, Try.results34, go_sem, r0, r1, r2, r3, r4]) rfl ⟨false, false, false, .slice none 0 0, .slice none 0 0, hi3.fin.2, ⟨_, _, _, _, _, _, rfl, rfl⟩, .inl ⟨HF.out, rfl⟩⟩
      · have hat2 := hat.below hi2.below
        have hszB := hi2.size
        go_wp2_with fail
        refine (members_calls _ _ _ l (k + 1) _ hat2 hln (by omega)).mono ?_
        rintro e w3 ⟨nt, vf, vb, b3, ⟨a1, n1, c1, a2, n2, c2, rfl, rfl⟩, ⟨hno, rfl⟩ | ⟨rng, q, hsome, hq0, hq1, rfl, tw⟩⟩
        · have HF : Hid (itemM (l.drop k) = none) := item_none l k (by rw [HD.out, bare_set m _ h46 h91, hno]; rfl)
          have hi3 := hi2.keep b3
          have hbx := hi3.box.put false nt false (.slice a1 n1 c1) (.slice a2 n2 c2)
          have hrs := hi3.res.keep (putI_far (b := w.heap.size + 1) w3 false nt false (.slice a1 n1 c1) (.slice a2 n2 c2) (by omega))
          have hbl := putI_below (putI_below hi3.below false nt false (.slice a1 n1 c1) (.slice a2 n2 c2) (show w.heap.size ≤ w.heap.size + 1 by omega)) false nt false (.slice a1 n1 c1) (.slice a2 n2 c2) (Nat.le_refl w.heap.size)
          obtain ⟨x0, x1, x2, x3, x4, p0, p1, p2, p3, p4⟩ := hi3.box
          obtain ⟨r0, r1, r2, r3, r4, o0, o1, o2, o3, o4⟩ := hi3.res
          have hsz3 := hi3.size
          clear HD h46 h91 hno
          go_wp2
          refine bodyPost_ret (v := .tuple #[.agg #[.bool false, .bool nt, .bool false, .slice a1 n1 c1, .slice a2 n2 c2], .int .i64 (-1)]) (by simp [results, Try.results34, go_sem, r0, r1, r2, r3, r4]) rfl ⟨false, nt, false, .slice a1 n1 c1, .slice a2 n2 c2, hbl, ⟨_, _, _, _, _, _, rfl, rfl⟩, .inl ⟨HF.out, rfl⟩⟩
        · have HB : Hid (bareM (l.drop k) = some (⟨false, nt, false, rng⟩, l.drop q)) := by
            show _ = _
            rw [HD.out, bare_set m _ h46 h91, hsome]; rfl
          have hi3 := hi2.keep b3
          have hput := hi3.put ⟨ownsRow_base tw.f (by omega), ownsRow_base tw.k (by omega), tw.ap⟩ false nt false
          obtain ⟨x0, x1, x2, x3, x4, p0, p1, p2, p3, p4⟩ := hi3.box
          have hsz3 := hi3.size
          have hq2 : ¬ (q : Int) < 0 := by omega
          clear HD h46 h91 hsome
          go_wp2
          go_meet
          exact ⟨false, nt, _, _, rng, q, rfl, by omega, hq1, hput, HB.out⟩
    · have HB : Hid (bareM (l.drop k) = some (⟨true, false, false, []⟩, l.drop (k + 1))) := by show _ = _; rw [HD.out, bare_any m _ h46]
      have hi2 := hi1.set0 true
      obtain ⟨x0, x1, x2, x3, x4, p0, p1, p2, p3, p4⟩ := hi1.box
      have hsz1 := hi1.size
      clear HD h46
      go_wp2
      go_meet
      exact ⟨true, false, _, _, [], k + 1, by go_num, by omega, by omega, hi2, HB.out⟩
  case rest =>
    clear hi0 j0 j1 hs0
    obtain ⟨an, nt, vf, vb, rng, q, rfl, hkq, hql, hi2, HB⟩ := hcut
    obtain ⟨af, cf, hvf⟩ := own_form hi2.twin.f
    obtain ⟨ab, cb, hvb⟩ := own_form hi2.twin.k
    generalize hnf : (los rng).length = nf at hvf
    generalize hnb : (his rng).length = nb at hvb
    clear hnf hnb
    subst hvf hvb
    have hatS := hat.below hi2.below
    have hszS := hi2.size
    by_cases hqS : q < l.length
    · have hqS1 : (q : Int) < (l.length : Int) := by omega
      obtain ⟨b', off', hbo, hb', s0, s1⟩ := hatS.get hqS
      simp only [Option.some.injEq, Addr.mk.injEq, and_true] at hbo
      obtain ⟨rfl, rfl⟩ := hbo
      have HST : Hid (l[q].is 42 = true → itemM (l.drop k) = some (⟨an, nt, true, rng⟩, l.drop (q + 1))) := fun hs => item_star l k _ _ _ _ HB.out hqS hs
      have HPL : Hid (l[q].is 42 = false → itemM (l.drop k) = some (⟨an, nt, false, rng⟩, l.drop q)) := fun hs => item_plain l k _ _ _ _ HB.out (fun _ => hs)
      generalize l[q] = ms at *
      go_wp2_with fail
      refine (is_calls ms 42 _).mono ?_
      rintro e wS ⟨rfl, bS⟩
      have hiS := hi2.keep bS
      have hzS := bS.size
      cases hsm : ms.is 42
      · have HPP : Hid (itemM (l.drop k) = some (⟨an, nt, false, rng⟩, l.drop q)) := HPL.out hsm
        clear HST HPL hsm s0 s1 HB
        obtain ⟨x0, x1, x2, x3, x4, p0, p1, p2, p3, p4⟩ := hiS.box
        obtain ⟨r0, r1, r2, r3, r4, o0, o1, o2, o3, o4⟩ := hiS.res
        go_wp2
        refine bodyPost_ret (v := .tuple #[.agg #[.bool an, .bool nt, .bool false, .slice af nf cf, .slice ab nb cb], .int .i64 (q : Int)]) (by simp [results, Try.results34, go_sem, r0, r1, r2, r3, r4]) rfl ⟨an, nt, false, .slice af nf cf, .slice ab nb cb, hiS.fin.2, ⟨_, _, _, _, _, _, rfl, rfl⟩, .inr ⟨rng, q, HPP.out, by omega, by omega, rfl, hiS.fin.1⟩⟩
      · have HPP : Hid (itemM (l.drop k) = some (⟨an, nt, true, rng⟩, l.drop (q + 1))) := HST.out hsm
        clear HST HPL hsm s0 s1 HB
        have hiT := hiS.set2 true
        obtain ⟨x0, x1, x2, x3, x4, p0, p1, p2, p3, p4⟩ := hiS.box
        obtain ⟨r0, r1, r2, r3, r4, o0, o1, o2, o3, o4⟩ := hiS.res
        go_wp2
        refine bodyPost_ret (v := .tuple #[.agg #[.bool an, .bool nt, .bool true, .slice af nf cf, .slice ab nb cb], .int .i64 ((q : Int) + 1)]) (by simp [results, Try.results34, go_sem, r0, r1, r2, r3, r4]) rfl ⟨an, nt, true, .slice af nf cf, .slice ab nb cb, hiT.fin.2, ⟨_, _, _, _, _, _, rfl, rfl⟩, .inr ⟨rng, q + 1, HPP.out, by omega, by omega, rfl, hiT.fin.1⟩⟩
    · have hqS1 : ¬ (q : Int) < (l.length : Int) := by omega
      have HPP : Hid (itemM (l.drop k) = some (⟨an, nt, false, rng⟩, l.drop q)) := item_plain l k _ _ _ _ HB.out (fun h => absurd h hqS)
      clear HB
      obtain ⟨x0, x1, x2, x3, x4, p0, p1, p2, p3, p4⟩ := hi2.box
      obtain ⟨r0, r1, r2, r3, r4, o0, o1, o2, o3, o4⟩ := hi2.res
      go_wp2
      refine bodyPost_ret (v := .tuple #[.agg #[.bool an, .bool nt, .bool false, .slice af nf cf, .slice ab nb cb], .int .i64 (q : Int)]) (by simp [results, Try.results34, go_sem, r0, r1, r2, r3, r4]) rfl ⟨an, nt, false, .slice af nf cf, .slice ab nb cb, hi2.fin.2, ⟨_, _, _, _, _, _, rfl, rfl⟩, .inr ⟨rng, q, HPP.out, by omega, by omega, rfl, hi2.fin.1⟩⟩
end Go.Proofs.Ytlppphmnegdhoab

/-
  The document's expressions: rows of items; the whole expression: plain part.
-/
namespace Go.Proofs.Ytlppphmnegdhoab
set_option linter.unusedVariables false
set_option maxRecDepth 100000
open Go.RowKit
open M

theorem infoItem : (Try.prog.info? 92).map (fun i => (i.zero, i.size, i.bytes)) = some (some (.agg #[.bool false, .bool false, .bool false, .slice none 0 0, .slice none 0 0]), 5, 56) := by kernel_rfl
theorem undItems : Try.prog.underlying 38 = some (.slice 92) := by kernel_rfl
theorem rows_apart2 {w : World} {B1 B2 : Nat} {e1 e2 : TypeId} {s1 s2 : Nat} {v1 v2 : Value} {n1 n2 : Nat} {x1 x2 : List Value} (h1 : w.ownsRow B1 e1 s1 v1 n1 x1) (h2 : w.ownsRow B2 e2 s2 v2 n2 x2) (hne : e1 ≠ e2) : v1.ownBlock = none ∨ v1.ownBlock ≠ v2.ownBlock := by
  rcases h1.2 with ⟨rfl, _⟩ | ⟨g, cap, cur, rfl, hb, hg, _⟩
  · exact .inl rfl
  · right
    rcases h2.2 with ⟨rfl, _⟩ | ⟨g', cap', cur', rfl, hb', hg', _⟩
    · simp [Value.ownBlock]
    · intro e
      simp [Value.ownBlock] at e
      subst e
      rw [hg] at hg'
      simp at hg'
      exact hne hg'.2
/-- an item and where its ranges lie -/
structure IV where
  it : It
  f : Value
  b : Value
def ivC (x : IV) : List Value := [.bool x.it.any, .bool x.it.not, .bool x.it.star, x.f, x.b]
def ivsC (l : List IV) : List Value := (l.map ivC).flatten
theorem ivsC_snoc (l : List IV) (x : IV) : ivsC (l ++ [x]) = ivsC l ++ ivC x := by simp [ivsC]
def IVok (B : Nat) (w : World) (x : IV) : Prop := Twin B w x.f x.b (los x.it.rng) (his x.it.rng)
theorem ivC_one {B : Nat} {w : World} {x : IV} (h : IVok B w x) : ∀ u ∈ ivC x, u.oneCell' = true := by
  obtain ⟨a, c, h1⟩ := own_form h.f
  obtain ⟨a', c', h2⟩ := own_form h.k
  intro u hu
  simp [ivC] at hu
  rcases hu with rfl | rfl | rfl | rfl | rfl
  · rfl
  · rfl
  · rfl
  · rw [h1]; rfl
  · rw [h2]; rfl
theorem ivC_at (w : World) (x : IV) (t : TypeId) : ∀ j u, (ivC x)[j]? = some u → (w.alloc (.cells #[.bool x.it.any, .bool x.it.not, .bool x.it.star, x.f, x.b] t)).cell? ((⟨w.heap.size, 0, none⟩ : Addr).add j) = some u := by
  intro j u h
  match j, h with
  | 0, h => simp [ivC] at h; subst h; simp [Addr.add]
  | 1, h => simp [ivC] at h; subst h; simp [Addr.add]
  | 2, h => simp [ivC] at h; subst h; simp [Addr.add]
  | 3, h => simp [ivC] at h; subst h; simp [Addr.add]
  | 4, h => simp [ivC] at h; subst h; simp [Addr.add]
  | n + 5, h => simp [ivC] at h

theorem MarksAt.take {w : World} {a : Option Addr} {n : Nat} {l : List Mk} (h : MarksAt w a n l) (e : Nat) (he : e ≤ l.length) : MarksAt w a e (l.take e) := by
  refine ⟨by rw [List.length_take]; omega, ?_⟩
  rcases h.cells with h0 | ⟨b, off, ha, hlt, hc⟩
  · left; rw [h0]; simp
  · right
    refine ⟨b, off, ha, hlt, fun i hi => ?_⟩
    have hi2 : i < l.length := by rw [List.length_take] at hi; omega
    rw [List.getElem_take]
    exact hc i hi2
/-- an item takes something -/
theorem bare_less (m : List Mk) (x : It) (r : List Mk) (h : bareM m = some (x, r)) : r.length < m.length := by
  match m with
  | [] => simp [bareM] at h
  | c :: t =>
    cases h46 : c.is 46
    · cases h91 : c.is 91
      · cases hb : badI c
        · rw [bare_one c t h46 h91 hb] at h
          simp at h
          rw [← h.2]; simp
        · rw [bare_bad c t h46 h91 hb] at h; cases h
      · rw [bare_set c t h46 h91, set_caret] at h
        cases hc : caret t
        · rw [hc] at h
          simp only [Bool.false_eq_true, if_false] at h
          cases hm : membersM t [] with
          | none => rw [hm] at h; cases h
          | some p =>
            obtain ⟨q, hq, hr⟩ := mem_rest t _ _ _ hm
            rw [hm] at h
            simp at h
            rw [← h.2, hr, List.length_drop]
            simp; omega
        · rw [hc] at h
          simp only [if_true] at h
          cases hm : membersM (t.drop 1) [] with
          | none => rw [hm] at h; cases h
          | some p =>
            obtain ⟨q, hq, hr⟩ := mem_rest (t.drop 1) _ _ _ hm
            rw [hm] at h
            simp at h
            rw [← h.2, hr, List.length_drop, List.length_drop]
            simp; omega
    · rw [bare_any c t h46] at h
      simp at h
      rw [← h.2]; simp
theorem item_less (m : List Mk) (x : It) (r : List Mk) (h : itemM m = some (x, r)) : r.length < m.length := by
  unfold itemM at h
  cases hb : bareM m with
  | none => rw [hb] at h; cases h
  | some p =>
    have h1 := bare_less m p.1 p.2 hb
    rw [hb] at h
    simp only [Option.map_some, Option.some.injEq] at h
    unfold starM at h
    match hp : p.2 with
    | [] => rw [hp] at h; simp only at h; rw [h] at h1; exact h1
    | d :: u =>
      rw [hp] at h h1
      simp only at h
      split at h
      · simp at h
        rw [← h.2]
        simp at h1; omega
      · rw [h] at hp
        simp only at hp
        rw [hp]; exact h1
theorem items_fuel : ∀ (n k : Nat) (m : List Mk), m.length ≤ n → m.length ≤ k → itemsM n m = itemsM k m := by
  intro n
  induction n with
  | zero => intro k m h _; cases m with
    | nil => simp [itemsM]
    | cons a t => simp at h
  | succ n ih =>
    intro k m h hk
    cases m with
    | nil => simp [itemsM]
    | cons a t =>
      simp only [List.length_cons] at h hk
      obtain ⟨k, rfl⟩ : ∃ k', k = k' + 1 := ⟨k - 1, by omega⟩
      simp only [itemsM]
      cases hi : itemM (a :: t) with
      | none => rfl
      | some p =>
        have hl := item_less (a :: t) p.1 p.2 hi
        simp only [List.length_cons] at hl
        simp only
        rw [ih k p.2 (by omega) (by omega)]
/-- all items of marks -/
def itemsA (m : List Mk) : Option (List It) := itemsM m.length m
theorem itemsA_nil : itemsA [] = some [] := by simp [itemsA, itemsM]
theorem itemsA_none (m : List Mk) (hm : m ≠ []) (h : itemM m = none) : itemsA m = none := by
  match m with
  | [] => exact absurd rfl hm
  | a :: t => simp [itemsA, itemsM, h]
theorem itemsA_some (m : List Mk) (x : It) (r : List Mk) (hm : m ≠ []) (h : itemM m = some (x, r)) : itemsA m = (itemsA r).map (x :: ·) := by
  match m with
  | [] => exact absurd rfl hm
  | a :: t =>
    have hl := item_less _ _ _ h
    simp only [List.length_cons] at hl
    simp only [itemsA, List.length_cons, itemsM, h]
    rw [items_fuel t.length r.length r (by omega) (Nat.le_refl _)]
theorem cat_it (L : List It) (x : It) (o : Option (List It)) : (o.map (x :: ·)).map (L ++ ·) = o.map ((L ++ [x]) ++ ·) := by
  cases o <;> simp
/-- an expression, by its ends -/
theorem expM_eq (m : List Mk) (hm : m ≠ []) (hd tl : Bool) (at' en : Nat) (h0 : 0 < m.length) (h1 : hd = m[0].is 94) (h2 : at' = if hd then 1 else 0) (h3 : tl = (decide (at' < m.length) && (m[m.length - 1]'(by omega)).is 36)) (h4 : en = if tl then m.length - 1 else m.length) :
    expM m = (itemsA ((m.take en).drop at')).map (fun l => ⟨hd, tl, l⟩) := by
  have e1 : (m.head?.map (·.is 94)).getD false = hd := by
    rw [h1]
    match m, h0 with
    | a :: t, _ => rfl
  have e2 : (m.getLast?.map (·.is 36)).getD false = (m[m.length - 1]'(by omega)).is 36 := by
    rw [List.getLast?_eq_getElem?, List.getElem?_eq_getElem (by omega)]; rfl
  unfold expM
  rw [if_neg hm]
  simp only [e1, e2]
  rw [← h2, ← h3]
  unfold itemsA
  have e3 : (if tl = true then m.take (m.length - 1) else m) = m.take en := by
    rw [h4]; cases tl
    · simp
    · simp
  rw [e3]
end Go.Proofs.Ytlppphmnegdhoab

/-
  The document's expressions: the walk of 'expression'.
-/
namespace Go.Proofs.Ytlppphmnegdhoab
set_option linter.unusedVariables false
set_option maxRecDepth 100000
open Go.RowKit
open M

/-- an expression's three cells -/
structure ExBox (b : Nat) (w : World) (h t : Bool) (v : Value) : Prop where
  c0 : w.cell? ⟨b, 0, none⟩ = some (.bool h)
  c1 : w.cell? ⟨b, 1, none⟩ = some (.bool t)
  c2 : w.cell? ⟨b, 2, none⟩ = some v
  f0 : w.frozen? ⟨b, 0, none⟩ = false
  f1 : w.frozen? ⟨b, 1, none⟩ = false
  f2 : w.frozen? ⟨b, 2, none⟩ = false
theorem ExBox.keep {b : Nat} {w w' : World} {h t : Bool} {v : Value} (e : ExBox b w h t v) (hk : w'.heap[b]? = w.heap[b]?) : ExBox b w' h t v := by
  have hc : ∀ o, w'.cell? ⟨b, o, none⟩ = w.cell? ⟨b, o, none⟩ := fun o => World.cell?_of_block hk
  have hf : ∀ o, w'.frozen? ⟨b, o, none⟩ = w.frozen? ⟨b, o, none⟩ := fun o => World.frozen?_of_block hk
  exact ⟨(hc _).trans e.c0, (hc _).trans e.c1, (hc _).trans e.c2, (hf _).trans e.f0, (hf _).trans e.f1, (hf _).trans e.f2⟩
theorem ExBox.set0 {b : Nat} {w : World} {h t : Bool} {v : Value} (e : ExBox b w h t v) (u : Bool) : ExBox b (w.setCell ⟨b, 0, none⟩ (.bool u)) u t v := by
  obtain ⟨c0, c1, c2, f0, f1, f2⟩ := e
  refine ⟨?_, ?_, ?_, ?_, ?_, ?_⟩
  all_goals first | (simp [go_sem, *]; done) | (rw [World.cell?_setCell_other (by simp)]; assumption) | exact World.cell?_setCell_same c0
theorem ExBox.set1 {b : Nat} {w : World} {h t : Bool} {v : Value} (e : ExBox b w h t v) (u : Bool) : ExBox b (w.setCell ⟨b, 1, none⟩ (.bool u)) h u v := by
  obtain ⟨c0, c1, c2, f0, f1, f2⟩ := e
  refine ⟨?_, ?_, ?_, ?_, ?_, ?_⟩
  all_goals first | (simp [go_sem, *]; done) | (rw [World.cell?_setCell_other (by simp)]; assumption) | exact World.cell?_setCell_same c1
theorem ExBox.set2 {b : Nat} {w : World} {h t : Bool} {v : Value} (e : ExBox b w h t v) (u : Value) : ExBox b (w.setCell ⟨b, 2, none⟩ u) h t u := by
  obtain ⟨c0, c1, c2, f0, f1, f2⟩ := e
  refine ⟨?_, ?_, ?_, ?_, ?_, ?_⟩
  all_goals first | (simp [go_sem, *]; done) | (rw [World.cell?_setCell_other (by simp)]; assumption) | exact World.cell?_setCell_same c2
/-- all that 'expression' holds -/
structure EInv (w wr : World) (hd tl : Bool) (v : Value) (L : List IV) : Prop where
  res : ExBox w.heap.size wr false false (.slice none 0 0)
  box : ExBox (w.heap.size + 1) wr hd tl v
  own : wr.ownsRow (w.heap.size + 2) 92 5 v L.length (ivsC L)
  ok : ∀ x ∈ L, IVok (w.heap.size + 2) wr x
  below : Below w.heap.size w wr
  size : w.heap.size + 2 ≤ wr.heap.size
theorem IVok.below {B : Nat} {w w' : World} {x : IV} (h : IVok B w x) (hb : Below w.heap.size w w') : IVok B w' x := ⟨ownsRow_below h.f hb, ownsRow_below h.k hb, h.ap⟩
theorem EInv.keep {w wr w' : World} {hd tl : Bool} {v : Value} {L : List IV} (h : EInv w wr hd tl v L) (hb : Below wr.heap.size wr w') : EInv w w' hd tl v L := by
  have hs := h.size
  have hs2 := hb.size
  exact ⟨h.res.keep (hb.block _ (by omega)), h.box.keep (hb.block _ (by omega)), ownsRow_below h.own hb, fun x hx => (h.ok x hx).below hb, h.below.trans (hb.mono (by omega)), by omega⟩
theorem EInv.set0 {w wr : World} {hd tl : Bool} {v : Value} {L : List IV} (h : EInv w wr hd tl v L) (u : Bool) : EInv w (wr.setCell ⟨w.heap.size + 1, 0, none⟩ (.bool u)) u tl v L :=
  ⟨h.res.keep (heap_setCell_other _ _ _ _ (by simp)), h.box.set0 u, ownsRow_setCell_below h.own (by simp) _, fun x hx => (h.ok x hx).set (by simp) _, h.below.setCell (by simp) _, by simpa using h.size⟩
theorem EInv.set1 {w wr : World} {hd tl : Bool} {v : Value} {L : List IV} (h : EInv w wr hd tl v L) (u : Bool) : EInv w (wr.setCell ⟨w.heap.size + 1, 1, none⟩ (.bool u)) hd u v L :=
  ⟨h.res.keep (heap_setCell_other _ _ _ _ (by simp)), h.box.set1 u, ownsRow_setCell_below h.own (by simp) _, fun x hx => (h.ok x hx).set (by simp) _, h.below.setCell (by simp) _, by simpa using h.size⟩
theorem EInv.grow {w wr w3 : World} {hd tl : Bool} {v v' : Value} {L : List IV} {o : Obj} {x : IV} (h : EInv w wr hd tl v L) (hx : IVok (w.heap.size + 2) wr x)
    (hown : w3.ownsRow (w.heap.size + 2) 92 5 v' (L.length + 1) (ivsC L ++ ivC x)) (hg : (wr.alloc o).grownBy w3 v.ownBlock) :
    ExBox (w.heap.size + 1) w3 hd tl v ∧ EInv w (w3.setCell ⟨w.heap.size + 1, 2, none⟩ v') hd tl v' (L ++ [x]) := by
  have hs := h.size
  have hs3 := hg.size
  simp at hs3
  have hk : ∀ k, k < w.heap.size + 2 → w3.heap[k]? = wr.heap[k]? := fun k hk => by
    rw [hg.block k (by simp; omega) (fun e => by have := (h.own.lt k e.symm).1; omega), Below.heap_alloc _ _ _ (by omega)]
  have hb := h.box.keep (hk _ (by omega))
  have hr := h.res.keep (hk _ (by omega))
  have hiv : ∀ y, IVok (w.heap.size + 2) wr y → IVok (w.heap.size + 2) w3 y := fun y hy =>
    ⟨(hy.f.alloc o).kept hg (rows_apart2 hy.f h.own (by decide)), (hy.k.alloc o).kept hg (rows_apart2 hy.k h.own (by decide)), hy.ap⟩
  refine ⟨hb, hr.keep (heap_setCell_other _ _ _ _ (by simp)), hb.set2 _, ?_, ?_, ?_, by simp; omega⟩
  · rw [← ivsC_snoc] at hown
    rw [List.length_append]
    exact ownsRow_setCell_below hown (by simp) _
  · intro y hy
    rcases List.mem_append.1 hy with hy | hy
    · exact (hiv y (h.ok y hy)).set (by simp) _
    · simp at hy; rw [hy]; exact (hiv x hx).set (by simp) _
  · exact ((h.below.alloc (by omega) _).grown hg (by simp; omega) (fun k hk => by have := (h.own.lt k hk).1; omega)).setCell (by simp) _
theorem EInv.fin {w wr : World} {hd tl : Bool} {v : Value} {L : List IV} (h : EInv w wr hd tl v L) :
    ((((wr.setCell ⟨w.heap.size, 0, none⟩ (.bool hd)).setCell ⟨w.heap.size, 1, none⟩ (.bool tl)).setCell ⟨w.heap.size, 2, none⟩ v)).ownsRow w.heap.size 92 5 v L.length (ivsC L) ∧
    (∀ x ∈ L, IVok w.heap.size (((wr.setCell ⟨w.heap.size, 0, none⟩ (.bool hd)).setCell ⟨w.heap.size, 1, none⟩ (.bool tl)).setCell ⟨w.heap.size, 2, none⟩ v) x) ∧
    Below w.heap.size w (((wr.setCell ⟨w.heap.size, 0, none⟩ (.bool hd)).setCell ⟨w.heap.size, 1, none⟩ (.bool tl)).setCell ⟨w.heap.size, 2, none⟩ v) := by
  refine ⟨ownsRow_base (ownsRow_setCell_below (ownsRow_setCell_below (ownsRow_setCell_below h.own (by simp) _) (by simp) _) (by simp) _) (by omega), fun x hx => ?_, ((h.below.setCell (by simp) _).setCell (by simp) _).setCell (by simp) _⟩
  have t := (((h.ok x hx).set (a := ⟨w.heap.size, 0, none⟩) (by simp) (.bool hd)).set (a := ⟨w.heap.size, 1, none⟩) (by simp) (.bool tl)).set (a := ⟨w.heap.size, 2, none⟩) (by simp) v
  exact ⟨ownsRow_base t.f (by omega), ownsRow_base t.k (by omega), t.ap⟩
/-- what 'expression' answers -/
def ExpPost (l : List Mk) (w w' : World) (e : Ending) : Prop :=
  ∃ (hd tl : Bool) (a : Option Addr) (n c : Nat), Below w.heap.size w w' ∧
    ((expM l = none ∧ e = .returned (.tuple #[.agg #[.bool hd, .bool tl, .slice a n c], .bool false])) ∨
     ∃ L : List IV, expM l = some ⟨hd, tl, L.map IV.it⟩ ∧ n = L.length ∧ e = .returned (.tuple #[.agg #[.bool hd, .bool tl, .slice a n c], .bool true]) ∧ w'.ownsRow w.heap.size 92 5 (.slice a n c) L.length (ivsC L) ∧ (∀ x ∈ L, IVok w.heap.size w' x) ∧ L.length ≤ l.length)
end Go.Proofs.Ytlppphmnegdhoab
