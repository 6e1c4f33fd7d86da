import Derived.Test.YtlppphmnegdhoabGreatDoorRows
import Derived.WalkKit
import Derived.WalkSpells
import Derived.WalkLawsBesides
import Derived.Laws.BitsLemmas
import Derived.Deep.QuietTactic
import Derived.BigQuiet
import Derived.Lib.Strings
import Derived.Laws.BytesArg
import Derived.Deep.RegionHeld3
import Derived.Deep.DrawnRows
import Derived.Deep.AppendLies
import Derived.Deep.RegionLaw
import Derived.Deep.DeepCutAuto
import Derived.Deep.CutBlock
import Derived.Lib.ItoaNum
import Derived.Deep.MidRow
import Derived.Deep.WholeRow
import Derived.Laws.ResultCell
import Derived.Great.BuildSlice
import Derived.Laws.AppendOwnNone
import Derived.Laws.OwnMore
import Derived.Lib.AppendStr
import Derived.Test.YtlppphmnegdhoabGreatDoorMa4
namespace Go.Proofs.YtlppphmnegdhoabGreatDoor
set_option linter.unusedVariables false
open M

/-- the greatest place to which the items from k on match from p, or -1 -/
def Gre (tl : Bool) (l : List It) (s : List UInt8) (k p : Nat) (e : Int) : Prop :=
  (e = -1 ∧ ∀ q, q ≤ s.length → stg tl l s q k p = false) ∨ ∃ q : Nat, q ≤ s.length ∧ e = q ∧ stg tl l s q k p = true ∧ ∀ q', q < q' → q' ≤ s.length → stg tl l s q' k p = false
theorem stg_far (tl : Bool) (l : List It) (s : List UInt8) (q k p : Nat) (h : q < p) : stg tl l s q k p = false := by
  unfold stg
  rw [decide_eq_false (by omega)]; rfl
theorem gre_end (tl : Bool) (l : List It) (s : List UInt8) (p : Nat) (hp : p ≤ s.length) : Gre tl l s l.length p (if tl = true ∧ p < s.length then -1 else (p : Int)) := by
  by_cases h : tl = true ∧ p < s.length
  · rw [if_pos h]
    refine .inl ⟨rfl, fun q hq => ?_⟩
    rw [stg_end tl l s q p hq, h.1]
    by_cases e : p = q
    · subst e; simp; omega
    · simp [e]
  · rw [if_neg h]
    refine .inr ⟨p, hp, rfl, ?_, fun q' h1 h2 => ?_⟩
    · rw [stg_end tl l s p p hp]
      cases tl
      · simp
      · have : p = s.length := by
          by_cases e : p < s.length
          · exact absurd ⟨rfl, e⟩ h
          · omega
        simp [this]
    · rw [stg_end tl l s q' p h2, decide_eq_false (by omega)]; rfl
theorem stg_one (tl : Bool) (l : List It) (s : List UInt8) (q k p : Nat) (hk : k < l.length) (hs : l[k].star = false) (hp : p < s.length) (hq : q ≤ s.length) : stg tl l s q k p = (hasI l[k] s[p].toNat && stg tl l s q (k + 1) (p + 1)) := by
  have e : s.getD p 0 = s[p] := by rw [List.getD_eq_getElem?_getD, List.getElem?_eq_getElem hp]; rfl
  by_cases h : p ≤ q
  · rw [stg_step tl l s q k p hk hq h, hs, e]
    by_cases h2 : p < q
    · simp [h2]
    · rw [stg_far tl l s q (k + 1) (p + 1) (by omega)]; simp
  · rw [stg_far tl l s q k p (by omega), stg_far tl l s q (k + 1) (p + 1) (by omega)]; simp
theorem stg_one_end (tl : Bool) (l : List It) (s : List UInt8) (q k : Nat) (hk : k < l.length) (hs : l[k].star = false) (hq : q ≤ s.length) : stg tl l s q k s.length = false := by
  by_cases h : s.length ≤ q
  · rw [stg_step tl l s q k s.length hk hq h, hs, decide_eq_false (by omega)]; simp
  · exact stg_far tl l s q k s.length (by omega)
theorem stg_many (tl : Bool) (l : List It) (s : List UInt8) (q k p : Nat) (hk : k < l.length) (hs : l[k].star = true) (hp : p < s.length) (hq : q ≤ s.length) : stg tl l s q k p = (stg tl l s q (k + 1) p || (hasI l[k] s[p].toNat && stg tl l s q k (p + 1))) := by
  have e : s.getD p 0 = s[p] := by rw [List.getD_eq_getElem?_getD, List.getElem?_eq_getElem hp]; rfl
  by_cases h : p ≤ q
  · rw [stg_step tl l s q k p hk hq h, hs, e]
    by_cases h2 : p < q
    · simp [h2]
    · rw [stg_far tl l s q k (p + 1) (by omega)]; simp
  · rw [stg_far tl l s q k p (by omega), stg_far tl l s q k (p + 1) (by omega), stg_far tl l s q (k + 1) p (by omega)]; simp
theorem stg_many_end (tl : Bool) (l : List It) (s : List UInt8) (q k : Nat) (hk : k < l.length) (hs : l[k].star = true) (hq : q ≤ s.length) : stg tl l s q k s.length = stg tl l s q (k + 1) s.length := by
  by_cases h : s.length ≤ q
  · rw [stg_step tl l s q k s.length hk hq h, hs, decide_eq_false (show ¬ s.length < q by omega)]; simp
  · rw [stg_far tl l s q k s.length (by omega), stg_far tl l s q (k + 1) s.length (by omega)]
theorem gre_one (tl : Bool) (l : List It) (s : List UInt8) (k p : Nat) (e : Int) (hk : k < l.length) (hs : l[k].star = false) (hp : p < s.length) (h : Gre tl l s (k + 1) (p + 1) e) : Gre tl l s k p (if hasI l[k] s[p].toNat then e else -1) := by
  cases hh : hasI l[k] s[p].toNat
  · exact .inl ⟨rfl, fun q hq => by rw [stg_one tl l s q k p hk hs hp hq, hh]; rfl⟩
  · simp only [if_true]
    rcases h with ⟨rfl, h⟩ | ⟨q, hq, rfl, h1, h2⟩
    · exact .inl ⟨rfl, fun q hq => by rw [stg_one tl l s q k p hk hs hp hq, h q hq, Bool.and_false]⟩
    · exact .inr ⟨q, hq, rfl, by rw [stg_one tl l s q k p hk hs hp hq, hh, h1]; rfl, fun q' hl hq' => by rw [stg_one tl l s q' k p hk hs hp hq', h2 q' hl hq', Bool.and_false]⟩
theorem gre_one_end (tl : Bool) (l : List It) (s : List UInt8) (k : Nat) (hk : k < l.length) (hs : l[k].star = false) : Gre tl l s k s.length (-1) :=
  .inl ⟨rfl, fun q hq => stg_one_end tl l s q k hk hs hq⟩
theorem gre_many (tl : Bool) (l : List It) (s : List UInt8) (k p : Nat) (e1 e2 : Int) (hk : k < l.length) (hs : l[k].star = true) (hp : p < s.length) (h : Gre tl l s (k + 1) p e1) (g : Gre tl l s k (p + 1) e2) : Gre tl l s k p (if hasI l[k] s[p].toNat = true ∧ e1 < e2 then e2 else e1) := by
  cases hh : hasI l[k] s[p].toNat
  · rw [if_neg (by simp)]
    have e : ∀ q, q ≤ s.length → stg tl l s q k p = stg tl l s q (k + 1) p := fun q hq => by rw [stg_many tl l s q k p hk hs hp hq, hh]; simp
    rcases h with ⟨rfl, h⟩ | ⟨q, hq, rfl, h1, h2⟩
    · exact .inl ⟨rfl, fun q hq => by rw [e q hq]; exact h q hq⟩
    · exact .inr ⟨q, hq, rfl, by rw [e q hq]; exact h1, fun q' hl hq' => by rw [e q' hq']; exact h2 q' hl hq'⟩
  · have e : ∀ q, q ≤ s.length → stg tl l s q k p = (stg tl l s q (k + 1) p || stg tl l s q k (p + 1)) := fun q hq => by rw [stg_many tl l s q k p hk hs hp hq, hh]; simp
    rcases h with ⟨rfl, h⟩ | ⟨q, hq, rfl, h1, h2⟩ <;> rcases g with ⟨rfl, g⟩ | ⟨r, hr, rfl, g1, g2⟩
    · rw [if_neg (by omega)]
      exact .inl ⟨rfl, fun q hq => by rw [e q hq, h q hq, g q hq]; rfl⟩
    · rw [if_pos ⟨rfl, by omega⟩]
      exact .inr ⟨r, hr, rfl, by rw [e r hr, g1, Bool.or_true], fun q' hl hq' => by rw [e q' hq', h q' hq', g2 q' hl hq']; rfl⟩
    · rw [if_neg (by omega)]
      exact .inr ⟨q, hq, rfl, by rw [e q hq, h1]; rfl, fun q' hl hq' => by rw [e q' hq', h2 q' hl hq', g q' hq']; rfl⟩
    · by_cases hlt : q < r
      · rw [if_pos ⟨rfl, by omega⟩]
        exact .inr ⟨r, hr, rfl, by rw [e r hr, g1, Bool.or_true], fun q' hl hq' => by rw [e q' hq', h2 q' (by omega) hq', g2 q' hl hq']; rfl⟩
      · rw [if_neg (by omega)]
        exact .inr ⟨q, hq, rfl, by rw [e q hq, h1]; rfl, fun q' hl hq' => by rw [e q' hq', h2 q' hl hq', g2 q' (by omega) hq']; rfl⟩
theorem gre_many_end (tl : Bool) (l : List It) (s : List UInt8) (k : Nat) (e : Int) (hk : k < l.length) (hs : l[k].star = true) (h : Gre tl l s (k + 1) s.length e) : Gre tl l s k s.length e := by
  rcases h with ⟨rfl, h⟩ | ⟨q, hq, rfl, h1, h2⟩
  · exact .inl ⟨rfl, fun q hq => by rw [stg_many_end tl l s q k hk hs hq]; exact h q hq⟩
  · exact .inr ⟨q, hq, rfl, by rw [stg_many_end tl l s q k hk hs hq]; exact h1, fun q' hl hq' => by rw [stg_many_end tl l s q' k hk hs hq']; exact h2 q' hl hq'⟩
theorem matchX_stg (x : Ex) (s : List UInt8) (i j : Nat) (hj : j ≤ s.length) : matchX x s i j = ((!x.head || decide (i = 0)) && stg x.tail x.l s j 0 i) := by
  unfold matchX stg
  rw [List.drop_zero, decide_eq_true hj]
  cases decide (i ≤ j) <;> cases (!x.head || decide (i = 0)) <;> cases (!x.tail || decide (j = s.length)) <;> rfl
theorem matchX_long (x : Ex) (s : List UInt8) (i j : Nat) (hj : s.length < j) : matchX x s i j = false := by
  unfold matchX
  rw [decide_eq_false (show ¬ j ≤ s.length by omega)]; simp
/-- what the row of ends says at last -/
def EndAt (x : Ex) (s : List UInt8) (p : Nat) (e : Int) : Prop :=
  (e = -1 ∧ ∀ q, matchX x s p q = false) ∨ ∃ q : Nat, e = q ∧ matchX x s p q = true ∧ ∀ q', q < q' → matchX x s p q' = false
theorem end_of (x : Ex) (s : List UInt8) (p : Nat) (e : Int) (hp : x.head = false ∨ p = 0) (h : Gre x.tail x.l s 0 p e) : EndAt x s p e := by
  have ht : (!x.head || decide (p = 0)) = true := by
    rcases hp with h | h <;> simp [h]
  have e1 : ∀ q, q ≤ s.length → matchX x s p q = stg x.tail x.l s q 0 p := fun q hq => by rw [matchX_stg x s p q hq, ht]; rfl
  rcases h with ⟨rfl, h⟩ | ⟨q, hq, rfl, h1, h2⟩
  · refine .inl ⟨rfl, fun q => ?_⟩
    by_cases hq : q ≤ s.length
    · rw [e1 q hq]; exact h q hq
    · exact matchX_long x s p q (by omega)
  · refine .inr ⟨q, rfl, by rw [e1 q hq]; exact h1, fun q' hl => ?_⟩
    by_cases hq' : q' ≤ s.length
    · rw [e1 q' hq']; exact h2 q' hl hq'
    · exact matchX_long x s p q' (by omega)
theorem end_head (x : Ex) (s : List UInt8) (p : Nat) (hx : x.head = true) (hp : p ≠ 0) : EndAt x s p (-1) := by
  refine .inl ⟨rfl, fun q => ?_⟩
  by_cases hq : q ≤ s.length
  · rw [matchX_stg x s p q hq, hx, decide_eq_false hp]; rfl
  · exact matchX_long x s p q (by omega)
end Go.Proofs.YtlppphmnegdhoabGreatDoor

namespace Go.Proofs.YtlppphmnegdhoabGreatDoor
set_option linter.unusedVariables false
open M

theorem matchX_le {x : Ex} {s : List UInt8} {i j : Nat} (h : matchX x s i j = true) : i ≤ j ∧ j ≤ s.length := by
  unfold matchX at h
  simp only [Bool.and_eq_true, decide_eq_true_eq] at h
  exact ⟨h.1.1.1.1, h.1.1.1.2⟩
theorem endX_none (x : Ex) (s : List UInt8) (p : Nat) (h : ∀ q, matchX x s p q = false) : endX x s p = -1 := by
  unfold endX
  have : (List.range (s.length + 1)).reverse.find? (fun q => matchX x s p q) = none := by
    rw [List.find?_eq_none]
    intro q _
    rw [h q]; decide
  rw [this]
theorem find_rev (f : Nat → Bool) : ∀ (n q : Nat), q < n → f q = true → (∀ q', q < q' → f q' = false) → (List.range n).reverse.find? f = some q := by
  intro n
  induction n with
  | zero => intro q h; omega
  | succ n ih =>
    intro q hq hf hno
    rw [List.range_succ, List.reverse_append, List.reverse_singleton, List.singleton_append, List.find?_cons]
    by_cases e : q = n
    · subst e; rw [hf]
    · rw [hno n (by omega)]
      exact ih q (by omega) hf hno
theorem endX_some (x : Ex) (s : List UInt8) (p q : Nat) (h : matchX x s p q = true) (hno : ∀ q', q < q' → matchX x s p q' = false) : endX x s p = q := by
  unfold endX
  rw [find_rev _ (s.length + 1) q (by have := (matchX_le h).2; omega) h hno]
theorem endAt_eq {x : Ex} {s : List UInt8} {p : Nat} {e : Int} (h : EndAt x s p e) : e = endX x s p := by
  rcases h with ⟨rfl, h⟩ | ⟨q, rfl, h1, h2⟩
  · exact (endX_none x s p h).symm
  · exact (endX_some x s p q h1 h2).symm
theorem endX_bnd (x : Ex) (s : List UInt8) (p : Nat) : endX x s p = -1 ∨ ∃ q : Nat, endX x s p = q ∧ p ≤ q ∧ q ≤ s.length ∧ matchX x s p q = true := by
  unfold endX
  cases hf : (List.range (s.length + 1)).reverse.find? (fun q => matchX x s p q) with
  | none => exact .inl rfl
  | some q =>
    have h1 := List.find?_some hf
    have h2 := matchX_le h1
    exact .inr ⟨q, rfl, h2.1, h2.2, h1⟩
theorem find_eq {x : Ex} {s : List UInt8} {i j : Int} (h : FindAt x s 0 i j) : decide (0 ≤ i) = findB x s := by
  unfold findB
  rcases h with ⟨rfl, rfl, h⟩ | ⟨a, b, rfl, rfl, h1, h2, h3, h4⟩
  · have : (List.range (s.length + 1)).any (fun p => endX x s p != -1) = false := by
      rw [List.any_eq_false]
      intro p _
      rw [endX_none x s p (fun q => h p q (Nat.zero_le _))]; decide
    rw [this]; decide
  · have : (List.range (s.length + 1)).any (fun p => endX x s p != -1) = true := by
      rw [List.any_eq_true]
      have hl := matchX_le h2
      refine ⟨a, List.mem_range.2 (by omega), ?_⟩
      rw [endX_some x s a b h2 h4]
      rw [bne_iff_ne]; omega
    rw [this, decide_eq_true_eq]; omega
end Go.Proofs.YtlppphmnegdhoabGreatDoor

namespace Go.Proofs.YtlppphmnegdhoabGreatDoor
set_option linter.unusedVariables false
set_option maxRecDepth 100000
open Go.RowKit
open M

/-- a row of numbers that may be written into -/
structure IR (w : World) (g n : Nat) (e : Nat → Int) : Prop where
  lt : g < w.heap.size
  c : ∀ i, i < n → w.cell? ⟨g, i, none⟩ = some (.int .i64 (e i))
  fz : ∀ i, i < n → w.frozen? ⟨g, i, none⟩ = false
theorem IR.keep {w w' : World} {g n : Nat} {e : Nat → Int} (h : IR w g n e) (hk : w'.heap[g]? = w.heap[g]?) (hs : w.heap.size ≤ w'.heap.size) : IR w' g n e :=
  ⟨by have := h.lt; omega, fun i hi => (World.cell?_of_block hk).trans (h.c i hi), fun i hi => (World.frozen?_of_block hk).trans (h.fz i hi)⟩
theorem IR.congr {w : World} {g n : Nat} {e e' : Nat → Int} (h : IR w g n e) (he : ∀ i, i < n → e i = e' i) : IR w g n e' :=
  ⟨h.lt, fun i hi => by rw [← he i hi]; exact h.c i hi, h.fz⟩
theorem IR.set {w : World} {g n : Nat} {e : Nat → Int} (h : IR w g n e) (q : Nat) (hq : q < n) (b : Int) : IR (w.setCell ⟨g, q, none⟩ (.int .i64 b)) g n (fun i => if i = q then b else e i) := by
  refine ⟨by simpa using h.lt, fun i hi => ?_, fun i hi => by simpa using h.fz i hi⟩
  by_cases hqi : i = q
  · subst hqi
    rw [if_pos rfl]
    exact World.cell?_setCell_same' _ _ _ (by rw [h.c i hi]; rfl)
  · rw [if_neg hqi]
    rw [World.cell?_setCell_other _ _ _ _ (fun e => hqi (congrArg Addr.off e).symm)]
    exact h.c i hi
theorem IR.drew {w : World} {g n : Nat} {e : Nat → Int} (h : IR w g n e) : IR w.drew g n e := h.keep rfl (Nat.le_refl _)
/-- all old blocks but one are as they were -/
structure Apart (g : Nat) (w w' : World) : Prop where
  os : w'.os = w.os
  tape : w'.tape = w.tape
  output : w'.output = w.output
  size : w.heap.size ≤ w'.heap.size
  block : ∀ k, k < w.heap.size → k ≠ g → w'.heap[k]? = w.heap[k]?
theorem Apart.refl (g : Nat) (w : World) : Apart g w w := ⟨rfl, rfl, rfl, Nat.le_refl _, fun _ _ _ => rfl⟩
theorem Apart.trans {g : Nat} {a b c : World} (h : Apart g a b) (k : Apart g b c) : Apart g a c :=
  ⟨k.os.trans h.os, k.tape.trans h.tape, k.output.trans h.output, Nat.le_trans h.size k.size, fun i hi hg => (k.block i (Nat.lt_of_lt_of_le hi h.size) hg).trans (h.block i hi hg)⟩
theorem Apart.of_below {g : Nat} {w w' : World} (h : Below w.heap.size w w') : Apart g w w' := ⟨h.os, h.tape, h.output, h.size, fun k hk _ => h.block k hk⟩
theorem Apart.of_only {g : Nat} {w w' : World} (h : Only g w w') : Apart g w w' := ⟨h.os, h.tape, h.output, by rw [h.size]; exact Nat.le_refl _, fun k _ hk => h.block k hk⟩
theorem Apart.below {g B : Nat} {w w' : World} (h : Apart g w w') (hB : B ≤ g) (hw : B ≤ w.heap.size) : Below B w w' := ⟨h.os, h.tape, h.output, h.size, fun k hk => h.block k (by omega) (by omega)⟩
/-- the box of matches -/
structure MB (w : World) (b : Nat) (s : ByteArray) (v : Value) : Prop where
  lt : b < w.heap.size
  c0 : w.cell? ⟨b, 0, none⟩ = some (.string s)
  c1 : w.cell? ⟨b, 1, none⟩ = some v
theorem MB.keep {w w' : World} {b : Nat} {s : ByteArray} {v : Value} (h : MB w b s v) (hk : w'.heap[b]? = w.heap[b]?) (hs : w.heap.size ≤ w'.heap.size) : MB w' b s v :=
  ⟨by have := h.lt; omega, (World.cell?_of_block hk).trans h.c0, (World.cell?_of_block hk).trans h.c1⟩
/-- an item into a box of its own -/
theorem it_box {ops : Array Oper} {rest : List Oper} {op : Oper} {a : Act} {w : World} {Q : Exit → Act → World → Prop} (hgd : op.guard = none) (x : Operand) (ho : op.op = .box 211 x) (f : Nat → Bool) (hx : a.eval x = itV f)
    (h : ∀ w', BR w' w.heap.size 257 f → Below w.heap.size w w' → w'.heap.size = w.heap.size + 1 → wpList Tryz.prog ops Q rest (a.put op.dst (.pointer (some ⟨w.heap.size, 0, none⟩))) w') : wpList Tryz.prog ops Q (op :: rest) a w := by
  have hw := h (w.alloc (.cells (bC 257 f).toArray 211)) ?_ ((Below.refl _ _).alloc (Nat.le_refl _) _) (by simp)
  · refine wpList_plain hgd fun _ hK => ?_
    unfold Oper.wp execOp
    have hc : (itV f).cells = (bC 257 f).toArray := rfl
    have hr : (Instr.box 211 (itV f)).run Tryz.prog w = .ok (.pointer (some ⟨w.heap.size, 0, none⟩)) (w.alloc (.cells (bC 257 f).toArray 211)) := by
      simp [Instr.box, newVar, newRow, hc]
    simp only [ho, hx, Sem.run_bind, hr, Result.andThen_ok]
    exact hK _ _ hw
  · refine ⟨by simp, fun i hi => ?_, fun i hi => by simp [go_sem]⟩
    rw [cell_of_row _ _ _ _ _ _ (heap_alloc_new w _)]
    have := bC_get 257 f i hi
    simpa using this

def oneE (f : Nat → Bool) (s : List UInt8) (e : Nat → Int) (p : Nat) : Int := if h : p < s.length then (if f s[p].toNat then e (p + 1) else -1) else -1
set_option maxRecDepth 100000 in
set_option maxHeartbeats 4000000 in
theorem layOne_calls (b g c : Nat) (s : ByteArray) (f : Nat → Bool) (e : Nat → Int) (w : World) (hs : s.size ≤ 256) (hb : MB w b s (.slice (some ⟨g, 0, none⟩) (s.size + 1) c)) (hr : IR w g (s.size + 1) e) (hbg : b ≠ g) :
    Calls Tryz.prog 213 #[.pointer (some ⟨b, 0, none⟩), itV f] w fun x w' => x = .returned (.tuple #[]) ∧ IR w' g (s.size + 1) (oneE f s.data.toList e) ∧ Apart g w w' := by
  have hl := ba_len s
  go_enter Tryz.func213, Tryz.ntmps213
  go_wp2_with (refine it_box rfl _ rfl f rfl ?_; intro w1 hb1 B1 hs1)
  have hgl := hr.lt
  have hbl := hb.lt
  obtain ⟨gi, hgi⟩ : ∃ gi, w.heap.size = gi := ⟨_, rfl⟩
  have HA0 : Hid (MB w1 b s (.slice (some ⟨g, 0, none⟩) (s.size + 1) c) ∧ IR w1 g (s.size + 1) e ∧ BR w1 gi 257 f ∧ Apart g w w1) :=
    ⟨hb.keep (B1.block _ hbl) (by omega), hr.keep (B1.block _ hgl) (by omega), by rw [← hgi]; exact hb1, Apart.of_below B1⟩
  rw [hgi] at hgl hbl
  clear hb hr hb1 B1 hs1
  go_loopw [4] (fun v4 wr => ∃ p : Nat, p ≤ s.size ∧ v4 = .int .i64 p ∧ Hid (MB wr b s (.slice (some ⟨g, 0, none⟩) (s.size + 1) c) ∧ IR wr g (s.size + 1) (fun q => if q < p then oneE f s.data.toList e q else e q) ∧ BR wr gi 257 f ∧ Apart g w wr)) (fun v4 _ => s.size - (intOf v4).toNat)
  case atStart => exact ⟨0, Nat.zero_le _, rfl, HA0.out.1, HA0.out.2.1.congr (fun i _ => by rw [if_neg (by omega)]), HA0.out.2.2⟩
  case round =>
    clear HA0
    obtain ⟨p, hps, rfl, HB⟩ := hrel
    obtain ⟨y0, y1⟩ := HB.out.1
    have z0 := HB.out.2.1.c p (by omega)
    have z1 := HB.out.2.1.fz p (by omega)
    rw [if_neg (Nat.lt_irrefl _)] at z0
    by_cases hlt : p < s.size
    · have hlt1 : (p : Int) < (s.size : Int) := by omega
      have hlt2 : (p : Int) < (s.size : Int) + 1 := by omega
      have hlt3 : (p : Int) + 1 < (s.size : Int) + 1 := by omega
      have z2 := HB.out.2.1.c (p + 1) (by omega)
      rw [if_neg (by omega)] at z2
      obtain ⟨x, hx⟩ : ∃ x : Nat, s[p].toNat = x := ⟨_, rfl⟩
      have hxc : x < 256 := by rw [← hx]; exact s[p].toNat_lt
      have hxc1 : (x : Int) < 256 := by omega
      have z3 := HB.out.2.2.1.c x (by omega)
      have hP : p < s.data.toList.length := by omega
      have HX : Hid (oneE f s.data.toList e p = if f x then e (p + 1) else -1) := by
        show _ = _
        unfold oneE
        rw [dif_pos hP, ← hx]; rfl
      cases hf : f x
      · rw [hf] at z3
        have HX2 : Hid (oneE f s.data.toList e p = -1) := by show _ = _; rw [HX.out, hf]; rfl
        clear HX hf
        go_wp2
        go_roundw
        case rel =>
          refine ⟨p + 1, by omega, by go_num, HB.out.1.keep (heap_setCell_other _ _ _ _ hbg) (by simp), (HB.out.2.1.set p (by omega) (-1)).congr (fun i _ => ?_), HB.out.2.2.1.keep (heap_setCell_other _ _ _ _ (by simp; omega)) (by simp), HB.out.2.2.2.trans (Apart.of_only (Only.set _ _ _ _))⟩
          by_cases e1 : i = p
          · rw [if_pos e1, if_pos (by omega), e1]; exact HX2.out.symm
          · rw [if_neg e1]
            by_cases e2 : i < p
            · rw [if_pos e2, if_pos (by omega)]
            · rw [if_neg e2, if_neg (by omega)]
        case measure => simp [intOf]; omega
      · rw [hf] at z3
        have HX2 : Hid (oneE f s.data.toList e p = e (p + 1)) := by show _ = _; rw [HX.out, hf]; rfl
        clear HX hf
        go_wp2_with fail
        go_region
        go_wp2
        go_roundw
        case rel =>
          refine ⟨p + 1, by omega, by go_num, HB.out.1.keep (heap_setCell_other _ _ _ _ hbg) (by simp), (HB.out.2.1.drew.set p (by omega) (e (p + 1))).congr (fun i _ => ?_), HB.out.2.2.1.keep (heap_setCell_other _ _ _ _ (by simp; omega)) (by simp), HB.out.2.2.2.trans (Apart.of_only ((Only.refl g wr).drew.trans (Only.set _ _ _ _)))⟩
          by_cases e1 : i = p
          · rw [if_pos e1, if_pos (by omega), e1]; exact HX2.out.symm
          · rw [if_neg e1]
            by_cases e2 : i < p
            · rw [if_pos e2, if_pos (by omega)]
            · rw [if_neg e2, if_neg (by omega)]
        case measure => simp [intOf]; omega
    · obtain rfl : p = s.size := by omega
      have hlt2 : (s.size : Int) < (s.size : Int) + 1 := by omega
      go_wp2_with fail
      go_region
      go_wp2
      go_end0
      refine ⟨rfl, (HB.out.2.1.drew.set s.size (by omega) (-1)).congr (fun i hi => ?_), HB.out.2.2.2.trans (Apart.of_only ((Only.refl g wr).drew.trans (Only.set _ _ _ _)))⟩
      by_cases e1 : i = s.size
      · rw [if_pos e1, e1]
        unfold oneE
        rw [dif_neg (by omega)]
      · rw [if_neg e1, if_pos (by omega)]
end Go.Proofs.YtlppphmnegdhoabGreatDoor

namespace Go.Proofs.YtlppphmnegdhoabGreatDoor
set_option linter.unusedVariables false
set_option maxRecDepth 100000
open Go.RowKit
open M

def manyAt (f : Nat → Bool) (s : List UInt8) (e : Nat → Int) : Nat → Int
  | 0 => e s.length
  | d + 1 => if f ((s.getD (s.length - (d + 1)) 0).toNat) = true ∧ e (s.length - (d + 1)) < manyAt f s e d then manyAt f s e d else e (s.length - (d + 1))
def manyE (f : Nat → Bool) (s : List UInt8) (e : Nat → Int) (p : Nat) : Int := manyAt f s e (s.length - p)
theorem manyE_end (f : Nat → Bool) (s : List UInt8) (e : Nat → Int) : manyE f s e s.length = e s.length := by unfold manyE; rw [Nat.sub_self]; rfl
theorem manyE_step (f : Nat → Bool) (s : List UInt8) (e : Nat → Int) (p : Nat) (h : p < s.length) : manyE f s e p = if f s[p].toNat = true ∧ e p < manyE f s e (p + 1) then manyE f s e (p + 1) else e p := by
  unfold manyE
  obtain ⟨d, hd⟩ : ∃ d, s.length - p = d + 1 := ⟨s.length - p - 1, by omega⟩
  have h1 : s.length - (p + 1) = d := by omega
  have h2 : s.length - (d + 1) = p := by omega
  have e1 : s.getD p 0 = s[p] := by rw [List.getD_eq_getElem?_getD, List.getElem?_eq_getElem h]; rfl
  rw [hd, h1]
  show (if f ((s.getD (s.length - (d + 1)) 0).toNat) = true ∧ e (s.length - (d + 1)) < manyAt f s e d then manyAt f s e d else e (s.length - (d + 1))) = _
  rw [h2, e1]
theorem drewN_only (g : Nat) (w : World) (n : Nat) : Only g w (w.drewN n) := ⟨rfl, rfl, rfl, rfl, fun _ _ => rfl⟩
set_option maxRecDepth 100000 in
set_option maxHeartbeats 4000000 in
theorem layMany_calls (b g c : Nat) (s : ByteArray) (f : Nat → Bool) (e : Nat → Int) (w : World) (hs : s.size ≤ 256) (hb : MB w b s (.slice (some ⟨g, 0, none⟩) (s.size + 1) c)) (hr : IR w g (s.size + 1) e) (hbg : b ≠ g) :
    Calls Tryz.prog 212 #[.pointer (some ⟨b, 0, none⟩), itV f] w fun x w' => x = .returned (.tuple #[]) ∧ IR w' g (s.size + 1) (manyE f s.data.toList e) ∧ Apart g w w' := by
  have hl := ba_len s
  have HL : Hid (s.data.toList.length = s.size) := hl
  clear hl
  have hgl := hr.lt
  have hbl := hb.lt
  go_enter Tryz.func212, Tryz.ntmps212
  go_upto_region 1 with (refine it_box rfl _ rfl f rfl ?_; intro w1 hb1 B1 hs1)
  obtain ⟨gi, hgi⟩ : ∃ gi, w.heap.size = gi := ⟨_, rfl⟩
  have HA0 : Hid (MB w1 b s (.slice (some ⟨g, 0, none⟩) (s.size + 1) c) ∧ IR w1 g (s.size + 1) e ∧ BR w1 gi 257 f ∧ Apart g w w1) :=
    ⟨hb.keep (B1.block _ hbl) (by omega), hr.keep (B1.block _ hgl) (by omega), by rw [← hgi]; exact hb1, Apart.of_below B1⟩
  rw [hgi] at hgl hbl
  clear hb hr hb1 B1 hs1
  obtain ⟨hm1, hm2, hm3⟩ := HA0.out.1
  go_wp2_with fail
  go_loopw [4] (fun v4 wr => ∃ p : Nat, p ≤ s.size ∧ v4 = .int .i64 ((p : Int) - 1) ∧ Hid (MB wr b s (.slice (some ⟨g, 0, none⟩) (s.size + 1) c) ∧ IR wr g (s.size + 1) (fun q => if p ≤ q then manyE f s.data.toList e q else e q) ∧ BR wr gi 257 f ∧ Apart g w wr)) (fun v4 _ => (intOf v4 + 1).toNat)
  case atStart =>
    refine ⟨s.size, Nat.le_refl _, rfl, HA0.out.1, HA0.out.2.1.congr (fun i hi => ?_), HA0.out.2.2⟩
    by_cases h : s.size ≤ i
    · rw [if_pos h]
      obtain rfl : i = s.size := by omega
      have := manyE_end f s.data.toList e
      rw [HL.out] at this
      exact this.symm
    · rw [if_neg h]
  case round =>
    clear HA0 hm1 hm2 hm3
    obtain ⟨pp, hps, rfl, HB⟩ := hrel
    obtain ⟨hy, y0, y1⟩ := HB.out.1
    by_cases hlt : 0 < pp
    · obtain ⟨p, rfl⟩ : ∃ p, pp = p + 1 := ⟨pp - 1, by omega⟩
      have ep : (((p + 1 : Nat) : Int) - 1) = (p : Int) := by omega
      rw [ep]
      clear ep
      have h0 : (0 : Int) ≤ (p : Int) := by omega
      have hlt1 : (p : Int) < (s.size : Int) := by omega
      have hlt2 : (p : Int) < (s.size : Int) + 1 := by omega
      have hlt3 : (p : Int) + 1 < (s.size : Int) + 1 := by omega
      have z0 := HB.out.2.1.c p (by omega)
      rw [if_neg (by omega)] at z0
      have z1 := HB.out.2.1.fz p (by omega)
      have z2 := HB.out.2.1.c (p + 1) (by omega)
      rw [if_pos (Nat.le_refl _)] at z2
      obtain ⟨x, hx⟩ : ∃ x : Nat, s[p].toNat = x := ⟨_, rfl⟩
      have hxc : x < 256 := by rw [← hx]; exact s[p].toNat_lt
      have hxc1 : (x : Int) < 256 := by omega
      have z3 := HB.out.2.2.1.c x (by omega)
      have HX : Hid (manyE f s.data.toList e p = if f x = true ∧ e p < manyE f s.data.toList e (p + 1) then manyE f s.data.toList e (p + 1) else e p) := by
        show _ = _
        rw [manyE_step f s.data.toList e p (by rw [HL.out]; omega), ← hx]; rfl
      have HN : Hid (∀ wx, Only g wr wx → MB wx b s (.slice (some ⟨g, 0, none⟩) (s.size + 1) c) ∧ IR wx g (s.size + 1) (fun q => if p + 1 ≤ q then manyE f s.data.toList e q else e q) → True) := fun _ _ _ => trivial
      obtain ⟨E1, hE1⟩ : ∃ E1, manyE f s.data.toList e (p + 1) = E1 := ⟨_, rfl⟩
      obtain ⟨E0, hE0⟩ : ∃ E0, e p = E0 := ⟨_, rfl⟩
      rw [hE1] at z2 HX
      rw [hE0] at z0 HX
      have HE0 : Hid (e p = E0) := hE0
      clear hE0 hE1 HN
      cases hf : f x
      · rw [hf] at z3
        have HX2 : Hid (manyE f s.data.toList e p = E0) := by show _ = _; rw [HX.out, hf, if_neg (by simp)]
        clear HX hf
        go_wp2_with fail
        go_quiet (fail)
        go_wp2
        go_roundw
        case rel =>
          refine ⟨p, by omega, by first | rfl | go_num, HB.out.1.keep (w' := wr.drewN nq) rfl (Nat.le_refl _), (HB.out.2.1.keep (w' := wr.drewN nq) rfl (Nat.le_refl _)).congr (fun i _ => ?_), HB.out.2.2.1.keep (w' := wr.drewN nq) rfl (Nat.le_refl _), HB.out.2.2.2.trans (Apart.of_only (drewN_only g _ _))⟩
          by_cases e1 : i = p
          · rw [if_neg (by omega), if_pos (by omega), e1, HX2.out]; exact HE0.out
          · by_cases e2 : p + 1 ≤ i
            · rw [if_pos e2, if_pos (by omega)]
            · rw [if_neg e2, if_neg (by omega)]
        case measure => simp [intOf]
      · rw [hf] at z3
        by_cases hgt : E0 < E1
        · have HX2 : Hid (manyE f s.data.toList e p = E1) := by show _ = _; rw [HX.out, hf, if_pos ⟨rfl, hgt⟩]
          clear HX hf
          go_wp2_with fail
          go_quiet (fail)
          have HW : Hid (MB (wr.drewN nq) b s (.slice (some ⟨g, 0, none⟩) (s.size + 1) c) ∧ IR (wr.drewN nq) g (s.size + 1) (fun q => if p + 1 ≤ q then manyE f s.data.toList e q else e q) ∧ BR (wr.drewN nq) gi 257 f ∧ Apart g w (wr.drewN nq)) :=
            ⟨HB.out.1.keep rfl (Nat.le_refl _), HB.out.2.1.keep rfl (Nat.le_refl _), HB.out.2.2.1.keep rfl (Nat.le_refl _), HB.out.2.2.2.trans (Apart.of_only (drewN_only g _ _))⟩
          have z0' : (wr.drewN nq).cell? ⟨g, p, none⟩ = some (.int .i64 E0) := z0
          have z1' : (wr.drewN nq).frozen? ⟨g, p, none⟩ = false := z1
          have z2' : (wr.drewN nq).cell? ⟨g, p + 1, none⟩ = some (.int .i64 E1) := z2
          have y0' : (wr.drewN nq).cell? ⟨b, 0, none⟩ = some (.string s) := y0
          have y1' : (wr.drewN nq).cell? ⟨b, 1, none⟩ = some (.slice (some ⟨g, 0, none⟩) (s.size + 1) c) := y1
          clear z0 z1 z2 z3 y0 y1 hy HB
          generalize wr.drewN nq = W at *
          go_wp2_with fail
          go_region
          go_wp2
          go_roundw
          case rel =>
            refine ⟨p, by omega, by first | rfl | go_num, HW.out.1.keep (heap_setCell_other _ _ _ _ hbg) (by simp), (HW.out.2.1.drew.set p (by omega) E1).congr (fun i _ => ?_), HW.out.2.2.1.keep (heap_setCell_other _ _ _ _ (by simp; omega)) (by simp), HW.out.2.2.2.trans (Apart.of_only ((Only.refl g W).drew.trans (Only.set _ _ _ _)))⟩
            by_cases e1 : i = p
            · rw [if_pos e1, if_pos (by omega), e1, HX2.out]
            · rw [if_neg e1]
              by_cases e2 : p + 1 ≤ i
              · rw [if_pos e2, if_pos (by omega)]
              · rw [if_neg e2, if_neg (by omega)]
          case measure => simp [intOf]
        · have HX2 : Hid (manyE f s.data.toList e p = E0) := by show _ = _; rw [HX.out, if_neg (fun h => hgt h.2)]
          clear HX hf
          go_wp2_with fail
          go_quiet (fail)
          go_wp2
          go_roundw
          case rel =>
            refine ⟨p, by omega, by first | rfl | go_num, HB.out.1.keep (w' := wr.drewN nq) rfl (Nat.le_refl _), (HB.out.2.1.keep (w' := wr.drewN nq) rfl (Nat.le_refl _)).congr (fun i _ => ?_), HB.out.2.2.1.keep (w' := wr.drewN nq) rfl (Nat.le_refl _), HB.out.2.2.2.trans (Apart.of_only (drewN_only g _ _))⟩
            by_cases e1 : i = p
            · rw [if_neg (by omega), if_pos (by omega), e1, HX2.out]; exact HE0.out
            · by_cases e2 : p + 1 ≤ i
              · rw [if_pos e2, if_pos (by omega)]
              · rw [if_neg e2, if_neg (by omega)]
          case measure => simp [intOf]
    · obtain rfl : pp = 0 := by omega
      go_wp2
      go_end0
      exact ⟨rfl, HB.out.2.1.congr (fun i _ => by rw [if_pos (by omega)]), HB.out.2.2.2⟩

def layE (x : It) (s : List UInt8) (e : Nat → Int) : Nat → Int := if x.star then manyE (itF x) s e else oneE (itF x) s e
set_option maxRecDepth 100000 in
set_option maxHeartbeats 4000000 in
theorem layAhead_calls (b g c : Nat) (s : ByteArray) (x : It) (e : Nat → Int) (w : World) (hs : s.size ≤ 256) (hb : MB w b s (.slice (some ⟨g, 0, none⟩) (s.size + 1) c)) (hr : IR w g (s.size + 1) e) (hbg : b ≠ g) :
    Calls Tryz.prog 173 #[.pointer (some ⟨b, 0, none⟩), itV (itF x)] w fun y w' => y = .returned (.tuple #[]) ∧ IR w' g (s.size + 1) (layE x s.data.toList e) ∧ Apart g w w' := by
  have hgl := hr.lt
  have hbl := hb.lt
  go_enter Tryz.func173, Tryz.ntmps173
  go_upto_region 1 with (refine it_box rfl _ rfl (itF x) rfl ?_; intro w1 hb1 B1 hs1)
  have hbw := hb.keep (B1.block _ hbl) (by omega)
  have hrw := hr.keep (B1.block _ hgl) (by omega)
  have hst := hb1.c 256 (by omega)
  have e256 : itF x 256 = x.star := rfl
  rw [e256] at hst
  clear hb hr
  cases hx : x.star
  · rw [hx] at hst
    have HL : Hid (layE x s.data.toList e = oneE (itF x) s.data.toList e) := by show _ = _; unfold layE; rw [hx]; rfl
    clear hx e256
    go_wp2_with (refine it_load hb1 rfl _ rfl rfl ?_)
    refine (layOne_calls b g c s (itF x) e w1 hs hbw hrw hbg).mono ?_
    rintro y w2 ⟨rfl, hr2, hA2⟩
    go_wp2
    go_end0
    exact ⟨rfl, by rw [HL.out]; exact hr2, (Apart.of_below B1).trans hA2⟩
  · rw [hx] at hst
    have HL : Hid (layE x s.data.toList e = manyE (itF x) s.data.toList e) := by show _ = _; unfold layE; rw [hx]; rfl
    clear hx e256
    go_wp2_with (refine it_load hb1 rfl _ rfl rfl ?_)
    refine (layMany_calls b g c s (itF x) e w1 hs hbw hrw hbg).mono ?_
    rintro y w2 ⟨rfl, hr2, hA2⟩
    go_wp2
    go_end0
    exact ⟨rfl, by rw [HL.out]; exact hr2, (Apart.of_below B1).trans hA2⟩
/-- one item more -/
theorem gre_lay (tl : Bool) (l : List It) (s : List UInt8) (k : Nat) (hk : k < l.length) (e : Nat → Int) (h : ∀ p, p ≤ s.length → Gre tl l s (k + 1) p (e p)) : ∀ p, p ≤ s.length → Gre tl l s k p (layE l[k] s e p) := by
  have hit : ∀ c : UInt8, itF l[k] c.toNat = hasI l[k] c.toNat := fun c => by
    unfold itF; rw [if_neg (by have := c.toNat_lt; omega)]
  unfold layE
  cases hs : l[k].star
  · intro p hp
    show Gre tl l s k p (oneE (itF l[k]) s e p)
    unfold oneE
    by_cases hlt : p < s.length
    · rw [dif_pos hlt, hit]
      exact gre_one tl l s k p _ hk hs hlt (h (p + 1) hlt)
    · rw [dif_neg hlt]
      obtain rfl : p = s.length := by omega
      exact gre_one_end tl l s k hk hs
  · have main : ∀ d p, s.length - p = d → p ≤ s.length → Gre tl l s k p (manyE (itF l[k]) s e p) := by
      intro d
      induction d with
      | zero =>
        intro p hd hp
        obtain rfl : p = s.length := by omega
        rw [manyE_end]
        exact gre_many_end tl l s k _ hk hs (h _ (Nat.le_refl _))
      | succ d ih =>
        intro p hd hp
        rw [manyE_step _ s e p (by omega), hit]
        exact gre_many tl l s k p _ _ hk hs (by omega) (h p hp) (ih (p + 1) (by omega) (by omega))
    exact fun p hp => main _ p rfl hp
end Go.Proofs.YtlppphmnegdhoabGreatDoor

namespace Go.Proofs.YtlppphmnegdhoabGreatDoor
set_option linter.unusedVariables false
set_option maxRecDepth 100000
open Go.RowKit
open M

/-- the box of matches, to be written into -/
structure MX (w : World) (b : Nat) (s : ByteArray) (v : Value) : Prop where
  lt : b < w.heap.size
  c0 : w.cell? ⟨b, 0, none⟩ = some (.string s)
  c1 : w.cell? ⟨b, 1, none⟩ = some v
  f1 : w.frozen? ⟨b, 1, none⟩ = false
theorem MX.keep {w w' : World} {b : Nat} {s : ByteArray} {v : Value} (h : MX w b s v) (hk : w'.heap[b]? = w.heap[b]?) (hs : w.heap.size ≤ w'.heap.size) : MX w' b s v :=
  ⟨by have := h.lt; omega, (World.cell?_of_block hk).trans h.c0, (World.cell?_of_block hk).trans h.c1, (World.frozen?_of_block hk).trans h.f1⟩
theorem MX.set {w : World} {b : Nat} {s : ByteArray} {v : Value} (h : MX w b s v) (u : Value) : MX (w.setCell ⟨b, 1, none⟩ u) b s u := by
  obtain ⟨l, c0, c1, f1⟩ := h
  refine ⟨by simpa using l, ?_, World.cell?_setCell_same' _ _ _ (by rw [c1]; rfl), by simpa using f1⟩
  rw [World.cell?_setCell_other _ _ _ _ (by simp)]; exact c0
/-- while the row of ends grows -/
structure KInv (h0 : Nat) (w wr : World) (hd tl : Bool) (vi : Value) (s : ByteArray) (v : Value) (es : List Value) : Prop where
  eb : ExBox h0 wr hd tl vi
  mx : MX wr (h0 + 1) s v
  own : wr.ownsRow (h0 + 2) 3 1 v es.length es
  below : Below h0 w wr
  size : h0 + 2 ≤ wr.heap.size
theorem KInv.grow {h0 : Nat} {w wr w3 : World} {hd tl : Bool} {vi : Value} {s : ByteArray} {v v' : Value} {es : List Value} {o : Obj} {x : Value} (h : KInv h0 w wr hd tl vi s v es)
    (hown : w3.ownsRow (h0 + 2) 3 1 v' (es.length + 1) (es ++ [x])) (hg : (wr.alloc o).grownBy w3 v.ownBlock) :
    MX w3 (h0 + 1) s v ∧ KInv h0 w (w3.setCell ⟨h0 + 1, 1, none⟩ v') hd tl vi s v' (es ++ [x]) := by
  have hs := h.size
  have hs3 := hg.size
  simp at hs3
  have hk : ∀ k, k < h0 + 2 → w3.heap[k]? = wr.heap[k]? := fun k hk => by
    rw [hg.block k (by simp; omega) (fun e => by have := (h.own.lt k e.symm).1; omega), Below.heap_alloc _ _ _ (by omega)]
  have hb := h.mx.keep (hk _ (by omega)) (by omega)
  refine ⟨hb, (h.eb.keep (hk _ (by omega))).keep (heap_setCell_other _ _ _ _ (by simp)), hb.set _, ?_, ?_, by simp; omega⟩
  · rw [List.length_append]; exact ownsRow_setCell_below hown (by simp) _
  · exact ((h.below.alloc (by omega) _).grown hg (by simp; omega) (fun k hk => by have := (h.own.lt k hk).1; omega)).setCell (by simp) _
def e0 (tl : Bool) (n p : Nat) : Int := if tl = true ∧ p < n then -1 else (p : Int)
def e0C (tl : Bool) (n k : Nat) : List Value := (List.range k).map (fun p => .int .i64 (e0 tl n p))
theorem e0C_len (tl : Bool) (n k : Nat) : (e0C tl n k).length = k := by simp [e0C]
theorem e0C_snoc (tl : Bool) (n k : Nat) : e0C tl n (k + 1) = e0C tl n k ++ [.int .i64 (e0 tl n k)] := by simp [e0C, List.range_succ]
theorem IR_own {w : World} {B n : Nat} {v : Value} {e : Nat → Int} (h : w.ownsRow B 3 1 v (n + 1) ((List.range (n + 1)).map (fun p => .int .i64 (e p)))) : ∃ g c, v = .slice (some ⟨g, 0, none⟩) (n + 1) c ∧ B ≤ g ∧ g < w.heap.size ∧ IR w g (n + 1) e := by
  obtain ⟨h1, ⟨_, h2⟩ | ⟨g, cap, cur, e1, e2, e3, e4, e5, e6, e7⟩⟩ := h
  · omega
  · have hlt : g < w.heap.size := by
      rcases Nat.lt_or_ge g w.heap.size with h | h
      · exact h
      · rw [Array.getElem?_eq_none h] at e3; cases e3
    refine ⟨g, cap, e1, e2, hlt, hlt, fun i hi => ?_, fun i hi => ?_⟩
    · rw [cell_of_row _ _ _ _ _ _ e3]
      have h9 : (cur.toList.take ((n + 1) * 1))[i]? = some (.int .i64 (e i)) := by rw [e7]; simp [hi]
      rw [List.getElem?_take] at h9
      split at h9
      · simpa using h9
      · cases h9
    · simp [World.frozen?, e3]
/-- one more number at the end of a row -/
theorem in_append {ops : Array Oper} {rest : List Oper} {o : Oper} {a : Act} {w : World} {Q : Exit → Act → World → Prop} {B : Nat} {v : Value} {n : Nat} {xs : List Value} (hown : w.ownsRow B 3 1 v n xs) (g : Nat) (q : Int) (hg : w.heap[g]? = some (.cells #[.int .i64 q] 3)) (hn : n ≤ 8192) (hB : B ≤ w.heap.size) (hgd : o.guard = none) (s x : Operand)
    (ho : o.op = .call { callee := .builtin .append, args := #[s, x], argTypes := #[116, 116] }) (hs : a.eval s = v) (hx : a.eval x = .slice (some ⟨g, 0, none⟩) 1 1)
    (h : ∀ v' w', w'.ownsRow B 3 1 v' (n + 1) (xs ++ [.int .i64 q]) → w.grownBy w' v.ownBlock → wpList Tryz.prog ops Q rest (a.put o.dst v') w') : wpList Tryz.prog ops Q (o :: rest) a w := by
  obtain ⟨i0, hi, hz0, hz1, hz2⟩ := info_parts infoInt
  refine wpList_append_own w hgd s x _ ho B _ i0 _ 1 8 Tryz.underlying116 hi hz0 hz1 hz2 rfl (by decide) v n xs hs hown ⟨g, 0, none⟩ 1 1 [.int .i64 q] hx rfl ?_ (fun u hu => by simp at hu; rw [hu]; rfl) (by unfold maxLen; omega) (by omega) hB (fun v' w' h1 h2 _ => h v' w' h1 h2)
  intro j u hu
  rw [Addr.add_mid, cell_of_row _ _ _ _ _ _ hg]
  simpa using hu
theorem it_load_mid {ops : Array Oper} {rest : List Oper} {op : Oper} {a : Act} {w : World} {Q : Exit → Act → World → Prop} {g o : Nat} {f : Nat → Bool} (hb : w.rangeAt g o (bC 257 f)) (hgd : op.guard = none) (x : Operand) (ho : op.op = .load 211 x) (hx : a.eval x = .pointer (some ⟨g, o, none⟩))
    (h : wpList Tryz.prog ops Q rest (a.put op.dst (itV f)) w) : wpList Tryz.prog ops Q (op :: rest) a w := by
  obtain ⟨fs, hu⟩ := undIt
  exact wpList_load_mid hgd _ x ho g o hx (bC 257 f) _ hb hu rfl (by rw [bC_len]; exact (zero_of_info infoIt).2) h
theorem range_below {w w' : World} {B g o : Nat} {cs : List Value} (h : w.rangeAt g o cs) (hb : Below B w w') (hg : g < B) : w'.rangeAt g o cs := fun j v hv => (hb.cell (by exact hg)).trans (h j v hv)

def EndsPost (hd tl : Bool) (L : List It) (s : ByteArray) (w : World) (x : Ending) (w' : World) : Prop :=
  (∃ g c' E, x = .returned (.slice (some ⟨g, 0, none⟩) (s.size + 1) c') ∧ IR w' g (s.size + 1) E ∧ ∀ p, p ≤ s.size → EndAt ⟨hd, tl, L⟩ s.data.toList p (E p)) ∧ Below w.heap.size w w'
set_option maxRecDepth 100000 in
set_option maxHeartbeats 4000000 in
theorem ends_calls (hd tl : Bool) (a : Option Addr) (c : Nat) (L : List It) (s : ByteArray) (w : World) (hs : s.size ≤ 256) (hL : L.length ≤ 8192) (hit : ∀ k (h : k < L.length), ∃ g, a = some ⟨g, 0, none⟩ ∧ g < w.heap.size ∧ w.rangeAt g (k * 257) (bC 257 (itF L[k]))) :
    Calls Tryz.prog 143 #[.agg #[.bool hd, .bool tl, .slice a L.length c], .string s] w fun x w' => EndsPost hd tl L s w x w' := by
  have hl := ba_len s
  have HL : Hid (s.data.toList.length = s.size) := hl
  clear hl
  obtain ⟨i0, hi, hz0, hz1, hz2⟩ := info_parts infoInt
  go_enter Tryz.func143, Tryz.ntmps143
  go_upto_region 2 with fail
  have hK0 : KInv w.heap.size w ((w.alloc (.cells #[.bool hd, .bool tl, .slice a L.length c] 137)).alloc (.cells #[.string s, .slice none 0 0] 246)) hd tl (.slice a L.length c) s (.slice none 0 0) [] := by
    refine ⟨?_, ?_, World.ownsRow_nil _ _ _ _, ((Below.refl _ _).alloc (Nat.le_refl _) _).alloc (by simp) _, by simp⟩
    · constructor <;> simp [go_sem]
    · constructor <;> simp [go_sem]
  generalize ((w.alloc (.cells #[.bool hd, .bool tl, .slice a L.length c] 137)).alloc (.cells #[.string s, .slice none 0 0] 246)) = W at *
  have HIT : Hid (∀ k (h : k < L.length), ∃ g, a = some ⟨g, 0, none⟩ ∧ g < w.heap.size ∧ w.rangeAt g (k * 257) (bC 257 (itF L[k]))) := hit
  clear hit
  obtain ⟨h0, hh0⟩ : ∃ h0, w.heap.size = h0 := ⟨_, rfl⟩
  rw [hh0] at hK0
  try rw [hh0]
  obtain ⟨nL, hnL⟩ : ∃ nL, L.length = nL := ⟨_, rfl⟩
  have HNL : Hid (L.length = nL) := hnL
  rw [hnL] at hK0 hL ⊢
  have HH0 : Hid (w.heap.size = h0) := hh0
  clear hh0 hnL
  go_wp2_with fail
  go_loopw [6] (fun v6 wr => ∃ (p : Nat) (v : Value), p ≤ s.size + 1 ∧ v6 = .int .i64 p ∧ KInv h0 w wr hd tl (.slice a nL c) s v (e0C tl s.size p)) (fun v6 _ => s.size + 1 - (intOf v6).toNat)
  case atStart => exact ⟨0, _, Nat.zero_le _, rfl, hK0⟩
  case round =>
    clear hK0
    obtain ⟨p, v, hps, rfl, hK⟩ := hrel
    obtain ⟨av, cv, hvv⟩ := own_form hK.own
    rw [e0C_len] at hvv
    subst hvv
    have hsz := hK.size
    by_cases hlt : p ≤ s.size
    · have hlt1 : (p : Int) ≤ (s.size : Int) := by omega
      have hown := hK.own
      rw [e0C_len] at hown
      obtain ⟨x0, x1, x2, p0, p1, p2⟩ := hK.eb
      obtain ⟨m0, m1, m2, m3⟩ := hK.mx
      by_cases hcase : tl = true ∧ p < s.size
      · have HE : Hid (e0 tl s.size p = -1) := by show _ = _; unfold e0; rw [if_pos hcase]
        obtain ⟨htl, hp2⟩ := hcase
        subst htl
        have hp3 : (p : Int) < (s.size : Int) := by omega
        go_wp2_with (refine in_append (hown.alloc _) wr.heap.size (-1) (heap_alloc_new wr _) (by omega) (by simp; omega) rfl _ _ rfl rfl rfl ?_
                     intro v' w3 hown3 hgrow3
                     have hg3 := hK.grow (by rw [e0C_len]; exact hown3) hgrow3
                     obtain ⟨⟨y0, y1, y2, y3⟩, hK3⟩ := hg3
                     obtain ⟨av', cv', hvv⟩ := own_form hown3
                     subst hvv
                     clear m0 m1 m2 m3 hown3 hgrow3)
        go_roundw
        case rel => exact ⟨p + 1, _, by omega, by go_num, by rw [e0C_snoc, HE.out]; exact hK3⟩
        case measure => first | (simp [intOf]; done) | (simp [intOf]; omega)
      · have HE : Hid (e0 tl s.size p = p) := by show _ = _; unfold e0; rw [if_neg hcase]
        cases htl : tl
        · subst htl
          go_wp2_with (refine in_append (hown.alloc _) wr.heap.size p (heap_alloc_new wr _) (by omega) (by simp; omega) rfl _ _ rfl rfl rfl ?_
                       intro v' w3 hown3 hgrow3
                       have hg3 := hK.grow (by rw [e0C_len]; exact hown3) hgrow3
                       obtain ⟨⟨y0, y1, y2, y3⟩, hK3⟩ := hg3
                       obtain ⟨av', cv', hvv⟩ := own_form hown3
                       subst hvv
                       clear m0 m1 m2 m3 hown3 hgrow3)
          go_roundw
          case rel => exact ⟨p + 1, _, by omega, by go_num, by rw [e0C_snoc, HE.out]; exact hK3⟩
          case measure => first | (simp [intOf]; done) | (simp [intOf]; omega)
        · subst htl
          obtain rfl : p = s.size := by
            by_cases hh : p < s.size
            · exact absurd ⟨rfl, hh⟩ hcase
            · omega
          clear hcase
          go_wp2_with (refine in_append (hown.alloc _) wr.heap.size s.size (heap_alloc_new wr _) (by omega) (by simp; omega) rfl _ _ rfl rfl rfl ?_
                       intro v' w3 hown3 hgrow3
                       have hg3 := hK.grow (by rw [e0C_len]; exact hown3) hgrow3
                       obtain ⟨⟨y0, y1, y2, y3⟩, hK3⟩ := hg3
                       obtain ⟨av', cv', hvv⟩ := own_form hown3
                       subst hvv
                       clear m0 m1 m2 m3 hown3 hgrow3)
          go_roundw
          case rel => exact ⟨s.size + 1, _, by omega, by go_num, by rw [e0C_snoc, HE.out]; exact hK3⟩
          case measure => first | (simp [intOf]; done) | (simp [intOf]; omega)
    · obtain rfl : p = s.size + 1 := by omega
      have hlt1 : ¬ ((s.size : Int) + 1) ≤ (s.size : Int) := by omega
      obtain ⟨g, cg, hv, hgB, hgl, hIR⟩ := IR_own (e := e0 tl s.size) (B := h0 + 2) (n := s.size) (v := .slice av (s.size + 1) cv) (by have h9 := hK.own; rw [e0C_len] at h9; exact h9)
      simp only [Value.slice.injEq] at hv
      obtain ⟨rfl, _, rfl⟩ := hv
      have HJ0 : Hid (ExBox h0 wr hd tl (.slice a nL c) ∧ MB wr (h0 + 1) s (.slice (some ⟨g, 0, none⟩) (s.size + 1) cv) ∧ IR wr g (s.size + 1) (e0 tl s.size) ∧ Below h0 w wr ∧ g < wr.heap.size) := ⟨hK.eb, ⟨hK.mx.lt, hK.mx.c0, hK.mx.c1⟩, hIR, hK.below, hgl⟩
      obtain ⟨x0, x1, x2, p0, p1, p2⟩ := hK.eb
      clear hK hIR
      go_wp2_with fail
      go_loopw [7] (fun v7 wr => ∃ (k : Nat) (E : Nat → Int), k ≤ nL ∧ v7 = .int .i64 ((k : Int) - 1) ∧ Hid (∀ p, p ≤ s.data.toList.length → Gre tl L s.data.toList k p (E p)) ∧ Hid (ExBox h0 wr hd tl (.slice a nL c) ∧ MB wr (h0 + 1) s (.slice (some ⟨g, 0, none⟩) (s.size + 1) cv) ∧ IR wr g (s.size + 1) E ∧ Below h0 w wr ∧ g < wr.heap.size)) (fun v7 _ => (intOf v7 + 1).toNat)
      case atStart =>
        refine ⟨nL, e0 tl s.size, Nat.le_refl _, by first | rfl | go_num, fun p hp => ?_, HJ0.out⟩
        have := gre_end tl L s.data.toList p hp
        rw [HNL.out, HL.out] at this
        exact this
      case round =>
        clear HJ0 x0 x1 x2 p0 p1 p2 hsz hgl
        obtain ⟨kk, E, hkn, rfl, HG, HJ⟩ := hrel
        obtain ⟨x0, x1, x2, p0, p1, p2⟩ := HJ.out.1
        obtain ⟨m0, m1, m2⟩ := HJ.out.2.1
        by_cases hpos : 0 < kk
        · obtain ⟨k, rfl⟩ : ∃ k, kk = k + 1 := ⟨kk - 1, by omega⟩
          have ep : (((k + 1 : Nat) : Int) - 1) = (k : Int) := by omega
          rw [ep]
          clear ep
          have hk0 : (0 : Int) ≤ (k : Int) := by omega
          have hk1 : (k : Int) < (nL : Int) := by omega
          have hkL : k < L.length := by rw [HNL.out]; omega
          obtain ⟨gi, rfl, hgi, hrg⟩ := HIT.out k hkL
          rw [HH0.out] at hgi
          have hrg2 := range_below hrg HJ.out.2.2.2.1 hgi
          have HG2 : Hid (∀ p, p ≤ s.data.toList.length → Gre tl L s.data.toList k p (layE L[k] s.data.toList E p)) := gre_lay tl L s.data.toList k hkL E HG.out
          generalize L[k] = xk at *
          clear hrg HG
          go_wp2_with (refine it_load_mid hrg2 rfl _ rfl rfl ?_)
          refine (layAhead_calls (h0 + 1) g cv s xk E wr hs HJ.out.2.1 HJ.out.2.2.1 (by omega)).mono ?_
          rintro y w4 ⟨rfl, hr4, hA4⟩
          have hgl4 := HJ.out.2.2.2.2
          have HJ4 : Hid (ExBox h0 w4 hd tl (.slice (some ⟨gi, 0, none⟩) nL c) ∧ MB w4 (h0 + 1) s (.slice (some ⟨g, 0, none⟩) (s.size + 1) cv) ∧ IR w4 g (s.size + 1) (layE xk s.data.toList E) ∧ Below h0 w w4 ∧ g < w4.heap.size) :=
            ⟨HJ.out.1.keep (hA4.block _ (by omega) (by omega)), HJ.out.2.1.keep (hA4.block _ (by omega) (by omega)) hA4.size, hr4, HJ.out.2.2.2.1.trans (hA4.below (by omega) (by omega)), hr4.lt⟩
          clear HJ hr4 hA4 hgl4 x0 x1 x2 p0 p1 p2 m0 m1 m2 hrg2
          go_wp2
          go_roundw
          case rel => exact ⟨k, layE xk s.data.toList E, by omega, by first | rfl | go_num, HG2.out, HJ4.out⟩
          case measure => first | (simp [intOf]; done) | (simp [intOf]; omega)
        · obtain rfl : kk = 0 := by omega
          have HJ1 : Hid (ExBox h0 wr hd tl (.slice a nL c) ∧ MB wr (h0 + 1) s (.slice (some ⟨g, 0, none⟩) (s.size + 1) cv) ∧ IR wr g (s.size + 1) (fun q => if 1 ≤ q ∧ q < 1 then -1 else E q) ∧ Below h0 w wr ∧ g < wr.heap.size) := ⟨HJ.out.1, HJ.out.2.1, HJ.out.2.2.1.congr (fun i _ => by rw [if_neg (by omega)]), HJ.out.2.2.2⟩
          clear HJ x0 x1 x2 p0 p1 p2 m0 m1 m2
          go_wp2_with fail
          go_loopw [8] (fun v8 wr => ∃ p : Nat, 1 ≤ p ∧ p ≤ s.size + 1 ∧ v8 = .int .i64 p ∧ (hd = false → p = 1) ∧ Hid (ExBox h0 wr hd tl (.slice a nL c) ∧ MB wr (h0 + 1) s (.slice (some ⟨g, 0, none⟩) (s.size + 1) cv) ∧ IR wr g (s.size + 1) (fun q => if 1 ≤ q ∧ q < p then -1 else E q) ∧ Below h0 w wr ∧ g < wr.heap.size)) (fun v8 _ => s.size + 1 - (intOf v8).toNat)
          case atStart => exact ⟨1, Nat.le_refl _, by omega, rfl, fun _ => rfl, HJ1.out⟩
          case round =>
            clear HJ1
            obtain ⟨p, hp1, hps, rfl, hp2, HJ⟩ := hrel
            obtain ⟨x0, x1, x2, p0, p1, p2⟩ := HJ.out.1
            obtain ⟨m0, m1, m2⟩ := HJ.out.2.1
            cases hd
            · obtain rfl : p = 1 := hp2 rfl
              clear hp2
              go_wp2
              go_ret
              refine ⟨⟨g, cv, _, rfl, HJ.out.2.2.1, fun q hq => ?_⟩, by rw [HH0.out]; exact HJ.out.2.2.2.1⟩
              rw [if_neg (by omega)]
              exact end_of _ _ _ _ (.inl rfl) (HG.out q (by rw [HL.out]; exact hq))
            · by_cases hlt : p ≤ s.size
              · have hlt1 : (p : Int) ≤ (s.size : Int) := by omega
                have hlt2 : (p : Int) < (s.size : Int) + 1 := by omega
                have hlt3 : (0 : Int) ≤ (p : Int) := by omega
                have z1 := HJ.out.2.2.1.fz p (by omega)
                have z0 := HJ.out.2.2.1.c p (by omega)
                have hgl4 := HJ.out.2.2.2.2
                clear hp2
                go_wp2
                go_roundw
                case rel =>
                  refine ⟨p + 1, by omega, by omega, by go_num, fun h => Bool.noConfusion h, HJ.out.1.keep (heap_setCell_other _ _ _ _ (by simp; omega)), HJ.out.2.1.keep (heap_setCell_other _ _ _ _ (by simp; omega)) (by simp), (HJ.out.2.2.1.set p (by omega) (-1)).congr (fun i _ => ?_), HJ.out.2.2.2.1.setCell (by simp; omega) _, by simpa using hgl4⟩
                  by_cases e1 : i = p
                  · rw [if_pos e1, if_pos (by omega)]
                  · rw [if_neg e1]
                    by_cases e2 : 1 ≤ i ∧ i < p
                    · rw [if_pos e2, if_pos (by omega)]
                    · rw [if_neg e2, if_neg (by omega)]
                case measure => first | (simp [intOf]; done) | (simp [intOf]; omega)
              · obtain rfl : p = s.size + 1 := by omega
                have hlt1 : ¬ ((s.size : Int) + 1) ≤ (s.size : Int) := by omega
                clear hp2
                go_wp2
                go_ret
                refine ⟨⟨g, cv, _, rfl, HJ.out.2.2.1, fun q hq => ?_⟩, by rw [HH0.out]; exact HJ.out.2.2.2.1⟩
                by_cases h1 : 1 ≤ q
                · rw [if_pos (by omega)]
                  exact end_head _ _ _ rfl (by omega)
                · rw [if_neg (by omega)]
                  exact end_of _ _ _ _ (.inr (by omega)) (HG.out q (by rw [HL.out]; exact hq))
end Go.Proofs.YtlppphmnegdhoabGreatDoor

namespace Go.Proofs.YtlppphmnegdhoabGreatDoor
set_option linter.unusedVariables false
set_option maxRecDepth 100000
open Go.RowKit
open M

theorem find_hit (x : Ex) (s : List UInt8) (n i : Nat) (e : Int) (h : EndAt x s i e) (hne : e ≠ -1) (hn : n ≤ i) (hno : ∀ p d, n ≤ p → p < i → matchX x s p d = false) : FindAt x s n i e := by
  rcases h with ⟨rfl, _⟩ | ⟨q, rfl, h1, h2⟩
  · exact absurd rfl hne
  · exact .inr ⟨i, q, rfl, rfl, hn, h1, hno, h2⟩
theorem find_miss (x : Ex) (s : List UInt8) (i : Nat) (h : EndAt x s i (-1)) (d : Nat) : matchX x s i d = false := by
  rcases h with ⟨_, h⟩ | ⟨q, h, _⟩
  · exact h d
  · omega
theorem find_out (x : Ex) (s : List UInt8) (i d : Nat) (h : s.length < i) : matchX x s i d = false := by
  unfold matchX
  by_cases h1 : i ≤ d
  · rw [decide_eq_false (show ¬ d ≤ s.length by omega)]; simp
  · rw [decide_eq_false h1]; simp
def FPost (x : Ex) (s : ByteArray) (n : Nat) (w : World) (e : Ending) (w' : World) : Prop :=
  (∃ i j : Int, e = .returned (.tuple #[.int .i64 i, .int .i64 j]) ∧ FindAt x s.data.toList n i j) ∧ Below w.heap.size w w'
set_option maxRecDepth 100000 in
set_option maxHeartbeats 4000000 in
theorem efind_calls (hd tl : Bool) (a : Option Addr) (c : Nat) (L : List It) (s : ByteArray) (n : Nat) (w : World) (hs : s.size ≤ 256) (hn : n ≤ s.size) (hL : L.length ≤ 8192) (hit : ∀ k (h : k < L.length), ∃ g, a = some ⟨g, 0, none⟩ ∧ g < w.heap.size ∧ w.rangeAt g (k * 257) (bC 257 (itF L[k]))) :
    Calls Tryz.prog 102 #[.agg #[.bool hd, .bool tl, .slice a L.length c], .string s, .int .i64 n] w fun x w' => FPost ⟨hd, tl, L⟩ s n w x w' := by
  have HL : Hid (s.data.toList.length = s.size) := ba_len s
  go_enter Tryz.func102, Tryz.ntmps102
  go_wp2_with fail
  have hb1 : Below w.heap.size w (w.alloc (.cells #[.bool hd, .bool tl, .slice a L.length c] 137)) := (Below.refl _ _).alloc (Nat.le_refl _) _
  refine (ends_calls hd tl a c L s _ hs hL (fun k hk => by
    obtain ⟨g, e1, e2, e3⟩ := hit k hk
    exact ⟨g, e1, by have := hb1.size; omega, range_below e3 hb1 e2⟩)).mono ?_
  rintro e w2 ⟨⟨g, c', E, rfl, hr, he⟩, B2⟩
  have hB := hb1.trans (B2.mono hb1.size)
  have HE : Hid (∀ p, p ≤ s.size → EndAt ⟨hd, tl, L⟩ s.data.toList p (E p)) := he
  have HB : Hid (Below w.heap.size w w2) := hB
  clear he hb1 B2 hB hit
  go_wp2_with fail
  go_loop [9] (fun v9 => ∃ i : Nat, n ≤ i ∧ i ≤ s.size + 1 ∧ v9 = .int .i64 i ∧ Hid (∀ p d, n ≤ p → p < i → matchX ⟨hd, tl, L⟩ s.data.toList p d = false)) (fun v9 => s.size + 1 - (intOf v9).toNat)
  case atStart => exact ⟨n, Nat.le_refl _, by omega, rfl, fun p d h1 h2 => by omega⟩
  case round =>
    obtain ⟨i, hni, his, rfl, HN⟩ := hrel
    have h0 : (0 : Int) ≤ (i : Int) := by omega
    by_cases hlt : i ≤ s.size
    · have hlt1 : (i : Int) < (s.size : Int) + 1 := by omega
      have z0 := hr.c i (by omega)
      have HEi : Hid (EndAt ⟨hd, tl, L⟩ s.data.toList i (E i)) := HE.out i hlt
      generalize E i = x at *
      by_cases hx : x = -1
      · subst hx
        have HN2 : Hid (∀ p d, n ≤ p → p < i + 1 → matchX ⟨hd, tl, L⟩ s.data.toList p d = false) := fun p d h1 h2 => by
          by_cases e : p = i
          · rw [e]; exact find_miss _ _ _ HEi.out d
          · exact HN.out p d h1 (by omega)
        clear HN
        go_wp2
        go_round
        case rel => exact ⟨i + 1, by omega, by omega, by go_num, HN2.out⟩
        case measure => first | (simp [intOf]; done) | (simp [intOf]; omega)
      · have hx1 : (x != -1) = true := by simpa using hx
        have HF : Hid (FindAt ⟨hd, tl, L⟩ s.data.toList n i x) := find_hit _ _ n i x HEi.out hx hni HN.out
        clear hx HN HEi
        go_wp2_with fail
        go_quiet (fail)
        go_wp2
        go_ret2
        exact ⟨⟨i, x, rfl, HF.out⟩, below_drewN HB.out _⟩
    · have hlt1 : ¬ (i : Int) < (s.size : Int) + 1 := by omega
      have HF : Hid (FindAt ⟨hd, tl, L⟩ s.data.toList n (-1) (-1)) := .inl ⟨rfl, rfl, fun p d h1 => by
        by_cases e : p < i
        · exact HN.out p d h1 e
        · exact find_out _ _ p d (by rw [HL.out]; omega)⟩
      clear HN
      go_wp2
      go_ret2
      exact ⟨⟨-1, -1, rfl, HF.out⟩, HB.out⟩
end Go.Proofs.YtlppphmnegdhoabGreatDoor

namespace Go.Proofs.YtlppphmnegdhoabGreatDoor
set_option linter.unusedVariables false
set_option maxRecDepth 100000
open Go.RowKit
open M

/-- the items of an expression in memory -/
def ExOk (w : World) (a : Option Addr) (L : List It) : Prop := ∀ k (h : k < L.length), ∃ g, a = some ⟨g, 0, none⟩ ∧ g < w.heap.size ∧ w.rangeAt g (k * 257) (bC 257 (itF L[k]))
theorem ExOk.keep {w w' : World} {a : Option Addr} {L : List It} (h : ExOk w a L) (hs : w.heap.size ≤ w'.heap.size) (hk : ∀ g, a = some ⟨g, 0, none⟩ → g < w.heap.size → w'.heap[g]? = w.heap[g]?) : ExOk w' a L := fun k hk' => by
  obtain ⟨g, h1, h2, h3⟩ := h k hk'
  exact ⟨g, h1, by omega, fun j u hu => (World.cell?_of_block (hk g h1 h2)).trans (h3 j u hu)⟩
theorem ExOk.below {w w' : World} {a : Option Addr} {L : List It} (h : ExOk w a L) (hb : Below w.heap.size w w') : ExOk w' a L := h.keep hb.size (fun g _ hg => hb.block g hg)
/-- an address in memory -/
def AdAt (w : World) (vs : List Value) (A : Adr) : Prop := ∃ a c, vs = [.int .i64 (A.kind : Nat), .int .i64 (A.line : Nat), .bool A.ex.head, .bool A.ex.tail, .slice a A.ex.l.length c] ∧ ExOk w a A.ex.l
theorem AdAt.below {w w' : World} {vs : List Value} {A : Adr} (h : AdAt w vs A) (hb : Below w.heap.size w w') : AdAt w' vs A := by
  obtain ⟨a, c, h1, h2⟩ := h
  exact ⟨a, c, h1, h2.below hb⟩
theorem rtEx3 : RowT 137 3 := ⟨⟨_, Tryz.underlying137, rfl⟩, by kernel_rfl⟩
theorem rtAdr : RowT 139 5 := ⟨⟨_, Tryz.underlying139, rfl⟩, by kernel_rfl⟩
theorem rtAds : RowT 141 12 := ⟨⟨_, Tryz.underlying141, rfl⟩, by kernel_rfl⟩
theorem baC_list (l : List Cl) : (baC l).data.toList = textC l := rfl
theorem baC_size (l : List Cl) : (baC l).size = l.length := by rw [← ba_len, baC_list]; simp [textC]
set_option maxRecDepth 100000 in
set_option maxHeartbeats 2000000 in
theorem holds_calls (P : Value → World → Prop) (b : Nat) (tl : List Value) (V : RV) (S : St) (vs : List Value) (A : Adr) (w : World) (h : RunAt P b tl V S w) (hw : WF S) (hA : AdAt w vs A) (hk : A.kind ≤ 3) (hn : A.line ≤ 9999) (hl : A.ex.l.length ≤ 400) :
    Calls Tryz.prog 216 #[.pointer (some ⟨b, 0, none⟩), .agg vs.toArray] w fun e w' => e = .returned (.bool (S.holds A)) ∧ Below w.heap.size w w' := by
  have HA : Hid (S.holds A = if A.kind = 1 then A.line == S.line else if A.kind = 2 then S.atLast else if A.kind = 3 then findB A.ex (textC S.pat) else false) := rfl
  obtain ⟨a, c, rfl, hex⟩ := hA
  have B0 : Below w.heap.size w (w.alloc (.cells #[.int .i64 (A.kind : Nat), .int .i64 (A.line : Nat), .bool A.ex.head, .bool A.ex.tail, .slice a A.ex.l.length c] 139)) := (Below.refl _ _).alloc (Nat.le_refl _) _
  have hbx : CB (w.alloc (.cells #[.int .i64 (A.kind : Nat), .int .i64 (A.line : Nat), .bool A.ex.head, .bool A.ex.tail, .slice a A.ex.l.length c] 139)) w.heap.size [.int .i64 (A.kind : Nat), .int .i64 (A.line : Nat), .bool A.ex.head, .bool A.ex.tail, .slice a A.ex.l.length c] := CB.new w _ #[.int .i64 (A.kind : Nat), .int .i64 (A.line : Nat), .bool A.ex.head, .bool A.ex.tail, .slice a A.ex.l.length c] (by simp [Value.oneCell'])
  have h1 := h.below B0
  have HR : Hid (RunAt P b tl V S (w.alloc (.cells #[.int .i64 (A.kind : Nat), .int .i64 (A.line : Nat), .bool A.ex.head, .bool A.ex.tail, .slice a A.ex.l.length c] 139))) := h1
  have HEX : Hid (ExOk w a A.ex.l) := hex
  have hli : S.line ≤ 4096 := by have := hw.li; have := hw.bh; have := hw.tx; omega
  have hbl := h.box.lt
  obtain ⟨kd, hkd⟩ : ∃ k, A.kind = k := ⟨_, rfl⟩
  obtain ⟨ln, hln⟩ : ∃ k, A.line = k := ⟨_, rfl⟩
  rw [hkd, hln] at B0 hbx HR HA
  rw [hkd] at hk
  rw [hln] at hn
  rw [hkd, hln]
  have d0 := hbx.c 0 _ rfl
  have d1 := hbx.c 1 _ rfl
  have hbn : b ≠ w.heap.size := by omega
  clear hkd hln h hex h1
  by_cases k1 : kd = 1
  · have k11 : ((kd : Int) == 1) = true := by simp [k1]
    have c12 := HR.out.cell 12 _ rfl
    by_cases hlq : ln = S.line
    · have hl1 : ((ln : Int) == ((S.line : Nat) : Int)) = true := by simp [hlq]
      have HF : Hid (S.holds A = true) := by show _ = _; rw [HA.out, if_pos k1]; simp [hlq]
      clear k1 HA hlq
      go_enter Tryz.func216, Tryz.ntmps216
      go_wp2_with fail
      go_region
      go_wp2
      go_ret
      exact ⟨by rw [HF.out]; rfl, B0.drew⟩
    · have hl1 : ((ln : Int) == ((S.line : Nat) : Int)) = false := by simp; omega
      have HF : Hid (S.holds A = false) := by show _ = _; rw [HA.out, if_pos k1]; simp [hlq]
      clear k1 HA hlq
      go_enter Tryz.func216, Tryz.ntmps216
      go_wp2_with fail
      go_region
      go_wp2
      go_ret
      exact ⟨by rw [HF.out]; rfl, B0.drew⟩
  have k11 : ((kd : Int) == 1) = false := by simp; omega
  by_cases k2 : kd = 2
  · have k21 : ((kd : Int) == 2) = true := by simp [k2]
    have HF : Hid (S.holds A = S.atLast) := by show _ = _; rw [HA.out, if_neg k1, if_pos k2]
    clear k1 k2 HA
    go_enter Tryz.func216, Tryz.ntmps216
    go_wp2_with fail
    refine (ratLast_calls P b tl V S _ HR.out hw).mono ?_
    rintro e w2 ⟨rfl, B2⟩
    go_wp2
    go_ret
    exact ⟨by rw [HF.out]; rfl, B0.trans (B2.mono (by simp))⟩
  have k21 : ((kd : Int) == 2) = false := by simp; omega
  by_cases k3 : kd = 3
  · have k31 : ((kd : Int) == 3) = true := by simp [k3]
    have HF : Hid (S.holds A = findB A.ex (textC S.pat)) := by show _ = _; rw [HA.out, if_neg k1, if_neg k2, if_pos k3]
    have hpa := hw.pa
    have c10 := HR.out.cell 10 _ rfl
    have hsl := HR.out.pat.out
    obtain ⟨ap, cp, hvp, _⟩ := hsl.form
    rw [hvp] at c10 hsl
    have HSL : Hid (SlAt (w.alloc (.cells #[.int .i64 (kd : Nat), .int .i64 (ln : Nat), .bool A.ex.head, .bool A.ex.tail, .slice a A.ex.l.length c] 139)) (.slice ap S.pat.length cp) S.pat) := hsl
    have hbl0 := HR.out.box.lt
    clear k1 k2 k3 HA hsl hvp
    go_enter Tryz.func216, Tryz.ntmps216
    go_wp2_with fail
    refine (textOf_calls _ S.pat _ HSL.out (by omega)).mono ?_
    rintro e w2 ⟨rfl, B2⟩
    have hbx2 := hbx.below B2 hbx.lt
    have BB2 := B0.trans (B2.mono (by simp))
    go_wp2_with (refine cb_load rtEx3 hbx2 (o := 2) rfl rfl rfl _ rfl rfl ?_)
    refine (efind_calls A.ex.head A.ex.tail a c A.ex.l (baC S.pat) 0 w2 (by rw [baC_size]; omega) (Nat.zero_le _) (by omega) (HEX.out.below BB2)).mono ?_
    rintro e w3 ⟨⟨i, j, rfl, hfi⟩, B3⟩
    have HFI : Hid (decide (0 ≤ i) = findB A.ex (textC S.pat)) := find_eq hfi
    have BB3 := BB2.trans (B3.mono BB2.size)
    clear hfi
    by_cases hi0 : 0 ≤ i
    · have HF2 : Hid (S.holds A = true) := by show _ = _; rw [HF.out, ← HFI.out, decide_eq_true hi0]
      clear HF HFI
      go_wp2
      go_ret
      exact ⟨by rw [HF2.out]; rfl, BB3⟩
    · have HF2 : Hid (S.holds A = false) := by show _ = _; rw [HF.out, ← HFI.out, decide_eq_false hi0]
      have hi1 : decide ((0 : Int) ≤ i) = false := decide_eq_false hi0
      have hi2 : i < 0 := by omega
      clear HF HFI hi0
      go_wp2
      go_ret
      refine ⟨?_, BB3⟩
      rw [HF2.out]
      first | rfl | (simp [hi1]; done) | (simp; omega)
  have k31 : ((kd : Int) == 3) = false := by simp; omega
  have HF : Hid (S.holds A = false) := by show _ = _; rw [HA.out, if_neg k1, if_neg k2, if_neg k3]
  clear k1 k2 k3 HA
  go_enter Tryz.func216, Tryz.ntmps216
  go_wp2
  go_ret
  exact ⟨by rw [HF.out]; rfl, B0⟩
end Go.Proofs.YtlppphmnegdhoabGreatDoor

namespace Go.Proofs.YtlppphmnegdhoabGreatDoor
set_option linter.unusedVariables false
set_option maxRecDepth 100000
open Go.RowKit
open M

theorem own_only {w w' : World} {base g : Nat} {e : TypeId} {size : Nat} {v : Value} {n : Nat} {xs : List Value} (h : w.ownsRow base e size v n xs) (ho : Only g w w') (hne : v.ownBlock ≠ some g) : w'.ownsRow base e size v n xs :=
  ownsRow_fr (F := fun _ => True) (G := fun _ => True) h (fun k hk => ho.block k (fun e => hne (by rw [hk, e])))
def plI (t : List UInt8) (c : UInt8) : Int := match placeB t c with
  | none => -1
  | some k => (k : Int)
theorem placeB_cons (d : UInt8) (t : List UInt8) (c : UInt8) : placeB (d :: t) c = if d = c then some 0 else (placeB t c).map (· + 1) := by
  unfold placeB
  rw [List.findIdx?_cons]
  by_cases e : d = c
  · subst e; simp
  · have : (d == c) = false := by simpa using e
    rw [this]; simp [e]
/-- from a place on -/
def plF (t : List UInt8) (i : Nat) (c : UInt8) : Int := match placeB (t.drop i) c with
  | none => -1
  | some k => ((i + k : Nat) : Int)
theorem plF_step (s : ByteArray) (i : Nat) (c : UInt8) (h : i < s.size) : plF s.data.toList i c = if s[i] = c then (i : Int) else plF s.data.toList (i + 1) c := by
  unfold plF
  rw [get_drop s i h, placeB_cons]
  by_cases e : s[i] = c
  · rw [if_pos e, if_pos e]; rfl
  · rw [if_neg e, if_neg e]
    cases placeB (s.data.toList.drop (i + 1)) c with
    | none => rfl
    | some k =>
      show ((i + (k + 1) : Nat) : Int) = ((i + 1 + k : Nat) : Int)
      congr 1; omega
set_option maxRecDepth 100000 in
set_option maxHeartbeats 1000000 in
theorem placeOf_calls (s : ByteArray) (c : UInt8) (x : Nat) (w : World) (hc : c.toNat = x) (hs : s.size ≤ 400) :
    Calls Tryz.prog 249 #[.string s, .int .u8 x] w fun e w' => e = .returned (.int .i64 (plI s.data.toList c)) ∧ w' = w := by
  have hxc : x < 256 := by rw [← hc]; exact c.toNat_lt
  have HC : Hid (c.toNat = x) := hc
  have H0 : Hid (plI s.data.toList c = plF s.data.toList 0 c) := by
    show _ = _
    unfold plI plF
    rw [List.drop_zero]
    cases placeB s.data.toList c with
    | none => rfl
    | some k => show (k : Int) = ((0 + k : Nat) : Int); rw [Nat.zero_add]
  clear hc
  go_enter Tryz.func249, Tryz.ntmps249
  go_wp2_with fail
  go_loop [5] (fun v5 => ∃ i : Nat, v5 = .int .i64 i ∧ i ≤ s.size ∧ Hid (plI s.data.toList c = plF s.data.toList i c)) (fun v5 => s.size - (intOf v5).toNat)
  case atStart => exact ⟨0, rfl, Nat.zero_le _, H0⟩
  case round =>
    clear H0
    obtain ⟨i, rfl, hi, HI⟩ := hrel
    by_cases hlt : i < s.size
    · have hlt1 : (i : Int) < (s.size : Int) := by omega
      have HS := plF_step s i c hlt
      obtain ⟨y, hy⟩ : ∃ y : Nat, s[i].toNat = y := ⟨_, rfl⟩
      have hyc : y < 256 := by rw [← hy]; exact s[i].toNat_lt
      have hey : s[i] = c ↔ y = x := by rw [← hy, ← HC.out]; exact UInt8.toNat_inj.symm
      by_cases hyx : y = x
      · have h1 : ((y : Int) == (x : Int)) = true := by simp [hyx]
        have HF : Hid (plI s.data.toList c = (i : Int)) := by show _ = _; rw [HI.out, HS, if_pos (hey.2 hyx)]
        clear hyx HI HS hey
        go_wp2
        go_ret
        exact ⟨by rw [HF.out]; rfl, rfl⟩
      · have h1 : ((y : Int) == (x : Int)) = false := by simp; omega
        have HF : Hid (plI s.data.toList c = plF s.data.toList (i + 1) c) := by show _ = _; rw [HI.out, HS, if_neg (fun e => hyx (hey.1 e))]
        clear hyx HI HS hey
        go_wp2
        go_round
        case rel => exact ⟨i + 1, by go_num, by omega, HF⟩
        case measure => first | (simp [intOf]; done) | (simp [intOf]; omega)
    · obtain rfl : i = s.size := by omega
      have hlt1 : ¬ (s.size : Int) < (s.size : Int) := by omega
      have HF : Hid (plI s.data.toList c = -1) := by
        show _ = _
        rw [HI.out]
        unfold plF
        rw [List.drop_of_length_le (by rw [ba_len]; exact Nat.le_refl _)]; rfl
      clear HI
      go_wp2
      go_ret
      exact ⟨by rw [HF.out]; rfl, rfl⟩
theorem exch_none (f g : List UInt8) (c : Cl) (h : ¬ (0 ≤ plI f c.1 ∧ plI f c.1 < (g.length : Int))) : exchC f g c = c := by
  unfold exchC
  unfold plI at h
  cases hp : placeB f c.1 with
  | none => rfl
  | some k =>
    rw [hp] at h
    simp only at h ⊢
    have : g[k]? = none := List.getElem?_eq_none (by omega)
    rw [this]
theorem exch_some (f : List UInt8) (g : ByteArray) (c : Cl) (k : Nat) (h : plI f c.1 = (k : Int)) (hk : k < g.size) : exchC f g.data.toList c = (g[k], -1) := by
  unfold exchC
  unfold plI at h
  cases hp : placeB f c.1 with
  | none => rw [hp] at h; simp only at h; omega
  | some q =>
    rw [hp] at h
    simp only at h ⊢
    have e : q = k := by omega
    subst e
    have : g.data.toList[q]? = some g[q] := by rw [List.getElem?_eq_getElem (by rw [ba_len]; exact hk)]; rfl
    rw [this]
set_option maxRecDepth 100000 in
set_option maxHeartbeats 2000000 in
theorem exchanged_calls (v : Value) (l : List Cl) (f g : ByteArray) (w : World) (h : SlAt w v l) (hl : l.length ≤ 100000) (hf : f.size ≤ 400) (hg : g.size ≤ 400) :
    Calls Tryz.prog 241 #[v, .agg #[.string f, .string g]] w fun e w' => ClPost (l.map (exchC f.data.toList g.data.toList)) w e w' := by
  obtain ⟨a, c, rfl, hlc⟩ := h.form
  obtain ⟨n, hn⟩ : ∃ n, l.length = n := ⟨_, rfl⟩
  have HN : Hid (l.length = n) := hn
  rw [hn] at h hl ⊢
  have HS : Hid (SlAt w (.slice a n c) l) := h
  have B0 : Below w.heap.size w (w.alloc (.cells #[.string f, .string g] 146)) := (Below.refl _ _).alloc (Nat.le_refl _) _
  have hbx : CB (w.alloc (.cells #[.string f, .string g] 146)) w.heap.size [.string f, .string g] := CB.new w _ #[.string f, .string g] (by simp [Value.oneCell'])
  have hsz0 : (w.alloc (.cells #[.string f, .string g] 146)).heap.size = w.heap.size + 1 := by simp
  clear h hn hlc
  go_enter Tryz.func241, Tryz.ntmps241
  go_wp2_with fail
  go_loopw [5, 11] (fun v5 v11 wr => ∃ i : Nat, v11 = .int .i64 i ∧ i ≤ n ∧ wr.ownsRow (w.heap.size + 1) 230 2 v5 i (clC ((l.take i).map (exchC f.data.toList g.data.toList))) ∧ CB wr w.heap.size [.string f, .string g] ∧ Below w.heap.size w wr) (fun _ v11 _ => n - (intOf v11).toNat)
  case atStart => exact ⟨0, rfl, Nat.zero_le _, World.ownsRow_nil _ _ _ _, hbx, B0⟩
  case round =>
    clear hbx B0 hsz0
    obtain ⟨i, rfl, hi, hown, hbx, hB⟩ := hrel
    obtain ⟨av, cv, hvv⟩ := own_form hown
    subst hvv
    have hwb := hB.size
    have hwl := hbx.lt
    by_cases hlt : i < n
    · have hlt1 : (i : Int) < (n : Int) := by omega
      have h0 : (0 : Int) ≤ (i : Int) := by omega
      have hiL : i < l.length := by rw [HN.out]; exact hlt
      obtain ⟨-, ga, o, rfl, hga, hr⟩ := (HS.out.below hB).at' i hiL
      have HT : Hid (clC ((l.take (i + 1)).map (exchC f.data.toList g.data.toList)) = clC ((l.take i).map (exchC f.data.toList g.data.toList)) ++ clC [exchC f.data.toList g.data.toList l[i]]) := by
        show _ = _
        rw [List.take_add_one, List.getElem?_eq_getElem hiL, List.map_append, clC_app]; rfl
      obtain ⟨cx, hcx⟩ : ∃ cx, l[i] = cx := ⟨_, rfl⟩
      rw [hcx] at hr HT
      obtain ⟨x, hx⟩ : ∃ x : Nat, cx.1.toNat = x := ⟨_, rfl⟩
      have hxc : x < 256 := by rw [← hx]; exact cx.1.toNat_lt
      obtain ⟨y, hy⟩ : ∃ y : Int, cx.2 = y := ⟨_, rfl⟩
      have HX : Hid (cx.1.toNat = x) := hx
      have HY : Hid (cx.2 = y) := hy
      rw [hx, hy] at hr
      have hb1 : CB (wr.alloc (.cells #[.int .u8 x, .int .i64 y] 230)) wr.heap.size [.int .u8 x, .int .i64 y] := CB.new wr _ #[.int .u8 x, .int .i64 y] (by simp [Value.oneCell'])
      have hown1 := hown.alloc (.cells #[.int .u8 x, .int .i64 y] 230)
      have hbx1 := hbx.below ((Below.refl wr.heap.size wr).alloc (Nat.le_refl _) (.cells #[.int .u8 x, .int .i64 y] 230)) hbx.lt
      have hB1 := hB.alloc hwb (.cells #[.int .u8 x, .int .i64 y] 230)
      have d0 := hbx1.c 0 _ rfl
      have d1 := hbx1.c 1 _ rfl
      have hl1 : w.heap.size < wr.heap.size + 1 := by omega
      have hsz1 : wr.heap.size + 1 ≤ (wr.alloc (.cells #[.int .u8 x, .int .i64 y] 230)).heap.size := by simp
      have hne : (Value.slice av i cv).ownBlock ≠ some wr.heap.size := fun e => by have := (hown.lt _ e).2; omega
      clear hx hy hcx hown hbx hB
      go_wp2_with (refine rg_load rtCl hr rfl rfl _ rfl rfl ?_)
      refine (placeOf_calls f cx.1 x _ HX.out hf).mono ?_
      rintro e wq ⟨rfl, hwq⟩
      rw [hwq]
      clear hwq
      generalize wr.alloc (.cells #[.int .u8 x, .int .i64 y] 230) = W1 at *
      by_cases hp : 0 ≤ plI f.data.toList cx.1 ∧ plI f.data.toList cx.1 < (g.size : Int)
      · obtain ⟨k, hk⟩ : ∃ k : Nat, plI f.data.toList cx.1 = (k : Int) := ⟨(plI f.data.toList cx.1).toNat, by omega⟩
        have hkg : k < g.size := by omega
        have hE := exch_some f.data.toList g cx k hk hkg
        obtain ⟨z, hz⟩ : ∃ z : Nat, g[k].toNat = z := ⟨_, rfl⟩
        have hzc : z < 256 := by rw [← hz]; exact g[k].toNat_lt
        have HT2 : Hid (clC [exchC f.data.toList g.data.toList cx] = [.int .u8 z, .int .i64 (-1)]) := by show _ = _; rw [hE, ← hz]; rfl
        rw [hk]
        have hk1 : (0 : Int) ≤ (k : Int) := by omega
        have hk2 : (k : Int) < (g.size : Int) := by omega
        clear hp hE hk
        go_wp2_with (first
          | (refine cb_store0 rtCl hb1 rfl rfl _ _ rfl rfl (vs := [.int .u8 z, .int .i64 (-1)]) rfl rfl (by simp [Value.oneCell']) ?_
             intro w5 hb5 O5
             have hown5 := own_only hown1 O5 hne
             have hbx5 := hbx1.keep (O5.block _ (by omega)) (by rw [O5.size]; exact Nat.le_refl _)
             have hB5 := hB1.trans (O5.below (B := w.heap.size) (by omega))
             have hs5 : wr.heap.size + 1 ≤ w5.heap.size := by rw [O5.size]; exact hsz1)
          | refine cb_load0 rtCl hb5 rfl rfl _ rfl rfl ?_
          | refine gb_build elCl rfl _ rfl [.int .u8 z, .int .i64 (-1)] rfl rfl ?_
          | (refine gb_append' elCl (hown5.alloc _) w5.heap.size [.int .u8 z, .int .i64 (-1)] (heap_alloc_new w5 _) rfl (by simp [Value.oneCell']) (by omega) (by simp; omega) rfl _ _ rfl rfl rfl ?_
             intro v' w6 hown6 hgrow6
             have hBx : Below (w.heap.size + 1) w5 w6 := ((Below.refl _ _).alloc (by omega) _).grown hgrow6 (by simp; omega) (fun k hk => (hown5.lt k hk).1)
             have hB6 := hB5.trans (hBx.mono (by omega))
             have hbx6 := hbx5.below hBx (by omega)
             obtain ⟨av', cv', hvv⟩ := own_form hown6
             subst hvv
             clear hgrow6))
        go_roundw
        case rel =>
          refine ⟨i + 1, by go_num, by omega, ?_, hbx6, hB6⟩
          rw [HT.out, HT2.out]; exact hown6
        case measure => first | (simp [intOf]; done) | (simp [intOf]; omega)
      · have hE := exch_none f.data.toList g.data.toList cx (by rw [ba_len]; exact hp)
        have HT2 : Hid (clC [exchC f.data.toList g.data.toList cx] = [.int .u8 x, .int .i64 y]) := by show _ = _; rw [hE, ← HX.out, ← HY.out]; rfl
        generalize plI f.data.toList cx.1 = k at *
        have hor : k < 0 ∨ (0 ≤ k ∧ ¬ k < (g.size : Int)) := by omega
        clear hp hE
        rcases hor with hk1 | ⟨hk1, hk2⟩
        · have hk3 : ¬ (0 : Int) ≤ k := by omega
          go_wp2_with (first
            | refine cb_load0 rtCl hb1 rfl rfl _ rfl rfl ?_
            | refine gb_build elCl rfl _ rfl [.int .u8 x, .int .i64 y] rfl rfl ?_
            | (refine gb_append' elCl (hown1.alloc _) W1.heap.size [.int .u8 x, .int .i64 y] (heap_alloc_new W1 _) rfl (by simp [Value.oneCell']) (by omega) (by simp; omega) rfl _ _ rfl rfl rfl ?_
               intro v' w6 hown6 hgrow6
               have hBx : Below (w.heap.size + 1) W1 w6 := ((Below.refl _ _).alloc (by omega) _).grown hgrow6 (by simp; omega) (fun k hk => (hown1.lt k hk).1)
               have hB6 := hB1.trans (hBx.mono (by omega))
               have hbx6 := hbx1.below hBx (by omega)
               obtain ⟨av', cv', hvv⟩ := own_form hown6
               subst hvv
               clear hgrow6))
          go_roundw
          case rel =>
            refine ⟨i + 1, by go_num, by omega, ?_, hbx6, hB6⟩
            rw [HT.out, HT2.out]; exact hown6
          case measure => first | (simp [intOf]; done) | (simp [intOf]; omega)
        · go_wp2_with (first
            | refine cb_load0 rtCl hb1 rfl rfl _ rfl rfl ?_
            | refine gb_build elCl rfl _ rfl [.int .u8 x, .int .i64 y] rfl rfl ?_
            | (refine gb_append' elCl (hown1.alloc _) W1.heap.size [.int .u8 x, .int .i64 y] (heap_alloc_new W1 _) rfl (by simp [Value.oneCell']) (by omega) (by simp; omega) rfl _ _ rfl rfl rfl ?_
               intro v' w6 hown6 hgrow6
               have hBx : Below (w.heap.size + 1) W1 w6 := ((Below.refl _ _).alloc (by omega) _).grown hgrow6 (by simp; omega) (fun k hk => (hown1.lt k hk).1)
               have hB6 := hB1.trans (hBx.mono (by omega))
               have hbx6 := hbx1.below hBx (by omega)
               obtain ⟨av', cv', hvv⟩ := own_form hown6
               subst hvv
               clear hgrow6))
          go_roundw
          case rel =>
            refine ⟨i + 1, by go_num, by omega, ?_, hbx6, hB6⟩
            rw [HT.out, HT2.out]; exact hown6
          case measure => first | (simp [intOf]; done) | (simp [intOf]; omega)
    · obtain rfl : i = n := by omega
      have hlt1 : ¬ (i : Int) < (i : Int) := by omega
      rw [List.take_of_length_le (by rw [HN.out]; exact Nat.le_refl _)] at hown
      have hlf : (l.map (exchC f.data.toList g.data.toList)).length = i := by rw [List.length_map]; exact HN.out
      go_wp2
      go_ret
      exact ⟨_, rfl, by rw [hlf]; exact ownsRow_base hown (by omega), hB⟩
end Go.Proofs.YtlppphmnegdhoabGreatDoor

namespace Go.Proofs.YtlppphmnegdhoabGreatDoor
set_option linter.unusedVariables false
set_option maxRecDepth 100000
open Go.RowKit
open M

/-- a replacement's piece -/
def pcV : Option UInt8 → List Value
  | none => [.bool true, .int .u8 0]
  | some c => [.bool false, .int .u8 (c.toNat : Int)]
def RpOk (w : World) (a : Option Addr) (L : List (Option UInt8)) : Prop := ∀ k (h : k < L.length), ∃ g, a = some ⟨g, 0, none⟩ ∧ g < w.heap.size ∧ w.rangeAt g (k * 2) (pcV L[k])
theorem RpOk.keep {w w' : World} {a : Option Addr} {L : List (Option UInt8)} (h : RpOk w a L) (hs : w.heap.size ≤ w'.heap.size) (hk : ∀ g, a = some ⟨g, 0, none⟩ → g < w.heap.size → w'.heap[g]? = w.heap[g]?) : RpOk w' a L := fun k hk' => by
  obtain ⟨g, h1, h2, h3⟩ := h k hk'
  exact ⟨g, h1, by omega, fun j u hu => (World.cell?_of_block (hk g h1 h2)).trans (h3 j u hu)⟩
theorem RpOk.below {w w' : World} {a : Option Addr} {L : List (Option UInt8)} (h : RpOk w a L) (hb : Below w.heap.size w w') : RpOk w' a L := h.keep hb.size (fun g _ hg => hb.block g hg)
theorem rtPc : RowT 274 2 := ⟨⟨_, Tryz.underlying274, rfl⟩, by kernel_rfl⟩
theorem fill_snoc (L : List (Option UInt8)) (m : List Cl) (i : Nat) (h : i < L.length) : fillC (L.take (i + 1)) m = fillC (L.take i) m ++ fillC [L[i]] m := by
  unfold fillC
  rw [List.take_add_one, List.getElem?_eq_getElem h, List.flatMap_append]; rfl
theorem fill_len (L : List (Option UInt8)) (m : List Cl) : (fillC L m).length ≤ L.length * (m.length + 1) := by
  unfold fillC
  induction L with
  | nil => simp
  | cons p L ih =>
    rw [List.flatMap_cons, List.length_append, List.length_cons, Nat.add_mul, Nat.one_mul]
    cases p with
    | none => simp only; omega
    | some c => simp only [List.length_singleton]; omega
set_option maxRecDepth 100000 in
set_option maxHeartbeats 2000000 in
theorem filledIn_calls (a : Option Addr) (c : Nat) (L : List (Option UInt8)) (vm : Value) (m : List Cl) (w : World) (hL : RpOk w a L) (hl : L.length ≤ 400) (hm : SlAt w vm m) (hml : m.length ≤ 256) :
    Calls Tryz.prog 251 #[.slice a L.length c, vm] w fun e w' => ClPost (fillC L m) w e w' := by
  have HL : Hid (RpOk w a L) := hL
  have HM : Hid (SlAt w vm m) := hm
  obtain ⟨am, cm, rfl, _⟩ := hm.form
  obtain ⟨n, hn⟩ : ∃ n, L.length = n := ⟨_, rfl⟩
  have HN : Hid (L.length = n) := hn
  rw [hn] at hl ⊢
  clear hL hm hn
  go_enter Tryz.func251, Tryz.ntmps251
  go_wp2_with fail
  go_loopw [5, 10] (fun v5 v10 wr => ∃ (i q : Nat), v10 = .int .i64 i ∧ i ≤ n ∧ Hid ((fillC (L.take i) m).length = q) ∧ q ≤ i * 257 ∧ wr.ownsRow w.heap.size 230 2 v5 q (clC (fillC (L.take i) m)) ∧ Below w.heap.size w wr) (fun _ v10 _ => n - (intOf v10).toNat)
  case atStart => exact ⟨0, 0, rfl, Nat.zero_le _, rfl, Nat.zero_le _, World.ownsRow_nil _ _ _ _, Below.refl _ _⟩
  case round =>
    obtain ⟨i, q, rfl, hi, HQ, hq, hown, hB⟩ := hrel
    obtain ⟨av, cv, hvv⟩ := own_form hown
    subst hvv
    have hwb := hB.size
    by_cases hlt : i < n
    · have hlt1 : (i : Int) < (n : Int) := by omega
      have h0 : (0 : Int) ≤ (i : Int) := by omega
      have hiL : i < L.length := by rw [HN.out]; exact hlt
      obtain ⟨g, rfl, hg, hr⟩ := (HL.out.below hB) i hiL
      have HT := fill_snoc L m i hiL
      cases hp : L[i] with
      | none =>
        rw [hp] at hr HT
        have HT2 : Hid (fillC (L.take (i + 1)) m = fillC (L.take i) m ++ m) := by show _ = _; rw [HT]; simp [fillC]
        have hsm := (HM.out.below hB).below ((Below.refl wr.heap.size wr).alloc (Nat.le_refl _) (.cells #[.bool true, .int .u8 0] 274))
        have hr' : wr.rangeAt g (i * 2) [.bool true, .int .u8 0] := hr
        clear hp HT hr
        have hown1 := hown.alloc (.cells #[.bool true, .int .u8 0] 274)
        go_wp2_with (first
          | refine rg_load rtPc hr' rfl rfl _ rfl rfl ?_
          | (refine cl_append hown1 hsm (by omega) (by simp; omega) rfl (.tmp 16) (.tmp 17) rfl rfl rfl ?_
             intro v' w6 hown6 hgrow6
             have hB6 : Below w.heap.size w w6 := (hB.alloc (by omega) _).grown hgrow6 (by simp; omega) (fun k hk => (hown.lt k hk).1)
             obtain ⟨av', cv', hvv⟩ := own_form hown6
             subst hvv
             clear hgrow6))
        go_roundw
        case rel =>
          refine ⟨i + 1, q + m.length, by go_num, by omega, ?_, ?_, ?_, hB6⟩
          · show _ = _; rw [HT2.out, List.length_append, HQ.out]
          · rw [Nat.add_mul]; omega
          · rw [HT2.out, clC_app]; exact hown6
        case measure => first | (simp [intOf]; done) | (simp [intOf]; omega)
      | some d =>
        rw [hp] at hr HT
        obtain ⟨x, hx⟩ : ∃ x : Nat, d.toNat = x := ⟨_, rfl⟩
        have hxc : x < 256 := by rw [← hx]; exact d.toNat_lt
        have HT2 : Hid (fillC (L.take (i + 1)) m = fillC (L.take i) m ++ [(d, -1)]) := by show _ = _; rw [HT]; simp [fillC]
        have HT3 : Hid (clC [(d, (-1 : Int))] = [.int .u8 x, .int .i64 (-1)]) := by show _ = _; rw [← hx]; rfl
        have hr' : wr.rangeAt g (i * 2) [.bool false, .int .u8 x] := by rw [← hx]; exact hr
        clear hp HT hr hx
        have hgx : ((wr.alloc (.cells #[.bool false, .int .u8 x] 274)).alloc (.cells #[.int .u8 x, .int .i64 (-1)] 230)).heap[wr.heap.size + 1]? = some (.cells #[.int .u8 x, .int .i64 (-1)] 230) := by
          have := heap_alloc_new (wr.alloc (.cells #[.bool false, .int .u8 x] 274)) (.cells #[.int .u8 x, .int .i64 (-1)] 230)
          simpa using this
        go_wp2_with (first
          | refine rg_load rtPc hr' rfl rfl _ rfl rfl ?_
          | (refine gb_append' elCl ((hown.alloc _).alloc _) (wr.heap.size + 1) [.int .u8 x, .int .i64 (-1)] hgx rfl (by simp [Value.oneCell']) (by omega) (by simp; omega) rfl (.tmp 19) (.tmp 23) rfl rfl rfl ?_
             intro v' w6 hown6 hgrow6
             have hB6 : Below w.heap.size w w6 := ((hB.alloc (by omega) _).alloc (by simp; omega) _).grown hgrow6 (by simp; omega) (fun k hk => (hown.lt k hk).1)
             obtain ⟨av', cv', hvv⟩ := own_form hown6
             subst hvv
             clear hgrow6))
        go_roundw
        case rel =>
          refine ⟨i + 1, q + 1, by go_num, by omega, ?_, ?_, ?_, hB6⟩
          · show _ = _; rw [HT2.out, List.length_append, HQ.out]; rfl
          · rw [Nat.add_mul]; omega
          · rw [HT2.out, clC_app, HT3.out]; exact hown6
        case measure => first | (simp [intOf]; done) | (simp [intOf]; omega)
    · obtain rfl : i = n := by omega
      have hlt1 : ¬ (i : Int) < (i : Int) := by omega
      rw [List.take_of_length_le (by rw [HN.out]; exact Nat.le_refl _)] at hown HQ
      go_wp2
      go_ret
      exact ⟨_, rfl, by rw [HQ.out]; exact hown, hB⟩
/-- matches in their order -/
def MsOk (n : Nat) : Nat → List (Nat × Nat) → Prop
  | b, [] => b ≤ n
  | b, m :: ms => b ≤ m.1 ∧ m.1 ≤ m.2 ∧ m.2 ≤ n ∧ MsOk n m.2 ms
theorem MsOk.mono {n : Nat} : ∀ {ms : List (Nat × Nat)} {b b' : Nat}, MsOk n b ms → b' ≤ b → MsOk n b' ms
  | [], b, b', h, hb => Nat.le_trans hb h
  | m :: ms, b, b', h, hb => ⟨Nat.le_trans hb h.1, h.2⟩
theorem mts_ok (E : Nat → Int) (n : Nat) (hE : ∀ p, E p = -1 ∨ ∃ q : Nat, E p = q ∧ p ≤ q ∧ q ≤ n) : ∀ (f i : Nat) (b : Int), i ≤ n + 1 → MsOk n (min i n) (mtsF E n f i b) := by
  intro f
  induction f with
  | zero => intro i b _; exact Nat.min_le_right _ _
  | succ f ih =>
    intro i b hi
    unfold mtsF
    by_cases h1 : i ≤ n
    · rw [if_pos h1]
      split
      · rename_i hc
        rcases hE i with he | ⟨q, he, h2, h3⟩
        · rw [he] at hc; omega
        · have e : (E i).toNat = q := by rw [he]; simp
          rw [e]
          refine ⟨by show min i n ≤ i; omega, h2, h3, ?_⟩
          exact (ih q (E i) (by omega)).mono (by show q ≤ min q n; omega)
      · exact (ih (i + 1) b (by omega)).mono (by omega)
    · rw [if_neg h1]; exact Nat.min_le_right _ _
theorem mtsX_ok (x : Ex) (s : List UInt8) : MsOk s.length 0 (mtsX x s) := by
  have := mts_ok (endX x s) s.length (fun p => by
    rcases endX_bnd x s p with h | ⟨q, h1, h2, h3, _⟩
    · exact .inl h
    · exact .inr ⟨q, h1, h2, h3⟩) (2 * s.length + 3) 0 (-1) (Nat.zero_le _)
  exact this.mono (Nat.zero_le _)
def spC (L : List (Nat × Nat)) : List Value := (L.map (fun m => [.int .i64 (m.1 : Nat), .int .i64 (m.2 : Nat)])).flatten
theorem elSp : ElT 288 294 2 16 (.agg #[.int .i64 0, .int .i64 0]) := ⟨by kernel_rfl, by kernel_rfl, rfl, by decide, by decide, by decide⟩
theorem spC_snoc (L : List (Nat × Nat)) (m : Nat × Nat) : spC (L ++ [m]) = spC L ++ [.int .i64 (m.1 : Nat), .int .i64 (m.2 : Nat)] := by simp [spC]
def MtPost (x : Ex) (s : ByteArray) (w : World) (e : Ending) (w' : World) : Prop := ∃ v, e = .returned v ∧ w'.ownsRow w.heap.size 294 2 v (mtsX x s.data.toList).length (spC (mtsX x s.data.toList)) ∧ (mtsX x s.data.toList).length ≤ 600 ∧ Below w.heap.size w w'
def msr (n i : Nat) (b : Int) : Nat := 2 * (n + 1 - i) + (if b = (i : Int) then 0 else 1)
theorem msr_hit (n i k : Nat) (b : Int) (hik : i ≤ k) (hkn : k ≤ n) (hc : (i : Int) < (k : Int) ∨ ((k : Int) = (i : Int) ∧ (i : Int) ≠ b)) : msr n k (k : Int) < msr n i b := by
  unfold msr
  rw [if_pos rfl]
  obtain ⟨d, rfl⟩ : ∃ d, k = i + d := ⟨k - i, by omega⟩
  obtain ⟨r, rfl⟩ : ∃ r, n = i + d + r := ⟨n - (i + d), by omega⟩
  have e1 : i + d + r + 1 - (i + d) = r + 1 := by omega
  have e2 : i + d + r + 1 - i = d + r + 1 := by omega
  rw [e1, e2]
  by_cases e : b = (i : Int)
  · rw [if_pos e]
    have : 0 < d := by omega
    omega
  · rw [if_neg e]; omega
theorem msr_next (n i : Nat) (b : Int) (h : i ≤ n) : msr n (i + 1) b < msr n i b := by
  unfold msr
  obtain ⟨r, rfl⟩ : ∃ r, n = i + r := ⟨n - i, by omega⟩
  have e1 : i + r + 1 - (i + 1) = r := by omega
  have e2 : i + r + 1 - i = r + 1 := by omega
  rw [e1, e2]
  have h1 : (if b = ((i + 1 : Nat) : Int) then 0 else 1) ≤ 1 := by split <;> omega
  generalize (if b = ((i + 1 : Nat) : Int) then 0 else 1) = u at *
  omega
theorem msr_pos (n i : Nat) (b : Int) (h : i ≤ n) : 0 < msr n i b := by
  unfold msr
  obtain ⟨r, rfl⟩ : ∃ r, n = i + r := ⟨n - i, by omega⟩
  have e2 : i + r + 1 - i = r + 1 := by omega
  rw [e2]; omega
theorem mts_step (E : Nat → Int) (n f i : Nat) (b : Int) (h : i ≤ n) : mtsF E n (f + 1) i b = if (i : Int) < E i ∨ (E i = (i : Int) ∧ (i : Int) ≠ b) then (i, (E i).toNat) :: mtsF E n f (E i).toNat (E i) else mtsF E n f (i + 1) b := by
  rw [mtsF, if_pos h]
theorem mts_end (E : Nat → Int) (n f i : Nat) (b : Int) (h : ¬ i ≤ n) : mtsF E n f i b = [] := by
  cases f with
  | zero => rfl
  | succ f => rw [mtsF, if_neg h]
set_option maxRecDepth 100000 in
set_option maxHeartbeats 4000000 in
theorem matches_calls (hd tl : Bool) (a : Option Addr) (c : Nat) (L : List It) (s : ByteArray) (w : World) (hs : s.size ≤ 256) (hL : L.length ≤ 8192) (hit : ExOk w a L) :
    Calls Tryz.prog 247 #[.agg #[.bool hd, .bool tl, .slice a L.length c], .string s] w fun x w' => MtPost ⟨hd, tl, L⟩ s w x w' := by
  have HLN : Hid (s.data.toList.length = s.size) := ba_len s
  have hb1 : Below w.heap.size w (w.alloc (.cells #[.bool hd, .bool tl, .slice a L.length c] 137)) := (Below.refl _ _).alloc (Nat.le_refl _) _
  have hbx : CB (w.alloc (.cells #[.bool hd, .bool tl, .slice a L.length c] 137)) w.heap.size [.bool hd, .bool tl, .slice a L.length c] := CB.new w _ #[.bool hd, .bool tl, .slice a L.length c] (by simp [Value.oneCell'])
  have hsz0 : (w.alloc (.cells #[.bool hd, .bool tl, .slice a L.length c] 137)).heap.size = w.heap.size + 1 := by simp
  go_enter Tryz.func247, Tryz.ntmps247
  go_wp2_with (refine cb_load0 rtEx3 hbx rfl rfl _ rfl rfl ?_)
  refine (ends_calls hd tl a c L s _ hs hL (hit.below hb1)).mono ?_
  rintro e w2 ⟨⟨g, c', E, rfl, hir, hend⟩, B2⟩
  have BB2 := hb1.trans (B2.mono (by omega))
  have HE : Hid (∀ p, p ≤ s.size → E p = endX ⟨hd, tl, L⟩ s.data.toList p) := fun p hp => endAt_eq (hend p hp)
  have HIR : Hid (IR w2 g (s.size + 1) E) := hir
  have HB : Hid (∀ p, p ≤ s.size → E p = -1 ∨ ∃ q : Nat, E p = q ∧ p ≤ q ∧ q ≤ s.size) := fun p hp => by
    rw [HE.out p hp]
    rcases endX_bnd ⟨hd, tl, L⟩ s.data.toList p with h | ⟨q, h1, h2, h3, _⟩
    · exact .inl h
    · exact .inr ⟨q, h1, h2, by rw [← HLN.out]; exact h3⟩
  generalize hX : endX ⟨hd, tl, L⟩ s.data.toList = EX at HE
  have HMT : Hid (mtsX ⟨hd, tl, L⟩ s.data.toList = mtsF EX s.size (2 * s.size + 3) 0 (-1)) := by show _ = _; unfold mtsX; rw [hX, HLN.out]
  have hgl := hir.lt
  have hs2 := B2.size
  clear hX hir hend hbx hit hb1 B2 HLN
  obtain ⟨MS, hMS⟩ : ∃ MS, mtsX ⟨hd, tl, L⟩ s.data.toList = MS := ⟨_, rfl⟩
  have HMS : Hid (mtsX ⟨hd, tl, L⟩ s.data.toList = MS) := hMS
  rw [hMS] at HMT
  clear hMS
  generalize s.size = n at *
  go_wp2_with fail
  go_loopw [5, 7, 8] (fun v5 v7 v8 wr => ∃ (i f : Nat) (b : Int) (R : List (Nat × Nat)) (q : Nat), v7 = .int .i64 b ∧ v8 = .int .i64 i ∧ i ≤ n + 1 ∧ -1 ≤ b ∧ b ≤ (n : Int) ∧ Hid (MS = R ++ mtsF EX n f i b) ∧ Hid (R.length = q) ∧ q + f ≤ 2 * n + 3 ∧ Hid (msr n i b ≤ f) ∧ wr.ownsRow w2.heap.size 294 2 v5 q (spC R) ∧ Hid (IR wr g (n + 1) E) ∧ Below w.heap.size w wr ∧ w2.heap.size ≤ wr.heap.size) (fun _ v7 v8 _ => msr n (intOf v8).toNat (intOf v7))
  case atStart => exact ⟨0, 2 * n + 3, -1, [], 0, rfl, rfl, Nat.zero_le _, by omega, by omega, HMT, rfl, by omega, by show msr n 0 (-1) ≤ _; unfold msr; simp; omega, World.ownsRow_nil _ _ _ _, HIR, BB2, Nat.le_refl _⟩
  case round =>
    obtain ⟨i, f, b, R, q, rfl, rfl, hin, hb0, hbn, HR, HQ, hqf, HMR, hown, HIR2, hB, hsw⟩ := hrel
    obtain ⟨av, cv, hvv⟩ := own_form hown
    subst hvv
    have hi0 : (0 : Int) ≤ (i : Int) := by omega
    have hgl2 : g < wr.heap.size := by omega
    have hwb : w.heap.size + 1 ≤ wr.heap.size := by omega
    have hgo : (Value.slice av q cv).ownBlock ≠ some g := fun e => by have := (hown.lt g e).1; omega
    by_cases hlt : i ≤ n
    · have hlt1 : (i : Int) < (n : Int) + 1 := by omega
      have ce := HIR2.out.c i (by omega)
      have hbnd := HB.out i hlt
      have hex := HE.out i hlt
      obtain ⟨f', hf'⟩ : ∃ f', f = f' + 1 := by
        have h8 := HMR.out
        have h9 := msr_pos n i b hlt
        exact ⟨f - 1, by omega⟩
      subst hf'
      have HST := mts_step EX n f' i b hlt
      rw [← hex] at HST
      have HMR2 := HMR.out
      generalize E i = y at *
      by_cases hc : (i : Int) < y ∨ (y = (i : Int) ∧ (i : Int) ≠ b)
      · obtain ⟨k, hk, hik, hkn⟩ : ∃ k : Nat, y = k ∧ i ≤ k ∧ k ≤ n := by
          rcases hbnd with h | h
          · omega
          · exact h
        subst hk
        rw [if_pos hc] at HST
        have HR2 : Hid (MS = (R ++ [(i, k)]) ++ mtsF EX n f' k (k : Int)) := by show _ = _; rw [HR.out, HST, List.append_assoc]; simp
        have HMD : Hid (msr n k (k : Int) < msr n i b) := msr_hit n i k b hik hkn hc
        have HMR3 : Hid (msr n k (k : Int) ≤ f') := by show _ ≤ _; have := HMD.out; omega
        have hor : (i : Int) < (k : Int) ∨ (¬ (i : Int) < (k : Int) ∧ ((k : Int) == (i : Int)) = true ∧ ((i : Int) != b) = true) := by
          by_cases h : (i : Int) < (k : Int)
          · exact .inl h
          · rcases hc with h' | ⟨h1, h2⟩
            · exact absurd h' h
            · exact .inr ⟨h, by simp [h1], by simpa using h2⟩
        have HNE : Hid (spC (R ++ [(i, k)]) = spC R ++ [.int .i64 (i : Nat), .int .i64 (k : Nat)]) := spC_snoc R (i, k)
        clear hc HST HR HMR HMR2 hbnd hex
        rcases hor with h1 | ⟨h1, h2, h3⟩
        · go_wp2_with (first
            | refine gb_build elSp rfl _ rfl [.int .i64 (i : Nat), .int .i64 (k : Nat)] rfl rfl ?_
            | (refine gb_append' elSp (hown.alloc _) wr.heap.size [.int .i64 (i : Nat), .int .i64 (k : Nat)] (heap_alloc_new wr _) rfl (by simp [Value.oneCell']) (by omega) (by simp; omega) rfl _ _ rfl rfl rfl ?_
               intro v' w6 hown6 hgrow6
               have hg6 : w6.heap[g]? = wr.heap[g]? := by rw [hgrow6.block g (by simp; omega) (fun e => hgo e.symm), Below.heap_alloc _ _ _ hgl2]
               have hir6 := HIR2.out.keep hg6 (by have := hgrow6.size; simp at this; omega)
               have HIR6 : Hid (IR w6 g (n + 1) E) := hir6
               have hB6 : Below w.heap.size w w6 := (hB.alloc (by omega) _).grown hgrow6 (by simp; omega) (fun k hk => by have := (hown.lt k hk).1; omega)
               have hs6 : w2.heap.size ≤ w6.heap.size := by have := hgrow6.size; simp at this; omega
               obtain ⟨av', cv', hvv⟩ := own_form hown6
               subst hvv
               clear hgrow6 hg6 hir6))
          go_roundw
          case rel => exact ⟨k, f', (k : Int), R ++ [(i, k)], q + 1, rfl, rfl, by omega, by omega, by omega, HR2, by show _ = _; rw [List.length_append, HQ.out]; rfl, by omega, HMR3, by rw [HNE.out]; exact hown6, HIR6, hB6, hs6⟩
          case measure => exact HMD.out
        · go_wp2_with (first
            | refine gb_build elSp rfl _ rfl [.int .i64 (i : Nat), .int .i64 (k : Nat)] rfl rfl ?_
            | (refine gb_append' elSp (hown.alloc _) wr.heap.size [.int .i64 (i : Nat), .int .i64 (k : Nat)] (heap_alloc_new wr _) rfl (by simp [Value.oneCell']) (by omega) (by simp; omega) rfl _ _ rfl rfl rfl ?_
               intro v' w6 hown6 hgrow6
               have hg6 : w6.heap[g]? = wr.heap[g]? := by rw [hgrow6.block g (by simp; omega) (fun e => hgo e.symm), Below.heap_alloc _ _ _ hgl2]
               have hir6 := HIR2.out.keep hg6 (by have := hgrow6.size; simp at this; omega)
               have HIR6 : Hid (IR w6 g (n + 1) E) := hir6
               have hB6 : Below w.heap.size w w6 := (hB.alloc (by omega) _).grown hgrow6 (by simp; omega) (fun k hk => by have := (hown.lt k hk).1; omega)
               have hs6 : w2.heap.size ≤ w6.heap.size := by have := hgrow6.size; simp at this; omega
               obtain ⟨av', cv', hvv⟩ := own_form hown6
               subst hvv
               clear hgrow6 hg6 hir6))
          go_roundw
          case rel => exact ⟨k, f', (k : Int), R ++ [(i, k)], q + 1, rfl, rfl, by omega, by omega, by omega, HR2, by show _ = _; rw [List.length_append, HQ.out]; rfl, by omega, HMR3, by rw [HNE.out]; exact hown6, HIR6, hB6, hs6⟩
          case measure => exact HMD.out
      · have hor : (¬ (i : Int) < y ∧ (y == (i : Int)) = false) ∨ (¬ (i : Int) < y ∧ (y == (i : Int)) = true ∧ ((i : Int) != b) = false) := by
          have h1 : ¬ (i : Int) < y := fun h => hc (.inl h)
          by_cases h2 : y = (i : Int)
          · refine .inr ⟨h1, by simp [h2], ?_⟩
            by_cases h3 : (i : Int) = b
            · simpa using h3
            · exact absurd (.inr ⟨h2, h3⟩) hc
          · exact .inl ⟨h1, by simpa using h2⟩
        rw [if_neg hc] at HST
        have HR2 : Hid (MS = R ++ mtsF EX n f' (i + 1) b) := by show _ = _; rw [HR.out, HST]
        have HMD : Hid (msr n (i + 1) b < msr n i b) := msr_next n i b hlt
        have HMR3 : Hid (msr n (i + 1) b ≤ f') := by show _ ≤ _; have := HMD.out; omega
        clear hc HST HR HMR HMR2 hbnd hex
        rcases hor with ⟨h1, h2⟩ | ⟨h1, h2, h3⟩
        · go_wp2
          go_roundw
          case rel => exact ⟨i + 1, f', b, R, q, rfl, by go_num, by omega, hb0, hbn, HR2, HQ, by omega, HMR3, hown, HIR2, hB, hsw⟩
          case measure => exact HMD.out
        · go_wp2
          go_roundw
          case rel => exact ⟨i + 1, f', b, R, q, rfl, by go_num, by omega, hb0, hbn, HR2, HQ, by omega, HMR3, hown, HIR2, hB, hsw⟩
          case measure => exact HMD.out
    · have hlt1 : ¬ (i : Int) < (n : Int) + 1 := by omega
      have HF : Hid (MS = R) := by show _ = _; rw [HR.out, mts_end EX n f i b hlt, List.append_nil]
      clear HR HMR
      go_wp2
      go_ret
      refine ⟨_, rfl, ?_, ?_, hB⟩
      · rw [HMS.out, HF.out, HQ.out]; exact ownsRow_base hown (by omega)
      · rw [HMS.out, HF.out, HQ.out]; omega
end Go.Proofs.YtlppphmnegdhoabGreatDoor

