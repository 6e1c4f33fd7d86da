import Derived.Test.YtlppphmnegdhoabGreatDoorRows
import Derived.WalkKit
import Derived.WalkSpells
import Derived.WalkLawsBesides
import Derived.Laws.BitsLemmas
import Derived.Deep.QuietTactic
import Derived.BigQuiet
import Derived.Lib.Strings
import Derived.Laws.BytesArg
import Derived.Deep.MidRow
import Derived.Deep.WholeRow
import Derived.Laws.ResultCell
import Derived.Deep.CutBlock
import Derived.Deep.DeepCutAuto
import Derived.Deep.RegionHeld3
import Derived.Deep.DrawnRows
import Derived.Deep.AppendLies
import Derived.Deep.RegionLaw
import Derived.Great.BuildSlice
import Derived.Lib.ItoaNum
import Derived.Test.YtlppphmnegdhoabGreatDoorMa2
namespace Go.Proofs.YtlppphmnegdhoabGreatDoor
set_option linter.unusedVariables false
open M
namespace M

def digB (c : Nat) : Bool := decide (48 ≤ c) && decide (c ≤ 57)
def posB (c : Nat) : Bool := decide (49 ≤ c) && decide (c ≤ 57)
/-- how many digits a text begins with, n at most -/
def digs : Nat → List UInt8 → Nat
  | 0, _ => 0
  | _ + 1, [] => 0
  | n + 1, c :: t => if digB c.toNat then digs n t + 1 else 0
def betM : Option (List Mk × List UInt8) → Option (Nat × List UInt8)
  | none => none
  | some p => if (expM p.1).isSome then some (3, p.2) else none
def optB (p : Nat → Bool) : List UInt8 → List UInt8
  | [] => []
  | c :: r => if p c.toNat then r else c :: r
def flagsM (t : List UInt8) : Bool := (optB (· == 112) (optB (· == 103) (optB posB t))).isEmpty
/-- is a byte marked twice -/
def twice : List Mk → Bool
  | [] => false
  | k :: m => m.any (fun q => q.b == k.b) || twice m
def chgB (name : Nat) (m : List Mk) : Option (List Mk × List UInt8) → Bool
  | none => false
  | some q => if name = 115 then (expM m).isSome && flagsM q.2 else !twice m && (!m.isEmpty && (m.length == q.1.length && q.2.isEmpty))
def chgA (name : Nat) : Option (List Mk × List UInt8) → Bool
  | none => false
  | some p => chgB name p.1 (uptoM p.2)
def changeM (name : Nat) : List UInt8 → Bool
  | [] => false
  | c :: r => if c.toNat = 47 then chgA name (uptoM r) else false
def letM : List UInt8 → Bool
  | [c] => decide (97 ≤ c.toNat) && decide (c.toNat ≤ 122)
  | _ => false
def plainN : List UInt8 := [112, 100, 68, 80, 110, 78, 104, 72, 103, 71, 120, 113, 61, 123]
def askedM (kind name : Nat) (t : List UInt8) : Bool :=
  if name = 125 then decide (kind = 0) && t.isEmpty
  else if name = 58 then decide (kind = 0) && letM t
  else if name = 98 ∨ name = 116 then t.isEmpty || letM t
  else if name = 97 ∨ name = 105 ∨ name = 99 then true
  else if name = 115 ∨ name = 121 then changeM name t
  else plainN.any (fun d => d.toNat == name) && t.isEmpty
def labelled (name : Nat) : Bool := name == 58 || (name == 98 || name == 116)
/-- the lines that are not empty -/
def linesM : List UInt8 → List UInt8 → List (List UInt8)
  | acc, [] => if acc = [] then [] else [acc]
  | acc, c :: t => if c.toNat = 10 then (if acc = [] then linesM [] t else acc :: linesM [] t) else linesM (acc ++ [c]) t
end M
end Go.Proofs.YtlppphmnegdhoabGreatDoor

namespace Go.Proofs.YtlppphmnegdhoabGreatDoor
set_option linter.unusedVariables false
set_option maxRecDepth 100000
open Go.RowKit
open M

/-- an expression's three cells -/
structure ExBox (b : Nat) (w : World) (h t : Bool) (v : Value) : Prop where
  c0 : w.cell? ⟨b, 0, none⟩ = some (.bool h)
  c1 : w.cell? ⟨b, 1, none⟩ = some (.bool t)
  c2 : w.cell? ⟨b, 2, none⟩ = some v
  f0 : w.frozen? ⟨b, 0, none⟩ = false
  f1 : w.frozen? ⟨b, 1, none⟩ = false
  f2 : w.frozen? ⟨b, 2, none⟩ = false
theorem ExBox.keep {b : Nat} {w w' : World} {h t : Bool} {v : Value} (e : ExBox b w h t v) (hk : w'.heap[b]? = w.heap[b]?) : ExBox b w' h t v := by
  have hc : ∀ o, w'.cell? ⟨b, o, none⟩ = w.cell? ⟨b, o, none⟩ := fun o => World.cell?_of_block hk
  have hf : ∀ o, w'.frozen? ⟨b, o, none⟩ = w.frozen? ⟨b, o, none⟩ := fun o => World.frozen?_of_block hk
  exact ⟨(hc _).trans e.c0, (hc _).trans e.c1, (hc _).trans e.c2, (hf _).trans e.f0, (hf _).trans e.f1, (hf _).trans e.f2⟩
theorem ExBox.set0 {b : Nat} {w : World} {h t : Bool} {v : Value} (e : ExBox b w h t v) (u : Bool) : ExBox b (w.setCell ⟨b, 0, none⟩ (.bool u)) u t v := by
  obtain ⟨c0, c1, c2, f0, f1, f2⟩ := e
  refine ⟨?_, ?_, ?_, ?_, ?_, ?_⟩
  all_goals first | (simp [go_sem, *]; done) | (rw [World.cell?_setCell_other (by simp)]; assumption) | exact World.cell?_setCell_same c0
theorem ExBox.set1 {b : Nat} {w : World} {h t : Bool} {v : Value} (e : ExBox b w h t v) (u : Bool) : ExBox b (w.setCell ⟨b, 1, none⟩ (.bool u)) h u v := by
  obtain ⟨c0, c1, c2, f0, f1, f2⟩ := e
  refine ⟨?_, ?_, ?_, ?_, ?_, ?_⟩
  all_goals first | (simp [go_sem, *]; done) | (rw [World.cell?_setCell_other (by simp)]; assumption) | exact World.cell?_setCell_same c1
theorem ExBox.set2 {b : Nat} {w : World} {h t : Bool} {v : Value} (e : ExBox b w h t v) (u : Value) : ExBox b (w.setCell ⟨b, 2, none⟩ u) h t u := by
  obtain ⟨c0, c1, c2, f0, f1, f2⟩ := e
  refine ⟨?_, ?_, ?_, ?_, ?_, ?_⟩
  all_goals first | (simp [go_sem, *]; done) | (rw [World.cell?_setCell_other (by simp)]; assumption) | exact World.cell?_setCell_same c2
end Go.Proofs.YtlppphmnegdhoabGreatDoor

namespace Go.Proofs.YtlppphmnegdhoabGreatDoor
set_option linter.unusedVariables false
set_option maxRecDepth 100000
open Go.RowKit
open M

theorem infoItB : (Tryz.prog.info? 211).map (fun i => (i.zero, i.size, i.bytes)) = some (some (.agg (Array.replicate 257 (.bool false))), 257, 257) := by kernel_rfl
theorem undIts : Tryz.prog.underlying 135 = some (.slice 211) := by kernel_rfl
def itsC (L : List It) : List Value := (L.map (fun x => bC 257 (itF x))).flatten
theorem itsC_snoc (L : List It) (x : It) : itsC (L ++ [x]) = itsC L ++ bC 257 (itF x) := by simp [itsC]
theorem it_fill (f : Nat → Bool) (Z : Array Value) (hZ : Z.size = 257) : Instr.fill (fun i => some (i * 257, 257)) Z [(0, itV f)] = some (bC 257 f).toArray := by
  have hc : (itV f).cells = (bC 257 f).toArray := rfl
  have hcs : (itV f).cells.size = 257 := by rw [hc, List.size_toArray, bC_len]
  obtain ⟨r, h1, h2, h3⟩ := Great.fill_dense (s := 257) (by decide) [itV f] 0 Z (fun v hv => by simp at hv; rw [hv]; exact hcs) (by rw [hZ]; exact Nat.le_refl 257)
  have h1' : Instr.fill (fun i => some (i * 257, 257)) Z [(0, itV f)] = some r := h1
  rw [h1']
  congr 1
  apply Array.ext_getElem?
  intro k
  rw [h3 k]
  by_cases hk : k < 257
  · rw [if_pos (by simp; omega)]
    have e1 : k / 257 = 0 := Nat.div_eq_of_lt hk
    have e2 : k % 257 = k := Nat.mod_eq_of_lt hk
    rw [e1, e2]
    show (itV f).cells[k]? = _
    rw [hc]
  · rw [if_neg (by simp; omega)]
    rw [Array.getElem?_eq_none (by omega), Array.getElem?_eq_none (by rw [List.size_toArray, bC_len]; omega)]
/-- a slice of one item -/
theorem it_build {ops : Array Oper} {rest : List Oper} {op : Oper} {a : Act} {w : World} {Q : Exit → Act → World → Prop} (hgd : op.guard = none) (x : Operand) (ho : op.op = .buildSlice 135 1 #[(0, x)]) (f : Nat → Bool) (hx : a.eval x = itV f)
    (h : wpList Tryz.prog ops Q rest (a.put op.dst (.slice (some ⟨w.heap.size, 0, none⟩) 1 1)) (w.alloc (.cells (bC 257 f).toArray 211))) : wpList Tryz.prog ops Q (op :: rest) a w := by
  obtain ⟨i0, hi, hz0, hz1, hz2⟩ := info_parts infoItB
  refine wpList_buildSlice hgd _ _ 1 _ ho (bC 257 f).toArray i0 _ undIts hi hz0 (by rw [hz1]; decide) (by rw [hz1]; decide) ?_ h
  rw [hz1]
  have e : (#[((0 : Nat), x)].map fun (p : Nat × Operand) => (p.1, a.eval p.2)).toList = [(0, itV f)] := by simp [hx]
  have e' : (#[((0 : Nat), x)].map fun ((i, x) : Nat × Operand) => (i, a.eval x)).toList = [(0, itV f)] := e
  rw [e']
  exact it_fill f _ (by simp)
/-- one more item at the end of a row -/
theorem it_append {ops : Array Oper} {rest : List Oper} {o : Oper} {a : Act} {w : World} {Q : Exit → Act → World → Prop} {B : Nat} {v : Value} {n : Nat} {xs : List Value} (hown : w.ownsRow B 211 257 v n xs) (g : Nat) (f : Nat → Bool) (hg : w.heap[g]? = some (.cells (bC 257 f).toArray 211)) (hn : n ≤ 8192) (hB : B ≤ w.heap.size) (hgd : o.guard = none) (s x : Operand)
    (ho : o.op = .call { callee := .builtin .append, args := #[s, x], argTypes := #[135, 135] }) (hs : a.eval s = v) (hx : a.eval x = .slice (some ⟨g, 0, none⟩) 1 1)
    (h : ∀ v' w', w'.ownsRow B 211 257 v' (n + 1) (xs ++ bC 257 f) → w.grownBy w' v.ownBlock → wpList Tryz.prog ops Q rest (a.put o.dst v') w') : wpList Tryz.prog ops Q (o :: rest) a w := by
  obtain ⟨i0, hi, hz0, hz1, hz2⟩ := info_parts infoItB
  refine wpList_append_own w hgd s x _ ho B _ i0 _ 257 257 undIts hi hz0 hz1 hz2 (by simp [Value.cells]) (by decide) v n xs hs hown ⟨g, 0, none⟩ 1 1 (bC 257 f) hx (by rw [bC_len]) ?_ (bC_one _ _) (by unfold maxLen; omega) (by omega) hB (fun v' w' h1 h2 _ => h v' w' h1 h2)
  intro j u hu
  rw [Addr.add_mid, cell_of_row _ _ _ _ _ _ hg]
  simpa using hu
theorem ownsRow_up {w w' : World} {base : Nat} {e : TypeId} {size : Nat} {v : Value} {n : Nat} {xs : List Value} (h : w.ownsRow base e size v n xs) (hk : ∀ k, base ≤ k → w'.heap[k]? = w.heap[k]?) : w'.ownsRow base e size v n xs := by
  obtain ⟨h1, h2⟩ := h
  refine ⟨h1, ?_⟩
  rcases h2 with h2 | ⟨g, cap, cur, e1, e2, e3, e4⟩
  · exact .inl h2
  · exact .inr ⟨g, cap, cur, e1, e2, by rw [hk g e2]; exact e3, e4⟩
/-- all that Read holds -/
structure PInv (h0 g9 : Nat) (w wr : World) (hd tl : Bool) (v : Value) (L : List It) (f : Nat → Bool) : Prop where
  res : ExBox h0 wr false false (.slice none 0 0)
  box : ExBox (h0 + 1) wr hd tl v
  it : BR wr g9 257 f
  own : wr.ownsRow (g9 + 1) 211 257 v L.length (itsC L)
  below : Below h0 w wr
  size : g9 + 1 ≤ wr.heap.size
  far : h0 + 2 ≤ g9
theorem PInv.keep {h0 g9 : Nat} {w wr w' : World} {hd tl : Bool} {v : Value} {L : List It} {f : Nat → Bool} (h : PInv h0 g9 w wr hd tl v L f) (hb : Below wr.heap.size wr w') : PInv h0 g9 w w' hd tl v L f := by
  have hs := h.size
  have hf := h.far
  have hs2 := hb.size
  exact ⟨h.res.keep (hb.block _ (by omega)), h.box.keep (hb.block _ (by omega)), h.it.below hb (by omega), ownsRow_below h.own hb, h.below.trans (hb.mono (by omega)), by omega, h.far⟩
theorem PInv.sto {h0 g9 : Nat} {w wr w' : World} {hd tl : Bool} {v : Value} {L : List It} {f f' : Nat → Bool} (h : PInv h0 g9 w wr hd tl v L f) (ho : Only g9 wr w') (hb : BR w' g9 257 f') : PInv h0 g9 w w' hd tl v L f' := by
  have hf := h.far
  exact ⟨h.res.keep (ho.block _ (by omega)), h.box.keep (ho.block _ (by omega)), hb, ownsRow_up h.own (fun k hk => ho.block k (by omega)), h.below.trans (ho.below (by omega)), by rw [ho.size]; exact h.size, h.far⟩
theorem PInv.set1 {h0 g9 : Nat} {w wr : World} {hd tl : Bool} {v : Value} {L : List It} {f : Nat → Bool} (h : PInv h0 g9 w wr hd tl v L f) (u : Bool) : PInv h0 g9 w (wr.setCell ⟨h0 + 1, 1, none⟩ (.bool u)) hd u v L f := by
  have hf := h.far
  exact ⟨h.res.keep (heap_setCell_other _ _ _ _ (by simp)), h.box.set1 u, h.it.keep (heap_setCell_other _ _ _ _ (by simp; omega)) (by simp), ownsRow_setCell_below h.own (by simp; omega) _, h.below.setCell (by simp) _, by simpa using h.size, h.far⟩
theorem PInv.grow {h0 g9 : Nat} {w wr w3 : World} {hd tl : Bool} {v v' : Value} {L : List It} {f : Nat → Bool} {o : Obj} {x : It} (h : PInv h0 g9 w wr hd tl v L f)
    (hown : w3.ownsRow (g9 + 1) 211 257 v' (L.length + 1) (itsC L ++ bC 257 (itF x))) (hg : (wr.alloc o).grownBy w3 v.ownBlock) :
    ExBox (h0 + 1) w3 hd tl v ∧ PInv h0 g9 w (w3.setCell ⟨h0 + 1, 2, none⟩ v') hd tl v' (L ++ [x]) f := by
  have hs := h.size
  have hf := h.far
  have hs3 := hg.size
  simp at hs3
  have hk : ∀ k, k < g9 + 1 → w3.heap[k]? = wr.heap[k]? := fun k hk => by
    rw [hg.block k (by simp; omega) (fun e => by have := (h.own.lt k e.symm).1; omega), Below.heap_alloc _ _ _ (by omega)]
  have hb := h.box.keep (hk _ (by omega))
  have hr := h.res.keep (hk _ (by omega))
  refine ⟨hb, hr.keep (heap_setCell_other _ _ _ _ (by simp)), hb.set2 _, ?_, ?_, ?_, by simp; omega, h.far⟩
  · exact (h.it.keep (hk _ (by omega)) (by omega)).keep (heap_setCell_other _ _ _ _ (by simp; omega)) (by simp)
  · rw [← itsC_snoc] at hown
    rw [List.length_append]
    exact ownsRow_setCell_below hown (by simp; omega) _
  · exact ((h.below.alloc (by omega) _).grown hg (by simp; omega) (fun k hk => by have := (h.own.lt k hk).1; omega)).setCell (by simp) _
theorem PInv.fin {h0 g9 : Nat} {w wr : World} {hd tl : Bool} {v : Value} {L : List It} {f : Nat → Bool} (h : PInv h0 g9 w wr hd tl v L f) :
    (((wr.setCell ⟨h0, 0, none⟩ (.bool hd)).setCell ⟨h0, 1, none⟩ (.bool tl)).setCell ⟨h0, 2, none⟩ v).ownsRow h0 211 257 v L.length (itsC L) ∧
    Below h0 w (((wr.setCell ⟨h0, 0, none⟩ (.bool hd)).setCell ⟨h0, 1, none⟩ (.bool tl)).setCell ⟨h0, 2, none⟩ v) := by
  have hf := h.far
  exact ⟨ownsRow_base (ownsRow_setCell_below (ownsRow_setCell_below (ownsRow_setCell_below h.own (by simp; omega) _) (by simp; omega) _) (by simp; omega) _) (by omega), ((h.below.setCell (by simp) _).setCell (by simp) _).setCell (by simp) _⟩
/-- what Read answers -/
def RdPost (s : ByteArray) (k : Nat) (m : List Mk) (r : List UInt8) (w w' : World) (e : Ending) : Prop :=
  ∃ (hd tl : Bool) (L : List It) (m3 : List Mk) (n : Nat) (a : Option Addr) (c : Nat), e = .returned (.tuple #[.agg #[.bool hd, .bool tl, .slice a L.length c], .int .i64 n, .bool (decide (k < n))]) ∧ k ≤ n ∧ n ≤ s.size ∧ mksM (s.data.toList.drop n) = (m3, r) ∧
    w'.ownsRow w.heap.size 211 257 (.slice a L.length c) L.length (itsC L) ∧ Below w.heap.size w w' ∧ L.length ≤ s.size ∧ (m ≠ [] → m3 = [] → expM m = some ⟨hd, tl, L⟩) ∧ (m3 ≠ [] → expM m = none)
end Go.Proofs.YtlppphmnegdhoabGreatDoor

namespace Go.Proofs.YtlppphmnegdhoabGreatDoor
set_option linter.unusedVariables false
set_option maxRecDepth 100000
open Go.RowKit
open M

set_option maxRecDepth 100000 in
set_option maxHeartbeats 4000000 in
theorem rd_calls (s : ByteArray) (k : Nat) (m : List Mk) (r : List UInt8) (w : World) (hs8 : s.size ≤ 8192) (hk : k ≤ s.size) (hm : mksM (s.data.toList.drop k) = (m, r)) :
    Calls Tryz.prog 101 #[.string s, .int .i64 k] w fun e w' => RdPost s k m r w w' e := by
  have hs : s.size ≤ maxLen := by unfold maxLen; omega
  obtain ⟨h94, h94'⟩ := stB_mk _ 94 _ _ hm (by decide) (by decide) (by decide)
  obtain ⟨hd, hhd⟩ : ∃ b, stB (s.data.toList.drop k) 94 = b := ⟨_, rfl⟩
  have HHD : Hid (hd = hdIs m 94) := hhd.symm.trans h94
  obtain ⟨p, hp⟩ : ∃ p : Nat, p = if hd then k + 1 else k := ⟨_, rfl⟩
  obtain ⟨m0, hm0⟩ : ∃ m0 : List Mk, m0 = if hd then m.drop 1 else m := ⟨_, rfl⟩
  have HM00 : Hid (m0 = if hd then m.drop 1 else m) := hm0
  have hps : p ≤ s.size := by
    cases hd
    · rw [hp]; exact hk
    · rw [hp]; exact stB_size s k 94 hhd
  have hkp : k ≤ p := by rw [hp]; cases hd <;> simp
  have HM0 : Hid (mksM (s.data.toList.drop p) = (m0, r)) := by
    show _ = _
    rw [hp, hm0]
    cases hd
    · exact hm
    · obtain ⟨q, m1, e1, e2⟩ := h94' hhd
      rw [List.drop_drop] at e2
      rw [e1]; exact e2
  have HP : Hid (p = if hd then k + 1 else k) := hp
  have HOTH : Hid (stB (s.data.toList.drop k) 94 = hd) := hhd
  clear h94 h94' hm hp hm0 hhd
  have hzv := (zero_of_info infoIt).1
  have hr0 : ExBox w.heap.size ((w.alloc (.cells #[.bool false, .bool false, .slice none 0 0] 137)).alloc (.cells #[.bool false, .bool false, .slice none 0 0] 137)) false false (.slice none 0 0) := by constructor <;> simp [go_sem]
  have hx0 : ExBox (w.heap.size + 1) ((w.alloc (.cells #[.bool false, .bool false, .slice none 0 0] 137)).alloc (.cells #[.bool false, .bool false, .slice none 0 0] 137)) false false (.slice none 0 0) := by constructor <;> simp [go_sem]
  have B0 : Below w.heap.size w ((w.alloc (.cells #[.bool false, .bool false, .slice none 0 0] 137)).alloc (.cells #[.bool false, .bool false, .slice none 0 0] 137)) := ((Below.refl _ _).alloc (Nat.le_refl _) _).alloc (by simp) _
  have hsz0 : ((w.alloc (.cells #[.bool false, .bool false, .slice none 0 0] 137)).alloc (.cells #[.bool false, .bool false, .slice none 0 0] 137)).heap.size = w.heap.size + 2 := by simp
  go_enter Tryz.func101, Tryz.ntmps101
  go_wp2_with fail
  generalize ((w.alloc (.cells #[.bool false, .bool false, .slice none 0 0] 137)).alloc (.cells #[.bool false, .bool false, .slice none 0 0] 137)) = W at *
  refine (stands_calls s k 94 _ hs hk (by decide)).mono ?_
  rintro e w2 ⟨rfl, rfl⟩
  rw [HOTH.out]
  go_upto_if 15 with fail
  go_cut [8] (fun v wx => v = .int .i64 p ∧ ExBox w.heap.size wx false false (.slice none 0 0) ∧ ExBox (w.heap.size + 1) wx hd false (.slice none 0 0) ∧ Below w.heap.size w wx ∧ wx.heap.size = w.heap.size + 2)
  case first =>
    cases hd
    · obtain rfl : p = k := HP.out
      go_wp2
      go_meet
      exact ⟨rfl, hr0, hx0, B0, hsz0⟩
    · obtain rfl : p = k + 1 := HP.out
      have hx1 := hx0.set0 true
      have hr1 := hr0.keep (heap_setCell_other w2 ⟨w.heap.size + 1, 0, none⟩ w.heap.size (.bool true) (by simp))
      have B1 := B0.setCell (p := ⟨w.heap.size + 1, 0, none⟩) (by simp) (.bool true)
      obtain ⟨x0, x1, x2, p0, p1, p2⟩ := hx0
      go_wp2
      go_meet
      exact ⟨rfl, hr1, hx1, B1, by simpa using hsz0⟩
  case rest =>
    clear hr0 hx0 B0 hsz0
    obtain ⟨rfl, hr0, hx0, B0, hsz0⟩ := hcut
    go_wp2_with fail
    refine (readItem_calls s p m0 r _ hs hps HM0.out).mono ?_
    rintro e w3 ⟨⟨f, v2, v3, rfl, hpost⟩, B3⟩
    have HPO : Hid (ItmPost s p m0 r f v2 v3) := hpost
    clear hpost
    have hs3 := B3.size
    have hbn : BR (w3.alloc (.cells (Array.replicate 257 (.bool false)) 211)) w3.heap.size 257 (fun _ => false) := BR.new w3 _ 257
    have hP0 : PInv w.heap.size w3.heap.size w (w3.alloc (.cells (Array.replicate 257 (.bool false)) 211)) hd false (.slice none 0 0) [] (fun _ => false) := by
      have hr3 := hr0.keep (B3.block _ (by omega))
      have hx3 := hx0.keep (B3.block _ (by omega))
      have B4 := B0.trans (B3.mono (by omega))
      exact ⟨hr3.keep (Below.heap_alloc _ _ _ (by omega)), hx3.keep (Below.heap_alloc _ _ _ (by omega)), hbn, World.ownsRow_nil _ _ _ _, B4.alloc (by omega) _, by simp, by omega⟩
    obtain ⟨g9, hg9⟩ : ∃ g, w3.heap.size = g := ⟨_, rfl⟩
    rw [hg9] at hP0 hbn
    clear hr0 hx0 B0 B3 hs3 hsz0
    go_wp2_with (refine it_store hbn rfl _ _ rfl rfl _ rfl ?_; intro w5 hb5 O5)
    have hP5 := hP0.sto O5 hb5
    clear hP0 hb5 O5 hbn
    go_loopw [8, 10, 11] (fun v8 v10 v11 wr => ∃ (n : Nat) (L : List It) (m1 : List Mk) (f : Nat → Bool) (v : Value), v8 = .int .i64 n ∧ p ≤ n ∧ n ≤ s.size ∧ L.length ≤ n ∧ Hid (mksM (s.data.toList.drop n) = (m1, r)) ∧ Hid (RunsM m0 L m1) ∧ Hid (ItmPost s n m1 r f v10 v11) ∧ PInv w.heap.size g9 w wr hd false v L f) (fun v8 _ _ _ => s.size - (intOf v8).toNat)
    case atStart =>
      exact ⟨p, [], m0, f, _, rfl, Nat.le_refl _, hps, Nat.zero_le _, HM0, rfl, HPO, hP5⟩
    case round =>
      clear hP5
      obtain ⟨n, L, m1, f, v, rfl, hpn, hns, hLn, HM1, HRU, HIT, hP⟩ := hrel
      obtain ⟨av, cv, hvv⟩ := own_form hP.own
      generalize hnL : L.length = nL at hvv
      have HNL : Hid (L.length = nL) := hnL
      rw [hnL] at hLn
      clear hnL
      subst hvv
      have hsz := hP.size
      have hfar := hP.far
      rcases HIT.out with ⟨x, m2, n2, hit, hn2, hn2s, hm2, hfx, rfl, rfl⟩ | ⟨hit, n2, rfl, rfl⟩
      · have HM2 : Hid (mksM (s.data.toList.drop n2) = (m2, r)) := hm2
        have HRU2 : Hid (RunsM m0 (L ++ [x]) m2) := runs_snoc L m0 m1 m2 x HRU.out hit
        clear hit hm2 HRU HIT HM1
        subst hfx
        have hbi := hP.it
        obtain ⟨x0, x1, x2, p0, p1, p2⟩ := hP.box
        have hlt8 : w.heap.size + 1 < wr.heap.size := by omega
        have hown := hP.own
        rw [HNL.out] at hown
        go_wp2_with (first
          | refine it_load hbi rfl _ rfl rfl ?_
          | refine it_build rfl _ rfl _ rfl ?_
          | (refine it_append (hown.alloc _) wr.heap.size (itF x) (heap_alloc_new wr _) (by omega) (by simp; omega) rfl _ _ rfl rfl rfl ?_
             intro v' w3 hown3 hgrow3
             rw [← HNL.out] at hown3
             have hg3 := hP.grow hown3 hgrow3
             obtain ⟨hb3, hP3⟩ := hg3
             obtain ⟨y0, y1, y2, e0, e1, e2⟩ := hb3
             obtain ⟨av', cv', hvv⟩ := own_form hown3
             rw [HNL.out] at hvv
             subst hvv
             have hlt9 : w.heap.size + 1 < w3.heap.size := by have := hgrow3.size; simp at this; omega
             clear x0 x1 x2 p0 p1 p2 hown3 hgrow3))
        obtain ⟨W3, hW3⟩ : ∃ W3, w3.setCell ⟨w.heap.size + 1, 2, none⟩ (.slice av' (nL + 1) cv') = W3 := ⟨_, rfl⟩
        rw [hW3] at hP3
        try rw [hW3]
        clear hW3 y0 y1 y2 e0 e1 e2 hlt9
        refine (readItem_calls s n2 m2 r _ hs hn2s HM2.out).mono ?_
        rintro e w4 ⟨⟨f4, v24, v34, rfl, hpost⟩, B4⟩
        have HPO4 : Hid (ItmPost s n2 m2 r f4 v24 v34) := hpost
        have hP4 := hP3.keep B4
        clear hpost hP3 B4 hP hbi hown
        have hb4 := hP4.it
        go_wp2_with (refine it_store hb4 rfl _ _ rfl rfl _ rfl ?_; intro w5 hb5 O5)
        have hP6 := hP4.sto O5 hb5
        go_roundw
        case rel => exact ⟨n2, L ++ [x], m2, f4, _, rfl, by omega, hn2s, by rw [List.length_append, HNL.out]; simp; omega, HM2, HRU2, HPO4, hP6⟩
        case measure => simp [intOf]; omega
      · obtain ⟨hA, hB, hC⟩ := exp_read m hd HHD.out L m1 (by rw [← HM00.out]; exact HRU.out) hit
        have HA : Hid (m ≠ [] → m1 = [] → expM m = some ⟨hd, false, L⟩) := hA
        have HB : Hid (∀ d, m1 = [d] → d.is 36 = true → expM m = some ⟨hd, true, L⟩) := hB
        have HC : Hid (m1 ≠ [] → (∀ d, m1 = [d] → d.is 36 = false) → expM m = none) := hC
        clear hA hB hC hit HIT HRU
        go_wp2_with fail
        refine (stands_calls s n 36 _ hs hns (by decide)).mono ?_
        rintro e w4 ⟨rfl, rfl⟩
        obtain ⟨h36, h36'⟩ := stB_mk _ 36 _ _ HM1.out (by decide) (by decide) (by decide)
        cases hb : stB (s.data.toList.drop n) 36
        · have HF : Hid (∀ e' w', e' = .returned (.tuple #[.agg #[.bool hd, .bool false, .slice av nL cv], .int .i64 n, .bool (decide (k < n))]) → w'.ownsRow w.heap.size 211 257 (.slice av nL cv) L.length (itsC L) → Below w.heap.size w w' → RdPost s k m r w w' e') := fun e' w' he ho hbl =>
            ⟨hd, false, L, m1, n, av, cv, by rw [he, HNL.out], by omega, hns, HM1.out, by rw [HNL.out] at ho ⊢; exact ho, hbl, by rw [HNL.out]; omega, HA.out, fun h1 => HC.out h1 (fun d hd' => by
              rw [hd'] at h36
              rw [hb] at h36
              exact h36.symm)⟩
          obtain ⟨x0, x1, x2, p0, p1, p2⟩ := hP.box
          obtain ⟨r0, r1, r2, o0, o1, o2⟩ := hP.res
          have hfin := hP.fin
          clear h36 h36' hb HA HB HC HM1 hP
          by_cases hkn : k < n
          · have hkn1 : (k : Int) < (n : Int) := by omega
            rw [decide_eq_true hkn] at HF
            go_wp2
            refine bodyPost_ret (v := .tuple #[.agg #[.bool hd, .bool false, .slice av nL cv], .int .i64 n, .bool true]) (by simp [results, Tryz.results101, go_sem, r0, r1, r2]) rfl (HF.out _ _ rfl hfin.1 hfin.2)
          · have hkn1 : ¬ (k : Int) < (n : Int) := by omega
            rw [decide_eq_false hkn] at HF
            go_wp2
            refine bodyPost_ret (v := .tuple #[.agg #[.bool hd, .bool false, .slice av nL cv], .int .i64 n, .bool false]) (by simp [results, Tryz.results101, go_sem, r0, r1, r2]) rfl (HF.out _ _ rfl hfin.1 hfin.2)
        · obtain ⟨q, m3, hq, hm3⟩ := h36' hb
          have hn1 := stB_size s n 36 hb
          rw [List.drop_drop] at hm3
          have hq36 : q.is 36 = true := by rw [hb, hq] at h36; exact h36.symm
          have HF : Hid (∀ e' w', e' = .returned (.tuple #[.agg #[.bool hd, .bool true, .slice av nL cv], .int .i64 ((n + 1 : Nat) : Int), .bool true]) → w'.ownsRow w.heap.size 211 257 (.slice av nL cv) L.length (itsC L) → Below w.heap.size w w' → RdPost s k m r w w' e') := fun e' w' he ho hbl =>
            ⟨hd, true, L, m3, n + 1, av, cv, by rw [he, HNL.out, decide_eq_true (show k < n + 1 by omega)], by omega, hn1, hm3, by rw [HNL.out] at ho ⊢; exact ho, hbl, by rw [HNL.out]; omega, fun _ h3 => HB.out q (by rw [hq, h3]) hq36, fun h3 => HC.out (by rw [hq]; simp) (fun d hd' => by
              rw [hq] at hd'
              simp at hd'
              exact absurd hd'.2 h3)⟩
          have hP6 := hP.set1 true
          have hfin := hP6.fin
          obtain ⟨z0, z1, z2, q0, q1, q2⟩ := hP6.res
          obtain ⟨x0, x1, x2, p0, p1, p2⟩ := hP.box
          obtain ⟨y0, y1, y2, t0, t1, t2⟩ := hP6.box
          have hkn1 : (k : Int) < (n : Int) + 1 := by omega
          clear h36 h36' hb HA HB HC HM1 hP hq hm3 hq36 hP6
          go_wp2
          refine bodyPost_ret (v := .tuple #[.agg #[.bool hd, .bool true, .slice av nL cv], .int .i64 ((n + 1 : Nat) : Int), .bool true]) (by simp [results, Tryz.results101, go_sem, z0, z1, z2]) rfl (HF.out _ _ rfl hfin.1 hfin.2)
end Go.Proofs.YtlppphmnegdhoabGreatDoor

namespace Go.Proofs.YtlppphmnegdhoabGreatDoor
set_option linter.unusedVariables false
set_option maxRecDepth 100000
open Go.RowKit
open M

/-- a box of cells that may be written into -/
structure CB (w : World) (b : Nat) (cs : List Value) : Prop where
  lt : b < w.heap.size
  c : ∀ j v, cs[j]? = some v → w.cell? ⟨b, j, none⟩ = some v
  fz : ∀ j, j < cs.length → w.frozen? ⟨b, j, none⟩ = false
  one : ∀ v ∈ cs, v.oneCell' = true
theorem CB.keep {w w' : World} {b : Nat} {cs : List Value} (h : CB w b cs) (hk : w'.heap[b]? = w.heap[b]?) (hs : w.heap.size ≤ w'.heap.size) : CB w' b cs :=
  ⟨by have := h.lt; omega, fun j v hv => (World.cell?_of_block hk).trans (h.c j v hv), fun j hj => (World.frozen?_of_block hk).trans (h.fz j hj), h.one⟩
theorem CB.below {w w' : World} {b B : Nat} {cs : List Value} (h : CB w b cs) (hb : Below B w w') (hB : b < B) : CB w' b cs := h.keep (hb.block b hB) hb.size
theorem CB.set {w : World} {b : Nat} {cs : List Value} (h : CB w b cs) (j : Nat) (hj : j < cs.length) (u : Value) (hu : u.oneCell' = true) : CB (w.setCell ⟨b, j, none⟩ u) b (cs.set j u) := by
  refine ⟨by simpa using h.lt, fun i v hv => ?_, fun i hi => by simpa using h.fz i (by simpa using hi), fun v hv => ?_⟩
  · rw [List.getElem?_set] at hv
    by_cases e : j = i
    · subst e
      rw [if_pos rfl, if_pos hj] at hv
      simp at hv; subst hv
      exact World.cell?_setCell_same' _ _ _ (by rw [h.c j _ (List.getElem?_eq_getElem hj)]; rfl)
    · rw [if_neg e] at hv
      rw [World.cell?_setCell_other _ _ _ _ (fun e' => e (congrArg Addr.off e'))]
      exact h.c i v hv
  · rcases List.mem_or_eq_of_mem_set hv with hv | hv
    · exact h.one v hv
    · rw [hv]; exact hu
theorem CB.range {w : World} {b : Nat} {cs : List Value} (h : CB w b cs) (o n : Nat) : w.rangeAt b o ((cs.drop o).take n) := fun j v hv => by
  rw [List.getElem?_take] at hv
  split at hv
  · rw [List.getElem?_drop] at hv
    exact h.c _ v hv
  · cases hv
theorem CB.there {w : World} {b : Nat} {cs : List Value} (h : CB w b cs) (o n : Nat) (hn : o + n ≤ cs.length) : w.there b o n := fun j hj =>
  ⟨by rw [h.c (o + j) _ (List.getElem?_eq_getElem (by omega))]; rfl, h.fz (o + j) (by omega)⟩
theorem CB.store {w : World} {b : Nat} {cs : List Value} (h : CB w b cs) (o : Nat) (vs : List Value) (hn : o + vs.length ≤ cs.length) (h1 : ∀ v ∈ vs, v.oneCell' = true) : CB (w.setCells b o vs) b (cs.take o ++ vs ++ cs.drop (o + vs.length)) := by
  have ht := h.there o vs.length hn
  have hr := World.rangeAt_setCells_same w b o vs ht
  refine ⟨by rw [(setCells_plain b _ o w).2.2.2]; exact h.lt, fun i v hv => ?_, fun i hi => ?_, fun v hv => ?_⟩
  · by_cases e1 : i < o
    · rw [List.append_assoc, List.getElem?_append_left (by rw [List.length_take]; omega), List.getElem?_take, if_pos e1] at hv
      rw [World.cell?_setCells_out b vs o w ⟨b, i, none⟩ (fun _ _ => .inl (by exact e1))]
      exact h.c i v hv
    · by_cases e2 : i < o + vs.length
      · rw [List.append_assoc, List.getElem?_append_right (by rw [List.length_take]; omega), List.length_take, Nat.min_eq_left (by omega), List.getElem?_append_left (by omega)] at hv
        have := hr (i - o) v hv
        rwa [show o + (i - o) = i by omega] at this
      · rw [List.getElem?_append_right (by rw [List.length_append, List.length_take]; omega), List.length_append, List.length_take, Nat.min_eq_left (by omega), List.getElem?_drop] at hv
        rw [World.cell?_setCells_out b vs o w ⟨b, i, none⟩ (fun _ _ => .inr (by show o + vs.length ≤ i; omega))]
        refine h.c i v ?_
        rwa [show o + vs.length + (i - (o + vs.length)) = i by omega] at hv
  · rw [World.frozen?_setCells]
    exact h.fz i (by simp at hi; omega)
  · rcases List.mem_append.1 hv with hv | hv
    · rcases List.mem_append.1 hv with hv | hv
      · exact h.one v (List.mem_of_mem_take hv)
      · exact h1 v hv
    · exact h.one v (List.mem_of_mem_drop hv)
theorem CB.new (w : World) (t : TypeId) (C : Array Value) (h1 : ∀ v ∈ C.toList, v.oneCell' = true) : CB (w.alloc (.cells C t)) w.heap.size C.toList := by
  refine ⟨by simp, fun j v hv => ?_, fun j hj => by simp [go_sem], h1⟩
  rw [cell_of_row _ _ _ _ _ _ (heap_alloc_new w _)]
  simpa using hv
/-- a type of n cells in a row -/
def RowT (T : TypeId) (n : Nat) : Prop := (∃ d, Tryz.prog.underlying T = some d ∧ d.isRow = true) ∧ (Tryz.prog.info? T).map (·.size) = some n
theorem cb_load {ops : Array Oper} {rest : List Oper} {op : Oper} {a : Act} {w : World} {Q : Exit → Act → World → Prop} {g o n : Nat} {cs vs : List Value} {T : TypeId} (hT : RowT T n) (hb : CB w g cs) (hvs : (cs.drop o).take n = vs) (hl : vs.length = n) (hgd : op.guard = none) (x : Operand) (ho : op.op = .load T x) (hx : a.eval x = .pointer (some ⟨g, o, none⟩))
    (h : wpList Tryz.prog ops Q rest (a.put op.dst (.agg vs.toArray)) w) : wpList Tryz.prog ops Q (op :: rest) a w := by
  obtain ⟨⟨d, hu, hd⟩, hi⟩ := hT
  have hr := hb.range o n
  rw [hvs] at hr
  exact wpList_load_mid hgd T x ho g o hx vs d hr hu hd (by rw [hl]; exact hi) h
theorem cb_store {ops : Array Oper} {rest : List Oper} {op : Oper} {a : Act} {w : World} {Q : Exit → Act → World → Prop} {g o n : Nat} {cs vs : List Value} {T : TypeId} (hT : RowT T n) (hb : CB w g cs) (hl : vs.length = n) (hn : o + n ≤ cs.length) (h1 : ∀ v ∈ vs, v.oneCell' = true) (hgd : op.guard = none) (x y : Operand) (ho : op.op = .store T x y) (hx : a.eval x = .pointer (some ⟨g, o, none⟩)) (hy : a.eval y = .agg vs.toArray)
    (h : ∀ w', CB w' g (cs.take o ++ vs ++ cs.drop (o + n)) → Only g w w' → wpList Tryz.prog ops Q rest (a.put op.dst undef) w') : wpList Tryz.prog ops Q (op :: rest) a w := by
  subst hl
  obtain ⟨_, hi⟩ := hT
  have := h _ (hb.store o vs hn h1) (Only.setCells g o vs w)
  exact wpList_store_mid hgd T x y ho g o vs.toArray hx hy (by rw [List.size_toArray]; exact hb.there o vs.length hn) (by rw [List.size_toArray]; exact hi) (all_oneCell_toArray h1) this
/-- the whole of a box -/
theorem cb_load0 {ops : Array Oper} {rest : List Oper} {op : Oper} {a : Act} {w : World} {Q : Exit → Act → World → Prop} {g n : Nat} {cs : List Value} {T : TypeId} (hT : RowT T n) (hb : CB w g cs) (hl : cs.length = n) (hgd : op.guard = none) (x : Operand) (ho : op.op = .load T x) (hx : a.eval x = .pointer (some ⟨g, 0, none⟩))
    (h : wpList Tryz.prog ops Q rest (a.put op.dst (.agg cs.toArray)) w) : wpList Tryz.prog ops Q (op :: rest) a w :=
  cb_load hT hb (by rw [List.drop_zero, ← hl, List.take_length]) hl hgd x ho hx h
theorem cb_store0 {ops : Array Oper} {rest : List Oper} {op : Oper} {a : Act} {w : World} {Q : Exit → Act → World → Prop} {g n : Nat} {cs vs : List Value} {T : TypeId} (hT : RowT T n) (hb : CB w g cs) (hlc : cs.length = n) (hgd : op.guard = none) (x y : Operand) (ho : op.op = .store T x y) (hx : a.eval x = .pointer (some ⟨g, 0, none⟩)) (hy : a.eval y = .agg vs.toArray) (hl : vs.length = n) (h1 : ∀ v ∈ vs, v.oneCell' = true)
    (h : ∀ w', CB w' g vs → Only g w w' → wpList Tryz.prog ops Q rest (a.put op.dst undef) w') : wpList Tryz.prog ops Q (op :: rest) a w :=
  cb_store hT hb hl (by omega) h1 hgd x y ho hx hy (fun w' hc ho => h w' (by rw [List.take_zero, List.nil_append, List.drop_of_length_le (by omega), List.append_nil] at hc; exact hc) ho)
theorem cb_var {w : World} {g n : Nat} {cs : List Value} {T : TypeId} (hT : RowT T n) (hb : CB w g cs) (hl : cs.length = n) : (loadVar T ⟨g, 0, none⟩).run Tryz.prog w = .ok (.agg cs.toArray) w := by
  obtain ⟨⟨d, hu, hd⟩, hi⟩ := hT
  have hr := hb.range 0 n
  rw [List.drop_zero, ← hl, List.take_length] at hr
  exact run_loadVar_mid w g 0 T cs d hr hu hd (by rw [hl]; exact hi)
theorem results_cb {fn : Func} {p u : Tmp} {T : TypeId} {n : Nat} (h : fn.results = #[.cell p T, .tmp u]) (tmps : Array Value) (w : World) (g : Nat) (cs : List Value) (hp : tmps.getD p undef = .pointer (some ⟨g, 0, none⟩)) (hT : RowT T n) (hb : CB w g cs) (hl : cs.length = n) :
    (results fn tmps).run Tryz.prog w = .ok (.tuple #[.agg cs.toArray, tmps.getD u undef]) w := by
  have hp' : tmps[p]?.getD undef = .pointer (some ⟨g, 0, none⟩) := by simpa using hp
  simp [results, h, hp', asAddr, cb_var hT hb hl, Result.andThen]
theorem results_cb3 {fn : Func} {p u v : Tmp} {T : TypeId} {n : Nat} (h : fn.results = #[.cell p T, .tmp u, .tmp v]) (tmps : Array Value) (w : World) (g : Nat) (cs : List Value) (hp : tmps.getD p undef = .pointer (some ⟨g, 0, none⟩)) (hT : RowT T n) (hb : CB w g cs) (hl : cs.length = n) :
    (results fn tmps).run Tryz.prog w = .ok (.tuple #[.agg cs.toArray, tmps.getD u undef, tmps.getD v undef]) w := by
  have hp' : tmps[p]?.getD undef = .pointer (some ⟨g, 0, none⟩) := by simpa using hp
  simp [results, h, hp', asAddr, cb_var hT hb hl, Result.andThen]
end Go.Proofs.YtlppphmnegdhoabGreatDoor

namespace Go.Proofs.YtlppphmnegdhoabGreatDoor
set_option linter.unusedVariables false
set_option maxRecDepth 100000
open Go.RowKit
open M

theorem gb_fill (N : Nat) (hN : 0 < N) (vs : List Value) (hl : vs.length = N) (Z : Array Value) (hZ : Z.size = N) : Instr.fill (fun i => some (i * N, N)) Z [(0, .agg vs.toArray)] = some vs.toArray := by
  have hc : (Value.agg vs.toArray).cells = vs.toArray := rfl
  have hcs : (Value.agg vs.toArray).cells.size = N := by rw [hc, List.size_toArray]; exact hl
  obtain ⟨r, h1, h2, h3⟩ := Great.fill_dense (s := N) hN [.agg vs.toArray] 0 Z (fun v hv => by simp at hv; rw [hv]; exact hcs) (by rw [hZ]; simp)
  have h1' : Instr.fill (fun i => some (i * N, N)) Z [(0, .agg vs.toArray)] = some r := h1
  rw [h1']
  congr 1
  apply Array.ext_getElem?
  intro k
  rw [h3 k]
  by_cases hk : k < N
  · rw [if_pos (by simp; omega)]
    have e1 : k / N = 0 := Nat.div_eq_of_lt hk
    have e2 : k % N = k := Nat.mod_eq_of_lt hk
    rw [e1, e2]
    show (Value.agg vs.toArray).cells[k]? = _
    rw [hc]
  · rw [if_neg (by simp; omega)]
    rw [Array.getElem?_eq_none (by omega), Array.getElem?_eq_none (by rw [List.size_toArray]; omega)]
/-- what is known of a row's element type -/
structure ElT (TS T : TypeId) (N by' : Nat) (z : Value) : Prop where
  und : Tryz.prog.underlying TS = some (.slice T)
  info : (Tryz.prog.info? T).map (fun i => (i.zero, i.size, i.bytes)) = some (some z, N, by')
  zc : z.cells.size = N
  pos : 0 < N
  few : N ≤ 65536
  byt : by' ≤ 65536
theorem gb_build {ops : Array Oper} {rest : List Oper} {op : Oper} {a : Act} {w : World} {Q : Exit → Act → World → Prop} {TS T : TypeId} {N by' : Nat} {z : Value} (hE : ElT TS T N by' z) (hgd : op.guard = none) (x : Operand) (ho : op.op = .buildSlice TS 1 #[(0, x)]) (vs : List Value) (hx : a.eval x = .agg vs.toArray) (hl : vs.length = N)
    (h : wpList Tryz.prog ops Q rest (a.put op.dst (.slice (some ⟨w.heap.size, 0, none⟩) 1 1)) (w.alloc (.cells vs.toArray T))) : wpList Tryz.prog ops Q (op :: rest) a w := by
  obtain ⟨i0, hi, hz0, hz1, hz2⟩ := info_parts hE.info
  have hp := hE.pos
  have hf := hE.few
  refine wpList_buildSlice hgd _ _ 1 _ ho vs.toArray i0 _ hE.und hi hz0 (by rw [hz1]; omega) (by rw [hz1]; omega) ?_ h
  rw [hz1]
  have e : (#[((0 : Nat), x)].map fun (p : Nat × Operand) => (p.1, a.eval p.2)).toList = [(0, .agg vs.toArray)] := by simp [hx]
  have e' : (#[((0 : Nat), x)].map fun ((i, x) : Nat × Operand) => (i, a.eval x)).toList = [(0, .agg vs.toArray)] := e
  rw [e']
  exact gb_fill N hp vs hl _ (by simp)
theorem gb_append {ops : Array Oper} {rest : List Oper} {o : Oper} {a : Act} {w : World} {Q : Exit → Act → World → Prop} {TS T : TypeId} {N by' : Nat} {z : Value} (hE : ElT TS T N by' z) {B : Nat} {v : Value} {n : Nat} {xs : List Value} (hown : w.ownsRow B T N v n xs) (g : Nat) (vs : List Value) (hg : w.heap[g]? = some (.cells vs.toArray T)) (hl : vs.length = N) (h1 : ∀ u ∈ vs, u.oneCell' = true) (hn : n ≤ 8192) (hB : B ≤ w.heap.size) (hgd : o.guard = none) (s x : Operand)
    (ho : o.op = .call { callee := .builtin .append, args := #[s, x], argTypes := #[TS, TS] }) (hs : a.eval s = v) (hx : a.eval x = .slice (some ⟨g, 0, none⟩) 1 1)
    (h : ∀ v' w', w'.ownsRow B T N v' (n + 1) (xs ++ vs) → w.grownBy w' v.ownBlock → wpList Tryz.prog ops Q rest (a.put o.dst v') w') : wpList Tryz.prog ops Q (o :: rest) a w := by
  obtain ⟨i0, hi, hz0, hz1, hz2⟩ := info_parts hE.info
  have hb := hE.byt
  refine wpList_append_own w hgd s x _ ho B _ i0 _ N by' hE.und hi hz0 hz1 hz2 hE.zc hE.pos v n xs hs hown ⟨g, 0, none⟩ 1 1 vs hx (by rw [hl]; omega) ?_ h1 (by unfold maxLen; omega) ?_ hB (fun v' w' h1 h2 _ => h v' w' h1 h2)
  · intro j u hu
    rw [Addr.add_mid, cell_of_row _ _ _ _ _ _ hg]
    simpa using hu
  · exact Nat.le_trans (Nat.mul_le_mul (show n + 1 ≤ 8193 by omega) hb) (by decide)
end Go.Proofs.YtlppphmnegdhoabGreatDoor

namespace Go.Proofs.YtlppphmnegdhoabGreatDoor
set_option linter.unusedVariables false
set_option maxRecDepth 100000
open Go.RowKit
open M

/-- the digit at the beginning of a text, or -1 -/
def digI : List UInt8 → Int
  | [] => -1
  | c :: _ => if digB c.toNat then ((c.toNat - 48 : Nat) : Int) else -1
set_option maxRecDepth 100000 in
theorem digitAt_calls (s : ByteArray) (k : Nat) (w : World) (hs : s.size ≤ 400) (hk : k ≤ s.size) :
    Calls Tryz.prog 230 #[.string s, .int .i64 k] w fun e w' => e = .returned (.int .i64 (digI (s.data.toList.drop k))) ∧ w' = w := by
  have h0 : ¬ (k : Int) < 0 := by omega
  by_cases hlt : k < s.size
  · have hlt1 : ¬ (s.size : Int) ≤ (k : Int) := by omega
    have hlt2 : (k : Int) < (s.size : Int) := by omega
    obtain ⟨x, hx⟩ : ∃ x : Nat, s[k].toNat = x := ⟨_, rfl⟩
    have hxc : x < 256 := by rw [← hx]; exact s[k].toNat_lt
    have HD : Hid (digI (s.data.toList.drop k) = if digB x then ((x - 48 : Nat) : Int) else -1) := by
      show _ = _
      rw [get_drop s k hlt, digI, hx]
    by_cases h48 : 48 ≤ x
    · have h481 : ¬ (x : Int) < 48 := by omega
      have h482 : (48 : Int) ≤ (x : Int) := by omega
      by_cases h57 : x ≤ 57
      · have h571 : ¬ (57 : Int) < (x : Int) := by omega
        have HD2 : Hid (digI (s.data.toList.drop k) = (x : Int) - 48) := by
          show _ = _
          have e : digB x = true := by simp [digB]; omega
          rw [HD.out, e, if_pos rfl]; omega
        clear HD
        go_enter Tryz.func230, Tryz.ntmps230
        go_wp2
        go_ret
        refine ⟨?_, rfl⟩
        rw [HD2.out]
        first | rfl | go_num | simp
      · have h571 : (57 : Int) < (x : Int) := by omega
        have HD2 : Hid (digI (s.data.toList.drop k) = -1) := by
          show _ = _
          have e : digB x = false := by simp [digB]; omega
          rw [HD.out, e]; rfl
        clear HD
        go_enter Tryz.func230, Tryz.ntmps230
        go_wp2
        go_ret
        exact ⟨by rw [HD2.out]; rfl, rfl⟩
    · have h481 : (x : Int) < 48 := by omega
      have HD2 : Hid (digI (s.data.toList.drop k) = -1) := by
        show _ = _
        have e : digB x = false := by simp [digB]; omega
        rw [HD.out, e]; rfl
      clear HD
      go_enter Tryz.func230, Tryz.ntmps230
      go_wp2
      go_ret
      exact ⟨by rw [HD2.out]; rfl, rfl⟩
  · have hlt1 : (s.size : Int) ≤ (k : Int) := by omega
    have HD2 : Hid (digI (s.data.toList.drop k) = -1) := by
      show _ = _
      rw [List.drop_of_length_le (by rw [ba_len]; omega)]; rfl
    go_enter Tryz.func230, Tryz.ntmps230
    go_wp2
    go_ret
    exact ⟨by rw [HD2.out]; rfl, rfl⟩
/-- a label's byte, or 0 -/
def labB (t : List UInt8) : Nat := if letM t then (match t with | [] => 0 | c :: _ => c.toNat) else 0
set_option maxRecDepth 100000 in
theorem labelOf_calls (s : ByteArray) (w : World) (hs : s.size ≤ 400) :
    Calls Tryz.prog 166 #[.string s] w fun e w' => e = .returned (.int .u8 (labB s.data.toList)) ∧ w' = w := by
  by_cases h1 : s.size = 1
  · have h11 : ((s.size : Int) != 1) = false := by simp [h1]
    have h12 : 0 < s.size := by omega
    have h13 : (0 : Int) < (s.size : Int) := by omega
    obtain ⟨x, hx⟩ : ∃ x : Nat, s[0].toNat = x := ⟨_, rfl⟩
    have hxc : x < 256 := by rw [← hx]; exact s[0].toNat_lt
    have HL : Hid (labB s.data.toList = if decide (97 ≤ x) && decide (x ≤ 122) then x else 0) := by
      show _ = _
      have e := get_drop s 0 h12
      rw [List.drop_zero, List.drop_of_length_le (by rw [ba_len]; omega)] at e
      rw [e, ← hx]; rfl
    clear h1
    by_cases ha : 97 ≤ x
    · have ha1 : ¬ (x : Int) < 97 := by omega
      by_cases hb : x ≤ 122
      · have hb1 : ¬ (122 : Int) < (x : Int) := by omega
        have HF : Hid (labB s.data.toList = x) := by show _ = _; rw [HL.out, decide_eq_true ha, decide_eq_true hb]; rfl
        go_enter Tryz.func166, Tryz.ntmps166
        go_wp2
        go_ret
        exact ⟨by rw [HF.out]; rfl, rfl⟩
      · have hb1 : (122 : Int) < (x : Int) := by omega
        have HF : Hid (labB s.data.toList = 0) := by show _ = _; rw [HL.out, decide_eq_true ha, decide_eq_false hb]; rfl
        go_enter Tryz.func166, Tryz.ntmps166
        go_wp2
        go_ret
        exact ⟨by rw [HF.out]; rfl, rfl⟩
    · have ha1 : (x : Int) < 97 := by omega
      have HF : Hid (labB s.data.toList = 0) := by show _ = _; rw [HL.out, decide_eq_false ha]; rfl
      go_enter Tryz.func166, Tryz.ntmps166
      go_wp2
      go_ret
      exact ⟨by rw [HF.out]; rfl, rfl⟩
  · have h11 : ((s.size : Int) != 1) = true := by simp; omega
    have HF : Hid (labB s.data.toList = 0) := by
      show _ = _
      have hl := ba_len s
      match hd : s.data.toList with
      | [] => rfl
      | [c] => rw [hd] at hl; simp at hl; omega
      | c :: d :: t => rfl
    clear h1
    go_enter Tryz.func166, Tryz.ntmps166
    go_wp2
    go_ret
    exact ⟨by rw [HF.out]; rfl, rfl⟩
/-- how many digits a line number has, 4 at most -/
def numL (t : List UInt8) : Nat := match t with
  | [] => 0
  | c :: _ => if posB c.toNat then digs 4 t else 0
theorem digI_pos (t : List UInt8) (m : Nat) (h : 0 ≤ digI t) : ∃ c r, t = c :: r ∧ digB c.toNat = true ∧ digI t = ((c.toNat - 48 : Nat) : Int) ∧ digs (m + 1) t = digs m r + 1 := by
  match t with
  | [] => simp [digI] at h
  | c :: r =>
    cases hd : digB c.toNat
    · simp [digI, hd] at h
    · exact ⟨c, r, rfl, hd, by simp [digI, hd], by rw [digs, hd]; rfl⟩
theorem digI_neg (t : List UInt8) (m : Nat) (h : ¬ 0 ≤ digI t) : digs m t = 0 := by
  match t, m with
  | t, 0 => rfl
  | [], m + 1 => rfl
  | c :: r, m + 1 =>
    cases hd : digB c.toNat
    · rw [digs, hd]; rfl
    · simp [digI, hd] at h
theorem digI_le (t : List UInt8) : digI t ≤ 9 ∧ -1 ≤ digI t := by
  match t with
  | [] => simp [digI]
  | c :: r =>
    cases hd : digB c.toNat
    · simp [digI, hd]
    · have : 48 ≤ c.toNat ∧ c.toNat ≤ 57 := by simpa [digB] using hd
      simp [digI, hd]; omega
end Go.Proofs.YtlppphmnegdhoabGreatDoor

namespace Go.Proofs.YtlppphmnegdhoabGreatDoor
set_option linter.unusedVariables false
set_option maxRecDepth 100000
open Go.RowKit
open M

theorem rtPExp : RowT 137 3 := ⟨⟨_, Tryz.underlying137, rfl⟩, by kernel_rfl⟩
theorem rtPAddr : RowT 139 5 := ⟨⟨_, Tryz.underlying139, rfl⟩, by kernel_rfl⟩
theorem mks_nil (t r : List UInt8) (h : mksM t = ([], r)) : r = t := by
  match t with
  | [] => rw [mksM] at h; simp at h; exact h
  | [c] =>
    rw [mksM] at h
    split at h
    · simp at h; exact h.symm
    · simp at h
  | c :: d :: t =>
    rw [mksM] at h
    split at h
    · simp at h; exact h.symm
    · split at h
      · split at h
        · simp at h; exact h.symm
        · simp [preR] at h
      · simp [preR] at h
def NoNL (s : ByteArray) : Prop := ∀ c ∈ s.data.toList, c.toNat ≠ 10
theorem NoNL.drop {s : ByteArray} (h : NoNL s) (k : Nat) : ∀ c ∈ s.data.toList.drop k, c.toNat ≠ 10 := fun c hc => h c (List.mem_of_mem_drop hc)
theorem upto_mk (t : List UInt8) (m : List Mk) (r : List UInt8) (hn : ∀ c ∈ t, c.toNat ≠ 10) (hm : mksM t = (m, r)) : (∀ r', r = 47 :: r' → uptoM t = some (m, r')) ∧ ((∀ r', r ≠ 47 :: r') → uptoM t = none) := by
  have hup := upto_mks t hn
  rw [hm] at hup
  refine ⟨fun r' e => ?_, fun h => ?_⟩
  · subst e; rw [hup]; rfl
  · rw [hup]
    split
    · rename_i h9; exact absurd h9 (h _)
    · rfl
/-- between slashes, by what Read found -/
theorem bet_read (t : List UInt8) (m m3 : List Mk) (r : List UInt8) (hn : ∀ c ∈ t, c.toNat ≠ 10) (hm : mksM t = (m, r)) (u : List UInt8) (hu : mksM u = (m3, r)) (hB : m3 ≠ [] → expM m = none) :
    (stB u 47 = false → betM (uptoM t) = none) ∧ (stB u 47 = true → u = t → m = []) ∧ (stB u 47 = true → m3 = [] ∧ ∃ r', r = 47 :: r' ∧ uptoM t = some (m, r') ∧ u = 47 :: r') := by
  obtain ⟨p1, p2⟩ := upto_mk t m r hn hm
  refine ⟨fun h => ?_, fun h e => ?_, fun h => ?_⟩
  · by_cases hr : ∃ r', r = 47 :: r'
    · obtain ⟨r', hr⟩ := hr
      rw [p1 r' hr, betM]
      have h3 : m3 ≠ [] := fun e => by
        subst e
        have := mks_nil u r hu
        rw [← this, hr] at h
        cases h
      rw [hB h3]; rfl
    · rw [p2 (fun r' e => hr ⟨r', e⟩)]; rfl
  · obtain ⟨h3, r', h4, h5⟩ := (stB_slash u m3 r hu).1 h
    rw [e, hm] at hu
    simp at hu
    rw [hu]; exact h3
  · obtain ⟨h3, r', h4, h5⟩ := (stB_slash u m3 r hu).1 h
    exact ⟨h3, r', h4, p1 r' h4, h5⟩
/-- an expression's cells, an address's, the addresses' -/
def E3 (vs : List Value) : Prop := ∃ (h t : Bool) (a : Option Addr) (l c : Nat), vs = [.bool h, .bool t, .slice a l c]
theorem E3.len {vs : List Value} (h : E3 vs) : vs.length = 3 := by obtain ⟨_, _, _, _, _, rfl⟩ := h; rfl
theorem E3.one {vs : List Value} (h : E3 vs) : ∀ v ∈ vs, v.oneCell' = true := by obtain ⟨_, _, _, _, _, rfl⟩ := h; simp [Value.oneCell']
def A5 (vs : List Value) : Prop := ∃ (k n : Int) (h t : Bool) (a : Option Addr) (l c : Nat), vs = [.int .i64 k, .int .i64 n, .bool h, .bool t, .slice a l c]
theorem A5.len {vs : List Value} (h : A5 vs) : vs.length = 5 := by obtain ⟨_, _, _, _, _, _, _, rfl⟩ := h; rfl
theorem A5.one {vs : List Value} (h : A5 vs) : ∀ v ∈ vs, v.oneCell' = true := by obtain ⟨_, _, _, _, _, _, _, rfl⟩ := h; simp [Value.oneCell']
def A12 (vs : List Value) : Prop := ∃ (q k n k' n' : Int) (h t h' t' x : Bool) (a a' : Option Addr) (l c l' c' : Nat), vs = [.int .i64 q, .int .i64 k, .int .i64 n, .bool h, .bool t, .slice a l c, .int .i64 k', .int .i64 n', .bool h', .bool t', .slice a' l' c', .bool x]
theorem A12.part {vs us : List Value} (h : A12 vs) (g : A5 us) (i : Int) : A12 ((vs.set 0 (.int .i64 i)).take 6 ++ us ++ (vs.set 0 (.int .i64 i)).drop (6 + 5)) := by
  obtain ⟨q, k, n, k', n', h, t, h', t', x, a, a', l, c, l', c', rfl⟩ := h
  obtain ⟨k2, n2, h2, t2, a2, l2, c2, rfl⟩ := g
  exact ⟨i, k, n, k2, n2, h, t, h2, t2, x, a, a2, l, c, l2, c2, rfl⟩
end Go.Proofs.YtlppphmnegdhoabGreatDoor

namespace Go.Proofs.YtlppphmnegdhoabGreatDoor
set_option linter.unusedVariables false
set_option maxRecDepth 100000
open Go.RowKit
open M

theorem CB.get {w : World} {b : Nat} {cs : List Value} (h : CB w b cs) (j : Nat) (hj : j < cs.length) : ∃ v, w.cell? ⟨b, j, none⟩ = some v := ⟨_, h.c j _ (List.getElem?_eq_getElem hj)⟩
theorem dropx (a : ByteArray) (m : Nat) : (a.extract m a.size).data.toList = a.data.toList.drop m := by
  rw [Lib.extract_data, List.take_of_length_le (by rw [List.length_drop, ba_len]; omega)]
end Go.Proofs.YtlppphmnegdhoabGreatDoor

namespace Go.Proofs.YtlppphmnegdhoabGreatDoor
set_option linter.unusedVariables false
set_option maxRecDepth 100000
open Go.RowKit
open M

/-- all old blocks but one are as they were -/
structure Apt (g : Nat) (w w' : World) : Prop where
  os : w'.os = w.os
  tape : w'.tape = w.tape
  output : w'.output = w.output
  size : w.heap.size ≤ w'.heap.size
  block : ∀ k, k < w.heap.size → k ≠ g → w'.heap[k]? = w.heap[k]?
theorem Apt.refl (g : Nat) (w : World) : Apt g w w := ⟨rfl, rfl, rfl, Nat.le_refl _, fun _ _ _ => rfl⟩
theorem Apt.trans {g : Nat} {a b c : World} (h : Apt g a b) (k : Apt g b c) : Apt g a c :=
  ⟨k.os.trans h.os, k.tape.trans h.tape, k.output.trans h.output, Nat.le_trans h.size k.size, fun i hi hg => (k.block i (Nat.lt_of_lt_of_le hi h.size) hg).trans (h.block i hi hg)⟩
theorem Apt.of_below {g : Nat} {w w' : World} (h : Below w.heap.size w w') : Apt g w w' := ⟨h.os, h.tape, h.output, h.size, fun k hk _ => h.block k hk⟩
theorem Apt.of_only {g : Nat} {w w' : World} (h : Only g w w') : Apt g w w' := ⟨h.os, h.tape, h.output, by rw [h.size]; exact Nat.le_refl _, fun k _ hk => h.block k hk⟩
theorem Apt.below {g B : Nat} {w w' : World} (h : Apt g w w') (hB : B ≤ g) (hw : B ≤ w.heap.size) : Below B w w' := ⟨h.os, h.tape, h.output, h.size, fun k hk => h.block k (by omega) (by omega)⟩
theorem Apt.only_new {g b : Nat} {w W W' : World} (h : Apt b w W) (ho : Only g W W') (hg : w.heap.size ≤ g) : Apt b w W' := ⟨ho.os.trans h.os, ho.tape.trans h.tape, ho.output.trans h.output, by rw [ho.size]; exact h.size, fun k hk hb => (ho.block k (by omega)).trans (h.block k hk hb)⟩
theorem Apt.drewN {g : Nat} {w w' : World} (h : Apt g w w') (n : Nat) : Apt g w (w'.drewN n) := ⟨h.os, h.tape, h.output, h.size, h.block⟩
theorem CB.apt {w w' : World} {b g : Nat} {cs : List Value} (h : CB w b cs) (ha : Apt g w w') (hb : b ≠ g) : CB w' b cs := h.keep (ha.block b h.lt hb) ha.size
theorem twice_iff (m : List Mk) : twice m = true ↔ ∃ i k, ∃ (h : i < m.length) (h' : k < i), m[i].b = (m[k]'(by omega)).b := by
  induction m with
  | nil => simp [twice]
  | cons q m ih =>
    rw [twice, Bool.or_eq_true, ih, List.any_eq_true]
    constructor
    · rintro (⟨x, hx, e⟩ | ⟨i, k, h, h', e⟩)
      · obtain ⟨i, hi, rfl⟩ := List.getElem_of_mem hx
        exact ⟨i + 1, 0, by simp; omega, by omega, by simpa using e⟩
      · exact ⟨i + 1, k + 1, by simp; omega, by omega, by simpa using e⟩
    · rintro ⟨i, k, h, h', e⟩
      obtain ⟨i, rfl⟩ : ∃ j, i = j + 1 := ⟨i - 1, by omega⟩
      cases k with
      | zero =>
        left
        refine ⟨m[i]'(by simpa using h), List.getElem_mem _, ?_⟩
        simpa using e
      | succ k =>
        right
        exact ⟨i, k, by simpa using h, by omega, by simpa using e⟩
theorem cb_storeAt {ops : Array Oper} {rest : List Oper} {op : Oper} {a : Act} {w : World} {Q : Exit → Act → World → Prop} {g n : Nat} {cs vs : List Value} {T : TypeId} (hT : RowT T n) (hb : CB w g cs) (o : Nat) (hgd : op.guard = none) (x y : Operand) (ho : op.op = .store T x y) (hx : a.eval x = .pointer (some ⟨g, o, none⟩)) (hy : a.eval y = .agg vs.toArray) (hl : vs.length = n) (hn : o + n ≤ cs.length) (h1 : ∀ v ∈ vs, v.oneCell' = true)
    (h : ∀ w', CB w' g (cs.take o ++ vs ++ cs.drop (o + n)) → Only g w w' → wpList Tryz.prog ops Q rest (a.put op.dst undef) w') : wpList Tryz.prog ops Q (op :: rest) a w :=
  cb_store hT hb hl hn h1 hgd x y ho hx hy h
end Go.Proofs.YtlppphmnegdhoabGreatDoor

namespace Go.Proofs.YtlppphmnegdhoabGreatDoor
set_option linter.unusedVariables false
set_option maxRecDepth 100000
open Go.RowKit
open M

theorem rtPAddrs : RowT 141 12 := ⟨⟨_, Tryz.underlying141, rfl⟩, by kernel_rfl⟩
theorem ones_app {l m : List Value} (h : ∀ v ∈ l, v.oneCell' = true) (g : ∀ v ∈ m, v.oneCell' = true) : ∀ v ∈ l ++ m, v.oneCell' = true := fun v hv => (List.mem_append.1 hv).elim (h v) (g v)
def zAs : List Value := [.int .i64 0, .int .i64 0, .int .i64 0, .bool false, .bool false, .slice none 0 0, .int .i64 0, .int .i64 0, .bool false, .bool false, .slice none 0 0, .bool false]
theorem zAs_one : ∀ v ∈ zAs, v.oneCell' = true := by decide
end Go.Proofs.YtlppphmnegdhoabGreatDoor

namespace Go.Proofs.YtlppphmnegdhoabGreatDoor
set_option linter.unusedVariables false
open M

theorem digs_le : ∀ (n : Nat) (t : List UInt8), digs n t ≤ n := by
  intro n
  induction n with
  | zero => intro t; simp [digs]
  | succ n ih =>
    intro t
    match t with
    | [] => simp [digs]
    | c :: t =>
      rw [digs]
      split
      · have := ih t; omega
      · omega
end Go.Proofs.YtlppphmnegdhoabGreatDoor

namespace Go.Proofs.YtlppphmnegdhoabGreatDoor
set_option linter.unusedVariables false
namespace M

/-- a byte and its origin -/
abbrev Cl := UInt8 × Int
structure Adr where
  kind : Nat
  line : Nat
  ex : Ex
structure Sbs where
  ex : Ex
  rep : List (Option UInt8)
  count : Nat
  all : Bool
  prt : Bool
structure Cm where
  cnt : Nat
  a1 : Adr
  a2 : Adr
  no : Bool
  name : Nat
  label : Nat
  next : Nat
  text : ByteArray
  sub : Sbs
  frm : ByteArray
  toF : ByteArray
structure St where
  cs : List Cm
  rng : List Bool
  quiet : Bool
  steps : Nat
  room : Nat
  text : ByteArray
  closed : Bool
  behind : Nat
  nl : Int
  out : List Cl
  pat : List Cl
  hold : List Cl
  line : Nat
  queue : List ByteArray
  mark : Bool
  next : Nat
  asks : Nat
  over : Bool
  death : Nat
def nlC (o : Int) : Cl := (10, o)
def freshC (t : List UInt8) : List Cl := t.map (fun c => (c, -1))
def textC (l : List Cl) : List UInt8 := l.map (·.1)
def baC (l : List Cl) : ByteArray := ⟨(textC l).toArray⟩
/-- behind the first newline; 0: there is none -/
def behNL : List Cl → Nat
  | [] => 0
  | c :: t => if c.1.toNat = 10 then 1 else if behNL t = 0 then 0 else behNL t + 1
def joinC (a : List Cl) (c : Cl) (b : List Cl) : List Cl := a ++ [c] ++ b
def partC (l : List Cl) (i j : Nat) : List Cl := (l.drop i).take (j - i)
/-- the greatest end of a match from a place; -1: there is none -/
def endX (x : Ex) (s : List UInt8) (p : Nat) : Int := match (List.range (s.length + 1)).reverse.find? (fun q => matchX x s p q) with
  | some q => (q : Int)
  | none => -1
def findB (x : Ex) (s : List UInt8) : Bool := (List.range (s.length + 1)).any (fun p => endX x s p != -1)
/-- the matches from a place on; b: where the one before ends -/
def mtsF (E : Nat → Int) (n : Nat) : Nat → Nat → Int → List (Nat × Nat)
  | 0, _, _ => []
  | f + 1, i, b => if i ≤ n then (if (i : Int) < E i ∨ (E i = (i : Int) ∧ (i : Int) ≠ b) then (i, (E i).toNat) :: mtsF E n f (E i).toNat (E i) else mtsF E n f (i + 1) b) else []
def mtsX (x : Ex) (s : List UInt8) : List (Nat × Nat) := mtsF (endX x s) s.length (2 * s.length + 3) 0 (-1)
def fillC (rep : List (Option UInt8)) (m : List Cl) : List Cl := rep.flatMap (fun p => match p with | none => m | some c => [(c, -1)])
/-- is the match of this number replaced -/
def isRep (s : Sbs) (k : Nat) : Bool := k == s.count || (decide (s.count < k) && s.all)
def replC (l : List Cl) (s : Sbs) : List (Nat × Nat) → Nat → Nat → List Cl
  | [], _, b => l.drop b
  | m :: ms, k, b => if isRep s k then partC l b m.1 ++ fillC s.rep (partC l m.1 m.2) ++ replC l s ms (k + 1) m.2 else replC l s ms (k + 1) b
def placeB (t : List UInt8) (c : UInt8) : Option Nat := t.findIdx? (fun d => d == c)
def exchC (frm toF : List UInt8) (c : Cl) : Cl := match placeB frm c.1 with
  | none => c
  | some k => match toF[k]? with
    | none => c
    | some d => (d, -1)
namespace St
def die (S : St) (e : Nat) : St := { S with death := if S.death = 0 then e else S.death, over := true }
def put (S : St) (l : List Cl) : St := if S.death ≠ 0 then S else if 4096 - S.out.length < l.length then S.die 6 else { S with out := S.out ++ l }
def putText (S : St) (t : ByteArray) : St := S.put (joinC (freshC t.data.toList) (nlC (-1)) [])
def putPat (S : St) : St := S.put (joinC S.pat (nlC S.nl) [])
def putUQ (S : St) : St := if S.quiet then S else S.putPat
def putFirst (S : St) : St := if behNL S.pat = 0 then S.putPat else S.put (partC S.pat 0 (behNL S.pat))
def putQueue (S : St) : St := { S.queue.foldl putText S with queue := [] }
def endCycle (S : St) : St := { S.putQueue with next := 0, asks := 1 }
def endEarly (S : St) : St := { S.putUQ.putQueue with over := true }
/-- the end of the next line -/
def lend (S : St) : Nat := S.behind + ((S.text.data.toList.drop S.behind).takeWhile (fun c => c.toNat != 10)).length
def ask (S : St) : Nat := if S.closed = false ∧ S.text.size < S.lend + 2 then 2 else if S.text.size ≤ S.behind then 3 else 1
/-- the next line's bytes -/
def lineC (S : St) : List Cl := (((S.text.data.toList.drop S.behind).take (S.lend - S.behind)).zipIdx S.behind).map (fun p => (p.1, (p.2 : Int)))
def took (S : St) : St := if S.lend < S.text.size then { S with nl := S.lend, behind := S.lend + 1 } else { S with nl := -1, behind := S.lend }
def fits (S : St) (n : Nat) : Bool := decide (n ≤ S.room)
def take (S : St) : St :=
  let S1 : St := { S with asks := 0 }
  let S2 := if S.asks = 2 then S1.putUQ else S1
  let S3 := S2.putQueue
  let S4 : St := { S3.took with line := S3.line + 1, mark := false }
  let l := if S.asks = 3 then joinC S3.pat (nlC S3.nl) S3.lineC else S3.lineC
  if S4.fits l.length then { S4 with pat := l } else S4.die 5
def doWithout (S : St) : St := if S.asks = 1 then { S with over := true } else S.endEarly
def atLast (S : St) : Bool := decide (S.text.size ≤ S.behind)
def holds (S : St) (a : Adr) : Bool := if a.kind = 1 then a.line == S.line else if a.kind = 2 then S.atLast else if a.kind = 3 then findB a.ex (textC S.pat) else false
/-- what a range becomes, and whether the command is selected by it -/
def ranged (S : St) (at' : Nat) (c : Cm) : Bool × St :=
  if S.rng.getD at' false then (true, { S with rng := S.rng.set at' (!S.holds c.a2 && !(decide (c.a2.kind = 1) && decide (c.a2.line < S.line))) })
  else (S.holds c.a1, { S with rng := S.rng.set at' (S.holds c.a1 && !(decide (c.a2.kind = 1) && decide (c.a2.line ≤ S.line))) })
def selects (S : St) (at' : Nat) (c : Cm) : Bool × St :=
  if c.cnt = 0 then (true, S) else if c.cnt = 1 then (S.holds c.a1 != c.no, S) else ((S.ranged at' c).1 != c.no, (S.ranged at' c).2)
def subst (S : St) (s : Sbs) : St :=
  let ms := mtsX s.ex (textC S.pat)
  if ms.length < s.count then S else
  let r := replC S.pat s ms 1 0
  if S.fits r.length then
    let S2 : St := { S with pat := r, mark := true }
    if s.prt then S2.putPat else S2
  else S.die 5
def dropFirst (S : St) : St := if behNL S.pat = 0 then S.endCycle else { { S with pat := partC S.pat (behNL S.pat) S.pat.length }.putQueue with next := 0 }
def itoa (n : Nat) : ByteArray := ⟨(Lib.decDigits n).toArray⟩
def show' (S : St) (c : Cm) : St :=
  if c.name = 112 then S.putPat else if c.name = 80 then S.putFirst else if c.name = 61 then S.putText (itoa S.line) else if c.name = 105 then S.putText c.text else { S with queue := S.queue ++ [c.text] }
def change (S : St) (c : Cm) : St :=
  if c.name = 104 then { S with hold := S.pat } else if c.name = 103 then { S with pat := S.hold } else if c.name = 120 then { S with pat := S.hold, hold := S.pat }
  else if c.name = 72 then (let l := joinC S.hold (nlC (-1)) S.pat; if S.fits l.length then { S with hold := l } else S.die 5)
  else if c.name = 71 then (let l := joinC S.pat (nlC (-1)) S.hold; if S.fits l.length then { S with pat := l } else S.die 5)
  else if c.name = 115 then S.subst c.sub else { S with pat := S.pat.map (exchC c.frm.data.toList c.toF.data.toList) }
def lead (S : St) (c : Cm) : St :=
  if c.name = 100 then S.endCycle else if c.name = 68 then S.dropFirst else if c.name = 99 then (S.putText c.text).endCycle else if c.name = 110 then { S with asks := 2 } else if c.name = 78 then { S with asks := 3 }
  else if c.name = 113 then S.endEarly else if c.name = 98 then { S with next := c.next } else if S.mark then { S with mark := false, next := c.next } else S
def does (S : St) (c : Cm) : St :=
  if c.name = 112 ∨ c.name = 80 ∨ c.name = 61 ∨ c.name = 105 ∨ c.name = 97 then S.show' c
  else if c.name = 104 ∨ c.name = 72 ∨ c.name = 103 ∨ c.name = 71 ∨ c.name = 120 ∨ c.name = 115 ∨ c.name = 121 then S.change c
  else if c.name = 100 ∨ c.name = 68 ∨ c.name = 99 ∨ c.name = 110 ∨ c.name = 78 ∨ c.name = 113 ∨ c.name = 98 ∨ c.name = 116 then S.lead c else S
def reach (S : St) : St := match S.cs[S.next]? with
  | none => S.putUQ.endCycle
  | some c =>
    if S.steps = 0 then S.die 4 else
    let S1 : St := { S with steps := S.steps - 1, next := S.next + 1 }
    let r := S1.selects S.next c
    if r.1 then r.2.does c else if c.name = 123 then { r.2 with next := c.next } else r.2
/-- waits the run for more input -/
def stuck (S : St) : Bool := decide (S.asks ≠ 0) && S.ask == 2
def move (S : St) : St := if S.asks = 0 then S.reach else if S.ask = 2 then S else if S.ask = 3 then S.doWithout else S.take
/-- does the run stand still -/
def still (S : St) : Bool := S.over || S.stuck
end St
/-- a run goes on till it stands still -/
inductive Goes : St → St → Prop
  | stop {S : St} : S.still = true → Goes S S
  | step {S T : St} : S.still = false → Goes S.move T → Goes S T
theorem Goes.unique {S T U : St} (h : Goes S T) (g : Goes S U) : T = U := by
  induction h with
  | stop h => cases g with
    | stop _ => rfl
    | step k _ => rw [h] at k; cases k
  | step h _ ih => cases g with
    | stop k => rw [h] at k; cases k
    | step _ g => exact ih g
end M
end Go.Proofs.YtlppphmnegdhoabGreatDoor

namespace Go.Proofs.YtlppphmnegdhoabGreatDoor
set_option linter.unusedVariables false
namespace M
namespace St
/-- the same run over another input -/
def ext (S : St) (t : ByteArray) (c : Bool) : St := { S with text := t, closed := c }
theorem ext_put (S : St) (t : ByteArray) (c : Bool) (l : List Cl) : (S.ext t c).put l = (S.put l).ext t c := by
  have h : (S.ext t c).put l = if S.death ≠ 0 then S.ext t c else if 4096 - S.out.length < l.length then (S.die 6).ext t c else { S with out := S.out ++ l }.ext t c := rfl
  rw [h]
  unfold put
  split
  · rfl
  · split <;> rfl
theorem ext_putText (S : St) (t : ByteArray) (c : Bool) (x : ByteArray) : (S.ext t c).putText x = (S.putText x).ext t c := ext_put S t c _
theorem ext_putPat (S : St) (t : ByteArray) (c : Bool) : (S.ext t c).putPat = S.putPat.ext t c := ext_put S t c _
theorem ext_putUQ (S : St) (t : ByteArray) (c : Bool) : (S.ext t c).putUQ = S.putUQ.ext t c := by
  have h : (S.ext t c).putUQ = if S.quiet then S.ext t c else (S.ext t c).putPat := rfl
  rw [h, ext_putPat]
  unfold putUQ
  split <;> rfl
theorem ext_putFirst (S : St) (t : ByteArray) (c : Bool) : (S.ext t c).putFirst = S.putFirst.ext t c := by
  have h : (S.ext t c).putFirst = if behNL S.pat = 0 then (S.ext t c).putPat else (S.ext t c).put (partC S.pat 0 (behNL S.pat)) := rfl
  rw [h, ext_putPat, ext_put]
  unfold putFirst
  split <;> rfl
theorem ext_fold (l : List ByteArray) (t : ByteArray) (c : Bool) : ∀ S : St, l.foldl putText (S.ext t c) = (l.foldl putText S).ext t c := by
  induction l with
  | nil => intro S; rfl
  | cons x l ih => intro S; rw [List.foldl_cons, List.foldl_cons, ext_putText, ih]
theorem ext_putQueue (S : St) (t : ByteArray) (c : Bool) : (S.ext t c).putQueue = S.putQueue.ext t c := by
  have h : (S.ext t c).putQueue = { S.queue.foldl putText (S.ext t c) with queue := [] } := rfl
  rw [h, ext_fold]
  rfl
theorem ext_endCycle (S : St) (t : ByteArray) (c : Bool) : (S.ext t c).endCycle = S.endCycle.ext t c := by
  unfold endCycle
  rw [ext_putQueue]
  rfl
theorem ext_endEarly (S : St) (t : ByteArray) (c : Bool) : (S.ext t c).endEarly = S.endEarly.ext t c := by
  unfold endEarly
  rw [ext_putUQ, ext_putQueue]
  rfl
theorem ext_dropFirst (S : St) (t : ByteArray) (c : Bool) : (S.ext t c).dropFirst = S.dropFirst.ext t c := by
  have h : (S.ext t c).dropFirst = if behNL S.pat = 0 then (S.ext t c).endCycle else { ({ S with pat := partC S.pat (behNL S.pat) S.pat.length }.ext t c).putQueue with next := 0 } := rfl
  rw [h, ext_endCycle, ext_putQueue]
  unfold dropFirst
  split <;> rfl
theorem ext_show (S : St) (t : ByteArray) (c : Bool) (k : Cm) : (S.ext t c).show' k = (S.show' k).ext t c := by
  have h : (S.ext t c).show' k = if k.name = 112 then (S.ext t c).putPat else if k.name = 80 then (S.ext t c).putFirst else if k.name = 61 then (S.ext t c).putText (itoa S.line) else if k.name = 105 then (S.ext t c).putText k.text else { S with queue := S.queue ++ [k.text] }.ext t c := rfl
  rw [h, ext_putPat, ext_putFirst, ext_putText, ext_putText]
  unfold show'
  split
  · rfl
  split
  · rfl
  split
  · rfl
  split <;> rfl
theorem ext_subst (S : St) (t : ByteArray) (c : Bool) (s : Sbs) : (S.ext t c).subst s = (S.subst s).ext t c := by
  have h : (S.ext t c).subst s = if (mtsX s.ex (textC S.pat)).length < s.count then S.ext t c else if S.fits (replC S.pat s (mtsX s.ex (textC S.pat)) 1 0).length then (if s.prt then ({ S with pat := replC S.pat s (mtsX s.ex (textC S.pat)) 1 0, mark := true }.ext t c).putPat else { S with pat := replC S.pat s (mtsX s.ex (textC S.pat)) 1 0, mark := true }.ext t c) else (S.die 5).ext t c := rfl
  rw [h, ext_putPat]
  unfold subst
  simp only
  split
  · rfl
  split
  · split <;> rfl
  · rfl
theorem ext_change (S : St) (t : ByteArray) (c : Bool) (k : Cm) : (S.ext t c).change k = (S.change k).ext t c := by
  have h : (S.ext t c).change k = if k.name = 104 then { S with hold := S.pat }.ext t c else if k.name = 103 then { S with pat := S.hold }.ext t c else if k.name = 120 then { S with pat := S.hold, hold := S.pat }.ext t c
    else if k.name = 72 then (if S.fits (joinC S.hold (nlC (-1)) S.pat).length then { S with hold := joinC S.hold (nlC (-1)) S.pat }.ext t c else (S.die 5).ext t c)
    else if k.name = 71 then (if S.fits (joinC S.pat (nlC (-1)) S.hold).length then { S with pat := joinC S.pat (nlC (-1)) S.hold }.ext t c else (S.die 5).ext t c)
    else if k.name = 115 then (S.ext t c).subst k.sub else { S with pat := S.pat.map (exchC k.frm.data.toList k.toF.data.toList) }.ext t c := rfl
  rw [h, ext_subst]
  unfold change
  simp only
  split
  · rfl
  split
  · rfl
  split
  · rfl
  split
  · split <;> rfl
  split
  · split <;> rfl
  split <;> rfl
theorem ext_lead (S : St) (t : ByteArray) (c : Bool) (k : Cm) : (S.ext t c).lead k = (S.lead k).ext t c := by
  have h : (S.ext t c).lead k = if k.name = 100 then (S.ext t c).endCycle else if k.name = 68 then (S.ext t c).dropFirst else if k.name = 99 then ((S.ext t c).putText k.text).endCycle else if k.name = 110 then { S with asks := 2 }.ext t c else if k.name = 78 then { S with asks := 3 }.ext t c
    else if k.name = 113 then (S.ext t c).endEarly else if k.name = 98 then { S with next := k.next }.ext t c else if S.mark then { S with mark := false, next := k.next }.ext t c else S.ext t c := rfl
  rw [h, ext_endCycle, ext_dropFirst, ext_putText, ext_endCycle, ext_endEarly]
  unfold lead
  split
  · rfl
  split
  · rfl
  split
  · rfl
  split
  · rfl
  split
  · rfl
  split
  · rfl
  split
  · rfl
  split <;> rfl
theorem ext_does (S : St) (t : ByteArray) (c : Bool) (k : Cm) : (S.ext t c).does k = (S.does k).ext t c := by
  unfold does
  rw [ext_show, ext_change, ext_lead]
  split
  · rfl
  split
  · rfl
  split <;> rfl
theorem ext_holds (S : St) (t : ByteArray) (c : Bool) (a : Adr) (h : decide (t.size ≤ S.behind) = decide (S.text.size ≤ S.behind)) : (S.ext t c).holds a = S.holds a := by
  have h1 : (S.ext t c).holds a = if a.kind = 1 then a.line == S.line else if a.kind = 2 then decide (t.size ≤ S.behind) else if a.kind = 3 then findB a.ex (textC S.pat) else false := rfl
  rw [h1, h]
  rfl
theorem ext_ranged (S : St) (t : ByteArray) (c : Bool) (k : Nat) (a : Cm) (h : decide (t.size ≤ S.behind) = decide (S.text.size ≤ S.behind)) : (S.ext t c).ranged k a = ((S.ranged k a).1, (S.ranged k a).2.ext t c) := by
  unfold ranged
  rw [ext_holds S t c _ h, ext_holds S t c _ h]
  have e : (S.ext t c).rng = S.rng := rfl
  rw [e]
  split <;> rfl
theorem ext_selects (S : St) (t : ByteArray) (c : Bool) (k : Nat) (a : Cm) (h : decide (t.size ≤ S.behind) = decide (S.text.size ≤ S.behind)) : (S.ext t c).selects k a = ((S.selects k a).1, (S.selects k a).2.ext t c) := by
  unfold selects
  rw [ext_ranged S t c _ _ h, ext_holds S t c _ h]
  split
  · rfl
  split <;> rfl
theorem ext_reach (S : St) (t : ByteArray) (c : Bool) (h : decide (t.size ≤ S.behind) = decide (S.text.size ≤ S.behind)) : (S.ext t c).reach = S.reach.ext t c := by
  have e1 : (S.ext t c).reach = match S.cs[S.next]? with
    | none => (S.ext t c).putUQ.endCycle
    | some k => if S.steps = 0 then (S.die 4).ext t c else
      let r := ({ S with steps := S.steps - 1, next := S.next + 1 }.ext t c).selects S.next k
      if r.1 then r.2.does k else if k.name = 123 then { r.2 with next := k.next } else r.2 := rfl
  rw [e1]
  unfold reach
  cases S.cs[S.next]? with
  | none => simp only; rw [ext_putUQ, ext_endCycle]
  | some k =>
    simp only
    split
    · rfl
    · rw [ext_selects _ t c _ _ (by exact h)]
      simp only
      rw [ext_does]
      split
      · rfl
      split <;> rfl
theorem takeWhile_app {α : Type} (p : α → Bool) (l r : List α) (h : (l.takeWhile p).length < l.length) : (l ++ r).takeWhile p = l.takeWhile p := by
  induction l with
  | nil => simp at h
  | cons x l ih =>
    rw [List.cons_append, List.takeWhile_cons, List.takeWhile_cons]
    cases hp : p x
    · rfl
    · rw [List.takeWhile_cons, hp] at h
      simp only [if_true]
      rw [ih (by simpa using h)]
theorem lend_le (S : St) (h : S.behind ≤ S.text.size) : S.behind ≤ S.lend ∧ S.lend ≤ S.text.size := by
  unfold lend
  have := (List.takeWhile_prefix (fun c : UInt8 => c.toNat != 10) (l := S.text.data.toList.drop S.behind)).length_le
  rw [List.length_drop] at this
  have e : S.text.data.toList.length = S.text.size := Array.length_toList
  omega
theorem ext_lend (S : St) (u : ByteArray) (c : Bool) (h : S.lend < S.text.size) : (S.ext (S.text ++ u) c).lend = S.lend := by
  have e : S.text.data.toList.length = S.text.size := Array.length_toList
  have e0 : (S.ext (S.text ++ u) c).lend = S.behind + (((S.text ++ u).data.toList.drop S.behind).takeWhile (fun c => c.toNat != 10)).length := rfl
  have hb : S.behind ≤ S.text.size := by unfold lend at h; omega
  have e1 : (S.text ++ u).data.toList = S.text.data.toList ++ u.data.toList := by simp
  rw [e0, e1, List.drop_append_of_le_length (by omega), takeWhile_app _ _ _ (by rw [List.length_drop]; unfold lend at h; omega)]
  rfl
theorem ext_took (S : St) (u : ByteArray) (c : Bool) (h : S.lend < S.text.size) : (S.ext (S.text ++ u) c).took = S.took.ext (S.text ++ u) c := by
  unfold took
  rw [ext_lend S u c h]
  have e : (S.ext (S.text ++ u) c).text.size = S.text.size + u.size := by show (S.text ++ u).size = _; simp
  rw [if_pos h, if_pos (by rw [e]; omega)]
  rfl
theorem ext_lineC (S : St) (u : ByteArray) (c : Bool) (h : S.lend < S.text.size) : (S.ext (S.text ++ u) c).lineC = S.lineC := by
  unfold lineC
  rw [ext_lend S u c h]
  have e1 : (S.ext (S.text ++ u) c).text.data.toList = S.text.data.toList ++ u.data.toList := by show (S.text ++ u).data.toList = _; simp
  have e2 : (S.ext (S.text ++ u) c).behind = S.behind := rfl
  have e : S.text.data.toList.length = S.text.size := Array.length_toList
  have hb : S.behind ≤ S.text.size := by unfold lend at h; omega
  rw [e1, e2, List.drop_append_of_le_length (by omega), List.take_append_of_le_length (by rw [List.length_drop]; omega)]
/-- what putting out leaves as it is -/
theorem put_keep (S : St) (l : List Cl) : (S.put l).text = S.text ∧ (S.put l).behind = S.behind ∧ (S.put l).closed = S.closed ∧ (S.put l).pat = S.pat ∧ (S.put l).hold = S.hold ∧ (S.put l).nl = S.nl ∧ (S.put l).line = S.line ∧ (S.put l).room = S.room ∧ (S.put l).steps = S.steps ∧ (S.put l).cs = S.cs ∧ (S.put l).rng = S.rng ∧ (S.put l).asks = S.asks ∧ (S.put l).next = S.next ∧ (S.put l).quiet = S.quiet ∧ (S.put l).queue = S.queue ∧ (S.put l).mark = S.mark := by
  unfold put
  split
  · simp
  split <;> simp [die]
theorem fold_keep (l : List ByteArray) : ∀ S : St, (l.foldl putText S).text = S.text ∧ (l.foldl putText S).behind = S.behind ∧ (l.foldl putText S).closed = S.closed ∧ (l.foldl putText S).pat = S.pat ∧ (l.foldl putText S).hold = S.hold ∧ (l.foldl putText S).nl = S.nl ∧ (l.foldl putText S).line = S.line ∧ (l.foldl putText S).room = S.room ∧ (l.foldl putText S).steps = S.steps ∧ (l.foldl putText S).cs = S.cs ∧ (l.foldl putText S).rng = S.rng ∧ (l.foldl putText S).asks = S.asks ∧ (l.foldl putText S).next = S.next ∧ (l.foldl putText S).quiet = S.quiet ∧ (l.foldl putText S).mark = S.mark := by
  induction l with
  | nil => intro S; simp
  | cons x l ih =>
    intro S
    rw [List.foldl_cons]
    have h := ih (S.putText x)
    have k := put_keep S (joinC (freshC x.data.toList) (nlC (-1)) [])
    have e : S.putText x = S.put (joinC (freshC x.data.toList) (nlC (-1)) []) := rfl
    rw [← e] at k
    simp only [k] at h
    exact h
end St
end M
end Go.Proofs.YtlppphmnegdhoabGreatDoor

namespace Go.Proofs.YtlppphmnegdhoabGreatDoor
set_option linter.unusedVariables false
namespace M
namespace St
/-- what a command leaves as it is -/
structure Same (S T : St) : Prop where
  text : T.text = S.text
  behind : T.behind = S.behind
  closed : T.closed = S.closed
  nl : T.nl = S.nl
  line : T.line = S.line
  cs : T.cs = S.cs
  room : T.room = S.room
  quiet : T.quiet = S.quiet
theorem Same.refl (S : St) : Same S S := ⟨rfl, rfl, rfl, rfl, rfl, rfl, rfl, rfl⟩
theorem Same.trans {S T U : St} (h : Same S T) (k : Same T U) : Same S U := ⟨k.text.trans h.text, k.behind.trans h.behind, k.closed.trans h.closed, k.nl.trans h.nl, k.line.trans h.line, k.cs.trans h.cs, k.room.trans h.room, k.quiet.trans h.quiet⟩
theorem Same.ite {S T U : St} {p : Prop} [Decidable p] (h : p → Same S T) (k : ¬ p → Same S U) : Same S (if p then T else U) := by
  split
  · exact h ‹_›
  · exact k ‹_›
theorem same_die (S : St) (e : Nat) : Same S (S.die e) := ⟨rfl, rfl, rfl, rfl, rfl, rfl, rfl, rfl⟩
theorem same_put (S : St) (l : List Cl) : Same S (S.put l) := by
  unfold put
  exact .ite (fun _ => .refl S) (fun _ => .ite (fun _ => same_die S 6) (fun _ => ⟨rfl, rfl, rfl, rfl, rfl, rfl, rfl, rfl⟩))
theorem same_fold (l : List ByteArray) : ∀ S : St, Same S (l.foldl putText S) := by
  induction l with
  | nil => intro S; exact .refl S
  | cons x l ih => intro S; exact (same_put S _).trans (ih _)
theorem same_putQueue (S : St) : Same S S.putQueue := (same_fold S.queue S).trans ⟨rfl, rfl, rfl, rfl, rfl, rfl, rfl, rfl⟩
theorem same_putUQ (S : St) : Same S S.putUQ := by unfold putUQ; exact .ite (fun _ => .refl S) (fun _ => same_put S _)
theorem same_putFirst (S : St) : Same S S.putFirst := by unfold putFirst; exact .ite (fun _ => same_put S _) (fun _ => same_put S _)
theorem same_endCycle (S : St) : Same S S.endCycle := (same_putQueue S).trans ⟨rfl, rfl, rfl, rfl, rfl, rfl, rfl, rfl⟩
theorem same_endEarly (S : St) : Same S S.endEarly := ((same_putUQ S).trans (same_putQueue _)).trans ⟨rfl, rfl, rfl, rfl, rfl, rfl, rfl, rfl⟩
theorem same_dropFirst (S : St) : Same S S.dropFirst := by
  unfold dropFirst
  refine .ite (fun _ => same_endCycle S) (fun _ => ?_)
  have h1 : Same S { S with pat := partC S.pat (behNL S.pat) S.pat.length } := ⟨rfl, rfl, rfl, rfl, rfl, rfl, rfl, rfl⟩
  have h2 := h1.trans (same_putQueue _)
  exact ⟨h2.text, h2.behind, h2.closed, h2.nl, h2.line, h2.cs, h2.room, h2.quiet⟩
theorem same_show (S : St) (c : Cm) : Same S (S.show' c) := by
  unfold show'
  exact .ite (fun _ => same_put S _) (fun _ => .ite (fun _ => same_putFirst S) (fun _ => .ite (fun _ => same_put S _) (fun _ => .ite (fun _ => same_put S _) (fun _ => ⟨rfl, rfl, rfl, rfl, rfl, rfl, rfl, rfl⟩))))
theorem same_subst (S : St) (s : Sbs) : Same S (S.subst s) := by
  unfold subst
  simp only
  refine .ite (fun _ => .refl S) (fun _ => .ite (fun _ => .ite (fun _ => ?_) (fun _ => ⟨rfl, rfl, rfl, rfl, rfl, rfl, rfl, rfl⟩)) (fun _ => same_die S 5))
  have h1 : Same S { S with pat := replC S.pat s (mtsX s.ex (textC S.pat)) 1 0, mark := true } := ⟨rfl, rfl, rfl, rfl, rfl, rfl, rfl, rfl⟩
  exact h1.trans (same_put _ _)
theorem same_change (S : St) (c : Cm) : Same S (S.change c) := by
  unfold change
  simp only
  refine .ite (fun _ => ⟨rfl, rfl, rfl, rfl, rfl, rfl, rfl, rfl⟩) (fun _ => .ite (fun _ => ⟨rfl, rfl, rfl, rfl, rfl, rfl, rfl, rfl⟩) (fun _ => .ite (fun _ => ⟨rfl, rfl, rfl, rfl, rfl, rfl, rfl, rfl⟩) (fun _ => .ite (fun _ => .ite (fun _ => ⟨rfl, rfl, rfl, rfl, rfl, rfl, rfl, rfl⟩) (fun _ => same_die S 5)) (fun _ => .ite (fun _ => .ite (fun _ => ⟨rfl, rfl, rfl, rfl, rfl, rfl, rfl, rfl⟩) (fun _ => same_die S 5)) (fun _ => .ite (fun _ => same_subst S _) (fun _ => ⟨rfl, rfl, rfl, rfl, rfl, rfl, rfl, rfl⟩))))))
theorem same_lead (S : St) (c : Cm) : Same S (S.lead c) := by
  unfold lead
  refine .ite (fun _ => same_endCycle S) (fun _ => .ite (fun _ => same_dropFirst S) (fun _ => .ite (fun _ => (same_put S _).trans (same_endCycle _)) (fun _ => .ite (fun _ => ⟨rfl, rfl, rfl, rfl, rfl, rfl, rfl, rfl⟩) (fun _ => .ite (fun _ => ⟨rfl, rfl, rfl, rfl, rfl, rfl, rfl, rfl⟩) (fun _ => .ite (fun _ => same_endEarly S) (fun _ => .ite (fun _ => ⟨rfl, rfl, rfl, rfl, rfl, rfl, rfl, rfl⟩) (fun _ => .ite (fun _ => ⟨rfl, rfl, rfl, rfl, rfl, rfl, rfl, rfl⟩) (fun _ => .refl S))))))))
theorem same_does (S : St) (c : Cm) : Same S (S.does c) := by
  unfold does
  exact .ite (fun _ => same_show S c) (fun _ => .ite (fun _ => same_change S c) (fun _ => .ite (fun _ => same_lead S c) (fun _ => .refl S)))
theorem same_ranged (S : St) (k : Nat) (c : Cm) : Same S (S.ranged k c).2 := by
  unfold ranged
  split <;> exact ⟨rfl, rfl, rfl, rfl, rfl, rfl, rfl, rfl⟩
theorem same_selects (S : St) (k : Nat) (c : Cm) : Same S (S.selects k c).2 := by
  unfold selects
  split
  · exact .refl S
  split
  · exact .refl S
  · exact same_ranged S k c
theorem same_reach (S : St) : Same S S.reach := by
  unfold reach
  cases S.cs[S.next]? with
  | none => exact (same_putUQ S).trans (same_endCycle _)
  | some c =>
    simp only
    refine .ite (fun _ => same_die S 4) (fun _ => ?_)
    have h0 : Same S { S with steps := S.steps - 1, next := S.next + 1 } := ⟨rfl, rfl, rfl, rfl, rfl, rfl, rfl, rfl⟩
    have h1 := h0.trans (same_selects _ S.next c)
    refine .ite (fun _ => h1.trans (same_does _ c)) (fun _ => .ite (fun _ => h1.trans ⟨rfl, rfl, rfl, rfl, rfl, rfl, rfl, rfl⟩) (fun _ => h1))
/-- a run whose input is open -/
structure Opn (S : St) : Prop where
  closed : S.closed = false
  beh : S.behind ≤ S.text.size
  asks0 : S.asks = 0 → S.behind < S.text.size
/-- what is done ahead of taking a line -/
def takePre (S : St) : St := (if S.asks = 2 then { S with asks := 0 }.putUQ else { S with asks := 0 }).putQueue
/-- what the pattern space would become -/
def takeLine (S : St) : List Cl := if S.asks = 3 then joinC S.pat (nlC S.nl) S.lineC else S.lineC
theorem take_eq (S : St) : S.take = (if S.fits S.takeLine.length then
    { S.takePre with nl := S.took.nl, behind := S.took.behind, line := S.line + 1, mark := false, pat := S.takeLine }
    else St.die { S.takePre with nl := S.took.nl, behind := S.took.behind, line := S.line + 1, mark := false } 5) := by
  have key : ∀ T : St, T.text = S.text → T.behind = S.behind → T.pat = S.pat → T.nl = S.nl → T.line = S.line → T.room = S.room →
      (if ({ T.took with line := T.line + 1, mark := false } : St).fits (if S.asks = 3 then joinC T.pat (nlC T.nl) T.lineC else T.lineC).length then ({ ({ T.took with line := T.line + 1, mark := false } : St) with pat := (if S.asks = 3 then joinC T.pat (nlC T.nl) T.lineC else T.lineC) } : St) else ({ T.took with line := T.line + 1, mark := false } : St).die 5) =
      (if S.fits (if S.asks = 3 then joinC S.pat (nlC S.nl) S.lineC else S.lineC).length then { T with nl := S.took.nl, behind := S.took.behind, line := S.line + 1, mark := false, pat := (if S.asks = 3 then joinC S.pat (nlC S.nl) S.lineC else S.lineC) } else St.die { T with nl := S.took.nl, behind := S.took.behind, line := S.line + 1, mark := false } 5) := by
    intro T h1 h2 h3 h4 h5 h6
    have e1 : T.lend = S.lend := by unfold lend; rw [h1, h2]
    have e2 : T.lineC = S.lineC := by unfold lineC; rw [e1, h1, h2]
    have e3 : T.took = { T with nl := S.took.nl, behind := S.took.behind } := by
      unfold took; rw [e1, h1]; split <;> rfl
    simp only [e2, e3, h3, h4, h5, fits, h6]
  unfold take takePre takeLine
  simp only
  have hk : ∀ T : St, T.text = S.text → T.behind = S.behind → T.pat = S.pat → T.nl = S.nl → T.line = S.line → T.room = S.room → T.putQueue.text = S.text ∧ T.putQueue.behind = S.behind ∧ T.putQueue.pat = S.pat ∧ T.putQueue.nl = S.nl ∧ T.putQueue.line = S.line ∧ T.putQueue.room = S.room := by
    intro T h1 h2 h3 h4 h5 h6
    have k := fold_keep T.queue T
    exact ⟨k.1.trans h1, k.2.1.trans h2, k.2.2.2.1.trans h3, k.2.2.2.2.2.1.trans h4, k.2.2.2.2.2.2.1.trans h5, k.2.2.2.2.2.2.2.1.trans h6⟩
  have hq : ∀ T : St, T.text = S.text → T.behind = S.behind → T.pat = S.pat → T.nl = S.nl → T.line = S.line → T.room = S.room → T.putUQ.text = S.text ∧ T.putUQ.behind = S.behind ∧ T.putUQ.pat = S.pat ∧ T.putUQ.nl = S.nl ∧ T.putUQ.line = S.line ∧ T.putUQ.room = S.room := by
    intro T h1 h2 h3 h4 h5 h6
    unfold putUQ
    split
    · exact ⟨h1, h2, h3, h4, h5, h6⟩
    · have k := put_keep T (joinC T.pat (nlC T.nl) [])
      exact ⟨k.1.trans h1, k.2.1.trans h2, k.2.2.2.1.trans h3, k.2.2.2.2.2.1.trans h4, k.2.2.2.2.2.2.1.trans h5, k.2.2.2.2.2.2.2.1.trans h6⟩
  split
  · obtain ⟨a1, a2, a3, a4, a5, a6⟩ := hq { S with asks := 0 } rfl rfl rfl rfl rfl rfl
    obtain ⟨b1, b2, b3, b4, b5, b6⟩ := hk _ a1 a2 a3 a4 a5 a6
    exact key _ b1 b2 b3 b4 b5 b6
  · obtain ⟨b1, b2, b3, b4, b5, b6⟩ := hk { S with asks := 0 } rfl rfl rfl rfl rfl rfl
    exact key _ b1 b2 b3 b4 b5 b6
end St
end M
end Go.Proofs.YtlppphmnegdhoabGreatDoor

namespace Go.Proofs.YtlppphmnegdhoabGreatDoor
set_option linter.unusedVariables false
namespace M
namespace St
theorem ext_takePre (S : St) (t : ByteArray) (c : Bool) : (S.ext t c).takePre = S.takePre.ext t c := by
  have e : (S.ext t c).takePre = (if S.asks = 2 then (({ S with asks := 0 } : St).ext t c).putUQ else ({ S with asks := 0 } : St).ext t c).putQueue := rfl
  rw [e, ext_putUQ]
  unfold takePre
  split
  · rw [ext_putQueue]
  · rw [ext_putQueue]
theorem ext_take (S : St) (u : ByteArray) (c : Bool) (h : S.lend < S.text.size) : (S.ext (S.text ++ u) c).take = S.take.ext (S.text ++ u) c := by
  have el : (S.ext (S.text ++ u) c).takeLine = S.takeLine := by unfold takeLine; rw [ext_lineC S u c h]; rfl
  rw [take_eq, take_eq S, el, ext_takePre, ext_took S u c h]
  generalize S.text ++ u = t
  have e5 : ∀ n, (S.ext t c).fits n = S.fits n := fun _ => rfl
  rw [e5]
  split <;> rfl
theorem took_keep (S : St) : S.took.text = S.text ∧ S.took.closed = S.closed ∧ S.took.behind = if S.lend < S.text.size then S.lend + 1 else S.lend := by
  unfold took
  split <;> simp
theorem take_keep (S : St) : S.take.text = S.text ∧ S.take.closed = S.closed ∧ S.take.behind = (if S.lend < S.text.size then S.lend + 1 else S.lend) ∧ S.take.cs = S.cs ∧ S.take.room = S.room ∧ S.take.quiet = S.quiet ∧ S.take.line = S.line + 1 := by
  rw [take_eq]
  have h : Same S S.takePre := by
    unfold takePre
    have h0 : Same S { S with asks := 0 } := ⟨rfl, rfl, rfl, rfl, rfl, rfl, rfl, rfl⟩
    exact Same.trans (.ite (fun _ => h0.trans (same_putUQ _)) (fun _ => h0)) (same_putQueue _)
  have hb := (took_keep S).2.2
  split
  · exact ⟨h.text, h.closed, hb, h.cs, h.room, h.quiet, rfl⟩
  · exact ⟨h.text, h.closed, hb, h.cs, h.room, h.quiet, rfl⟩
theorem open_ready (S : St) (h : Opn S) (ha : S.asks ≠ 0) (hs : S.still = false) : S.lend + 2 ≤ S.text.size ∧ S.ask = 1 ∧ ∀ u c, (S.ext (S.text ++ u) c).ask = 1 := by
  unfold still stuck at hs
  rw [Bool.or_eq_false_iff, decide_eq_true ha, Bool.true_and] at hs
  have h2 := hs.2
  have hl := lend_le S h.beh
  have hsz : S.lend + 2 ≤ S.text.size := by
    by_cases hc : S.text.size < S.lend + 2
    · unfold ask at h2
      rw [if_pos ⟨h.closed, hc⟩] at h2
      cases h2
    · omega
  refine ⟨hsz, ?_, fun u c => ?_⟩
  · unfold ask
    rw [if_neg (fun x => by omega), if_neg (by omega)]
  · unfold ask
    rw [ext_lend S u c (by omega)]
    have e : (S.ext (S.text ++ u) c).text.size = S.text.size + u.size := by show (S.text ++ u).size = _; simp
    have e2 : (S.ext (S.text ++ u) c).behind = S.behind := rfl
    rw [e, e2, if_neg (fun x => by omega), if_neg (by omega)]
theorem move_ext (S : St) (h : Opn S) (hs : S.still = false) : (∀ u c, (S.ext (S.text ++ u) c).move = S.move.ext (S.text ++ u) c ∧ (S.ext (S.text ++ u) c).still = false) ∧ Opn S.move ∧ S.move.text = S.text := by
  by_cases ha : S.asks = 0
  · have em : S.move = S.reach := by unfold move; rw [if_pos ha]
    have hb := h.asks0 ha
    have hr := same_reach S
    refine ⟨fun u c => ⟨?_, ?_⟩, ?_, ?_⟩
    · have e : (S.ext (S.text ++ u) c).move = (S.ext (S.text ++ u) c).reach := by unfold move; rw [if_pos (by exact ha)]
      rw [e, em, ext_reach]
      rw [decide_eq_false (by have : (S.text ++ u).size = S.text.size + u.size := by simp
                              omega), decide_eq_false (by omega)]
    · unfold still stuck at hs ⊢
      have e1 : (S.ext (S.text ++ u) c).over = S.over := rfl
      have e2 : (S.ext (S.text ++ u) c).asks = S.asks := rfl
      rw [Bool.or_eq_false_iff] at hs ⊢
      rw [e1, e2]
      refine ⟨hs.1, ?_⟩
      rw [ha]; rfl
    · rw [em]
      exact ⟨hr.closed.trans h.closed, by rw [hr.behind, hr.text]; omega, fun _ => by rw [hr.behind, hr.text]; exact hb⟩
    · rw [em]; exact hr.text
  · obtain ⟨hsz, hask, haske⟩ := open_ready S h ha hs
    have em : S.move = S.take := by unfold move; rw [if_neg ha, hask]; rfl
    have hk := take_keep S
    refine ⟨fun u c => ⟨?_, ?_⟩, ?_, ?_⟩
    · have e : (S.ext (S.text ++ u) c).move = (S.ext (S.text ++ u) c).take := by unfold move; rw [if_neg (by exact ha), haske]; rfl
      rw [e, em, ext_take S u c (by omega)]
    · unfold still stuck at hs ⊢
      rw [Bool.or_eq_false_iff] at hs ⊢
      refine ⟨hs.1, ?_⟩
      rw [haske]
      simp
    · rw [em]
      refine ⟨hk.2.1.trans h.closed, ?_, fun _ => ?_⟩
      · rw [hk.2.2.1, hk.1, if_pos (by omega)]; omega
      · rw [hk.2.2.1, hk.1, if_pos (by omega)]; omega
    · rw [em]; exact hk.1
end St
open St
theorem goes_ext {S T : St} (hg : Goes S T) : Opn S → Opn T ∧ T.text = S.text ∧ ∀ u c R, Goes (S.ext (S.text ++ u) c) R ↔ Goes (T.ext (S.text ++ u) c) R := by
  induction hg with
  | stop h => exact fun ho => ⟨ho, rfl, fun u c R => Iff.rfl⟩
  | @step S T h hg ih =>
    intro ho
    obtain ⟨hm, hom, htx⟩ := move_ext S ho h
    obtain ⟨h1, h2, h3⟩ := ih hom
    refine ⟨h1, h2.trans htx, fun u c R => ?_⟩
    have h4 := h3 u c R
    rw [htx] at h4
    rw [← h4, ← (hm u c).1]
    constructor
    · intro g
      cases g with
      | stop k => rw [(hm u c).2] at k; cases k
      | step _ g => exact g
    · intro g
      exact .step (hm u c).2 g
/-- where a run stands still, an input that ends nowhere -/
theorem Goes.still {S T : St} (h : Goes S T) : T.still = true := by
  induction h with
  | stop h => exact h
  | step _ _ ih => exact ih
end M
end Go.Proofs.YtlppphmnegdhoabGreatDoor

namespace Go.Proofs.YtlppphmnegdhoabGreatDoor
set_option linter.unusedVariables false
namespace M
/-- an origin is a place of the input where that byte stands -/
def Orig (t : List UInt8) (c : Cl) : Prop := c.2 = -1 ∨ ∃ k, ∃ h : k < t.length, c.2 = (k : Int) ∧ t[k] = c.1
def Origs (t : List UInt8) (l : List Cl) : Prop := ∀ c ∈ l, Orig t c
/-- an origin is a number -/
def Bnd (c : Cl) : Prop := -1 ≤ c.2 ∧ c.2 < 4096
def Bnds (l : List Cl) : Prop := ∀ c ∈ l, Bnd c
structure CmOk (c : Cm) : Prop where
  tx : c.text.size ≤ 400
  rp : c.sub.rep.length ≤ 400
  i1 : c.a1.ex.l.length ≤ 400
  i2 : c.a2.ex.l.length ≤ 400
  i3 : c.sub.ex.l.length ≤ 400
  fr : c.frm.size ≤ 400
  toF : c.toF.size ≤ 400
  nm : c.name < 256
  nx : c.next ≤ 400
  ct : c.sub.count ≤ 9
  n1 : c.a1.line ≤ 9999
  n2 : c.a2.line ≤ 9999
  k1 : c.a1.kind ≤ 3
  k2 : c.a2.kind ≤ 3
  cn : c.cnt ≤ 2
structure WF (S : St) : Prop where
  nc : S.cs.length ≤ 400
  cm : ∀ c ∈ S.cs, CmOk c
  rg : S.rng.length = S.cs.length
  st : S.steps ≤ 5000
  rm : S.room ≤ 256
  tx : S.text.size ≤ 4096
  bh : S.behind ≤ S.text.size
  nl : Bnd (nlC S.nl)
  ou : S.out.length ≤ 4096
  pa : S.pat.length ≤ 256
  ho : S.hold.length ≤ 256
  li : S.line ≤ S.behind
  qu : S.queue.length + S.steps ≤ 5000
  qt : ∀ t ∈ S.queue, t.size ≤ 400
  oo : Bnds S.out
  op : Bnds S.pat
  oh : Bnds S.hold
  ak : S.asks ≤ 3
  nx : S.next ≤ 400
  de : S.death ≤ 6
theorem Origs.app {t : List UInt8} {a b : List Cl} (h : Origs t a) (k : Origs t b) : Origs t (a ++ b) := fun c hc => by
  rcases List.mem_append.1 hc with hc | hc
  · exact h c hc
  · exact k c hc
theorem Origs.nil (t : List UInt8) : Origs t [] := fun c hc => by cases hc
theorem Origs.join {t : List UInt8} {a b : List Cl} {c : Cl} (h : Origs t a) (hc : Orig t c) (k : Origs t b) : Origs t (joinC a c b) := by
  unfold joinC
  refine (h.app fun d hd => ?_).app k
  rw [List.mem_singleton] at hd; rw [hd]; exact hc
theorem Origs.part {t : List UInt8} {l : List Cl} (h : Origs t l) (i j : Nat) : Origs t (partC l i j) := fun c hc => h c (List.mem_of_mem_drop (List.mem_of_mem_take hc))
theorem Origs.fresh (t s : List UInt8) : Origs t (freshC s) := fun c hc => by
  obtain ⟨d, _, rfl⟩ := List.mem_map.1 hc
  exact .inl rfl
theorem orig_none (t : List UInt8) (b : UInt8) : Orig t (b, -1) := .inl rfl
theorem Bnds.app {a b : List Cl} (h : Bnds a) (k : Bnds b) : Bnds (a ++ b) := fun c hc => by
  rcases List.mem_append.1 hc with hc | hc
  · exact h c hc
  · exact k c hc
theorem Bnds.nil : Bnds [] := fun c hc => by cases hc
theorem Bnds.join {a b : List Cl} {c : Cl} (h : Bnds a) (hc : Bnd c) (k : Bnds b) : Bnds (joinC a c b) := by
  unfold joinC
  refine (h.app fun d hd => ?_).app k
  rw [List.mem_singleton] at hd; rw [hd]; exact hc
theorem Bnds.part {l : List Cl} (h : Bnds l) (i j : Nat) : Bnds (partC l i j) := fun c hc => h c (List.mem_of_mem_drop (List.mem_of_mem_take hc))
theorem Bnds.fresh (s : List UInt8) : Bnds (freshC s) := fun c hc => by
  obtain ⟨d, _, rfl⟩ := List.mem_map.1 hc
  exact ⟨Int.le_refl _, by show (-1 : Int) < 4096; decide⟩
theorem bnd_none (b : UInt8) : Bnd (b, -1) := ⟨Int.le_refl _, by show (-1 : Int) < 4096; decide⟩
namespace WF
theorem die {S : St} (h : WF S) (e : Nat) (he : e ≤ 6) : WF (S.die e) := by
  refine { h with de := ?_ }
  show (if S.death = 0 then e else S.death) ≤ 6
  split
  · exact he
  · exact h.de
theorem put {S : St} (h : WF S) (l : List Cl) (hl : Bnds l) : WF (S.put l) := by
  unfold St.put
  split
  · exact h
  split
  · exact h.die 6 (Nat.le_refl _)
  · refine { h with ou := ?_, oo := h.oo.app hl }
    show (S.out ++ l).length ≤ 4096
    have := h.ou
    rw [List.length_append]; omega
theorem putText {S : St} (h : WF S) (t : ByteArray) : WF (S.putText t) := h.put _ ((Bnds.fresh _).join (bnd_none _) Bnds.nil)
theorem putPat {S : St} (h : WF S) : WF S.putPat := h.put _ (h.op.join h.nl Bnds.nil)
theorem putUQ {S : St} (h : WF S) : WF S.putUQ := by unfold St.putUQ; split; exact h; exact h.putPat
theorem putFirst {S : St} (h : WF S) : WF S.putFirst := by unfold St.putFirst; split; exact h.putPat; exact h.put _ (h.op.part _ _)
theorem fold (l : List ByteArray) : ∀ {S : St}, WF S → WF (l.foldl St.putText S) := by
  induction l with
  | nil => intro S h; exact h
  | cons x l ih => intro S h; exact ih (h.putText x)
theorem putQueue {S : St} (h : WF S) : WF S.putQueue := by
  have h1 := fold S.queue h
  have k := St.fold_keep S.queue S
  refine { h1 with qu := ?_, qt := fun t ht => by cases ht }
  show 0 + (S.queue.foldl St.putText S).steps ≤ 5000
  rw [k.2.2.2.2.2.2.2.2.1]
  have := h.st
  omega
theorem endCycle {S : St} (h : WF S) : WF S.endCycle := { h.putQueue with nx := Nat.zero_le _, ak := by show 1 ≤ 3; omega }
theorem endEarly {S : St} (h : WF S) : WF S.endEarly := { h.putUQ.putQueue with }
theorem dropFirst {S : St} (h : WF S) : WF S.dropFirst := by
  unfold St.dropFirst
  split
  · exact h.endCycle
  · have h1 : WF { S with pat := partC S.pat (behNL S.pat) S.pat.length } := by
      refine { h with pa := ?_, op := h.op.part _ _ }
      show (partC S.pat _ _).length ≤ 256
      unfold partC
      rw [List.length_take, List.length_drop]
      have := h.pa
      omega
    exact { h1.putQueue with nx := Nat.zero_le _ }
theorem show' {S : St} (h : WF S) (c : Cm) (hc : CmOk c) (hq : S.queue.length + S.steps < 5000) : WF (S.show' c) := by
  unfold St.show'
  split
  · exact h.putPat
  split
  · exact h.putFirst
  split
  · exact h.putText _
  split
  · exact h.putText _
  · refine { h with qu := ?_, qt := fun t ht => ?_ }
    · show (S.queue ++ [c.text]).length + S.steps ≤ 5000
      rw [List.length_append]
      simp; omega
    · rcases List.mem_append.1 ht with ht | ht
      · exact h.qt t ht
      · rw [List.mem_singleton] at ht; rw [ht]; exact hc.tx
theorem fill (rep : List (Option UInt8)) {m : List Cl} (h : Bnds m) : Bnds (fillC rep m) := fun c hc => by
  unfold fillC at hc
  obtain ⟨p, _, hp⟩ := List.mem_flatMap.1 hc
  cases p with
  | none => exact h c hp
  | some b => rw [List.mem_singleton] at hp; rw [hp]; exact bnd_none _
theorem repl {l : List Cl} (s : Sbs) (h : Bnds l) : ∀ (ms : List (Nat × Nat)) (k b : Nat), Bnds (replC l s ms k b) := by
  intro ms
  induction ms with
  | nil => intro k b c hc; exact h c (List.mem_of_mem_drop hc)
  | cons m ms ih =>
    intro k b
    unfold replC
    split
    · exact ((h.part _ _).app (fill s.rep (h.part _ _))).app (ih _ _)
    · exact ih _ _
theorem subst {S : St} (h : WF S) (s : Sbs) : WF (S.subst s) := by
  unfold St.subst
  simp only
  split
  · exact h
  split
  · rename_i hf
    have h1 : WF { S with pat := replC S.pat s (mtsX s.ex (textC S.pat)) 1 0, mark := true } := by
      refine { h with pa := ?_, op := repl s h.op _ _ _ }
      show (replC S.pat s (mtsX s.ex (textC S.pat)) 1 0).length ≤ 256
      have h2 := of_decide_eq_true hf
      have := h.rm
      omega
    split
    · exact h1.putPat
    · exact h1
  · exact h.die 5 (by decide)
theorem exch {l : List Cl} (f g : List UInt8) (h : Bnds l) : Bnds (l.map (exchC f g)) := fun c hc => by
  obtain ⟨d, hd, rfl⟩ := List.mem_map.1 hc
  unfold exchC
  split
  · exact h d hd
  · split
    · exact h d hd
    · exact bnd_none _
theorem change {S : St} (h : WF S) (c : Cm) : WF (S.change c) := by
  unfold St.change
  simp only
  split
  · exact { h with ho := h.pa, oh := h.op }
  split
  · exact { h with pa := h.ho, op := h.oh }
  split
  · exact { h with pa := h.ho, op := h.oh, ho := h.pa, oh := h.op }
  split
  · split
    · rename_i hf
      have h2 := of_decide_eq_true hf
      have := h.rm
      exact { h with ho := Nat.le_trans h2 this, oh := h.oh.join (bnd_none _) h.op }
    · exact h.die 5 (by decide)
  split
  · split
    · rename_i hf
      have h2 := of_decide_eq_true hf
      have := h.rm
      exact { h with pa := Nat.le_trans h2 this, op := h.op.join (bnd_none _) h.oh }
    · exact h.die 5 (by decide)
  split
  · exact h.subst _
  · refine { h with pa := ?_, op := exch _ _ h.op }
    show (S.pat.map _).length ≤ 256
    rw [List.length_map]; exact h.pa
theorem lead {S : St} (h : WF S) (c : Cm) (hc : CmOk c) : WF (S.lead c) := by
  unfold St.lead
  split
  · exact h.endCycle
  split
  · exact h.dropFirst
  split
  · exact (h.putText _).endCycle
  split
  · exact { h with ak := by show 2 ≤ 3; omega }
  split
  · exact { h with ak := by show 3 ≤ 3; omega }
  split
  · exact h.endEarly
  split
  · exact { h with nx := hc.nx }
  split
  · exact { h with nx := hc.nx }
  · exact h
theorem does {S : St} (h : WF S) (c : Cm) (hc : CmOk c) (hq : S.queue.length + S.steps < 5000) : WF (S.does c) := by
  unfold St.does
  split
  · exact h.show' c hc hq
  split
  · exact h.change c
  split
  · exact h.lead c hc
  · exact h
theorem ranged {S : St} (h : WF S) (k : Nat) (c : Cm) : WF (S.ranged k c).2 ∧ (S.ranged k c).2.queue = S.queue ∧ (S.ranged k c).2.steps = S.steps ∧ (S.ranged k c).2.cs = S.cs := by
  unfold St.ranged
  split
  · refine ⟨{ h with rg := ?_ }, rfl, rfl, rfl⟩
    show (S.rng.set _ _).length = _
    rw [List.length_set]; exact h.rg
  · refine ⟨{ h with rg := ?_ }, rfl, rfl, rfl⟩
    show (S.rng.set _ _).length = _
    rw [List.length_set]; exact h.rg
theorem selects {S : St} (h : WF S) (k : Nat) (c : Cm) : WF (S.selects k c).2 ∧ (S.selects k c).2.queue = S.queue ∧ (S.selects k c).2.steps = S.steps ∧ (S.selects k c).2.cs = S.cs := by
  unfold St.selects
  split
  · exact ⟨h, rfl, rfl, rfl⟩
  split
  · exact ⟨h, rfl, rfl, rfl⟩
  · exact h.ranged k c
theorem reach {S : St} (h : WF S) : WF S.reach := by
  unfold St.reach
  cases hc : S.cs[S.next]? with
  | none => exact h.putUQ.endCycle
  | some c =>
    have hk := h.cm c (List.mem_of_getElem? hc)
    have hlt := (List.getElem?_eq_some_iff.1 hc).1
    simp only
    split
    · exact h.die 4 (by decide)
    · rename_i h0
      have h1 : WF { S with steps := S.steps - 1, next := S.next + 1 } := by
        refine { h with st := ?_, nx := ?_, qu := ?_ }
        · show S.steps - 1 ≤ 5000; have := h.st; omega
        · show S.queue.length + (S.steps - 1) ≤ 5000; have := h.qu; omega
        · show S.next + 1 ≤ 400; have := h.nc; omega
      obtain ⟨h2, h3, h4, h5⟩ := h1.selects S.next c
      split
      · refine h2.does c hk ?_
        rw [h3, h4]
        show S.queue.length + (S.steps - 1) < 5000
        have := h.qu; omega
      split
      · exact { h2 with nx := hk.nx }
      · exact h2
theorem lineC {S : St} (h : WF S) : Bnds S.lineC := fun c hc => by
  unfold St.lineC at hc
  obtain ⟨p, hp, rfl⟩ := List.mem_map.1 hc
  obtain ⟨b, i⟩ := p
  obtain ⟨h1, h2, h3⟩ := List.mem_zipIdx hp
  rw [List.length_take, List.length_drop] at h2
  have e : S.text.data.toList.length = S.text.size := Array.length_toList
  have := h.tx
  show -1 ≤ ((i : Nat) : Int) ∧ ((i : Nat) : Int) < 4096
  omega
theorem takeWhile_stop {α : Type} (p : α → Bool) : ∀ (l : List α) (h : (l.takeWhile p).length < l.length), p (l[(l.takeWhile p).length]) = false := by
  intro l
  induction l with
  | nil => intro h; simp at h
  | cons x l ih =>
    intro h
    cases hp : p x
    · simp [hp]
    · have e : (x :: l).takeWhile p = x :: l.takeWhile p := by rw [List.takeWhile_cons, hp]; rfl
      have h' : (l.takeWhile p).length < l.length := by rw [e] at h; simpa using h
      have := ih h'
      simp only [e, List.length_cons, List.getElem_cons_succ]
      exact this
theorem lend_nl (S : St) (h : S.lend < S.text.size) : S.text.data.toList[S.lend]'(by rw [Array.length_toList]; exact h) = 10 := by
  have hl : ((S.text.data.toList.drop S.behind).takeWhile (fun c => c.toNat != 10)).length < (S.text.data.toList.drop S.behind).length := by
    have e0 : S.text.data.toList.length = S.text.size := Array.length_toList
    rw [List.length_drop, e0]
    unfold St.lend at h
    omega
  have := takeWhile_stop _ _ hl
  rw [List.getElem_drop] at this
  have e : (S.text.data.toList[S.lend]'(by rw [Array.length_toList]; exact h)).toNat = 10 := by
    have h9 : ∀ k (hk : k < S.text.data.toList.length), k = S.lend → (S.text.data.toList[k].toNat != 10) = false → (S.text.data.toList[S.lend]'(by rw [Array.length_toList]; exact h)).toNat = 10 := fun k hk e h => by
      subst e
      simpa using h
    exact h9 _ _ rfl this
  exact UInt8.toNat_inj.1 e
theorem took {S : St} (h : WF S) : Bnd (nlC S.took.nl) ∧ S.took.behind ≤ S.text.size ∧ (S.behind < S.text.size → S.line + 1 ≤ S.took.behind) := by
  have hl := St.lend_le S h.bh
  have hli := h.li
  have htx := h.tx
  unfold St.took
  split
  · rename_i hlt
    refine ⟨?_, by show S.lend + 1 ≤ _; omega, fun hr => by show S.line + 1 ≤ S.lend + 1; omega⟩
    show -1 ≤ ((S.lend : Nat) : Int) ∧ ((S.lend : Nat) : Int) < 4096
    omega
  · rename_i hge
    exact ⟨bnd_none _, by show S.lend ≤ _; omega, fun hr => by show S.line + 1 ≤ S.lend; omega⟩
theorem takePre {S : St} (h : WF S) : WF S.takePre := by
  unfold St.takePre
  have h0 : WF { S with asks := 0 } := { h with ak := Nat.zero_le _ }
  split
  · exact h0.putUQ.putQueue
  · exact h0.putQueue
theorem take {S : St} (h : WF S) (hr : S.behind < S.text.size) : WF S.take := by
  rw [St.take_eq]
  have h1 := h.takePre
  have hs : St.Same S S.takePre := by
    unfold St.takePre
    have h0 : St.Same S { S with asks := 0 } := ⟨rfl, rfl, rfl, rfl, rfl, rfl, rfl, rfl⟩
    exact St.Same.trans (.ite (fun _ => h0.trans (St.same_putUQ _)) (fun _ => h0)) (St.same_putQueue _)
  obtain ⟨t1, t2, t3⟩ := h.took
  have h2 : WF { S.takePre with nl := S.took.nl, behind := S.took.behind, line := S.line + 1, mark := false } := by
    refine { h1 with nl := t1, bh := ?_, li := t3 hr }
    show S.took.behind ≤ S.takePre.text.size; rw [hs.text]; exact t2
  split
  · rename_i hf
    refine { h2 with pa := Nat.le_trans (of_decide_eq_true hf) h.rm, op := ?_ }
    show Bnds S.takeLine
    unfold St.takeLine
    split
    · exact h.op.join h.nl h.lineC
    · exact h.lineC
  · exact h2.die 5 (by decide)
theorem doWithout {S : St} (h : WF S) : WF S.doWithout := by
  unfold St.doWithout
  split
  · exact { h with }
  · exact h.endEarly
theorem move {S : St} (h : WF S) : WF S.move := by
  unfold St.move
  split
  · exact h.reach
  split
  · exact h
  split
  · exact h.doWithout
  · rename_i h1 h2 h3
    refine h.take ?_
    unfold St.ask at h2 h3
    by_cases hb : S.text.size ≤ S.behind
    · split at h3
      · rw [if_pos ‹_›] at h2; exact absurd rfl h2
      · exact absurd rfl h3
    · omega
theorem goes {S T : St} (hg : Goes S T) : WF S → WF T := by
  induction hg with
  | stop _ => exact id
  | step _ _ ih => exact fun h => ih h.move
/-- over a longer input -/
theorem ext {S : St} (h : WF S) (u : ByteArray) (c : Bool) (hu : (S.text ++ u).size ≤ 4096) : WF (S.ext (S.text ++ u) c) := by
  have hs : (S.text ++ u).size = S.text.size + u.size := by simp
  refine { h with tx := hu, bh := ?_ }
  show S.behind ≤ (S.text ++ u).size
  have := h.bh
  omega
end WF
end M
end Go.Proofs.YtlppphmnegdhoabGreatDoor

namespace Go.Proofs.YtlppphmnegdhoabGreatDoor
set_option linter.unusedVariables false
open M

namespace M
def zEx : Ex := ⟨false, false, []⟩
def zAdr : Adr := ⟨0, 0, zEx⟩
def zSub : Sbs := ⟨zEx, [], 0, false, false⟩
/-- the number that digits are -/
def digV (n : Nat) (t : List UInt8) : Nat := t.foldl (fun n c => 10 * n + (c.toNat - 48)) n
def betX : Option (List Mk × List UInt8) → Option (Ex × List UInt8)
  | none => none
  | some p => (expM p.1).map (fun x => (x, p.2))
/-- a command's addresses -/
structure Ads where
  cnt : Nat
  a1 : Adr
  a2 : Adr
  no : Bool
def zAds : Ads := ⟨0, zAdr, zAdr, false⟩
/-- a replacement's pieces -/
def pcM (q : Mk) : Option UInt8 := if q.is 38 then none else some (UInt8.ofNat q.b)
def repM (m : List Mk) : List (Option UInt8) := m.map pcM
def ofB (l : List UInt8) : ByteArray := ⟨l.toArray⟩
def brB (m : List Mk) : List UInt8 := m.map (fun q => UInt8.ofNat q.b)
end M
def numV (t : List UInt8) : Nat := digV 0 (t.take (numL t))
def addrV (t : List UInt8) : Option (Adr × List UInt8) :=
  if stB t 36 then some (⟨2, 0, zEx⟩, t.drop 1) else if stB t 47 then (betX (uptoM (t.drop 1))).map (fun p => (⟨3, 0, p.1⟩, p.2)) else if 0 < numL t then some (⟨1, numV t, zEx⟩, t.drop (numL t)) else none
def secV (A : Adr) (t : List UInt8) : Ads × List UInt8 := if stB t 44 then (match addrV (t.drop 1) with | none => (⟨1, A, zAdr, false⟩, t) | some p => (⟨2, A, p.1, false⟩, p.2)) else (⟨1, A, zAdr, false⟩, t)
def excV (p : Ads × List UInt8) : Ads × List UInt8 := if stB p.2 33 then (⟨p.1.cnt, p.1.a1, p.1.a2, true⟩, p.2.drop 1) else p
def behV (t : List UInt8) : Ads × List UInt8 := match addrV t with
  | none => (zAds, t)
  | some p => excV (secV p.1 p.2)
def flC (t : List UInt8) : Nat := if 0 < digI t then (digI t).toNat else 1
def flA (t : List UInt8) : Bool := stB (optB posB t) 103
def flP (t : List UInt8) : Bool := stB (optB (· == 103) (optB posB t)) 112
def subV (t : List UInt8) : Sbs := match uptoM (t.drop 1) with
  | none => zSub
  | some p => match uptoM p.2 with
    | none => zSub
    | some q => ⟨(expM p.1).getD zEx, repM q.1, flC q.2, flA q.2, flP q.2⟩
def exchV (t : List UInt8) : List Mk × List Mk := match uptoM (t.drop 1) with
  | none => ([], [])
  | some p => match uptoM p.2 with
    | none => ([], [])
    | some q => (p.1, q.1)
/-- what stands behind the name, in its places -/
def fillV (A : Ads) (nm : Nat) (t : List UInt8) : Cm :=
  ⟨A.cnt, A.a1, A.a2, A.no, nm, (if labelled nm then labB t else 0), 0, (if nm = 97 ∨ nm = 105 ∨ nm = 99 then ofB t else ⟨#[]⟩), (if nm = 115 then subV t else zSub),
    (if nm = 121 then ofB (brB (exchV t).1) else ⟨#[]⟩), (if nm = 121 then ofB (brB (exchV t).2) else ⟨#[]⟩)⟩
def namV (A : Ads) : List UInt8 → Option Cm
  | [] => none
  | c :: r => if askedM A.cnt c.toNat r then some (fillV A c.toNat r) else none
/-- a command -/
def cmdV (t : List UInt8) : Option Cm := namV (behV t).1 (behV t).2
def toV (L : List Cm) : List (Nat × Nat) := L.map (fun c => (c.name, c.label))
end Go.Proofs.YtlppphmnegdhoabGreatDoor

