/-
  The program's matches: layOne.
-/
import Derived.Test.YtlppphmnegdhoaaGm0
import Derived.Test.YtlppphmnegdhoaaGp8
namespace Go.Proofs.Ytlppphmnegdhoaa
set_option linter.unusedVariables false
set_option maxRecDepth 100000
open Go.RowKit
open M

/-- a row of numbers that may be written into -/
structure IR (w : World) (g n : Nat) (e : Nat → Int) : Prop where
  lt : g < w.heap.size
  c : ∀ i, i < n → w.cell? ⟨g, i, none⟩ = some (.int .i64 (e i))
  fz : ∀ i, i < n → w.frozen? ⟨g, i, none⟩ = false
theorem IR.keep {w w' : World} {g n : Nat} {e : Nat → Int} (h : IR w g n e) (hk : w'.heap[g]? = w.heap[g]?) (hs : w.heap.size ≤ w'.heap.size) : IR w' g n e :=
  ⟨by have := h.lt; omega, fun i hi => (World.cell?_of_block hk).trans (h.c i hi), fun i hi => (World.frozen?_of_block hk).trans (h.fz i hi)⟩
theorem IR.congr {w : World} {g n : Nat} {e e' : Nat → Int} (h : IR w g n e) (he : ∀ i, i < n → e i = e' i) : IR w g n e' :=
  ⟨h.lt, fun i hi => by rw [← he i hi]; exact h.c i hi, h.fz⟩
theorem IR.set {w : World} {g n : Nat} {e : Nat → Int} (h : IR w g n e) (q : Nat) (hq : q < n) (b : Int) : IR (w.setCell ⟨g, q, none⟩ (.int .i64 b)) g n (fun i => if i = q then b else e i) := by
  refine ⟨by simpa using h.lt, fun i hi => ?_, fun i hi => by simpa using h.fz i hi⟩
  by_cases hqi : i = q
  · subst hqi
    rw [if_pos rfl]
    exact World.cell?_setCell_same' _ _ _ (by rw [h.c i hi]; rfl)
  · rw [if_neg hqi]
    rw [World.cell?_setCell_other _ _ _ _ (fun e => hqi (congrArg Addr.off e).symm)]
    exact h.c i hi
theorem IR.drew {w : World} {g n : Nat} {e : Nat → Int} (h : IR w g n e) : IR w.drew g n e := h.keep rfl (Nat.le_refl _)
/-- all old blocks but one are as they were -/
structure Apart (g : Nat) (w w' : World) : Prop where
  os : w'.os = w.os
  tape : w'.tape = w.tape
  output : w'.output = w.output
  size : w.heap.size ≤ w'.heap.size
  block : ∀ k, k < w.heap.size → k ≠ g → w'.heap[k]? = w.heap[k]?
theorem Apart.refl (g : Nat) (w : World) : Apart g w w := ⟨rfl, rfl, rfl, Nat.le_refl _, fun _ _ _ => rfl⟩
theorem Apart.trans {g : Nat} {a b c : World} (h : Apart g a b) (k : Apart g b c) : Apart g a c :=
  ⟨k.os.trans h.os, k.tape.trans h.tape, k.output.trans h.output, Nat.le_trans h.size k.size, fun i hi hg => (k.block i (Nat.lt_of_lt_of_le hi h.size) hg).trans (h.block i hi hg)⟩
theorem Apart.of_below {g : Nat} {w w' : World} (h : Below w.heap.size w w') : Apart g w w' := ⟨h.os, h.tape, h.output, h.size, fun k hk _ => h.block k hk⟩
theorem Apart.of_only {g : Nat} {w w' : World} (h : Only g w w') : Apart g w w' := ⟨h.os, h.tape, h.output, by rw [h.size]; exact Nat.le_refl _, fun k _ hk => h.block k hk⟩
theorem Apart.below {g B : Nat} {w w' : World} (h : Apart g w w') (hB : B ≤ g) (hw : B ≤ w.heap.size) : Below B w w' := ⟨h.os, h.tape, h.output, h.size, fun k hk => h.block k (by omega) (by omega)⟩
/-- the box of matches -/
structure MB (w : World) (b : Nat) (s : ByteArray) (v : Value) : Prop where
  lt : b < w.heap.size
  c0 : w.cell? ⟨b, 0, none⟩ = some (.string s)
  c1 : w.cell? ⟨b, 1, none⟩ = some v
theorem MB.keep {w w' : World} {b : Nat} {s : ByteArray} {v : Value} (h : MB w b s v) (hk : w'.heap[b]? = w.heap[b]?) (hs : w.heap.size ≤ w'.heap.size) : MB w' b s v :=
  ⟨by have := h.lt; omega, (World.cell?_of_block hk).trans h.c0, (World.cell?_of_block hk).trans h.c1⟩
/-- an item into a box of its own -/
theorem it_box {ops : Array Oper} {rest : List Oper} {op : Oper} {a : Act} {w : World} {Q : Exit → Act → World → Prop} (hgd : op.guard = none) (x : Operand) (ho : op.op = .box 119 x) (f : Nat → Bool) (hx : a.eval x = itV f)
    (h : ∀ w', BR w' w.heap.size 257 f → Below w.heap.size w w' → w'.heap.size = w.heap.size + 1 → wpList Try.prog ops Q rest (a.put op.dst (.pointer (some ⟨w.heap.size, 0, none⟩))) w') : wpList Try.prog ops Q (op :: rest) a w := by
  have hw := h (w.alloc (.cells (bC 257 f).toArray 119)) ?_ ((Below.refl _ _).alloc (Nat.le_refl _) _) (by simp)
  · refine wpList_plain hgd fun _ hK => ?_
    unfold Oper.wp execOp
    have hc : (itV f).cells = (bC 257 f).toArray := rfl
    have hr : (Instr.box 119 (itV f)).run Try.prog w = .ok (.pointer (some ⟨w.heap.size, 0, none⟩)) (w.alloc (.cells (bC 257 f).toArray 119)) := by
      simp [Instr.box, newVar, newRow, hc]
    simp only [ho, hx, Sem.run_bind, hr, Result.andThen_ok]
    exact hK _ _ hw
  · refine ⟨by simp, fun i hi => ?_, fun i hi => by simp [go_sem]⟩
    rw [cell_of_row _ _ _ _ _ _ (heap_alloc_new w _)]
    have := bC_get 257 f i hi
    simpa using this

def oneE (f : Nat → Bool) (s : List UInt8) (e : Nat → Int) (p : Nat) : Int := if h : p < s.length then (if f s[p].toNat then e (p + 1) else -1) else -1
set_option maxRecDepth 100000 in
set_option maxHeartbeats 4000000 in
theorem layOne_calls (b g c : Nat) (s : ByteArray) (f : Nat → Bool) (e : Nat → Int) (w : World) (hs : s.size ≤ 256) (hb : MB w b s (.slice (some ⟨g, 0, none⟩) (s.size + 1) c)) (hr : IR w g (s.size + 1) e) (hbg : b ≠ g) :
    Calls Try.prog 111 #[.pointer (some ⟨b, 0, none⟩), itV f] w fun x w' => x = .returned (.tuple #[]) ∧ IR w' g (s.size + 1) (oneE f s.data.toList e) ∧ Apart g w w' := by
  have hl := ba_len s
  go_enter Try.func111, Try.ntmps111
  go_wp2_with (refine it_box rfl _ rfl f rfl ?_; intro w1 hb1 B1 hs1)
  have hgl := hr.lt
  have hbl := hb.lt
  obtain ⟨gi, hgi⟩ : ∃ gi, w.heap.size = gi := ⟨_, rfl⟩
  have HA0 : Hid (MB w1 b s (.slice (some ⟨g, 0, none⟩) (s.size + 1) c) ∧ IR w1 g (s.size + 1) e ∧ BR w1 gi 257 f ∧ Apart g w w1) :=
    ⟨hb.keep (B1.block _ hbl) (by omega), hr.keep (B1.block _ hgl) (by omega), by rw [← hgi]; exact hb1, Apart.of_below B1⟩
  rw [hgi] at hgl hbl
  clear hb hr hb1 B1 hs1
  go_loopw [4] (fun v4 wr => ∃ p : Nat, p ≤ s.size ∧ v4 = .int .i64 p ∧ Hid (MB wr b s (.slice (some ⟨g, 0, none⟩) (s.size + 1) c) ∧ IR wr g (s.size + 1) (fun q => if q < p then oneE f s.data.toList e q else e q) ∧ BR wr gi 257 f ∧ Apart g w wr)) (fun v4 _ => s.size - (intOf v4).toNat)
  case atStart => exact ⟨0, Nat.zero_le _, rfl, HA0.out.1, HA0.out.2.1.congr (fun i _ => by rw [if_neg (by omega)]), HA0.out.2.2⟩
  case round =>
    clear HA0
    obtain ⟨p, hps, rfl, HB⟩ := hrel
    obtain ⟨y0, y1⟩ := HB.out.1
    have z0 := HB.out.2.1.c p (by omega)
    have z1 := HB.out.2.1.fz p (by omega)
    rw [if_neg (Nat.lt_irrefl _)] at z0
    by_cases hlt : p < s.size
    · have hlt1 : (p : Int) < (s.size : Int) := by omega
      have hlt2 : (p : Int) < (s.size : Int) + 1 := by omega
      have hlt3 : (p : Int) + 1 < (s.size : Int) + 1 := by omega
      have z2 := HB.out.2.1.c (p + 1) (by omega)
      rw [if_neg (by omega)] at z2
      obtain ⟨x, hx⟩ : ∃ x : Nat, s[p].toNat = x := ⟨_, rfl⟩
      have hxc : x < 256 := by rw [← hx]; exact s[p].toNat_lt
      have hxc1 : (x : Int) < 256 := by omega
      have z3 := HB.out.2.2.1.c x (by omega)
      have hP : p < s.data.toList.length := by omega
      have HX : Hid (oneE f s.data.toList e p = if f x then e (p + 1) else -1) := by
        show _ = _
        unfold oneE
        rw [dif_pos hP, ← hx]; rfl
      cases hf : f x
      · rw [hf] at z3
        have HX2 : Hid (oneE f s.data.toList e p = -1) := by show _ = _; rw [HX.out, hf]; rfl
        clear HX hf
        go_wp2
        go_roundw
        case rel =>
          refine ⟨p + 1, by omega, by go_num, HB.out.1.keep (heap_setCell_other _ _ _ _ hbg) (by simp), (HB.out.2.1.set p (by omega) (-1)).congr (fun i _ => ?_), HB.out.2.2.1.keep (heap_setCell_other _ _ _ _ (by simp; omega)) (by simp), HB.out.2.2.2.trans (Apart.of_only (Only.set _ _ _ _))⟩
          by_cases e1 : i = p
          · rw [if_pos e1, if_pos (by omega), e1]; exact HX2.out.symm
          · rw [if_neg e1]
            by_cases e2 : i < p
            · rw [if_pos e2, if_pos (by omega)]
            · rw [if_neg e2, if_neg (by omega)]
        case measure => simp [intOf]; omega
      · rw [hf] at z3
        have HX2 : Hid (oneE f s.data.toList e p = e (p + 1)) := by show _ = _; rw [HX.out, hf]; rfl
        clear HX hf
        go_wp2_with fail
        go_region
        go_wp2
        go_roundw
        case rel =>
          refine ⟨p + 1, by omega, by go_num, HB.out.1.keep (heap_setCell_other _ _ _ _ hbg) (by simp), (HB.out.2.1.drew.set p (by omega) (e (p + 1))).congr (fun i _ => ?_), HB.out.2.2.1.keep (heap_setCell_other _ _ _ _ (by simp; omega)) (by simp), HB.out.2.2.2.trans (Apart.of_only ((Only.refl g wr).drew.trans (Only.set _ _ _ _)))⟩
          by_cases e1 : i = p
          · rw [if_pos e1, if_pos (by omega), e1]; exact HX2.out.symm
          · rw [if_neg e1]
            by_cases e2 : i < p
            · rw [if_pos e2, if_pos (by omega)]
            · rw [if_neg e2, if_neg (by omega)]
        case measure => simp [intOf]; omega
    · obtain rfl : p = s.size := by omega
      have hlt2 : (s.size : Int) < (s.size : Int) + 1 := by omega
      go_wp2_with fail
      go_region
      go_wp2
      go_end0
      refine ⟨rfl, (HB.out.2.1.drew.set s.size (by omega) (-1)).congr (fun i hi => ?_), HB.out.2.2.2.trans (Apart.of_only ((Only.refl g wr).drew.trans (Only.set _ _ _ _)))⟩
      by_cases e1 : i = s.size
      · rw [if_pos e1, e1]
        unfold oneE
        rw [dif_neg (by omega)]
      · rw [if_neg e1, if_pos (by omega)]
end Go.Proofs.Ytlppphmnegdhoaa
