/-
  The program's items: 257 Booleans in a box; add, turn.
-/
import Derived.Test.YtlppphmnegdhoaaGp1
import Derived.Deep.MidRow
import Derived.Deep.WholeRow
namespace Go.Proofs.Ytlppphmnegdhoaa
set_option linter.unusedVariables false
set_option maxRecDepth 100000
open Go.RowKit
open M

/-- a box of Booleans that may be written into -/
structure BR (w : World) (g n : Nat) (f : Nat → Bool) : Prop where
  lt : g < w.heap.size
  c : ∀ i, i < n → w.cell? ⟨g, i, none⟩ = some (.bool (f i))
  fz : ∀ i, i < n → w.frozen? ⟨g, i, none⟩ = false
theorem BR.keep {w w' : World} {g n : Nat} {f : Nat → Bool} (h : BR w g n f) (hk : w'.heap[g]? = w.heap[g]?) (hs : w.heap.size ≤ w'.heap.size) : BR w' g n f :=
  ⟨by have := h.lt; omega, fun i hi => (World.cell?_of_block hk).trans (h.c i hi), fun i hi => (World.frozen?_of_block hk).trans (h.fz i hi)⟩
theorem BR.below {w w' : World} {g n B : Nat} {f : Nat → Bool} (h : BR w g n f) (hb : Below B w w') (hg : g < B) : BR w' g n f := h.keep (hb.block g hg) hb.size
theorem BR.congr {w : World} {g n : Nat} {f f' : Nat → Bool} (h : BR w g n f) (e : ∀ i, i < n → f i = f' i) : BR w g n f' :=
  ⟨h.lt, fun i hi => by rw [← e i hi]; exact h.c i hi, h.fz⟩
theorem BR.set {w : World} {g n : Nat} {f : Nat → Bool} (h : BR w g n f) (q : Nat) (hq : q < n) (b : Bool) : BR (w.setCell ⟨g, q, none⟩ (.bool b)) g n (fun i => if i = q then b else f i) := by
  refine ⟨by simpa using h.lt, fun i hi => ?_, fun i hi => by simpa using h.fz i hi⟩
  by_cases hqi : i = q
  · subst hqi
    rw [if_pos rfl]
    exact World.cell?_setCell_same' _ _ _ (by rw [h.c i hi]; rfl)
  · rw [if_neg hqi]
    rw [World.cell?_setCell_other _ _ _ _ (fun e => hqi (congrArg Addr.off e).symm)]
    exact h.c i hi
theorem BR.drew {w : World} {g n : Nat} {f : Nat → Bool} (h : BR w g n f) : BR w.drew g n f := h.keep rfl (Nat.le_refl _)
/-- all but one block is as it was -/
structure Only (b : Nat) (w w' : World) : Prop where
  os : w'.os = w.os
  tape : w'.tape = w.tape
  output : w'.output = w.output
  size : w'.heap.size = w.heap.size
  block : ∀ k, k ≠ b → w'.heap[k]? = w.heap[k]?
theorem Only.refl (b : Nat) (w : World) : Only b w w := ⟨rfl, rfl, rfl, rfl, fun _ _ => rfl⟩
theorem Only.trans {b : Nat} {w1 w2 w3 : World} (h : Only b w1 w2) (g : Only b w2 w3) : Only b w1 w3 := ⟨g.os.trans h.os, g.tape.trans h.tape, g.output.trans h.output, g.size.trans h.size, fun k hk => (g.block k hk).trans (h.block k hk)⟩
theorem Only.below {b B : Nat} {w w' : World} (h : Only b w w') (hB : B ≤ b) : Below B w w' := ⟨h.os, h.tape, h.output, by rw [h.size]; exact Nat.le_refl _, fun k hk => h.block k (by omega)⟩
theorem Only.set (b o : Nat) (u : Value) (w : World) : Only b w (w.setCell ⟨b, o, none⟩ u) := ⟨rfl, rfl, rfl, by simp, fun k hk => heap_setCell_other w _ k u hk⟩
theorem Only.drew {b : Nat} {w w' : World} (h : Only b w w') : Only b w w'.drew := ⟨h.os, h.tape, h.output, h.size, h.block⟩

def addF (lo hi : Nat) (f : Nat → Bool) : Nat → Bool := fun i => if lo ≤ i ∧ i ≤ hi then true else f i
set_option maxRecDepth 100000 in
set_option maxHeartbeats 1000000 in
theorem itadd_calls (b lo hi : Nat) (f : Nat → Bool) (w : World) (h : BR w b 257 f) (hlo : lo < 256) (hhi : hi < 256) :
    Calls Try.prog 113 #[.pointer (some ⟨b, 0, none⟩), .int .u8 lo, .int .u8 hi] w fun e w' => e = .returned (.tuple #[]) ∧ BR w' b 257 (addF lo hi f) ∧ Only b w w' := by
  go_enter Try.func113, Try.ntmps113
  go_wp2
  go_loopw [6] (fun i' wr => ∃ i : Nat, lo ≤ i ∧ i ≤ 256 ∧ (i ≤ hi + 1 ∨ i = lo) ∧ i' = .int .i64 i ∧ Hid (BR wr b 257 (fun q => if lo ≤ q ∧ q < i then true else f q) ∧ Only b w wr)) (fun i' _ => 256 - (intOf i').toNat)
  case atStart => exact ⟨lo, Nat.le_refl _, by omega, .inr rfl, rfl, h.congr (fun i _ => by rw [if_neg (by omega)]), Only.refl _ _⟩
  case round =>
    obtain ⟨i, h1, h2, h3, rfl, HB⟩ := hrel
    by_cases hlt : i ≤ hi
    · have hlt1 : (i : Int) ≤ (hi : Int) := by omega
      have hlt2 : (i : Int) < 256 := by omega
      have hc := HB.out.1.c i (by omega)
      have hf := HB.out.1.fz i (by omega)
      go_wp2
      go_round
      case rel => exact ⟨i + 1, by omega, by omega, .inl (by omega), by go_num, (HB.out.1.set i (by omega) true).congr (fun q _ => by
        by_cases e : q = i
        · rw [if_pos e, if_pos (by omega)]
        · rw [if_neg e]
          by_cases e2 : lo ≤ q ∧ q < i
          · rw [if_pos e2, if_pos (by omega)]
          · rw [if_neg e2, if_neg (by omega)]), HB.out.2.trans (Only.set _ _ _ _)⟩
      case measure => simp [intOf]; omega
    · have hlt1 : ¬ (i : Int) ≤ (hi : Int) := by omega
      go_wp2
      go_end0
      refine ⟨rfl, HB.out.1.congr (fun q _ => ?_), HB.out.2⟩
      unfold addF
      by_cases e2 : lo ≤ q ∧ q < i
      · rw [if_pos e2, if_pos (by omega)]
      · rw [if_neg e2, if_neg (by omega)]

def turnF (f : Nat → Bool) : Nat → Bool := fun i => if i < 256 then !f i else f i
set_option maxRecDepth 100000 in
set_option maxHeartbeats 1000000 in
theorem turn_calls (b : Nat) (f : Nat → Bool) (w : World) (h : BR w b 257 f) :
    Calls Try.prog 108 #[.pointer (some ⟨b, 0, none⟩)] w fun e w' => e = .returned (.tuple #[]) ∧ BR w' b 257 (turnF f) ∧ Only b w w' := by
  go_enter Try.func108, Try.ntmps108
  go_wp2
  go_loopw [3] (fun i' wr => ∃ i : Nat, i ≤ 256 ∧ i' = .int .i64 i ∧ Hid (BR wr b 257 (fun q => if q < i then !f q else f q) ∧ Only b w wr)) (fun i' _ => 256 - (intOf i').toNat)
  case atStart => exact ⟨0, by omega, rfl, h.congr (fun i _ => by rw [if_neg (by omega)]), Only.refl _ _⟩
  case round =>
    obtain ⟨i, h2, rfl, HB⟩ := hrel
    by_cases hlt : i < 256
    · have hlt2 : (i : Int) < 256 := by omega
      have hc := HB.out.1.c i (by omega)
      have hf := HB.out.1.fz i (by omega)
      rw [if_neg (Nat.lt_irrefl _)] at hc
      go_wp2_with fail
      go_region
      go_wp2
      go_round
      case rel => exact ⟨i + 1, by omega, by go_num, (HB.out.1.drew.set i (by omega) (!f i)).congr (fun q _ => by
        by_cases e : q = i
        · rw [if_pos e, if_pos (by omega), e]
        · rw [if_neg e]
          by_cases e2 : q < i
          · rw [if_pos e2, if_pos (by omega)]
          · rw [if_neg e2, if_neg (by omega)]), HB.out.2.drew.trans (Only.set _ _ _ _)⟩
      case measure => simp [intOf]; omega
    · obtain rfl : i = 256 := by omega
      go_wp2
      go_end0
      exact ⟨rfl, HB.out.1, HB.out.2⟩
end Go.Proofs.Ytlppphmnegdhoaa
