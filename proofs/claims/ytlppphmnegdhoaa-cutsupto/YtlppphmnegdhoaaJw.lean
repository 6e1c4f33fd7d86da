/-
  The program's walks through a list that may stop within a record: left, piece, pass, lesser.
-/
import Derived.Test.YtlppphmnegdhoaaReadD
import Derived.Test.YtlppphmnegdhoaaDoc2
import Derived.Test.YtlppphmnegdhoaaPl0
import Derived.BigQuiet
namespace Go.Proofs.Ytlppphmnegdhoaa
set_option linter.unusedVariables false
open Go.RowKit
open M

/-- a walk through a list, in memory -/
structure WkAt (b : Nat) (w : World) (v : Value) (i p : Nat) : Prop where
  c0 : w.cell? ⟨b, 0, none⟩ = some v
  c1 : w.cell? ⟨b, 1, none⟩ = some (.int .i64 i)
  c2 : w.cell? ⟨b, 2, none⟩ = some (.int .i64 p)
  f1 : w.frozen? ⟨b, 1, none⟩ = false
  f2 : w.frozen? ⟨b, 2, none⟩ = false
  lt : b < w.heap.size
theorem WkAt.keepB {b : Nat} {w w' : World} {v : Value} {i p : Nat} (h : WkAt b w v i p) (hk : w'.heap[b]? = w.heap[b]?) (hs : w.heap.size ≤ w'.heap.size) : WkAt b w' v i p := by
  have hc : ∀ o, w'.cell? ⟨b, o, none⟩ = w.cell? ⟨b, o, none⟩ := fun o => World.cell?_of_block hk
  have hf : ∀ o, w'.frozen? ⟨b, o, none⟩ = w.frozen? ⟨b, o, none⟩ := fun o => World.frozen?_of_block hk
  exact ⟨(hc _).trans h.c0, (hc _).trans h.c1, (hc _).trans h.c2, (hf _).trans h.f1, (hf _).trans h.f2, by have := h.lt; omega⟩
theorem WkAt.keep {b B : Nat} {w w' : World} {v : Value} {i p : Nat} (h : WkAt b w v i p) (hb : Below B w w') (hB : b < B) : WkAt b w' v i p := h.keepB (hb.block b hB) hb.size
theorem WkAt.keepG {b a : Nat} {w w' : World} {v : Value} {i p : Nat} (h : WkAt b w v i p) (hg : w.grownBy w' (some a)) (hB : b ≠ a) : WkAt b w' v i p := h.keepB (hg.block b h.lt (by simpa using hB)) hg.size
theorem WkAt.set2 {b : Nat} {w : World} {v : Value} {i p : Nat} (h : WkAt b w v i p) (q : Nat) : WkAt b (w.setCell ⟨b, 2, none⟩ (.int .i64 q)) v i q := by
  obtain ⟨c0, c1, c2, f1, f2, lt⟩ := h
  refine ⟨?_, ?_, ?_, ?_, ?_, by simpa using lt⟩
  all_goals first | (simp [go_sem, *]; done) | (rw [World.cell?_setCell_other (by simp)]; assumption) | exact World.cell?_setCell_same c2
theorem WkAt.set1 {b : Nat} {w : World} {v : Value} {i p : Nat} (h : WkAt b w v i p) (q : Nat) : WkAt b (w.setCell ⟨b, 1, none⟩ (.int .i64 q)) v q p := by
  obtain ⟨c0, c1, c2, f1, f2, lt⟩ := h
  refine ⟨?_, ?_, ?_, ?_, ?_, by simpa using lt⟩
  all_goals first | (simp [go_sem, *]; done) | (rw [World.cell?_setCell_other (by simp)]; assumption) | exact World.cell?_setCell_same c1
theorem grown_set (w : World) (b o : Nat) (u : Value) : w.grownBy (w.setCell ⟨b, o, none⟩ u) (some b) := by
  have hb : Below 0 w (w.setCell ⟨b, o, none⟩ u) := (Below.refl 0 w).setCell (Nat.zero_le _) u
  exact ⟨hb.os, hb.tape, hb.output, hb.size, fun k hk hne => heap_setCell_other w _ k u (by simpa using hne)⟩
theorem grown_drewN {a w : World} {row : Option Nat} (h : a.grownBy w row) (n : Nat) : a.grownBy (w.drewN n) row := by
  have hb := below_drewN (Below.refl w.heap.size w) n
  exact ⟨hb.os.trans h.os, hb.tape.trans h.tape, hb.output.trans h.output, Nat.le_trans h.size hb.size, fun k hk hne => (hb.block k (by have := h.size; omega)).trans (h.block k hk hne)⟩

set_option maxRecDepth 100000 in
theorem left_calls (b n c i p : Nat) (ad : Option Addr) (w : World) (h : WkAt b w (.slice ad n c) i p) (hn : n ≤ 1048576) (hi : i ≤ n) :
    Calls Try.prog 85 #[.pointer (some ⟨b, 0, none⟩)] w fun e w' => e = .returned (.bool (decide (i < n))) ∧ Below w.heap.size w w' := by
  obtain ⟨c0, c1, c2, f1, f2, lt⟩ := h
  by_cases hlt : i < n
  · have h1 : (i : Int) < (n : Int) := by omega
    go_enter Try.func85, Try.ntmps85
    go_wp2
    go_quiet (fail)
    go_wp2
    go_ret
    exact ⟨ret_bool (by simp [hlt]), below_drewN (Below.refl _ _) _⟩
  · have h1 : ¬ (i : Int) < (n : Int) := by omega
    go_enter Try.func85, Try.ntmps85
    go_wp2
    go_quiet (fail)
    go_wp2
    go_ret
    exact ⟨ret_bool (by simp; omega), below_drewN (Below.refl _ _) _⟩

set_option maxRecDepth 100000 in
theorem lesser_calls (a b : Nat) (w : World) (ha : a ≤ 1048576) (hb : b ≤ 1048576) :
    Calls Try.prog 88 #[.int .i64 a, .int .i64 b] w fun e w' => e = .returned (.int .i64 (min a b : Nat)) ∧ w' = w := by
  by_cases hlt : a < b
  · have h1 : (a : Int) < (b : Int) := by omega
    go_enter Try.func88, Try.ntmps88
    go_wp2
    go_ret
    exact ⟨ret_int (by omega), rfl⟩
  · have h1 : ¬ (a : Int) < (b : Int) := by omega
    go_enter Try.func88, Try.ntmps88
    go_wp2
    go_ret
    exact ⟨ret_int (by omega), rfl⟩

/-- what is left of a record behind p bytes -/
def pieceR (r : M.Rec) (p : Nat) : M.Rec := ⟨r.kind, r.n - p, if 0 < p ∧ p ≤ r.s.size then r.s.extract p r.s.size else r.s⟩
theorem piece_ok {r : M.Rec} {p : Nat} (h : okRec r = true) (hp : (p : Int) < r.n) : okRec (pieceR r p) = true ∧ expR (pieceR r p) = (expR r).drop p := by
  have hk := (okRec_iff r).1 h
  have hl := ba_len r.s
  unfold pieceR
  by_cases h0 : 0 < p ∧ p ≤ r.s.size
  · rw [if_pos h0]
    have hk2 : r.kind = 2 := by omega
    have hs : (r.s.extract p r.s.size).size = r.s.size - p := by rw [ByteArray.size_extract]; omega
    refine ⟨(okRec_iff _).2 ⟨by simp only; omega, .inr ⟨hk2, by simp only; omega⟩⟩, ?_⟩
    simp only [expR, hk2]
    have e : (r.s.extract p r.s.size).data.toList = r.s.data.toList.drop p := by
      rw [Lib.extract_data]
      have e : r.s.size - p = (r.s.data.toList.drop p).length := by rw [len_drop]
      rw [e, List.take_length]
    rw [e]
    simp
  · rw [if_neg h0]
    rcases hk.2 with ⟨hkd, hs0⟩ | ⟨hkd, hsn⟩
    · refine ⟨(okRec_iff _).2 ⟨by simp only; omega, .inl ⟨hkd, hs0⟩⟩, ?_⟩
      have e : (r.n - (p : Int)).toNat = r.n.toNat - p := by omega
      rcases hkd with hkd | hkd
      · simp [expR, hkd, e]
      · simp [expR, hkd, e]
    · have hp0 : p = 0 := by omega
      subst hp0
      simp
      exact h
end Go.Proofs.Ytlppphmnegdhoaa
