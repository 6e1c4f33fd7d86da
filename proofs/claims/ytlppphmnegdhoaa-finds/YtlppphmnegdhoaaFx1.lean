/-
  The document's expressions: marks in memory: is, newline, upto.
-/
import Derived.Test.YtlppphmnegdhoaaFx0
import Derived.Test.YtlppphmnegdhoaaSh1
namespace Go.Proofs.Ytlppphmnegdhoaa
set_option linter.unusedVariables false
set_option maxRecDepth 100000
open Go.RowKit
open M

theorem infoMark : (Try.prog.info? 124).map (fun i => (i.zero, i.size, i.bytes)) = some (some (.agg #[.int .i64 0, .bool false]), 2, 16) := by kernel_rfl
theorem undMarks : Try.prog.underlying 87 = some (.slice 124) := by kernel_rfl
def markC (m : Mk) : List Value := [.int .i64 m.b, .bool m.p]
def marksC (l : List Mk) : List Value := (l.map markC).flatten
theorem marksC_snoc (l : List Mk) (m : Mk) : marksC (l ++ [m]) = marksC l ++ markC m := by simp [marksC]
theorem markC_one (m : Mk) : ∀ u ∈ markC m, u.oneCell' = true := by
  intro u h
  simp [markC] at h
  rcases h with rfl | rfl <;> rfl
theorem markC_at (w : World) (m : Mk) (t : TypeId) : ∀ j u, (markC m)[j]? = some u → (w.alloc (.cells #[.int .i64 m.b, .bool m.p] t)).cell? ((⟨w.heap.size, 0, none⟩ : Addr).add j) = some u := by
  intro j u h
  match j, h with
  | 0, h => simp [markC] at h; subst h; simp [Addr.add]
  | 1, h => simp [markC] at h; subst h; simp [Addr.add]
  | n + 2, h => simp [markC] at h
/-- a slice of marks, to be read -/
structure MarksAt (w : World) (a : Option Addr) (n : Nat) (l : List Mk) : Prop where
  len : l.length = n
  cells : l = [] ∨ ∃ b off, a = some ⟨b, off, none⟩ ∧ b < w.heap.size ∧ ∀ i (h : i < l.length), w.cell? ⟨b, off + i * 2, none⟩ = some (.int .i64 l[i].b) ∧ w.cell? ⟨b, off + i * 2 + 1, none⟩ = some (.bool l[i].p)
theorem MarksAt.below {w w' : World} {a : Option Addr} {n : Nat} {l : List Mk} (h : MarksAt w a n l) (hb : Below w.heap.size w w') : MarksAt w' a n l := by
  refine ⟨h.len, ?_⟩
  rcases h.cells with h0 | ⟨b, off, ha, hlt, hc⟩
  · exact .inl h0
  · exact .inr ⟨b, off, ha, by have := hb.size; omega, fun i hi => ⟨(hb.cell (by exact hlt)).trans (hc i hi).1, (hb.cell (by exact hlt)).trans (hc i hi).2⟩⟩
theorem MarksAt.below' {w w' : World} {a : Option Addr} {n B : Nat} {l : List Mk} (h : MarksAt w a n l) (hb : Below B w w') (hB : w.heap.size ≤ B) : MarksAt w' a n l := h.below (hb.mono hB)
theorem marksC_get (l : List Mk) : ∀ i (h : i < l.length), (marksC l)[i * 2]? = some (.int .i64 l[i].b) ∧ (marksC l)[i * 2 + 1]? = some (.bool l[i].p) := by
  induction l with
  | nil => intro i h; simp at h
  | cons m l ih =>
    intro i h
    have e : marksC (m :: l) = [.int .i64 m.b, .bool m.p] ++ marksC l := by simp [marksC, markC]
    rw [e]
    cases i with
    | zero => exact ⟨rfl, rfl⟩
    | succ i =>
      have := ih i (by simpa using h)
      have e1 : (i + 1) * 2 = i * 2 + 2 := by omega
      rw [e1]
      simpa using this
theorem marksAt_own {w : World} {B : Nat} {a : Option Addr} {c : Nat} {l : List Mk} (h : w.ownsRow B 124 2 (.slice a l.length c) l.length (marksC l)) : MarksAt w a l.length l := by
  refine ⟨rfl, ?_⟩
  by_cases h0 : l = []
  · exact .inl h0
  · right
    have hp : 0 < l.length := List.length_pos_iff.2 h0
    rcases h.2 with ⟨_, hz⟩ | ⟨g, cap, cur, hv, hb, hg, _⟩
    · omega
    · simp at hv
      obtain ⟨rfl, rfl⟩ := hv
      refine ⟨g, 0, rfl, (h.lt g rfl).2, fun i hi => ?_⟩
      have hc := marksC_get l i hi
      have h1 := h.cells rfl (i * 2) _ hc.1
      have h2 := h.cells rfl (i * 2 + 1) _ hc.2
      have e : ∀ j, (⟨g, 0, none⟩ : Addr).add j = ⟨g, j, none⟩ := fun j => by unfold Addr.add; split <;> simp_all
      rw [e] at h1 h2
      rw [Nat.zero_add]
      exact ⟨h1, h2⟩

set_option maxRecDepth 100000 in
theorem is_calls (m : Mk) (c : Nat) (w : World) : Calls Try.prog 93 #[.agg #[.int .i64 m.b, .bool m.p], .int .i64 c] w fun e w' => e = .returned (.bool (m.is c)) ∧ Below w.heap.size w w' := by
  obtain ⟨b, p⟩ := m
  cases p
  · go_enter Try.func93, Try.ntmps93
    go_wp2
    go_ret
    exact ⟨rfl, (Below.refl _ _).alloc (Nat.le_refl _) _⟩
  · by_cases h : b = c
    · have h1 : ((b : Int) == (c : Int)) = true := by simp [h]
      have H : Hid (Mk.is ⟨b, true⟩ c = true) := by show _ = _; simp [Mk.is, h]
      clear h
      go_enter Try.func93, Try.ntmps93
      go_wp2
      go_ret
      exact ⟨ret_bool (by rw [H.out]), (Below.refl _ _).alloc (Nat.le_refl _) _⟩
    · have h1 : ((b : Int) == (c : Int)) = false := by simp; omega
      have H : Hid (Mk.is ⟨b, true⟩ c = false) := by show _ = _; simp [Mk.is, h]
      go_enter Try.func93, Try.ntmps93
      go_wp2
      go_ret
      exact ⟨ret_bool (by rw [H.out]), (Below.refl _ _).alloc (Nat.le_refl _) _⟩

def hasNL (l : List UInt8) : Bool := l.any (fun c => c.toNat == 10)
set_option maxRecDepth 100000 in
theorem newline_calls (s : ByteArray) (w : World) (hs : s.size ≤ maxLen) :
    Calls Try.prog 67 #[.string s] w fun e w' => e = .returned (.bool (hasNL s.data.toList)) ∧ w' = w := by
  unfold maxLen at hs
  go_enter Try.func67, Try.ntmps67
  go_wp2
  go_loop [3] (fun i => ∃ k : Nat, k ≤ s.size ∧ i = .int .i64 k ∧ Hid (hasNL s.data.toList = hasNL (s.data.toList.drop k))) (fun i => s.size - (intOf i).toNat)
  case atStart => exact ⟨0, Nat.zero_le _, rfl, by show _ = _; rfl⟩
  case round =>
    obtain ⟨k, hk, rfl, H⟩ := hrel
    by_cases hlt : k < s.size
    · have hlt1 : (k : Int) < (s.size : Int) := by omega
      obtain ⟨x, hx⟩ : ∃ x : Nat, s[k].toNat = x := ⟨_, rfl⟩
      have hc : x < 256 := by rw [← hx]; exact s[k].toNat_lt
      have HQ : Hid (hasNL s.data.toList = ((x == 10) || hasNL (s.data.toList.drop (k + 1)))) := by
        show _ = _
        rw [H.out, get_drop s k hlt, ← hx]
        rfl
      clear H
      by_cases h10 : x = 10
      · have HB : Hid (hasNL s.data.toList = true) := by rw [HQ.out, h10]; rfl
        subst h10
        go_wp2
        go_ret
        exact ⟨ret_bool (by rw [HB.out]), rfl⟩
      · have h1 : ((x : Int) == 10) = false := by simp; omega
        have HB : Hid (hasNL s.data.toList = hasNL (s.data.toList.drop (k + 1))) := by
          have e : (x == 10) = false := by simpa using h10
          show _ = _
          rw [HQ.out, e, Bool.false_or]
        clear HQ h10
        go_wp2
        go_round
        case rel => exact ⟨k + 1, by omega, by go_num, HB.out⟩
        case measure => simp [intOf]; omega
    · obtain rfl : k = s.size := by omega
      have HB : Hid (hasNL s.data.toList = false) := by
        show _ = _
        rw [H.out, List.drop_of_length_le (by rw [ba_len]; omega)]; rfl
      clear H
      go_wp2
      go_ret
      exact ⟨ret_bool (by rw [HB.out]), rfl⟩
end Go.Proofs.Ytlppphmnegdhoaa
