/-
  Records that lead from a text to another: plain mathematics.
-/
import Derived.Test.YtlppphmnegdhoaaWri6
import Derived.Test.YtlppphmnegdhoaaRea1
namespace Go.Proofs.Ytlppphmnegdhoaa
set_option linter.unusedVariables false
open Go.RowKit
open M

theorem leads_append (l : List M.Rec) : ∀ (m : List M.Rec) (a b c d : List UInt8), leadsL l a b = true → leadsL m c d = true → leadsL (l ++ m) (a ++ c) (b ++ d) = true := by
  induction l with
  | nil =>
    intro m a b c d h g
    simp [leadsL] at h
    obtain ⟨rfl, rfl⟩ := h
    exact g
  | cons r l ih =>
    intro m a b c d h g
    simp only [List.cons_append, leadsL] at h ⊢
    by_cases h0 : r.kind = 0
    · rw [if_pos h0] at h ⊢
      simp only [Bool.and_eq_true, decide_eq_true_eq] at h ⊢
      obtain ⟨ha, hb, he, hl⟩ := h
      have := ih m _ _ c d hl g
      rw [List.take_append_of_le_length ha, List.take_append_of_le_length hb, List.drop_append_of_le_length ha, List.drop_append_of_le_length hb]
      exact ⟨by simp; omega, by simp; omega, he, this⟩
    · rw [if_neg h0] at h ⊢
      by_cases h2 : r.kind = 1
      · rw [if_pos h2] at h ⊢
        simp only [Bool.and_eq_true, decide_eq_true_eq] at h ⊢
        obtain ⟨hb, hl⟩ := h
        have := ih m _ _ c d hl g
        rw [List.drop_append_of_le_length hb]
        exact ⟨by simp; omega, this⟩
      · rw [if_neg h2] at h ⊢
        simp only [Bool.and_eq_true, decide_eq_true_eq] at h ⊢
        obtain ⟨ha, he, hl⟩ := h
        have := ih m _ _ c d hl g
        rw [List.take_append_of_le_length ha, List.drop_append_of_le_length ha]
        exact ⟨by simp; omega, he, this⟩
/-- a list that leads goes back -/
theorem leads_undo (l : List M.Rec) : ∀ a b, leadsL l a b = true → undoL l b = a := by
  induction l with
  | nil =>
    intro a b h
    simp [leadsL] at h
    simp [undoL, h.1]
  | cons r l ih =>
    intro a b h
    simp only [leadsL] at h
    simp only [undoL]
    by_cases h0 : r.kind = 0
    · rw [if_pos h0] at h ⊢
      simp only [Bool.and_eq_true, decide_eq_true_eq, beq_iff_eq] at h
      obtain ⟨ha, hb, he, hl⟩ := h
      rw [ih _ _ hl, ← he, List.take_append_drop]
    · rw [if_neg h0] at h ⊢
      by_cases h2 : r.kind = 1
      · rw [if_pos h2] at h ⊢
        simp only [Bool.and_eq_true, decide_eq_true_eq] at h
        exact ih _ _ h.2
      · rw [if_neg h2] at h ⊢
        simp only [Bool.and_eq_true, decide_eq_true_eq, beq_iff_eq] at h
        obtain ⟨ha, he, hl⟩ := h
        rw [ih _ _ hl, ← he, List.take_append_drop]

theorem keep_leads (x : List UInt8) (h : x ≠ []) : okRec ⟨0, (x.length : Int), ⟨#[]⟩⟩ = true ∧ leadsL [⟨0, (x.length : Int), ⟨#[]⟩⟩] x x = true := by
  have hl : 0 < x.length := List.length_pos_iff.2 h
  refine ⟨(okRec_iff _).2 ⟨by simp; omega, .inl ⟨.inl rfl, rfl⟩⟩, ?_⟩
  simp [leadsL]
theorem drop_leads (x : List UInt8) (h : x ≠ []) : okRec ⟨1, (x.length : Int), ⟨#[]⟩⟩ = true ∧ leadsL [⟨1, (x.length : Int), ⟨#[]⟩⟩] [] x = true := by
  have hl : 0 < x.length := List.length_pos_iff.2 h
  refine ⟨(okRec_iff _).2 ⟨by simp; omega, .inl ⟨.inr rfl, rfl⟩⟩, ?_⟩
  simp [leadsL]
theorem rest_leads (s : ByteArray) (h : s.data.toList ≠ []) : okRec ⟨2, (s.size : Int), s⟩ = true ∧ leadsL [⟨2, (s.size : Int), s⟩] s.data.toList [] = true := by
  have hl : 0 < s.data.toList.length := List.length_pos_iff.2 h
  rw [ba_len] at hl
  refine ⟨(okRec_iff _).2 ⟨by simp; omega, .inr ⟨rfl, rfl⟩⟩, ?_⟩
  simp [leadsL]
  rw [← ba_len, List.take_length]

theorem numE_le (r : M.Rec) (h : okRec r = true) : ((numE (4 * r.n + r.kind).toNat).length : Int) ≤ r.n := by
  have hk := (okRec_iff r).1 h
  unfold numE
  split
  · simp; omega
  · split
    · simp; omega
    · simp; omega
theorem recE_le2 (r : M.Rec) (h : okRec r = true) : ((recE r).length : Int) ≤ 2 * inA r + inB r := by
  have h1 := numE_le r h
  have h2 := (okRec_iff r).1 h
  unfold recE
  rw [List.length_append, ba_len]
  unfold inA inB
  repeat' split
  all_goals omega
theorem recsE_le2 (l : List M.Rec) (h : okAll l) : ((recsE l).length : Int) ≤ 2 * lenA l + lenB l := by
  induction l with
  | nil => simp [recsE, lenA, lenB]
  | cons r l ih =>
    have h1 := recE_le2 r (okAll_cons h).1
    have h2 := ih (okAll_cons h).2
    rw [recsE_cons, List.length_append]
    simp only [lenA, lenB]
    omega
theorem writE_len (a b : ByteArray) (l : List M.Rec) (ha : a.size ≤ 4096) (hb : b.size ≤ 4096) (ho : okAll l) (hA : lenA l = a.size) (hB : lenB l = b.size) (t : ByteArray) (ht : t.data.toList = writE ⟨a.size, b.size, sum a.data.toList, sum b.data.toList, l⟩) : 10 ≤ t.size ∧ t.size ≤ 12352 := by
  have h1 := recsE_le2 l ho
  have h2 := numE_len a.size
  have h3 := numE_len b.size
  have e : t.size = 2 + (numE a.size).length + (numE b.size).length + 4 + (recsE l).length + 2 := by
    rw [← ba_len, ht]
    simp [writE, bodyE, headE, twoE]
    omega
  omega
theorem tells_of (a b : ByteArray) (l : List M.Rec) (ha : a.size ≤ 4096) (hb : b.size ≤ 4096) (ho : okAll l) (hA : lenA l = a.size) (hB : lenB l = b.size) (t : ByteArray) (ht : t.data.toList = writE ⟨a.size, b.size, sum a.data.toList, sum b.data.toList, l⟩) : Tells t.data.toList ⟨a.size, b.size, sum a.data.toList, sum b.data.toList, l⟩ :=
  ⟨⟨ho, hA, hB, ha, hb, sum_lt _, sum_lt _⟩, ht.symm⟩

/-- what the calls answer where a list leads -/
theorem write_ok {l : List M.Rec} {a b : ByteArray} {t : List UInt8} {e : Int} (ha : a.size ≤ 4096) (hb : b.size ≤ 4096) (ho : okAll l) (hl : leadsL l a.data.toList b.data.toList = true) (h : WriteSpec l a b t e) : e = 0 ∧ t = writE ⟨a.size, b.size, sum a.data.toList, sum b.data.toList, l⟩ := by
  have h2 : WriteSpec l a b (writE ⟨a.size, b.size, sum a.data.toList, sum b.data.toList, l⟩) 0 := .inr ⟨fun h => by omega, .inr ⟨all_yes ho, .inr ⟨hl, rfl, rfl⟩⟩⟩
  obtain ⟨h3, h4⟩ := writeSpec_same h h2
  exact ⟨h4, h3⟩
theorem read_ok {l m : List M.Rec} {a b t : ByteArray} {e : Int} (hs : t.size ≤ 12352) (ht : Tells t.data.toList ⟨a.size, b.size, sum a.data.toList, sum b.data.toList, l⟩) (h : ReadSpec t m e) : e = 0 ∧ m = l := by
  have h2 : ReadSpec t l 0 := .inr ⟨by omega, .inr ⟨_, ht, rfl, rfl⟩⟩
  obtain ⟨h3, h4⟩ := readSpec_same h h2
  exact ⟨h4, h3⟩
theorem undo_ok {l : List M.Rec} {a b t : ByteArray} {x : List UInt8} {e : Int} (hb : b.size ≤ 4096) (hs : t.size ≤ 12352) (ht : Tells t.data.toList ⟨a.size, b.size, sum a.data.toList, sum b.data.toList, l⟩) (hl : leadsL l a.data.toList b.data.toList = true) (h : UndoSpec b t x e) : e = 0 ∧ x = a.data.toList := by
  have hu := leads_undo l _ _ hl
  have h2 : UndoSpec b t a.data.toList 0 := .inr ⟨fun h => by omega, .inr ⟨_, ht, .inr ⟨⟨rfl, rfl⟩, .inr ⟨by rw [hu], rfl, hu.symm⟩⟩⟩⟩
  obtain ⟨h3, h4⟩ := undoSpec_same h h2
  exact ⟨h4, h3⟩
end Go.Proofs.Ytlppphmnegdhoaa
