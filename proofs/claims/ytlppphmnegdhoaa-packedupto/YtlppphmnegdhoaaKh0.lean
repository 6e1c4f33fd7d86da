/-
  Records in two parts, neighbours that change places: plain mathematics, and rows of records that are written into.
-/
import Derived.Test.YtlppphmnegdhoaaKp1
import Derived.Test.YtlppphmnegdhoaaMark
namespace Go.Proofs.Ytlppphmnegdhoaa
set_option linter.unusedVariables false
open Go.RowKit
open M

theorem half_two {r : M.Rec} (h : okRec r = true) (h1 : 1 < r.n) :
    okRec ⟨r.kind, r.n / 2, if r.kind = 2 then r.s.extract 0 (r.n / 2).toNat else ⟨#[]⟩⟩ = true ∧ okRec ⟨r.kind, r.n - r.n / 2, if r.kind = 2 then r.s.extract (r.n / 2).toNat r.s.size else r.s⟩ = true ∧
    expR r = expR ⟨r.kind, r.n / 2, if r.kind = 2 then r.s.extract 0 (r.n / 2).toNat else ⟨#[]⟩⟩ ++ expR ⟨r.kind, r.n - r.n / 2, if r.kind = 2 then r.s.extract (r.n / 2).toNat r.s.size else r.s⟩ := by
  have hk := (okRec_iff r).1 h
  have hl := ba_len r.s
  by_cases h2 : r.kind = 2
  · simp only [if_pos h2]
    refine ⟨(okRec_iff _).2 ⟨by simp only; omega, .inr ⟨h2, by simp only [ByteArray.size_extract]; omega⟩⟩, (okRec_iff _).2 ⟨by simp only; omega, .inr ⟨h2, by simp only [ByteArray.size_extract]; omega⟩⟩, ?_⟩
    have e1 : (r.s.extract 0 (r.n / 2).toNat).data.toList = r.s.data.toList.take (r.n / 2).toNat := by rw [Lib.extract_data]; simp
    have e2 : (r.s.extract (r.n / 2).toNat r.s.size).data.toList = r.s.data.toList.drop (r.n / 2).toNat := by
      rw [Lib.extract_data]
      have e : r.s.size - (r.n / 2).toNat = (r.s.data.toList.drop (r.n / 2).toNat).length := by rw [len_drop]
      rw [e, List.take_length]
    simp only [expR, h2, e1, e2]
    simp only [show ¬ ((2 : Int) = 0) by omega, show ¬ ((2 : Int) = 1) by omega, if_false]
    rw [← List.map_append, List.take_append_drop]
  · simp only [if_neg h2]
    have hs : r.s.size = 0 := by omega
    have hk0 : r.kind = 0 ∨ r.kind = 1 := by omega
    refine ⟨(okRec_iff _).2 ⟨by simp only; omega, .inl ⟨hk0, rfl⟩⟩, (okRec_iff _).2 ⟨by simp only; omega, .inl ⟨hk0, hs⟩⟩, ?_⟩
    have e : r.n.toNat = (r.n / 2).toNat + (r.n - r.n / 2).toNat := by omega
    rcases hk0 with hk0 | hk0
    · simp [expR, hk0, e, List.replicate_append_replicate]
    · simp [expR, hk0, e, List.replicate_append_replicate]

/-- two neighbours change places -/
def swapL (L : List M.Rec) (i : Nat) (h : i + 1 < L.length) : List M.Rec := (L.set i L[i + 1]).set (i + 1) L[i]
theorem swapL_len (L : List M.Rec) (i : Nat) (h : i + 1 < L.length) : (swapL L i h).length = L.length := by simp [swapL]
theorem list_two (L : List M.Rec) (i : Nat) (h : i + 1 < L.length) : L = L.take i ++ (L[i] :: L[i + 1] :: L.drop (i + 2)) := by
  rw [← List.drop_eq_getElem_cons (by omega), ← List.drop_eq_getElem_cons (by omega), List.take_append_drop]
theorem swap_key (x y : M.Rec) (Q : List M.Rec) : ∀ P : List M.Rec, ((P ++ (x :: y :: Q)).set P.length y).set (P.length + 1) x = P ++ (y :: x :: Q) := by
  intro P
  induction P with
  | nil => rfl
  | cons z P ih => simp only [List.cons_append, List.length_cons, List.set_cons_succ, ih]
theorem swap_two (L : List M.Rec) (i : Nat) (h : i + 1 < L.length) : swapL L i h = L.take i ++ (L[i + 1] :: L[i] :: L.drop (i + 2)) := by
  have hl : (L.take i).length = i := by rw [List.length_take]; omega
  have e := list_two L i h
  have k := swap_key L[i] L[i + 1] (L.drop (i + 2)) (L.take i)
  rw [hl, ← e] at k
  exact k
theorem swap_eqv (L : List M.Rec) (i : Nat) (h : i + 1 < L.length) (hok : okAll L) (h0 : L[i].kind ≠ 0) (h1 : L[i + 1].kind ≠ 0) (h2 : L[i].kind ≠ L[i + 1].kind) : okAll (swapL L i h) ∧ Eqv (expL (swapL L i h)) (expL L) := by
  have o0 := (okRec_iff _).1 (hok _ (List.getElem_mem (show i < L.length by omega)))
  have o1 := (okRec_iff _).1 (hok _ (List.getElem_mem h))
  have e1 := list_two L i h
  rw [swap_two L i h]
  have hm0 : L[i] ∈ L := List.getElem_mem _
  have hm1 : L[i + 1] ∈ L := List.getElem_mem _
  refine ⟨fun r hr => ?_, ?_⟩
  · simp only [List.mem_append, List.mem_cons] at hr
    rcases hr with hr | hr | hr | hr
    · exact hok _ (List.mem_of_mem_take hr)
    · rw [hr]; exact hok _ hm1
    · rw [hr]; exact hok _ hm0
    · exact hok _ (List.mem_of_mem_drop hr)
  · have e2 : expL L = expL (L.take i) ++ (expR L[i] ++ (expR L[i + 1] ++ expL (L.drop (i + 2)))) := by
      conv => lhs; rw [e1]
      simp only [expL_append, expL]
    rw [e2]
    simp only [expL_append, expL]
    apply Eqv.pre
    have hk : (L[i].kind = 1 ∧ L[i + 1].kind = 2) ∨ (L[i].kind = 2 ∧ L[i + 1].kind = 1) := by omega
    rcases hk with ⟨k0, k1⟩ | ⟨k0, k1⟩
    · have f0 : expR L[i] = List.replicate L[i].n.toNat .d := by simp [expR, k0]
      have f1 : expR L[i + 1] = L[i + 1].s.data.toList.map .r := by simp [expR, k1]
      rw [f0, f1]
      exact .symm (eqv_turn _ _ _)
    · have f0 : expR L[i + 1] = List.replicate L[i + 1].n.toNat .d := by simp [expR, k1]
      have f1 : expR L[i] = L[i].s.data.toList.map .r := by simp [expR, k0]
      rw [f0, f1]
      exact eqv_turn _ _ _

/-- a row of records that may be written into -/
structure RowW (w : World) (g : Nat) (L : List M.Rec) : Prop where
  lt : g < w.heap.size
  c : ∀ i, (h : i < L.length) → w.cell? ⟨g, i * 3, none⟩ = some (.int .i64 L[i].kind) ∧ w.cell? ⟨g, i * 3 + 1, none⟩ = some (.int .i64 L[i].n) ∧ w.cell? ⟨g, i * 3 + 2, none⟩ = some (.string L[i].s)
  f : ∀ o, o < L.length * 3 → w.frozen? ⟨g, o, none⟩ = false
theorem RowW.keep {w w' : World} {g : Nat} {L : List M.Rec} (h : RowW w g L) (hk : w'.heap[g]? = w.heap[g]?) (hs : w.heap.size ≤ w'.heap.size) : RowW w' g L :=
  ⟨by have := h.lt; omega, fun i hi => ⟨(World.cell?_of_block hk).trans (h.c i hi).1, (World.cell?_of_block hk).trans (h.c i hi).2.1, (World.cell?_of_block hk).trans (h.c i hi).2.2⟩, fun o ho => (World.frozen?_of_block hk).trans (h.f o ho)⟩
theorem RowW.alloc {w : World} {g : Nat} {L : List M.Rec} (h : RowW w g L) (o : Obj) : RowW (w.alloc o) g L := h.keep (Below.heap_alloc _ _ _ h.lt) (by simp)
theorem RowW.set {w : World} {g : Nat} {L : List M.Rec} (h : RowW w g L) (i : Nat) (hi : i < L.length) (r : M.Rec) : RowW (((w.setCell ⟨g, i * 3, none⟩ (.int .i64 r.kind)).setCell ⟨g, i * 3 + 1, none⟩ (.int .i64 r.n)).setCell ⟨g, i * 3 + 2, none⟩ (.string r.s)) g (L.set i r) := by
  refine ⟨by simpa using h.lt, fun j hj => ?_, fun o ho => ?_⟩
  · have hj' : j < L.length := by simpa using hj
    obtain ⟨c0, c1, c2⟩ := h.c j hj'
    obtain ⟨d0, d1, d2⟩ := h.c i hi
    rw [List.getElem_set]
    by_cases hji : i = j
    · subst hji
      rw [if_pos rfl]
      refine ⟨?_, ?_, ?_⟩
      · rw [set_far _ _ _ _ _ (by omega), set_far _ _ _ _ _ (by omega), set_same _ _ _ _ d0]
      · rw [set_far _ _ _ _ _ (by omega)]
        exact set_same _ _ _ _ (by rw [set_far _ _ _ _ _ (by omega)]; exact d1)
      · exact set_same _ _ _ _ (by rw [set_far _ _ _ _ _ (by omega), set_far _ _ _ _ _ (by omega)]; exact d2)
    · rw [if_neg hji]
      refine ⟨?_, ?_, ?_⟩
      · rw [set_far _ _ _ _ _ (by omega), set_far _ _ _ _ _ (by omega), set_far _ _ _ _ _ (by omega)]; exact c0
      · rw [set_far _ _ _ _ _ (by omega), set_far _ _ _ _ _ (by omega), set_far _ _ _ _ _ (by omega)]; exact c1
      · rw [set_far _ _ _ _ _ (by omega), set_far _ _ _ _ _ (by omega), set_far _ _ _ _ _ (by omega)]; exact c2
  · simp only [List.length_set] at ho
    simpa using h.f o ho
end Go.Proofs.Ytlppphmnegdhoaa
