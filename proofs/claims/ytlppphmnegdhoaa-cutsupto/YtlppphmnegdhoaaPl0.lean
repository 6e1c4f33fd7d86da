/-
  The program's growing short list, and its walks through two lists: plain mathematics.
-/
import Derived.Test.YtlppphmnegdhoaaEvj
namespace Go.Proofs.Ytlppphmnegdhoaa
set_option linter.unusedVariables false
namespace M

structure SL where
  out : List Rec
  m : Nat
  d : Nat
  s : List UInt8
def SL.fin (S : SL) : List Rec := S.out ++ (rKeep S.m ++ (rDrop S.d ++ rRest S.s))
def SL.add (S : SL) (r : Rec) : SL :=
  if r.kind = 0 then (if 0 < S.d ∨ S.s ≠ [] then ⟨S.fin, r.n.toNat, 0, []⟩ else ⟨S.out, S.m + r.n.toNat, S.d, S.s⟩)
  else if r.kind = 1 then ⟨S.out, S.m, S.d + r.n.toNat, S.s⟩ else ⟨S.out, S.m, S.d, S.s ++ r.s.data.toList⟩
def gS (m d : Nat) (s : List UInt8) (es : List Ev) : List Rec := if d = 0 ∧ s = [] then outBs (nb 0 [] m es) else rKeep m ++ outBs (nb d s 0 es)
def SL.Is (S : SL) (es : List Ev) : Prop := ∀ rest, norm (es ++ rest) = S.out ++ gS S.m S.d S.s rest
theorem SL.is_nil : SL.Is ⟨[], 0, 0, []⟩ [] := by intro rest; simp [gS, norm]
theorem nb_k (es : List Ev) (n : Nat) : ∀ d s m, nb d s m (List.replicate n .k ++ es) = nb d s (m + n) es := by
  induction n with
  | zero => intro d s m; rfl
  | succ n ih => intro d s m; rw [List.replicate_succ, List.cons_append, nb, ih]; congr 1; omega
theorem nb_d (es : List Ev) (n : Nat) : ∀ d s, nb d s 0 (List.replicate n .d ++ es) = nb (d + n) s 0 es := by
  induction n with
  | zero => intro d s; rfl
  | succ n ih => intro d s; rw [List.replicate_succ, List.cons_append, nb, if_pos rfl, ih]; congr 1; omega
theorem nb_r (es : List Ev) (t : List UInt8) : ∀ d s, nb d s 0 (t.map .r ++ es) = nb d (s ++ t) 0 es := by
  induction t with
  | nil => intro d s; simp
  | cons c t ih => intro d s; rw [List.map_cons, List.cons_append, nb, if_pos rfl, ih]; simp
theorem nb_head (es : List Ev) : ∀ d s m, 0 < m → outBs (nb d s m es) = rDrop d ++ (rRest s ++ outBs (nb 0 [] m es)) := by
  induction es with
  | nil =>
    intro d s m hm
    have h1 : ¬ (d = 0 ∧ s = [] ∧ m = 0) := by omega
    simp only [nb]
    rw [if_neg h1, if_neg (by simp; omega)]
    simp [outBs, outB, rDrop, rRest]
  | cons e es ih =>
    intro d s m hm
    have h0 : ¬ m = 0 := by omega
    cases e with
    | k => simp only [nb]; exact ih d s (m + 1) (by omega)
    | d => simp only [nb]; rw [if_neg h0, if_neg h0]; simp [outBs, outB, rDrop, rRest]
    | r c => simp only [nb]; rw [if_neg h0, if_neg h0]; simp [outBs, outB, rDrop, rRest]
theorem gS_drop (m d : Nat) (s : List UInt8) (n : Nat) (hn : 0 < n) (es : List Ev) : gS m d s (List.replicate n .d ++ es) = gS m (d + n) s es := by
  have h2 : ¬ (d + n = 0 ∧ s = []) := by omega
  unfold gS
  rw [if_neg h2]
  split
  · rename_i h
    obtain ⟨rfl, rfl⟩ := h
    obtain ⟨n, rfl⟩ : ∃ k, n = k + 1 := ⟨n - 1, by omega⟩
    rw [List.replicate_succ, List.cons_append]
    simp only [nb]
    by_cases hm : m = 0
    · rw [if_pos hm, nb_d, hm, show 0 + 1 + n = 0 + (n + 1) by omega]; simp [rKeep]
    · rw [if_neg hm, nb_d, show 1 + n = 0 + (n + 1) by omega]; simp [outBs, outB, rDrop, rRest]
  · rw [nb_d]
theorem gS_rest (m d : Nat) (s t : List UInt8) (ht : t ≠ []) (es : List Ev) : gS m d s (t.map .r ++ es) = gS m d (s ++ t) es := by
  have h2 : ¬ (d = 0 ∧ s ++ t = []) := by intro h; exact ht (List.append_eq_nil_iff.1 h.2).2
  unfold gS
  rw [if_neg h2]
  split
  · rename_i h
    obtain ⟨rfl, rfl⟩ := h
    obtain ⟨c, t, rfl⟩ : ∃ c u, t = c :: u := by cases t with | nil => exact absurd rfl ht | cons c u => exact ⟨c, u, rfl⟩
    rw [List.map_cons, List.cons_append]
    simp only [nb]
    by_cases hm : m = 0
    · rw [if_pos hm, nb_r, hm]; simp [rKeep]
    · rw [if_neg hm, nb_r]; simp [outBs, outB, rDrop, rRest]
  · rw [nb_r]
theorem gS_keep (m d : Nat) (s : List UInt8) (n : Nat) (hn : 0 < n) (es : List Ev) :
    gS m d s (List.replicate n .k ++ es) = if 0 < d ∨ s ≠ [] then rKeep m ++ (rDrop d ++ (rRest s ++ gS n 0 [] es)) else gS (m + n) d s es := by
  unfold gS
  split
  · rename_i h
    rw [nb_k, if_neg (by rintro (h1 | h1); · omega
                         · exact h1 h.2)]
  · rename_i h
    rw [nb_k, Nat.zero_add, nb_head _ _ _ _ hn, if_pos, if_pos ⟨rfl, rfl⟩]
    by_cases hd : d = 0
    · exact .inr fun hs => h ⟨hd, hs⟩
    · exact .inl (by omega)
theorem gS_nil (m d : Nat) (s : List UInt8) : gS m d s [] = rKeep m ++ (rDrop d ++ rRest s) := by
  unfold gS
  split
  · rename_i h
    obtain ⟨rfl, rfl⟩ := h
    simp only [nb]
    split
    · rename_i h; simp [h.2.2, rKeep, rDrop, rRest, outBs]
    · simp [outBs, outB, rDrop, rRest]
  · rename_i h
    simp only [nb]
    rw [if_neg (fun g => h ⟨g.1, g.2.1⟩)]
    simp [outBs, outB, rKeep]
theorem SL.is_fin {S : SL} {es : List Ev} (h : S.Is es) : S.fin = norm es := by
  have := h []
  rw [List.append_nil, gS_nil] at this
  rw [this]; rfl
theorem SL.is_add {S : SL} {es : List Ev} (h : S.Is es) {r : Rec} (hr : okRec r = true) : (S.add r).Is (es ++ expR r) := by
  intro rest
  have hk := (okRec_iff r).1 hr
  have hl := ba_len r.s
  rw [List.append_assoc, h]
  unfold SL.add expR
  by_cases h0 : r.kind = 0
  · simp only [if_pos h0]
    rw [gS_keep _ _ _ _ (by omega)]
    split
    · simp [SL.fin]
    · rfl
  · simp only [if_neg h0]
    by_cases h1 : r.kind = 1
    · simp only [if_pos h1]
      rw [gS_drop _ _ _ _ (by omega)]
    · simp only [if_neg h1]
      rw [gS_rest _ _ _ _ (by intro h2; rw [h2] at hl; simp at hl; omega)]
theorem lens_K (m : Nat) : lenA (rKeep m) = m ∧ lenB (rKeep m) = m := by
  unfold rKeep; split
  · rename_i h; simp [h, lenA, lenB]
  · simp [lenA, lenB, inA, inB]
theorem lens_D (m : Nat) : lenA (rDrop m) = 0 ∧ lenB (rDrop m) = m := by
  unfold rDrop; split
  · rename_i h; simp [h, lenA, lenB]
  · simp [lenA, lenB, inA, inB]
theorem lens_R (s : List UInt8) : lenA (rRest s) = s.length ∧ lenB (rRest s) = 0 := by
  unfold rRest; split
  · rename_i h; simp [h, lenA, lenB]
  · simp [lenA, lenB, inA, inB]
theorem SL.lens (S : SL) : lenA S.fin = lenA S.out + S.m + S.s.length ∧ lenB S.fin = lenB S.out + S.m + S.d := by
  unfold SL.fin
  simp only [lenA_append, lenB_append, lens_K, lens_D, lens_R]
  omega
end M
end Go.Proofs.Ytlppphmnegdhoaa
