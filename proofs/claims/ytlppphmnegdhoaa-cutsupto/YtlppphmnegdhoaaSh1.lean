/-
  The document's short list: what its loops meet.
-/
import Derived.Test.YtlppphmnegdhoaaSp1
namespace Go.Proofs.Ytlppphmnegdhoaa
set_option linter.unusedVariables false
open Go.RowKit
open M

/-- a slice of numbers, to be read -/
structure IntsAt (w : World) (a : Option Addr) (F : List Int) : Prop where
  cells : F = [] ∨ ∃ g, a = some ⟨g, 0, none⟩ ∧ g < w.heap.size ∧ ∀ i (h : i < F.length), w.cell? ⟨g, i, none⟩ = some (.int .i64 F[i])
theorem ints_own {w : World} {B : Nat} {a : Option Addr} {c : Nat} {F : List Int} (h : w.ownsRow B 3 1 (.slice a F.length c) F.length (intC F)) : IntsAt w a F := by
  by_cases h0 : F = []
  · exact ⟨.inl h0⟩
  · have hp : 0 < F.length := List.length_pos_iff.2 h0
    obtain ⟨g, cap, e, _, hg⟩ := h.form hp
    simp only [Value.slice.injEq] at e
    obtain ⟨rfl, _, rfl⟩ := e
    refine ⟨.inr ⟨g, rfl, hg, fun i hi => ?_⟩⟩
    rw [h.cellAt i (by omega), intC_get F i hi]

theorem drop_get {F G : List Int} {b : Nat} (h : F.drop b = G) (t : Nat) : F[b + t]? = G[t]? := by rw [← h, List.getElem?_drop]
theorem drop_len {F G : List Int} {b : Nat} (h : F.drop b = G) (hb : b ≤ F.length) : F.length = b + G.length := by rw [← h, List.length_drop]; omega
theorem get_some {F : List Int} {i : Nat} {x : Int} (h : F[i]? = some x) : ∃ hi : i < F.length, F[i] = x := List.getElem?_eq_some_iff.1 h

/-- From, where a block begins: its Drops -/
theorem drops_at {F G : List Int} {b d : Nat} (h : F.drop b = List.replicate d (-1) ++ G) (hb : b ≤ F.length) (hG : ∀ i, G.head? = some i → 0 ≤ i) :
    (∀ t, t < d → ∃ hi : b + t < F.length, F[b + t] = -1) ∧ (∀ hi : b + d < F.length, 0 ≤ F[b + d]) ∧ b + d ≤ F.length ∧ F.drop (b + d) = G := by
  refine ⟨fun t ht => ?_, fun hi => ?_, ?_, ?_⟩
  · apply get_some; rw [drop_get h, List.getElem?_append_left (by simpa using ht)]; simp [ht]
  · apply hG
    rw [List.head?_eq_getElem?]
    have := drop_get h d
    rw [List.getElem?_append_right (by simp)] at this
    simp at this
    rw [List.getElem?_eq_getElem hi] at this
    simpa using this.symm
  · have := drop_len h hb; simp at this; omega
  · rw [← List.drop_drop, h, List.drop_append_of_le_length (by simp), List.drop_of_length_le (by simp)]; rfl
/-- Back: its Restores -/
theorem rests_at {K G : List Int} {a : Nat} {s : List UInt8} (h : K.drop a = s.map (fun c => (c.toNat : Int)) ++ G) (ha : a ≤ K.length) (hG : ∀ i, G.head? = some i → i = -1) :
    (∀ t (ht : t < s.length), ∃ hi : a + t < K.length, K[a + t] = (s[t].toNat : Int)) ∧ (∀ hi : a + s.length < K.length, K[a + s.length] = -1) ∧ a + s.length ≤ K.length ∧ K.drop (a + s.length) = G := by
  refine ⟨fun t ht => ?_, fun hi => ?_, ?_, ?_⟩
  · apply get_some; rw [drop_get h, List.getElem?_append_left (by simpa using ht)]; simp [ht]
  · apply hG
    rw [List.head?_eq_getElem?]
    have := drop_get h s.length
    rw [List.getElem?_append_right (by simp)] at this
    simp at this
    rw [List.getElem?_eq_getElem hi] at this
    simpa using this.symm
  · have := drop_len h ha; simp at this; omega
  · rw [← List.drop_drop, h, List.drop_append_of_le_length (by simp), List.drop_of_length_le (by simp)]; rfl
theorem evF_rep_k (m : Nat) (x : List Ev) : ∀ a t, t < m → (evF a (List.replicate m .k ++ x))[t]? = some ((a + t : Nat) : Int) := by
  induction m with
  | zero => intro a t h; omega
  | succ m ih =>
    intro a t h
    simp only [List.replicate_succ, List.cons_append, evF]
    cases t with
    | zero => simp
    | succ t => rw [List.getElem?_cons_succ, ih (a + 1) t (by omega)]; congr 2; omega
theorem evF_rep_k_drop (m : Nat) (x : List Ev) : ∀ a, (evF a (List.replicate m .k ++ x)).drop m = evF (a + m) x := by
  induction m with
  | zero => intro a; simp
  | succ m ih => intro a; simp only [List.replicate_succ, List.cons_append, evF, List.drop_succ_cons]; rw [ih (a + 1)]; congr 1; omega
/-- both: its Keeps -/
theorem keeps_at {F K : List Int} {a b m : Nat} {bs : List Blk} (h : F.drop b = evF a (List.replicate m .k ++ evBlks bs)) (g : K.drop a = List.replicate m (-1) ++ evK (evBlks bs)) (hb : b ≤ F.length) (ha : a ≤ K.length) (hw : wfTail bs) :
    (∀ t, t < m → a + t < K.length ∧ ∃ hi : b + t < F.length, F[b + t] = ((a + t : Nat) : Int)) ∧ (∀ hi : b + m < F.length, F[b + m] ≠ ((a + m : Nat) : Int)) ∧ b + m ≤ F.length ∧ a + m ≤ K.length ∧ F.drop (b + m) = evF (a + m) (evBlks bs) ∧ K.drop (a + m) = evK (evBlks bs) := by
  have hF : F.drop (b + m) = evF (a + m) (evBlks bs) := by rw [← List.drop_drop, h, evF_rep_k_drop]
  have lf := drop_len h hb
  have lk := drop_len g ha
  rw [evF_len, evB_append, (ev_rep_k m).2] at lf
  simp at lk
  refine ⟨fun t ht => ⟨by omega, ?_⟩, fun hi e => ?_, by omega, by omega, hF, ?_⟩
  · apply get_some; rw [drop_get h, evF_rep_k m _ a t ht]
  · apply tail_F bs hw (a + m)
    rw [← hF, List.head?_drop, List.getElem?_eq_getElem hi, e]
  · rw [← List.drop_drop, g, List.drop_append_of_le_length (by simp), List.drop_of_length_le (by simp)]; rfl

theorem count_le (l : List M.Rec) (h : okAll l) : (l.length : Int) ≤ lenA l + lenB l := by
  induction l with
  | nil => simp [lenA, lenB]
  | cons r l ih =>
    have h1 := ih (okAll_cons h).2
    have h2 := inAB r (okAll_cons h).1
    have h3 := ((okRec_iff r).1 (okAll_cons h).1).1
    simp only [List.length_cons, lenA, lenB]
    omega
theorem norm_count (es : List Ev) : (norm es).length ≤ evA es + evB es := by
  have h := count_le _ (norm_ok es)
  have g := norm_len es
  omega
/-- where the outer loop stands -/
structure ShAt (F K : List Int) (L all : List M.Rec) (bs : List Blk) (a b : Nat) : Prop where
  wf : wfBlks bs
  hf : F.drop b = evF a (evBlks bs)
  hk : K.drop a = evK (evBlks bs)
  hb : b ≤ F.length
  ha : a ≤ K.length
  out : L ++ outBs bs = all
theorem ShAt.start (es : List Ev) : ShAt (evF 0 es) (evK es) [] (norm es) (nb 0 [] 0 es) 0 0 :=
  ⟨nb_wf es 0 [] 0, by rw [List.drop_zero, (nb_can es).F], by rw [List.drop_zero, (nb_can es).K], Nat.zero_le _, Nat.zero_le _, rfl⟩
theorem ShAt.fin {F K : List Int} {L all : List M.Rec} {a b : Nat} (h : ShAt F K L all [] a b) : a = K.length ∧ b = F.length ∧ L = all := by
  have h1 := drop_len h.hf h.hb
  have h2 := drop_len h.hk h.ha
  have h3 := h.out
  simp [evBlks, evF, evK, outBs] at h1 h2 h3
  exact ⟨h2.symm, h1.symm, h3⟩
/-- all that a round needs to know of its block -/
structure ShRound (F K : List Int) (L all : List M.Rec) (blk : Blk) (bs : List Blk) (a b : Nat) : Prop where
  some : 0 < blk.d ∨ blk.s ≠ [] ∨ 0 < blk.m
  drops : ∀ t, t < blk.d → ∃ hi : b + t < F.length, F[b + t] = -1
  dend : ∀ hi : b + blk.d < F.length, 0 ≤ F[b + blk.d]
  rests : ∀ t (ht : t < blk.s.length), ∃ hi : a + t < K.length, K[a + t] = (blk.s[t].toNat : Int)
  rend : ∀ hi : a + blk.s.length < K.length, K[a + blk.s.length] = -1
  keeps : ∀ t, t < blk.m → a + blk.s.length + t < K.length ∧ ∃ hi : b + blk.d + t < F.length, F[b + blk.d + t] = ((a + blk.s.length + t : Nat) : Int)
  kend : ∀ hi : b + blk.d + blk.m < F.length, F[b + blk.d + blk.m] ≠ ((a + blk.s.length + blk.m : Nat) : Int)
  la : a + blk.s.length + blk.m ≤ K.length
  lb : b + blk.d + blk.m ≤ F.length
  next : ShAt F K (L ++ (rDrop blk.d ++ (rRest blk.s ++ rKeep blk.m))) all bs (a + blk.s.length + blk.m) (b + blk.d + blk.m)
theorem ShAt.round {F K : List Int} {L all : List M.Rec} {blk : Blk} {bs : List Blk} {a b : Nat} (h : ShAt F K L all (blk :: bs) a b) : ShRound F K L all blk bs a b := by
  obtain ⟨w1, w2, w3⟩ := wf_tail h.wf
  have hf := h.hf
  have hk := h.hk
  simp only [evBlks, evBlk, List.append_assoc] at hf hk
  rw [evF_rep_d, evF_map_r] at hf
  rw [evK_rep_d, evK_map_r] at hk
  obtain ⟨p1, p2, p3, p4⟩ := drops_at hf h.hb (keep_F _ _ w2 _)
  obtain ⟨q1, q2, q3, q4⟩ := rests_at hk h.ha (keep_K _ _ w2)
  rw [evK_rep_k] at q4
  obtain ⟨r1, r2, r3, r4, r5, r6⟩ := keeps_at p4 q4 p3 q3 w1
  refine ⟨w3, p1, p2, q1, q2, r1, r2, r4, r3, wfT_wf w1, r5, r6, r3, r4, ?_⟩
  have := h.out
  simp only [outBs, outB] at this
  rw [← this]
  simp only [List.append_assoc]
end Go.Proofs.Ytlppphmnegdhoaa
