/-
  Events that lead from a text to another; the short list is short and no longer; blocks in a join: plain mathematics.
-/
import Derived.Test.YtlppphmnegdhoaaPl0
namespace Go.Proofs.Ytlppphmnegdhoaa
set_option linter.unusedVariables false
namespace M

def leadsE : List Ev → List UInt8 → List UInt8 → Prop
  | [], a, b => a = [] ∧ b = []
  | .k :: es, a, b => ∃ c a' b', a = c :: a' ∧ b = c :: b' ∧ leadsE es a' b'
  | .d :: es, a, b => ∃ c b', b = c :: b' ∧ leadsE es a b'
  | .r c :: es, a, b => ∃ a', a = c :: a' ∧ leadsE es a' b
theorem leadsE_eqv {x y : List Ev} (h : Eqv x y) : ∀ a b, leadsE x a b ↔ leadsE y a b := by
  induction h with
  | refl x => intro a b; exact Iff.rfl
  | swap c x =>
    intro a b
    simp only [leadsE]
    constructor
    · rintro ⟨c', b', rfl, a', rfl, h⟩; exact ⟨a', rfl, c', b', rfl, h⟩
    · rintro ⟨a', rfl, c', b', rfl, h⟩; exact ⟨c', b', rfl, a', rfl, h⟩
  | cons e _ ih => intro a b; cases e <;> simp only [leadsE, ih]
  | symm _ ih => intro a b; exact (ih a b).symm
  | trans _ _ ih1 ih2 => intro a b; exact (ih1 a b).trans (ih2 a b)
theorem j_leads : ∀ (es fs : List Ev) (a b c : List UInt8), leadsE es a b → leadsE fs b c → leadsE (joinE es fs) a c
  | .r x :: es, fs, a, b, c, h, g => by
    obtain ⟨a', rfl, h⟩ := h
    rw [j_r]; exact ⟨a', rfl, j_leads es fs _ _ _ h g⟩
  | .k :: es, .d :: fs, a, b, c, h, g => by
    obtain ⟨x, c', rfl, g⟩ := g
    rw [j_kd]; exact ⟨x, c', rfl, j_leads (.k :: es) fs _ _ _ h g⟩
  | .d :: es, .d :: fs, a, b, c, h, g => by
    obtain ⟨x, c', rfl, g⟩ := g
    rw [j_dd]; exact ⟨x, c', rfl, j_leads (.d :: es) fs _ _ _ h g⟩
  | [], .d :: fs, a, b, c, h, g => by
    obtain ⟨x, c', rfl, g⟩ := g
    rw [j_nd]; exact ⟨x, c', rfl, j_leads [] fs _ _ _ h g⟩
  | .k :: es, .k :: fs, a, b, c, h, g => by
    obtain ⟨x, a', b', rfl, rfl, h⟩ := h
    obtain ⟨y, b'', c', e, rfl, g⟩ := g
    simp at e
    obtain ⟨rfl, rfl⟩ := e
    rw [j_kk]; exact ⟨x, a', c', rfl, rfl, j_leads es fs _ _ _ h g⟩
  | .k :: es, .r y :: fs, a, b, c, h, g => by
    obtain ⟨x, a', b', rfl, rfl, h⟩ := h
    obtain ⟨b'', e, g⟩ := g
    simp at e
    obtain ⟨rfl, rfl⟩ := e
    rw [j_kr]; exact ⟨a', rfl, j_leads es fs _ _ _ h g⟩
  | .d :: es, .k :: fs, a, b, c, h, g => by
    obtain ⟨x, b', rfl, h⟩ := h
    obtain ⟨y, b'', c', e, rfl, g⟩ := g
    simp at e
    obtain ⟨rfl, rfl⟩ := e
    rw [j_dk]; exact ⟨x, c', rfl, j_leads es fs _ _ _ h g⟩
  | .d :: es, .r y :: fs, a, b, c, h, g => by
    obtain ⟨x, b', rfl, h⟩ := h
    obtain ⟨b'', e, g⟩ := g
    simp at e
    obtain ⟨rfl, rfl⟩ := e
    rw [j_dr]; exact j_leads es fs _ _ _ h g
  | .k :: es, [], a, b, c, h, g => by
    obtain ⟨x, a', b', rfl, rfl, h⟩ := h
    exact absurd g.1 (by simp)
  | .d :: es, [], a, b, c, h, g => by
    obtain ⟨x, b', rfl, h⟩ := h
    exact absurd g.1 (by simp)
  | [], .k :: fs, a, b, c, h, g => by
    obtain ⟨y, b'', c', rfl, rfl, g⟩ := g
    exact absurd h.2 (by simp)
  | [], .r y :: fs, a, b, c, h, g => by
    obtain ⟨b'', rfl, g⟩ := g
    exact absurd h.2 (by simp)
  | [], [], a, b, c, h, g => by rw [j_nn]; exact ⟨h.1, g.2⟩
termination_by es fs => es.length + fs.length
theorem leadsE_k (n : Nat) (es : List Ev) : ∀ a b, leadsE (List.replicate n .k ++ es) a b ↔ n ≤ a.length ∧ n ≤ b.length ∧ a.take n = b.take n ∧ leadsE es (a.drop n) (b.drop n) := by
  induction n with
  | zero => intro a b; simp
  | succ n ih =>
    intro a b
    rw [List.replicate_succ, List.cons_append]
    simp only [leadsE]
    constructor
    · rintro ⟨c, a', b', rfl, rfl, h⟩
      have := (ih a' b').1 h
      simp; exact this
    · rintro ⟨ha, hb, ht, h⟩
      match a, b, ha, hb with
      | x :: a, y :: b, ha, hb =>
        simp at ha hb ht h
        obtain ⟨rfl, ht⟩ := ht
        exact ⟨x, a, b, rfl, rfl, (ih a b).2 ⟨ha, hb, ht, h⟩⟩
theorem leadsE_d (n : Nat) (es : List Ev) : ∀ a b, leadsE (List.replicate n .d ++ es) a b ↔ n ≤ b.length ∧ leadsE es a (b.drop n) := by
  induction n with
  | zero => intro a b; simp
  | succ n ih =>
    intro a b
    rw [List.replicate_succ, List.cons_append]
    simp only [leadsE]
    constructor
    · rintro ⟨c, b', rfl, h⟩
      have := (ih a b').1 h
      simp; exact this
    · rintro ⟨hb, h⟩
      match b, hb with
      | y :: b, hb =>
        simp at hb h
        exact ⟨y, b, rfl, (ih a b).2 ⟨hb, h⟩⟩
theorem leadsE_r (s : List UInt8) (es : List Ev) : ∀ a b, leadsE (s.map .r ++ es) a b ↔ s.length ≤ a.length ∧ a.take s.length = s ∧ leadsE es (a.drop s.length) b := by
  induction s with
  | nil => intro a b; simp
  | cons c s ih =>
    intro a b
    rw [List.map_cons, List.cons_append]
    simp only [leadsE]
    constructor
    · rintro ⟨a', rfl, h⟩
      have := (ih a' b).1 h
      simp; exact this
    · rintro ⟨ha, ht, h⟩
      cases a with
      | nil => simp at ha
      | cons x a =>
        simp at ha ht h
        obtain ⟨h1, ht⟩ := ht
        subst h1
        exact ⟨a, rfl, (ih a b).2 ⟨ha, ht, h⟩⟩

/-- blocks in a join -/
theorem j_rs (s : List UInt8) (es fs : List Ev) : joinE (s.map .r ++ es) fs = s.map .r ++ joinE es fs := by
  induction s with
  | nil => rfl
  | cons c s ih => rw [List.map_cons, List.cons_append, j_r, ih]; rfl
theorem j_ds (n : Nat) (es fs : List Ev) (h : ∀ c x, es ≠ .r c :: x) : joinE es (List.replicate n .d ++ fs) = List.replicate n .d ++ joinE es fs := by
  induction n with
  | zero => rfl
  | succ n ih =>
    rw [List.replicate_succ, List.cons_append, List.cons_append, ← ih]
    match es, h with
    | [], h => rw [j_nd]
    | .k :: x, h => rw [j_kd]
    | .d :: x, h => rw [j_dd]
    | .r c :: x, h => exact absurd rfl (h c x)
theorem j_kkn (n : Nat) (es fs : List Ev) : joinE (List.replicate n .k ++ es) (List.replicate n .k ++ fs) = List.replicate n .k ++ joinE es fs := by
  induction n with
  | zero => rfl
  | succ n ih => simp only [List.replicate_succ, List.cons_append]; rw [j_kk, ih]
theorem j_krn (s : List UInt8) (es fs : List Ev) : joinE (List.replicate s.length .k ++ es) (s.map .r ++ fs) = s.map .r ++ joinE es fs := by
  induction s with
  | nil => rfl
  | cons c s ih => simp only [List.length_cons, List.replicate_succ, List.map_cons, List.cons_append]; rw [j_kr, ih]
theorem j_dkn (n : Nat) (es fs : List Ev) : joinE (List.replicate n .d ++ es) (List.replicate n .k ++ fs) = List.replicate n .d ++ joinE es fs := by
  induction n with
  | zero => rfl
  | succ n ih => simp only [List.replicate_succ, List.cons_append]; rw [j_dk, ih]
theorem j_drn (s : List UInt8) (es fs : List Ev) : joinE (List.replicate s.length .d ++ es) (s.map .r ++ fs) = joinE es fs := by
  induction s with
  | nil => rfl
  | cons c s ih => simp only [List.length_cons, List.replicate_succ, List.map_cons, List.cons_append]; rw [j_dr, ih]

/-- the short list is no longer -/
def kN (k m : Nat) : Nat := if m = 0 then 0 else (numE (4 * m + k)).length
theorem numE_lens (v : Nat) : (numE v).length = if v < 128 then 1 else if v < 16384 then 2 else 3 := by
  unfold numE; repeat' split
  all_goals simp_all
theorem kN_sub (k m n : Nat) (hk : k < 4) : kN k (m + n) ≤ kN k m + kN k n := by
  unfold kN
  simp only [numE_lens]
  repeat' split
  all_goals omega
theorem len_K (m : Nat) : (recsE (rKeep m)).length = kN 0 m := by
  unfold rKeep kN
  split
  · rename_i h; simp [recsE]
  · rw [recsE_cons]
    simp only [recE, recsE, List.map_nil, List.flatten_nil, List.append_nil]
    have e : (4 * (m : Int) + 0).toNat = 4 * m + 0 := by omega
    rw [e]
theorem len_D (m : Nat) : (recsE (rDrop m)).length = kN 1 m := by
  unfold rDrop kN
  split
  · rename_i h; simp [recsE]
  · rw [recsE_cons]
    simp only [recE, recsE, List.map_nil, List.flatten_nil, List.append_nil]
    have e : (4 * (m : Int) + 1).toNat = 4 * m + 1 := by omega
    rw [e]
theorem len_R (s : List UInt8) : (recsE (rRest s)).length = kN 2 s.length + s.length := by
  unfold rRest kN
  by_cases h : s = []
  · subst h; simp [recsE]
  · have : ¬ s.length = 0 := by intro h2; exact h (List.length_eq_zero_iff.1 h2)
    rw [if_neg h, if_neg this, recsE_cons]
    simp only [recE, recsE, List.map_nil, List.flatten_nil, List.append_nil, List.length_append]
    have e : (4 * (s.length : Int) + 2).toNat = 4 * s.length + 2 := by omega
    rw [e]
theorem SL.cost (S : SL) : (recsE S.fin).length = (recsE S.out).length + kN 0 S.m + kN 1 S.d + (kN 2 S.s.length + S.s.length) := by
  unfold SL.fin
  simp only [recsE_append, List.length_append, len_K, len_D, len_R]
  omega
theorem recE_kN (r : Rec) (h : okRec r = true) : (recE r).length = kN r.kind.toNat r.n.toNat + r.s.size := by
  have hk := (okRec_iff r).1 h
  unfold recE kN
  rw [if_neg (by omega), List.length_append, ba_len, show (4 * r.n + r.kind).toNat = 4 * r.n.toNat + r.kind.toNat by omega]
theorem SL.cost_add (S : SL) (r : Rec) (h : okRec r = true) : (recsE (S.add r).fin).length ≤ (recsE S.fin).length + (recE r).length := by
  have hk := (okRec_iff r).1 h
  have hl := ba_len r.s
  have z1 : kN 1 0 = 0 := rfl
  have z2 : kN 2 0 = 0 := rfl
  rw [recE_kN r h]
  have hc := SL.cost S
  by_cases h0 : r.kind = 0
  · have e0 : r.kind.toNat = 0 := by omega
    have e : S.add r = if 0 < S.d ∨ S.s ≠ [] then ⟨S.fin, r.n.toNat, 0, []⟩ else ⟨S.out, S.m + r.n.toNat, S.d, S.s⟩ := if_pos h0
    rw [e, e0]
    split
    · have c2 := SL.cost ⟨S.fin, r.n.toNat, 0, []⟩
      simp only [List.length_nil] at c2
      omega
    · have c2 := SL.cost ⟨S.out, S.m + r.n.toNat, S.d, S.s⟩
      have := kN_sub 0 S.m r.n.toNat (by omega)
      simp only at c2
      omega
  · by_cases h1 : r.kind = 1
    · have e0 : r.kind.toNat = 1 := by omega
      have e : S.add r = ⟨S.out, S.m, S.d + r.n.toNat, S.s⟩ := (if_neg h0).trans (if_pos h1)
      have c2 := SL.cost ⟨S.out, S.m, S.d + r.n.toNat, S.s⟩
      have := kN_sub 1 S.d r.n.toNat (by omega)
      simp only at c2
      rw [e, e0]
      omega
    · have e0 : r.kind.toNat = 2 := by omega
      have e : S.add r = ⟨S.out, S.m, S.d, S.s ++ r.s.data.toList⟩ := (if_neg h0).trans (if_neg h1)
      have c2 := SL.cost ⟨S.out, S.m, S.d, S.s ++ r.s.data.toList⟩
      have hs := kN_sub 2 S.s.length r.s.data.toList.length (by omega)
      have e3 : r.n.toNat = r.s.data.toList.length := by omega
      simp only [List.length_append] at c2
      rw [e, e0, e3]
      omega
def SL.adds (S : SL) (l : List Rec) : SL := l.foldl SL.add S
theorem SL.adds_is (l : List Rec) : ∀ (S : SL) (es : List Ev), okAll l → S.Is es → (S.adds l).Is (es ++ expL l) ∧ (recsE (S.adds l).fin).length ≤ (recsE S.fin).length + (recsE l).length := by
  induction l with
  | nil => intro S es _ h; simp only [SL.adds, List.foldl_nil, expL, List.append_nil]; exact ⟨h, by omega⟩
  | cons r l ih =>
    intro S es ho h
    have g := SL.is_add h (okAll_cons ho).1
    have c := S.cost_add r (okAll_cons ho).1
    obtain ⟨h1, h2⟩ := ih (S.add r) (es ++ expR r) (okAll_cons ho).2 g
    rw [List.append_assoc] at h1
    refine ⟨h1, ?_⟩
    rw [recsE_cons, List.length_append]
    have h3 : (recsE (S.adds (r :: l)).fin).length ≤ (recsE (S.add r).fin).length + (recsE l).length := h2
    omega
theorem norm_bytes (l : List Rec) (h : okAll l) : (recsE (norm (expL l))).length ≤ (recsE l).length := by
  obtain ⟨h1, h2⟩ := SL.adds_is l ⟨[], 0, 0, []⟩ [] h SL.is_nil
  rw [SL.is_fin h1, List.nil_append] at h2
  have h3 : (recsE (SL.fin ⟨[], 0, 0, []⟩)).length = 0 := rfl
  omega

/-- the short list is short -/
def chainK (k : Int) : List Rec → Prop
  | [] => True
  | r :: l => (k ≠ r.kind ∧ ¬ (k = 2 ∧ r.kind = 1)) ∧ chainK r.kind l
theorem chain_tail (bs : List Blk) : wfTail bs → chainK 0 (outBs bs) := by
  induction bs with
  | nil => intro _; trivial
  | cons b bs ih =>
    intro h
    have hb : (0 < b.d ∨ b.s ≠ []) ∧ (bs = [] ∨ 0 < b.m) ∧ wfTail bs := by
      cases bs with
      | nil => exact ⟨h, .inl rfl, trivial⟩
      | cons c l => exact ⟨h.1, .inr h.2.1, h.2.2⟩
    obtain ⟨h1, h2, h3⟩ := hb
    have ih := ih h3
    have h4 : outBs bs = [] ∨ 0 < b.m := h2.imp (fun e => by rw [e]; rfl) id
    rcases b with ⟨d, s, m⟩
    simp only [outBs, outB, rDrop, rRest, rKeep]
    generalize outBs bs = t at *
    by_cases hd : d = 0 <;> by_cases hs : s = [] <;> by_cases hm : m = 0 <;> simp [hd, hs, hm, chainK] <;> simp [hd, hs, hm] at h1 h4 <;> first | (subst h4; trivial) | exact ih
theorem chain_norm (es : List Ev) : chainK (-1) (norm es) := by
  unfold norm
  have hw := nb_wf es 0 [] 0
  generalize nb 0 [] 0 es = bs at hw
  cases bs with
  | nil => trivial
  | cons b bs =>
    have hb : (bs = [] ∨ 0 < b.m) ∧ wfTail bs := by
      cases bs with
      | nil => exact ⟨.inl rfl, trivial⟩
      | cons c l => exact ⟨.inr hw.1, hw.2⟩
    obtain ⟨h2, h3⟩ := hb
    have ih := chain_tail bs h3
    have h4 : outBs bs = [] ∨ 0 < b.m := h2.imp (fun e => by rw [e]; rfl) id
    clear hw
    rcases b with ⟨d, s, m⟩
    simp only [outBs, outB, rDrop, rRest, rKeep]
    generalize outBs bs = t at *
    by_cases hd : d = 0 <;> by_cases hs : s = [] <;> by_cases hm : m = 0 <;> simp [hd, hs, hm, chainK] <;> first | exact ih | (have h5 : t = [] := h4.resolve_right (by simp only; omega); subst h5; trivial)
theorem chain_get (l : List Rec) : ∀ k, chainK k l → ∀ i, (h : i + 1 < l.length) → l[i].kind ≠ l[i + 1].kind ∧ ¬ (l[i].kind = 2 ∧ l[i + 1].kind = 1) := by
  induction l with
  | nil => intro k _ i h; simp at h
  | cons r l ih =>
    intro k hc i h
    cases i with
    | zero =>
      cases l with
      | nil => simp at h
      | cons q l => exact hc.2.1
    | succ i => exact ih r.kind hc.2 i (by simpa using h)
end M
end Go.Proofs.Ytlppphmnegdhoaa
