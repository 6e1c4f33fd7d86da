/-
  The document's places: spread, short, joined, as functions of lists: plain mathematics.
-/
import Derived.Test.YtlppphmnegdhoaaEvj
namespace Go.Proofs.Ytlppphmnegdhoaa
set_option linter.unusedVariables false
namespace M

/-- what 'joined' writes into From -/
def jF (xf : List Int) (i : Int) : Int := if 0 ≤ i then xf.getD i.toNat (-1) else -1
theorem jF_neg (xf : List Int) : jF xf (-1) = -1 := by simp [jF]
def jG (b : Nat) (xf : List Int) (i : Int) : Int := if 0 ≤ i then xf.getD (i.toNat - b) (-1) else -1
theorem evF_ge (es : List Ev) : ∀ a, ∀ i ∈ evF a es, i = -1 ∨ (a : Int) ≤ i := by
  induction es with
  | nil => intro a i h; cases h
  | cons e es ih =>
    intro a i h
    cases e with
    | k =>
      simp only [evF, List.mem_cons] at h
      rcases h with rfl | h
      · exact .inr (Int.le_refl _)
      · have := ih _ i h; omega
    | d =>
      simp only [evF, List.mem_cons] at h
      rcases h with rfl | h
      · exact .inl rfl
      · exact ih _ i h
    | r c => have := ih _ i h; omega
theorem evF_lt (es : List Ev) : ∀ a, ∀ i ∈ evF a es, i < a + evA es := by
  induction es with
  | nil => intro a i h; cases h
  | cons e es ih =>
    intro a i h
    cases e with
    | k =>
      simp only [evF, List.mem_cons] at h
      simp only [evA]
      rcases h with rfl | h
      · omega
      · have := ih _ i h; omega
    | d =>
      simp only [evF, List.mem_cons] at h
      simp only [evA]
      rcases h with rfl | h
      · omega
      · exact ih _ i h
    | r c => have := ih _ i h; simp only [evA]; omega
theorem jG_step (b : Nat) (x : Int) (xf : List Int) (l : List Int) (h : ∀ i ∈ l, i = -1 ∨ ((b + 1 : Nat) : Int) ≤ i) : l.map (jG b (x :: xf)) = l.map (jG (b + 1) xf) := by
  apply List.map_congr_left
  intro i hi
  rcases h i hi with rfl | h
  · simp [jG]
  · have e : i.toNat - b = (i.toNat - (b + 1)) + 1 := by omega
    simp only [jG, e]
    simp
theorem joinF : ∀ (es fs : List Ev) (a b : Nat), evB es = evA fs → evF a (joinE es fs) = (evF b fs).map (jG b (evF a es))
  | .r c :: es, fs, a, b, h => by
    rw [j_r]; simp only [evF]
    exact joinF es fs (a + 1) b (by simpa [evB] using h)
  | .k :: es, .d :: fs, a, b, h => by
    have := joinF (.k :: es) fs a b (by simpa [evA] using h)
    rw [j_kd]; simp only [evF, List.map_cons] at this ⊢; rw [this]; simp [jG]
  | .d :: es, .d :: fs, a, b, h => by
    have := joinF (.d :: es) fs a b (by simpa [evA] using h)
    rw [j_dd]; simp only [evF, List.map_cons] at this ⊢; rw [this]; simp [jG]
  | [], .d :: fs, a, b, h => by
    have := joinF [] fs a b (by simpa [evA] using h)
    rw [j_nd]; simp only [evF, List.map_cons] at this ⊢; rw [this]; simp [jG]
  | .k :: es, .k :: fs, a, b, h => by
    have := joinF es fs (a + 1) (b + 1) (by simp only [evA, evB] at h; omega)
    rw [j_kk]; simp only [evF, List.map_cons]
    rw [jG_step _ _ _ _ (evF_ge fs (b + 1)), ← this]
    simp [jG]
  | .k :: es, .r c :: fs, a, b, h => by
    have := joinF es fs (a + 1) (b + 1) (by simp only [evA, evB] at h; omega)
    rw [j_kr]; simp only [evF]
    rw [jG_step _ _ _ _ (evF_ge fs (b + 1)), ← this]
  | .d :: es, .k :: fs, a, b, h => by
    have := joinF es fs a (b + 1) (by simp only [evA, evB] at h; omega)
    rw [j_dk]; simp only [evF, List.map_cons]
    rw [jG_step _ _ _ _ (evF_ge fs (b + 1)), ← this]
    simp [jG]
  | .d :: es, .r c :: fs, a, b, h => by
    have := joinF es fs a (b + 1) (by simp only [evA, evB] at h; omega)
    rw [j_dr]; simp only [evF]
    rw [jG_step _ _ _ _ (evF_ge fs (b + 1)), ← this]
  | .k :: es, [], a, b, h => by simp [evA, evB] at h
  | .d :: es, [], a, b, h => by simp [evA, evB] at h
  | [], .k :: fs, a, b, h => by simp [evA, evB] at h
  | [], .r c :: fs, a, b, h => by simp [evA, evB] at h
  | [], [], a, b, h => by simp [evF]
termination_by es fs => es.length + fs.length
theorem join_from (es fs : List Ev) (h : evB es = evA fs) : evF 0 (joinE es fs) = (evF 0 fs).map (jF (evF 0 es)) := by
  rw [joinF es fs 0 0 h]
  apply List.map_congr_left
  intro i hi
  simp [jF, jG]

/-- what 'joined' writes into Back -/
def setF : List Int → List Int → List Int → List Int
  | z, [], _ => z
  | z, _, [] => z
  | z, i :: xf, v :: yb => setF (if 0 ≤ i then z.set i.toNat v else z) xf yb
def kk : List Ev → List Int → List Int
  | [], _ => []
  | .r c :: es, yb => (c.toNat : Int) :: kk es yb
  | .k :: es, v :: yb => v :: kk es yb
  | .d :: es, _ :: yb => kk es yb
  | .k :: es, [] => []
  | .d :: es, [] => []
theorem setF_kk (es : List Ev) : ∀ (pre yb : List Int), evB es = yb.length → setF (pre ++ evK es) (evF pre.length es) yb = pre ++ kk es yb := by
  induction es with
  | nil => intro pre yb h; simp [evF, evK, setF, kk]
  | cons e es ih =>
    intro pre yb h
    cases e with
    | r c =>
      have := ih (pre ++ [(c.toNat : Int)]) yb h
      simp only [List.length_append, List.length_cons, List.length_nil, List.append_assoc, List.cons_append, List.nil_append] at this
      simpa [evF, evK, kk] using this
    | k =>
      match yb, h with
      | [], h => simp [evB] at h
      | v :: yb, h =>
        have := ih (pre ++ [v]) yb (by simpa [evB] using h)
        simp only [List.length_append, List.length_cons, List.length_nil, List.append_assoc, List.cons_append, List.nil_append] at this
        simp only [evF, evK, setF, kk]
        rw [if_pos (by omega), ← this]
        congr 1
        simp
    | d =>
      match yb, h with
      | [], h => simp [evB] at h
      | v :: yb, h =>
        have := ih pre yb (by simpa [evB] using h)
        simp only [evF, evK, setF, kk]
        rw [if_neg (by omega), this]
theorem kk_join : ∀ (es fs : List Ev), evB es = evA fs → evK (joinE es fs) = kk es (evK fs)
  | .r c :: es, fs, h => by
    rw [j_r]; simp only [evK, kk]; rw [kk_join es fs (by simpa [evB] using h)]
  | .k :: es, .d :: fs, h => by
    have := kk_join (.k :: es) fs (by simpa [evA] using h)
    rw [j_kd]; simp only [evK]; exact this
  | .d :: es, .d :: fs, h => by
    have := kk_join (.d :: es) fs (by simpa [evA] using h)
    rw [j_dd]; simp only [evK]; exact this
  | [], .d :: fs, h => by
    have := kk_join [] fs (by simpa [evA] using h)
    rw [j_nd]; simp only [evK]; exact this
  | .k :: es, .k :: fs, h => by
    have := kk_join es fs (by simp only [evA, evB] at h; omega)
    rw [j_kk]; simp only [evK, kk]; rw [this]
  | .k :: es, .r c :: fs, h => by
    have := kk_join es fs (by simp only [evA, evB] at h; omega)
    rw [j_kr]; simp only [evK, kk]; rw [this]
  | .d :: es, .k :: fs, h => by
    have := kk_join es fs (by simp only [evA, evB] at h; omega)
    rw [j_dk]; simp only [evK, kk]; exact this
  | .d :: es, .r c :: fs, h => by
    have := kk_join es fs (by simp only [evA, evB] at h; omega)
    rw [j_dr]; simp only [evK, kk]; exact this
  | .k :: es, [], h => by simp [evA, evB] at h
  | .d :: es, [], h => by simp [evA, evB] at h
  | [], .k :: fs, h => by simp [evA, evB] at h
  | [], .r c :: fs, h => by simp [evA, evB] at h
  | [], [], h => by simp [evK, kk]
termination_by es fs => es.length + fs.length
theorem join_back (es fs : List Ev) (h : evB es = evA fs) : setF (evK es) (evF 0 es) (evK fs) = evK (joinE es fs) := by
  have := setF_kk es [] (evK fs) (by rw [evK_len]; exact h)
  rw [kk_join es fs h]
  exact this
theorem setF_drop (z xf yb : List Int) (b : Nat) (h : b < xf.length) (g : b < yb.length) : setF z (xf.drop b) (yb.drop b) = setF (if 0 ≤ xf[b] then z.set xf[b].toNat yb[b] else z) (xf.drop (b + 1)) (yb.drop (b + 1)) := by
  rw [List.drop_eq_getElem_cons h, List.drop_eq_getElem_cons g]; rfl

/-- what stands in From and Back of blocks -/
theorem evF_rep_d (n a : Nat) (x : List Ev) : evF a (List.replicate n .d ++ x) = List.replicate n (-1) ++ evF a x := by
  induction n with
  | zero => rfl
  | succ n ih => simp [List.replicate_succ, evF, ih]
theorem evK_rep_d (n : Nat) (x : List Ev) : evK (List.replicate n .d ++ x) = evK x := by
  induction n with
  | zero => rfl
  | succ n ih => simp [List.replicate_succ, evK, ih]
theorem evF_map_r (s : List UInt8) (x : List Ev) : ∀ a, evF a (s.map .r ++ x) = evF (a + s.length) x := by
  induction s with
  | nil => intro a; rfl
  | cons c s ih => intro a; simp [evF, ih]; congr 1; omega
theorem evK_map_r (s : List UInt8) (x : List Ev) : evK (s.map .r ++ x) = s.map (fun c => (c.toNat : Int)) ++ evK x := by
  induction s with
  | nil => rfl
  | cons c s ih => simp [evK, ih]
theorem evK_rep_k (n : Nat) (x : List Ev) : evK (List.replicate n .k ++ x) = List.replicate n (-1) ++ evK x := by
  induction n with
  | zero => rfl
  | succ n ih => simp [List.replicate_succ, evK, ih]
theorem tail_F (bs : List Blk) (h : wfTail bs) (a : Nat) : (evF a (evBlks bs)).head? ≠ some (a : Int) := by
  match bs, h with
  | [], _ => simp [evBlks, evF]
  | b :: bs, h =>
    simp only [evBlks, evBlk, List.append_assoc]
    rw [evF_rep_d, evF_map_r]
    by_cases hd : b.d = 0
    · have hs : b.s ≠ [] := by
        cases bs with
        | nil => rcases h with h | h; · omega
                 · exact h
        | cons c l => rcases h.1 with h | h; · omega
                      · exact h
      have : 0 < b.s.length := List.length_pos_iff.2 hs
      rw [hd]
      simp only [List.replicate_zero, List.nil_append]
      intro e
      have m := List.mem_of_mem_head? e
      have := evF_ge _ _ _ m
      omega
    · obtain ⟨n, hn⟩ := Nat.exists_eq_succ_of_ne_zero hd
      rw [hn]; simp [List.replicate_succ]
theorem keep_F (m : Nat) (bs : List Blk) (hm : 0 < m ∨ bs = []) (a : Nat) : ∀ i, (evF a (List.replicate m .k ++ evBlks bs)).head? = some i → 0 ≤ i := by
  intro i h
  rcases hm with hm | rfl
  · obtain ⟨n, rfl⟩ := Nat.exists_eq_succ_of_ne_zero (by omega : m ≠ 0)
    simp [List.replicate_succ, evF] at h; omega
  · cases m with
    | zero => simp [evBlks, evF] at h
    | succ n => simp [List.replicate_succ, evF] at h; omega
theorem keep_K (m : Nat) (bs : List Blk) (hm : 0 < m ∨ bs = []) : ∀ i, (evK (List.replicate m .k ++ evBlks bs)).head? = some i → i = -1 := by
  intro i h
  rcases hm with hm | rfl
  · obtain ⟨n, rfl⟩ := Nat.exists_eq_succ_of_ne_zero (by omega : m ≠ 0)
    simp [List.replicate_succ, evK] at h; omega
  · cases m with
    | zero => simp [evBlks, evK] at h
    | succ n => simp [List.replicate_succ, evK] at h; omega
/-- the blocks that are left -/
def wfLeft (bs : List Blk) : Prop := wfBlks bs
theorem wf_tail {b : Blk} {bs : List Blk} (h : wfBlks (b :: bs)) : wfTail bs ∧ (0 < b.m ∨ bs = []) ∧ (0 < b.d ∨ b.s ≠ [] ∨ 0 < b.m) := by
  cases bs with
  | nil => exact ⟨trivial, .inr rfl, h⟩
  | cons c l => exact ⟨h.2, .inl h.1, .inr (.inr h.1)⟩
theorem wfT_wf {bs : List Blk} (h : wfTail bs) : wfBlks bs := by
  cases bs with
  | nil => trivial
  | cons b l =>
    cases l with
    | nil => rcases h with h | h
             · exact .inl h
             · exact .inr (.inl h)
    | cons c l => exact ⟨h.2.1, h.2.2⟩
end M
end Go.Proofs.Ytlppphmnegdhoaa
