/-
  Lists of records place by place: events, the short list by blocks, joining: plain mathematics.
-/
import Derived.Test.YtlppphmnegdhoaaMath
namespace Go.Proofs.Ytlppphmnegdhoaa
set_option linter.unusedVariables false
namespace M

inductive Ev where
  | k : Ev
  | d : Ev
  | r : UInt8 → Ev

def expR (r : Rec) : List Ev := if r.kind = 0 then List.replicate r.n.toNat .k else if r.kind = 1 then List.replicate r.n.toNat .d else r.s.data.toList.map .r
def expL : List Rec → List Ev
  | [] => []
  | r :: l => expR r ++ expL l
theorem expL_append (l m : List Rec) : expL (l ++ m) = expL l ++ expL m := by
  induction l with
  | nil => rfl
  | cons r l ih => simp [expL, ih]

/-- of each place of B the place of A, or -1 -/
def evF : Nat → List Ev → List Int
  | _, [] => []
  | a, .k :: es => (a : Int) :: evF (a + 1) es
  | a, .d :: es => -1 :: evF a es
  | a, .r _ :: es => evF (a + 1) es
/-- of each place of A the byte, or -1 -/
def evK : List Ev → List Int
  | [] => []
  | .k :: es => -1 :: evK es
  | .d :: es => evK es
  | .r c :: es => (c.toNat : Int) :: evK es
def evA : List Ev → Nat
  | [] => 0
  | .d :: es => evA es
  | .k :: es => evA es + 1
  | .r _ :: es => evA es + 1
def evB : List Ev → Nat
  | [] => 0
  | .d :: es => evB es + 1
  | .k :: es => evB es + 1
  | .r _ :: es => evB es
theorem evA_append (x y : List Ev) : evA (x ++ y) = evA x + evA y := by
  induction x with
  | nil => simp [evA]
  | cons e x ih => cases e <;> simp [evA, ih] <;> omega
theorem evB_append (x y : List Ev) : evB (x ++ y) = evB x + evB y := by
  induction x with
  | nil => simp [evB]
  | cons e x ih => cases e <;> simp [evB, ih] <;> omega
theorem evF_append (x y : List Ev) : ∀ a, evF a (x ++ y) = evF a x ++ evF (a + evA x) y := by
  induction x with
  | nil => intro a; simp [evF, evA]
  | cons e x ih => intro a; cases e <;> simp [evF, evA, ih] <;> congr 1 <;> omega
theorem evK_append (x y : List Ev) : evK (x ++ y) = evK x ++ evK y := by
  induction x with
  | nil => rfl
  | cons e x ih => cases e <;> simp [evK, ih]
theorem evF_len (x : List Ev) : ∀ a, (evF a x).length = evB x := by
  induction x with
  | nil => intro a; rfl
  | cons e x ih => intro a; cases e <;> simp [evF, evB, ih]
theorem evK_len (x : List Ev) : (evK x).length = evA x := by
  induction x with
  | nil => rfl
  | cons e x ih => cases e <;> simp [evK, evA, ih]
theorem ev_rep_k (n : Nat) : evA (List.replicate n .k) = n ∧ evB (List.replicate n .k) = n := by
  induction n with
  | zero => exact ⟨rfl, rfl⟩
  | succ n ih => simp [List.replicate_succ, evA, evB, ih]
theorem ev_rep_d (n : Nat) : evA (List.replicate n .d) = 0 ∧ evB (List.replicate n .d) = n := by
  induction n with
  | zero => exact ⟨rfl, rfl⟩
  | succ n ih => simp [List.replicate_succ, evA, evB, ih]
theorem ev_map_r (s : List UInt8) : evA (s.map .r) = s.length ∧ evB (s.map .r) = 0 := by
  induction s with
  | nil => exact ⟨rfl, rfl⟩
  | cons c s ih => simp [evA, evB, ih]
theorem expR_len (r : Rec) (h : okRec r = true) : (evA (expR r) : Int) = inA r ∧ (evB (expR r) : Int) = inB r := by
  have hk := (okRec_iff r).1 h
  have hl := ba_len r.s
  unfold expR inA inB
  by_cases h0 : r.kind = 0
  · simp [h0, ev_rep_k]; omega
  · by_cases h1 : r.kind = 1
    · simp [h1, ev_rep_d]; omega
    · have h2 : r.kind = 2 := by omega
      simp [h2, ev_map_r]; omega
theorem expL_len (l : List Rec) (h : okAll l) : (evA (expL l) : Int) = lenA l ∧ (evB (expL l) : Int) = lenB l := by
  induction l with
  | nil => exact ⟨rfl, rfl⟩
  | cons r l ih =>
    have hr := expR_len r (okAll_cons h).1
    have hl := ih (okAll_cons h).2
    simp only [expL, evA_append, evB_append, lenA, lenB]
    omega

/-- the same but for the order of Drops and Restores -/
inductive Eqv : List Ev → List Ev → Prop
  | refl (x) : Eqv x x
  | swap (c x) : Eqv (.d :: .r c :: x) (.r c :: .d :: x)
  | cons (e) {x y} : Eqv x y → Eqv (e :: x) (e :: y)
  | symm {x y} : Eqv x y → Eqv y x
  | trans {x y z} : Eqv x y → Eqv y z → Eqv x z
theorem Eqv.pre (p : List Ev) {x y : List Ev} (h : Eqv x y) : Eqv (p ++ x) (p ++ y) := by
  induction p with
  | nil => exact h
  | cons e p ih => exact .cons e ih
theorem Eqv.post {x y : List Ev} (h : Eqv x y) (q : List Ev) : Eqv (x ++ q) (y ++ q) := by
  induction h with
  | refl x => exact .refl _
  | swap c x => exact .swap c _
  | cons e _ ih => exact .cons e ih
  | symm _ ih => exact .symm ih
  | trans _ _ ih1 ih2 => exact .trans ih1 ih2
theorem eqv_d_map (s : List UInt8) (x : List Ev) : Eqv (.d :: (s.map .r ++ x)) (s.map .r ++ .d :: x) := by
  induction s with
  | nil => exact .refl _
  | cons c s ih => exact .trans (.swap c _) (.cons _ ih)
theorem eqv_r_rep (c : UInt8) (n : Nat) (x : List Ev) : Eqv (.r c :: (List.replicate n .d ++ x)) (List.replicate n .d ++ .r c :: x) := by
  induction n with
  | zero => exact .refl _
  | succ n ih => exact .trans (.symm (.swap c _)) (.cons _ ih)
theorem eqv_turn (n : Nat) (s : List UInt8) (x : List Ev) : Eqv (List.replicate n .d ++ (s.map .r ++ x)) (s.map .r ++ (List.replicate n .d ++ x)) := by
  induction n with
  | zero => exact .refl _
  | succ n ih => exact .trans (.cons _ ih) (eqv_d_map s _)
theorem Eqv.F {x y : List Ev} (h : Eqv x y) : ∀ a, evF a x = evF a y := by
  induction h with
  | refl x => intro a; rfl
  | swap c x => intro a; simp [evF]
  | cons e _ ih => intro a; cases e <;> simp [evF, ih]
  | symm _ ih => intro a; exact (ih a).symm
  | trans _ _ ih1 ih2 => intro a; exact (ih1 a).trans (ih2 a)
theorem Eqv.K {x y : List Ev} (h : Eqv x y) : evK x = evK y := by
  induction h with
  | refl x => rfl
  | swap c x => simp [evK]
  | cons e _ ih => cases e <;> simp [evK, ih]
  | symm _ ih => exact ih.symm
  | trans _ _ ih1 ih2 => exact ih1.trans ih2
theorem Eqv.A {x y : List Ev} (h : Eqv x y) : evA x = evA y := by rw [← evK_len, ← evK_len, h.K]
theorem Eqv.B {x y : List Ev} (h : Eqv x y) : evB x = evB y := by rw [← evF_len _ 0, ← evF_len _ 0, h.F]

/-- blocks: a Drop, a Restore, a Keep -/
structure Blk where
  d : Nat
  s : List UInt8
  m : Nat
def nb (d : Nat) (s : List UInt8) (m : Nat) : List Ev → List Blk
  | [] => if d = 0 ∧ s = [] ∧ m = 0 then [] else [⟨d, s, m⟩]
  | .k :: es => nb d s (m + 1) es
  | .d :: es => if m = 0 then nb (d + 1) s 0 es else ⟨d, s, m⟩ :: nb 1 [] 0 es
  | .r c :: es => if m = 0 then nb d (s ++ [c]) 0 es else ⟨d, s, m⟩ :: nb 0 [c] 0 es
def evBlk (b : Blk) : List Ev := List.replicate b.d .d ++ (b.s.map .r ++ List.replicate b.m .k)
def evBlks : List Blk → List Ev
  | [] => []
  | b :: l => evBlk b ++ evBlks l
def rDrop (d : Nat) : List Rec := if d = 0 then [] else [⟨1, d, ⟨#[]⟩⟩]
def rRest (s : List UInt8) : List Rec := if s = [] then [] else [⟨2, s.length, ⟨⟨s⟩⟩⟩]
def rKeep (m : Nat) : List Rec := if m = 0 then [] else [⟨0, m, ⟨#[]⟩⟩]
def outB (b : Blk) : List Rec := rDrop b.d ++ (rRest b.s ++ rKeep b.m)
def outBs : List Blk → List Rec
  | [] => []
  | b :: l => outB b ++ outBs l
/-- the short list -/
def norm (es : List Ev) : List Rec := outBs (nb 0 [] 0 es)

theorem nb_eqv (es : List Ev) : ∀ d s m, Eqv (List.replicate d .d ++ (s.map .r ++ (List.replicate m .k ++ es))) (evBlks (nb d s m es)) := by
  induction es with
  | nil =>
    intro d s m
    simp only [nb]
    split
    · rename_i h; obtain ⟨rfl, rfl, rfl⟩ := h; exact .refl _
    · simp only [evBlks, evBlk, List.append_nil]; exact .refl _
  | cons e es ih =>
    intro d s m
    cases e with
    | k =>
      simp only [nb]
      have := ih d s (m + 1)
      rw [List.replicate_succ', List.append_assoc] at this
      exact this
    | d =>
      simp only [nb]
      split
      · rename_i h; subst h
        refine .trans ?_ (ih (d + 1) s 0)
        rw [List.replicate_succ', List.append_assoc]
        exact .pre _ (.symm (eqv_d_map s _))
      · have := ih 1 [] 0
        simp only [evBlks, evBlk, List.append_assoc]
        exact .pre _ (.pre _ (.pre _ this))
    | r c =>
      simp only [nb]
      split
      · rename_i h; subst h
        have := ih d (s ++ [c]) 0
        simp only [List.map_append, List.append_assoc] at this
        exact this
      · have := ih 0 [c] 0
        simp only [evBlks, evBlk, List.append_assoc]
        exact .pre _ (.pre _ (.pre _ this))
theorem nb_can (es : List Ev) : Eqv es (evBlks (nb 0 [] 0 es)) := nb_eqv es 0 [] 0

theorem Eqv.nb {x y : List Ev} (h : Eqv x y) : ∀ d s m, M.nb d s m x = M.nb d s m y := by
  induction h with
  | refl x => intro d s m; rfl
  | swap c x =>
    intro d s m
    by_cases h : m = 0
    · subst h; simp [M.nb]
    · simp [M.nb, h]
  | cons e _ ih => intro d s m; cases e <;> simp [M.nb, ih]
  | symm _ ih => intro d s m; exact (ih d s m).symm
  | trans _ _ ih1 ih2 => intro d s m; exact (ih1 d s m).trans (ih2 d s m)
theorem Eqv.norm {x y : List Ev} (h : Eqv x y) : M.norm x = M.norm y := by unfold M.norm; rw [h.nb]

theorem exp_outB (b : Blk) : expL (outB b) = evBlk b := by
  unfold outB evBlk rDrop rRest rKeep
  simp only [expL_append]
  congr 1
  · split
    · rename_i h; simp [h, expL]
    · simp [expL, expR]
  congr 1
  · split
    · rename_i h; simp [h, expL]
    · simp [expL, expR]
  · split
    · rename_i h; simp [h, expL]
    · simp [expL, expR]
theorem exp_outBs (l : List Blk) : expL (outBs l) = evBlks l := by
  induction l with
  | nil => rfl
  | cons b l ih => simp only [outBs, evBlks, expL_append, exp_outB, ih]
theorem exp_norm (es : List Ev) : Eqv es (expL (norm es)) := by
  unfold norm; rw [exp_outBs]; exact nb_can es
theorem norm_norm (es : List Ev) : norm (expL (norm es)) = norm es := (exp_norm es).norm.symm

/-- blocks as they come out: all but the last keep something, all but the first drop or restore something -/
def wfTail : List Blk → Prop
  | [] => True
  | [b] => 0 < b.d ∨ b.s ≠ []
  | b :: c :: l => (0 < b.d ∨ b.s ≠ []) ∧ 0 < b.m ∧ wfTail (c :: l)
def wfBlks : List Blk → Prop
  | [] => True
  | [b] => 0 < b.d ∨ b.s ≠ [] ∨ 0 < b.m
  | b :: c :: l => 0 < b.m ∧ wfTail (c :: l)
theorem wf_cons (b : Blk) (l : List Blk) (h : wfTail l) (hm : 0 < b.m) : wfBlks (b :: l) := by
  cases l with
  | nil => exact .inr (.inr hm)
  | cons c l => exact ⟨hm, h⟩
theorem wfT_cons (b : Blk) (l : List Blk) (h : wfTail l) (hm : 0 < b.m) (hd : 0 < b.d ∨ b.s ≠ []) : wfTail (b :: l) := by
  cases l with
  | nil => exact hd
  | cons c l => exact ⟨hd, hm, h⟩
theorem nb_wfT (es : List Ev) : ∀ d s m, (0 < d ∨ s ≠ []) → wfTail (nb d s m es) := by
  induction es with
  | nil =>
    intro d s m h
    simp only [nb]
    split
    · trivial
    · exact h
  | cons e es ih =>
    intro d s m h
    cases e with
    | k => exact ih d s (m + 1) h
    | d =>
      simp only [nb]
      split
      · exact ih (d + 1) s 0 (.inl (by omega))
      · exact wfT_cons _ _ (ih 1 [] 0 (.inl (by omega))) (by simp; omega) h
    | r c =>
      simp only [nb]
      split
      · exact ih d (s ++ [c]) 0 (.inr (by simp))
      · exact wfT_cons _ _ (ih 0 [c] 0 (.inr (by simp))) (by simp; omega) h
theorem nb_wf (es : List Ev) : ∀ d s m, wfBlks (nb d s m es) := by
  induction es with
  | nil =>
    intro d s m
    simp only [nb]
    split
    · trivial
    · rename_i h
      simp only [wfBlks]
      by_cases h1 : 0 < d
      · exact .inl h1
      · by_cases h2 : s = []
        · refine .inr (.inr ?_)
          apply Nat.pos_of_ne_zero
          intro h3
          exact h ⟨by omega, h2, h3⟩
        · exact .inr (.inl h2)
  | cons e es ih =>
    intro d s m
    cases e with
    | k => exact ih d s (m + 1)
    | d =>
      simp only [nb]
      split
      · exact ih (d + 1) s 0
      · exact wf_cons _ _ (nb_wfT es 1 [] 0 (.inl (by omega))) (by simp; omega)
    | r c =>
      simp only [nb]
      split
      · exact ih d (s ++ [c]) 0
      · exact wf_cons _ _ (nb_wfT es 0 [c] 0 (.inr (by simp))) (by simp; omega)

theorem outB_ok (b : Blk) : okAll (outB b) := by
  intro r hr
  rw [okRec_iff]
  unfold outB rDrop rRest rKeep at hr
  simp only [List.mem_append] at hr
  rcases hr with hr | hr | hr
  · split at hr
    · cases hr
    · rename_i h; simp at hr; subst hr; exact ⟨by simp; omega, .inl ⟨by simp, rfl⟩⟩
  · split at hr
    · cases hr
    · rename_i h
      simp at hr; subst hr
      have : 0 < b.s.length := List.length_pos_iff.2 h
      refine ⟨by simp; omega, .inr ⟨rfl, ?_⟩⟩
      simp [ByteArray.size]
  · split at hr
    · cases hr
    · rename_i h; simp at hr; subst hr; exact ⟨by simp; omega, .inl ⟨by simp, rfl⟩⟩
theorem outBs_ok (l : List Blk) : okAll (outBs l) := by
  induction l with
  | nil => intro r hr; cases hr
  | cons b l ih => exact okAll_append (outB_ok b) ih
theorem norm_ok (es : List Ev) : okAll (norm es) := outBs_ok _
theorem norm_len (es : List Ev) : lenA (norm es) = evA es ∧ lenB (norm es) = evB es := by
  have h := expL_len _ (norm_ok es)
  have e := exp_norm es
  rw [← e.A, ← e.B] at h
  exact ⟨h.1.symm, h.2.symm⟩
end M
end Go.Proofs.Ytlppphmnegdhoaa
