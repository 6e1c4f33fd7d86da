/-
  The program's reading of marks: plain mathematics.
-/
import Derived.Test.YtlppphmnegdhoaaFx0
namespace Go.Proofs.Ytlppphmnegdhoaa
set_option linter.unusedVariables false
open M
namespace M

def preR (m : Mk) (r : List Mk × List UInt8) : List Mk × List UInt8 := (m :: r.1, r.2)
/-- the marks of a text, as far as they go, and what stands behind them -/
def mksM : List UInt8 → List Mk × List UInt8
  | [] => ([], [])
  | [c] => if c.toNat = 47 ∨ c.toNat = 10 ∨ c.toNat = 92 then ([], [c]) else ([⟨c.toNat, true⟩], [])
  | c :: d :: t => if c.toNat = 47 ∨ c.toNat = 10 then ([], c :: d :: t) else if c.toNat = 92 then (if d.toNat = 10 then ([], c :: d :: t) else preR ⟨escB d, false⟩ (mksM t)) else preR ⟨c.toNat, true⟩ (mksM (d :: t))
theorem mks_stop (c : UInt8) (t : List UInt8) (h : c.toNat = 47 ∨ c.toNat = 10) : mksM (c :: t) = ([], c :: t) := by
  cases t with
  | nil => rw [mksM, if_pos (by omega)]
  | cons d t => rw [mksM, if_pos h]
theorem mks_plain (c : UInt8) (t : List UInt8) (h : c.toNat ≠ 47) (h1 : c.toNat ≠ 10) (h2 : c.toNat ≠ 92) : mksM (c :: t) = preR ⟨c.toNat, true⟩ (mksM t) := by
  cases t with
  | nil => show (if c.toNat = 47 ∨ c.toNat = 10 ∨ c.toNat = 92 then (([], [c]) : List Mk × List UInt8) else ([⟨c.toNat, true⟩], [])) = _; rw [if_neg (by omega)]; rfl
  | cons d t => rw [mksM, if_neg (by omega), if_neg h2]
theorem mks_esc (c d : UInt8) (t : List UInt8) (h : c.toNat = 92) (h1 : d.toNat ≠ 10) : mksM (c :: d :: t) = preR ⟨escB d, false⟩ (mksM t) := by
  rw [mksM, if_neg (by omega), if_pos h, if_neg h1]
theorem mks_esc10 (c d : UInt8) (t : List UInt8) (h : c.toNat = 92) (h1 : d.toNat = 10) : mksM (c :: d :: t) = ([], c :: d :: t) := by
  rw [mksM, if_neg (by omega), if_pos h, if_pos h1]
theorem mks_end (c : UInt8) (h : c.toNat = 92) : mksM [c] = ([], [c]) := by
  rw [mksM, if_pos (by omega)]

/-- does a byte stand at the beginning -/
def stB (t : List UInt8) (c : Nat) : Bool := match t with
  | [] => false
  | d :: _ => d.toNat == c
/-- does a plain mark stand at the beginning -/
def hdIs (m : List Mk) (c : Nat) : Bool := match m with
  | [] => false
  | k :: _ => k.is c
theorem stB_mk (t : List UInt8) (c : Nat) (m : List Mk) (r : List UInt8) (h : mksM t = (m, r)) (h47 : c ≠ 47) (h10 : c ≠ 10) (h92 : c ≠ 92) :
    stB t c = hdIs m c ∧ (stB t c = true → ∃ k m', m = k :: m' ∧ mksM (t.drop 1) = (m', r)) := by
  match t with
  | [] => rw [mksM] at h; simp at h; rw [h.1]; exact ⟨rfl, fun e => by cases e⟩
  | d :: t =>
    by_cases e1 : d.toNat = 47 ∨ d.toNat = 10
    · rw [mks_stop d t e1] at h
      simp at h
      have e : stB (d :: t) c = false := by show (d.toNat == c) = false; simp; omega
      rw [h.1, e]; exact ⟨rfl, fun e => by cases e⟩
    · by_cases e2 : d.toNat = 92
      · have e : stB (d :: t) c = false := by show (d.toNat == c) = false; simp; omega
        rw [e]
        refine ⟨?_, fun e => by cases e⟩
        match t with
        | [] => rw [mks_end d e2] at h; simp at h; rw [h.1]; rfl
        | f :: t =>
          by_cases e3 : f.toNat = 10
          · rw [mks_esc10 d f t e2 e3] at h; simp at h; rw [h.1]; rfl
          · rw [mks_esc d f t e2 e3] at h
            simp [preR] at h
            rw [← h.1]; rfl
      · rw [mks_plain d t (by omega) (by omega) e2] at h
        simp [preR] at h
        rw [← h.1]
        refine ⟨?_, fun _ => ⟨_, _, rfl, ?_⟩⟩
        · show (d.toNat == c) = (true && d.toNat == c)
          rw [Bool.true_and]
        · rw [← h.2]; rfl
theorem stB_slash (t : List UInt8) (m : List Mk) (r : List UInt8) (h : mksM t = (m, r)) : stB t 47 = true ↔ (m = [] ∧ ∃ r', r = 47 :: r' ∧ t = 47 :: r') := by
  match t with
  | [] => rw [mksM] at h; simp at h; rw [h.1, h.2]; simp [stB]
  | d :: t =>
    have hd : ∀ d : UInt8, d.toNat = 47 → d = 47 := fun d h => UInt8.toNat_inj.1 h
    constructor
    · intro e
      have e1 : d.toNat = 47 := by simpa [stB] using e
      rw [mks_stop d t (.inl e1)] at h
      simp at h
      rw [h.1, ← h.2, hd d e1]
      exact ⟨rfl, t, rfl, rfl⟩
    · rintro ⟨_, r', _, e⟩
      simp at e
      rw [e.1]; rfl
theorem mk_lt (t : List UInt8) : ∀ k ∈ (mksM t).1, k.b < 256 := by
  match t with
  | [] => intro k h; simp [mksM] at h
  | [c] =>
    intro k h
    rw [mksM] at h
    split at h
    · simp at h
    · simp at h; rw [h]; exact c.toNat_lt
  | c :: d :: t =>
    intro k h
    rw [mksM] at h
    split at h
    · simp at h
    · split at h
      · split at h
        · simp at h
        · simp [preR] at h
          rcases h with h | h
          · rw [h]
            show escB d < 256
            unfold escB
            have := d.toNat_lt
            split <;> omega
          · exact mk_lt t k h
      · simp [preR] at h
        rcases h with h | h
        · rw [h]; exact c.toNat_lt
        · exact mk_lt (d :: t) k h
/-- the marks up to a slash, by the marks as far as they go -/
theorem upto_mks (t : List UInt8) (hn : ∀ c ∈ t, c.toNat ≠ 10) : uptoM t = match (mksM t).2 with
    | 47 :: r => some ((mksM t).1, r)
    | _ => none := by
  have hd : ∀ d : UInt8, d.toNat = 47 → d = 47 := fun d h => UInt8.toNat_inj.1 h
  match t with
  | [] => simp [uptoM, mksM]
  | [c] =>
    by_cases e1 : c.toNat = 47
    · rw [mks_stop c [] (.inl e1), upto_slash c [] e1, hd c e1]; rfl
    · by_cases e2 : c.toNat = 92
      · rw [mks_end c e2, upto_end c e2]
        have : c ≠ 47 := fun e => e1 (by rw [e]; rfl)
        split
        · rename_i h; simp at h; exact absurd h.1 this
        · rfl
      · rw [mks_plain c [] e1 (hn c (by simp)) e2, upto_plain c [] e1 e2]
        simp [uptoM, mksM, preR]
  | c :: d :: t =>
    by_cases e1 : c.toNat = 47
    · rw [mks_stop c _ (.inl e1), upto_slash c _ e1, hd c e1]; rfl
    · by_cases e2 : c.toNat = 92
      · rw [mks_esc c d t e2 (hn d (by simp)), upto_esc c d t e2, upto_mks t (fun x hx => hn x (by simp [hx]))]
        simp only [preR]
        split <;> simp_all [preM]
      · rw [mks_plain c _ e1 (hn c (by simp)) e2, upto_plain c _ e1 e2, upto_mks (d :: t) (fun x hx => hn x (List.mem_cons_of_mem _ hx))]
        simp only [preR]
        split <;> simp_all [preM]
/-- ahead of a slash of our own -/
theorem upto_own (t : List UInt8) : ((mksM t).2 = [] → uptoM (t ++ [47]) = some ((mksM t).1, []) ∧ ∀ c ∈ t, c.toNat ≠ 10) ∧ ((mksM t).2 ≠ [] → (∃ c ∈ t, c.toNat = 10) ∨ uptoM (t ++ [47]) = none ∨ ∃ m r, r ≠ [] ∧ uptoM (t ++ [47]) = some (m, r)) := by
  match t with
  | [] => refine ⟨fun _ => ⟨by simp [uptoM, mksM], by simp⟩, fun h => absurd (by simp [mksM]) h⟩
  | [c] =>
    by_cases e1 : c.toNat = 47
    · rw [mks_stop c [] (.inl e1)]
      refine ⟨fun h => by simp at h, fun _ => .inr (.inr ⟨[], [47], by simp, ?_⟩)⟩
      exact upto_slash c _ e1
    · by_cases e3 : c.toNat = 10
      · rw [mks_stop c [] (.inr e3)]
        exact ⟨fun h => by simp at h, fun _ => .inl ⟨c, by simp, e3⟩⟩
      · by_cases e2 : c.toNat = 92
        · rw [mks_end c e2]
          refine ⟨fun h => by simp at h, fun _ => .inr (.inl ?_)⟩
          show uptoM [c, 47] = none
          rw [upto_esc c 47 [] e2]; rfl
        · rw [mks_plain c [] e1 e3 e2]
          refine ⟨fun h => ⟨?_, by simpa using e3⟩, fun h => absurd (by simp [mksM, preR]) h⟩
          show uptoM [c, 47] = _
          rw [upto_plain c [47] e1 e2]; rfl
  | c :: d :: t =>
    by_cases e1 : c.toNat = 47
    · rw [mks_stop c _ (.inl e1)]
      refine ⟨fun h => by simp at h, fun _ => .inr (.inr ⟨[], d :: (t ++ [47]), by simp, ?_⟩)⟩
      exact upto_slash c _ e1
    · by_cases e3 : c.toNat = 10
      · rw [mks_stop c _ (.inr e3)]
        exact ⟨fun h => by simp at h, fun _ => .inl ⟨c, by simp, e3⟩⟩
      · by_cases e2 : c.toNat = 92
        · by_cases e4 : d.toNat = 10
          · rw [mks_esc10 c d t e2 e4]
            exact ⟨fun h => by simp at h, fun _ => .inl ⟨d, by simp, e4⟩⟩
          · obtain ⟨i1, i2⟩ := upto_own t
            rw [mks_esc c d t e2 e4]
            show ((mksM t).2 = [] → uptoM (c :: d :: (t ++ [47])) = _ ∧ _) ∧ ((mksM t).2 ≠ [] → _ ∨ uptoM (c :: d :: (t ++ [47])) = _ ∨ ∃ m r, _ ∧ uptoM (c :: d :: (t ++ [47])) = _)
            rw [upto_esc c d _ e2]
            refine ⟨fun h => ?_, fun h => ?_⟩
            · rw [(i1 h).1]
              refine ⟨rfl, fun x hx => ?_⟩
              simp at hx
              rcases hx with rfl | rfl | hx
              · exact e3
              · exact e4
              · exact (i1 h).2 x hx
            · rcases i2 h with ⟨x, hx, e⟩ | e | ⟨m, r, hr, e⟩
              · exact .inl ⟨x, by simp [hx], e⟩
              · rw [e]; exact .inr (.inl rfl)
              · rw [e]; exact .inr (.inr ⟨_, r, hr, rfl⟩)
        · obtain ⟨i1, i2⟩ := upto_own (d :: t)
          rw [mks_plain c _ e1 e3 e2]
          show ((mksM (d :: t)).2 = [] → uptoM (c :: (d :: t ++ [47])) = _ ∧ _) ∧ ((mksM (d :: t)).2 ≠ [] → _ ∨ uptoM (c :: (d :: t ++ [47])) = _ ∨ ∃ m r, _ ∧ uptoM (c :: (d :: t ++ [47])) = _)
          rw [upto_plain c _ e1 e2]
          refine ⟨fun h => ?_, fun h => ?_⟩
          · rw [(i1 h).1]
            refine ⟨rfl, fun x hx => ?_⟩
            rcases List.mem_cons.1 hx with rfl | hx
            · exact e3
            · exact (i1 h).2 x hx
          · rcases i2 h with ⟨x, hx, e⟩ | e | ⟨m, r, hr, e⟩
            · exact .inl ⟨x, List.mem_cons_of_mem _ hx, e⟩
            · rw [e]; exact .inr (.inl rfl)
            · rw [e]; exact .inr (.inr ⟨_, r, hr, rfl⟩)
theorem expOf_mks (re : List UInt8) (m : List Mk) (r : List UInt8) (h : mksM re = (m, r)) : expOf re = if r = [] then expM m else none := by
  obtain ⟨i1, i2⟩ := upto_own re
  rw [h] at i1 i2
  by_cases e : r = []
  · rw [if_pos e]
    obtain ⟨h1, h2⟩ := i1 e
    unfold expOf
    rw [h1]
    have : (re.any (fun c => c.toNat == 10)) = false := by
      rw [List.any_eq_false]; intro c hc; simpa using h2 c hc
    simp [this]
  · rw [if_neg e]
    rcases i2 e with ⟨c, hc, e1⟩ | e1 | ⟨m', r', hr, e1⟩
    · have : (re.any (fun c => c.toNat == 10)) = true := by
        rw [List.any_eq_true]; exact ⟨c, hc, by simpa using e1⟩
      unfold expOf
      split
      · simp [this]
      · rfl
    · unfold expOf; rw [e1]
    · unfold expOf
      rw [e1]
      match r', hr with
      | a :: t, _ => rfl

/-- a member of a set -/
def memP : List Mk → Option (Nat × Nat × List Mk)
  | [] => none
  | [k] => if k.is 93 || k.is 45 then none else some (k.b, k.b, [])
  | [k, d] => if k.is 93 || k.is 45 then none else if d.is 45 then none else some (k.b, k.b, [d])
  | k :: d :: h :: v => if k.is 93 || k.is 45 then none else if d.is 45 then (if h.is 93 || h.is 45 || decide (h.b < k.b) then none else some (k.b, h.b, v)) else some (k.b, k.b, d :: h :: v)
theorem memP_less (m : List Mk) (lo hi : Nat) (m' : List Mk) (h : memP m = some (lo, hi, m')) : m'.length < m.length := by
  match m with
  | [] => simp [memP] at h
  | [k] => rw [memP] at h; split at h <;> simp at h; rw [← h.2.2]; simp
  | [k, d] =>
    rw [memP] at h
    split at h
    · cases h
    · split at h <;> simp at h
      rw [← h.2.2]; simp
  | k :: d :: e :: v =>
    rw [memP] at h
    split at h
    · cases h
    · split at h
      · split at h <;> simp at h
        rw [← h.2.2]; simp; omega
      · simp at h; rw [← h.2.2]; simp
theorem members_step (m : List Mk) (acc : List (Nat × Nat)) : membersM m acc = match memP m with
    | some (lo, hi, m') => membersM m' (acc ++ [(lo, hi)])
    | none => match m with
      | [] => none
      | k :: m' => if k.is 93 then (if acc = [] then none else some (acc, m')) else none := by
  match m with
  | [] => simp [membersM, memP]
  | [k] =>
    cases h1 : k.is 93
    · cases h2 : k.is 45
      · simp [membersM, memP, h1, h2]
      · simp [membersM, memP, h1, h2]
    · simp [membersM, memP, h1]
  | [k, d] =>
    cases h1 : k.is 93
    · cases h2 : k.is 45
      · cases h3 : d.is 45
        · rw [membersM]; simp [memP, h1, h2, h3]
        · rw [membersM]; simp [memP, h1, h2, h3]
      · rw [membersM]; simp [memP, h1, h2]
    · rw [membersM]; simp [memP, h1]
  | k :: d :: e :: v =>
    cases h1 : k.is 93
    · cases h2 : k.is 45
      · cases h3 : d.is 45
        · rw [membersM]; simp [memP, h1, h2, h3]
        · cases h4 : (e.is 93 || e.is 45 || decide (e.b < k.b))
          · rw [membersM]; simp only [memP, h1, h2, h3, h4]; rfl
          · rw [membersM]; simp only [memP, h1, h2, h3, h4]; rfl
      · rw [membersM]; simp [memP, h1, h2]
    · rw [membersM]; simp [memP, h1]
end M
end Go.Proofs.Ytlppphmnegdhoaa
