/-
  Expressions: the program's way of taking items as far as they go, against the document's: plain mathematics.
-/
import Derived.Test.YtlppphmnegdhoaaGp5
import Derived.Test.YtlppphmnegdhoaaFx7
namespace Go.Proofs.Ytlppphmnegdhoaa
set_option linter.unusedVariables false
open M

theorem hd_app (a b : List Mk) (c : Nat) (h : a ≠ []) : hdIs (a ++ b) c = hdIs a c := by
  match a, h with
  | x :: t, _ => rfl
theorem is_ne (k : Mk) (a b : Nat) (h : k.is a = true) (hab : a ≠ b) : k.is b = false := by
  obtain ⟨x, p⟩ := k
  cases p
  · rfl
  · simp [Mk.is] at h ⊢; omega
theorem memP_inv (m : List Mk) (lo hi : Nat) (m1 : List Mk) (h : memP m = some (lo, hi, m1)) : (∃ q, m = q :: m1 ∧ (q.is 93 || q.is 45) = false ∧ hdIs m1 45 = false ∧ lo = q.b ∧ hi = q.b) ∨ (∃ q d f, m = q :: d :: f :: m1 ∧ ∀ m', memP (q :: d :: f :: m') = some (lo, hi, m')) := by
  match m with
  | [] => simp [memP] at h
  | q :: m' =>
    cases hq : (q.is 93 || q.is 45)
    · cases hd : hdIs m' 45
      · rw [memP_one q m' hq hd] at h
        simp at h
        obtain ⟨rfl, rfl, rfl⟩ := h
        exact .inl ⟨q, rfl, hq, hd, rfl, rfl⟩
      · match m', hd with
        | d :: m'', hd =>
          have hd' : d.is 45 = true := hd
          rw [memP_two q d m'' hq hd'] at h
          match m'' with
          | [] => cases h
          | f :: v =>
            have h' : (if (f.is 93 || f.is 45 || decide (f.b < q.b)) = true then none else some (q.b, f.b, v)) = some (lo, hi, m1) := h
            split at h'
            · cases h'
            · rename_i hf
              simp at h'
              obtain ⟨rfl, rfl, rfl⟩ := h'
              refine .inr ⟨q, d, f, rfl, fun m' => ?_⟩
              rw [memP_two q d _ hq hd']
              show (if (f.is 93 || f.is 45 || decide (f.b < q.b)) = true then none else some (q.b, f.b, m')) = _
              rw [if_neg hf]
    · rw [memP_none q m' hq] at h; cases h
theorem members_local : ∀ (n : Nat) (m : List Mk) (acc a : List (Nat × Nat)) (r : List Mk), m.length ≤ n → membersM m acc = some (a, r) → ∃ sp, m = sp ++ r ∧ sp ≠ [] ∧ (∃ k, sp.getLast? = some k ∧ k.is 93 = true) ∧ ∀ r2, membersM (sp ++ r2) acc = some (a, r2) := by
  intro n
  induction n with
  | zero =>
    intro m acc a r hl h
    match m with
    | [] => simp [membersM] at h
    | q :: t => simp at hl
  | succ n ih =>
    intro m acc a r hl h
    cases hmem : memP m with
    | none =>
      obtain ⟨s1, s2⟩ := members_stop m acc hmem
      by_cases hc : hdIs m 93 = false ∨ acc = []
      · rw [s2 hc] at h; cases h
      · have h93 : hdIs m 93 = true := by
          cases e : hdIs m 93
          · exact absurd (.inl e) hc
          · rfl
        have hne : acc ≠ [] := fun e => hc (.inr e)
        match m, h93, hmem, h, s1 with
        | k :: m', h93, hmem, h, s1 =>
          rw [s1 h93 hne k m' rfl] at h
          simp at h
          obtain ⟨rfl, rfl⟩ := h
          have hk : k.is 93 = true := h93
          refine ⟨[k], rfl, by simp, ⟨k, rfl, hk⟩, fun r2 => ?_⟩
          exact (members_stop (k :: r2) acc (memP_none k r2 (by rw [hk]; rfl))).1 hk hne k r2 rfl
    | some p =>
      obtain ⟨lo, hi, m1⟩ := p
      have hless := memP_less m lo hi m1 hmem
      rw [members_step, hmem] at h
      obtain ⟨sp, e1, e2, e3, e4⟩ := ih m1 _ a r (by omega) h
      rcases memP_inv m lo hi m1 hmem with ⟨q, rfl, hq, hd, rfl, rfl⟩ | ⟨q, d, f, rfl, hf⟩
      · refine ⟨q :: sp, by rw [e1]; rfl, by simp, ?_, fun r2 => ?_⟩
        · obtain ⟨k, h1, h2⟩ := e3
          refine ⟨k, ?_, h2⟩
          rw [List.getLast?_cons, h1]; rfl
        · show membersM (q :: (sp ++ r2)) acc = _
          have hd2 : hdIs (sp ++ r2) 45 = false := by
            rw [hd_app sp r2 45 e2]
            rw [e1, hd_app sp r 45 e2] at hd
            exact hd
          rw [members_step, memP_one q _ hq hd2]
          exact e4 r2
      · refine ⟨q :: d :: f :: sp, by rw [e1]; rfl, by simp, ?_, fun r2 => ?_⟩
        · obtain ⟨k, h1, h2⟩ := e3
          refine ⟨k, ?_, h2⟩
          rw [List.getLast?_cons, List.getLast?_cons, List.getLast?_cons, h1]; rfl
        · show membersM (q :: d :: f :: (sp ++ r2)) acc = _
          rw [members_step, hf]
          exact e4 r2
theorem bare_local (m : List Mk) (x : It) (r : List Mk) (h : bareM m = some (x, r)) : ∃ sp, m = sp ++ r ∧ sp ≠ [] ∧ (∃ k, sp.getLast? = some k ∧ k.is 36 = false) ∧ ∀ r2, bareM (sp ++ r2) = some (x, r2) := by
  match m with
  | [] => simp [bareM] at h
  | c :: t =>
    cases h46 : c.is 46
    · cases h91 : c.is 91
      · rw [bare_by (c :: t) h91 h46] at h
        have h' : (if (c.is 42 || c.is 93 || c.is 94 || c.is 36) = true then none else some ((⟨false, false, false, [(c.b, c.b)]⟩ : It), t)) = some (x, r) := h
        split at h'
        · cases h'
        · rename_i hc
          simp only [Option.some.injEq, Prod.mk.injEq] at h'
          obtain ⟨rfl, rfl⟩ := h'
          refine ⟨[c], rfl, by simp, ⟨c, rfl, ?_⟩, fun r2 => ?_⟩
          · cases e : c.is 36
            · rfl
            · rw [e] at hc; simp at hc
          · show bareM (c :: r2) = _
            rw [bare_by (c :: r2) h91 h46]
            show (if (c.is 42 || c.is 93 || c.is 94 || c.is 36) = true then none else some ((⟨false, false, false, [(c.b, c.b)]⟩ : It), r2)) = _
            rw [if_neg hc]
      · rw [bare_91 c t h91] at h
        cases hset : setM t with
        | none => rw [hset] at h; cases h
        | some p =>
          obtain ⟨no, acc, r0⟩ := p
          rw [hset] at h
          simp only [Option.map_some, Option.some.injEq, Prod.mk.injEq] at h
          obtain ⟨rfl, rfl⟩ := h
          rw [set_by t (hdIs t 94) rfl] at hset
          cases h94 : hdIs t 94
          · rw [h94] at hset
            cases hm : membersM t [] with
            | none =>
              have : (membersM t []).map (fun r => (false, r.1, r.2)) = some (no, acc, r0) := hset
              rw [hm] at this; cases this
            | some p =>
              have h1 : (membersM t []).map (fun r => (false, r.1, r.2)) = some (no, acc, r0) := hset
              rw [hm] at h1
              simp only [Option.map_some, Option.some.injEq, Prod.mk.injEq] at h1
              obtain ⟨rfl, h2, h3⟩ := h1
              obtain ⟨sp, e1, e2, ⟨k, e3, e3'⟩, e4⟩ := members_local t.length t [] p.1 p.2 (Nat.le_refl _) hm
              rw [h2] at e4
              rw [h3] at e1
              refine ⟨c :: sp, by rw [e1]; rfl, by simp, ⟨k, by rw [List.getLast?_cons, e3]; rfl, is_ne k 93 36 e3' (by decide)⟩, fun r2 => ?_⟩
              show bareM (c :: (sp ++ r2)) = _
              have hh : hdIs (sp ++ r2) 94 = false := by
                rw [hd_app sp r2 94 e2]
                rw [e1, hd_app sp r0 94 e2] at h94
                exact h94
              rw [bare_91 c _ h91, set_by (sp ++ r2) false hh.symm]
              show (Option.map _ (Option.map _ (membersM (sp ++ r2) []))) = _
              rw [e4 r2]; rfl
          · rw [h94] at hset
            match t, h94, hset with
            | d :: u, h94, hset =>
              have h1 : (membersM u []).map (fun r => (true, r.1, r.2)) = some (no, acc, r0) := hset
              cases hm : membersM u [] with
              | none => rw [hm] at h1; cases h1
              | some p =>
                rw [hm] at h1
                simp only [Option.map_some, Option.some.injEq, Prod.mk.injEq] at h1
                obtain ⟨rfl, h2, h3⟩ := h1
                obtain ⟨sp, e1, e2, ⟨k, e3, e3'⟩, e4⟩ := members_local u.length u [] p.1 p.2 (Nat.le_refl _) hm
                rw [h2] at e4
                rw [h3] at e1
                refine ⟨c :: d :: sp, by rw [e1]; rfl, by simp, ⟨k, by rw [List.getLast?_cons, List.getLast?_cons, e3]; rfl, is_ne k 93 36 e3' (by decide)⟩, fun r2 => ?_⟩
                show bareM (c :: d :: (sp ++ r2)) = _
                rw [bare_91 c _ h91, set_by (d :: (sp ++ r2)) true (show true = d.is 94 from Eq.symm h94)]
                show (Option.map _ (Option.map _ (membersM (sp ++ r2) []))) = _
                rw [e4 r2]; rfl
    · rw [bare_46 c t h46] at h
      simp only [Option.some.injEq, Prod.mk.injEq] at h
      obtain ⟨rfl, rfl⟩ := h
      exact ⟨[c], rfl, by simp, ⟨c, rfl, is_ne c 46 36 h46 (by decide)⟩, fun r2 => bare_46 c r2 h46⟩
theorem item_local (m : List Mk) (x : It) (r : List Mk) (h : itemM m = some (x, r)) : ∃ sp, m = sp ++ r ∧ sp ≠ [] ∧ (∃ k, sp.getLast? = some k ∧ k.is 36 = false) ∧ ∀ r2, (hdIs r2 42 = false ∨ hdIs r2 42 = hdIs r 42) → itemM (sp ++ r2) = some (x, r2) := by
  cases hb : bareM m with
  | none => unfold itemM at h; rw [hb] at h; cases h
  | some p =>
    obtain ⟨x0, r0⟩ := p
    obtain ⟨sp, e1, e2, e3, e4⟩ := bare_local m x0 r0 hb
    rw [itm_star m r0 x0 hb] at h
    cases h42 : hdIs r0 42
    · rw [h42] at h
      simp only [Bool.false_eq_true, if_false, Option.some.injEq, Prod.mk.injEq] at h
      obtain ⟨rfl, rfl⟩ := h
      refine ⟨sp, e1, e2, e3, fun r2 hr => ?_⟩
      have : hdIs r2 42 = false := by
        rcases hr with hr | hr
        · exact hr
        · rw [hr]; exact h42
      rw [itm_star _ r2 x0 (e4 r2), this]; rfl
    · rw [h42] at h
      simp only [if_true, Option.some.injEq, Prod.mk.injEq] at h
      obtain ⟨rfl, rfl⟩ := h
      match r0, h42 with
      | d :: u, h42 =>
        have h42' : d.is 42 = true := h42
        refine ⟨sp ++ [d], by rw [e1]; simp, by simp, ⟨d, by simp, is_ne d 42 36 h42' (by decide)⟩, fun r2 hr => ?_⟩
        rw [List.append_assoc]
        rw [itm_star _ _ x0 (e4 ([d] ++ r2))]
        show some (if d.is 42 then _ else _) = _
        rw [h42']; rfl

/-- the items that are taken, one behind the other -/
def RunsM : List Mk → List It → List Mk → Prop
  | m, [], m' => m = m'
  | m, x :: L, m' => ∃ m1, itemM m = some (x, m1) ∧ RunsM m1 L m'
theorem runs_snoc : ∀ (L : List It) (m m1 m2 : List Mk) (x : It), RunsM m L m1 → itemM m1 = some (x, m2) → RunsM m (L ++ [x]) m2 := by
  intro L
  induction L with
  | nil => intro m m1 m2 x h g; exact ⟨m2, by rw [show m = m1 from h]; exact g, rfl⟩
  | cons y L ih =>
    intro m m1 m2 x h g
    obtain ⟨m3, h1, h2⟩ := h
    exact ⟨m3, h1, ih m3 m1 m2 x h2 g⟩
theorem item_ne (m : List Mk) (p : It × List Mk) (h : itemM m = some p) : m ≠ [] := by
  rintro rfl
  simp [itemM, bareM] at h
theorem runs_items : ∀ (L : List It) (m m' : List Mk), RunsM m L m' → itemsA m = (itemsA m').map (L ++ ·) := by
  intro L
  induction L with
  | nil => intro m m' h; rw [show m = m' from h]; cases itemsA m' <;> rfl
  | cons y L ih =>
    intro m m' h
    obtain ⟨m3, h1, h2⟩ := h
    rw [itemsA_some m y m3 (item_ne _ _ h1) h1, ih m3 m' h2]
    cases itemsA m' <;> rfl
theorem runs_cut : ∀ (L : List It) (m m' : List Mk) (d : Mk), d.is 36 = true → RunsM m L (m' ++ [d]) → ∃ m1, m = m1 ++ [d] ∧ RunsM m1 L m' := by
  intro L
  induction L with
  | nil => intro m m' d hd h; exact ⟨m', h, rfl⟩
  | cons y L ih =>
    intro m m' d hd h
    obtain ⟨m3, h1, h2⟩ := h
    obtain ⟨m4, e, h4⟩ := ih m3 m' d hd h2
    obtain ⟨sp, e1, e2, e3, e5⟩ := item_local m y m3 h1
    refine ⟨sp ++ m4, by rw [e1, e, List.append_assoc], m4, e5 m4 ?_, h4⟩
    by_cases h0 : m4 = []
    · subst h0; exact .inl rfl
    · exact .inr (by rw [e, hd_app m4 [d] 42 h0])
theorem runs_last : ∀ (L : List It) (m m' : List Mk), RunsM m L m' → ∃ p, m = p ++ m' ∧ (p = [] ∨ ∃ k, p.getLast? = some k ∧ k.is 36 = false) := by
  intro L
  induction L with
  | nil => intro m m' h; exact ⟨[], h, .inl rfl⟩
  | cons y L ih =>
    intro m m' h
    obtain ⟨m3, h1, h2⟩ := h
    obtain ⟨p, e, h4⟩ := ih m3 m' h2
    obtain ⟨sp, e1, e2, ⟨k, e3, e3'⟩, e5⟩ := item_local m y m3 h1
    refine ⟨sp ++ p, by rw [e1, e, List.append_assoc], .inr ?_⟩
    rcases h4 with rfl | ⟨k2, h4, h5⟩
    · exact ⟨k, by rw [List.append_nil]; exact e3, e3'⟩
    · exact ⟨k2, by rw [List.getLast?_append, h4]; rfl, h5⟩
theorem item_more (m : List Mk) (x : It) (r : List Mk) (d : Mk) (hd : d.is 36 = true) (h : itemM m = some (x, r)) : itemM (m ++ [d]) = some (x, r ++ [d]) := by
  obtain ⟨sp, e1, e2, e3, e4⟩ := item_local m x r h
  have := e4 (r ++ [d]) (by
    by_cases h0 : r = []
    · subst h0; exact .inl (is_ne d 36 42 hd (by decide))
    · exact .inr (hd_app r [d] 42 h0))
  rw [e1, List.append_assoc]; exact this
def lastIs (m : List Mk) : Bool := (m.getLast?.map (·.is 36)).getD false
theorem exp_by (m : List Mk) (hm : m ≠ []) (hd : Bool) (hhd : hd = hdIs m 94) (m1 : List Mk) (h1 : m1 = if hd then m.drop 1 else m) : expM m = if lastIs m1 then (itemsA m1.dropLast).map (fun l => ⟨hd, true, l⟩) else (itemsA m1).map (fun l => ⟨hd, false, l⟩) := by
  have hl : 0 < m.length := List.length_pos_iff.2 hm
  have e0 : hd = m[0].is 94 := by
    rw [hhd]
    match m, hl with
    | a :: t, _ => rfl
  rw [expM_eq m hm hd (decide ((if hd then 1 else 0) < m.length) && (m[m.length - 1]'(by omega)).is 36) (if hd then 1 else 0) _ hl e0 rfl rfl rfl]
  have hlast : m.getLast? = some (m[m.length - 1]'(by omega)) := by rw [List.getLast?_eq_getElem?, List.getElem?_eq_getElem (by omega)]
  cases hd
  · have e1 : m1 = m := h1
    have e2 : lastIs m1 = (m[m.length - 1]'(by omega)).is 36 := by unfold lastIs; rw [e1, hlast]; rfl
    rw [e2, e1]
    simp only [Bool.false_eq_true, if_false, hl, decide_true, Bool.true_and, List.drop_zero]
    cases h36 : (m[m.length - 1]'(by omega)).is 36
    · simp
    · simp [List.dropLast_eq_take]
  · have e1 : m1 = m.drop 1 := h1
    simp only [if_true]
    by_cases h0 : 1 < m.length
    · have e2 : lastIs m1 = (m[m.length - 1]'(by omega)).is 36 := by
        unfold lastIs
        rw [e1, List.getLast?_drop, if_neg (by omega), hlast]; rfl
      rw [e2, e1]
      simp only [h0, decide_true, Bool.true_and]
      cases h36 : (m[m.length - 1]'(by omega)).is 36
      · simp
      · simp only [if_true]
        congr 2
        rw [List.dropLast_eq_take, List.length_drop, List.drop_take]
    · have e2 : m1 = [] := by rw [e1, List.drop_of_length_le (by omega)]
      have e3 : decide (1 < m.length) = false := by simpa using h0
      rw [e2]
      simp only [e3, Bool.false_and, Bool.false_eq_true, if_false, List.take_length]
      rw [List.drop_of_length_le (by omega)]; rfl
theorem exp_read (m : List Mk) (hd : Bool) (hhd : hd = hdIs m 94) (L : List It) (m2 : List Mk) (hr : RunsM (if hd then m.drop 1 else m) L m2) (hn : itemM m2 = none) :
    (m ≠ [] → m2 = [] → expM m = some ⟨hd, false, L⟩) ∧ (∀ d, m2 = [d] → d.is 36 = true → expM m = some ⟨hd, true, L⟩) ∧ (m2 ≠ [] → (∀ d, m2 = [d] → d.is 36 = false) → expM m = none) := by
  obtain ⟨m1, h1⟩ : ∃ m1 : List Mk, m1 = if hd then m.drop 1 else m := ⟨_, rfl⟩
  rw [← h1] at hr
  have hne : ∀ m' : List Mk, m1 ≠ [] → m ≠ [] := fun _ h e => h (by rw [h1, e]; cases hd <;> rfl)
  have hi := runs_items L m1 m2 hr
  refine ⟨fun hm e => ?_, fun d e hd36 => ?_, fun h2 h3 => ?_⟩
  · subst e
    rw [exp_by m hm hd hhd m1 h1]
    have hl : lastIs m1 = false := by
      obtain ⟨p, e, hp⟩ := runs_last L m1 [] hr
      rw [List.append_nil] at e
      rw [e]
      rcases hp with rfl | ⟨k, hk, hk2⟩
      · rfl
      · unfold lastIs; rw [hk]; exact hk2
    rw [hl, hi, itemsA_nil]
    simp
  · subst e
    obtain ⟨m3, e, hr3⟩ := runs_cut L m1 [] d hd36 hr
    have hm : m ≠ [] := hne m1 (by rw [e]; simp)
    rw [exp_by m hm hd hhd m1 h1]
    have hl : lastIs m1 = true := by unfold lastIs; rw [e]; simp [hd36]
    rw [hl, e]
    simp only [if_true, List.dropLast_concat]
    rw [runs_items L m3 [] hr3, itemsA_nil]
    simp
  · obtain ⟨p, e, hp⟩ := runs_last L m1 m2 hr
    have hm : m ≠ [] := hne m1 (by rw [e]; simp [h2])
    rw [exp_by m hm hd hhd m1 h1]
    cases hl : lastIs m1
    · simp only [Bool.false_eq_true, if_false]
      rw [hi, itemsA_none m2 h2 hn]; rfl
    · simp only [if_true]
      obtain ⟨m2', d, rfl⟩ : ∃ m' d, m2 = m' ++ [d] := ⟨m2.dropLast, m2.getLast h2, (List.dropLast_concat_getLast h2).symm⟩
      have hd36 : d.is 36 = true := by
        unfold lastIs at hl
        rw [e, ← List.append_assoc] at hl
        simpa using hl
      have h2' : m2' ≠ [] := fun e0 => by
        subst e0
        rw [h3 d rfl] at hd36; cases hd36
      obtain ⟨m3, e3, hr3⟩ := runs_cut L m1 m2' d hd36 hr
      rw [e3, List.dropLast_concat, runs_items L m3 m2' hr3]
      have hn' : itemM m2' = none := by
        cases hi2 : itemM m2' with
        | none => rfl
        | some q => rw [item_more m2' q.1 q.2 d hd36 hi2] at hn; cases hn
      rw [itemsA_none m2' h2' hn']; rfl
end Go.Proofs.Ytlppphmnegdhoaa
