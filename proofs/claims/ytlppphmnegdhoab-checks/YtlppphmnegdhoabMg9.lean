import Derived.Test.YtlppphmnegdhoabMg8
import Derived.Test.YtlppphmnegdhoabMg5
import Derived.Great.BuildSlice
/-
  Expressions: the program's way of taking items as far as they go, against the document's: plain mathematics.
-/
namespace Go.Proofs.Ytlppphmnegdhoab
set_option linter.unusedVariables false
open M

theorem hd_app (a b : List Mk) (c : Nat) (h : a ≠ []) : hdIs (a ++ b) c = hdIs a c := by
  match a, h with
  | x :: t, _ => rfl
theorem is_ne (k : Mk) (a b : Nat) (h : k.is a = true) (hab : a ≠ b) : k.is b = false := by
  obtain ⟨x, p⟩ := k
  cases p
  · rfl
  · simp [Mk.is] at h ⊢; omega
theorem memP_inv (m : List Mk) (lo hi : Nat) (m1 : List Mk) (h : memP m = some (lo, hi, m1)) : (∃ q, m = q :: m1 ∧ (q.is 93 || q.is 45) = false ∧ hdIs m1 45 = false ∧ lo = q.b ∧ hi = q.b) ∨ (∃ q d f, m = q :: d :: f :: m1 ∧ ∀ m', memP (q :: d :: f :: m') = some (lo, hi, m')) := by
  match m with
  | [] => simp [memP] at h
  | q :: m' =>
    cases hq : (q.is 93 || q.is 45)
    · cases hd : hdIs m' 45
      · rw [memP_one q m' hq hd] at h
        simp at h
        obtain ⟨rfl, rfl, rfl⟩ := h
        exact .inl ⟨q, rfl, hq, hd, rfl, rfl⟩
      · match m', hd with
        | d :: m'', hd =>
          have hd' : d.is 45 = true := hd
          rw [memP_two q d m'' hq hd'] at h
          match m'' with
          | [] => cases h
          | f :: v =>
            have h' : (if (f.is 93 || f.is 45 || decide (f.b < q.b)) = true then none else some (q.b, f.b, v)) = some (lo, hi, m1) := h
            split at h'
            · cases h'
            · rename_i hf
              simp at h'
              obtain ⟨rfl, rfl, rfl⟩ := h'
              refine .inr ⟨q, d, f, rfl, fun m' => ?_⟩
              rw [memP_two q d _ hq hd']
              show (if (f.is 93 || f.is 45 || decide (f.b < q.b)) = true then none else some (q.b, f.b, m')) = _
              rw [if_neg hf]
    · rw [memP_none q m' hq] at h; cases h
theorem members_local : ∀ (n : Nat) (m : List Mk) (acc a : List (Nat × Nat)) (r : List Mk), m.length ≤ n → membersM m acc = some (a, r) → ∃ sp, m = sp ++ r ∧ sp ≠ [] ∧ (∃ k, sp.getLast? = some k ∧ k.is 93 = true) ∧ ∀ r2, membersM (sp ++ r2) acc = some (a, r2) := by
  intro n
  induction n with
  | zero =>
    intro m acc a r hl h
    match m with
    | [] => simp [membersM] at h
    | q :: t => simp at hl
  | succ n ih =>
    intro m acc a r hl h
    cases hmem : memP m with
    | none =>
      obtain ⟨s1, s2⟩ := members_stop m acc hmem
      by_cases hc : hdIs m 93 = false ∨ acc = []
      · rw [s2 hc] at h; cases h
      · have h93 : hdIs m 93 = true := by
          cases e : hdIs m 93
          · exact absurd (.inl e) hc
          · rfl
        have hne : acc ≠ [] := fun e => hc (.inr e)
        match m, h93, hmem, h, s1 with
        | k :: m', h93, hmem, h, s1 =>
          rw [s1 h93 hne k m' rfl] at h
          simp at h
          obtain ⟨rfl, rfl⟩ := h
          have hk : k.is 93 = true := h93
          refine ⟨[k], rfl, by simp, ⟨k, rfl, hk⟩, fun r2 => ?_⟩
          exact (members_stop (k :: r2) acc (memP_none k r2 (by rw [hk]; rfl))).1 hk hne k r2 rfl
    | some p =>
      obtain ⟨lo, hi, m1⟩ := p
      have hless := memP_less m lo hi m1 hmem
      rw [members_step, hmem] at h
      obtain ⟨sp, e1, e2, e3, e4⟩ := ih m1 _ a r (by omega) h
      rcases memP_inv m lo hi m1 hmem with ⟨q, rfl, hq, hd, rfl, rfl⟩ | ⟨q, d, f, rfl, hf⟩
      · refine ⟨q :: sp, by rw [e1]; rfl, by simp, ?_, fun r2 => ?_⟩
        · obtain ⟨k, h1, h2⟩ := e3
          refine ⟨k, ?_, h2⟩
          rw [List.getLast?_cons, h1]; rfl
        · show membersM (q :: (sp ++ r2)) acc = _
          have hd2 : hdIs (sp ++ r2) 45 = false := by
            rw [hd_app sp r2 45 e2]
            rw [e1, hd_app sp r 45 e2] at hd
            exact hd
          rw [members_step, memP_one q _ hq hd2]
          exact e4 r2
      · refine ⟨q :: d :: f :: sp, by rw [e1]; rfl, by simp, ?_, fun r2 => ?_⟩
        · obtain ⟨k, h1, h2⟩ := e3
          refine ⟨k, ?_, h2⟩
          rw [List.getLast?_cons, List.getLast?_cons, List.getLast?_cons, h1]; rfl
        · show membersM (q :: d :: f :: (sp ++ r2)) acc = _
          rw [members_step, hf]
          exact e4 r2
theorem bare_local (m : List Mk) (x : It) (r : List Mk) (h : bareM m = some (x, r)) : ∃ sp, m = sp ++ r ∧ sp ≠ [] ∧ (∃ k, sp.getLast? = some k ∧ k.is 36 = false) ∧ ∀ r2, bareM (sp ++ r2) = some (x, r2) := by
  match m with
  | [] => simp [bareM] at h
  | c :: t =>
    cases h46 : c.is 46
    · cases h91 : c.is 91
      · rw [bare_by (c :: t) h91 h46] at h
        have h' : (if (c.is 42 || c.is 93 || c.is 94 || c.is 36) = true then none else some ((⟨false, false, false, [(c.b, c.b)]⟩ : It), t)) = some (x, r) := h
        split at h'
        · cases h'
        · rename_i hc
          simp only [Option.some.injEq, Prod.mk.injEq] at h'
          obtain ⟨rfl, rfl⟩ := h'
          refine ⟨[c], rfl, by simp, ⟨c, rfl, ?_⟩, fun r2 => ?_⟩
          · cases e : c.is 36
            · rfl
            · rw [e] at hc; simp at hc
          · show bareM (c :: r2) = _
            rw [bare_by (c :: r2) h91 h46]
            show (if (c.is 42 || c.is 93 || c.is 94 || c.is 36) = true then none else some ((⟨false, false, false, [(c.b, c.b)]⟩ : It), r2)) = _
            rw [if_neg hc]
      · rw [bare_91 c t h91] at h
        cases hset : setM t with
        | none => rw [hset] at h; cases h
        | some p =>
          obtain ⟨no, acc, r0⟩ := p
          rw [hset] at h
          simp only [Option.map_some, Option.some.injEq, Prod.mk.injEq] at h
          obtain ⟨rfl, rfl⟩ := h
          rw [set_by t (hdIs t 94) rfl] at hset
          cases h94 : hdIs t 94
          · rw [h94] at hset
            cases hm : membersM t [] with
            | none =>
              have : (membersM t []).map (fun r => (false, r.1, r.2)) = some (no, acc, r0) := hset
              rw [hm] at this; cases this
            | some p =>
              have h1 : (membersM t []).map (fun r => (false, r.1, r.2)) = some (no, acc, r0) := hset
              rw [hm] at h1
              simp only [Option.map_some, Option.some.injEq, Prod.mk.injEq] at h1
              obtain ⟨rfl, h2, h3⟩ := h1
              obtain ⟨sp, e1, e2, ⟨k, e3, e3'⟩, e4⟩ := members_local t.length t [] p.1 p.2 (Nat.le_refl _) hm
              rw [h2] at e4
              rw [h3] at e1
              refine ⟨c :: sp, by rw [e1]; rfl, by simp, ⟨k, by rw [List.getLast?_cons, e3]; rfl, is_ne k 93 36 e3' (by decide)⟩, fun r2 => ?_⟩
              show bareM (c :: (sp ++ r2)) = _
              have hh : hdIs (sp ++ r2) 94 = false := by
                rw [hd_app sp r2 94 e2]
                rw [e1, hd_app sp r0 94 e2] at h94
                exact h94
              rw [bare_91 c _ h91, set_by (sp ++ r2) false hh.symm]
              show (Option.map _ (Option.map _ (membersM (sp ++ r2) []))) = _
              rw [e4 r2]; rfl
          · rw [h94] at hset
            match t, h94, hset with
            | d :: u, h94, hset =>
              have h1 : (membersM u []).map (fun r => (true, r.1, r.2)) = some (no, acc, r0) := hset
              cases hm : membersM u [] with
              | none => rw [hm] at h1; cases h1
              | some p =>
                rw [hm] at h1
                simp only [Option.map_some, Option.some.injEq, Prod.mk.injEq] at h1
                obtain ⟨rfl, h2, h3⟩ := h1
                obtain ⟨sp, e1, e2, ⟨k, e3, e3'⟩, e4⟩ := members_local u.length u [] p.1 p.2 (Nat.le_refl _) hm
                rw [h2] at e4
                rw [h3] at e1
                refine ⟨c :: d :: sp, by rw [e1]; rfl, by simp, ⟨k, by rw [List.getLast?_cons, List.getLast?_cons, e3]; rfl, is_ne k 93 36 e3' (by decide)⟩, fun r2 => ?_⟩
                show bareM (c :: d :: (sp ++ r2)) = _
                rw [bare_91 c _ h91, set_by (d :: (sp ++ r2)) true (show true = d.is 94 from Eq.symm h94)]
                show (Option.map _ (Option.map _ (membersM (sp ++ r2) []))) = _
                rw [e4 r2]; rfl
    · rw [bare_46 c t h46] at h
      simp only [Option.some.injEq, Prod.mk.injEq] at h
      obtain ⟨rfl, rfl⟩ := h
      exact ⟨[c], rfl, by simp, ⟨c, rfl, is_ne c 46 36 h46 (by decide)⟩, fun r2 => bare_46 c r2 h46⟩
theorem item_local (m : List Mk) (x : It) (r : List Mk) (h : itemM m = some (x, r)) : ∃ sp, m = sp ++ r ∧ sp ≠ [] ∧ (∃ k, sp.getLast? = some k ∧ k.is 36 = false) ∧ ∀ r2, (hdIs r2 42 = false ∨ hdIs r2 42 = hdIs r 42) → itemM (sp ++ r2) = some (x, r2) := by
  cases hb : bareM m with
  | none => unfold itemM at h; rw [hb] at h; cases h
  | some p =>
    obtain ⟨x0, r0⟩ := p
    obtain ⟨sp, e1, e2, e3, e4⟩ := bare_local m x0 r0 hb
    rw [itm_star m r0 x0 hb] at h
    cases h42 : hdIs r0 42
    · rw [h42] at h
      simp only [Bool.false_eq_true, if_false, Option.some.injEq, Prod.mk.injEq] at h
      obtain ⟨rfl, rfl⟩ := h
      refine ⟨sp, e1, e2, e3, fun r2 hr => ?_⟩
      have : hdIs r2 42 = false := by
        rcases hr with hr | hr
        · exact hr
        · rw [hr]; exact h42
      rw [itm_star _ r2 x0 (e4 r2), this]; rfl
    · rw [h42] at h
      simp only [if_true, Option.some.injEq, Prod.mk.injEq] at h
      obtain ⟨rfl, rfl⟩ := h
      match r0, h42 with
      | d :: u, h42 =>
        have h42' : d.is 42 = true := h42
        refine ⟨sp ++ [d], by rw [e1]; simp, by simp, ⟨d, by simp, is_ne d 42 36 h42' (by decide)⟩, fun r2 hr => ?_⟩
        rw [List.append_assoc]
        rw [itm_star _ _ x0 (e4 ([d] ++ r2))]
        show some (if d.is 42 then _ else _) = _
        rw [h42']; rfl

/-- the items that are taken, one behind the other -/
def RunsM : List Mk → List It → List Mk → Prop
  | m, [], m' => m = m'
  | m, x :: L, m' => ∃ m1, itemM m = some (x, m1) ∧ RunsM m1 L m'
theorem runs_snoc : ∀ (L : List It) (m m1 m2 : List Mk) (x : It), RunsM m L m1 → itemM m1 = some (x, m2) → RunsM m (L ++ [x]) m2 := by
  intro L
  induction L with
  | nil => intro m m1 m2 x h g; exact ⟨m2, by rw [show m = m1 from h]; exact g, rfl⟩
  | cons y L ih =>
    intro m m1 m2 x h g
    obtain ⟨m3, h1, h2⟩ := h
    exact ⟨m3, h1, ih m3 m1 m2 x h2 g⟩
theorem item_ne (m : List Mk) (p : It × List Mk) (h : itemM m = some p) : m ≠ [] := by
  rintro rfl
  simp [itemM, bareM] at h
theorem runs_items : ∀ (L : List It) (m m' : List Mk), RunsM m L m' → itemsA m = (itemsA m').map (L ++ ·) := by
  intro L
  induction L with
  | nil => intro m m' h; rw [show m = m' from h]; cases itemsA m' <;> rfl
  | cons y L ih =>
    intro m m' h
    obtain ⟨m3, h1, h2⟩ := h
    rw [itemsA_some m y m3 (item_ne _ _ h1) h1, ih m3 m' h2]
    cases itemsA m' <;> rfl
theorem runs_cut : ∀ (L : List It) (m m' : List Mk) (d : Mk), d.is 36 = true → RunsM m L (m' ++ [d]) → ∃ m1, m = m1 ++ [d] ∧ RunsM m1 L m' := by
  intro L
  induction L with
  | nil => intro m m' d hd h; exact ⟨m', h, rfl⟩
  | cons y L ih =>
    intro m m' d hd h
    obtain ⟨m3, h1, h2⟩ := h
    obtain ⟨m4, e, h4⟩ := ih m3 m' d hd h2
    obtain ⟨sp, e1, e2, e3, e5⟩ := item_local m y m3 h1
    refine ⟨sp ++ m4, by rw [e1, e, List.append_assoc], m4, e5 m4 ?_, h4⟩
    by_cases h0 : m4 = []
    · subst h0; exact .inl rfl
    · exact .inr (by rw [e, hd_app m4 [d] 42 h0])
theorem runs_last : ∀ (L : List It) (m m' : List Mk), RunsM m L m' → ∃ p, m = p ++ m' ∧ (p = [] ∨ ∃ k, p.getLast? = some k ∧ k.is 36 = false) := by
  intro L
  induction L with
  | nil => intro m m' h; exact ⟨[], h, .inl rfl⟩
  | cons y L ih =>
    intro m m' h
    obtain ⟨m3, h1, h2⟩ := h
    obtain ⟨p, e, h4⟩ := ih m3 m' h2
    obtain ⟨sp, e1, e2, ⟨k, e3, e3'⟩, e5⟩ := item_local m y m3 h1
    refine ⟨sp ++ p, by rw [e1, e, List.append_assoc], .inr ?_⟩
    rcases h4 with rfl | ⟨k2, h4, h5⟩
    · exact ⟨k, by rw [List.append_nil]; exact e3, e3'⟩
    · exact ⟨k2, by rw [List.getLast?_append, h4]; rfl, h5⟩
theorem item_more (m : List Mk) (x : It) (r : List Mk) (d : Mk) (hd : d.is 36 = true) (h : itemM m = some (x, r)) : itemM (m ++ [d]) = some (x, r ++ [d]) := by
  obtain ⟨sp, e1, e2, e3, e4⟩ := item_local m x r h
  have := e4 (r ++ [d]) (by
    by_cases h0 : r = []
    · subst h0; exact .inl (is_ne d 36 42 hd (by decide))
    · exact .inr (hd_app r [d] 42 h0))
  rw [e1, List.append_assoc]; exact this
def lastIs (m : List Mk) : Bool := (m.getLast?.map (·.is 36)).getD false
theorem exp_by (m : List Mk) (hm : m ≠ []) (hd : Bool) (hhd : hd = hdIs m 94) (m1 : List Mk) (h1 : m1 = if hd then m.drop 1 else m) : expM m = if lastIs m1 then (itemsA m1.dropLast).map (fun l => ⟨hd, true, l⟩) else (itemsA m1).map (fun l => ⟨hd, false, l⟩) := by
  have hl : 0 < m.length := List.length_pos_iff.2 hm
  have e0 : hd = m[0].is 94 := by
    rw [hhd]
    match m, hl with
    | a :: t, _ => rfl
  rw [expM_eq m hm hd (decide ((if hd then 1 else 0) < m.length) && (m[m.length - 1]'(by omega)).is 36) (if hd then 1 else 0) _ hl e0 rfl rfl rfl]
  have hlast : m.getLast? = some (m[m.length - 1]'(by omega)) := by rw [List.getLast?_eq_getElem?, List.getElem?_eq_getElem (by omega)]
  cases hd
  · have e1 : m1 = m := h1
    have e2 : lastIs m1 = (m[m.length - 1]'(by omega)).is 36 := by unfold lastIs; rw [e1, hlast]; rfl
    rw [e2, e1]
    simp only [Bool.false_eq_true, if_false, hl, decide_true, Bool.true_and, List.drop_zero]
    cases h36 : (m[m.length - 1]'(by omega)).is 36
    · simp
    · simp [List.dropLast_eq_take]
  · have e1 : m1 = m.drop 1 := h1
    simp only [if_true]
    by_cases h0 : 1 < m.length
    · have e2 : lastIs m1 = (m[m.length - 1]'(by omega)).is 36 := by
        unfold lastIs
        rw [e1, List.getLast?_drop, if_neg (by omega), hlast]; rfl
      rw [e2, e1]
      simp only [h0, decide_true, Bool.true_and]
      cases h36 : (m[m.length - 1]'(by omega)).is 36
      · simp
      · simp only [if_true]
        congr 2
        rw [List.dropLast_eq_take, List.length_drop, List.drop_take]
    · have e2 : m1 = [] := by rw [e1, List.drop_of_length_le (by omega)]
      have e3 : decide (1 < m.length) = false := by simpa using h0
      rw [e2]
      simp only [e3, Bool.false_and, Bool.false_eq_true, if_false, List.take_length]
      rw [List.drop_of_length_le (by omega)]; rfl
theorem exp_read (m : List Mk) (hd : Bool) (hhd : hd = hdIs m 94) (L : List It) (m2 : List Mk) (hr : RunsM (if hd then m.drop 1 else m) L m2) (hn : itemM m2 = none) :
    (m ≠ [] → m2 = [] → expM m = some ⟨hd, false, L⟩) ∧ (∀ d, m2 = [d] → d.is 36 = true → expM m = some ⟨hd, true, L⟩) ∧ (m2 ≠ [] → (∀ d, m2 = [d] → d.is 36 = false) → expM m = none) := by
  obtain ⟨m1, h1⟩ : ∃ m1 : List Mk, m1 = if hd then m.drop 1 else m := ⟨_, rfl⟩
  rw [← h1] at hr
  have hne : ∀ m' : List Mk, m1 ≠ [] → m ≠ [] := fun _ h e => h (by rw [h1, e]; cases hd <;> rfl)
  have hi := runs_items L m1 m2 hr
  refine ⟨fun hm e => ?_, fun d e hd36 => ?_, fun h2 h3 => ?_⟩
  · subst e
    rw [exp_by m hm hd hhd m1 h1]
    have hl : lastIs m1 = false := by
      obtain ⟨p, e, hp⟩ := runs_last L m1 [] hr
      rw [List.append_nil] at e
      rw [e]
      rcases hp with rfl | ⟨k, hk, hk2⟩
      · rfl
      · unfold lastIs; rw [hk]; exact hk2
    rw [hl, hi, itemsA_nil]
    simp
  · subst e
    obtain ⟨m3, e, hr3⟩ := runs_cut L m1 [] d hd36 hr
    have hm : m ≠ [] := hne m1 (by rw [e]; simp)
    rw [exp_by m hm hd hhd m1 h1]
    have hl : lastIs m1 = true := by unfold lastIs; rw [e]; simp [hd36]
    rw [hl, e]
    simp only [if_true, List.dropLast_concat]
    rw [runs_items L m3 [] hr3, itemsA_nil]
    simp
  · obtain ⟨p, e, hp⟩ := runs_last L m1 m2 hr
    have hm : m ≠ [] := hne m1 (by rw [e]; simp [h2])
    rw [exp_by m hm hd hhd m1 h1]
    cases hl : lastIs m1
    · simp only [Bool.false_eq_true, if_false]
      rw [hi, itemsA_none m2 h2 hn]; rfl
    · simp only [if_true]
      obtain ⟨m2', d, rfl⟩ : ∃ m' d, m2 = m' ++ [d] := ⟨m2.dropLast, m2.getLast h2, (List.dropLast_concat_getLast h2).symm⟩
      have hd36 : d.is 36 = true := by
        unfold lastIs at hl
        rw [e, ← List.append_assoc] at hl
        simpa using hl
      have h2' : m2' ≠ [] := fun e0 => by
        subst e0
        rw [h3 d rfl] at hd36; cases hd36
      obtain ⟨m3, e3, hr3⟩ := runs_cut L m1 m2' d hd36 hr
      rw [e3, List.dropLast_concat, runs_items L m3 m2' hr3]
      have hn' : itemM m2' = none := by
        cases hi2 : itemM m2' with
        | none => rfl
        | some q => rw [item_more m2' q.1 q.2 d hd36 hi2] at hn; cases hn
      rw [itemsA_none m2' h2' hn']; rfl
end Go.Proofs.Ytlppphmnegdhoab

/-
  The program's expressions: rows of items; what Read holds.
-/
namespace Go.Proofs.Ytlppphmnegdhoab
set_option linter.unusedVariables false
set_option maxRecDepth 100000
open Go.RowKit
open M

theorem infoItB : (Try.prog.info? 114).map (fun i => (i.zero, i.size, i.bytes)) = some (some (.agg (Array.replicate 257 (.bool false))), 257, 257) := by kernel_rfl
theorem undIts : Try.prog.underlying 50 = some (.slice 114) := by kernel_rfl
def itsC (L : List It) : List Value := (L.map (fun x => bC 257 (itF x))).flatten
theorem itsC_snoc (L : List It) (x : It) : itsC (L ++ [x]) = itsC L ++ bC 257 (itF x) := by simp [itsC]
theorem it_fill (f : Nat → Bool) (Z : Array Value) (hZ : Z.size = 257) : Instr.fill (fun i => some (i * 257, 257)) Z [(0, itV f)] = some (bC 257 f).toArray := by
  have hc : (itV f).cells = (bC 257 f).toArray := rfl
  have hcs : (itV f).cells.size = 257 := by rw [hc, List.size_toArray, bC_len]
  obtain ⟨r, h1, h2, h3⟩ := Great.fill_dense (s := 257) (by decide) [itV f] 0 Z (fun v hv => by simp at hv; rw [hv]; exact hcs) (by rw [hZ]; exact Nat.le_refl 257)
  have h1' : Instr.fill (fun i => some (i * 257, 257)) Z [(0, itV f)] = some r := h1
  rw [h1']
  congr 1
  apply Array.ext_getElem?
  intro k
  rw [h3 k]
  by_cases hk : k < 257
  · rw [if_pos (by simp; omega)]
    have e1 : k / 257 = 0 := Nat.div_eq_of_lt hk
    have e2 : k % 257 = k := Nat.mod_eq_of_lt hk
    rw [e1, e2]
    show (itV f).cells[k]? = _
    rw [hc]
  · rw [if_neg (by simp; omega)]
    rw [Array.getElem?_eq_none (by omega), Array.getElem?_eq_none (by rw [List.size_toArray, bC_len]; omega)]
/-- a slice of one item -/
theorem it_build {ops : Array Oper} {rest : List Oper} {op : Oper} {a : Act} {w : World} {Q : Exit → Act → World → Prop} (hgd : op.guard = none) (x : Operand) (ho : op.op = .buildSlice 50 1 #[(0, x)]) (f : Nat → Bool) (hx : a.eval x = itV f)
    (h : wpList Try.prog ops Q rest (a.put op.dst (.slice (some ⟨w.heap.size, 0, none⟩) 1 1)) (w.alloc (.cells (bC 257 f).toArray 114))) : wpList Try.prog ops Q (op :: rest) a w := by
  obtain ⟨i0, hi, hz0, hz1, hz2⟩ := info_parts infoItB
  refine wpList_buildSlice hgd _ _ 1 _ ho (bC 257 f).toArray i0 _ undIts hi hz0 (by rw [hz1]; decide) (by rw [hz1]; decide) ?_ h
  rw [hz1]
  have e : (#[((0 : Nat), x)].map fun (p : Nat × Operand) => (p.1, a.eval p.2)).toList = [(0, itV f)] := by simp [hx]
  have e' : (#[((0 : Nat), x)].map fun ((i, x) : Nat × Operand) => (i, a.eval x)).toList = [(0, itV f)] := e
  rw [e']
  exact it_fill f _ (by simp)
/-- one more item at the end of a row -/
theorem it_append {ops : Array Oper} {rest : List Oper} {o : Oper} {a : Act} {w : World} {Q : Exit → Act → World → Prop} {B : Nat} {v : Value} {n : Nat} {xs : List Value} (hown : w.ownsRow B 114 257 v n xs) (g : Nat) (f : Nat → Bool) (hg : w.heap[g]? = some (.cells (bC 257 f).toArray 114)) (hn : n ≤ 8192) (hB : B ≤ w.heap.size) (hgd : o.guard = none) (s x : Operand)
    (ho : o.op = .call { callee := .builtin .append, args := #[s, x], argTypes := #[50, 50] }) (hs : a.eval s = v) (hx : a.eval x = .slice (some ⟨g, 0, none⟩) 1 1)
    (h : ∀ v' w', w'.ownsRow B 114 257 v' (n + 1) (xs ++ bC 257 f) → w.grownBy w' v.ownBlock → wpList Try.prog ops Q rest (a.put o.dst v') w') : wpList Try.prog ops Q (o :: rest) a w := by
  obtain ⟨i0, hi, hz0, hz1, hz2⟩ := info_parts infoItB
  refine wpList_append_own w hgd s x _ ho B _ i0 _ 257 257 undIts hi hz0 hz1 hz2 (by simp [Value.cells]) (by decide) v n xs hs hown ⟨g, 0, none⟩ 1 1 (bC 257 f) hx (by rw [bC_len]) ?_ (bC_one _ _) (by unfold maxLen; omega) (by omega) hB (fun v' w' h1 h2 _ => h v' w' h1 h2)
  intro j u hu
  rw [Addr.add_mid, cell_of_row _ _ _ _ _ _ hg]
  simpa using hu
theorem ownsRow_up {w w' : World} {base : Nat} {e : TypeId} {size : Nat} {v : Value} {n : Nat} {xs : List Value} (h : w.ownsRow base e size v n xs) (hk : ∀ k, base ≤ k → w'.heap[k]? = w.heap[k]?) : w'.ownsRow base e size v n xs := by
  obtain ⟨h1, h2⟩ := h
  refine ⟨h1, ?_⟩
  rcases h2 with h2 | ⟨g, cap, cur, e1, e2, e3, e4⟩
  · exact .inl h2
  · exact .inr ⟨g, cap, cur, e1, e2, by rw [hk g e2]; exact e3, e4⟩
/-- all that Read holds -/
structure PInv (h0 g9 : Nat) (w wr : World) (hd tl : Bool) (v : Value) (L : List It) (f : Nat → Bool) : Prop where
  res : ExBox h0 wr false false (.slice none 0 0)
  box : ExBox (h0 + 1) wr hd tl v
  it : BR wr g9 257 f
  own : wr.ownsRow (g9 + 1) 114 257 v L.length (itsC L)
  below : Below h0 w wr
  size : g9 + 1 ≤ wr.heap.size
  far : h0 + 2 ≤ g9
theorem PInv.keep {h0 g9 : Nat} {w wr w' : World} {hd tl : Bool} {v : Value} {L : List It} {f : Nat → Bool} (h : PInv h0 g9 w wr hd tl v L f) (hb : Below wr.heap.size wr w') : PInv h0 g9 w w' hd tl v L f := by
  have hs := h.size
  have hf := h.far
  have hs2 := hb.size
  exact ⟨h.res.keep (hb.block _ (by omega)), h.box.keep (hb.block _ (by omega)), h.it.below hb (by omega), ownsRow_below h.own hb, h.below.trans (hb.mono (by omega)), by omega, h.far⟩
theorem PInv.sto {h0 g9 : Nat} {w wr w' : World} {hd tl : Bool} {v : Value} {L : List It} {f f' : Nat → Bool} (h : PInv h0 g9 w wr hd tl v L f) (ho : Only g9 wr w') (hb : BR w' g9 257 f') : PInv h0 g9 w w' hd tl v L f' := by
  have hf := h.far
  exact ⟨h.res.keep (ho.block _ (by omega)), h.box.keep (ho.block _ (by omega)), hb, ownsRow_up h.own (fun k hk => ho.block k (by omega)), h.below.trans (ho.below (by omega)), by rw [ho.size]; exact h.size, h.far⟩
theorem PInv.set1 {h0 g9 : Nat} {w wr : World} {hd tl : Bool} {v : Value} {L : List It} {f : Nat → Bool} (h : PInv h0 g9 w wr hd tl v L f) (u : Bool) : PInv h0 g9 w (wr.setCell ⟨h0 + 1, 1, none⟩ (.bool u)) hd u v L f := by
  have hf := h.far
  exact ⟨h.res.keep (heap_setCell_other _ _ _ _ (by simp)), h.box.set1 u, h.it.keep (heap_setCell_other _ _ _ _ (by simp; omega)) (by simp), ownsRow_setCell_below h.own (by simp; omega) _, h.below.setCell (by simp) _, by simpa using h.size, h.far⟩
theorem PInv.grow {h0 g9 : Nat} {w wr w3 : World} {hd tl : Bool} {v v' : Value} {L : List It} {f : Nat → Bool} {o : Obj} {x : It} (h : PInv h0 g9 w wr hd tl v L f)
    (hown : w3.ownsRow (g9 + 1) 114 257 v' (L.length + 1) (itsC L ++ bC 257 (itF x))) (hg : (wr.alloc o).grownBy w3 v.ownBlock) :
    ExBox (h0 + 1) w3 hd tl v ∧ PInv h0 g9 w (w3.setCell ⟨h0 + 1, 2, none⟩ v') hd tl v' (L ++ [x]) f := by
  have hs := h.size
  have hf := h.far
  have hs3 := hg.size
  simp at hs3
  have hk : ∀ k, k < g9 + 1 → w3.heap[k]? = wr.heap[k]? := fun k hk => by
    rw [hg.block k (by simp; omega) (fun e => by have := (h.own.lt k e.symm).1; omega), Below.heap_alloc _ _ _ (by omega)]
  have hb := h.box.keep (hk _ (by omega))
  have hr := h.res.keep (hk _ (by omega))
  refine ⟨hb, hr.keep (heap_setCell_other _ _ _ _ (by simp)), hb.set2 _, ?_, ?_, ?_, by simp; omega, h.far⟩
  · exact (h.it.keep (hk _ (by omega)) (by omega)).keep (heap_setCell_other _ _ _ _ (by simp; omega)) (by simp)
  · rw [← itsC_snoc] at hown
    rw [List.length_append]
    exact ownsRow_setCell_below hown (by simp; omega) _
  · exact ((h.below.alloc (by omega) _).grown hg (by simp; omega) (fun k hk => by have := (h.own.lt k hk).1; omega)).setCell (by simp) _
theorem PInv.fin {h0 g9 : Nat} {w wr : World} {hd tl : Bool} {v : Value} {L : List It} {f : Nat → Bool} (h : PInv h0 g9 w wr hd tl v L f) :
    (((wr.setCell ⟨h0, 0, none⟩ (.bool hd)).setCell ⟨h0, 1, none⟩ (.bool tl)).setCell ⟨h0, 2, none⟩ v).ownsRow h0 114 257 v L.length (itsC L) ∧
    Below h0 w (((wr.setCell ⟨h0, 0, none⟩ (.bool hd)).setCell ⟨h0, 1, none⟩ (.bool tl)).setCell ⟨h0, 2, none⟩ v) := by
  have hf := h.far
  exact ⟨ownsRow_base (ownsRow_setCell_below (ownsRow_setCell_below (ownsRow_setCell_below h.own (by simp; omega) _) (by simp; omega) _) (by simp; omega) _) (by omega), ((h.below.setCell (by simp) _).setCell (by simp) _).setCell (by simp) _⟩
/-- what Read answers -/
def RdPost (s : ByteArray) (k : Nat) (m : List Mk) (r : List UInt8) (w w' : World) (e : Ending) : Prop :=
  ∃ (hd tl : Bool) (L : List It) (m3 : List Mk) (n : Nat) (a : Option Addr) (c : Nat), e = .returned (.tuple #[.agg #[.bool hd, .bool tl, .slice a L.length c], .int .i64 n, .bool (decide (k < n))]) ∧ k ≤ n ∧ n ≤ s.size ∧ mksM (s.data.toList.drop n) = (m3, r) ∧
    w'.ownsRow w.heap.size 114 257 (.slice a L.length c) L.length (itsC L) ∧ Below w.heap.size w w' ∧ L.length ≤ s.size ∧ (m ≠ [] → m3 = [] → expM m = some ⟨hd, tl, L⟩) ∧ (m3 ≠ [] → expM m = none)
end Go.Proofs.Ytlppphmnegdhoab

/-
  The program's expressions: the walk of Read.
-/
namespace Go.Proofs.Ytlppphmnegdhoab
set_option linter.unusedVariables false
set_option maxRecDepth 100000
open Go.RowKit
open M

set_option maxRecDepth 100000 in
set_option maxHeartbeats 4000000 in
theorem rd_calls (s : ByteArray) (k : Nat) (m : List Mk) (r : List UInt8) (w : World) (hs8 : s.size ≤ 8192) (hk : k ≤ s.size) (hm : mksM (s.data.toList.drop k) = (m, r)) :
    Calls Try.prog 43 #[.string s, .int .i64 k] w fun e w' => RdPost s k m r w w' e := by
  have hs : s.size ≤ maxLen := by unfold maxLen; omega
  obtain ⟨h94, h94'⟩ := stB_mk _ 94 _ _ hm (by decide) (by decide) (by decide)
  obtain ⟨hd, hhd⟩ : ∃ b, stB (s.data.toList.drop k) 94 = b := ⟨_, rfl⟩
  have HHD : Hid (hd = hdIs m 94) := hhd.symm.trans h94
  obtain ⟨p, hp⟩ : ∃ p : Nat, p = if hd then k + 1 else k := ⟨_, rfl⟩
  obtain ⟨m0, hm0⟩ : ∃ m0 : List Mk, m0 = if hd then m.drop 1 else m := ⟨_, rfl⟩
  have HM00 : Hid (m0 = if hd then m.drop 1 else m) := hm0
  have hps : p ≤ s.size := by
    cases hd
    · rw [hp]; exact hk
    · rw [hp]; exact stB_size s k 94 hhd
  have hkp : k ≤ p := by rw [hp]; cases hd <;> simp
  have HM0 : Hid (mksM (s.data.toList.drop p) = (m0, r)) := by
    show _ = _
    rw [hp, hm0]
    cases hd
    · exact hm
    · obtain ⟨q, m1, e1, e2⟩ := h94' hhd
      rw [List.drop_drop] at e2
      rw [e1]; exact e2
  have HP : Hid (p = if hd then k + 1 else k) := hp
  have HOTH : Hid (stB (s.data.toList.drop k) 94 = hd) := hhd
  clear h94 h94' hm hp hm0 hhd
  have hzv := (zero_of_info infoIt).1
  have hr0 : ExBox w.heap.size ((w.alloc (.cells #[.bool false, .bool false, .slice none 0 0] 52)).alloc (.cells #[.bool false, .bool false, .slice none 0 0] 52)) false false (.slice none 0 0) := by constructor <;> simp [go_sem]
  have hx0 : ExBox (w.heap.size + 1) ((w.alloc (.cells #[.bool false, .bool false, .slice none 0 0] 52)).alloc (.cells #[.bool false, .bool false, .slice none 0 0] 52)) false false (.slice none 0 0) := by constructor <;> simp [go_sem]
  have B0 : Below w.heap.size w ((w.alloc (.cells #[.bool false, .bool false, .slice none 0 0] 52)).alloc (.cells #[.bool false, .bool false, .slice none 0 0] 52)) := ((Below.refl _ _).alloc (Nat.le_refl _) _).alloc (by simp) _
  have hsz0 : ((w.alloc (.cells #[.bool false, .bool false, .slice none 0 0] 52)).alloc (.cells #[.bool false, .bool false, .slice none 0 0] 52)).heap.size = w.heap.size + 2 := by simp
  go_enter Try.func43, Try.ntmps43
  go_wp2_with fail
  generalize ((w.alloc (.cells #[.bool false, .bool false, .slice none 0 0] 52)).alloc (.cells #[.bool false, .bool false, .slice none 0 0] 52)) = W at *
  refine (stands_calls s k 94 _ hs hk (by decide)).mono ?_
  rintro e w2 ⟨rfl, rfl⟩
  rw [HOTH.out]
  go_upto_if 15 with fail
  go_cut [8] (fun v wx => v = .int .i64 p ∧ ExBox w.heap.size wx false false (.slice none 0 0) ∧ ExBox (w.heap.size + 1) wx hd false (.slice none 0 0) ∧ Below w.heap.size w wx ∧ wx.heap.size = w.heap.size + 2)
  case first =>
    cases hd
    · obtain rfl : p = k := HP.out
      go_wp2
      go_meet
      exact ⟨rfl, hr0, hx0, B0, hsz0⟩
    · obtain rfl : p = k + 1 := HP.out
      have hx1 := hx0.set0 true
      have hr1 := hr0.keep (heap_setCell_other w2 ⟨w.heap.size + 1, 0, none⟩ w.heap.size (.bool true) (by simp))
      have B1 := B0.setCell (p := ⟨w.heap.size + 1, 0, none⟩) (by simp) (.bool true)
      obtain ⟨x0, x1, x2, p0, p1, p2⟩ := hx0
      go_wp2
      go_meet
      exact ⟨rfl, hr1, hx1, B1, by simpa using hsz0⟩
  case rest =>
    clear hr0 hx0 B0 hsz0
    obtain ⟨rfl, hr0, hx0, B0, hsz0⟩ := hcut
    go_wp2_with fail
    refine (readItem_calls s p m0 r _ hs hps HM0.out).mono ?_
    rintro e w3 ⟨⟨f, v2, v3, rfl, hpost⟩, B3⟩
    have HPO : Hid (ItmPost s p m0 r f v2 v3) := hpost
    clear hpost
    have hs3 := B3.size
    have hbn : BR (w3.alloc (.cells (Array.replicate 257 (.bool false)) 114)) w3.heap.size 257 (fun _ => false) := BR.new w3 _ 257
    have hP0 : PInv w.heap.size w3.heap.size w (w3.alloc (.cells (Array.replicate 257 (.bool false)) 114)) hd false (.slice none 0 0) [] (fun _ => false) := by
      have hr3 := hr0.keep (B3.block _ (by omega))
      have hx3 := hx0.keep (B3.block _ (by omega))
      have B4 := B0.trans (B3.mono (by omega))
      exact ⟨hr3.keep (Below.heap_alloc _ _ _ (by omega)), hx3.keep (Below.heap_alloc _ _ _ (by omega)), hbn, World.ownsRow_nil _ _ _ _, B4.alloc (by omega) _, by simp, by omega⟩
    obtain ⟨g9, hg9⟩ : ∃ g, w3.heap.size = g := ⟨_, rfl⟩
    rw [hg9] at hP0 hbn
    clear hr0 hx0 B0 B3 hs3 hsz0
    go_wp2_with (refine it_store hbn rfl _ _ rfl rfl _ rfl ?_; intro w5 hb5 O5)
    have hP5 := hP0.sto O5 hb5
    clear hP0 hb5 O5 hbn
    go_loopw [8, 10, 11] (fun v8 v10 v11 wr => ∃ (n : Nat) (L : List It) (m1 : List Mk) (f : Nat → Bool) (v : Value), v8 = .int .i64 n ∧ p ≤ n ∧ n ≤ s.size ∧ L.length ≤ n ∧ Hid (mksM (s.data.toList.drop n) = (m1, r)) ∧ Hid (RunsM m0 L m1) ∧ Hid (ItmPost s n m1 r f v10 v11) ∧ PInv w.heap.size g9 w wr hd false v L f) (fun v8 _ _ _ => s.size - (intOf v8).toNat)
    case atStart =>
      exact ⟨p, [], m0, f, _, rfl, Nat.le_refl _, hps, Nat.zero_le _, HM0, rfl, HPO, hP5⟩
    case round =>
      clear hP5
      obtain ⟨n, L, m1, f, v, rfl, hpn, hns, hLn, HM1, HRU, HIT, hP⟩ := hrel
      obtain ⟨av, cv, hvv⟩ := own_form hP.own
      generalize hnL : L.length = nL at hvv
      have HNL : Hid (L.length = nL) := hnL
      rw [hnL] at hLn
      clear hnL
      subst hvv
      have hsz := hP.size
      have hfar := hP.far
      rcases HIT.out with ⟨x, m2, n2, hit, hn2, hn2s, hm2, hfx, rfl, rfl⟩ | ⟨hit, n2, rfl, rfl⟩
      · have HM2 : Hid (mksM (s.data.toList.drop n2) = (m2, r)) := hm2
        have HRU2 : Hid (RunsM m0 (L ++ [x]) m2) := runs_snoc L m0 m1 m2 x HRU.out hit
        clear hit hm2 HRU HIT HM1
        subst hfx
        have hbi := hP.it
        obtain ⟨x0, x1, x2, p0, p1, p2⟩ := hP.box
        have hlt8 : w.heap.size + 1 < wr.heap.size := by omega
        have hown := hP.own
        rw [HNL.out] at hown
        go_wp2_with (first
          | refine it_load hbi rfl _ rfl rfl ?_
          | refine it_build rfl _ rfl _ rfl ?_
          | (refine it_append (hown.alloc _) wr.heap.size (itF x) (heap_alloc_new wr _) (by omega) (by simp; omega) rfl _ _ rfl rfl rfl ?_
             intro v' w3 hown3 hgrow3
             rw [← HNL.out] at hown3
             have hg3 := hP.grow hown3 hgrow3
             obtain ⟨hb3, hP3⟩ := hg3
             obtain ⟨y0, y1, y2, e0, e1, e2⟩ := hb3
             obtain ⟨av', cv', hvv⟩ := own_form hown3
             rw [HNL.out] at hvv
             subst hvv
             have hlt9 : w.heap.size + 1 < w3.heap.size := by have := hgrow3.size; simp at this; omega
             clear x0 x1 x2 p0 p1 p2 hown3 hgrow3))
        obtain ⟨W3, hW3⟩ : ∃ W3, w3.setCell ⟨w.heap.size + 1, 2, none⟩ (.slice av' (nL + 1) cv') = W3 := ⟨_, rfl⟩
        rw [hW3] at hP3
        try rw [hW3]
        clear hW3 y0 y1 y2 e0 e1 e2 hlt9
        refine (readItem_calls s n2 m2 r _ hs hn2s HM2.out).mono ?_
        rintro e w4 ⟨⟨f4, v24, v34, rfl, hpost⟩, B4⟩
        have HPO4 : Hid (ItmPost s n2 m2 r f4 v24 v34) := hpost
        have hP4 := hP3.keep B4
        clear hpost hP3 B4 hP hbi hown
        have hb4 := hP4.it
        go_wp2_with (refine it_store hb4 rfl _ _ rfl rfl _ rfl ?_; intro w5 hb5 O5)
        have hP6 := hP4.sto O5 hb5
        go_roundw
        case rel => exact ⟨n2, L ++ [x], m2, f4, _, rfl, by omega, hn2s, by rw [List.length_append, HNL.out]; simp; omega, HM2, HRU2, HPO4, hP6⟩
        case measure => simp [intOf]; omega
      · obtain ⟨hA, hB, hC⟩ := exp_read m hd HHD.out L m1 (by rw [← HM00.out]; exact HRU.out) hit
        have HA : Hid (m ≠ [] → m1 = [] → expM m = some ⟨hd, false, L⟩) := hA
        have HB : Hid (∀ d, m1 = [d] → d.is 36 = true → expM m = some ⟨hd, true, L⟩) := hB
        have HC : Hid (m1 ≠ [] → (∀ d, m1 = [d] → d.is 36 = false) → expM m = none) := hC
        clear hA hB hC hit HIT HRU
        go_wp2_with fail
        refine (stands_calls s n 36 _ hs hns (by decide)).mono ?_
        rintro e w4 ⟨rfl, rfl⟩
        obtain ⟨h36, h36'⟩ := stB_mk _ 36 _ _ HM1.out (by decide) (by decide) (by decide)
        cases hb : stB (s.data.toList.drop n) 36
        · have HF : Hid (∀ e' w', e' = .returned (.tuple #[.agg #[.bool hd, .bool false, .slice av nL cv], .int .i64 n, .bool (decide (k < n))]) → w'.ownsRow w.heap.size 114 257 (.slice av nL cv) L.length (itsC L) → Below w.heap.size w w' → RdPost s k m r w w' e') := fun e' w' he ho hbl =>
            ⟨hd, false, L, m1, n, av, cv, by rw [he, HNL.out], by omega, hns, HM1.out, by rw [HNL.out] at ho ⊢; exact ho, hbl, by rw [HNL.out]; omega, HA.out, fun h1 => HC.out h1 (fun d hd' => by
              rw [hd'] at h36
              rw [hb] at h36
              exact h36.symm)⟩
          obtain ⟨x0, x1, x2, p0, p1, p2⟩ := hP.box
          obtain ⟨r0, r1, r2, o0, o1, o2⟩ := hP.res
          have hfin := hP.fin
          clear h36 h36' hb HA HB HC HM1 hP
          by_cases hkn : k < n
          · have hkn1 : (k : Int) < (n : Int) := by omega
            rw [decide_eq_true hkn] at HF
            go_wp2
            refine bodyPost_ret (v := .tuple #[.agg #[.bool hd, .bool false, .slice av nL cv], .int .i64 n, .bool true]) (by simp [results, Try.results43, go_sem, r0, r1, r2]) rfl (HF.out _ _ rfl hfin.1 hfin.2)
          · have hkn1 : ¬ (k : Int) < (n : Int) := by omega
            rw [decide_eq_false hkn] at HF
            go_wp2
            refine bodyPost_ret (v := .tuple #[.agg #[.bool hd, .bool false, .slice av nL cv], .int .i64 n, .bool false]) (by simp [results, Try.results43, go_sem, r0, r1, r2]) rfl (HF.out _ _ rfl hfin.1 hfin.2)
        · obtain ⟨q, m3, hq, hm3⟩ := h36' hb
          have hn1 := stB_size s n 36 hb
          rw [List.drop_drop] at hm3
          have hq36 : q.is 36 = true := by rw [hb, hq] at h36; exact h36.symm
          have HF : Hid (∀ e' w', e' = .returned (.tuple #[.agg #[.bool hd, .bool true, .slice av nL cv], .int .i64 ((n + 1 : Nat) : Int), .bool true]) → w'.ownsRow w.heap.size 114 257 (.slice av nL cv) L.length (itsC L) → Below w.heap.size w w' → RdPost s k m r w w' e') := fun e' w' he ho hbl =>
            ⟨hd, true, L, m3, n + 1, av, cv, by rw [he, HNL.out, decide_eq_true (show k < n + 1 by omega)], by omega, hn1, hm3, by rw [HNL.out] at ho ⊢; exact ho, hbl, by rw [HNL.out]; omega, fun _ h3 => HB.out q (by rw [hq, h3]) hq36, fun h3 => HC.out (by rw [hq]; simp) (fun d hd' => by
              rw [hq] at hd'
              simp at hd'
              exact absurd hd'.2 h3)⟩
          have hP6 := hP.set1 true
          have hfin := hP6.fin
          obtain ⟨z0, z1, z2, q0, q1, q2⟩ := hP6.res
          obtain ⟨x0, x1, x2, p0, p1, p2⟩ := hP.box
          obtain ⟨y0, y1, y2, t0, t1, t2⟩ := hP6.box
          have hkn1 : (k : Int) < (n : Int) + 1 := by omega
          clear h36 h36' hb HA HB HC HM1 hP hq hm3 hq36 hP6
          go_wp2
          refine bodyPost_ret (v := .tuple #[.agg #[.bool hd, .bool true, .slice av nL cv], .int .i64 ((n + 1 : Nat) : Int), .bool true]) (by simp [results, Try.results43, go_sem, z0, z1, z2]) rfl (HF.out _ _ rfl hfin.1 hfin.2)
end Go.Proofs.Ytlppphmnegdhoab
