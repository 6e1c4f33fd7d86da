/-
  The document's expressions: rows of items; the whole expression: plain part.
-/
import Derived.Test.YtlppphmnegdhoaaFx6
namespace Go.Proofs.Ytlppphmnegdhoaa
set_option linter.unusedVariables false
set_option maxRecDepth 100000
open Go.RowKit
open M

theorem infoItem : (Try.prog.info? 127).map (fun i => (i.zero, i.size, i.bytes)) = some (some (.agg #[.bool false, .bool false, .bool false, .slice none 0 0, .slice none 0 0]), 5, 56) := by kernel_rfl
theorem undItems : Try.prog.underlying 90 = some (.slice 127) := by kernel_rfl
theorem rows_apart2 {w : World} {B1 B2 : Nat} {e1 e2 : TypeId} {s1 s2 : Nat} {v1 v2 : Value} {n1 n2 : Nat} {x1 x2 : List Value} (h1 : w.ownsRow B1 e1 s1 v1 n1 x1) (h2 : w.ownsRow B2 e2 s2 v2 n2 x2) (hne : e1 ≠ e2) : v1.ownBlock = none ∨ v1.ownBlock ≠ v2.ownBlock := by
  rcases h1.2 with ⟨rfl, _⟩ | ⟨g, cap, cur, rfl, hb, hg, _⟩
  · exact .inl rfl
  · right
    rcases h2.2 with ⟨rfl, _⟩ | ⟨g', cap', cur', rfl, hb', hg', _⟩
    · simp [Value.ownBlock]
    · intro e
      simp [Value.ownBlock] at e
      subst e
      rw [hg] at hg'
      simp at hg'
      exact hne hg'.2
/-- an item and where its ranges lie -/
structure IV where
  it : It
  f : Value
  b : Value
def ivC (x : IV) : List Value := [.bool x.it.any, .bool x.it.not, .bool x.it.star, x.f, x.b]
def ivsC (l : List IV) : List Value := (l.map ivC).flatten
theorem ivsC_snoc (l : List IV) (x : IV) : ivsC (l ++ [x]) = ivsC l ++ ivC x := by simp [ivsC]
def IVok (B : Nat) (w : World) (x : IV) : Prop := Twin B w x.f x.b (los x.it.rng) (his x.it.rng)
theorem ivC_one {B : Nat} {w : World} {x : IV} (h : IVok B w x) : ∀ u ∈ ivC x, u.oneCell' = true := by
  obtain ⟨a, c, h1⟩ := own_form h.f
  obtain ⟨a', c', h2⟩ := own_form h.k
  intro u hu
  simp [ivC] at hu
  rcases hu with rfl | rfl | rfl | rfl | rfl
  · rfl
  · rfl
  · rfl
  · rw [h1]; rfl
  · rw [h2]; rfl
theorem ivC_at (w : World) (x : IV) (t : TypeId) : ∀ j u, (ivC x)[j]? = some u → (w.alloc (.cells #[.bool x.it.any, .bool x.it.not, .bool x.it.star, x.f, x.b] t)).cell? ((⟨w.heap.size, 0, none⟩ : Addr).add j) = some u := by
  intro j u h
  match j, h with
  | 0, h => simp [ivC] at h; subst h; simp [Addr.add]
  | 1, h => simp [ivC] at h; subst h; simp [Addr.add]
  | 2, h => simp [ivC] at h; subst h; simp [Addr.add]
  | 3, h => simp [ivC] at h; subst h; simp [Addr.add]
  | 4, h => simp [ivC] at h; subst h; simp [Addr.add]
  | n + 5, h => simp [ivC] at h

theorem MarksAt.take {w : World} {a : Option Addr} {n : Nat} {l : List Mk} (h : MarksAt w a n l) (e : Nat) (he : e ≤ l.length) : MarksAt w a e (l.take e) := by
  refine ⟨by rw [List.length_take]; omega, ?_⟩
  rcases h.cells with h0 | ⟨b, off, ha, hlt, hc⟩
  · left; rw [h0]; simp
  · right
    refine ⟨b, off, ha, hlt, fun i hi => ?_⟩
    have hi2 : i < l.length := by rw [List.length_take] at hi; omega
    rw [List.getElem_take]
    exact hc i hi2
/-- an item takes something -/
theorem bare_less (m : List Mk) (x : It) (r : List Mk) (h : bareM m = some (x, r)) : r.length < m.length := by
  match m with
  | [] => simp [bareM] at h
  | c :: t =>
    cases h46 : c.is 46
    · cases h91 : c.is 91
      · cases hb : badI c
        · rw [bare_one c t h46 h91 hb] at h
          simp at h
          rw [← h.2]; simp
        · rw [bare_bad c t h46 h91 hb] at h; cases h
      · rw [bare_set c t h46 h91, set_caret] at h
        cases hc : caret t
        · rw [hc] at h
          simp only [Bool.false_eq_true, if_false] at h
          cases hm : membersM t [] with
          | none => rw [hm] at h; cases h
          | some p =>
            obtain ⟨q, hq, hr⟩ := mem_rest t _ _ _ hm
            rw [hm] at h
            simp at h
            rw [← h.2, hr, List.length_drop]
            simp; omega
        · rw [hc] at h
          simp only [if_true] at h
          cases hm : membersM (t.drop 1) [] with
          | none => rw [hm] at h; cases h
          | some p =>
            obtain ⟨q, hq, hr⟩ := mem_rest (t.drop 1) _ _ _ hm
            rw [hm] at h
            simp at h
            rw [← h.2, hr, List.length_drop, List.length_drop]
            simp; omega
    · rw [bare_any c t h46] at h
      simp at h
      rw [← h.2]; simp
theorem item_less (m : List Mk) (x : It) (r : List Mk) (h : itemM m = some (x, r)) : r.length < m.length := by
  unfold itemM at h
  cases hb : bareM m with
  | none => rw [hb] at h; cases h
  | some p =>
    have h1 := bare_less m p.1 p.2 hb
    rw [hb] at h
    simp only [Option.map_some, Option.some.injEq] at h
    unfold starM at h
    match hp : p.2 with
    | [] => rw [hp] at h; simp only at h; rw [h] at h1; exact h1
    | d :: u =>
      rw [hp] at h h1
      simp only at h
      split at h
      · simp at h
        rw [← h.2]
        simp at h1; omega
      · rw [h] at hp
        simp only at hp
        rw [hp]; exact h1
theorem items_fuel : ∀ (n k : Nat) (m : List Mk), m.length ≤ n → m.length ≤ k → itemsM n m = itemsM k m := by
  intro n
  induction n with
  | zero => intro k m h _; cases m with
    | nil => simp [itemsM]
    | cons a t => simp at h
  | succ n ih =>
    intro k m h hk
    cases m with
    | nil => simp [itemsM]
    | cons a t =>
      simp only [List.length_cons] at h hk
      obtain ⟨k, rfl⟩ : ∃ k', k = k' + 1 := ⟨k - 1, by omega⟩
      simp only [itemsM]
      cases hi : itemM (a :: t) with
      | none => rfl
      | some p =>
        have hl := item_less (a :: t) p.1 p.2 hi
        simp only [List.length_cons] at hl
        simp only
        rw [ih k p.2 (by omega) (by omega)]
/-- all items of marks -/
def itemsA (m : List Mk) : Option (List It) := itemsM m.length m
theorem itemsA_nil : itemsA [] = some [] := by simp [itemsA, itemsM]
theorem itemsA_none (m : List Mk) (hm : m ≠ []) (h : itemM m = none) : itemsA m = none := by
  match m with
  | [] => exact absurd rfl hm
  | a :: t => simp [itemsA, itemsM, h]
theorem itemsA_some (m : List Mk) (x : It) (r : List Mk) (hm : m ≠ []) (h : itemM m = some (x, r)) : itemsA m = (itemsA r).map (x :: ·) := by
  match m with
  | [] => exact absurd rfl hm
  | a :: t =>
    have hl := item_less _ _ _ h
    simp only [List.length_cons] at hl
    simp only [itemsA, List.length_cons, itemsM, h]
    rw [items_fuel t.length r.length r (by omega) (Nat.le_refl _)]
theorem cat_it (L : List It) (x : It) (o : Option (List It)) : (o.map (x :: ·)).map (L ++ ·) = o.map ((L ++ [x]) ++ ·) := by
  cases o <;> simp
/-- an expression, by its ends -/
theorem expM_eq (m : List Mk) (hm : m ≠ []) (hd tl : Bool) (at' en : Nat) (h0 : 0 < m.length) (h1 : hd = m[0].is 94) (h2 : at' = if hd then 1 else 0) (h3 : tl = (decide (at' < m.length) && (m[m.length - 1]'(by omega)).is 36)) (h4 : en = if tl then m.length - 1 else m.length) :
    expM m = (itemsA ((m.take en).drop at')).map (fun l => ⟨hd, tl, l⟩) := by
  have e1 : (m.head?.map (·.is 94)).getD false = hd := by
    rw [h1]
    match m, h0 with
    | a :: t, _ => rfl
  have e2 : (m.getLast?.map (·.is 36)).getD false = (m[m.length - 1]'(by omega)).is 36 := by
    rw [List.getLast?_eq_getElem?, List.getElem?_eq_getElem (by omega)]; rfl
  unfold expM
  rw [if_neg hm]
  simp only [e1, e2]
  rw [← h2, ← h3]
  unfold itemsA
  have e3 : (if tl = true then m.take (m.length - 1) else m) = m.take en := by
    rw [h4]; cases tl
    · simp
    · simp
  rw [e3]
end Go.Proofs.Ytlppphmnegdhoaa
