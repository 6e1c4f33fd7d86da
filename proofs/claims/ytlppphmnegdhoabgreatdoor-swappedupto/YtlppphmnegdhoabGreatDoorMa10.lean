import Derived.Test.YtlppphmnegdhoabGreatDoorRows
import Derived.WalkKit
import Derived.WalkSpells
import Derived.WalkLawsBesides
import Derived.Laws.BitsLemmas
import Derived.Lib.ItoaNum
import Derived.Lib.Strings
import Derived.Deep.QuietTactic
import Derived.BigQuiet
import Derived.Laws.BytesArg
import Derived.Deep.MidRow
import Derived.Deep.WholeRow
import Derived.Laws.ResultCell
import Derived.Deep.CutBlock
import Derived.Deep.DeepCutAuto
import Derived.Deep.RegionHeld3
import Derived.Deep.DrawnRows
import Derived.Deep.AppendLies
import Derived.Deep.RegionLaw
import Derived.Great.BuildSlice
import Derived.Laws.AppendOwnNone
import Derived.Laws.OwnMore
import Derived.Lib.AppendStr
import Derived.Deep.RegionWith
import Derived.RegionTactic
import Derived.Test.YtlppphmnegdhoabGreatDoorMa9
namespace Go.Proofs.YtlppphmnegdhoabGreatDoor
set_option linter.unusedVariables false
namespace M

structure SL where
  out : List Rec
  m : Nat
  d : Nat
  s : List UInt8
def SL.fin (S : SL) : List Rec := S.out ++ (rKeep S.m ++ (rDrop S.d ++ rRest S.s))
def SL.add (S : SL) (r : Rec) : SL :=
  if r.kind = 0 then (if 0 < S.d ∨ S.s ≠ [] then ⟨S.fin, r.n.toNat, 0, []⟩ else ⟨S.out, S.m + r.n.toNat, S.d, S.s⟩)
  else if r.kind = 1 then ⟨S.out, S.m, S.d + r.n.toNat, S.s⟩ else ⟨S.out, S.m, S.d, S.s ++ r.s.data.toList⟩
def gS (m d : Nat) (s : List UInt8) (es : List Ev) : List Rec := if d = 0 ∧ s = [] then outBs (nb 0 [] m es) else rKeep m ++ outBs (nb d s 0 es)
def SL.Is (S : SL) (es : List Ev) : Prop := ∀ rest, norm (es ++ rest) = S.out ++ gS S.m S.d S.s rest
theorem SL.is_nil : SL.Is ⟨[], 0, 0, []⟩ [] := by intro rest; simp [gS, norm]
theorem nb_k (es : List Ev) (n : Nat) : ∀ d s m, nb d s m (List.replicate n .k ++ es) = nb d s (m + n) es := by
  induction n with
  | zero => intro d s m; rfl
  | succ n ih => intro d s m; rw [List.replicate_succ, List.cons_append, nb, ih]; congr 1; omega
theorem nb_d (es : List Ev) (n : Nat) : ∀ d s, nb d s 0 (List.replicate n .d ++ es) = nb (d + n) s 0 es := by
  induction n with
  | zero => intro d s; rfl
  | succ n ih => intro d s; rw [List.replicate_succ, List.cons_append, nb, if_pos rfl, ih]; congr 1; omega
theorem nb_r (es : List Ev) (t : List UInt8) : ∀ d s, nb d s 0 (t.map .r ++ es) = nb d (s ++ t) 0 es := by
  induction t with
  | nil => intro d s; simp
  | cons c t ih => intro d s; rw [List.map_cons, List.cons_append, nb, if_pos rfl, ih]; simp
theorem nb_head (es : List Ev) : ∀ d s m, 0 < m → outBs (nb d s m es) = rDrop d ++ (rRest s ++ outBs (nb 0 [] m es)) := by
  induction es with
  | nil =>
    intro d s m hm
    have h1 : ¬ (d = 0 ∧ s = [] ∧ m = 0) := by omega
    simp only [nb]
    rw [if_neg h1, if_neg (by simp; omega)]
    simp [outBs, outB, rDrop, rRest]
  | cons e es ih =>
    intro d s m hm
    have h0 : ¬ m = 0 := by omega
    cases e with
    | k => simp only [nb]; exact ih d s (m + 1) (by omega)
    | d => simp only [nb]; rw [if_neg h0, if_neg h0]; simp [outBs, outB, rDrop, rRest]
    | r c => simp only [nb]; rw [if_neg h0, if_neg h0]; simp [outBs, outB, rDrop, rRest]
theorem gS_drop (m d : Nat) (s : List UInt8) (n : Nat) (hn : 0 < n) (es : List Ev) : gS m d s (List.replicate n .d ++ es) = gS m (d + n) s es := by
  have h2 : ¬ (d + n = 0 ∧ s = []) := by omega
  unfold gS
  rw [if_neg h2]
  split
  · rename_i h
    obtain ⟨rfl, rfl⟩ := h
    obtain ⟨n, rfl⟩ : ∃ k, n = k + 1 := ⟨n - 1, by omega⟩
    rw [List.replicate_succ, List.cons_append]
    simp only [nb]
    by_cases hm : m = 0
    · rw [if_pos hm, nb_d, hm, show 0 + 1 + n = 0 + (n + 1) by omega]; simp [rKeep]
    · rw [if_neg hm, nb_d, show 1 + n = 0 + (n + 1) by omega]; simp [outBs, outB, rDrop, rRest]
  · rw [nb_d]
theorem gS_rest (m d : Nat) (s t : List UInt8) (ht : t ≠ []) (es : List Ev) : gS m d s (t.map .r ++ es) = gS m d (s ++ t) es := by
  have h2 : ¬ (d = 0 ∧ s ++ t = []) := by intro h; exact ht (List.append_eq_nil_iff.1 h.2).2
  unfold gS
  rw [if_neg h2]
  split
  · rename_i h
    obtain ⟨rfl, rfl⟩ := h
    obtain ⟨c, t, rfl⟩ : ∃ c u, t = c :: u := by cases t with | nil => exact absurd rfl ht | cons c u => exact ⟨c, u, rfl⟩
    rw [List.map_cons, List.cons_append]
    simp only [nb]
    by_cases hm : m = 0
    · rw [if_pos hm, nb_r, hm]; simp [rKeep]
    · rw [if_neg hm, nb_r]; simp [outBs, outB, rDrop, rRest]
  · rw [nb_r]
theorem gS_keep (m d : Nat) (s : List UInt8) (n : Nat) (hn : 0 < n) (es : List Ev) :
    gS m d s (List.replicate n .k ++ es) = if 0 < d ∨ s ≠ [] then rKeep m ++ (rDrop d ++ (rRest s ++ gS n 0 [] es)) else gS (m + n) d s es := by
  unfold gS
  split
  · rename_i h
    rw [nb_k, if_neg (by rintro (h1 | h1); · omega
                         · exact h1 h.2)]
  · rename_i h
    rw [nb_k, Nat.zero_add, nb_head _ _ _ _ hn, if_pos, if_pos ⟨rfl, rfl⟩]
    by_cases hd : d = 0
    · exact .inr fun hs => h ⟨hd, hs⟩
    · exact .inl (by omega)
theorem gS_nil (m d : Nat) (s : List UInt8) : gS m d s [] = rKeep m ++ (rDrop d ++ rRest s) := by
  unfold gS
  split
  · rename_i h
    obtain ⟨rfl, rfl⟩ := h
    simp only [nb]
    split
    · rename_i h; simp [h.2.2, rKeep, rDrop, rRest, outBs]
    · simp [outBs, outB, rDrop, rRest]
  · rename_i h
    simp only [nb]
    rw [if_neg (fun g => h ⟨g.1, g.2.1⟩)]
    simp [outBs, outB, rKeep]
theorem SL.is_fin {S : SL} {es : List Ev} (h : S.Is es) : S.fin = norm es := by
  have := h []
  rw [List.append_nil, gS_nil] at this
  rw [this]; rfl
theorem SL.is_add {S : SL} {es : List Ev} (h : S.Is es) {r : Rec} (hr : okRec r = true) : (S.add r).Is (es ++ expR r) := by
  intro rest
  have hk := (okRec_iff r).1 hr
  have hl := ba_len r.s
  rw [List.append_assoc, h]
  unfold SL.add expR
  by_cases h0 : r.kind = 0
  · simp only [if_pos h0]
    rw [gS_keep _ _ _ _ (by omega)]
    split
    · simp [SL.fin]
    · rfl
  · simp only [if_neg h0]
    by_cases h1 : r.kind = 1
    · simp only [if_pos h1]
      rw [gS_drop _ _ _ _ (by omega)]
    · simp only [if_neg h1]
      rw [gS_rest _ _ _ _ (by intro h2; rw [h2] at hl; simp at hl; omega)]
theorem lens_K (m : Nat) : lenA (rKeep m) = m ∧ lenB (rKeep m) = m := by
  unfold rKeep; split
  · rename_i h; simp [h, lenA, lenB]
  · simp [lenA, lenB, inA, inB]
theorem lens_D (m : Nat) : lenA (rDrop m) = 0 ∧ lenB (rDrop m) = m := by
  unfold rDrop; split
  · rename_i h; simp [h, lenA, lenB]
  · simp [lenA, lenB, inA, inB]
theorem lens_R (s : List UInt8) : lenA (rRest s) = s.length ∧ lenB (rRest s) = 0 := by
  unfold rRest; split
  · rename_i h; simp [h, lenA, lenB]
  · simp [lenA, lenB, inA, inB]
theorem SL.lens (S : SL) : lenA S.fin = lenA S.out + S.m + S.s.length ∧ lenB S.fin = lenB S.out + S.m + S.d := by
  unfold SL.fin
  simp only [lenA_append, lenB_append, lens_K, lens_D, lens_R]
  omega
end M
end Go.Proofs.YtlppphmnegdhoabGreatDoor

namespace Go.Proofs.YtlppphmnegdhoabGreatDoor
set_option linter.unusedVariables false
namespace M

def leadsE : List Ev → List UInt8 → List UInt8 → Prop
  | [], a, b => a = [] ∧ b = []
  | .k :: es, a, b => ∃ c a' b', a = c :: a' ∧ b = c :: b' ∧ leadsE es a' b'
  | .d :: es, a, b => ∃ c b', b = c :: b' ∧ leadsE es a b'
  | .r c :: es, a, b => ∃ a', a = c :: a' ∧ leadsE es a' b
theorem leadsE_eqv {x y : List Ev} (h : Eqv x y) : ∀ a b, leadsE x a b ↔ leadsE y a b := by
  induction h with
  | refl x => intro a b; exact Iff.rfl
  | swap c x =>
    intro a b
    simp only [leadsE]
    constructor
    · rintro ⟨c', b', rfl, a', rfl, h⟩; exact ⟨a', rfl, c', b', rfl, h⟩
    · rintro ⟨a', rfl, c', b', rfl, h⟩; exact ⟨c', b', rfl, a', rfl, h⟩
  | cons e _ ih => intro a b; cases e <;> simp only [leadsE, ih]
  | symm _ ih => intro a b; exact (ih a b).symm
  | trans _ _ ih1 ih2 => intro a b; exact (ih1 a b).trans (ih2 a b)
theorem leadsE_k (n : Nat) (es : List Ev) : ∀ a b, leadsE (List.replicate n .k ++ es) a b ↔ n ≤ a.length ∧ n ≤ b.length ∧ a.take n = b.take n ∧ leadsE es (a.drop n) (b.drop n) := by
  induction n with
  | zero => intro a b; simp
  | succ n ih =>
    intro a b
    rw [List.replicate_succ, List.cons_append]
    simp only [leadsE]
    constructor
    · rintro ⟨c, a', b', rfl, rfl, h⟩
      have := (ih a' b').1 h
      simp; exact this
    · rintro ⟨ha, hb, ht, h⟩
      match a, b, ha, hb with
      | x :: a, y :: b, ha, hb =>
        simp at ha hb ht h
        obtain ⟨rfl, ht⟩ := ht
        exact ⟨x, a, b, rfl, rfl, (ih a b).2 ⟨ha, hb, ht, h⟩⟩
theorem leadsE_d (n : Nat) (es : List Ev) : ∀ a b, leadsE (List.replicate n .d ++ es) a b ↔ n ≤ b.length ∧ leadsE es a (b.drop n) := by
  induction n with
  | zero => intro a b; simp
  | succ n ih =>
    intro a b
    rw [List.replicate_succ, List.cons_append]
    simp only [leadsE]
    constructor
    · rintro ⟨c, b', rfl, h⟩
      have := (ih a b').1 h
      simp; exact this
    · rintro ⟨hb, h⟩
      match b, hb with
      | y :: b, hb =>
        simp at hb h
        exact ⟨y, b, rfl, (ih a b).2 ⟨hb, h⟩⟩
theorem leadsE_r (s : List UInt8) (es : List Ev) : ∀ a b, leadsE (s.map .r ++ es) a b ↔ s.length ≤ a.length ∧ a.take s.length = s ∧ leadsE es (a.drop s.length) b := by
  induction s with
  | nil => intro a b; simp
  | cons c s ih =>
    intro a b
    rw [List.map_cons, List.cons_append]
    simp only [leadsE]
    constructor
    · rintro ⟨a', rfl, h⟩
      have := (ih a' b).1 h
      simp; exact this
    · rintro ⟨ha, ht, h⟩
      cases a with
      | nil => simp at ha
      | cons x a =>
        simp at ha ht h
        obtain ⟨h1, ht⟩ := ht
        subst h1
        exact ⟨a, rfl, (ih a b).2 ⟨ha, ht, h⟩⟩

end M
end Go.Proofs.YtlppphmnegdhoabGreatDoor

namespace Go.Proofs.YtlppphmnegdhoabGreatDoor
set_option linter.unusedVariables false
namespace M
def rDrop1 : Rec := ⟨1, 1, ⟨#[]⟩⟩
def rKeep1 : Rec := ⟨0, 1, ⟨#[]⟩⟩
/-- a restore of a part of a text -/
def rRes (t : ByteArray) (i j : Nat) : Rec := ⟨2, ((j - i : Nat) : Int), t.extract i j⟩
/-- what is put out of a byte, from a place on: the records, and the place behind them -/
def recs1 (t : ByteArray) (p : Nat) (c : Cl) : List Rec × Nat :=
  if c.2 < (p : Int) ∨ (t.size : Int) ≤ c.2 then ([rDrop1], p) else ((if (p : Int) < c.2 then [rRes t p c.2.toNat] else []) ++ [rKeep1], c.2.toNat + 1)
def recsP (t : ByteArray) : Nat → List Cl → List Rec × Nat
  | p, [] => ([], p)
  | p, c :: l => ((recs1 t p c).1 ++ (recsP t (recs1 t p c).2 l).1, (recsP t (recs1 t p c).2 l).2)
/-- all of them -/
def recsA (t : ByteArray) (l : List Cl) : List Rec := (recsP t 0 l).1 ++ (if (recsP t 0 l).2 < t.size then [rRes t (recsP t 0 l).2 t.size] else [])
theorem recsP_snoc (t : ByteArray) (l : List Cl) (c : Cl) : ∀ p, recsP t p (l ++ [c]) = ((recsP t p l).1 ++ (recs1 t (recsP t p l).2 c).1, (recs1 t (recsP t p l).2 c).2) := by
  induction l with
  | nil => intro p; simp [recsP]
  | cons d l ih =>
    intro p
    rw [List.cons_append, recsP, ih, recsP]
    simp
theorem recs1_le (t : ByteArray) (p : Nat) (c : Cl) (h : p ≤ t.size) : (recs1 t p c).2 ≤ t.size ∧ p ≤ (recs1 t p c).2 := by
  unfold recs1
  split
  · exact ⟨h, Nat.le_refl _⟩
  · show c.2.toNat + 1 ≤ t.size ∧ p ≤ c.2.toNat + 1
    omega
theorem rRes_ok (t : ByteArray) (i j : Nat) (h : i < j) (hj : j ≤ t.size) : okRec (rRes t i j) = true := by
  rw [okRec_iff]
  have : (t.extract i j).size = j - i := by rw [ByteArray.size_extract, Nat.min_eq_left hj]
  have h9 : ((t.extract i j).size : Int) = ((j - i : Nat) : Int) := by rw [this]
  exact ⟨by show (1 : Int) ≤ ((j - i : Nat) : Int); omega, .inr ⟨rfl, h9⟩⟩
theorem recs1_ok (t : ByteArray) (p : Nat) (c : Cl) (h : p ≤ t.size) : okAll (recs1 t p c).1 := by
  unfold recs1
  split
  · intro r hr; rw [List.mem_singleton] at hr; rw [hr]; rfl
  · rename_i hn
    intro r hr
    rcases List.mem_append.1 hr with hr | hr
    · split at hr
      · rw [List.mem_singleton] at hr; rw [hr]
        exact rRes_ok t p _ (by omega) (by omega)
      · cases hr
    · rw [List.mem_singleton] at hr; rw [hr]; rfl
theorem recsP_ok (t : ByteArray) : ∀ (l : List Cl) (p : Nat), p ≤ t.size → okAll (recsP t p l).1 := by
  intro l
  induction l with
  | nil => intro p _ r hr; cases hr
  | cons c l ih =>
    intro p h r hr
    rcases List.mem_append.1 hr with hr | hr
    · exact recs1_ok t p c h r hr
    · exact ih _ (recs1_le t p c h).1 r hr
theorem recsA_ok (t : ByteArray) (l : List Cl) : okAll (recsA t l) := by
  intro r hr
  rcases List.mem_append.1 hr with hr | hr
  · exact recsP_ok t l 0 (Nat.zero_le _) r hr
  · split at hr
    · rw [List.mem_singleton] at hr; rw [hr]
      exact rRes_ok t _ _ (by assumption) (Nat.le_refl _)
    · cases hr
/-- a restore's events -/
theorem exp_res (t : ByteArray) (i j : Nat) : expR (rRes t i j) = ((t.data.toList.drop i).take (j - i)).map .r := by
  unfold expR rRes
  simp only
  rw [if_neg (by decide), if_neg (by decide)]
  congr 1
  exact Lib.extract_data t i j
theorem leadsE_rs (s : List UInt8) (es : List Ev) (a b : List UInt8) (h : leadsE es a b) : leadsE (s.map .r ++ es) (s ++ a) b := by
  induction s with
  | nil => exact h
  | cons c s ih => exact ⟨s ++ a, rfl, ih⟩
/-- the records lead from the input to what was put out -/
theorem recsP_leads (t : ByteArray) : ∀ (l : List Cl) (p : Nat), p ≤ t.size → Origs t.data.toList l → ∀ tail b, leadsE tail (t.data.toList.drop (recsP t p l).2) b → leadsE (expL (recsP t p l).1 ++ tail) (t.data.toList.drop p) (textC l ++ b) := by
  intro l
  induction l with
  | nil => intro p _ _ tail b h; exact h
  | cons c l ih =>
    intro p hp ho tail b h
    have hl : t.data.toList.length = t.size := Array.length_toList
    have hc := ho c (by simp)
    have h1 := ih (recs1 t p c).2 (recs1_le t p c hp).1 (fun d hd => ho d (by simp [hd])) tail b h
    rw [recsP, expL_append, List.append_assoc]
    show leadsE (expL (recs1 t p c).1 ++ (expL (recsP t (recs1 t p c).2 l).1 ++ tail)) (t.data.toList.drop p) (c.1 :: (textC l ++ b))
    generalize expL (recsP t (recs1 t p c).2 l).1 ++ tail = es at *
    unfold recs1 at h1 ⊢
    split
    · rename_i hn
      rw [if_pos hn] at h1
      exact ⟨c.1, _, rfl, h1⟩
    · rename_i hn
      rw [if_neg hn] at h1
      simp only at h1
      obtain ⟨k, hk, e1, e2⟩ : ∃ k, ∃ h : k < t.data.toList.length, c.2 = (k : Int) ∧ t.data.toList[k] = c.1 := by
        rcases hc with hc | hc
        · omega
        · exact hc
      have ek : c.2.toNat = k := by omega
      rw [ek] at h1 ⊢
      have hdk : t.data.toList.drop k = c.1 :: t.data.toList.drop (k + 1) := by rw [List.drop_eq_getElem_cons hk, e2]
      have hkeep : leadsE (.k :: es) (t.data.toList.drop k) (c.1 :: (textC l ++ b)) := ⟨c.1, _, _, hdk, rfl, h1⟩
      by_cases hlt : (p : Int) < c.2
      · rw [if_pos hlt]
        show leadsE ((expR (rRes t p k) ++ [.k]) ++ es) _ _
        rw [exp_res, List.append_assoc]
        have hsp : t.data.toList.drop p = (t.data.toList.drop p).take (k - p) ++ t.data.toList.drop k := by
          have e9 : t.data.toList.drop k = (t.data.toList.drop p).drop (k - p) := by rw [List.drop_drop]; congr 1; omega
          rw [e9, List.take_append_drop]
        rw [hsp]
        have e10 : ((t.data.toList.drop p).take (k - p) ++ t.data.toList.drop k).take (k - p) = (t.data.toList.drop p).take (k - p) := by rw [← hsp]
        rw [e10]
        exact leadsE_rs _ _ _ _ hkeep
      · rw [if_neg hlt]
        have : p = k := by omega
        subst this
        exact hkeep
theorem recsA_leads (t : ByteArray) (l : List Cl) (ho : Origs t.data.toList l) : leadsE (expL (recsA t l)) t.data.toList (textC l) := by
  have hl : t.data.toList.length = t.size := Array.length_toList
  unfold recsA
  rw [expL_append]
  have := recsP_leads t l 0 (Nat.zero_le _) ho (expL (if (recsP t 0 l).2 < t.size then [rRes t (recsP t 0 l).2 t.size] else [])) [] ?_
  · rw [List.drop_zero, List.append_nil] at this; exact this
  · generalize (recsP t 0 l).2 = q
    split
    · show leadsE (expR (rRes t q t.size) ++ []) _ _
      rw [exp_res]
      have := leadsE_rs ((t.data.toList.drop q).take (t.size - q)) [] [] [] ⟨rfl, rfl⟩
      rw [List.take_of_length_le (by rw [List.length_drop]; omega)] at this ⊢
      simp only [List.append_nil] at this ⊢
      exact this
    · rw [List.drop_of_length_le (by omega)]
      exact ⟨rfl, rfl⟩
end M
end Go.Proofs.YtlppphmnegdhoabGreatDoor

namespace Go.Proofs.YtlppphmnegdhoabGreatDoor
set_option linter.unusedVariables false
namespace M
/-- origins -/
structure OG (S : St) : Prop where
  nl : Orig S.text.data.toList (nlC S.nl)
  oo : Origs S.text.data.toList S.out
  op : Origs S.text.data.toList S.pat
  oh : Origs S.text.data.toList S.hold
namespace OG
theorem die {S : St} (h : OG S) (e : Nat) : OG (S.die e) := ⟨h.nl, h.oo, h.op, h.oh⟩
theorem put {S : St} (h : OG S) (l : List Cl) (hl : Origs S.text.data.toList l) : OG (S.put l) := by
  unfold St.put
  split
  · exact h
  split
  · exact h.die 6
  · exact ⟨h.nl, h.oo.app hl, h.op, h.oh⟩
theorem putText {S : St} (h : OG S) (t : ByteArray) : OG (S.putText t) := h.put _ ((Origs.fresh _ _).join (orig_none _ _) (Origs.nil _))
theorem putPat {S : St} (h : OG S) : OG S.putPat := h.put _ (h.op.join h.nl (Origs.nil _))
theorem putUQ {S : St} (h : OG S) : OG S.putUQ := by unfold St.putUQ; split; exact h; exact h.putPat
theorem putFirst {S : St} (h : OG S) : OG S.putFirst := by unfold St.putFirst; split; exact h.putPat; exact h.put _ (h.op.part _ _)
theorem fold (l : List ByteArray) : ∀ {S : St}, OG S → OG (l.foldl St.putText S) := by
  induction l with
  | nil => intro S h; exact h
  | cons x l ih => intro S h; exact ih (h.putText x)
theorem putQueue {S : St} (h : OG S) : OG S.putQueue := by
  have h1 := fold S.queue h
  exact ⟨h1.nl, h1.oo, h1.op, h1.oh⟩
theorem endCycle {S : St} (h : OG S) : OG S.endCycle := by
  have h1 := h.putQueue
  exact ⟨h1.nl, h1.oo, h1.op, h1.oh⟩
theorem endEarly {S : St} (h : OG S) : OG S.endEarly := by
  have h1 := h.putUQ.putQueue
  exact ⟨h1.nl, h1.oo, h1.op, h1.oh⟩
theorem dropFirst {S : St} (h : OG S) : OG S.dropFirst := by
  unfold St.dropFirst
  split
  · exact h.endCycle
  · have h1 : OG { S with pat := partC S.pat (behNL S.pat) S.pat.length } := ⟨h.nl, h.oo, h.op.part _ _, h.oh⟩
    have h2 := h1.putQueue
    exact ⟨h2.nl, h2.oo, h2.op, h2.oh⟩
theorem show' {S : St} (h : OG S) (c : Cm) : OG (S.show' c) := by
  unfold St.show'
  split
  · exact h.putPat
  split
  · exact h.putFirst
  split
  · exact h.putText _
  split
  · exact h.putText _
  · exact ⟨h.nl, h.oo, h.op, h.oh⟩
theorem fill {t : List UInt8} (rep : List (Option UInt8)) {m : List Cl} (h : Origs t m) : Origs t (fillC rep m) := fun c hc => by
  unfold fillC at hc
  obtain ⟨p, _, hp⟩ := List.mem_flatMap.1 hc
  cases p with
  | none => exact h c hp
  | some b => rw [List.mem_singleton] at hp; rw [hp]; exact orig_none _ _
theorem repl {t : List UInt8} {l : List Cl} (s : Sbs) (h : Origs t l) : ∀ (ms : List (Nat × Nat)) (k b : Nat), Origs t (replC l s ms k b) := by
  intro ms
  induction ms with
  | nil => intro k b c hc; exact h c (List.mem_of_mem_drop hc)
  | cons m ms ih =>
    intro k b
    unfold replC
    split
    · exact ((h.part _ _).app (fill s.rep (h.part _ _))).app (ih _ _)
    · exact ih _ _
theorem subst {S : St} (h : OG S) (s : Sbs) : OG (S.subst s) := by
  unfold St.subst
  simp only
  split
  · exact h
  split
  · have h1 : OG { S with pat := replC S.pat s (mtsX s.ex (textC S.pat)) 1 0, mark := true } := ⟨h.nl, h.oo, repl s h.op _ _ _, h.oh⟩
    split
    · exact h1.putPat
    · exact h1
  · exact h.die 5
theorem exch {t : List UInt8} {l : List Cl} (f g : List UInt8) (h : Origs t l) : Origs t (l.map (exchC f g)) := fun c hc => by
  obtain ⟨d, hd, rfl⟩ := List.mem_map.1 hc
  unfold exchC
  split
  · exact h d hd
  · split
    · exact h d hd
    · exact orig_none _ _
theorem change {S : St} (h : OG S) (c : Cm) : OG (S.change c) := by
  unfold St.change
  simp only
  split
  · exact ⟨h.nl, h.oo, h.op, h.op⟩
  split
  · exact ⟨h.nl, h.oo, h.oh, h.oh⟩
  split
  · exact ⟨h.nl, h.oo, h.oh, h.op⟩
  split
  · split
    · exact ⟨h.nl, h.oo, h.op, h.oh.join (orig_none _ _) h.op⟩
    · exact h.die 5
  split
  · split
    · exact ⟨h.nl, h.oo, h.op.join (orig_none _ _) h.oh, h.oh⟩
    · exact h.die 5
  split
  · exact h.subst _
  · exact ⟨h.nl, h.oo, exch _ _ h.op, h.oh⟩
theorem lead {S : St} (h : OG S) (c : Cm) : OG (S.lead c) := by
  unfold St.lead
  split
  · exact h.endCycle
  split
  · exact h.dropFirst
  split
  · exact (h.putText _).endCycle
  split
  · exact ⟨h.nl, h.oo, h.op, h.oh⟩
  split
  · exact ⟨h.nl, h.oo, h.op, h.oh⟩
  split
  · exact h.endEarly
  split
  · exact ⟨h.nl, h.oo, h.op, h.oh⟩
  split
  · exact ⟨h.nl, h.oo, h.op, h.oh⟩
  · exact h
theorem does {S : St} (h : OG S) (c : Cm) : OG (S.does c) := by
  unfold St.does
  split
  · exact h.show' c
  split
  · exact h.change c
  split
  · exact h.lead c
  · exact h
theorem selects {S : St} (h : OG S) (k : Nat) (c : Cm) : OG (S.selects k c).2 := by
  unfold St.selects
  split
  · exact h
  split
  · exact h
  · unfold St.ranged
    split <;> exact ⟨h.nl, h.oo, h.op, h.oh⟩
theorem reach {S : St} (h : OG S) : OG S.reach := by
  unfold St.reach
  cases hc : S.cs[S.next]? with
  | none => exact h.putUQ.endCycle
  | some c =>
    simp only
    split
    · exact h.die 4
    · have h1 : OG { S with steps := S.steps - 1, next := S.next + 1 } := ⟨h.nl, h.oo, h.op, h.oh⟩
      have h2 := h1.selects S.next c
      split
      · exact h2.does c
      split
      · exact ⟨h2.nl, h2.oo, h2.op, h2.oh⟩
      · exact h2
theorem lineC (S : St) : Origs S.text.data.toList S.lineC := fun c hc => by
  unfold St.lineC at hc
  obtain ⟨p, hp, rfl⟩ := List.mem_map.1 hc
  obtain ⟨b, i⟩ := p
  obtain ⟨h1, h2, h3⟩ := List.mem_zipIdx hp
  rw [List.length_take, List.length_drop] at h2
  refine .inr ⟨i, by omega, rfl, ?_⟩
  show _ = b
  rw [h3, List.getElem_take, List.getElem_drop]
  congr 1
  omega
theorem tookNl (S : St) : Orig S.text.data.toList (nlC S.took.nl) := by
  unfold St.took
  split
  · rename_i hlt
    exact .inr ⟨S.lend, by rw [Array.length_toList]; exact hlt, rfl, WF.lend_nl S hlt⟩
  · exact orig_none _ _
theorem takePre {S : St} (h : OG S) : OG S.takePre := by
  unfold St.takePre
  have h0 : OG { S with asks := 0 } := ⟨h.nl, h.oo, h.op, h.oh⟩
  split
  · exact h0.putUQ.putQueue
  · exact h0.putQueue
theorem takePre_text (S : St) : S.takePre.text = S.text := by
  unfold St.takePre
  have h0 : St.Same S { S with asks := 0 } := ⟨rfl, rfl, rfl, rfl, rfl, rfl, rfl, rfl⟩
  exact (St.Same.trans (.ite (fun _ => h0.trans (St.same_putUQ _)) (fun _ => h0)) (St.same_putQueue _)).text
theorem take {S : St} (h : OG S) : OG S.take := by
  rw [St.take_eq]
  have h1 := h.takePre
  have ht := takePre_text S
  have hn : Orig S.takePre.text.data.toList (nlC S.took.nl) := by rw [ht]; exact tookNl S
  split
  · refine ⟨hn, h1.oo, ?_, h1.oh⟩
    show Origs S.takePre.text.data.toList S.takeLine
    rw [ht]
    unfold St.takeLine
    split
    · exact h.op.join h.nl (lineC S)
    · exact lineC S
  · exact ⟨hn, h1.oo, h1.op, h1.oh⟩
theorem doWithout {S : St} (h : OG S) : OG S.doWithout := by
  unfold St.doWithout
  split
  · exact ⟨h.nl, h.oo, h.op, h.oh⟩
  · exact h.endEarly
theorem move {S : St} (h : OG S) : OG S.move := by
  unfold St.move
  split
  · exact h.reach
  split
  · exact h
  split
  · exact h.doWithout
  · exact h.take
theorem ext {S : St} (h : OG S) (u : ByteArray) (c : Bool) : OG (S.ext (S.text ++ u) c) := by
  have ht : (S.text ++ u).data.toList = S.text.data.toList ++ u.data.toList := by simp
  have ho : ∀ d, Orig S.text.data.toList d → Orig (S.text ++ u).data.toList d := fun d hd => by
    rcases hd with hd | ⟨k, hk, h1, h2⟩
    · exact .inl hd
    · refine .inr ⟨k, by rw [ht, List.length_append]; omega, h1, ?_⟩
      simp only [ht]
      rw [List.getElem_append_left hk]; exact h2
  exact ⟨ho _ h.nl, fun d hd => ho d (h.oo d hd), fun d hd => ho d (h.op d hd), fun d hd => ho d (h.oh d hd)⟩
end OG
/-- a run at its beginning -/
def OI (S : St) : Prop := S.asks = 1 ∧ S.queue = [] ∧ S.out = [] ∧ S.pat = [] ∧ S.hold = []
def OrgI (S : St) : Prop := OG S ∨ OI S
theorem OrgI.move {S : St} (h : OrgI S) : OrgI S.move := by
  rcases h with h | ⟨h1, h2, h3, h4, h5⟩
  · exact .inl h.move
  · unfold St.move
    rw [if_neg (by rw [h1]; decide)]
    split
    · exact .inr ⟨h1, h2, h3, h4, h5⟩
    split
    · right
      unfold St.doWithout
      rw [if_pos h1]
      exact ⟨h1, h2, h3, h4, h5⟩
    · left
      rw [St.take_eq]
      have hp : S.takePre = { S with asks := 0, queue := [] } := by
        unfold St.takePre
        rw [if_neg (by rw [h1]; decide)]
        show ({ S.queue.foldl St.putText { S with asks := 0 } with queue := [] } : St) = _
        rw [h2]; rfl
      have hn := OG.tookNl S
      rw [hp]
      split
      · refine ⟨hn, by show Origs _ S.out; rw [h3]; exact Origs.nil _, ?_, by show Origs _ S.hold; rw [h5]; exact Origs.nil _⟩
        show Origs _ S.takeLine
        unfold St.takeLine
        rw [if_neg (by rw [h1]; decide)]
        exact OG.lineC S
      · exact ⟨hn, by show Origs _ S.out; rw [h3]; exact Origs.nil _, by show Origs _ S.pat; rw [h4]; exact Origs.nil _, by show Origs _ S.hold; rw [h5]; exact Origs.nil _⟩
theorem OrgI.goes {S T : St} (hg : Goes S T) : OrgI S → OrgI T := by
  induction hg with
  | stop _ => exact id
  | step _ _ ih => exact fun h => ih h.move
theorem OrgI.ext {S : St} (h : OrgI S) (u : ByteArray) (c : Bool) : OrgI (S.ext (S.text ++ u) c) := by
  rcases h with h | h
  · exact .inl (h.ext u c)
  · exact .inr h
theorem OrgI.out {S : St} (h : OrgI S) : Origs S.text.data.toList S.out := by
  rcases h with h | ⟨_, _, h3, _⟩
  · exact h.oo
  · rw [h3]; exact Origs.nil _
end M
end Go.Proofs.YtlppphmnegdhoabGreatDoor

namespace Go.Proofs.YtlppphmnegdhoabGreatDoor
set_option linter.unusedVariables false
namespace M
namespace St
theorem selects_keep (S : St) (k : Nat) (c : Cm) : (S.selects k c).2.death = S.death ∧ (S.selects k c).2.room = S.room ∧ (S.selects k c).2.over = S.over := by
  unfold selects
  split
  · exact ⟨rfl, rfl, rfl⟩
  split
  · exact ⟨rfl, rfl, rfl⟩
  · unfold ranged
    split <;> exact ⟨rfl, rfl, rfl⟩
end St
/-- who is dead is done -/
def DO (S : St) : Prop := S.death ≠ 0 → S.over = true
namespace DO
theorem die (S : St) (e : Nat) : DO (S.die e) := fun _ => rfl
theorem put {S : St} (h : DO S) (l : List Cl) : DO (S.put l) := by
  unfold St.put
  split
  · exact h
  split
  · exact die S 6
  · exact h
theorem putUQ {S : St} (h : DO S) : DO S.putUQ := by unfold St.putUQ; split; exact h; exact h.put _
theorem putFirst {S : St} (h : DO S) : DO S.putFirst := by unfold St.putFirst; split; exact h.put _; exact h.put _
theorem fold (l : List ByteArray) : ∀ {S : St}, DO S → DO (l.foldl St.putText S) := by
  induction l with
  | nil => intro S h; exact h
  | cons x l ih => intro S h; exact ih (h.put _)
theorem putQueue {S : St} (h : DO S) : DO S.putQueue := fold S.queue h
theorem endCycle {S : St} (h : DO S) : DO S.endCycle := h.putQueue
theorem endEarly (S : St) : DO S.endEarly := fun _ => rfl
theorem dropFirst {S : St} (h : DO S) : DO S.dropFirst := by
  unfold St.dropFirst
  split
  · exact h.endCycle
  · have h1 : DO { S with pat := partC S.pat (behNL S.pat) S.pat.length } := h
    exact h1.putQueue
theorem show' {S : St} (h : DO S) (c : Cm) : DO (S.show' c) := by
  unfold St.show'
  split
  · exact h.put _
  split
  · exact h.putFirst
  split
  · exact h.put _
  split
  · exact h.put _
  · exact h
theorem subst {S : St} (h : DO S) (s : Sbs) : DO (S.subst s) := by
  unfold St.subst
  simp only
  split
  · exact h
  split
  · have h1 : DO { S with pat := replC S.pat s (mtsX s.ex (textC S.pat)) 1 0, mark := true } := h
    split
    · exact h1.put _
    · exact h1
  · exact die S 5
theorem change {S : St} (h : DO S) (c : Cm) : DO (S.change c) := by
  unfold St.change
  simp only
  split
  · exact h
  split
  · exact h
  split
  · exact h
  split
  · split
    · exact h
    · exact die S 5
  split
  · split
    · exact h
    · exact die S 5
  split
  · exact h.subst _
  · exact h
theorem lead {S : St} (h : DO S) (c : Cm) : DO (S.lead c) := by
  unfold St.lead
  split
  · exact h.endCycle
  split
  · exact h.dropFirst
  split
  · exact (h.put _).endCycle
  split
  · exact h
  split
  · exact h
  split
  · exact endEarly S
  split
  · exact h
  split
  · exact h
  · exact h
theorem does {S : St} (h : DO S) (c : Cm) : DO (S.does c) := by
  unfold St.does
  split
  · exact h.show' c
  split
  · exact h.change c
  split
  · exact h.lead c
  · exact h
theorem selects {S : St} (h : DO S) (k : Nat) (c : Cm) : DO (S.selects k c).2 := by
  intro hd
  have hk := St.selects_keep S k c
  rw [hk.1] at hd
  rw [hk.2.2]; exact h hd
theorem reach {S : St} (h : DO S) : DO S.reach := by
  unfold St.reach
  cases hc : S.cs[S.next]? with
  | none => exact h.putUQ.endCycle
  | some c =>
    simp only
    split
    · exact die S 4
    · have h1 : DO { S with steps := S.steps - 1, next := S.next + 1 } := h
      have h2 := h1.selects S.next c
      split
      · exact h2.does c
      split
      · exact h2
      · exact h2
theorem takePre {S : St} (h : DO S) : DO S.takePre := by
  unfold St.takePre
  have h0 : DO { S with asks := 0 } := h
  split
  · exact h0.putUQ.putQueue
  · exact h0.putQueue
theorem take {S : St} (h : DO S) : DO S.take := by
  rw [St.take_eq]
  have h1 := h.takePre
  split
  · exact h1
  · exact fun _ => rfl
theorem doWithout {S : St} (h : DO S) : DO S.doWithout := by
  unfold St.doWithout
  split
  · exact fun _ => rfl
  · exact endEarly S
theorem move {S : St} (h : DO S) : DO S.move := by
  unfold St.move
  split
  · exact h.reach
  split
  · exact h
  split
  · exact h.doWithout
  · exact h.take
theorem goes {S T : St} (hg : Goes S T) : DO S → DO T := by
  induction hg with
  | stop _ => exact fun h => h
  | step _ _ ih => exact fun h => ih h.move
end DO
end M
end Go.Proofs.YtlppphmnegdhoabGreatDoor

namespace Go.Proofs.YtlppphmnegdhoabGreatDoor
set_option linter.unusedVariables false
namespace M
open St
/-- a run at its beginning -/
def St0 (cs : List Cm) (quiet : Bool) (steps room : Nat) : St :=
  { cs := cs, rng := List.replicate cs.length false, quiet := quiet, steps := steps, room := room, text := ⟨#[]⟩, closed := false, behind := 0, nl := 0, out := [], pat := [], hold := [], line := 0, queue := [], mark := false, next := 0, asks := 1, over := false, death := 0 }
theorem St0.wf (cs : List Cm) (quiet : Bool) (steps room : Nat) (h1 : cs.length ≤ 400) (h2 : ∀ c ∈ cs, CmOk c) (h3 : steps ≤ 5000) (h4 : room ≤ 256) : WF (St0 cs quiet steps room) := by
  refine ⟨h1, h2, by simp [St0], h3, h4, Nat.zero_le _, Nat.zero_le _, ⟨?_, ?_⟩, Nat.zero_le _, Nat.zero_le _, Nat.zero_le _, Nat.le_refl _, ?_, fun t h => (List.not_mem_nil h).elim, fun c h => (List.not_mem_nil h).elim, fun c h => (List.not_mem_nil h).elim, fun c h => (List.not_mem_nil h).elim, by show 1 ≤ 3; decide, Nat.zero_le _, Nat.zero_le _⟩
  · show (-1 : Int) ≤ 0; decide
  · show (0 : Int) < 4096; decide
  · show 0 + steps ≤ 5000; omega
theorem St0.opn (cs : List Cm) (quiet : Bool) (steps room : Nat) : Opn (St0 cs quiet steps room) := ⟨rfl, Nat.zero_le _, fun h => by cases h⟩
theorem St0.org (cs : List Cm) (quiet : Bool) (steps room : Nat) : OrgI (St0 cs quiet steps room) := .inr ⟨rfl, rfl, rfl, rfl, rfl⟩
theorem ba_app_nil (t : ByteArray) : t ++ (⟨#[]⟩ : ByteArray) = t := by
  apply ByteArray.ext
  simp
theorem ba_nil_app (t : ByteArray) : (⟨#[]⟩ : ByteArray) ++ t = t := by
  apply ByteArray.ext
  simp
/-- a run that was fed a text, piece by piece -/
structure Fed (S0 : St) (t : ByteArray) (T : St) : Prop where
  go : Goes (S0.ext t false) T
  op : Opn (S0.ext t false)
theorem Fed.text {S0 T : St} {t : ByteArray} (h : Fed S0 t T) : T.text = t ∧ T.closed = false := by
  obtain ⟨h1, h2, _⟩ := goes_ext h.go h.op
  exact ⟨h2, h1.closed⟩
theorem Fed.on {S0 T : St} {t : ByteArray} (h : Fed S0 t T) (u : ByteArray) (c : Bool) (R : St) : Goes (S0.ext (t ++ u) c) R ↔ Goes (T.ext (t ++ u) c) R := by
  obtain ⟨h1, h2, h3⟩ := goes_ext h.go h.op
  exact h3 u c R
theorem Fed.opn {S0 T : St} {t : ByteArray} (h : Fed S0 t T) (u : ByteArray) : Opn (S0.ext (t ++ u) false) := by
  obtain ⟨h1, h2, h3⟩ := h.op
  refine ⟨rfl, ?_, fun ha => ?_⟩
  · show S0.behind ≤ (t ++ u).size
    have : S0.behind ≤ t.size := h2
    simp; omega
  · show S0.behind < (t ++ u).size
    have : S0.behind < t.size := h3 ha
    simp; omega
/-- one piece more -/
theorem Fed.feed {S0 T R : St} {t : ByteArray} (h : Fed S0 t T) (u : ByteArray) (hg : Goes (T.ext (T.text ++ u) T.closed) R) : Fed S0 (t ++ u) R := by
  rw [h.text.1, h.text.2] at hg
  exact ⟨(h.on u false R).2 hg, h.opn u⟩
/-- behind a death nothing turns -/
theorem goes_over {S : St} (h : S.over = true) : Goes S S := .stop (by unfold St.still; rw [h]; rfl)
theorem Fed.dead {S0 T : St} {t : ByteArray} (h : Fed S0 t T) (ho : T.over = true) (u : ByteArray) : Fed S0 (t ++ u) (T.ext (t ++ u) false) :=
  ⟨(h.on u false _).2 (goes_over (by exact ho)), h.opn u⟩
theorem Fed.close {S0 T R : St} {t : ByteArray} (h : Fed S0 t T) (hg : Goes (T.ext T.text true) R) : Goes (S0.ext t true) R := by
  have := (h.on ⟨#[]⟩ true R).2 (by rw [ba_app_nil]; rw [h.text.1] at hg; exact hg)
  rw [ba_app_nil] at this
  exact this
theorem Fed.end {S0 T : St} {t : ByteArray} (h : Fed S0 t T) (ho : T.over = true) : Goes (S0.ext t true) (T.ext t true) := by
  have := (h.on ⟨#[]⟩ true (T.ext t true)).2 (by rw [ba_app_nil]; exact goes_over (by exact ho))
  rw [ba_app_nil] at this
  exact this
/-- a run before the first piece -/
theorem Fed.start (cs : List Cm) (quiet : Bool) (steps room : Nat) : Fed (St0 cs quiet steps room) ⟨#[]⟩ (St0 cs quiet steps room) := by
  refine ⟨.stop ?_, St0.opn cs quiet steps room⟩
  show (false || (decide ((1 : Nat) ≠ 0) && St.ask ((St0 cs quiet steps room).ext ⟨#[]⟩ false) == 2)) = true
  have : St.ask ((St0 cs quiet steps room).ext ⟨#[]⟩ false) = 2 := by
    unfold St.ask
    rw [if_pos ⟨rfl, by show (0 : Nat) < _ + 2; omega⟩]
  rw [this]; rfl
/-- the whole run -/
def Ran (cs : List Cm) (quiet : Bool) (steps room : Nat) (t : ByteArray) (R : St) : Prop := Goes ((St0 cs quiet steps room).ext t true) R
theorem Ran.unique {cs : List Cm} {quiet : Bool} {steps room : Nat} {t : ByteArray} {R R' : St} (h : Ran cs quiet steps room t R) (g : Ran cs quiet steps room t R') : R = R' := Goes.unique h g
theorem Ran.orgs {cs : List Cm} {quiet : Bool} {steps room : Nat} {t : ByteArray} {R : St} (h : Ran cs quiet steps room t R) : Origs R.text.data.toList R.out := by
  have h0 : OrgI ((St0 cs quiet steps room).ext t true) := by
    have := (St0.org cs quiet steps room).ext t true
    rw [show (St0 cs quiet steps room).text = ⟨#[]⟩ from rfl, ba_nil_app] at this
    exact this
  exact (OrgI.goes h h0).out
theorem goes_text {S T : St} (h : Goes S T) : T.text = S.text := by
  induction h with
  | stop _ => rfl
  | @step S T h hg ih =>
    rw [ih]
    unfold St.move
    split
    · exact (same_reach S).text
    · split
      · rfl
      · split
        · unfold St.doWithout
          split
          · rfl
          · unfold St.endEarly
            exact ((same_putUQ S).trans (same_putQueue _)).text
        · exact (take_keep S).1
theorem Ran.text {cs : List Cm} {quiet : Bool} {steps room : Nat} {t : ByteArray} {R : St} (h : Ran cs quiet steps room t R) : R.text = t := goes_text h
/-- the journal of a run leads from the input to what was put out -/
theorem Ran.leads {cs : List Cm} {quiet : Bool} {steps room : Nat} {t : ByteArray} {R : St} (h : Ran cs quiet steps room t R) : leadsE (expL (recsA t R.out)) t.data.toList (textC R.out) := by
  have := h.orgs
  rw [h.text] at this
  exact recsA_leads t R.out this
end M
end Go.Proofs.YtlppphmnegdhoabGreatDoor

namespace Go.Proofs.YtlppphmnegdhoabGreatDoor
set_option linter.unusedVariables false
set_option maxRecDepth 100000
open Go.RowKit
open M

set_option maxRecDepth 100000 in
set_option maxHeartbeats 4000000 in
theorem do_calls (P : Value → World → Prop) (b : Nat) (tl : List Value) (V : RV) (S : St) (vs : List Value) (c : Cm) (w : World) (h : RunAt P b tl V S w) (hw : WF S) (hc : CmAt w vs c) (hk : CmOk c) (hit : ItoaOk P V.scr) :
    Calls Tryz.prog 183 #[.pointer (some ⟨b, 0, none⟩), .agg vs.toArray] w fun e w' => VPost P b tl V (S.does c) w e w' := by
  have HC : Hid (CmAt w vs c) := hc
  have HONE : Hid (∀ v ∈ vs, v.oneCell' = true) := hc.one
  have HLEN : Hid (vs.length = 25) := hc.len
  obtain ⟨hnm, hnx, htx, _, _, _⟩ := hc.cells
  have HNM : Hid (vs[12]? = some (.int .u8 (c.name : Nat))) := hnm
  have HTX : Hid (vs[15]? = some (.string c.text)) := htx
  have HH : Hid (RunAt P b tl V S w) := h
  have hbl := h.box.lt
  have hnb := hk.nm
  have htb := hk.tx
  have HL : Hid (S.does c = if c.name = 112 ∨ c.name = 80 ∨ c.name = 61 ∨ c.name = 105 ∨ c.name = 97 then S.show' c
    else if c.name = 104 ∨ c.name = 72 ∨ c.name = 103 ∨ c.name = 71 ∨ c.name = 120 ∨ c.name = 115 ∨ c.name = 121 then S.change c
    else if c.name = 100 ∨ c.name = 68 ∨ c.name = 99 ∨ c.name = 110 ∨ c.name = 78 ∨ c.name = 113 ∨ c.name = 98 ∨ c.name = 116 then S.lead c else S) := rfl
  obtain ⟨nm, hnn⟩ : ∃ k, c.name = k := ⟨_, rfl⟩
  have HNN : Hid (c.name = nm) := hnn
  rw [hnn] at HNM HL hnb
  clear h hc hnm hnx htx hnn
  by_cases h_show : nm = 112 ∨ nm = 80 ∨ nm = 61 ∨ nm = 105 ∨ nm = 97
  · have HL2 : Hid (S.does c = S.show' c) := by show _ = _; rw [HL.out, if_pos h_show]
    have hw9 : c.name = 112 ∨ c.name = 80 ∨ c.name = 61 ∨ c.name = 105 ∨ c.name = 97 := by rw [HNN.out]; omega
    have HW : Hid (c.name = 112 ∨ c.name = 80 ∨ c.name = 61 ∨ c.name = 105 ∨ c.name = 97) := hw9
    clear hw9
    clear HL 
    rcases h_show with rfl | rfl | rfl | rfl | rfl
    · go_enter Tryz.func183, Tryz.ntmps183
      go_wp2_with (first
        | (refine cb_box rfl _ rfl vs rfl HONE.out ?_
           intro w1 hb1 B1 hs1
           have h1 := HH.out.below B1
           have HR1 : Hid (RunAt P b tl V S w1) := h1
           have HF1 : Hid (Rf (foot b V) (foot b V) w w1) := .of_below B1
           have HC1 : Hid (CmAt w1 vs c) := HC.out.below B1
           have d12 := hb1.c 12 _ HNM.out
           have l1 := hb1.lt
           have bl1 := h1.box.lt
           clear h1)
        | refine cb_load0 rtCm hb1 HLEN.out rfl _ rfl rfl ?_)
      refine (show_calls P b tl V S vs c w1 HR1.out hw HC1.out hk hit HW.out).mono ?_
      rintro e w2 ⟨rfl, hr⟩
      have HR : Hid (RPost P b tl V (S.does c) w w2) := by show RPost _ _ _ _ _ _ _; rw [HL2.out]; exact RPost.trans rfl HF1.out hr
      clear hr
      go_wp2
      go_end0
      exact ⟨rfl, HR.out⟩
    · go_enter Tryz.func183, Tryz.ntmps183
      go_wp2_with (first
        | (refine cb_box rfl _ rfl vs rfl HONE.out ?_
           intro w1 hb1 B1 hs1
           have h1 := HH.out.below B1
           have HR1 : Hid (RunAt P b tl V S w1) := h1
           have HF1 : Hid (Rf (foot b V) (foot b V) w w1) := .of_below B1
           have HC1 : Hid (CmAt w1 vs c) := HC.out.below B1
           have d12 := hb1.c 12 _ HNM.out
           have l1 := hb1.lt
           have bl1 := h1.box.lt
           clear h1)
        | refine cb_load0 rtCm hb1 HLEN.out rfl _ rfl rfl ?_)
      refine (show_calls P b tl V S vs c w1 HR1.out hw HC1.out hk hit HW.out).mono ?_
      rintro e w2 ⟨rfl, hr⟩
      have HR : Hid (RPost P b tl V (S.does c) w w2) := by show RPost _ _ _ _ _ _ _; rw [HL2.out]; exact RPost.trans rfl HF1.out hr
      clear hr
      go_wp2
      go_end0
      exact ⟨rfl, HR.out⟩
    · go_enter Tryz.func183, Tryz.ntmps183
      go_wp2_with (first
        | (refine cb_box rfl _ rfl vs rfl HONE.out ?_
           intro w1 hb1 B1 hs1
           have h1 := HH.out.below B1
           have HR1 : Hid (RunAt P b tl V S w1) := h1
           have HF1 : Hid (Rf (foot b V) (foot b V) w w1) := .of_below B1
           have HC1 : Hid (CmAt w1 vs c) := HC.out.below B1
           have d12 := hb1.c 12 _ HNM.out
           have l1 := hb1.lt
           have bl1 := h1.box.lt
           clear h1)
        | refine cb_load0 rtCm hb1 HLEN.out rfl _ rfl rfl ?_)
      refine (show_calls P b tl V S vs c w1 HR1.out hw HC1.out hk hit HW.out).mono ?_
      rintro e w2 ⟨rfl, hr⟩
      have HR : Hid (RPost P b tl V (S.does c) w w2) := by show RPost _ _ _ _ _ _ _; rw [HL2.out]; exact RPost.trans rfl HF1.out hr
      clear hr
      go_wp2
      go_end0
      exact ⟨rfl, HR.out⟩
    · go_enter Tryz.func183, Tryz.ntmps183
      go_wp2_with (first
        | (refine cb_box rfl _ rfl vs rfl HONE.out ?_
           intro w1 hb1 B1 hs1
           have h1 := HH.out.below B1
           have HR1 : Hid (RunAt P b tl V S w1) := h1
           have HF1 : Hid (Rf (foot b V) (foot b V) w w1) := .of_below B1
           have HC1 : Hid (CmAt w1 vs c) := HC.out.below B1
           have d12 := hb1.c 12 _ HNM.out
           have l1 := hb1.lt
           have bl1 := h1.box.lt
           clear h1)
        | refine cb_load0 rtCm hb1 HLEN.out rfl _ rfl rfl ?_)
      refine (show_calls P b tl V S vs c w1 HR1.out hw HC1.out hk hit HW.out).mono ?_
      rintro e w2 ⟨rfl, hr⟩
      have HR : Hid (RPost P b tl V (S.does c) w w2) := by show RPost _ _ _ _ _ _ _; rw [HL2.out]; exact RPost.trans rfl HF1.out hr
      clear hr
      go_wp2
      go_end0
      exact ⟨rfl, HR.out⟩
    · go_enter Tryz.func183, Tryz.ntmps183
      go_wp2_with (first
        | (refine cb_box rfl _ rfl vs rfl HONE.out ?_
           intro w1 hb1 B1 hs1
           have h1 := HH.out.below B1
           have HR1 : Hid (RunAt P b tl V S w1) := h1
           have HF1 : Hid (Rf (foot b V) (foot b V) w w1) := .of_below B1
           have HC1 : Hid (CmAt w1 vs c) := HC.out.below B1
           have d12 := hb1.c 12 _ HNM.out
           have l1 := hb1.lt
           have bl1 := h1.box.lt
           clear h1)
        | refine cb_load0 rtCm hb1 HLEN.out rfl _ rfl rfl ?_)
      refine (show_calls P b tl V S vs c w1 HR1.out hw HC1.out hk hit HW.out).mono ?_
      rintro e w2 ⟨rfl, hr⟩
      have HR : Hid (RPost P b tl V (S.does c) w w2) := by show RPost _ _ _ _ _ _ _; rw [HL2.out]; exact RPost.trans rfl HF1.out hr
      clear hr
      go_wp2
      go_end0
      exact ⟨rfl, HR.out⟩
  by_cases h_change : nm = 104 ∨ nm = 72 ∨ nm = 103 ∨ nm = 71 ∨ nm = 120 ∨ nm = 115 ∨ nm = 121
  · have HL2 : Hid (S.does c = S.change c) := by show _ = _; rw [HL.out, if_neg h_show, if_pos h_change]
    have hw9 : c.name = 104 ∨ c.name = 103 ∨ c.name = 120 ∨ c.name = 72 ∨ c.name = 71 ∨ c.name = 115 ∨ c.name = 121 := by rw [HNN.out]; omega
    have HW : Hid (c.name = 104 ∨ c.name = 103 ∨ c.name = 120 ∨ c.name = 72 ∨ c.name = 71 ∨ c.name = 115 ∨ c.name = 121) := hw9
    clear hw9
    clear HL h_show
    rcases h_change with rfl | rfl | rfl | rfl | rfl | rfl | rfl
    · go_enter Tryz.func183, Tryz.ntmps183
      go_wp2_with (first
        | (refine cb_box rfl _ rfl vs rfl HONE.out ?_
           intro w1 hb1 B1 hs1
           have h1 := HH.out.below B1
           have HR1 : Hid (RunAt P b tl V S w1) := h1
           have HF1 : Hid (Rf (foot b V) (foot b V) w w1) := .of_below B1
           have HC1 : Hid (CmAt w1 vs c) := HC.out.below B1
           have d12 := hb1.c 12 _ HNM.out
           have l1 := hb1.lt
           have bl1 := h1.box.lt
           clear h1)
        | refine cb_load0 rtCm hb1 HLEN.out rfl _ rfl rfl ?_)
      refine (rchange_calls P b tl V S vs c w1 HR1.out hw HC1.out hk HW.out).mono ?_
      rintro e w2 ⟨rfl, hr⟩
      have HR : Hid (RPost P b tl V (S.does c) w w2) := by show RPost _ _ _ _ _ _ _; rw [HL2.out]; exact RPost.trans rfl HF1.out hr
      clear hr
      go_wp2
      go_end0
      exact ⟨rfl, HR.out⟩
    · go_enter Tryz.func183, Tryz.ntmps183
      go_wp2_with (first
        | (refine cb_box rfl _ rfl vs rfl HONE.out ?_
           intro w1 hb1 B1 hs1
           have h1 := HH.out.below B1
           have HR1 : Hid (RunAt P b tl V S w1) := h1
           have HF1 : Hid (Rf (foot b V) (foot b V) w w1) := .of_below B1
           have HC1 : Hid (CmAt w1 vs c) := HC.out.below B1
           have d12 := hb1.c 12 _ HNM.out
           have l1 := hb1.lt
           have bl1 := h1.box.lt
           clear h1)
        | refine cb_load0 rtCm hb1 HLEN.out rfl _ rfl rfl ?_)
      refine (rchange_calls P b tl V S vs c w1 HR1.out hw HC1.out hk HW.out).mono ?_
      rintro e w2 ⟨rfl, hr⟩
      have HR : Hid (RPost P b tl V (S.does c) w w2) := by show RPost _ _ _ _ _ _ _; rw [HL2.out]; exact RPost.trans rfl HF1.out hr
      clear hr
      go_wp2
      go_end0
      exact ⟨rfl, HR.out⟩
    · go_enter Tryz.func183, Tryz.ntmps183
      go_wp2_with (first
        | (refine cb_box rfl _ rfl vs rfl HONE.out ?_
           intro w1 hb1 B1 hs1
           have h1 := HH.out.below B1
           have HR1 : Hid (RunAt P b tl V S w1) := h1
           have HF1 : Hid (Rf (foot b V) (foot b V) w w1) := .of_below B1
           have HC1 : Hid (CmAt w1 vs c) := HC.out.below B1
           have d12 := hb1.c 12 _ HNM.out
           have l1 := hb1.lt
           have bl1 := h1.box.lt
           clear h1)
        | refine cb_load0 rtCm hb1 HLEN.out rfl _ rfl rfl ?_)
      refine (rchange_calls P b tl V S vs c w1 HR1.out hw HC1.out hk HW.out).mono ?_
      rintro e w2 ⟨rfl, hr⟩
      have HR : Hid (RPost P b tl V (S.does c) w w2) := by show RPost _ _ _ _ _ _ _; rw [HL2.out]; exact RPost.trans rfl HF1.out hr
      clear hr
      go_wp2
      go_end0
      exact ⟨rfl, HR.out⟩
    · go_enter Tryz.func183, Tryz.ntmps183
      go_wp2_with (first
        | (refine cb_box rfl _ rfl vs rfl HONE.out ?_
           intro w1 hb1 B1 hs1
           have h1 := HH.out.below B1
           have HR1 : Hid (RunAt P b tl V S w1) := h1
           have HF1 : Hid (Rf (foot b V) (foot b V) w w1) := .of_below B1
           have HC1 : Hid (CmAt w1 vs c) := HC.out.below B1
           have d12 := hb1.c 12 _ HNM.out
           have l1 := hb1.lt
           have bl1 := h1.box.lt
           clear h1)
        | refine cb_load0 rtCm hb1 HLEN.out rfl _ rfl rfl ?_)
      refine (rchange_calls P b tl V S vs c w1 HR1.out hw HC1.out hk HW.out).mono ?_
      rintro e w2 ⟨rfl, hr⟩
      have HR : Hid (RPost P b tl V (S.does c) w w2) := by show RPost _ _ _ _ _ _ _; rw [HL2.out]; exact RPost.trans rfl HF1.out hr
      clear hr
      go_wp2
      go_end0
      exact ⟨rfl, HR.out⟩
    · go_enter Tryz.func183, Tryz.ntmps183
      go_wp2_with (first
        | (refine cb_box rfl _ rfl vs rfl HONE.out ?_
           intro w1 hb1 B1 hs1
           have h1 := HH.out.below B1
           have HR1 : Hid (RunAt P b tl V S w1) := h1
           have HF1 : Hid (Rf (foot b V) (foot b V) w w1) := .of_below B1
           have HC1 : Hid (CmAt w1 vs c) := HC.out.below B1
           have d12 := hb1.c 12 _ HNM.out
           have l1 := hb1.lt
           have bl1 := h1.box.lt
           clear h1)
        | refine cb_load0 rtCm hb1 HLEN.out rfl _ rfl rfl ?_)
      refine (rchange_calls P b tl V S vs c w1 HR1.out hw HC1.out hk HW.out).mono ?_
      rintro e w2 ⟨rfl, hr⟩
      have HR : Hid (RPost P b tl V (S.does c) w w2) := by show RPost _ _ _ _ _ _ _; rw [HL2.out]; exact RPost.trans rfl HF1.out hr
      clear hr
      go_wp2
      go_end0
      exact ⟨rfl, HR.out⟩
    · go_enter Tryz.func183, Tryz.ntmps183
      go_wp2_with (first
        | (refine cb_box rfl _ rfl vs rfl HONE.out ?_
           intro w1 hb1 B1 hs1
           have h1 := HH.out.below B1
           have HR1 : Hid (RunAt P b tl V S w1) := h1
           have HF1 : Hid (Rf (foot b V) (foot b V) w w1) := .of_below B1
           have HC1 : Hid (CmAt w1 vs c) := HC.out.below B1
           have d12 := hb1.c 12 _ HNM.out
           have l1 := hb1.lt
           have bl1 := h1.box.lt
           clear h1)
        | refine cb_load0 rtCm hb1 HLEN.out rfl _ rfl rfl ?_)
      refine (rchange_calls P b tl V S vs c w1 HR1.out hw HC1.out hk HW.out).mono ?_
      rintro e w2 ⟨rfl, hr⟩
      have HR : Hid (RPost P b tl V (S.does c) w w2) := by show RPost _ _ _ _ _ _ _; rw [HL2.out]; exact RPost.trans rfl HF1.out hr
      clear hr
      go_wp2
      go_end0
      exact ⟨rfl, HR.out⟩
    · go_enter Tryz.func183, Tryz.ntmps183
      go_wp2_with (first
        | (refine cb_box rfl _ rfl vs rfl HONE.out ?_
           intro w1 hb1 B1 hs1
           have h1 := HH.out.below B1
           have HR1 : Hid (RunAt P b tl V S w1) := h1
           have HF1 : Hid (Rf (foot b V) (foot b V) w w1) := .of_below B1
           have HC1 : Hid (CmAt w1 vs c) := HC.out.below B1
           have d12 := hb1.c 12 _ HNM.out
           have l1 := hb1.lt
           have bl1 := h1.box.lt
           clear h1)
        | refine cb_load0 rtCm hb1 HLEN.out rfl _ rfl rfl ?_)
      refine (rchange_calls P b tl V S vs c w1 HR1.out hw HC1.out hk HW.out).mono ?_
      rintro e w2 ⟨rfl, hr⟩
      have HR : Hid (RPost P b tl V (S.does c) w w2) := by show RPost _ _ _ _ _ _ _; rw [HL2.out]; exact RPost.trans rfl HF1.out hr
      clear hr
      go_wp2
      go_end0
      exact ⟨rfl, HR.out⟩
  by_cases h_lead : nm = 100 ∨ nm = 68 ∨ nm = 99 ∨ nm = 110 ∨ nm = 78 ∨ nm = 113 ∨ nm = 98 ∨ nm = 116
  · have HL2 : Hid (S.does c = S.lead c) := by show _ = _; rw [HL.out, if_neg h_show, if_neg h_change, if_pos h_lead]
    have hw9 : c.name = 100 ∨ c.name = 68 ∨ c.name = 99 ∨ c.name = 110 ∨ c.name = 78 ∨ c.name = 113 ∨ c.name = 98 ∨ c.name = 116 := by rw [HNN.out]; omega
    have HW : Hid (c.name = 100 ∨ c.name = 68 ∨ c.name = 99 ∨ c.name = 110 ∨ c.name = 78 ∨ c.name = 113 ∨ c.name = 98 ∨ c.name = 116) := hw9
    clear hw9
    clear HL h_show h_change
    rcases h_lead with rfl | rfl | rfl | rfl | rfl | rfl | rfl | rfl
    · go_enter Tryz.func183, Tryz.ntmps183
      go_wp2_with (first
        | (refine cb_box rfl _ rfl vs rfl HONE.out ?_
           intro w1 hb1 B1 hs1
           have h1 := HH.out.below B1
           have HR1 : Hid (RunAt P b tl V S w1) := h1
           have HF1 : Hid (Rf (foot b V) (foot b V) w w1) := .of_below B1
           have HC1 : Hid (CmAt w1 vs c) := HC.out.below B1
           have d12 := hb1.c 12 _ HNM.out
           have l1 := hb1.lt
           have bl1 := h1.box.lt
           clear h1)
        | refine cb_load0 rtCm hb1 HLEN.out rfl _ rfl rfl ?_)
      refine (lead_calls P b tl V S vs c w1 HR1.out hw HC1.out hk HW.out).mono ?_
      rintro e w2 ⟨rfl, hr⟩
      have HR : Hid (RPost P b tl V (S.does c) w w2) := by show RPost _ _ _ _ _ _ _; rw [HL2.out]; exact RPost.trans rfl HF1.out hr
      clear hr
      go_wp2
      go_end0
      exact ⟨rfl, HR.out⟩
    · go_enter Tryz.func183, Tryz.ntmps183
      go_wp2_with (first
        | (refine cb_box rfl _ rfl vs rfl HONE.out ?_
           intro w1 hb1 B1 hs1
           have h1 := HH.out.below B1
           have HR1 : Hid (RunAt P b tl V S w1) := h1
           have HF1 : Hid (Rf (foot b V) (foot b V) w w1) := .of_below B1
           have HC1 : Hid (CmAt w1 vs c) := HC.out.below B1
           have d12 := hb1.c 12 _ HNM.out
           have l1 := hb1.lt
           have bl1 := h1.box.lt
           clear h1)
        | refine cb_load0 rtCm hb1 HLEN.out rfl _ rfl rfl ?_)
      refine (lead_calls P b tl V S vs c w1 HR1.out hw HC1.out hk HW.out).mono ?_
      rintro e w2 ⟨rfl, hr⟩
      have HR : Hid (RPost P b tl V (S.does c) w w2) := by show RPost _ _ _ _ _ _ _; rw [HL2.out]; exact RPost.trans rfl HF1.out hr
      clear hr
      go_wp2
      go_end0
      exact ⟨rfl, HR.out⟩
    · go_enter Tryz.func183, Tryz.ntmps183
      go_wp2_with (first
        | (refine cb_box rfl _ rfl vs rfl HONE.out ?_
           intro w1 hb1 B1 hs1
           have h1 := HH.out.below B1
           have HR1 : Hid (RunAt P b tl V S w1) := h1
           have HF1 : Hid (Rf (foot b V) (foot b V) w w1) := .of_below B1
           have HC1 : Hid (CmAt w1 vs c) := HC.out.below B1
           have d12 := hb1.c 12 _ HNM.out
           have l1 := hb1.lt
           have bl1 := h1.box.lt
           clear h1)
        | refine cb_load0 rtCm hb1 HLEN.out rfl _ rfl rfl ?_)
      refine (lead_calls P b tl V S vs c w1 HR1.out hw HC1.out hk HW.out).mono ?_
      rintro e w2 ⟨rfl, hr⟩
      have HR : Hid (RPost P b tl V (S.does c) w w2) := by show RPost _ _ _ _ _ _ _; rw [HL2.out]; exact RPost.trans rfl HF1.out hr
      clear hr
      go_wp2
      go_end0
      exact ⟨rfl, HR.out⟩
    · go_enter Tryz.func183, Tryz.ntmps183
      go_wp2_with (first
        | (refine cb_box rfl _ rfl vs rfl HONE.out ?_
           intro w1 hb1 B1 hs1
           have h1 := HH.out.below B1
           have HR1 : Hid (RunAt P b tl V S w1) := h1
           have HF1 : Hid (Rf (foot b V) (foot b V) w w1) := .of_below B1
           have HC1 : Hid (CmAt w1 vs c) := HC.out.below B1
           have d12 := hb1.c 12 _ HNM.out
           have l1 := hb1.lt
           have bl1 := h1.box.lt
           clear h1)
        | refine cb_load0 rtCm hb1 HLEN.out rfl _ rfl rfl ?_)
      refine (lead_calls P b tl V S vs c w1 HR1.out hw HC1.out hk HW.out).mono ?_
      rintro e w2 ⟨rfl, hr⟩
      have HR : Hid (RPost P b tl V (S.does c) w w2) := by show RPost _ _ _ _ _ _ _; rw [HL2.out]; exact RPost.trans rfl HF1.out hr
      clear hr
      go_wp2
      go_end0
      exact ⟨rfl, HR.out⟩
    · go_enter Tryz.func183, Tryz.ntmps183
      go_wp2_with (first
        | (refine cb_box rfl _ rfl vs rfl HONE.out ?_
           intro w1 hb1 B1 hs1
           have h1 := HH.out.below B1
           have HR1 : Hid (RunAt P b tl V S w1) := h1
           have HF1 : Hid (Rf (foot b V) (foot b V) w w1) := .of_below B1
           have HC1 : Hid (CmAt w1 vs c) := HC.out.below B1
           have d12 := hb1.c 12 _ HNM.out
           have l1 := hb1.lt
           have bl1 := h1.box.lt
           clear h1)
        | refine cb_load0 rtCm hb1 HLEN.out rfl _ rfl rfl ?_)
      refine (lead_calls P b tl V S vs c w1 HR1.out hw HC1.out hk HW.out).mono ?_
      rintro e w2 ⟨rfl, hr⟩
      have HR : Hid (RPost P b tl V (S.does c) w w2) := by show RPost _ _ _ _ _ _ _; rw [HL2.out]; exact RPost.trans rfl HF1.out hr
      clear hr
      go_wp2
      go_end0
      exact ⟨rfl, HR.out⟩
    · go_enter Tryz.func183, Tryz.ntmps183
      go_wp2_with (first
        | (refine cb_box rfl _ rfl vs rfl HONE.out ?_
           intro w1 hb1 B1 hs1
           have h1 := HH.out.below B1
           have HR1 : Hid (RunAt P b tl V S w1) := h1
           have HF1 : Hid (Rf (foot b V) (foot b V) w w1) := .of_below B1
           have HC1 : Hid (CmAt w1 vs c) := HC.out.below B1
           have d12 := hb1.c 12 _ HNM.out
           have l1 := hb1.lt
           have bl1 := h1.box.lt
           clear h1)
        | refine cb_load0 rtCm hb1 HLEN.out rfl _ rfl rfl ?_)
      refine (lead_calls P b tl V S vs c w1 HR1.out hw HC1.out hk HW.out).mono ?_
      rintro e w2 ⟨rfl, hr⟩
      have HR : Hid (RPost P b tl V (S.does c) w w2) := by show RPost _ _ _ _ _ _ _; rw [HL2.out]; exact RPost.trans rfl HF1.out hr
      clear hr
      go_wp2
      go_end0
      exact ⟨rfl, HR.out⟩
    · go_enter Tryz.func183, Tryz.ntmps183
      go_wp2_with (first
        | (refine cb_box rfl _ rfl vs rfl HONE.out ?_
           intro w1 hb1 B1 hs1
           have h1 := HH.out.below B1
           have HR1 : Hid (RunAt P b tl V S w1) := h1
           have HF1 : Hid (Rf (foot b V) (foot b V) w w1) := .of_below B1
           have HC1 : Hid (CmAt w1 vs c) := HC.out.below B1
           have d12 := hb1.c 12 _ HNM.out
           have l1 := hb1.lt
           have bl1 := h1.box.lt
           clear h1)
        | refine cb_load0 rtCm hb1 HLEN.out rfl _ rfl rfl ?_)
      refine (lead_calls P b tl V S vs c w1 HR1.out hw HC1.out hk HW.out).mono ?_
      rintro e w2 ⟨rfl, hr⟩
      have HR : Hid (RPost P b tl V (S.does c) w w2) := by show RPost _ _ _ _ _ _ _; rw [HL2.out]; exact RPost.trans rfl HF1.out hr
      clear hr
      go_wp2
      go_end0
      exact ⟨rfl, HR.out⟩
    · go_enter Tryz.func183, Tryz.ntmps183
      go_wp2_with (first
        | (refine cb_box rfl _ rfl vs rfl HONE.out ?_
           intro w1 hb1 B1 hs1
           have h1 := HH.out.below B1
           have HR1 : Hid (RunAt P b tl V S w1) := h1
           have HF1 : Hid (Rf (foot b V) (foot b V) w w1) := .of_below B1
           have HC1 : Hid (CmAt w1 vs c) := HC.out.below B1
           have d12 := hb1.c 12 _ HNM.out
           have l1 := hb1.lt
           have bl1 := h1.box.lt
           clear h1)
        | refine cb_load0 rtCm hb1 HLEN.out rfl _ rfl rfl ?_)
      refine (lead_calls P b tl V S vs c w1 HR1.out hw HC1.out hk HW.out).mono ?_
      rintro e w2 ⟨rfl, hr⟩
      have HR : Hid (RPost P b tl V (S.does c) w w2) := by show RPost _ _ _ _ _ _ _; rw [HL2.out]; exact RPost.trans rfl HF1.out hr
      clear hr
      go_wp2
      go_end0
      exact ⟨rfl, HR.out⟩
  have HL2 : Hid (S.does c = S) := by show _ = _; rw [HL.out, if_neg h_show, if_neg h_change, if_neg h_lead]
  have n0 : ((nm : Int) == 112) = false := by simp; omega
  have n1 : ((nm : Int) == 80) = false := by simp; omega
  have n2 : ((nm : Int) == 61) = false := by simp; omega
  have n3 : ((nm : Int) == 105) = false := by simp; omega
  have n4 : ((nm : Int) == 97) = false := by simp; omega
  have n5 : ((nm : Int) == 104) = false := by simp; omega
  have n6 : ((nm : Int) == 72) = false := by simp; omega
  have n7 : ((nm : Int) == 103) = false := by simp; omega
  have n8 : ((nm : Int) == 71) = false := by simp; omega
  have n9 : ((nm : Int) == 120) = false := by simp; omega
  have n10 : ((nm : Int) == 115) = false := by simp; omega
  have n11 : ((nm : Int) == 121) = false := by simp; omega
  have n12 : ((nm : Int) == 100) = false := by simp; omega
  have n13 : ((nm : Int) == 68) = false := by simp; omega
  have n14 : ((nm : Int) == 99) = false := by simp; omega
  have n15 : ((nm : Int) == 110) = false := by simp; omega
  have n16 : ((nm : Int) == 78) = false := by simp; omega
  have n17 : ((nm : Int) == 113) = false := by simp; omega
  have n18 : ((nm : Int) == 98) = false := by simp; omega
  have n19 : ((nm : Int) == 116) = false := by simp; omega
  clear HL h_show h_change h_lead
  go_enter Tryz.func183, Tryz.ntmps183
  go_wp2_with (first
    | (refine cb_box rfl _ rfl vs rfl HONE.out ?_
       intro w1 hb1 B1 hs1
       have h1 := HH.out.below B1
       have HR1 : Hid (RunAt P b tl V S w1) := h1
       have HF1 : Hid (Rf (foot b V) (foot b V) w w1) := .of_below B1
       have HC1 : Hid (CmAt w1 vs c) := HC.out.below B1
       have d12 := hb1.c 12 _ HNM.out
       have l1 := hb1.lt
       have bl1 := h1.box.lt
       clear h1)
    | refine cb_load0 rtCm hb1 HLEN.out rfl _ rfl rfl ?_)
  go_end0
  exact ⟨rfl, by rw [HL2.out]; exact ⟨V, rfl, HR1.out, HF1.out⟩⟩
end Go.Proofs.YtlppphmnegdhoabGreatDoor

namespace Go.Proofs.YtlppphmnegdhoabGreatDoor
set_option linter.unusedVariables false
set_option maxRecDepth 100000
open Go.RowKit
open M

def zCm : List Value := [.int .i64 0, .int .i64 0, .int .i64 0, .bool false, .bool false, .slice none 0 0, .int .i64 0, .int .i64 0, .bool false, .bool false, .slice none 0 0, .bool false, .int .u8 0, .int .u8 0, .int .i64 0, .string ⟨#[]⟩, .bool false, .bool false, .slice none 0 0, .slice none 0 0, .int .i64 0, .bool false, .bool false, .string ⟨#[]⟩, .string ⟨#[]⟩]
theorem zCm_one : ∀ v ∈ zCm, v.oneCell' = true := by decide
theorem reach_none {S : St} (h : S.cs[S.next]? = none) : S.reach = S.putUQ.endCycle := by unfold St.reach; rw [h]
theorem reach_die {S : St} {c : Cm} (h : S.cs[S.next]? = some c) (h0 : S.steps = 0) : S.reach = S.die 4 := by unfold St.reach; rw [h]; simp only; rw [if_pos h0]
theorem reach_some {S : St} {c : Cm} (h : S.cs[S.next]? = some c) (h0 : S.steps ≠ 0) : S.reach = if (({ S with steps := S.steps - 1, next := S.next + 1 } : St).selects S.next c).1 then (({ S with steps := S.steps - 1, next := S.next + 1 } : St).selects S.next c).2.does c else if c.name = 123 then { (({ S with steps := S.steps - 1, next := S.next + 1 } : St).selects S.next c).2 with next := c.next } else (({ S with steps := S.steps - 1, next := S.next + 1 } : St).selects S.next c).2 := by unfold St.reach; rw [h]; simp only; rw [if_neg h0]
set_option maxRecDepth 100000 in
set_option maxHeartbeats 8000000 in
theorem reach_calls (VSS : List (List Value)) (P : Value → World → Prop) (b : Nat) (tl : List Value) (V : RV) (S : St) (w : World) (h : RunAt P b tl V S w) (hw : WF S) (hP : ∀ w, P V.scr w → CsAt VSS w V.scr S.cs) (hit : ItoaOk P V.scr) :
    Calls Tryz.prog 151 #[.pointer (some ⟨b, 0, none⟩)] w fun e w' => VPost P b tl V S.reach w e w' := by
  have HH : Hid (RunAt P b tl V S w) := h
  have hbl := h.box.lt
  obtain ⟨aS, qs, hvs, hall⟩ := hP w h.scr.out
  have c0 := h.cell 0 _ rfl
  have c0' : w.cell? ⟨b, 0, none⟩ = some (.slice aS S.cs.length qs) := by rw [c0]; show some V.scr = _; rw [hvs]
  have c15 := h.cell 15 _ rfl
  have c3 := h.cell 3 _ rfl
  have f3 := h.fz 3 (by decide)
  have f15 := h.fz 15 (by decide)
  have hnx := hw.nx
  have hnc := hw.nc
  have hst := hw.st
  obtain ⟨n, hn⟩ : ∃ n, S.cs.length = n := ⟨_, rfl⟩
  obtain ⟨k, hk⟩ : ∃ k, S.next = k := ⟨_, rfl⟩
  have HNX : Hid (S.next = k) := hk
  rw [hn] at c0' hnc
  rw [hk] at c15 hnx
  have hk1 : ¬ (k : Int) < 0 := by omega
  by_cases hlt : k < n
  · have hk2 : ¬ (n : Int) ≤ (k : Int) := by omega
    have hk3 : (k : Int) < (n : Int) := by omega
    have hk4 : (0 : Int) ≤ (k : Int) := by omega
    have hkn : k < S.cs.length := by rw [hn]; exact hlt
    obtain ⟨c, hc⟩ : ∃ c, S.cs[k]? = some c := ⟨_, List.getElem?_eq_getElem hkn⟩
    have hcS : S.cs[S.next]? = some c := by rw [hk]; exact hc
    have hck : S.cs[k] = c := (List.getElem?_eq_some_iff.1 hc).2
    have hkc := hw.cm c (List.mem_of_getElem? hc)
    by_cases hs0 : S.steps = 0
    · have hs1 : ((S.steps : Nat) : Int) ≤ 0 := by omega
      have HR : Hid (S.reach = S.die 4) := reach_die hcS hs0
      clear h hall hs0 hcS hc hck hkc c0 hn hk hvs
      go_enter Tryz.func151, Tryz.ntmps151
      go_wp2_with fail
      refine (die_calls P b tl V S 4 w HH.out).mono ?_
      rintro e w2 ⟨rfl, hr⟩
      have HF : Hid (RPost P b tl V S.reach w w2) := by show RPost _ _ _ _ _ _ _; rw [HR.out]; exact hr.toR
      clear hr
      go_wp2
      refine bodyPost_ret (results_none rfl _ _ _) rfl ?_
      exact ⟨rfl, HF.out⟩
    · have hs1 : ¬ ((S.steps : Nat) : Int) ≤ 0 := by omega
      have HRE := reach_some hcS hs0
      have hA := h.set 3 (by decide) (.int .i64 ((S.steps : Int) - 1)) rfl { S with steps := S.steps - 1 } (by
        have e9 : (((S.steps - 1 : Nat)) : Int) = (S.steps : Int) - 1 := by omega
        show (runC V S).set 3 _ = runC V { S with steps := S.steps - 1 }
        rw [← e9]; rfl) rfl rfl rfl rfl rfl
      have hB := hA.set 15 (by decide) (.int .i64 ((k : Int) + 1)) rfl { S with steps := S.steps - 1, next := S.next + 1 } (by
        have e9 : (((S.next + 1 : Nat)) : Int) = (k : Int) + 1 := by rw [hk]; omega
        show (runC V { S with steps := S.steps - 1 }).set 15 _ = runC V { S with steps := S.steps - 1, next := S.next + 1 }
        rw [← e9]; rfl) rfl rfl rfl rfl rfl
      have hF1 : Rf (foot b V) (foot b V) w ((w.setCell ⟨b, 3, none⟩ (.int .i64 ((S.steps : Int) - 1))).setCell ⟨b, 15, none⟩ (.int .i64 ((k : Int) + 1))) := (Rf.set V b 3 _ w).trans (Rf.set V b 15 _ _)
      obtain ⟨T, hT⟩ : ∃ T : St, ({ S with steps := S.steps - 1, next := S.next + 1 } : St) = T := ⟨_, rfl⟩
      have hTcs : T.cs = S.cs := by rw [← hT]
      have hwT : WF T := by
        rw [← hT]
        refine { hw with st := ?_, nx := ?_, qu := ?_ }
        · show S.steps - 1 ≤ 5000; omega
        · show S.queue.length + (S.steps - 1) ≤ 5000; have := hw.qu; omega
        · show S.next + 1 ≤ 400; omega
      have hqT : T.queue.length + T.steps < 5000 := by rw [← hT]; show S.queue.length + (S.steps - 1) < 5000; have := hw.qu; omega
      rw [hT] at HRE hB
      rw [hk] at HRE
      have hPT : ∀ w, P V.scr w → CsAt VSS w V.scr T.cs := by rw [hTcs]; exact hP
      have hcT : T.cs[k]? = some c := by rw [hTcs]; exact hc
      obtain ⟨aS2, qs2, hvs2, hall2⟩ := hP _ hB.scr.out
      rw [hvs] at hvs2
      simp only [Value.slice.injEq] at hvs2
      obtain ⟨rfl, _, rfl⟩ := hvs2
      obtain ⟨g, rfl, hg, hlk, hr, hcm⟩ := hall2 k hkn
      rw [hck] at hcm
      have HCP : Hid (∀ w, P V.scr w → CmAt w VSS[k] c) := fun w hw => by
        obtain ⟨_, _, _, h5⟩ := hP w hw
        obtain ⟨_, _, _, _, _, h6⟩ := h5 k hkn
        rw [hck] at h6; exact h6
      have HVL : Hid (VSS[k].length = 25) := hcm.len
      have HV1 : Hid (∀ v ∈ VSS[k], v.oneCell' = true) := hcm.one
      have HV12 : Hid (VSS[k][12]? = some (.int .u8 (c.name : Nat))) := hcm.cells.1
      have HV14 : Hid (VSS[k][14]? = some (.int .i64 (c.next : Nat))) := hcm.cells.2.1
      have d0 : ((w.setCell ⟨b, 3, none⟩ (.int .i64 ((S.steps : Int) - 1))).setCell ⟨b, 15, none⟩ (.int .i64 ((k : Int) + 1))).cell? ⟨b, 0, none⟩ = some (.slice (some ⟨g, 0, none⟩) n qs) := by
        have h9 := hB.cell 0 _ rfl
        rw [h9]; show some V.scr = _; rw [hvs, hn]
      have HB : Hid (RunAt P b tl V T ((w.setCell ⟨b, 3, none⟩ (.int .i64 ((S.steps : Int) - 1))).setCell ⟨b, 15, none⟩ (.int .i64 ((k : Int) + 1)))) := hB
      have HF1 : Hid (Rf (foot b V) (foot b V) w ((w.setCell ⟨b, 3, none⟩ (.int .i64 ((S.steps : Int) - 1))).setCell ⟨b, 15, none⟩ (.int .i64 ((k : Int) + 1)))) := hF1
      have hbl1 := hB.box.lt
      have HRE' : Hid (S.reach = if (T.selects k c).1 then (T.selects k c).2.does c else if c.name = 123 then { (T.selects k c).2 with next := c.next } else (T.selects k c).2) := HRE
      generalize VSS[k] = vs at *
      clear hA hB hF1 HRE hcm h hall hall2 hcS hck c0 hT hvs
      have hW1s : ((w.setCell ⟨b, 3, none⟩ (.int .i64 ((S.steps : Int) - 1))).setCell ⟨b, 15, none⟩ (.int .i64 ((k : Int) + 1))).heap.size = w.heap.size := by simp
      have hbn : CB (((w.setCell ⟨b, 3, none⟩ (.int .i64 ((S.steps : Int) - 1))).setCell ⟨b, 15, none⟩ (.int .i64 ((k : Int) + 1))).alloc (.cells zCm.toArray 148)) w.heap.size zCm := by
        have h9 := CB.new ((w.setCell ⟨b, 3, none⟩ (.int .i64 ((S.steps : Int) - 1))).setCell ⟨b, 15, none⟩ (.int .i64 ((k : Int) + 1))) 148 zCm.toArray zCm_one
        rw [hW1s] at h9; exact h9
      have BA : Below w.heap.size ((w.setCell ⟨b, 3, none⟩ (.int .i64 ((S.steps : Int) - 1))).setCell ⟨b, 15, none⟩ (.int .i64 ((k : Int) + 1))) (((w.setCell ⟨b, 3, none⟩ (.int .i64 ((S.steps : Int) - 1))).setCell ⟨b, 15, none⟩ (.int .i64 ((k : Int) + 1))).alloc (.cells zCm.toArray 148)) := (Below.refl _ _).alloc (by rw [hW1s]; exact Nat.le_refl _) _
      have HBB : Hid (∀ w3, Below w.heap.size ((w.setCell ⟨b, 3, none⟩ (.int .i64 ((S.steps : Int) - 1))).setCell ⟨b, 15, none⟩ (.int .i64 ((k : Int) + 1))) w3 → RunAt P b tl V T w3 ∧ Rf (foot b V) (foot b V) w w3) := fun w3 hb => by
        rw [← hW1s] at hb
        exact ⟨HB.out.below hb, HF1.out.trans (.of_below hb)⟩
      have hzv := (zero_of_info (show (Tryz.prog.info? 148).map (fun i => (i.zero, i.size)) = some (some (.agg zCm.toArray), 25) by kernel_rfl)).1
      clear hW1s
      go_enter Tryz.func151, Tryz.ntmps151
      go_wp2_with (first
        | refine rg_load rtCm hr HVL.out rfl _ rfl rfl ?_
        | (refine cb_store0 rtCm hbn rfl rfl _ _ rfl rfl rfl HVL.out HV1.out ?_
           intro w3 hb3 O3
           have hBB := HBB.out w3 (BA.trans (O3.below (Nat.le_refl _)))
           have HR3 : Hid (RunAt P b tl V T w3) := hBB.1
           have HF3 : Hid (Rf (foot b V) (foot b V) w w3) := hBB.2
           have lb3 := hb3.lt
           have bl3 := hBB.1.box.lt
           clear hBB))
      refine (selects_calls VSS P b tl V T k c w3 HR3.out hwT hPT hcT).mono ?_
      rintro e w4 ⟨rfl, V4, hs4, hR4, hF4⟩
      have hnf : ¬ foot b V w.heap.size := fun hf => by have := foot_lt HH.out _ hf; omega
      have hb4 := hb3.keep (hF4.block _ hb3.lt hnf) hF4.size
      have lb4 := hb4.lt
      have bl4 := hR4.box.lt
      have HF4 : Hid (Rf (foot b V) (foot b V4) w w4) := HF3.out.trans hF4
      obtain ⟨hw4, hq4, hst4, hcs4⟩ := hwT.selects k c
      have hqq : (T.selects k c).2.queue.length + (T.selects k c).2.steps < 5000 := by rw [hq4, hst4]; exact hqT
      have hcm4 : CmAt w4 vs c := HCP.out w4 (by rw [← hs4]; exact hR4.scr.out)
      have hit4 : ItoaOk P V4.scr := by rw [hs4]; exact hit
      have HR4 : Hid (RunAt P b tl V4 (T.selects k c).2 w4) := hR4
      obtain ⟨ch, hch⟩ : ∃ x, (T.selects k c).1 = x := ⟨_, rfl⟩
      rw [hch] at HRE' ⊢
      clear hR4 hF4 hch hq4 hst4 hcs4 hb3
      cases ch
      · rw [if_neg (by decide)] at HRE'
        have d12 := hb4.c 12 _ HV12.out
        have d14 := hb4.c 14 _ HV14.out
        have hnb := hkc.nm
        by_cases h123 : c.name = 123
        · have h1 : ((c.name : Int) == 123) = true := by simp [h123]
          rw [if_pos h123] at HRE'
          have f15' := HR4.out.fz 15 (by decide)
          have e15 := HR4.out.cell 15 _ rfl
          have hA := HR4.out.set 15 (by decide) (.int .i64 (c.next : Nat)) rfl { (T.selects k c).2 with next := c.next } rfl rfl rfl rfl rfl rfl
          have HF : Hid (RPost P b tl V S.reach w (w4.setCell ⟨b, 15, none⟩ (.int .i64 (c.next : Nat)))) := by
            show RPost _ _ _ _ _ _ _
            rw [HRE'.out]
            exact ⟨V4, hs4, hA, HF4.out.trans (Rf.set V4 b 15 _ _)⟩
          clear hA h123 hb4
          go_wp2
          go_end0
          exact ⟨rfl, HF.out⟩
        · have h1 : ((c.name : Int) == 123) = false := by simp; omega
          rw [if_neg h123] at HRE'
          have HF : Hid (RPost P b tl V S.reach w w4) := by
            show RPost _ _ _ _ _ _ _
            rw [HRE'.out]
            exact ⟨V4, hs4, HR4.out, HF4.out⟩
          clear h123 hb4
          go_wp2
          go_end0
          exact ⟨rfl, HF.out⟩
      · rw [if_pos rfl] at HRE'
        go_wp2_with (refine cb_load0 rtCm hb4 HVL.out rfl _ rfl rfl ?_)
        refine (do_calls P b tl V4 (T.selects k c).2 vs c w4 HR4.out hw4 hcm4 hkc hit4).mono ?_
        rintro e w5 ⟨rfl, hr5⟩
        have HF : Hid (RPost P b tl V S.reach w w5) := by
          show RPost _ _ _ _ _ _ _
          rw [HRE'.out]
          exact RPost.trans hs4 HF4.out hr5
        clear hr5 hb4
        go_wp2
        go_end0
        exact ⟨rfl, HF.out⟩
  · have hk2 : (n : Int) ≤ (k : Int) := by omega
    have HR : Hid (S.reach = S.putUQ.endCycle) := reach_none (List.getElem?_eq_none (by rw [hk, hn]; omega))
    clear h hall c0 hn hk hvs
    go_enter Tryz.func151, Tryz.ntmps151
    go_wp2_with fail
    refine (putUQ_calls P b tl V S w HH.out hw).mono ?_
    rintro e w2 ⟨rfl, v2, hR2, hF2⟩
    go_wp2_with fail
    refine (endCycle_calls P b tl (V.withOut v2) S.putUQ w2 hR2 hw.putUQ).mono ?_
    rintro e w3 ⟨rfl, hr3⟩
    have HF : Hid (RPost P b tl V S.reach w w3) := by
      show RPost _ _ _ _ _ _ _
      rw [HR.out]
      exact RPost.trans (V1 := V.withOut v2) rfl hF2 hr3
    clear hr3
    go_wp2
    refine bodyPost_ret (results_none rfl _ _ _) rfl ?_
    exact ⟨rfl, HF.out⟩
/-- behind move -/
def MvPost (P : Value → World → Prop) (b : Nat) (tl : List Value) (V : RV) (S : St) (w : World) (e : Ending) (w' : World) : Prop := e = .returned (.bool (!S.stuck)) ∧ RPost P b tl V S.move w w'
set_option maxRecDepth 100000 in
set_option maxHeartbeats 4000000 in
theorem move_calls (VSS : List (List Value)) (P : Value → World → Prop) (b : Nat) (tl : List Value) (V : RV) (S : St) (w : World) (h : RunAt P b tl V S w) (hw : WF S) (hP : ∀ w, P V.scr w → CsAt VSS w V.scr S.cs) (hit : ItoaOk P V.scr) :
    Calls Tryz.prog 111 #[.pointer (some ⟨b, 0, none⟩)] w fun e w' => MvPost P b tl V S w e w' := by
  have HH : Hid (RunAt P b tl V S w) := h
  have hbl := h.box.lt
  have c16 := h.cell 16 _ rfl
  have hak := hw.ak
  have HMV : Hid (S.move = if S.asks = 0 then S.reach else if S.ask = 2 then S else if S.ask = 3 then S.doWithout else S.take) := rfl
  have HSK : Hid (S.stuck = (decide (S.asks ≠ 0) && S.ask == 2)) := rfl
  by_cases ha : S.asks = 0
  · have ha1 : (((S.asks : Nat) : Int) == 0) = true := by simp [ha]
    have HM : Hid (S.move = S.reach) := by show _ = _; rw [HMV.out, if_pos ha]
    have HS : Hid (S.stuck = false) := by show _ = _; rw [HSK.out, ha]; rfl
    clear ha h
    go_enter Tryz.func111, Tryz.ntmps111
    go_wp2_with fail
    refine (reach_calls VSS P b tl V S w HH.out hw hP hit).mono ?_
    rintro e w2 ⟨rfl, hr⟩
    have HF : Hid (RPost P b tl V S.move w w2) := by show RPost _ _ _ _ _ _ _; rw [HM.out]; exact hr
    clear hr
    go_wp2
    go_ret
    exact ⟨by rw [HS.out]; rfl, HF.out⟩
  · have ha1 : (((S.asks : Nat) : Int) == 0) = false := by simp; omega
    have HM : Hid (S.move = if S.ask = 2 then S else if S.ask = 3 then S.doWithout else S.take) := by show _ = _; rw [HMV.out, if_neg ha]
    have HS : Hid (S.stuck = (S.ask == 2)) := by show _ = _; rw [HSK.out, decide_eq_true ha]; rfl
    have hask : S.ask = 1 ∨ S.ask = 2 ∨ S.ask = 3 := by unfold St.ask; split; exact .inr (.inl rfl); split; exact .inr (.inr rfl); exact .inl rfl
    clear ha h
    go_enter Tryz.func111, Tryz.ntmps111
    go_wp2_with fail
    refine (rask_calls P b tl V S w HH.out hw).mono ?_
    rintro e w1 ⟨rfl, B1⟩
    have HR1 : Hid (RunAt P b tl V S w1) := HH.out.below B1
    generalize hq : S.ask = q at *
    clear hq
    rcases hask with rfl | rfl | rfl
    · go_wp2_with fail
      refine (take_calls P b tl V S w1 HR1.out hw).mono ?_
      rintro e w2 ⟨rfl, hr⟩
      have HF : Hid (RPost P b tl V S.move w w2) := by show RPost _ _ _ _ _ _ _; rw [HM.out]; exact RPost.trans rfl (.of_below B1) hr
      clear hr
      go_wp2
      go_ret
      exact ⟨by rw [HS.out]; rfl, HF.out⟩
    · go_wp2
      go_ret
      refine ⟨by rw [HS.out]; rfl, ?_⟩
      rw [HM.out]
      exact ⟨V, rfl, HR1.out, .of_below B1⟩
    · go_wp2_with fail
      refine (doWithout_calls P b tl V S w1 HR1.out hw).mono ?_
      rintro e w2 ⟨rfl, hr⟩
      have HF : Hid (RPost P b tl V S.move w w2) := by show RPost _ _ _ _ _ _ _; rw [HM.out]; exact RPost.trans rfl (.of_below B1) hr
      clear hr
      go_wp2
      go_ret
      exact ⟨by rw [HS.out]; rfl, HF.out⟩
end Go.Proofs.YtlppphmnegdhoabGreatDoor

namespace Go.Proofs.YtlppphmnegdhoabGreatDoor
set_option linter.unusedVariables false
set_option maxRecDepth 100000
open Go.RowKit
open M

/-- how far a run is from its end, read off its box -/
def mzW (b : Nat) (x : Value) (w : World) : Nat :=
  (match w.cell? ⟨b, 3, none⟩, w.cell? ⟨b, 5, none⟩, w.cell? ⟨b, 7, none⟩, w.cell? ⟨b, 16, none⟩, w.cell? ⟨b, 17, none⟩ with
  | some (.int _ s), some (.string t), some (.int _ h), some (.int _ a), some (.bool o) => 3 * s.toNat + 2 * (t.size - h.toNat) + (if a = 0 then 1 else 0) + (if o then 0 else 1)
  | _, _, _, _, _ => 0) + (match x with | .bool true => 1 | _ => 0)
theorem mzW_eq {P : Value → World → Prop} {b : Nat} {tl : List Value} {V : RV} {S : St} {w : World} (h : RunAt P b tl V S w) (x : Bool) : mzW b (.bool x) w = S.mz + (if x then 1 else 0) := by
  unfold mzW
  rw [h.cell 3 _ rfl, h.cell 5 _ rfl, h.cell 7 _ rfl, h.cell 16 _ rfl, h.cell 17 _ rfl]
  simp only
  unfold St.mz
  have e : ((((S.asks : Nat) : Int) = 0)) ↔ S.asks = 0 := by omega
  simp only [Int.toNat_natCast, e]
  cases x <;> rfl
theorem move_stuck {S : St} (h : S.stuck = true) : S.move = S := by
  unfold St.stuck at h
  rw [Bool.and_eq_true, decide_eq_true_eq, beq_iff_eq] at h
  unfold St.move
  rw [if_neg h.1, if_pos h.2]
theorem move_cs (S : St) : S.move.cs = S.cs := by
  unfold St.move
  split
  · exact (St.same_reach S).cs
  split
  · rfl
  split
  · unfold St.doWithout
    split
    · rfl
    · exact (St.same_endEarly S).cs
  · exact (St.take_keep S).2.2.2.1
def GoPost (P : Value → World → Prop) (b : Nat) (tl : List Value) (V : RV) (S : St) (n0 : Nat) (w : World) (e : Ending) (w' : World) : Prop := ∃ T, Goes S T ∧ WF T ∧ e = .returned (.tuple #[.string (baC (partC T.out n0 T.out.length)), .int .i64 (T.death : Nat)]) ∧ RPost P b tl V T w w'
set_option maxRecDepth 100000 in
set_option maxHeartbeats 4000000 in
theorem goOn_calls (VSS : List (List Value)) (P : Value → World → Prop) (b : Nat) (tl : List Value) (V : RV) (S : St) (w : World) (h : RunAt P b tl V S w) (hw : WF S) (hP : ∀ w, P V.scr w → CsAt VSS w V.scr S.cs) (hit : ItoaOk P V.scr) :
    Calls Tryz.prog 75 #[.pointer (some ⟨b, 0, none⟩)] w fun e w' => GoPost P b tl V S S.out.length w e w' := by
  have hbl := h.box.lt
  have c9 := h.cell 9 _ rfl
  obtain ⟨ao, co, hvo⟩ := own_form h.out
  rw [hvo] at c9
  have HH : Hid (RunAt P b tl V S w) := h
  have HW : Hid (WF S) := hw
  obtain ⟨n0, hn0⟩ : ∃ n, S.out.length = n := ⟨_, rfl⟩
  have HN0 : Hid (S.out.length = n0) := hn0
  have hn1 : n0 ≤ 4096 := by rw [← hn0]; exact hw.ou
  rw [hn0] at c9 ⊢
  clear h hw hvo hn0
  go_enter Tryz.func75, Tryz.ntmps75
  go_wp2_with fail
  go_loopw [5] (fun v5 wr => ∃ (x : Bool) (T : St) (V1 : RV), v5 = .bool x ∧ Hid (V1.scr = V.scr) ∧ Hid (RunAt P b tl V1 T wr) ∧ Hid (Rf (foot b V) (foot b V1) w wr) ∧ Hid (WF T) ∧ Hid (∀ R, Goes T R → Goes S R) ∧ Hid (x = false → T.stuck = true) ∧ Hid (T.cs = S.cs) ∧ Hid (S.out <+: T.out)) (fun v5 wr => mzW b v5 wr)
  case atStart => exact ⟨true, S, V, rfl, rfl, HH, Rf.refl _ _, HW, fun R h => h, fun h => (by cases h), rfl, List.prefix_refl _⟩
  case round =>
    obtain ⟨x, T, V1, rfl, HSC, HR, HF, HWT, HGO, HST, HCS, HPR⟩ := hrel
    have hbl1 := HR.out.box.lt
    have c17 := HR.out.cell 17 _ rfl
    have HMZ := mzW_eq HR.out x
    cases hov : T.over
    · rw [hov] at c17
      cases x
      · have hsk := HST.out rfl
        have HG : Hid (Goes S T) := HGO.out T (.stop (by unfold St.still; rw [hsk, Bool.or_true]))
        have hpl := HPR.out.length_le
        rw [HN0.out] at hpl
        have hou := HWT.out.ou
        obtain ⟨a1, q1, hv1⟩ := own_form HR.out.out
        have hsl := SlAt.own HR.out.out
        have d9 := HR.out.cell 9 _ rfl
        have d18 := HR.out.cell 18 _ rfl
        have d9' : wr.cell? ⟨b, 9, none⟩ = some (.slice a1 T.out.length q1) := by rw [d9]; show some V1.out = _; rw [hv1]
        rw [hv1] at hsl
        obtain ⟨n, hn⟩ : ∃ n, T.out.length = n := ⟨_, rfl⟩
        have HN : Hid (T.out.length = n) := hn
        rw [hn] at d9' hpl hou hsl
        have HPC := part_calls _ T.out n0 n wr.drew hsl.drew hpl (by rw [hn]; exact Nat.le_refl _) (by rw [hn]; omega)
        have HPL : Hid ((partC T.out n0 n).length = n - n0) := part_len T.out n0 n hpl (by rw [hn]; exact Nat.le_refl _)
        clear d9 hv1 hsl hn HMZ hov
        go_wp2_with fail
        go_region_held3 (fun w' => w'.cell? ⟨b, 9, none⟩ = some (.slice a1 n q1) ∧ w'.cell? ⟨b, 18, none⟩ = some (.int .i64 (T.death : Nat)) ∧ b < w'.heap.size)
          (first
            | go_keep
            | (go_split_ands
               refine ⟨?_, ?_, ?_⟩
               · assumption
               · assumption
               · assumption))
          (first
            | (go_at_call 112; refine HPC.mono ?_; rintro e wx ⟨hwx, v3, rfl, s3, _⟩; rw [hwx]; clear hwx; obtain ⟨a3, c3, hv3, _⟩ := s3.form; rw [HPL.out] at hv3; subst hv3))
        have HTX := textOf_calls _ (partC T.out n0 n) wr.drew.drew s3.drew (by rw [HPL.out]; omega)
        have hh18 : wr.drew.cell? ⟨b, 18, none⟩ = some (.int .i64 (T.death : Nat)) := d18
        have hhbl : b < wr.drew.heap.size := hbl1
        clear HPC s3
        go_wp2_with fail
        go_region_held3 (fun w' => w'.cell? ⟨b, 18, none⟩ = some (.int .i64 (T.death : Nat)) ∧ b < w'.heap.size)
          (first
            | go_keep
            | (go_split_ands
               refine ⟨?_, ?_⟩
               · (rw [hb1.cell (by assumption)]; assumption)
               · (have := hb1.size; omega)))
          (first
            | (go_at_call 113; refine HTX.mono ?_; rintro e w5 ⟨rfl, hb1⟩; have B5 := hb1))
        have BB : Below wr.heap.size wr w5 := below2 (Below.refl wr.heap.size wr).drew (below2 (Below.refl wr.drew.heap.size wr.drew).drew B5)
        have HRP : Hid (RPost P b tl V T w w5) := ⟨V1, HSC.out, HR.out.below BB, HF.out.trans (.of_below BB)⟩
        go_wp2
        go_ret2
        exact ⟨T, HG.out, HWT.out, by rw [HN.out]; rfl, HRP.out⟩
      · have hP1 : ∀ w, P V1.scr w → CsAt VSS w V1.scr T.cs := by rw [HSC.out, HCS.out]; exact hP
        have hit1 : ItoaOk P V1.scr := by rw [HSC.out]; exact hit
        have HOV : Hid (T.over = false) := hov
        have HMZ' : Hid (mzW b (.bool true) wr = T.mz + 1) := HMZ
        clear hov HMZ
        go_wp2_with fail
        refine (move_calls VSS P b tl V1 T wr HR.out HWT.out hP1 hit1).mono ?_
        rintro e w2 ⟨rfl, V2, hs2, hR2, hF2⟩
        have HSC2 : Hid (V2.scr = V.scr) := hs2.trans HSC.out
        have HF2 : Hid (Rf (foot b V) (foot b V2) w w2) := HF.out.trans hF2
        have HR2 : Hid (RunAt P b tl V2 T.move w2) := hR2
        have HWT2 : Hid (WF T.move) := HWT.out.move
        have HCS2 : Hid (T.move.cs = S.cs) := (move_cs T).trans HCS.out
        have HPR2 : Hid (S.out <+: T.move.out) := HPR.out.trans (St.pre_move T)
        have HMS : Hid (mzW b (.bool (!T.stuck)) w2 < mzW b (.bool true) wr) := by
          show _ < _
          rw [HMZ'.out, mzW_eq hR2 (!T.stuck)]
          cases hsk : T.stuck
          · have := St.move_less T HWT.out HOV.out hsk
            simp; omega
          · rw [move_stuck hsk]; simp
        have HGO2 : Hid (∀ R, Goes T.move R → Goes S R) := by
          intro R hR
          cases hsk : T.stuck
          · refine HGO.out R (.step ?_ hR)
            unfold St.still
            rw [HOV.out, hsk]; rfl
          · rw [move_stuck hsk] at hR
            exact HGO.out R hR
        have HST2 : Hid ((!T.stuck) = false → T.move.stuck = true) := fun h9 => by
          have hsk : T.stuck = true := by simpa using h9
          rw [move_stuck hsk]; exact hsk
        clear hR2 hF2 hs2
        go_wp2_with fail
        go_roundw
        case rel => exact ⟨_, T.move, V2, rfl, HSC2, HR2, HF2, HWT2, HGO2, HST2, HCS2, HPR2⟩
        case measure => exact HMS.out
    · rw [hov] at c17
      have HOV : Hid (T.over = true) := hov
      cases x
      · have HG : Hid (Goes S T) := HGO.out T (.stop (by unfold St.still; rw [HOV.out]; rfl))
        have hpl := HPR.out.length_le
        rw [HN0.out] at hpl
        have hou := HWT.out.ou
        obtain ⟨a1, q1, hv1⟩ := own_form HR.out.out
        have hsl := SlAt.own HR.out.out
        have d9 := HR.out.cell 9 _ rfl
        have d18 := HR.out.cell 18 _ rfl
        have d9' : wr.cell? ⟨b, 9, none⟩ = some (.slice a1 T.out.length q1) := by rw [d9]; show some V1.out = _; rw [hv1]
        rw [hv1] at hsl
        obtain ⟨n, hn⟩ : ∃ n, T.out.length = n := ⟨_, rfl⟩
        have HN : Hid (T.out.length = n) := hn
        rw [hn] at d9' hpl hou hsl
        have HPC := part_calls _ T.out n0 n wr.drew hsl.drew hpl (by rw [hn]; exact Nat.le_refl _) (by rw [hn]; omega)
        have HPL : Hid ((partC T.out n0 n).length = n - n0) := part_len T.out n0 n hpl (by rw [hn]; exact Nat.le_refl _)
        clear d9 hv1 hsl hn HMZ hov
        go_wp2_with fail
        go_region_held3 (fun w' => w'.cell? ⟨b, 9, none⟩ = some (.slice a1 n q1) ∧ w'.cell? ⟨b, 18, none⟩ = some (.int .i64 (T.death : Nat)) ∧ b < w'.heap.size)
          (first
            | go_keep
            | (go_split_ands
               refine ⟨?_, ?_, ?_⟩
               · assumption
               · assumption
               · assumption))
          (first
            | (go_at_call 112; refine HPC.mono ?_; rintro e wx ⟨hwx, v3, rfl, s3, _⟩; rw [hwx]; clear hwx; obtain ⟨a3, c3, hv3, _⟩ := s3.form; rw [HPL.out] at hv3; subst hv3))
        have HTX := textOf_calls _ (partC T.out n0 n) wr.drew.drew s3.drew (by rw [HPL.out]; omega)
        have hh18 : wr.drew.cell? ⟨b, 18, none⟩ = some (.int .i64 (T.death : Nat)) := d18
        have hhbl : b < wr.drew.heap.size := hbl1
        clear HPC s3
        go_wp2_with fail
        go_region_held3 (fun w' => w'.cell? ⟨b, 18, none⟩ = some (.int .i64 (T.death : Nat)) ∧ b < w'.heap.size)
          (first
            | go_keep
            | (go_split_ands
               refine ⟨?_, ?_⟩
               · (rw [hb1.cell (by assumption)]; assumption)
               · (have := hb1.size; omega)))
          (first
            | (go_at_call 113; refine HTX.mono ?_; rintro e w5 ⟨rfl, hb1⟩; have B5 := hb1))
        have BB : Below wr.heap.size wr w5 := below2 (Below.refl wr.heap.size wr).drew (below2 (Below.refl wr.drew.heap.size wr.drew).drew B5)
        have HRP : Hid (RPost P b tl V T w w5) := ⟨V1, HSC.out, HR.out.below BB, HF.out.trans (.of_below BB)⟩
        go_wp2
        go_ret2
        exact ⟨T, HG.out, HWT.out, by rw [HN.out]; rfl, HRP.out⟩
      · have HG : Hid (Goes S T) := HGO.out T (.stop (by unfold St.still; rw [HOV.out]; rfl))
        have hpl := HPR.out.length_le
        rw [HN0.out] at hpl
        have hou := HWT.out.ou
        obtain ⟨a1, q1, hv1⟩ := own_form HR.out.out
        have hsl := SlAt.own HR.out.out
        have d9 := HR.out.cell 9 _ rfl
        have d18 := HR.out.cell 18 _ rfl
        have d9' : wr.cell? ⟨b, 9, none⟩ = some (.slice a1 T.out.length q1) := by rw [d9]; show some V1.out = _; rw [hv1]
        rw [hv1] at hsl
        obtain ⟨n, hn⟩ : ∃ n, T.out.length = n := ⟨_, rfl⟩
        have HN : Hid (T.out.length = n) := hn
        rw [hn] at d9' hpl hou hsl
        have HPC := part_calls _ T.out n0 n wr.drew hsl.drew hpl (by rw [hn]; exact Nat.le_refl _) (by rw [hn]; omega)
        have HPL : Hid ((partC T.out n0 n).length = n - n0) := part_len T.out n0 n hpl (by rw [hn]; exact Nat.le_refl _)
        clear d9 hv1 hsl hn HMZ hov
        go_wp2_with fail
        go_region_held3 (fun w' => w'.cell? ⟨b, 9, none⟩ = some (.slice a1 n q1) ∧ w'.cell? ⟨b, 18, none⟩ = some (.int .i64 (T.death : Nat)) ∧ b < w'.heap.size)
          (first
            | go_keep
            | (go_split_ands
               refine ⟨?_, ?_, ?_⟩
               · assumption
               · assumption
               · assumption))
          (first
            | (go_at_call 112; refine HPC.mono ?_; rintro e wx ⟨hwx, v3, rfl, s3, _⟩; rw [hwx]; clear hwx; obtain ⟨a3, c3, hv3, _⟩ := s3.form; rw [HPL.out] at hv3; subst hv3))
        have HTX := textOf_calls _ (partC T.out n0 n) wr.drew.drew s3.drew (by rw [HPL.out]; omega)
        have hh18 : wr.drew.cell? ⟨b, 18, none⟩ = some (.int .i64 (T.death : Nat)) := d18
        have hhbl : b < wr.drew.heap.size := hbl1
        clear HPC s3
        go_wp2_with fail
        go_region_held3 (fun w' => w'.cell? ⟨b, 18, none⟩ = some (.int .i64 (T.death : Nat)) ∧ b < w'.heap.size)
          (first
            | go_keep
            | (go_split_ands
               refine ⟨?_, ?_⟩
               · (rw [hb1.cell (by assumption)]; assumption)
               · (have := hb1.size; omega)))
          (first
            | (go_at_call 113; refine HTX.mono ?_; rintro e w5 ⟨rfl, hb1⟩; have B5 := hb1))
        have BB : Below wr.heap.size wr w5 := below2 (Below.refl wr.heap.size wr).drew (below2 (Below.refl wr.drew.heap.size wr.drew).drew B5)
        have HRP : Hid (RPost P b tl V T w w5) := ⟨V1, HSC.out, HR.out.below BB, HF.out.trans (.of_below BB)⟩
        go_wp2
        go_ret2
        exact ⟨T, HG.out, HWT.out, by rw [HN.out]; rfl, HRP.out⟩
end Go.Proofs.YtlppphmnegdhoabGreatDoor

namespace Go.Proofs.YtlppphmnegdhoabGreatDoor
set_option linter.unusedVariables false
set_option maxRecDepth 100000
open Go.RowKit
open M

set_option maxRecDepth 100000 in
theorem fed_calls (P : Value → World → Prop) (b : Nat) (tl : List Value) (V : RV) (S : St) (w : World) (h : RunAt P b tl V S w) :
    Calls Tryz.prog 47 #[.pointer (some ⟨b, 0, none⟩)] w fun e w' => e = .returned (.int .i64 (S.text.size : Nat)) ∧ w' = w := by
  have c5 := h.cell 5 _ rfl
  have hbl := h.box.lt
  clear h
  go_enter Tryz.func47, Tryz.ntmps47
  go_wp2
  go_ret
  exact ⟨rfl, rfl⟩
set_option maxRecDepth 100000 in
set_option maxHeartbeats 1000000 in
theorem rfeed_calls (VSS : List (List Value)) (P : Value → World → Prop) (b : Nat) (tl : List Value) (V : RV) (S : St) (s : ByteArray) (w : World) (h : RunAt P b tl V S w) (hw : WF S) (hP : ∀ w, P V.scr w → CsAt VSS w V.scr S.cs) (hit : ItoaOk P V.scr) (hs : S.text.size + s.size ≤ 4096) :
    Calls Tryz.prog 48 #[.pointer (some ⟨b, 0, none⟩), .string s] w fun e w' => GoPost P b tl V (S.ext (S.text ++ s) S.closed) S.out.length w e w' := by
  have c5 := h.cell 5 _ rfl
  have f5 := h.fz 5 (by decide)
  have hbl := h.box.lt
  have hq1 : ¬ 9223372036854775807 < S.text.size + s.size := by omega
  have hA := h.set 5 (by decide) (.string (S.text ++ s)) rfl (S.ext (S.text ++ s) S.closed) rfl rfl rfl rfl rfl rfl
  have HA : Hid (RunAt P b tl V (S.ext (S.text ++ s) S.closed) (w.setCell ⟨b, 5, none⟩ (.string (S.text ++ s)))) := hA
  have HF : Hid (Rf (foot b V) (foot b V) w (w.setCell ⟨b, 5, none⟩ (.string (S.text ++ s)))) := Rf.set V b 5 _ w
  have hwA : WF (S.ext (S.text ++ s) S.closed) := hw.ext s S.closed (by simp; omega)
  clear hA h hs
  go_enter Tryz.func48, Tryz.ntmps48
  go_wp2_with fail
  refine (goOn_calls VSS P b tl V (S.ext (S.text ++ s) S.closed) _ HA.out hwA hP hit).mono ?_
  rintro e w2 ⟨T, hg, hwt, rfl, hr⟩
  have HP : Hid (GoPost P b tl V (S.ext (S.text ++ s) S.closed) S.out.length w (.returned (.tuple #[.string (baC (partC T.out S.out.length T.out.length)), .int .i64 (T.death : Nat)])) w2) := ⟨T, hg, hwt, rfl, RPost.trans rfl HF.out hr⟩
  clear hg hwt hr
  go_wp2
  go_ret2
  exact HP.out
set_option maxRecDepth 100000 in
set_option maxHeartbeats 1000000 in
theorem rclose_calls (VSS : List (List Value)) (P : Value → World → Prop) (b : Nat) (tl : List Value) (V : RV) (S : St) (w : World) (h : RunAt P b tl V S w) (hw : WF S) (hP : ∀ w, P V.scr w → CsAt VSS w V.scr S.cs) (hit : ItoaOk P V.scr) :
    Calls Tryz.prog 78 #[.pointer (some ⟨b, 0, none⟩)] w fun e w' => GoPost P b tl V (S.ext S.text true) S.out.length w e w' := by
  have c6 := h.cell 6 _ rfl
  have f6 := h.fz 6 (by decide)
  have hbl := h.box.lt
  have hA := h.set 6 (by decide) (.bool true) rfl (S.ext S.text true) rfl rfl rfl rfl rfl rfl
  have HA : Hid (RunAt P b tl V (S.ext S.text true) (w.setCell ⟨b, 6, none⟩ (.bool true))) := hA
  have HF : Hid (Rf (foot b V) (foot b V) w (w.setCell ⟨b, 6, none⟩ (.bool true))) := Rf.set V b 6 _ w
  have hwA : WF (S.ext S.text true) := { hw with }
  clear hA h
  go_enter Tryz.func78, Tryz.ntmps78
  go_wp2_with fail
  refine (goOn_calls VSS P b tl V (S.ext S.text true) _ HA.out hwA hP hit).mono ?_
  rintro e w2 ⟨T, hg, hwt, rfl, hr⟩
  have HP : Hid (GoPost P b tl V (S.ext S.text true) S.out.length w (.returned (.tuple #[.string (baC (partC T.out S.out.length T.out.length)), .int .i64 (T.death : Nat)])) w2) := ⟨T, hg, hwt, rfl, RPost.trans rfl HF.out hr⟩
  clear hg hwt hr
  go_wp2
  go_ret2
  exact HP.out
end Go.Proofs.YtlppphmnegdhoabGreatDoor

namespace Go.Proofs.YtlppphmnegdhoabGreatDoor
set_option linter.unusedVariables false
open Go.RowKit
open M

theorem recsC_at (l : List M.Rec) : ∀ (i : Nat) (h : i < l.length), (recsC l)[i * 3]? = some (.int .i64 l[i].kind) ∧ (recsC l)[i * 3 + 1]? = some (.int .i64 l[i].n) ∧ (recsC l)[i * 3 + 2]? = some (.string l[i].s) := by
  induction l with
  | nil => intro i h; simp at h
  | cons r l ih =>
    intro i h
    have e : recsC (r :: l) = .int .i64 r.kind :: .int .i64 r.n :: .string r.s :: recsC l := by simp [recsC, recC]
    rw [e]
    match i with
    | 0 => simp
    | i + 1 =>
      obtain ⟨h1, h2, h3⟩ := ih i (by simpa using h)
      have e0 : (i + 1) * 3 = i * 3 + 3 := by omega
      rw [e0]
      simp only [List.getElem_cons_succ]
      exact ⟨by simpa using h1, by simpa using h2, by simpa using h3⟩
theorem recsAt_own {w : World} {base : Nat} {a : Option Addr} {c : Nat} {l : List M.Rec} (h : w.ownsRow base 69 3 (.slice a l.length c) l.length (recsC l)) : RecsAt w a l.length l := by
  refine ⟨rfl, ?_⟩
  obtain ⟨h1, ⟨hv, hn⟩ | ⟨g, cap, cur, hv, hrest⟩⟩ := id h
  · exact .inl (List.length_eq_zero_iff.1 hn)
  · refine .inr ⟨g, 0, ?_, ?_, fun i hi => ?_⟩
    · simp at hv; exact hv.1
    · exact (h.lt g (by rw [hv]; rfl)).2
    · obtain ⟨c0, c1, c2⟩ := recsC_at l i hi
      have hc := h.cells (g := g) (by rw [hv]; rfl)
      have e : ∀ j, (⟨g, 0, none⟩ : Addr).add j = ⟨g, 0 + j, none⟩ := fun j => by simp [Addr.add]; omega
      exact ⟨by have := hc _ _ c0; rwa [e] at this, by have := hc _ _ c1; rwa [e, ← Nat.add_assoc] at this, by have := hc _ _ c2; rwa [e, ← Nat.add_assoc] at this⟩

theorem okAll_step {l : List M.Rec} {k : Nat} (h : okAll (l.take k)) (hk : k < l.length) (hr : okRec l[k] = true) : okAll (l.take (k + 1)) := by
  rw [List.take_succ_eq_append_getElem hk]
  exact okAll_append h (fun x hx => by simp at hx; rw [hx]; exact hr)

end Go.Proofs.YtlppphmnegdhoabGreatDoor

namespace Go.Proofs.YtlppphmnegdhoabGreatDoor
set_option linter.unusedVariables false
open Go.RowKit
open M

/-- A, of B and the records that lead from A to B -/
def undoL : List M.Rec → List UInt8 → List UInt8
  | [], _ => []
  | r :: l, b => if r.kind = 0 then b.take r.n.toNat ++ undoL l (b.drop r.n.toNat) else if r.kind = 1 then undoL l (b.drop r.n.toNat) else r.s.data.toList ++ undoL l b
theorem undoL_len (l : List M.Rec) : ∀ b, okAll l → ((undoL l b).length : Int) ≤ lenA l := by
  induction l with
  | nil => intro b _; simp [undoL, lenA]
  | cons r l ih =>
    intro b ho
    have h1 := (okRec_iff r).1 (okAll_cons ho).1
    simp only [undoL, lenA]
    by_cases h0 : r.kind = 0
    · rw [if_pos h0, List.length_append, List.length_take]
      have := ih (b.drop r.n.toNat) (okAll_cons ho).2
      have e : inA r = r.n := by simp [inA, h0]
      omega
    · rw [if_neg h0]
      by_cases h2 : r.kind = 1
      · rw [if_pos h2]
        have := ih (b.drop r.n.toNat) (okAll_cons ho).2
        have e : inA r = 0 := by simp [inA, h2]
        omega
      · rw [if_neg h2, List.length_append, ba_len]
        have := ih b (okAll_cons ho).2
        have e : inA r = r.n := by simp [inA, h2]
        omega
theorem lenB_drop (l : List M.Rec) (k : Nat) (h : k < l.length) : lenB (l.drop k) = inB l[k] + lenB (l.drop (k + 1)) := by
  rw [List.drop_eq_getElem_cons h]; rfl
theorem undoL_drop (l : List M.Rec) (k : Nat) (h : k < l.length) (b : List UInt8) : undoL (l.drop k) b = if l[k].kind = 0 then b.take l[k].n.toNat ++ undoL (l.drop (k + 1)) (b.drop l[k].n.toNat) else if l[k].kind = 1 then undoL (l.drop (k + 1)) (b.drop l[k].n.toNat) else l[k].s.data.toList ++ undoL (l.drop (k + 1)) b := by
  rw [List.drop_eq_getElem_cons h]; rfl
theorem okAll_drop {l : List M.Rec} (h : okAll l) (k : Nat) : okAll (l.drop k) := fun r hr => h r (List.mem_of_mem_drop hr)

theorem Tryz.info5 : (Tryz.prog.info? 5).map (fun i => (i.zero, i.size, i.bytes)) = some (some (.int .u8 0), 1, 1) := by kernel_rfl

/-- a row of bytes that the call owns, as a text -/
theorem conv_own {w : World} {base : Nat} {v : Value} {n : Nat} {A : List UInt8} (h : w.ownsRow base 5 1 v n (A.map fun b => .int .u8 (b.toNat : Int))) : ∃ t : ByteArray, t.data.toList = A ∧ (convert 151 9 v).run Tryz.prog w = .ok (.string t) w := by
  obtain ⟨h1, ⟨rfl, rfl⟩ | ⟨g, cap, cur, rfl, hrest⟩⟩ := id h
  · refine ⟨ByteArray.empty, ?_, ?_⟩
    · simp at h1
      rw [h1]; rfl
    · exact run_convert_bytes_nil w 151 5 Tryz.underlying151 Tryz.underlying5 0 0 9 Tryz.underlying9
  · have hl : n = A.length := by simpa using h1.symm
    subst hl
    refine ⟨⟨A.toArray⟩, by simp, ?_⟩
    refine run_convert_bytes_back w 151 9 5 ⟨g, 0, none⟩ cap A Tryz.underlying151 Tryz.underlying5 Tryz.underlying9 (fun j hj => ?_)
    exact h.cells rfl j _ (by simp [List.getElem?_eq_getElem hj])
theorem strCells_eq (s : ByteArray) : Lib.strCells s = s.data.toList.map fun b => .int .u8 (b.toNat : Int) := by
  unfold Lib.strCells; rfl

set_option maxRecDepth 100000 in
set_option maxHeartbeats 4000000 in
theorem undoJ_calls (n c : Nat) (a : Option Addr) (l : List M.Rec) (b : ByteArray) (w : World) (hat : RecsAt w a n l) (hok : okAll l) (ha : lenA l ≤ 4096) (hb : lenB l ≤ 4096) (hfit : lenB l = b.size) :
    Calls Tryz.prog 84 #[.slice a n c, .string b] w fun e w' => (∃ t : ByteArray, e = .returned (.tuple #[.string t, .bool true]) ∧ t.data.toList = undoL l b.data.toList) ∧ Below w.heap.size w w' := by
  have hn := hat.len
  subst hn
  have hl4 : l.length ≤ 8192 := by have := okAll_len l hok; omega
  obtain ⟨i0, hi, hz0, hz1, hz2⟩ := info_parts Tryz.info5
  go_enter Tryz.func84, Tryz.ntmps84
  go_wp2
  go_loopw [1, 6, 13] (fun x v i wr => ∃ (k : Nat) (bb : ByteArray) (A : List UInt8), k ≤ l.length ∧ i = .int .i64 k ∧ x = .string bb ∧ (bb.size : Int) = lenB (l.drop k) ∧ wr.ownsRow w.heap.size 5 1 v A.length (A.map fun b => .int .u8 (b.toNat : Int)) ∧ Hid (undoL l b.data.toList = A ++ undoL (l.drop k) bb.data.toList) ∧ Below w.heap.size w wr) (fun _ _ i _ => l.length - (intOf i).toNat)
  case atStart => exact ⟨0, b, [], Nat.zero_le _, rfl, rfl, by rw [List.drop_zero]; exact hfit.symm, World.ownsRow_nil _ _ _ _, rfl, Below.refl _ _⟩
  case round =>
    obtain ⟨k, bb, A, hk, rfl, rfl, hbb, hown, HU, B⟩ := hrel
    have hAl : A.length ≤ 4096 := by
      have h1 := undoL_len l b.data.toList hok
      rw [HU.out, List.length_append] at h1
      omega
    have HB : Hid ((bb.size : Int) = lenB (l.drop k)) := hbb
    clear hbb
    by_cases hlt : k < l.length
    · have hlt1 : (k : Int) < (l.length : Int) := by omega
      have hno : l ≠ [] := fun h => by rw [h] at hlt; simp at hlt
      obtain ⟨bk, off, ha', hbw, hcells⟩ := hat.cells.resolve_left hno
      obtain ⟨c0, c1, c2⟩ := hcells k hlt
      have d0 := (B.cell (by exact hbw)).trans c0
      have d1 := (B.cell (by exact hbw)).trans c1
      have d2 := (B.cell (by exact hbw)).trans c2
      have hokr := hok l[k] (List.getElem_mem hlt)
      have hn4 := mem_n l hok ha hb l[k] (List.getElem_mem hlt)
      have hLB := lenB_drop l k hlt
      have hLn := lenB_nn (l.drop (k + 1)) (okAll_drop hok _)
      have HUD := undoL_drop l k hlt bb.data.toList
      rw [HUD] at HU
      rw [hLB] at HB
      clear hcells c0 c1 c2 hno HUD hLB
      subst ha'
      generalize l[k] = r at *
      have hk2 := (okRec_iff r).1 hokr
      obtain ⟨m, hm⟩ : ∃ m : Nat, r.n = m := ⟨r.n.toNat, by omega⟩
      have hm2 : r.n.toNat = m := by omega
      rw [hm2] at HU
      have hm3 : 1 ≤ m ∧ m ≤ 4096 := by omega
      have hsz := B.size
      have hkk : r.kind = 0 ∨ r.kind = 1 ∨ (r.kind = 2 ∧ r.s.size = m) := by omega
      have HM : Hid (r.n = m) := hm
      clear hk2 hn4 hm2 hokr
      rcases hkk with hkd | hkd | ⟨hkd, hrs⟩
      · have eA : inA r = m := by simp [inA, hkd, hm]
        have eB : inB r = m := by simp [inB, hkd, hm]
        have hbm : m ≤ bb.size := by have h := HB.out; rw [eB] at h; omega
        have HB2 : Hid ((bb.size : Int) - m = lenB (l.drop (k + 1))) := by have h := HB.out; rw [eB] at h; show _ = _; omega
        have HU2 : Hid (undoL l b.data.toList = A ++ (bb.extract 0 m).data.toList ++ undoL (l.drop (k + 1)) (bb.extract m bb.size).data.toList) := by
          show _ = _
          have e : bb.size - m = (bb.data.toList.drop m).length := by rw [len_drop]
          rw [HU.out, if_pos hkd, Lib.extract_data, Lib.extract_data, e, List.take_length]; simp
        have HX : Hid ((bb.extract 0 m).size = m) := by show _ = _; rw [ByteArray.size_extract]; omega
        have HY : Hid ((bb.extract m bb.size).size = bb.size - m) := by show _ = _; rw [ByteArray.size_extract]; omega
        have hxs : (bb.extract 0 m).size ≤ 4096 := by rw [HX.out]; omega
        have k0 : (r.kind == 0) = true := by simp [hkd]
        have k1 : ¬ (m : Int) < 0 := by omega
        have k2 : ¬ (bb.size : Int) < (m : Int) := by omega
        clear HB HU hkd hm
        (
          go_wp2_with fail
          refine (spans_calls r _).mono ?_
          rintro e w2 ⟨rfl, hb1⟩
          rw [show inA r = m from eA, show inB r = m from eB]
          have hown2 := ownsRow_below (hown.alloc _) hb1
          have B3 : Below w.heap.size w w2 := (B.alloc B.size _).trans (hb1.mono (by have := B.size; simp; omega))
          have e0 : w2.cell? ⟨wr.heap.size, 0, none⟩ = some (.int .i64 r.kind) := by rw [(bcell hb1).1 _ _ (by simp)]; simp [go_sem]
          have e1 : w2.cell? ⟨wr.heap.size, 1, none⟩ = some (.int .i64 (m : Int)) := by rw [(bcell hb1).1 _ _ (by simp)]; simp [go_sem, HM.out]
          have e2 : w2.cell? ⟨wr.heap.size, 2, none⟩ = some (.string r.s) := by rw [(bcell hb1).1 _ _ (by simp)]; simp [go_sem]
          have hsz2 := B3.size
          clear hb1 hown d0 d1 d2 eA eB
          go_wp2_with (first
            | (at_builtin; refine Lib.wpList_append_own_string _ rfl _ _ 151 9 rfl w.heap.size 5 i0 Tryz.underlying151 Tryz.underlying9 hi hz0 hz1 hz2 _ _ _ rfl hown2 (bb.extract 0 m) rfl ?k3 ?k4 ?k5 ?_)
            | go_in)
          case k3 => unfold maxLen; omega
          case k4 => omega
          case k5 => omega
          intro v' w3 hown3 hgrow _
          have B4 : Below w.heap.size w w3 := B3.grown hgrow hsz2 (fun k hk => (hown2.lt k hk).1)
          rw [strCells_eq, ← List.map_append] at hown3
          clear hgrow hown2 B3
          go_wp2
          go_roundw
          case rel => exact ⟨k + 1, bb.extract m bb.size, A ++ (bb.extract 0 m).data.toList, by omega, by go_num, rfl, by rw [HY.out, ← HB2.out]; omega, by rw [List.length_append, ba_len, HX.out]; exact hown3, HU2.out, B4⟩
          case measure => simp [intOf]; omega)
      · have eA : inA r = 0 := by simp [inA, hkd]
        have eB : inB r = m := by simp [inB, hkd, hm]
        have hbm : m ≤ bb.size := by have h := HB.out; rw [eB] at h; omega
        have HB2 : Hid ((bb.size : Int) - m = lenB (l.drop (k + 1))) := by have h := HB.out; rw [eB] at h; show _ = _; omega
        have HU2 : Hid (undoL l b.data.toList = A ++ undoL (l.drop (k + 1)) (bb.extract m bb.size).data.toList) := by
          show _ = _
          have e : bb.size - m = (bb.data.toList.drop m).length := by rw [len_drop]
          rw [HU.out, if_neg (by omega), if_pos hkd, Lib.extract_data, e, List.take_length]
        have HY : Hid ((bb.extract m bb.size).size = bb.size - m) := by show _ = _; rw [ByteArray.size_extract]; omega
        have k0 : (r.kind == 0) = false := by simp [hkd]
        have k3 : (r.kind == 2) = false := by simp [hkd]
        have k1 : ¬ (m : Int) < 0 := by omega
        have k2 : ¬ (bb.size : Int) < (m : Int) := by omega
        clear HB HU hkd hm
        (
          go_wp2_with fail
          refine (spans_calls r _).mono ?_
          rintro e w2 ⟨rfl, hb1⟩
          rw [show inA r = 0 from eA, show inB r = m from eB]
          have hown2 := ownsRow_below (hown.alloc _) hb1
          have B3 : Below w.heap.size w w2 := (B.alloc B.size _).trans (hb1.mono (by have := B.size; simp; omega))
          have e0 : w2.cell? ⟨wr.heap.size, 0, none⟩ = some (.int .i64 r.kind) := by rw [(bcell hb1).1 _ _ (by simp)]; simp [go_sem]
          have e1 : w2.cell? ⟨wr.heap.size, 1, none⟩ = some (.int .i64 (m : Int)) := by rw [(bcell hb1).1 _ _ (by simp)]; simp [go_sem, HM.out]
          have e2 : w2.cell? ⟨wr.heap.size, 2, none⟩ = some (.string r.s) := by rw [(bcell hb1).1 _ _ (by simp)]; simp [go_sem]
          have hsz2 := B3.size
          clear hb1 hown d0 d1 d2 eA eB
          go_wp2
          go_roundw
          case rel => exact ⟨k + 1, bb.extract m bb.size, A, by omega, by go_num, rfl, by rw [HY.out, ← HB2.out]; omega, hown2, HU2.out, B3⟩
          case measure => simp [intOf]; omega)
      · have eA : inA r = m := by simp [inA, hkd, hm]
        have eB : inB r = 0 := by simp [inB, hkd]
        have HB2 : Hid ((bb.size : Int) = lenB (l.drop (k + 1))) := by have h := HB.out; rw [eB] at h; show _ = _; omega
        have HU2 : Hid (undoL l b.data.toList = A ++ r.s.data.toList ++ undoL (l.drop (k + 1)) bb.data.toList) := by
          show _ = _
          rw [HU.out, if_neg (by omega), if_neg (by omega)]; simp
        have HE : Hid (bb.extract 0 bb.size = bb) := by
          show _ = _
          apply ba_ext
          rw [Lib.extract_data, List.drop_zero, Nat.sub_zero, ← ba_len, List.take_length]
        have k0 : (r.kind == 0) = false := by simp [hkd]
        have k3 : (r.kind == 2) = true := by simp [hkd]
        have k2 : ¬ (bb.size : Int) < 0 := by omega
        clear HB HU hkd hm
        (
          go_wp2_with fail
          refine (spans_calls r _).mono ?_
          rintro e w2 ⟨rfl, hb1⟩
          rw [show inA r = m from eA, show inB r = 0 from eB]
          have hown2 := ownsRow_below (hown.alloc _) hb1
          have B3 : Below w.heap.size w w2 := (B.alloc B.size _).trans (hb1.mono (by have := B.size; simp; omega))
          have e0 : w2.cell? ⟨wr.heap.size, 0, none⟩ = some (.int .i64 r.kind) := by rw [(bcell hb1).1 _ _ (by simp)]; simp [go_sem]
          have e1 : w2.cell? ⟨wr.heap.size, 1, none⟩ = some (.int .i64 (m : Int)) := by rw [(bcell hb1).1 _ _ (by simp)]; simp [go_sem, HM.out]
          have e2 : w2.cell? ⟨wr.heap.size, 2, none⟩ = some (.string r.s) := by rw [(bcell hb1).1 _ _ (by simp)]; simp [go_sem]
          have hsz2 := B3.size
          clear hb1 hown d0 d1 d2 eA eB
          go_wp2_with (first
            | (at_builtin; refine Lib.wpList_append_own_string _ rfl _ _ 151 9 rfl w.heap.size 5 i0 Tryz.underlying151 Tryz.underlying9 hi hz0 hz1 hz2 _ _ _ rfl hown2 r.s rfl ?k3 ?k4 ?k5 ?_)
            | go_in)
          case k3 => unfold maxLen; omega
          case k4 => omega
          case k5 => omega
          intro v' w3 hown3 hgrow _
          have B4 : Below w.heap.size w w3 := B3.grown hgrow hsz2 (fun k hk => (hown2.lt k hk).1)
          rw [strCells_eq, ← List.map_append] at hown3
          clear hgrow hown2 B3
          go_wp2
          go_roundw
          case rel => exact ⟨k + 1, bb, A ++ r.s.data.toList, by omega, by go_num, by first | rfl | rw [HE.out], HB2.out, by rw [List.length_append, ba_len, hrs]; exact hown3, HU2.out, B4⟩
          case measure => simp [intOf]; omega)
    · obtain rfl : k = l.length := by omega
      obtain ⟨t, ht, hr⟩ := conv_own hown
      have HT : Hid (t.data.toList = undoL l b.data.toList) := by
        show _ = _
        rw [ht, HU.out, List.drop_length, undoL, List.append_nil]
      clear ht
      go_wp2
      go_ret2
      exact ⟨⟨t, rfl, HT.out⟩, B⟩
end Go.Proofs.YtlppphmnegdhoabGreatDoor

