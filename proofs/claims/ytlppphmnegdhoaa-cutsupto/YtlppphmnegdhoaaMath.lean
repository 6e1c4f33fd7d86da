/-
  Journals: plain mathematics: numbers as bytes, records, what a journal is; readers and writers are one another's inverse.
-/
import Derived.Test.YtlppphmnegdhoaaSums
namespace Go.Proofs.Ytlppphmnegdhoaa
set_option linter.unusedVariables false
namespace M

structure Rec where
  kind : Int
  n : Int
  s : ByteArray

def okRec (r : Rec) : Bool := decide (1 ≤ r.n) && ((decide (r.kind = 0) || decide (r.kind = 1)) && decide (r.s.size = 0) || decide (r.kind = 2) && decide ((r.s.size : Int) = r.n))
def inA (r : Rec) : Int := if r.kind = 1 then 0 else r.n
def inB (r : Rec) : Int := if r.kind = 0 ∨ r.kind = 1 then r.n else 0

theorem okRec_iff (r : Rec) : okRec r = true ↔ 1 ≤ r.n ∧ (((r.kind = 0 ∨ r.kind = 1) ∧ r.s.size = 0) ∨ (r.kind = 2 ∧ (r.s.size : Int) = r.n)) := by
  simp [okRec]

theorem ba_ext {a b : ByteArray} (h : a.data.toList = b.data.toList) : a = b := by
  cases a; cases b; simp at h; simp [h]
theorem ba_len (a : ByteArray) : a.data.toList.length = a.size := by rw [Array.length_toList]; rfl

def numE (v : Nat) : List UInt8 :=
  if v < 128 then [UInt8.ofNat v] else if v < 16384 then [UInt8.ofNat (128 + v % 128), UInt8.ofNat (v / 128)]
  else [UInt8.ofNat (128 + v % 128), UInt8.ofNat (128 + v / 128 % 128), UInt8.ofNat (v / 16384)]
def twoE (v : Nat) : List UInt8 := [UInt8.ofNat (v / 256), UInt8.ofNat (v % 256)]

/-- the strict reader of a number: rounds left, what was read so far, the weight, whether it is the first byte -/
def rdN : Nat → Nat → Nat → Bool → List UInt8 → Option (Nat × List UInt8)
  | 0, _, _, _, _ => none
  | _ + 1, _, _, _, [] => none
  | n + 1, v, wt, fst, c :: l => if c.toNat = 0 ∧ fst = false then none else if c.toNat < 128 then some (v + c.toNat * wt, l) else rdN n (v + (c.toNat - 128) * wt) (wt * 128) false l
def rdNum (l : List UInt8) : Option (Nat × List UInt8) := rdN 3 0 1 true l
/-- the loose one -/
def lsN : Nat → Nat → Nat → List UInt8 → Nat × List UInt8
  | 0, v, _, l => (v, l)
  | _ + 1, v, _, [] => (v, [])
  | n + 1, v, wt, c :: l => if c.toNat < 128 then (v + c.toNat % 128 * wt, l) else lsN n (v + c.toNat % 128 * wt) (wt * 128) l
def lsNum (l : List UInt8) : Nat × List UInt8 := lsN 3 0 1 l

theorem u8 (v : Nat) (h : v < 256) : (UInt8.ofNat v).toNat = v := by
  rw [UInt8.toNat_ofNat']; omega
theorem u8' (c : UInt8) : UInt8.ofNat c.toNat = c := by simp

theorem rdNum_numE (v : Nat) (r : List UInt8) (h : v < 2097152) : rdNum (numE v ++ r) = some (v, r) := by
  unfold rdNum numE
  split
  · rename_i h1
    simp only [List.cons_append, List.nil_append, rdN, u8 v (by omega)]
    simp [h1]
  · split
    · rename_i h1 h2
      simp only [List.cons_append, List.nil_append, rdN, u8 (128 + v % 128) (by omega), u8 (v / 128) (by omega)]
      rw [if_neg (by omega), if_neg (by omega), if_neg (by omega), if_pos (by omega)]
      simp; omega
    · rename_i h1 h2
      simp only [List.cons_append, List.nil_append, rdN, u8 (128 + v % 128) (by omega), u8 (128 + v / 128 % 128) (by omega), u8 (v / 16384) (by omega)]
      rw [if_neg (by omega), if_neg (by omega), if_neg (by omega), if_neg (by omega), if_neg (by omega), if_pos (by omega)]
      simp; omega
theorem lsNum_numE (v : Nat) (r : List UInt8) (h : v < 2097152) : lsNum (numE v ++ r) = (v, r) := by
  unfold lsNum numE
  split
  · rename_i h1
    simp only [List.cons_append, List.nil_append, lsN, u8 v (by omega)]
    rw [if_pos (by omega)]
    simp; omega
  · split
    · rename_i h1 h2
      simp only [List.cons_append, List.nil_append, lsN, u8 (128 + v % 128) (by omega), u8 (v / 128) (by omega)]
      rw [if_neg (by omega), if_pos (by omega)]
      simp; omega
    · rename_i h1 h2
      simp only [List.cons_append, List.nil_append, lsN, u8 (128 + v % 128) (by omega), u8 (128 + v / 128 % 128) (by omega), u8 (v / 16384) (by omega)]
      rw [if_neg (by omega), if_neg (by omega), if_pos (by omega)]
      simp; omega
theorem lsN_le : ∀ (n v wt : Nat) (l : List UInt8), (lsN n v wt l).2.length ≤ l.length ∧ (0 < n → l ≠ [] → (lsN n v wt l).2.length < l.length)
  | 0, v, wt, l => by simp [lsN]
  | n + 1, v, wt, [] => by simp [lsN]
  | n + 1, v, wt, c :: l => by
    simp only [lsN]
    split
    · simp
    · have := (lsN_le n (v + c.toNat % 128 * wt) (wt * 128) l).1
      simp; omega
theorem lsNum_lt (l : List UInt8) : (lsNum l).1 < 2097152 := by
  unfold lsNum
  match l with
  | [] => simp [lsN]
  | [a] => simp only [lsN]; split <;> simp <;> omega
  | [a, b] => simp only [lsN]; repeat' split
              all_goals (simp; omega)
  | a :: b :: c :: l => simp only [lsN]; repeat' split
                        all_goals (simp; omega)

theorem rdNum_inv (l : List UInt8) (v : Nat) (r : List UInt8) (h : rdNum l = some (v, r)) : l = numE v ++ r ∧ v < 2097152 := by
  unfold rdNum at h
  match l with
  | [] => simp [rdN] at h
  | c0 :: l =>
    have g0 := c0.toNat_lt
    simp only [rdN] at h
    rw [if_neg (by simp)] at h
    by_cases h0 : c0.toNat < 128
    · rw [if_pos h0] at h
      simp at h
      obtain ⟨rfl, rfl⟩ := h
      refine ⟨?_, by omega⟩
      simp [numE, h0]
    · rw [if_neg h0] at h
      match l with
      | [] => simp [rdN] at h
      | c1 :: l =>
        have g1 := c1.toNat_lt
        simp only [rdN] at h
        by_cases z1 : c1.toNat = 0
        · rw [if_pos ⟨z1, trivial⟩] at h; cases h
        rw [if_neg (fun q => z1 q.1)] at h
        by_cases h1 : c1.toNat < 128
        · rw [if_pos h1] at h
          simp at h
          obtain ⟨rfl, rfl⟩ := h
          refine ⟨?_, by omega⟩
          unfold numE
          rw [if_neg (by omega), if_pos (by omega)]
          have e0 : 128 + (c0.toNat - 128 + c1.toNat * 128) % 128 = c0.toNat := by omega
          have e1 : (c0.toNat - 128 + c1.toNat * 128) / 128 = c1.toNat := by omega
          rw [e0, e1, u8', u8']; rfl
        · rw [if_neg h1] at h
          match l with
          | [] => simp [rdN] at h
          | c2 :: l =>
            have g2 := c2.toNat_lt
            simp only [rdN] at h
            by_cases z2 : c2.toNat = 0
            · rw [if_pos ⟨z2, trivial⟩] at h; cases h
            rw [if_neg (fun q => z2 q.1)] at h
            by_cases h2 : c2.toNat < 128
            · rw [if_pos h2] at h
              simp at h
              obtain ⟨rfl, rfl⟩ := h
              refine ⟨?_, by omega⟩
              unfold numE
              rw [if_neg (by omega), if_neg (by omega)]
              have e0 : 128 + (c0.toNat - 128 + (c1.toNat - 128) * 128 + c2.toNat * 16384) % 128 = c0.toNat := by omega
              have e1 : 128 + (c0.toNat - 128 + (c1.toNat - 128) * 128 + c2.toNat * 16384) / 128 % 128 = c1.toNat := by omega
              have e2 : (c0.toNat - 128 + (c1.toNat - 128) * 128 + c2.toNat * 16384) / 16384 = c2.toNat := by omega
              rw [e0, e1, e2, u8', u8', u8']; rfl
            · rw [if_neg h2] at h; cases h
theorem numE_len (v : Nat) : 1 ≤ (numE v).length ∧ (numE v).length ≤ 3 := by
  unfold numE; repeat' split
  all_goals simp

def rdTwo : List UInt8 → Option (Nat × List UInt8)
  | a :: b :: r => some (a.toNat * 256 + b.toNat, r)
  | _ => none
theorem rdTwo_twoE (v : Nat) (r : List UInt8) (h : v < 65536) : rdTwo (twoE v ++ r) = some (v, r) := by
  simp only [twoE, List.cons_append, List.nil_append, rdTwo, u8 (v / 256) (by omega), u8 (v % 256) (by omega)]
  simp; omega
theorem rdTwo_inv (l : List UInt8) (v : Nat) (r : List UInt8) (h : rdTwo l = some (v, r)) : l = twoE v ++ r ∧ v < 65536 := by
  match l with
  | [] => simp [rdTwo] at h
  | [a] => simp [rdTwo] at h
  | a :: b :: l =>
    have ga := a.toNat_lt
    have gb := b.toNat_lt
    simp [rdTwo] at h
    obtain ⟨rfl, rfl⟩ := h
    refine ⟨?_, by omega⟩
    have e0 : (a.toNat * 256 + b.toNat) / 256 = a.toNat := by omega
    have e1 : (a.toNat * 256 + b.toNat) % 256 = b.toNat := by omega
    simp only [twoE, e0, e1, u8']; rfl

/-- a record's bytes -/
def recE (r : Rec) : List UInt8 := numE (4 * r.n + r.kind).toNat ++ r.s.data.toList
def recsE (l : List Rec) : List UInt8 := (l.map recE).flatten
def mkRec (m : Nat) (s : List UInt8) : Rec := ⟨(m : Int) % 4, (m : Int) / 4, ⟨⟨s⟩⟩⟩
/-- the strict reader of a record -/
def rdRec (l : List UInt8) : Option (Rec × List UInt8) :=
  match rdNum l with
  | none => none
  | some (m, r) =>
    if m % 4 = 2 then (if r.length < m / 4 then none else if okRec (mkRec m (r.take (m / 4))) then some (mkRec m (r.take (m / 4)), r.drop (m / 4)) else none)
    else if okRec (mkRec m []) then some (mkRec m [], r) else none

theorem rdRec_recE (r : Rec) (t : List UInt8) (h : okRec r = true) (hn : r.n ≤ 4096) : rdRec (recE r ++ t) = some (r, t) := by
  have hk := (okRec_iff r).1 h
  unfold rdRec recE
  rw [List.append_assoc, rdNum_numE _ _ (by omega)]
  have e4 : (4 * r.n + r.kind).toNat % 4 = r.kind.toNat := by omega
  have eq : (4 * r.n + r.kind).toNat / 4 = r.n.toNat := by omega
  simp only [e4, eq]
  have hl := ba_len r.s
  have e : ∀ s : List UInt8, s = r.s.data.toList → mkRec (4 * r.n + r.kind).toNat s = r := by
    intro s hs
    obtain ⟨kind, n, b⟩ := r
    have a1 : ((4 * n + kind).toNat : Int) % 4 = kind := by simp at hk; omega
    have a2 : ((4 * n + kind).toNat : Int) / 4 = n := by simp at hk; omega
    simp only [mkRec, a1, a2]
    have : (⟨⟨s⟩⟩ : ByteArray) = b := ba_ext hs
    rw [this]
  by_cases h2 : r.kind = 2
  · rw [if_pos (by omega), if_neg (by simp; omega)]
    have hT : (r.s.data.toList ++ t).take r.n.toNat = r.s.data.toList := by rw [List.take_append_of_le_length (by omega), List.take_of_length_le (by omega)]
    have hD : (r.s.data.toList ++ t).drop r.n.toNat = t := by rw [List.drop_append_of_le_length (by omega), List.drop_of_length_le (by omega)]; rfl
    rw [hT, hD, e _ rfl, if_pos h]
  · rw [if_neg (by omega)]
    have hs0 : r.s.data.toList = [] := List.length_eq_zero_iff.1 (by omega)
    rw [e [] hs0.symm, if_pos h, hs0]; rfl
theorem rdRec_inv (l : List UInt8) (r : Rec) (t : List UInt8) (h : rdRec l = some (r, t)) : okRec r = true ∧ l = recE r ++ t := by
  unfold rdRec at h
  match hm : rdNum l with
  | none => rw [hm] at h; cases h
  | some (m, q) =>
    rw [hm] at h
    obtain ⟨hl, hm2⟩ := rdNum_inv l m q hm
    have em : (4 * ((m : Int) / 4) + (m : Int) % 4).toNat = m := by omega
    simp only [] at h
    split at h
    · split at h
      · cases h
      · split at h
        · rename_i a b c
          simp at h
          obtain ⟨rfl, rfl⟩ := h
          refine ⟨c, ?_⟩
          rw [hl, recE]
          simp [mkRec, em]
        · cases h
    · split at h
      · rename_i a b
        simp at h
        obtain ⟨rfl, rfl⟩ := h
        refine ⟨b, ?_⟩
        rw [hl, recE]
        simp [mkRec, em]
      · cases h
theorem recE_len (r : Rec) : 1 ≤ (recE r).length := by
  unfold recE; have := (numE_len (4 * r.n + r.kind).toNat).1; simp; omega

/-- lengths -/
def lenA : List Rec → Int
  | [] => 0
  | r :: l => inA r + lenA l
def lenB : List Rec → Int
  | [] => 0
  | r :: l => inB r + lenB l
theorem lenA_append (l m : List Rec) : lenA (l ++ m) = lenA l + lenA m := by
  induction l with
  | nil => simp [lenA]
  | cons r l ih => simp only [List.cons_append, lenA, ih]; omega
theorem lenB_append (l m : List Rec) : lenB (l ++ m) = lenB l + lenB m := by
  induction l with
  | nil => simp [lenB]
  | cons r l ih => simp only [List.cons_append, lenB, ih]; omega
theorem recsE_append (l m : List Rec) : recsE (l ++ m) = recsE l ++ recsE m := by simp [recsE]
theorem recsE_cons (r : Rec) (l : List Rec) : recsE (r :: l) = recE r ++ recsE l := by simp [recsE]
def okAll (l : List Rec) : Prop := ∀ r ∈ l, okRec r = true
theorem inA_nn (r : Rec) (h : okRec r = true) : 0 ≤ inA r := by
  have := (okRec_iff r).1 h; unfold inA; split <;> omega
theorem inB_nn (r : Rec) (h : okRec r = true) : 0 ≤ inB r := by
  have := (okRec_iff r).1 h; unfold inB; split <;> omega
theorem inAB (r : Rec) (h : okRec r = true) : r.n ≤ inA r + inB r := by
  have := (okRec_iff r).1 h; unfold inA inB; repeat' split
  all_goals omega
theorem lenA_nn (l : List Rec) (h : okAll l) : 0 ≤ lenA l := by
  induction l with
  | nil => simp [lenA]
  | cons r l ih => have := ih (fun x hx => h x (List.mem_cons_of_mem _ hx)); have := inA_nn r (h r (List.mem_cons_self ..)); simp only [lenA]; omega
theorem lenB_nn (l : List Rec) (h : okAll l) : 0 ≤ lenB l := by
  induction l with
  | nil => simp [lenB]
  | cons r l ih => have := ih (fun x hx => h x (List.mem_cons_of_mem _ hx)); have := inB_nn r (h r (List.mem_cons_self ..)); simp only [lenB]; omega

theorem n_le (r : Rec) (h : okRec r = true) : r.n = inA r ∨ r.n = inB r := by
  have := (okRec_iff r).1 h; unfold inA inB; repeat' split
  all_goals omega
theorem mem_le (l : List Rec) (h : okAll l) (r : Rec) (hr : r ∈ l) : inA r ≤ lenA l ∧ inB r ≤ lenB l := by
  induction l with
  | nil => cases hr
  | cons x l ih =>
    have hl : okAll l := fun y hy => h y (List.mem_cons_of_mem _ hy)
    have h1 := inA_nn x (h x (List.mem_cons_self ..))
    have h2 := inB_nn x (h x (List.mem_cons_self ..))
    have h3 := lenA_nn l hl
    have h4 := lenB_nn l hl
    simp only [lenA, lenB]
    rcases List.mem_cons.1 hr with rfl | hr
    · omega
    · have := ih hl hr; omega
theorem mem_n (l : List Rec) (h : okAll l) (ha : lenA l ≤ 4096) (hb : lenB l ≤ 4096) (r : Rec) (hr : r ∈ l) : r.n ≤ 4096 := by
  have := mem_le l h r hr
  have := n_le r (h r hr)
  omega
theorem okAll_cons {r : Rec} {l : List Rec} (h : okAll (r :: l)) : okRec r = true ∧ okAll l :=
  ⟨h r (List.mem_cons_self ..), fun x hx => h x (List.mem_cons_of_mem _ hx)⟩
theorem okAll_append {l m : List Rec} (h : okAll l) (g : okAll m) : okAll (l ++ m) := fun x hx => by
  rcases List.mem_append.1 hx with hx | hx
  · exact h x hx
  · exact g x hx
/-- records are known by their bytes -/
theorem recs_prefix (l : List Rec) : ∀ (l' : List Rec) (t : List UInt8), okAll l → okAll l' → (∀ r ∈ l, r.n ≤ 4096) → (∀ r ∈ l', r.n ≤ 4096) → recsE l ++ t = recsE l' → ∃ m, l' = l ++ m ∧ t = recsE m := by
  induction l with
  | nil => intro l' t _ _ _ _ h; exact ⟨l', rfl, h⟩
  | cons r l ih =>
    intro l' t ho ho' hn hn' h
    obtain ⟨o1, o2⟩ := okAll_cons ho
    rw [recsE_cons, List.append_assoc] at h
    match l' with
    | [] =>
      have := recE_len r
      have h2 := congrArg List.length h
      simp [recsE] at h2
      have h3 : recE r = [] := h2.1
      rw [h3] at this; simp at this
    | r' :: l' =>
      obtain ⟨p1, p2⟩ := okAll_cons ho'
      rw [recsE_cons] at h
      have e1 := rdRec_recE r (recsE l ++ t) o1 (hn r (List.mem_cons_self ..))
      rw [h, rdRec_recE r' _ p1 (hn' r' (List.mem_cons_self ..))] at e1
      simp only [Option.some.injEq, Prod.mk.injEq] at e1
      obtain ⟨rfl, e2⟩ := e1
      obtain ⟨m, hm, ht⟩ := ih l' t o2 p2 (fun x hx => hn x (List.mem_cons_of_mem _ hx)) (fun x hx => hn' x (List.mem_cons_of_mem _ hx)) e2.symm
      exact ⟨m, by rw [hm]; rfl, ht⟩

structure Jn where
  la : Nat
  lb : Nat
  sa : Nat
  sb : Nat
  l : List Rec
def headE (j : Jn) : List UInt8 := 82 :: 84 :: (numE j.la ++ (numE j.lb ++ (twoE j.sa ++ twoE j.sb)))
def bodyE (j : Jn) : List UInt8 := headE j ++ recsE j.l
def writE (j : Jn) : List UInt8 := bodyE j ++ twoE (sum (bodyE j))
structure Valid (j : Jn) : Prop where
  ok : okAll j.l
  a : lenA j.l = j.la
  b : lenB j.l = j.lb
  la : j.la ≤ 4096
  lb : j.lb ≤ 4096
  sa : j.sa < 65536
  sb : j.sb < 65536
/-- s is the journal that tells j -/
def Tells (s : List UInt8) (j : Jn) : Prop := Valid j ∧ writE j = s
end M
end Go.Proofs.Ytlppphmnegdhoaa
