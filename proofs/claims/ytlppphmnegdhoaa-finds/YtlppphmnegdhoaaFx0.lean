/-
  Expressions: marks, items, what matches: plain mathematics.
-/
import Derived.Test.YtlppphmnegdhoaaSums
namespace Go.Proofs.Ytlppphmnegdhoaa
set_option linter.unusedVariables false
namespace M

/-- a byte of an expression; p: it stands without a sign ahead of it -/
structure Mk where
  b : Nat
  p : Bool
def Mk.is (m : Mk) (c : Nat) : Bool := m.p && m.b == c
def escB (d : UInt8) : Nat := if d.toNat = 110 then 10 else d.toNat
def preM (m : Mk) (r : List Mk × List UInt8) : List Mk × List UInt8 := (m :: r.1, r.2)
/-- the marks up to the next plain slash, and what stands behind it -/
def uptoM : List UInt8 → Option (List Mk × List UInt8)
  | [] => none
  | [c] => if c.toNat = 47 then some ([], []) else none
  | c :: d :: t => if c.toNat = 47 then some ([], d :: t) else if c.toNat = 92 then (uptoM t).map (preM ⟨escB d, false⟩) else (uptoM (d :: t)).map (preM ⟨c.toNat, true⟩)
def catM (l : List Mk) (r : List Mk × List UInt8) : List Mk × List UInt8 := (l ++ r.1, r.2)
theorem upto_slash (c : UInt8) (t : List UInt8) (h : c.toNat = 47) : uptoM (c :: t) = some ([], t) := by
  cases t with
  | nil => simp [uptoM, h]
  | cons d t => simp [uptoM, h]
theorem upto_plain (c : UInt8) (t : List UInt8) (h : c.toNat ≠ 47) (h2 : c.toNat ≠ 92) : uptoM (c :: t) = (uptoM t).map (preM ⟨c.toNat, true⟩) := by
  cases t with
  | nil => simp [uptoM, h]
  | cons d t => simp [uptoM, h, h2]
theorem upto_esc (c d : UInt8) (t : List UInt8) (h : c.toNat = 92) : uptoM (c :: d :: t) = (uptoM t).map (preM ⟨escB d, false⟩) := by
  simp [uptoM, h]
theorem upto_end (c : UInt8) (h : c.toNat = 92) : uptoM [c] = none := by simp [uptoM, h]
theorem cat_pre (l : List Mk) (m : Mk) (o : Option (List Mk × List UInt8)) : (o.map (preM m)).map (catM l) = o.map (catM (l ++ [m])) := by
  cases o with
  | none => rfl
  | some r => simp [preM, catM]

/-- an item: pairs of bytes; all others; all; any number of them -/
structure It where
  any : Bool
  not : Bool
  star : Bool
  rng : List (Nat × Nat)
structure Ex where
  head : Bool
  tail : Bool
  l : List It
def hasI (x : It) (c : Nat) : Bool := x.any || (x.rng.any (fun r => decide (r.1 ≤ c) && decide (c ≤ r.2)) != x.not)

/-- the members of a set, from a mark on -/
def membersM : List Mk → List (Nat × Nat) → Option (List (Nat × Nat) × List Mk)
  | [], _ => none
  | [m], acc => if m.is 93 then (if acc = [] then none else some (acc, [])) else none
  | [m, d], acc => if m.is 93 then (if acc = [] then none else some (acc, [d])) else if m.is 45 then none else if d.is 45 then none else membersM [d] (acc ++ [(m.b, m.b)])
  | m :: d :: h :: v, acc =>
    if m.is 93 then (if acc = [] then none else some (acc, d :: h :: v)) else if m.is 45 then none
    else if d.is 45 then (if h.is 93 || h.is 45 || decide (h.b < m.b) then none else membersM v (acc ++ [(m.b, h.b)]))
    else membersM (d :: h :: v) (acc ++ [(m.b, m.b)])
/-- a set, behind its bracket -/
def setM : List Mk → Option (Bool × List (Nat × Nat) × List Mk)
  | [] => none
  | d :: u => if d.is 94 then (membersM u []).map (fun r => (true, r.1, r.2)) else (membersM (d :: u) []).map (fun r => (false, r.1, r.2))
/-- an item without its star -/
def bareM : List Mk → Option (It × List Mk)
  | [] => none
  | c :: t =>
    if c.is 46 then some (⟨true, false, false, []⟩, t)
    else if c.is 91 then (setM t).map (fun r => (⟨false, r.1, false, r.2.1⟩, r.2.2))
    else if c.is 42 || c.is 93 || c.is 94 || c.is 36 then none
    else some (⟨false, false, false, [(c.b, c.b)]⟩, t)
def starM (r : It × List Mk) : It × List Mk :=
  match r.2 with
  | [] => r
  | d :: u => if d.is 42 then (⟨r.1.any, r.1.not, true, r.1.rng⟩, u) else r
def itemM (m : List Mk) : Option (It × List Mk) := (bareM m).map starM
def itemsM : Nat → List Mk → Option (List It)
  | _, [] => some []
  | 0, _ => none
  | n + 1, m :: t => match itemM (m :: t) with
    | none => none
    | some (x, r) => (itemsM n r).map (x :: ·)
/-- an expression of marks -/
def expM (m : List Mk) : Option Ex :=
  if m = [] then none else
  let hd := (m.head?.map (·.is 94)).getD false
  let at' := if hd then 1 else 0
  let tl := decide (at' < m.length) && (m.getLast?.map (·.is 36)).getD false
  let body := (if tl then m.take (m.length - 1) else m).drop at'
  (itemsM body.length body).map (fun l => ⟨hd, tl, l⟩)

/-- do the items match just these bytes -/
def mt : List It → List UInt8 → Bool
  | [], s => s.isEmpty
  | x :: l, [] => x.star && mt l []
  | x :: l, c :: t => if x.star then mt l (c :: t) || (hasI x c.toNat && mt (x :: l) t) else hasI x c.toNat && mt l t
termination_by l s => (l.length, s.length)
theorem mt_nil (s : List UInt8) : mt [] s = s.isEmpty := by rw [mt]
theorem mt_end (x : It) (l : List It) : mt (x :: l) [] = (x.star && mt l []) := by rw [mt]
theorem mt_cons (x : It) (l : List It) (c : UInt8) (t : List UInt8) : mt (x :: l) (c :: t) = if x.star then mt l (c :: t) || (hasI x c.toNat && mt (x :: l) t) else hasI x c.toNat && mt l t := by rw [mt]
/-- from i to j of a text -/
def seg (s : List UInt8) (i j : Nat) : List UInt8 := (s.take j).drop i
def matchX (x : Ex) (s : List UInt8) (i j : Nat) : Bool := decide (i ≤ j) && decide (j ≤ s.length) && (!x.head || decide (i = 0)) && (!x.tail || decide (j = s.length)) && mt x.l (seg s i j)
/-- what Find finds -/
def FindAt (x : Ex) (s : List UInt8) (at' : Nat) (i j : Int) : Prop :=
  (i = -1 ∧ j = -1 ∧ ∀ a b, at' ≤ a → matchX x s a b = false) ∨ ∃ a b : Nat, i = a ∧ j = b ∧ at' ≤ a ∧ matchX x s a b = true ∧ (∀ c d, at' ≤ c → c < a → matchX x s c d = false) ∧ ∀ d, b < d → matchX x s a d = false
/-- the expression that a text is -/
def expOf (re : List UInt8) : Option Ex :=
  match uptoM (re ++ [47]) with
  | some (m, []) => if re.any (fun c => c.toNat == 10) then none else expM m
  | _ => none
/-- what Find answers -/
def FindSpec (re s : ByteArray) (at' : Int) (i j e : Int) : Prop :=
  ((400 < re.size ∨ 256 < s.size) ∧ i = 0 ∧ j = 0 ∧ e = 1) ∨ ((re.size ≤ 400 ∧ s.size ≤ 256) ∧
    ((expOf re.data.toList = none ∧ i = 0 ∧ j = 0 ∧ e = 2) ∨ ∃ x, expOf re.data.toList = some x ∧
      (((at' < 0 ∨ (s.size : Int) < at') ∧ i = 0 ∧ j = 0 ∧ e = 3) ∨ ∃ n : Nat, at' = n ∧ n ≤ s.size ∧ e = 0 ∧ FindAt x s.data.toList n i j)))
theorem findAt_same {x : Ex} {s : List UInt8} {n : Nat} {i j i' j' : Int} (h : FindAt x s n i j) (g : FindAt x s n i' j') : i = i' ∧ j = j' := by
  rcases h with ⟨rfl, rfl, h⟩ | ⟨a, b, rfl, rfl, h1, h2, h3, h4⟩ <;> rcases g with ⟨rfl, rfl, g⟩ | ⟨c, d, rfl, rfl, g1, g2, g3, g4⟩
  · exact ⟨rfl, rfl⟩
  · rw [h c d g1] at g2; cases g2
  · rw [g a b h1] at h2; cases h2
  · have e1 : a = c := by
      rcases Nat.lt_trichotomy a c with h | h | h
      · rw [g3 a b h1 h] at h2; cases h2
      · exact h
      · rw [h3 c d g1 h] at g2; cases g2
    subst e1
    have e2 : b = d := by
      rcases Nat.lt_trichotomy b d with h | h | h
      · rw [h4 d h] at g2; cases g2
      · exact h
      · rw [g4 b h] at h2; cases h2
    subst e2
    exact ⟨rfl, rfl⟩
end M
end Go.Proofs.Ytlppphmnegdhoaa
