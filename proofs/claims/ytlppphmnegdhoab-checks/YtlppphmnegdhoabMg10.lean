import Derived.Test.YtlppphmnegdhoabMg9
import Derived.Test.YtlppphmnegdhoabMg6
/-
  Boxes of cells: whole values and parts of them, in and out.
-/
namespace Go.Proofs.Ytlppphmnegdhoab
set_option linter.unusedVariables false
set_option maxRecDepth 100000
open Go.RowKit
open M

/-- a box of cells that may be written into -/
structure CB (w : World) (b : Nat) (cs : List Value) : Prop where
  lt : b < w.heap.size
  c : ∀ j v, cs[j]? = some v → w.cell? ⟨b, j, none⟩ = some v
  fz : ∀ j, j < cs.length → w.frozen? ⟨b, j, none⟩ = false
  one : ∀ v ∈ cs, v.oneCell' = true
theorem CB.keep {w w' : World} {b : Nat} {cs : List Value} (h : CB w b cs) (hk : w'.heap[b]? = w.heap[b]?) (hs : w.heap.size ≤ w'.heap.size) : CB w' b cs :=
  ⟨by have := h.lt; omega, fun j v hv => (World.cell?_of_block hk).trans (h.c j v hv), fun j hj => (World.frozen?_of_block hk).trans (h.fz j hj), h.one⟩
theorem CB.below {w w' : World} {b B : Nat} {cs : List Value} (h : CB w b cs) (hb : Below B w w') (hB : b < B) : CB w' b cs := h.keep (hb.block b hB) hb.size
theorem CB.set {w : World} {b : Nat} {cs : List Value} (h : CB w b cs) (j : Nat) (hj : j < cs.length) (u : Value) (hu : u.oneCell' = true) : CB (w.setCell ⟨b, j, none⟩ u) b (cs.set j u) := by
  refine ⟨by simpa using h.lt, fun i v hv => ?_, fun i hi => by simpa using h.fz i (by simpa using hi), fun v hv => ?_⟩
  · rw [List.getElem?_set] at hv
    by_cases e : j = i
    · subst e
      rw [if_pos rfl, if_pos hj] at hv
      simp at hv; subst hv
      exact World.cell?_setCell_same' _ _ _ (by rw [h.c j _ (List.getElem?_eq_getElem hj)]; rfl)
    · rw [if_neg e] at hv
      rw [World.cell?_setCell_other _ _ _ _ (fun e' => e (congrArg Addr.off e'))]
      exact h.c i v hv
  · rcases List.mem_or_eq_of_mem_set hv with hv | hv
    · exact h.one v hv
    · rw [hv]; exact hu
theorem CB.range {w : World} {b : Nat} {cs : List Value} (h : CB w b cs) (o n : Nat) : w.rangeAt b o ((cs.drop o).take n) := fun j v hv => by
  rw [List.getElem?_take] at hv
  split at hv
  · rw [List.getElem?_drop] at hv
    exact h.c _ v hv
  · cases hv
theorem CB.there {w : World} {b : Nat} {cs : List Value} (h : CB w b cs) (o n : Nat) (hn : o + n ≤ cs.length) : w.there b o n := fun j hj =>
  ⟨by rw [h.c (o + j) _ (List.getElem?_eq_getElem (by omega))]; rfl, h.fz (o + j) (by omega)⟩
theorem CB.store {w : World} {b : Nat} {cs : List Value} (h : CB w b cs) (o : Nat) (vs : List Value) (hn : o + vs.length ≤ cs.length) (h1 : ∀ v ∈ vs, v.oneCell' = true) : CB (w.setCells b o vs) b (cs.take o ++ vs ++ cs.drop (o + vs.length)) := by
  have ht := h.there o vs.length hn
  have hr := World.rangeAt_setCells_same w b o vs ht
  refine ⟨by rw [(setCells_plain b _ o w).2.2.2]; exact h.lt, fun i v hv => ?_, fun i hi => ?_, fun v hv => ?_⟩
  · by_cases e1 : i < o
    · rw [List.append_assoc, List.getElem?_append_left (by rw [List.length_take]; omega), List.getElem?_take, if_pos e1] at hv
      rw [World.cell?_setCells_out b vs o w ⟨b, i, none⟩ (fun _ _ => .inl (by exact e1))]
      exact h.c i v hv
    · by_cases e2 : i < o + vs.length
      · rw [List.append_assoc, List.getElem?_append_right (by rw [List.length_take]; omega), List.length_take, Nat.min_eq_left (by omega), List.getElem?_append_left (by omega)] at hv
        have := hr (i - o) v hv
        rwa [show o + (i - o) = i by omega] at this
      · rw [List.getElem?_append_right (by rw [List.length_append, List.length_take]; omega), List.length_append, List.length_take, Nat.min_eq_left (by omega), List.getElem?_drop] at hv
        rw [World.cell?_setCells_out b vs o w ⟨b, i, none⟩ (fun _ _ => .inr (by show o + vs.length ≤ i; omega))]
        refine h.c i v ?_
        rwa [show o + vs.length + (i - (o + vs.length)) = i by omega] at hv
  · rw [World.frozen?_setCells]
    exact h.fz i (by simp at hi; omega)
  · rcases List.mem_append.1 hv with hv | hv
    · rcases List.mem_append.1 hv with hv | hv
      · exact h.one v (List.mem_of_mem_take hv)
      · exact h1 v hv
    · exact h.one v (List.mem_of_mem_drop hv)
theorem CB.new (w : World) (t : TypeId) (C : Array Value) (h1 : ∀ v ∈ C.toList, v.oneCell' = true) : CB (w.alloc (.cells C t)) w.heap.size C.toList := by
  refine ⟨by simp, fun j v hv => ?_, fun j hj => by simp [go_sem], h1⟩
  rw [cell_of_row _ _ _ _ _ _ (heap_alloc_new w _)]
  simpa using hv
/-- a type of n cells in a row -/
def RowT (T : TypeId) (n : Nat) : Prop := (∃ d, Try.prog.underlying T = some d ∧ d.isRow = true) ∧ (Try.prog.info? T).map (·.size) = some n
theorem cb_load {ops : Array Oper} {rest : List Oper} {op : Oper} {a : Act} {w : World} {Q : Exit → Act → World → Prop} {g o n : Nat} {cs vs : List Value} {T : TypeId} (hT : RowT T n) (hb : CB w g cs) (hvs : (cs.drop o).take n = vs) (hl : vs.length = n) (hgd : op.guard = none) (x : Operand) (ho : op.op = .load T x) (hx : a.eval x = .pointer (some ⟨g, o, none⟩))
    (h : wpList Try.prog ops Q rest (a.put op.dst (.agg vs.toArray)) w) : wpList Try.prog ops Q (op :: rest) a w := by
  obtain ⟨⟨d, hu, hd⟩, hi⟩ := hT
  have hr := hb.range o n
  rw [hvs] at hr
  exact wpList_load_mid hgd T x ho g o hx vs d hr hu hd (by rw [hl]; exact hi) h
theorem cb_store {ops : Array Oper} {rest : List Oper} {op : Oper} {a : Act} {w : World} {Q : Exit → Act → World → Prop} {g o n : Nat} {cs vs : List Value} {T : TypeId} (hT : RowT T n) (hb : CB w g cs) (hl : vs.length = n) (hn : o + n ≤ cs.length) (h1 : ∀ v ∈ vs, v.oneCell' = true) (hgd : op.guard = none) (x y : Operand) (ho : op.op = .store T x y) (hx : a.eval x = .pointer (some ⟨g, o, none⟩)) (hy : a.eval y = .agg vs.toArray)
    (h : ∀ w', CB w' g (cs.take o ++ vs ++ cs.drop (o + n)) → Only g w w' → wpList Try.prog ops Q rest (a.put op.dst undef) w') : wpList Try.prog ops Q (op :: rest) a w := by
  subst hl
  obtain ⟨_, hi⟩ := hT
  have := h _ (hb.store o vs hn h1) (Only.setCells g o vs w)
  exact wpList_store_mid hgd T x y ho g o vs.toArray hx hy (by rw [List.size_toArray]; exact hb.there o vs.length hn) (by rw [List.size_toArray]; exact hi) (all_oneCell_toArray h1) this
/-- the whole of a box -/
theorem cb_load0 {ops : Array Oper} {rest : List Oper} {op : Oper} {a : Act} {w : World} {Q : Exit → Act → World → Prop} {g n : Nat} {cs : List Value} {T : TypeId} (hT : RowT T n) (hb : CB w g cs) (hl : cs.length = n) (hgd : op.guard = none) (x : Operand) (ho : op.op = .load T x) (hx : a.eval x = .pointer (some ⟨g, 0, none⟩))
    (h : wpList Try.prog ops Q rest (a.put op.dst (.agg cs.toArray)) w) : wpList Try.prog ops Q (op :: rest) a w :=
  cb_load hT hb (by rw [List.drop_zero, ← hl, List.take_length]) hl hgd x ho hx h
theorem cb_store0 {ops : Array Oper} {rest : List Oper} {op : Oper} {a : Act} {w : World} {Q : Exit → Act → World → Prop} {g n : Nat} {cs vs : List Value} {T : TypeId} (hT : RowT T n) (hb : CB w g cs) (hlc : cs.length = n) (hgd : op.guard = none) (x y : Operand) (ho : op.op = .store T x y) (hx : a.eval x = .pointer (some ⟨g, 0, none⟩)) (hy : a.eval y = .agg vs.toArray) (hl : vs.length = n) (h1 : ∀ v ∈ vs, v.oneCell' = true)
    (h : ∀ w', CB w' g vs → Only g w w' → wpList Try.prog ops Q rest (a.put op.dst undef) w') : wpList Try.prog ops Q (op :: rest) a w :=
  cb_store hT hb hl (by omega) h1 hgd x y ho hx hy (fun w' hc ho => h w' (by rw [List.take_zero, List.nil_append, List.drop_of_length_le (by omega), List.append_nil] at hc; exact hc) ho)
theorem cb_var {w : World} {g n : Nat} {cs : List Value} {T : TypeId} (hT : RowT T n) (hb : CB w g cs) (hl : cs.length = n) : (loadVar T ⟨g, 0, none⟩).run Try.prog w = .ok (.agg cs.toArray) w := by
  obtain ⟨⟨d, hu, hd⟩, hi⟩ := hT
  have hr := hb.range 0 n
  rw [List.drop_zero, ← hl, List.take_length] at hr
  exact run_loadVar_mid w g 0 T cs d hr hu hd (by rw [hl]; exact hi)
theorem results_cb {fn : Func} {p u : Tmp} {T : TypeId} {n : Nat} (h : fn.results = #[.cell p T, .tmp u]) (tmps : Array Value) (w : World) (g : Nat) (cs : List Value) (hp : tmps.getD p undef = .pointer (some ⟨g, 0, none⟩)) (hT : RowT T n) (hb : CB w g cs) (hl : cs.length = n) :
    (results fn tmps).run Try.prog w = .ok (.tuple #[.agg cs.toArray, tmps.getD u undef]) w := by
  have hp' : tmps[p]?.getD undef = .pointer (some ⟨g, 0, none⟩) := by simpa using hp
  simp [results, h, hp', asAddr, cb_var hT hb hl, Result.andThen]
theorem results_cb3 {fn : Func} {p u v : Tmp} {T : TypeId} {n : Nat} (h : fn.results = #[.cell p T, .tmp u, .tmp v]) (tmps : Array Value) (w : World) (g : Nat) (cs : List Value) (hp : tmps.getD p undef = .pointer (some ⟨g, 0, none⟩)) (hT : RowT T n) (hb : CB w g cs) (hl : cs.length = n) :
    (results fn tmps).run Try.prog w = .ok (.tuple #[.agg cs.toArray, tmps.getD u undef, tmps.getD v undef]) w := by
  have hp' : tmps[p]?.getD undef = .pointer (some ⟨g, 0, none⟩) := by simpa using hp
  simp [results, h, hp', asAddr, cb_var hT hb hl, Result.andThen]
end Go.Proofs.Ytlppphmnegdhoab

/-
  Scripts: plain mathematics.
-/
namespace Go.Proofs.Ytlppphmnegdhoab
set_option linter.unusedVariables false
open M
namespace M

def digB (c : Nat) : Bool := decide (48 ≤ c) && decide (c ≤ 57)
def posB (c : Nat) : Bool := decide (49 ≤ c) && decide (c ≤ 57)
/-- how many digits a text begins with, n at most -/
def digs : Nat → List UInt8 → Nat
  | 0, _ => 0
  | _ + 1, [] => 0
  | n + 1, c :: t => if digB c.toNat then digs n t + 1 else 0
def betM : Option (List Mk × List UInt8) → Option (Nat × List UInt8)
  | none => none
  | some p => if (expM p.1).isSome then some (3, p.2) else none
/-- the address at the beginning of a text, and what stands behind it (0: there is none) -/
def addrM : List UInt8 → Option (Nat × List UInt8)
  | [] => some (0, [])
  | c :: r => if c.toNat = 36 then some (2, r)
    else if c.toNat = 47 then betM (uptoM r)
    else if posB c.toNat then (if 4 < digs 5 (c :: r) then none else some (1, (c :: r).drop (digs 5 (c :: r))))
    else some (0, c :: r)
def optB (p : Nat → Bool) : List UInt8 → List UInt8
  | [] => []
  | c :: r => if p c.toNat then r else c :: r
def flagsM (t : List UInt8) : Bool := (optB (· == 112) (optB (· == 103) (optB posB t))).isEmpty
/-- is a byte marked twice -/
def twice : List Mk → Bool
  | [] => false
  | k :: m => m.any (fun q => q.b == k.b) || twice m
def chgB (name : Nat) (m : List Mk) : Option (List Mk × List UInt8) → Bool
  | none => false
  | some q => if name = 115 then (expM m).isSome && flagsM q.2 else !twice m && (!m.isEmpty && (m.length == q.1.length && q.2.isEmpty))
def chgA (name : Nat) : Option (List Mk × List UInt8) → Bool
  | none => false
  | some p => chgB name p.1 (uptoM p.2)
def changeM (name : Nat) : List UInt8 → Bool
  | [] => false
  | c :: r => if c.toNat = 47 then chgA name (uptoM r) else false
def letM : List UInt8 → Bool
  | [c] => decide (97 ≤ c.toNat) && decide (c.toNat ≤ 122)
  | _ => false
def plainN : List UInt8 := [112, 100, 68, 80, 110, 78, 104, 72, 103, 71, 120, 113, 61, 123]
def askedM (kind name : Nat) (t : List UInt8) : Bool :=
  if name = 125 then decide (kind = 0) && t.isEmpty
  else if name = 58 then decide (kind = 0) && letM t
  else if name = 98 ∨ name = 116 then t.isEmpty || letM t
  else if name = 97 ∨ name = 105 ∨ name = 99 then true
  else if name = 115 ∨ name = 121 then changeM name t
  else plainN.any (fun d => d.toNat == name) && t.isEmpty
def labelled (name : Nat) : Bool := name == 58 || (name == 98 || name == 116)
def secA : Option (Nat × List UInt8) → Option (List UInt8)
  | none => none
  | some p => if p.1 = 0 then none else some p.2
/-- behind the second address -/
def secM (k : Nat) (t : List UInt8) : Option (List UInt8) := if k ≠ 0 ∧ stB t 44 = true then secA (addrM (t.drop 1)) else some t
def notM (k : Nat) (t : List UInt8) : List UInt8 := if k ≠ 0 ∧ stB t 33 = true then t.drop 1 else t
def nameM (k : Nat) : List UInt8 → Option (Nat × List UInt8)
  | [] => none
  | c :: r => if askedM k c.toNat r then some (c.toNat, if labelled c.toNat then r else []) else none
def cmdB (k : Nat) : Option (List UInt8) → Option (Nat × List UInt8)
  | none => none
  | some t => nameM k (notM k t)
def cmdA : Option (Nat × List UInt8) → Option (Nat × List UInt8)
  | none => none
  | some p => cmdB p.1 (secM p.1 p.2)
/-- a command: its name, its label -/
def cmdM (t : List UInt8) : Option (Nat × List UInt8) := cmdA (addrM t)
/-- the lines that are not empty -/
def linesM : List UInt8 → List UInt8 → List (List UInt8)
  | acc, [] => if acc = [] then [] else [acc]
  | acc, c :: t => if c.toNat = 10 then (if acc = [] then linesM [] t else acc :: linesM [] t) else linesM (acc ++ [c]) t
def cmdsM : List (List UInt8) → Option (List (Nat × List UInt8))
  | [] => some []
  | t :: l => (cmdM t).bind (fun c => (cmdsM l).map (c :: ·))
/-- the place behind the first label of that name, from 0 on -/
def labAt : List (Nat × List UInt8) → List UInt8 → Option Nat
  | [], _ => none
  | (n, l) :: t, s => if n = 58 ∧ l = s then some 1 else (labAt t s).map (· + 1)
/-- brackets: none is alone -/
def brk : List (Nat × List UInt8) → Nat → Bool
  | [], d => d == 0
  | (n, _) :: t, d => if n = 123 then brk t (d + 1) else if n = 125 then (if d = 0 then false else brk t (d - 1)) else brk t d
/-- does the bracket that was opened close -/
def clo : List (Nat × List UInt8) → Nat → Bool
  | [], _ => false
  | (n, _) :: t, d => if n = 123 then clo t (d + 1) else if n = 125 then (if d = 1 then true else clo t (d - 1)) else clo t d
def brkD : List (Nat × List UInt8) → Nat → Bool
  | [], _ => true
  | (n, _) :: t, d => if n = 123 then clo t 1 && brkD t (d + 1) else if n = 125 then (if d = 0 then false else brkD t (d - 1)) else brkD t d
theorem clo_less (l : List (Nat × List UInt8)) : ∀ d, clo l (d + 2) = true → clo l (d + 1) = true := by
  induction l with
  | nil => intro d h; cases h
  | cons x l ih =>
    obtain ⟨n, s⟩ := x
    intro d h
    rw [clo] at h ⊢
    by_cases h1 : n = 123
    · rw [if_pos h1] at h ⊢; exact ih (d + 1) h
    · rw [if_neg h1] at h ⊢
      by_cases h2 : n = 125
      · rw [if_pos h2] at h ⊢
        rw [if_neg (by omega)] at h
        cases d with
        | zero => rw [if_pos rfl]
        | succ d => rw [if_neg (by omega)]; exact ih d h
      · rw [if_neg h2] at h ⊢; exact ih d h
theorem clo_one (l : List (Nat × List UInt8)) (d : Nat) (h : clo l (d + 1) = true) : clo l 1 = true := by
  induction d with
  | zero => exact h
  | succ d ih => exact ih (clo_less l d h)
theorem brk_same (l : List (Nat × List UInt8)) : ∀ d, brk l d = (brkD l d && (d == 0 || clo l d)) := by
  induction l with
  | nil => intro d; simp [brk, brkD, clo]
  | cons x l ih =>
    obtain ⟨n, s⟩ := x
    intro d
    rw [brk, brkD, clo]
    by_cases h1 : n = 123
    · rw [if_pos h1, if_pos h1, if_pos h1, ih]
      cases hc : clo l (d + 1)
      · cases d with
        | zero => rw [hc]; simp
        | succ d => simp
      · rw [clo_one l d hc]; simp
    · rw [if_neg h1, if_neg h1, if_neg h1]
      by_cases h2 : n = 125
      · rw [if_pos h2, if_pos h2, if_pos h2]
        cases d with
        | zero => simp
        | succ d =>
          rw [if_neg (by omega), if_neg (by omega), Nat.add_sub_cancel, ih]
          cases d with
          | zero => simp
          | succ d => simp
      · rw [if_neg h2, if_neg h2, if_neg h2, ih]
/-- the labels: each that is asked for is there, none is there twice -/
def labOk (l : List (Nat × List UInt8)) : Prop := ∀ i (h : i < l.length), (l[i].1 = 58 → labAt l l[i].2 = some (i + 1)) ∧ (l[i].1 = 98 ∨ l[i].1 = 116 → l[i].2 ≠ [] → labAt l l[i].2 ≠ none)
def Linked (l : List (Nat × List UInt8)) : Prop := brk l 0 = true ∧ labOk l
/-- what Check answers -/
def CheckSpec (s : ByteArray) (n e : Int) : Prop :=
  (400 < s.size ∧ n = 0 ∧ e = 1) ∨ (s.size ≤ 400 ∧ (((∀ l, cmdsM (linesM [] s.data.toList) = some l → ¬ Linked l) ∧ n = 0 ∧ e = 2) ∨ ∃ l, cmdsM (linesM [] s.data.toList) = some l ∧ Linked l ∧ n = l.length ∧ e = 0))
theorem checkSpec_same {s : ByteArray} {n e n' e' : Int} (h : CheckSpec s n e) (g : CheckSpec s n' e') : n = n' ∧ e = e' := by
  rcases h with ⟨h1, rfl, rfl⟩ | ⟨h1, ⟨h2, rfl, rfl⟩ | ⟨l, h2, h3, rfl, rfl⟩⟩ <;> rcases g with ⟨g1, rfl, rfl⟩ | ⟨g1, ⟨g2, rfl, rfl⟩ | ⟨k, g2, g3, rfl, rfl⟩⟩
  · exact ⟨rfl, rfl⟩
  · omega
  · omega
  · omega
  · exact ⟨rfl, rfl⟩
  · exact absurd g3 (h2 k g2)
  · omega
  · exact absurd h3 (g2 l h2)
  · rw [h2] at g2
    simp only [Option.some.injEq] at g2
    subst g2
    exact ⟨rfl, rfl⟩
end M
end Go.Proofs.Ytlppphmnegdhoab

/-
  The document's scripts: letter, among, address.
-/
namespace Go.Proofs.Ytlppphmnegdhoab
set_option linter.unusedVariables false
set_option maxRecDepth 100000
open Go.RowKit
open M

theorem rtAddr : RowT 42 5 := ⟨⟨_, Try.underlying42, rfl⟩, by kernel_rfl⟩
theorem rtExp : RowT 40 3 := ⟨⟨_, Try.underlying40, rfl⟩, by kernel_rfl⟩
set_option maxRecDepth 100000 in
theorem letter_calls (s : ByteArray) (w : World) (hs : s.size ≤ 8192) :
    Calls Try.prog 26 #[.string s] w fun e w' => e = .returned (.bool (letM s.data.toList)) ∧ w' = w := by
  by_cases h1 : s.size = 1
  · have h11 : ((s.size : Int) == 1) = true := by simp [h1]
    have h12 : 0 < s.size := by omega
    have h13 : (0 : Int) < (s.size : Int) := by omega
    obtain ⟨x, hx⟩ : ∃ x : Nat, s[0].toNat = x := ⟨_, rfl⟩
    have hxc : x < 256 := by rw [← hx]; exact s[0].toNat_lt
    have HL : Hid (letM s.data.toList = (decide (97 ≤ x) && decide (x ≤ 122))) := by
      show _ = _
      have e := get_drop s 0 h12
      rw [List.drop_zero, List.drop_of_length_le (by rw [ba_len]; omega)] at e
      rw [e, ← hx]; rfl
    clear h1
    by_cases ha : 97 ≤ x
    · have ha1 : (97 : Int) ≤ (x : Int) := by omega
      by_cases hb : x ≤ 122
      · have hb1 : (x : Int) ≤ 122 := by omega
        have HF : Hid (letM s.data.toList = true) := by show _ = _; rw [HL.out, decide_eq_true ha, decide_eq_true hb]; rfl
        go_enter Try.func26, Try.ntmps26
        go_wp2
        go_ret
        exact ⟨ret_bool (by rw [HF.out]), rfl⟩
      · have hb1 : ¬ (x : Int) ≤ 122 := by omega
        have HF : Hid (letM s.data.toList = false) := by show _ = _; rw [HL.out, decide_eq_true ha, decide_eq_false hb]; rfl
        go_enter Try.func26, Try.ntmps26
        go_wp2
        go_ret
        exact ⟨ret_bool (by rw [HF.out]), rfl⟩
    · have ha1 : ¬ (97 : Int) ≤ (x : Int) := by omega
      have HF : Hid (letM s.data.toList = false) := by show _ = _; rw [HL.out, decide_eq_false ha]; rfl
      go_enter Try.func26, Try.ntmps26
      go_wp2
      go_ret
      exact ⟨ret_bool (by rw [HF.out]), rfl⟩
  · have h11 : ((s.size : Int) == 1) = false := by simp; omega
    have HF : Hid (letM s.data.toList = false) := by
      show _ = _
      have hl := ba_len s
      match hd : s.data.toList with
      | [] => rfl
      | [c] => rw [hd] at hl; simp at hl; omega
      | c :: d :: t => rfl
    clear h1
    go_enter Try.func26, Try.ntmps26
    go_wp2
    go_ret
    exact ⟨ret_bool (by rw [HF.out]), rfl⟩
set_option maxRecDepth 100000 in
theorem damong_calls (c : Nat) (s : ByteArray) (w : World) (hs : s.size ≤ maxLen) (hcc : c < 256) :
    Calls Try.prog 28 #[.int .u8 c, .string s] w fun e w' => e = .returned (.bool (inB c s.data.toList)) ∧ w' = w := by
  unfold maxLen at hs
  go_enter Try.func28, Try.ntmps28
  go_wp2
  go_loop [5] (fun i => ∃ k : Nat, k ≤ s.size ∧ i = .int .i64 k ∧ Hid (inB c s.data.toList = inB c (s.data.toList.drop k))) (fun i => s.size - (intOf i).toNat)
  case atStart => exact ⟨0, Nat.zero_le _, rfl, by show _ = _; rfl⟩
  case round =>
    obtain ⟨k, hk, rfl, H⟩ := hrel
    by_cases hlt : k < s.size
    · have hlt1 : (k : Int) < (s.size : Int) := by omega
      obtain ⟨x, hx⟩ : ∃ x : Nat, s[k].toNat = x := ⟨_, rfl⟩
      have hc : x < 256 := by rw [← hx]; exact s[k].toNat_lt
      have HQ : Hid (inB c s.data.toList = ((x == c) || inB c (s.data.toList.drop (k + 1)))) := by
        show _ = _
        rw [H.out, get_drop s k hlt, ← hx]
        rfl
      clear H
      by_cases h10 : x = c
      · have HB : Hid (inB c s.data.toList = true) := by show _ = _; rw [HQ.out, h10]; simp
        have h1 : ((x : Int) == (c : Int)) = true := by simp [h10]
        clear h10
        go_wp2
        go_ret
        exact ⟨ret_bool (by rw [HB.out]), rfl⟩
      · have h1 : ((x : Int) == (c : Int)) = false := by simp; omega
        have HB : Hid (inB c s.data.toList = inB c (s.data.toList.drop (k + 1))) := by
          have e : (x == c) = false := by simpa using h10
          show _ = _
          rw [HQ.out, e, Bool.false_or]
        clear HQ h10
        go_wp2
        go_round
        case rel => exact ⟨k + 1, by omega, by go_num, HB.out⟩
        case measure => simp [intOf]; omega
    · obtain rfl : k = s.size := by omega
      have HB : Hid (inB c s.data.toList = false) := by
        show _ = _
        rw [H.out, List.drop_of_length_le (by rw [ba_len]; omega)]; rfl
      clear H
      go_wp2
      go_ret
      exact ⟨ret_bool (by rw [HB.out]), rfl⟩
theorem own_cap0 {w : World} {base : Nat} {e : TypeId} {size : Nat} {a : Option Addr} {n c : Nat} {xs : List Value} (h : w.ownsRow base e size (.slice a n c) n xs) : n ≤ c := by
  rcases h.2 with ⟨_, h0⟩ | ⟨g, cap, cur, hv, _, _, h1, _⟩
  · omega
  · simp at hv; omega
/-- what 'address' answers -/
def AddrPost (s : ByteArray) (p : Nat) (w w' : World) (e : Ending) : Prop :=
  Below w.heap.size w w' ∧ ∃ vs : List Value, vs.length = 5 ∧ (∀ v ∈ vs, v.oneCell' = true) ∧
    ((addrM (s.data.toList.drop p) = none ∧ e = .returned (.tuple #[.agg vs.toArray, .int .i64 (-1)])) ∨
     ∃ k q : Nat, addrM (s.data.toList.drop p) = some (k, s.data.toList.drop q) ∧ p ≤ q ∧ q ≤ s.size ∧ k ≤ 3 ∧ vs[0]? = some (.int .i64 k) ∧ e = .returned (.tuple #[.agg vs.toArray, .int .i64 q]))
end Go.Proofs.Ytlppphmnegdhoab

/-
  The document's scripts: address.
-/
namespace Go.Proofs.Ytlppphmnegdhoab
set_option linter.unusedVariables false
set_option maxRecDepth 100000
open Go.RowKit
open M

set_option maxRecDepth 100000 in
set_option maxHeartbeats 2000000 in
theorem address_calls (s : ByteArray) (p : Nat) (w : World) (hs : s.size ≤ 400) (hp : p ≤ s.size) :
    Calls Try.prog 16 #[.string s, .int .i64 p] w fun e w' => AddrPost s p w w' e := by
  have hb0 : CB (w.alloc (.cells #[.int .i64 0, .int .i64 0, .bool false, .bool false, .slice none 0 0] 42)) w.heap.size [.int .i64 0, .int .i64 0, .bool false, .bool false, .slice none 0 0] := CB.new w _ _ (by simp [Value.oneCell'])
  have B0 : Below w.heap.size w (w.alloc (.cells #[.int .i64 0, .int .i64 0, .bool false, .bool false, .slice none 0 0] 42)) := (Below.refl _ _).alloc (Nat.le_refl _) _
  by_cases hlt : p < s.size
  · have hlt1 : ¬ (s.size : Int) ≤ (p : Int) := by omega
    have hlt2 : (p : Int) < (s.size : Int) := by omega
    obtain ⟨x, hx⟩ : ∃ x : Nat, s[p].toNat = x := ⟨_, rfl⟩
    have hxc : x < 256 := by rw [← hx]; exact s[p].toNat_lt
    have HG : Hid (s.data.toList.drop p = s[p] :: s.data.toList.drop (p + 1)) := get_drop s p hlt
    have HX : Hid (s[p].toNat = x) := hx
    by_cases h36 : x = 36
    · have HA : Hid (addrM (s.data.toList.drop p) = some (2, s.data.toList.drop (p + 1))) := by
        show _ = _
        rw [HG.out, addrM, if_pos (by rw [hx]; exact h36)]
      have hc1 : ((x : Int) == 36) = true := by simp [h36]
      clear h36
      go_enter Try.func16, Try.ntmps16
      go_wp2_with (refine cb_store0 rtAddr hb0 rfl rfl _ _ rfl rfl rfl rfl (by simp [Value.oneCell']) ?_; intro w5 hb5 O5)
      refine bodyPost_ret (results_cb rfl _ _ _ _ rfl rtAddr hb5 rfl) rfl ?_
      exact ⟨B0.trans (O5.below (Nat.le_refl _)), _, rfl, by simp [Value.oneCell'], .inr ⟨2, p + 1, HA.out, by omega, by omega, by omega, rfl, rfl⟩⟩
    have hc1 : ((x : Int) == 36) = false := by simp; omega
    by_cases h47 : x = 47
    · have HA : Hid (addrM (s.data.toList.drop p) = betM (uptoM (s.data.toList.drop (p + 1)))) := by
        show _ = _
        rw [HG.out, addrM, if_neg (by rw [hx]; exact h36), if_pos (by rw [hx]; exact h47)]
      have hc2 : ((x : Int) == 47) = true := by simp [h47]
      clear h36 h47
      go_enter Try.func16, Try.ntmps16
      go_wp2_with fail
      generalize w.alloc (.cells #[.int .i64 0, .int .i64 0, .bool false, .bool false, .slice none 0 0] 42) = W at *
      have HC := upto_calls s (p + 1) W (by omega) (by omega)
      rw [show ((p + 1 : Nat) : Int) = (p : Int) + 1 from rfl] at HC
      refine HC.mono ?_
      clear HC
      rintro e w1 ⟨b1, ⟨hno, rfl⟩ | ⟨l, q, a, c, hsome, hq0, hq1, hlq, rfl, hown⟩⟩
      · have HA2 : Hid (addrM (s.data.toList.drop p) = none) := by show _ = _; rw [HA.out, hno]; rfl
        clear hno HA
        have hb1 := hb0.below b1 hb0.lt
        have B1 := B0.trans (b1.mono B0.size)
        clear hb0 B0 b1
        go_wp2_with fail
        refine (expression_calls 0 0 none [] w1 ⟨rfl, .inl rfl⟩ (by simp) (Nat.le_refl _)).mono ?_
        rintro e w2 ⟨hd, tl, a2, n2, c2, b2, hor⟩
        have hb2 := hb1.below b2 hb1.lt
        have B2 := B1.trans (b2.mono B1.size)
        have hsz := hb2.lt
        have hb3 : CB (w2.alloc (.cells #[.bool false, .bool false, .slice none 0 0] 40)) w2.heap.size [.bool false, .bool false, .slice none 0 0] := CB.new w2 _ _ (by simp [Value.oneCell'])
        have hb4 : CB (w2.alloc (.cells #[.bool false, .bool false, .slice none 0 0] 40)) w.heap.size [.int .i64 0, .int .i64 0, .bool false, .bool false, .slice none 0 0] := hb2.below ((Below.refl _ _).alloc (Nat.le_refl _) _) hsz
        have B3 := B2.alloc (o := .cells #[.bool false, .bool false, .slice none 0 0] 40) (by omega)
        generalize hW3 : w2.alloc (.cells #[.bool false, .bool false, .slice none 0 0] 40) = W3 at *
        rcases hor with ⟨_, rfl⟩ | ⟨L, hex, _⟩
        · go_wp2_with (first
            | (refine cb_store0 rtExp hb3 rfl rfl _ _ rfl rfl rfl rfl (by simp [Value.oneCell']) ?_; intro w5 hb5 O5; have hb6 := hb4.keep (O5.block _ (by omega)) (by rw [O5.size]; exact Nat.le_refl _))
            | (refine cb_store0 rtAddr hb6 rfl rfl _ _ rfl rfl rfl rfl (by simp [Value.oneCell']) ?_; intro w7 hb7 O7))
          refine bodyPost_ret (results_cb rfl _ _ _ _ rfl rtAddr hb7 rfl) rfl ?_
          exact ⟨(B3.trans (O5.below (by omega))).trans (O7.below (Nat.le_refl _)), _, rfl, by simp [Value.oneCell'], .inl ⟨HA2.out, rfl⟩⟩
        · cases hex
      · have HA2 : Hid (addrM (s.data.toList.drop p) = if (expM l).isSome then some (3, s.data.toList.drop q) else none) := by show _ = _; rw [HA.out, hsome]; rfl
        clear hsome HA
        have hb1 := hb0.below b1 hb0.lt
        have B1 := B0.trans (b1.mono B0.size)
        clear hb0 B0 b1
        have hcap := own_cap0 hown
        have hmk := marksAt_own hown
        clear hown
        go_wp2_with fail
        refine (expression_calls _ _ _ l w1 hmk (by omega) hcap).mono ?_
        rintro e w2 ⟨hd, tl, a2, n2, c2, b2, hor⟩
        have hb2 := hb1.below b2 hb1.lt
        have B2 := B1.trans (b2.mono B1.size)
        have hsz := hb2.lt
        have hb3 : CB (w2.alloc (.cells #[.bool false, .bool false, .slice none 0 0] 40)) w2.heap.size [.bool false, .bool false, .slice none 0 0] := CB.new w2 _ _ (by simp [Value.oneCell'])
        have hb4 : CB (w2.alloc (.cells #[.bool false, .bool false, .slice none 0 0] 40)) w.heap.size [.int .i64 0, .int .i64 0, .bool false, .bool false, .slice none 0 0] := hb2.below ((Below.refl _ _).alloc (Nat.le_refl _) _) hsz
        have B3 := B2.alloc (o := .cells #[.bool false, .bool false, .slice none 0 0] 40) (by omega)
        generalize hW3 : w2.alloc (.cells #[.bool false, .bool false, .slice none 0 0] 40) = W3 at *
        have hq2 : ¬ (q : Int) < 0 := by omega
        rcases hor with ⟨hex, rfl⟩ | ⟨L, hex, rfl, rfl, -, -, -⟩
        · have HA3 : Hid (addrM (s.data.toList.drop p) = none) := by show _ = _; rw [HA2.out, hex]; rfl
          clear hex HA2
          go_wp2_with (first
            | (refine cb_store0 rtExp hb3 rfl rfl _ _ rfl rfl rfl rfl (by simp [Value.oneCell']) ?_; intro w5 hb5 O5; have hb6 := hb4.keep (O5.block _ (by omega)) (by rw [O5.size]; exact Nat.le_refl _))
            | (refine cb_store0 rtAddr hb6 rfl rfl _ _ rfl rfl rfl rfl (by simp [Value.oneCell']) ?_; intro w7 hb7 O7))
          refine bodyPost_ret (results_cb rfl _ _ _ _ rfl rtAddr hb7 rfl) rfl ?_
          exact ⟨(B3.trans (O5.below (by omega))).trans (O7.below (Nat.le_refl _)), _, rfl, by simp [Value.oneCell'], .inl ⟨HA3.out, rfl⟩⟩
        · have HA3 : Hid (addrM (s.data.toList.drop p) = some (3, s.data.toList.drop q)) := by show _ = _; rw [HA2.out, hex]; rfl
          clear hex HA2
          go_wp2_with (first
            | (refine cb_store0 rtExp hb3 rfl rfl _ _ rfl rfl rfl rfl (by simp [Value.oneCell']) ?_; intro w5 hb5 O5; have hb6 := hb4.keep (O5.block _ (by omega)) (by rw [O5.size]; exact Nat.le_refl _))
            | refine cb_load0 rtExp hb5 rfl rfl _ rfl rfl ?_
            | (refine cb_store0 rtAddr hb6 rfl rfl _ _ rfl rfl rfl rfl (by simp [Value.oneCell']) ?_; intro w7 hb7 O7))
          refine bodyPost_ret (results_cb rfl _ _ _ _ rfl rtAddr hb7 rfl) rfl ?_
          exact ⟨(B3.trans (O5.below (by omega))).trans (O7.below (Nat.le_refl _)), _, rfl, by simp [Value.oneCell'], .inr ⟨3, q, HA3.out, by omega, hq1, by omega, rfl, rfl⟩⟩
    have hc2 : ((x : Int) == 47) = false := by simp; omega
    by_cases hpos : posB x = true
    · have hr : 49 ≤ x ∧ x ≤ 57 := by simpa [posB] using hpos
      have HA : Hid (addrM (s.data.toList.drop p) = if 4 < digs 5 (s.data.toList.drop p) then none else some (1, (s.data.toList.drop p).drop (digs 5 (s.data.toList.drop p)))) := by
        show _ = _
        rw [HG.out, addrM, if_neg (by rw [hx]; exact h36), if_neg (by rw [hx]; exact h47), hx, hpos]; rfl
      have hc3 : (49 : Int) ≤ (x : Int) := by omega
      have hc4 : (x : Int) ≤ 57 := by omega
      clear h36 h47 hpos
      go_enter Try.func16, Try.ntmps16
      go_wp2_with fail
      go_loop [1, 10, 11] (fun v1 v10 v11 => ∃ k n : Nat, k ≤ 5 ∧ p + k ≤ s.size ∧ v1 = .int .i64 ((p + k : Nat) : Int) ∧ v10 = .int .i64 n ∧ n + 1 ≤ 10 ^ k ∧ v11 = .int .i64 k ∧ Hid (digs 5 (s.data.toList.drop p) = k + digs (5 - k) (s.data.toList.drop (p + k)))) (fun v1 _ _ => s.size - (intOf v1).toNat)
      case atStart => exact ⟨0, 0, by omega, by omega, rfl, rfl, by simp, rfl, by show _ = _; simp⟩
      case round =>
        obtain ⟨k, n, hk5, hpk, rfl, rfl, hn, rfl, HD⟩ := hrel
        have hn5 : n + 1 ≤ 100000 := Nat.le_trans hn (Nat.pow_le_pow_right (by decide) hk5)
        obtain ⟨q, hq⟩ : ∃ q, p + k = q := ⟨_, rfl⟩
        rw [hq] at hpk HD ⊢
        have HQ : Hid (p + k = q) := hq
        clear hq
        by_cases hql : q < s.size
        · have hql1 : (q : Int) < (s.size : Int) := by omega
          obtain ⟨y, hy⟩ : ∃ y : Nat, s[q].toNat = y := ⟨_, rfl⟩
          have hyc : y < 256 := by rw [← hy]; exact s[q].toNat_lt
          have HG2 : Hid (s.data.toList.drop q = s[q] :: s.data.toList.drop (q + 1)) := get_drop s q hql
          have HY : Hid (s[q].toNat = y) := hy
          by_cases hd : digB y = true
          · have hr2 : 48 ≤ y ∧ y ≤ 57 := by simpa [digB] using hd
            have hd1 : (48 : Int) ≤ (y : Int) := by omega
            have hd2 : (y : Int) ≤ 57 := by omega
            by_cases hk4 : k < 5
            · have hk41 : (k : Int) < 5 := by omega
              have HD2 : Hid (digs 5 (s.data.toList.drop p) = (k + 1) + digs (5 - (k + 1)) (s.data.toList.drop (q + 1))) := by
                show _ = _
                obtain ⟨m, hm⟩ : ∃ m, 5 - k = m + 1 := ⟨4 - k, by omega⟩
                rw [HD.out, HG2.out, hm, digs, HY.out, hd, if_pos rfl, show 5 - (k + 1) = m by omega]
                omega
              have HN2 : Hid (10 * n + (y - 48) + 1 ≤ 10 ^ (k + 1)) := by show _ ≤ _; rw [Nat.pow_succ]; omega
              have hm1 : ((y - 48 : Nat) : Int) = (y : Int) - 48 := by omega
              clear hd HD hn hr2
              go_wp2
              go_round
              case rel =>
                refine ⟨k + 1, 10 * n + (y - 48), by omega, by have := HQ.out; omega, by rw [← Nat.add_assoc, HQ.out]; go_num, ?_, HN2.out, by go_num, by rw [← Nat.add_assoc, HQ.out]; exact HD2.out⟩
                first | go_num | (congr 1; simp; omega) | (simp; omega)
              case measure => first | (simp [intOf]; done) | (simp [intOf]; omega)
            · obtain rfl : k = 5 := by omega
              have HA2 : Hid (addrM (s.data.toList.drop p) = none) := by
                show _ = _
                rw [HA.out, if_pos (by rw [HD.out]; omega)]
              clear HD HA hd
              go_wp2_with (refine cb_store0 rtAddr hb0 rfl rfl _ _ rfl rfl rfl rfl (by simp [Value.oneCell']) ?_; intro w5 hb5 O5)
              refine bodyPost_ret (results_cb rfl _ _ _ _ rfl rtAddr hb5 rfl) rfl ?_
              exact ⟨B0.trans (O5.below (Nat.le_refl _)), _, rfl, by simp [Value.oneCell'], .inl ⟨HA2.out, rfl⟩⟩
          · have HD2 : Hid (digs 5 (s.data.toList.drop p) = k) := by
              show _ = _
              rw [HD.out, HG2.out]
              cases h9 : 5 - k with
              | zero => rfl
              | succ m => rw [digs, HY.out, if_neg hd]; rfl
            clear HD
            have HF : Hid (¬ (48 ≤ y ∧ y ≤ 57)) := fun h => hd (by simpa [digB] using h)
            clear hd
            by_cases h48 : 48 ≤ y
            · have h481 : (48 : Int) ≤ (y : Int) := by omega
              have h571 : ¬ (y : Int) ≤ 57 := fun h => HF.out (by omega)
              by_cases hk4 : 4 < k
              · have hk41 : (4 : Int) < (k : Int) := by omega
                have HA2 : Hid (addrM (s.data.toList.drop p) = none) := by
                  show _ = _
                  rw [HA.out, HD2.out, if_pos hk4]
                clear HD2 HA
                go_wp2_with (refine cb_store0 rtAddr hb0 rfl rfl _ _ rfl rfl rfl rfl (by simp [Value.oneCell']) ?_; intro w5 hb5 O5)
                refine bodyPost_ret (results_cb rfl _ _ _ _ rfl rtAddr hb5 rfl) rfl ?_
                exact ⟨B0.trans (O5.below (Nat.le_refl _)), _, rfl, by simp [Value.oneCell'], .inl ⟨HA2.out, rfl⟩⟩
              · have hk41 : ¬ (4 : Int) < (k : Int) := by omega
                have HA2 : Hid (addrM (s.data.toList.drop p) = some (1, s.data.toList.drop q)) := by
                  show _ = _
                  rw [HA.out, HD2.out, if_neg hk4, List.drop_drop, HQ.out]
                clear HD2 HA
                go_wp2_with (refine cb_store0 rtAddr hb0 rfl rfl _ _ rfl rfl rfl rfl (by simp [Value.oneCell']) ?_; intro w5 hb5 O5)
                refine bodyPost_ret (results_cb rfl _ _ _ _ rfl rtAddr hb5 rfl) rfl ?_
                exact ⟨B0.trans (O5.below (Nat.le_refl _)), _, rfl, by simp [Value.oneCell'], .inr ⟨1, q, HA2.out, by have := HQ.out; omega, by omega, by omega, rfl, rfl⟩⟩
            · have h481 : ¬ (48 : Int) ≤ (y : Int) := by omega
              by_cases hk4 : 4 < k
              · have hk41 : (4 : Int) < (k : Int) := by omega
                have HA2 : Hid (addrM (s.data.toList.drop p) = none) := by
                  show _ = _
                  rw [HA.out, HD2.out, if_pos hk4]
                clear HD2 HA
                go_wp2_with (refine cb_store0 rtAddr hb0 rfl rfl _ _ rfl rfl rfl rfl (by simp [Value.oneCell']) ?_; intro w5 hb5 O5)
                refine bodyPost_ret (results_cb rfl _ _ _ _ rfl rtAddr hb5 rfl) rfl ?_
                exact ⟨B0.trans (O5.below (Nat.le_refl _)), _, rfl, by simp [Value.oneCell'], .inl ⟨HA2.out, rfl⟩⟩
              · have hk41 : ¬ (4 : Int) < (k : Int) := by omega
                have HA2 : Hid (addrM (s.data.toList.drop p) = some (1, s.data.toList.drop q)) := by
                  show _ = _
                  rw [HA.out, HD2.out, if_neg hk4, List.drop_drop, HQ.out]
                clear HD2 HA
                go_wp2_with (refine cb_store0 rtAddr hb0 rfl rfl _ _ rfl rfl rfl rfl (by simp [Value.oneCell']) ?_; intro w5 hb5 O5)
                refine bodyPost_ret (results_cb rfl _ _ _ _ rfl rtAddr hb5 rfl) rfl ?_
                exact ⟨B0.trans (O5.below (Nat.le_refl _)), _, rfl, by simp [Value.oneCell'], .inr ⟨1, q, HA2.out, by have := HQ.out; omega, by omega, by omega, rfl, rfl⟩⟩
        · have HD2 : Hid (digs 5 (s.data.toList.drop p) = k) := by
            show _ = _
            rw [HD.out, List.drop_of_length_le (by rw [ba_len]; omega)]
            cases h9 : 5 - k with
            | zero => rfl
            | succ m => rfl
          have hql1 : ¬ (q : Int) < (s.size : Int) := by omega
          clear HD
          by_cases hk4 : 4 < k
          · have hk41 : (4 : Int) < (k : Int) := by omega
            have HA2 : Hid (addrM (s.data.toList.drop p) = none) := by
              show _ = _
              rw [HA.out, HD2.out, if_pos hk4]
            clear HD2 HA
            go_wp2_with (refine cb_store0 rtAddr hb0 rfl rfl _ _ rfl rfl rfl rfl (by simp [Value.oneCell']) ?_; intro w5 hb5 O5)
            refine bodyPost_ret (results_cb rfl _ _ _ _ rfl rtAddr hb5 rfl) rfl ?_
            exact ⟨B0.trans (O5.below (Nat.le_refl _)), _, rfl, by simp [Value.oneCell'], .inl ⟨HA2.out, rfl⟩⟩
          · have hk41 : ¬ (4 : Int) < (k : Int) := by omega
            have HA2 : Hid (addrM (s.data.toList.drop p) = some (1, s.data.toList.drop q)) := by
              show _ = _
              rw [HA.out, HD2.out, if_neg hk4, List.drop_drop, HQ.out]
            clear HD2 HA
            go_wp2_with (refine cb_store0 rtAddr hb0 rfl rfl _ _ rfl rfl rfl rfl (by simp [Value.oneCell']) ?_; intro w5 hb5 O5)
            refine bodyPost_ret (results_cb rfl _ _ _ _ rfl rtAddr hb5 rfl) rfl ?_
            exact ⟨B0.trans (O5.below (Nat.le_refl _)), _, rfl, by simp [Value.oneCell'], .inr ⟨1, q, HA2.out, by have := HQ.out; omega, by omega, by omega, rfl, rfl⟩⟩
    · have HA : Hid (addrM (s.data.toList.drop p) = some (0, s.data.toList.drop p)) := by
        show _ = _
        rw [HG.out, addrM, if_neg (by rw [hx]; exact h36), if_neg (by rw [hx]; exact h47), hx, if_neg hpos]
      have HF : Hid (¬ (49 ≤ x ∧ x ≤ 57)) := fun h => hpos (by simpa [posB] using h)
      clear hpos h36 h47
      by_cases h49 : 49 ≤ x
      · have h491 : (49 : Int) ≤ (x : Int) := by omega
        have h57 : ¬ (x : Int) ≤ 57 := fun h => HF.out (by omega)
        go_enter Try.func16, Try.ntmps16
        go_wp2_with (refine cb_store0 rtAddr hb0 rfl rfl _ _ rfl rfl rfl rfl (by simp [Value.oneCell']) ?_; intro w5 hb5 O5)
        refine bodyPost_ret (results_cb rfl _ _ _ _ rfl rtAddr hb5 rfl) rfl ?_
        exact ⟨B0.trans (O5.below (Nat.le_refl _)), _, rfl, by simp [Value.oneCell'], .inr ⟨0, p, HA.out, Nat.le_refl _, hp, by omega, rfl, rfl⟩⟩
      · have h491 : ¬ (49 : Int) ≤ (x : Int) := by omega
        go_enter Try.func16, Try.ntmps16
        go_wp2_with (refine cb_store0 rtAddr hb0 rfl rfl _ _ rfl rfl rfl rfl (by simp [Value.oneCell']) ?_; intro w5 hb5 O5)
        refine bodyPost_ret (results_cb rfl _ _ _ _ rfl rtAddr hb5 rfl) rfl ?_
        exact ⟨B0.trans (O5.below (Nat.le_refl _)), _, rfl, by simp [Value.oneCell'], .inr ⟨0, p, HA.out, Nat.le_refl _, hp, by omega, rfl, rfl⟩⟩
  · have hlt1 : (s.size : Int) ≤ (p : Int) := by omega
    have HA : Hid (addrM (s.data.toList.drop p) = some (0, s.data.toList.drop p)) := by show _ = _; rw [List.drop_of_length_le (by rw [ba_len]; omega)]; rfl
    go_enter Try.func16, Try.ntmps16
    go_wp2_with (refine cb_store0 rtAddr hb0 rfl rfl _ _ rfl rfl rfl rfl (by simp [Value.oneCell']) ?_; intro w5 hb5 O5)
    refine bodyPost_ret (results_cb rfl _ _ _ _ rfl rtAddr hb5 rfl) rfl ?_
    exact ⟨B0.trans (O5.below (Nat.le_refl _)), _, rfl, by simp [Value.oneCell'], .inr ⟨0, p, HA.out, Nat.le_refl _, hp, by omega, rfl, rfl⟩⟩
end Go.Proofs.Ytlppphmnegdhoab
