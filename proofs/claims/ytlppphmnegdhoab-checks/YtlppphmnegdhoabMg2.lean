import Derived.Test.YtlppphmnegdhoabMg1
import Derived.Deep.QuietTactic
import Derived.BigQuiet
import Derived.Lib.Strings
import Derived.Laws.BytesArg
import Derived.Deep.RegionHeld3
import Derived.Deep.DrawnRows
/-
  Joining, place by place: plain mathematics.
-/
namespace Go.Proofs.Ytlppphmnegdhoab
set_option linter.unusedVariables false
namespace M

def joinE : List Ev → List Ev → List Ev
  | .r c :: es, fs => .r c :: joinE es fs
  | es, .d :: fs => .d :: joinE es fs
  | .k :: es, .k :: fs => .k :: joinE es fs
  | .k :: es, .r c :: fs => .r c :: joinE es fs
  | .d :: es, .k :: fs => .d :: joinE es fs
  | .d :: es, .r _ :: fs => joinE es fs
  | .k :: es, [] => joinE es []
  | .d :: es, [] => joinE es []
  | [], .k :: fs => joinE [] fs
  | [], .r _ :: fs => joinE [] fs
  | [], [] => []
termination_by es fs => es.length + fs.length

@[simp] theorem j_r (c : UInt8) (es fs) : joinE (.r c :: es) fs = .r c :: joinE es fs := by
  cases fs with
  | nil => rw [joinE]
  | cons e fs => cases e <;> rw [joinE]
@[simp] theorem j_kd (es fs) : joinE (.k :: es) (.d :: fs) = .d :: joinE (.k :: es) fs := by rw [joinE]; simp
@[simp] theorem j_dd (es fs) : joinE (.d :: es) (.d :: fs) = .d :: joinE (.d :: es) fs := by rw [joinE]; simp
@[simp] theorem j_nd (fs) : joinE [] (.d :: fs) = .d :: joinE [] fs := by rw [joinE]; simp
@[simp] theorem j_kk (es fs) : joinE (.k :: es) (.k :: fs) = .k :: joinE es fs := by rw [joinE]
@[simp] theorem j_kr (es c fs) : joinE (.k :: es) (.r c :: fs) = .r c :: joinE es fs := by rw [joinE]
@[simp] theorem j_dk (es fs) : joinE (.d :: es) (.k :: fs) = .d :: joinE es fs := by rw [joinE]
@[simp] theorem j_dr (es c fs) : joinE (.d :: es) (.r c :: fs) = joinE es fs := by rw [joinE]
@[simp] theorem j_kn (es) : joinE (.k :: es) [] = joinE es [] := by rw [joinE]
@[simp] theorem j_dn (es) : joinE (.d :: es) [] = joinE es [] := by rw [joinE]
@[simp] theorem j_nk (fs) : joinE [] (.k :: fs) = joinE [] fs := by rw [joinE]
@[simp] theorem j_nr (c fs) : joinE [] (.r c :: fs) = joinE [] fs := by rw [joinE]
@[simp] theorem j_nn : joinE [] [] = [] := by rw [joinE]

theorem j_d (es : List Ev) : ∀ fs, Eqv (joinE es (.d :: fs)) (.d :: joinE es fs) := by
  induction es with
  | nil => intro fs; rw [j_nd]; exact .refl _
  | cons e es ih =>
    intro fs
    cases e with
    | k => rw [j_kd]; exact .refl _
    | d => rw [j_dd]; exact .refl _
    | r c => rw [j_r, j_r]; exact .trans (.cons _ (ih fs)) (.symm (.swap c _))

theorem j_congL {x y : List Ev} (h : Eqv x y) : ∀ fs, Eqv (joinE x fs) (joinE y fs) := by
  induction h with
  | refl x => intro fs; exact .refl _
  | symm _ ih => intro fs; exact .symm (ih fs)
  | trans _ _ ih1 ih2 => intro fs; exact .trans (ih1 fs) (ih2 fs)
  | cons e _ ih =>
    intro fs
    cases e with
    | r c => rw [j_r, j_r]; exact .cons _ (ih fs)
    | k =>
      induction fs with
      | nil => rw [j_kn, j_kn]; exact ih []
      | cons f fs jh =>
        cases f with
        | k => rw [j_kk, j_kk]; exact .cons _ (ih fs)
        | d => rw [j_kd, j_kd]; exact .cons _ jh
        | r c => rw [j_kr, j_kr]; exact .cons _ (ih fs)
    | d =>
      induction fs with
      | nil => rw [j_dn, j_dn]; exact ih []
      | cons f fs jh =>
        cases f with
        | k => rw [j_dk, j_dk]; exact .cons _ (ih fs)
        | d => rw [j_dd, j_dd]; exact .cons _ jh
        | r c => rw [j_dr, j_dr]; exact ih fs
  | swap c x =>
    intro fs
    rw [j_r]
    induction fs with
    | nil => rw [j_dn, j_dn, j_r]; exact .refl _
    | cons f fs jh =>
      cases f with
      | k => rw [j_dk, j_dk, j_r]; exact .swap c _
      | d => rw [j_dd, j_dd]; exact .trans (.cons _ jh) (.swap c _)
      | r e => rw [j_dr, j_dr, j_r]; exact .refl _

theorem j_congR : ∀ (es : List Ev) {x y : List Ev}, Eqv x y → Eqv (joinE es x) (joinE es y)
  | .r c :: es, x, y, h => by rw [j_r, j_r]; exact .cons _ (j_congR es h)
  | [], x, y, h => by
    induction h with
    | refl x => exact .refl _
    | symm _ ih => exact .symm ih
    | trans _ _ ih1 ih2 => exact .trans ih1 ih2
    | swap c x => simp; exact .refl _
    | cons e _ ih => cases e <;> simp <;> first | exact ih | exact .cons _ ih
  | .k :: es, x, y, h => by
    induction h with
    | refl x => exact .refl _
    | symm _ ih => exact .symm ih
    | trans _ _ ih1 ih2 => exact .trans ih1 ih2
    | swap c x =>
      rw [j_kd, j_kr, j_kr]
      exact .trans (.swap c _) (.cons _ (.symm (j_d es x)))
    | cons e g ih =>
      cases e with
      | k => rw [j_kk, j_kk]; exact .cons _ (j_congR es g)
      | d => rw [j_kd, j_kd]; exact .cons _ ih
      | r c => rw [j_kr, j_kr]; exact .cons _ (j_congR es g)
  | .d :: es, x, y, h => by
    induction h with
    | refl x => exact .refl _
    | symm _ ih => exact .symm ih
    | trans _ _ ih1 ih2 => exact .trans ih1 ih2
    | swap c x =>
      rw [j_dd, j_dr, j_dr]
      exact .symm (j_d es x)
    | cons e g ih =>
      cases e with
      | k => rw [j_dk, j_dk]; exact .cons _ (j_congR es g)
      | d => rw [j_dd, j_dd]; exact .cons _ ih
      | r c => rw [j_dr, j_dr]; exact j_congR es g

theorem j_len : ∀ (es fs : List Ev), evB es = evA fs → evA (joinE es fs) = evA es ∧ evB (joinE es fs) = evB fs
  | .r c :: es, fs, h => by
    have := j_len es fs (by simpa [evB] using h)
    rw [j_r]; simp [evA, evB, this]
  | .k :: es, .d :: fs, h => by
    have := j_len (.k :: es) fs (by simpa [evA] using h)
    rw [j_kd]; simp only [evA, evB] at this ⊢; omega
  | .d :: es, .d :: fs, h => by
    have := j_len (.d :: es) fs (by simpa [evA] using h)
    rw [j_dd]; simp only [evA, evB] at this ⊢; omega
  | [], .d :: fs, h => by
    have := j_len [] fs (by simpa [evA] using h)
    rw [j_nd]; simp only [evA, evB] at this ⊢; omega
  | .k :: es, .k :: fs, h => by
    have := j_len es fs (by simp only [evA, evB] at h; omega)
    rw [j_kk]; simp only [evA, evB]; omega
  | .k :: es, .r c :: fs, h => by
    have := j_len es fs (by simp only [evA, evB] at h; omega)
    rw [j_kr]; simp only [evA, evB]; omega
  | .d :: es, .k :: fs, h => by
    have := j_len es fs (by simp only [evA, evB] at h; omega)
    rw [j_dk]; simp only [evA, evB]; omega
  | .d :: es, .r c :: fs, h => by
    have := j_len es fs (by simp only [evA, evB] at h; omega)
    rw [j_dr]; simp only [evA, evB]; omega
  | .k :: es, [], h => by simp [evA, evB] at h
  | .d :: es, [], h => by simp [evA, evB] at h
  | [], .k :: fs, h => by simp [evA, evB] at h
  | [], .r c :: fs, h => by simp [evA, evB] at h
  | [], [], h => by simp [evA, evB]
termination_by es fs => es.length + fs.length

theorem j_nil (z : List Ev) : evA z = 0 → joinE [] z = z := by
  induction z with
  | nil => intro h; rw [j_nn]
  | cons e z ih => intro h; cases e <;> simp [evA] at h; rw [j_nd, ih h]

theorem j_assoc : ∀ (x y z : List Ev), evB x = evA y → evB y = evA z → joinE (joinE x y) z = joinE x (joinE y z)
  | .r c :: x, y, z, h, g => by
    have := j_assoc x y z (by simpa [evB] using h) g
    simp [this]
  | [], [], z, h, g => by simp [evB] at g; rw [j_nn, j_nil z g.symm, j_nil z g.symm]
  | .k :: x, [], z, h, g => by simp [evA, evB] at h
  | .d :: x, [], z, h, g => by simp [evA, evB] at h
  | [], .k :: y, z, h, g => by simp [evA, evB] at h
  | [], .r c :: y, z, h, g => by simp [evA, evB] at h
  | .k :: x, .r c :: y, z, h, g => by
    have := j_assoc x y z (by simp only [evA, evB] at h; omega) (by simpa [evB] using g)
    simp [this]
  | .d :: x, .r c :: y, z, h, g => by
    have := j_assoc x y z (by simp only [evA, evB] at h; omega) (by simpa [evB] using g)
    simp [this]
  | x, .d :: y, [], h, g => by simp [evA, evB] at g
  | x, .k :: y, [], h, g => by simp [evA, evB] at g
  | [], .d :: y, .d :: z, h, g => by
    have := j_assoc [] (.d :: y) z h (by simpa [evA] using g)
    simp at this; simp [this]
  | [], .d :: y, .k :: z, h, g => by
    have := j_assoc [] y z (by simpa [evA] using h) (by simp only [evA, evB] at g; omega)
    simp [this]
  | [], .d :: y, .r c :: z, h, g => by
    have := j_assoc [] y z (by simpa [evA] using h) (by simp only [evA, evB] at g; omega)
    simp [this]
  | .k :: x, .d :: y, .d :: z, h, g => by
    have := j_assoc (.k :: x) (.d :: y) z h (by simpa [evA] using g)
    simp at this; simp [this]
  | .k :: x, .d :: y, .k :: z, h, g => by
    have := j_assoc (.k :: x) y z (by simpa [evA] using h) (by simp only [evA, evB] at g; omega)
    simp [this]
  | .k :: x, .d :: y, .r c :: z, h, g => by
    have := j_assoc (.k :: x) y z (by simpa [evA] using h) (by simp only [evA, evB] at g; omega)
    simp [this]
  | .d :: x, .d :: y, .d :: z, h, g => by
    have := j_assoc (.d :: x) (.d :: y) z h (by simpa [evA] using g)
    simp at this; simp [this]
  | .d :: x, .d :: y, .k :: z, h, g => by
    have := j_assoc (.d :: x) y z (by simpa [evA] using h) (by simp only [evA, evB] at g; omega)
    simp [this]
  | .d :: x, .d :: y, .r c :: z, h, g => by
    have := j_assoc (.d :: x) y z (by simpa [evA] using h) (by simp only [evA, evB] at g; omega)
    simp [this]
  | .k :: x, .k :: y, .d :: z, h, g => by
    have := j_assoc (.k :: x) (.k :: y) z h (by simpa [evA] using g)
    simp at this; simp [this]
  | .k :: x, .k :: y, .k :: z, h, g => by
    have := j_assoc x y z (by simp only [evA, evB] at h; omega) (by simp only [evA, evB] at g; omega)
    simp [this]
  | .k :: x, .k :: y, .r c :: z, h, g => by
    have := j_assoc x y z (by simp only [evA, evB] at h; omega) (by simp only [evA, evB] at g; omega)
    simp [this]
  | .d :: x, .k :: y, .d :: z, h, g => by
    have := j_assoc (.d :: x) (.k :: y) z h (by simpa [evA] using g)
    simp at this; simp [this]
  | .d :: x, .k :: y, .k :: z, h, g => by
    have := j_assoc x y z (by simp only [evA, evB] at h; omega) (by simp only [evA, evB] at g; omega)
    simp [this]
  | .d :: x, .k :: y, .r c :: z, h, g => by
    have := j_assoc x y z (by simp only [evA, evB] at h; omega) (by simp only [evA, evB] at g; omega)
    simp [this]
termination_by x y z => x.length + y.length + z.length

theorem j_idR (x : List Ev) : ∀ n, evB x = n → joinE x (List.replicate n .k) = x := by
  induction x with
  | nil => intro n h; simp [evB] at h; subst h; simp
  | cons e x ih =>
    intro n h
    cases e with
    | r c => rw [j_r, ih n h]
    | k => simp only [evB] at h; subst h; rw [List.replicate_succ, j_kk, ih _ rfl]
    | d => simp only [evB] at h; subst h; rw [List.replicate_succ, j_dk, ih _ rfl]
theorem j_idL (x : List Ev) : ∀ n, evA x = n → joinE (List.replicate n .k) x = x := by
  induction x with
  | nil => intro n h; simp [evA] at h; subst h; simp
  | cons e x ih =>
    intro n h
    cases e with
    | r c => simp only [evA] at h; subst h; rw [List.replicate_succ, j_kr, ih _ rfl]
    | k => simp only [evA] at h; subst h; rw [List.replicate_succ, j_kk, ih _ rfl]
    | d =>
      simp only [evA] at h
      cases n with
      | zero => rw [List.replicate_zero, j_nd]; have := ih 0 h; rw [List.replicate_zero] at this; rw [this]
      | succ n => rw [List.replicate_succ, j_kd, ← List.replicate_succ, ih _ h]

/-- the join of two lists -/
def joinN (x y : List Ev) : List Rec := norm (joinE x y)
theorem joinN_assoc (x y z : List Ev) (h : evB x = evA y) (g : evB y = evA z) : joinN (expL (joinN x y)) z = joinN x (expL (joinN y z)) := by
  unfold joinN
  rw [(j_congL (Eqv.symm (exp_norm (joinE x y))) z).norm, (j_congR x (Eqv.symm (exp_norm (joinE y z)))).norm, j_assoc x y z h g]
theorem joinN_idR (x : List Ev) : joinN x (List.replicate (evB x) .k) = norm x := by unfold joinN; rw [j_idR x _ rfl]
theorem joinN_idL (x : List Ev) : joinN (List.replicate (evA x) .k) x = norm x := by unfold joinN; rw [j_idL x _ rfl]
end M
end Go.Proofs.Ytlppphmnegdhoab

/-
  What the readers of numbers, sums and records answer.
-/
namespace Go.Proofs.Ytlppphmnegdhoab
set_option linter.unusedVariables false
open Go.RowKit
open M

theorem get_drop (s : ByteArray) (p : Nat) (h : p < s.size) : s.data.toList.drop p = s[p] :: s.data.toList.drop (p + 1) := by
  rw [List.drop_eq_getElem_cons (by simpa using h)]; rfl
theorem len_drop (s : ByteArray) (p : Nat) : (s.data.toList.drop p).length = s.size - p := by
  rw [List.length_drop, ba_len]

/-- what a reader of a number answers at a place -/
def numAns (s : ByteArray) (o : Option (Nat × List UInt8)) : Value :=
  match o with
  | none => .tuple #[.int .i64 0, .int .i64 0, .bool false]
  | some (v, r) => .tuple #[.int .i64 (v : Nat), .int .i64 ((s.size - r.length : Nat) : Nat), .bool true]

theorem numAns_some {s : ByteArray} {o : Option (Nat × List UInt8)} {v : Nat} {r : List UInt8} (h : o = some (v, r)) {a b : Int} (ha : a = (v : Int)) (hb : b = ((s.size - r.length : Nat) : Int)) :
    Ending.returned (.tuple #[.int .i64 a, .int .i64 b, .bool true]) = .returned (numAns s o) := by
  rw [h, ha, hb]; rfl

theorem rdTwo_len (s : ByteArray) (p : Nat) : (∃ v, rdTwo (s.data.toList.drop p) = some (v, s.data.toList.drop (p + 2)) ∧ p + 2 ≤ s.size ∧ v < 65536) ∨ (rdTwo (s.data.toList.drop p) = none ∧ s.size < p + 2) := by
  by_cases h : p + 2 ≤ s.size
  · have h0 : p < s.size := by omega
    have h1 : p + 1 < s.size := by omega
    refine .inl ⟨s[p].toNat * 256 + s[p + 1].toNat, ?_, h, ?_⟩
    · rw [get_drop s p h0, get_drop s (p + 1) h1]; rfl
    · have := s[p].toNat_lt; have := s[p + 1].toNat_lt; omega
  · refine .inr ⟨?_, by omega⟩
    have hl := len_drop s p
    match hd : s.data.toList.drop p with
    | [] => exact rfl
    | [a] => exact rfl
    | a :: b :: l => rw [hd] at hl; simp at hl; omega

theorem ret_bool {a b : Bool} (h : a = b) : Ending.returned (.bool a) = .returned (.bool b) := by rw [h]
theorem ret_two {a b c d : Int} (h : a = c) (g : b = d) : Ending.returned (.tuple #[.int .i64 a, .int .i64 b]) = .returned (.tuple #[.int .i64 c, .int .i64 d]) := by rw [h, g]
theorem empty_iff (s : ByteArray) : s.toList.isEmpty = decide (s.size = 0) := by
  have h : s.toList.length = s.size := by rw [ByteArray.toList_eq]; exact ba_len s
  rw [Bool.eq_iff_iff, List.isEmpty_iff, decide_eq_true_iff, ← h, List.length_eq_zero_iff]
theorem okRec_low (r : M.Rec) (h : r.n < 1) : false = M.okRec r := by
  have : decide (1 ≤ r.n) = false := by simp; omega
  simp [M.okRec, this]
theorem okRec_0 (r : M.Rec) (h : 1 ≤ r.n) (k : (r.kind == 0) = true) : r.s.toList.isEmpty = M.okRec r := by
  simp at k; simp [M.okRec, k, h, empty_iff]
theorem okRec_1 (r : M.Rec) (h : 1 ≤ r.n) (k : (r.kind == 1) = true) : r.s.toList.isEmpty = M.okRec r := by
  simp at k; simp [M.okRec, k, h, empty_iff]
theorem okRec_2 (r : M.Rec) (h : 1 ≤ r.n) (k : (r.kind == 2) = true) : ((r.s.size : Int) == r.n) = M.okRec r := by
  simp at k; simp [M.okRec, k, h]; rfl
theorem okRec_x (r : M.Rec) (k0 : (r.kind == 0) = false) (k1 : (r.kind == 1) = false) (k2 : (r.kind == 2) = false) : false = M.okRec r := by
  simp at k0 k1 k2; simp [M.okRec, k0, k1, k2]

theorem span_0 (r : M.Rec) (k : (r.kind == 0) = true) : r.n = M.inA r ∧ r.n = M.inB r := by
  simp at k; simp [M.inA, M.inB, k]
theorem span_1 (r : M.Rec) (k : (r.kind == 1) = true) : 0 = M.inA r ∧ r.n = M.inB r := by
  simp at k; simp [M.inA, M.inB, k]
theorem span_x (r : M.Rec) (k0 : (r.kind == 0) = false) (k1 : (r.kind == 1) = false) : r.n = M.inA r ∧ 0 = M.inB r := by
  simp at k0 k1; simp [M.inA, M.inB, k0, k1]
end Go.Proofs.Ytlppphmnegdhoab

/-
  What the readers of lengths and of a record answer.
-/
namespace Go.Proofs.Ytlppphmnegdhoab
set_option linter.unusedVariables false
open Go.RowKit
open M

/-- what stands behind a part of a text -/
theorem suffix_at (s : ByteArray) (p : Nat) (x r : List UInt8) (hp : p ≤ s.size) (h : s.data.toList.drop p = x ++ r) : p + x.length ≤ s.size ∧ r = s.data.toList.drop (p + x.length) := by
  have hl := len_drop s p
  rw [h] at hl
  simp at hl
  refine ⟨by omega, ?_⟩
  rw [← List.drop_drop, h, List.drop_left]
theorem rdNum_at (s : ByteArray) (p m : Nat) (r : List UInt8) (hp : p ≤ s.size) (h : rdNum (s.data.toList.drop p) = some (m, r)) : ∃ q, p < q ∧ q ≤ s.size ∧ r = s.data.toList.drop q ∧ m < 2097152 := by
  obtain ⟨h1, h2⟩ := rdNum_inv _ _ _ h
  obtain ⟨h3, h4⟩ := suffix_at s p _ _ hp h1
  exact ⟨_, by have := (numE_len m).1; omega, h3, h4, h2⟩
theorem rdRec_at (s : ByteArray) (p : Nat) (r : Rec) (t : List UInt8) (hp : p ≤ s.size) (h : rdRec (s.data.toList.drop p) = some (r, t)) : ∃ q, p < q ∧ q ≤ s.size ∧ t = s.data.toList.drop q := by
  obtain ⟨h1, h2⟩ := rdRec_inv _ _ _ h
  obtain ⟨h3, h4⟩ := suffix_at s p _ _ hp h2
  exact ⟨_, by have := recE_len r; omega, h3, h4⟩

theorem bcell {W w1 : World} (hb : Below W.heap.size W w1) : (∀ b o, b < W.heap.size → w1.cell? ⟨b, o, none⟩ = W.cell? ⟨b, o, none⟩) ∧ (∀ b o, b < W.heap.size → w1.frozen? ⟨b, o, none⟩ = W.frozen? ⟨b, o, none⟩) :=
  ⟨fun b o h => hb.cell (p := ⟨b, o, none⟩) h, fun b o h => hb.frozen (p := ⟨b, o, none⟩) h⟩

/-- what is answered where no record is read -/
def noRec : Value := .tuple #[.agg #[.int .i64 0, .int .i64 0, .string ⟨#[]⟩], .int .i64 0, .bool false]
def someRec (r : M.Rec) (q : Nat) : Value := .tuple #[.agg #[.int .i64 r.kind, .int .i64 r.n, .string r.s], .int .i64 q, .bool true]

theorem mk_r (s : ByteArray) (m q : Nat) : mkRec m ((s.data.toList.drop q).take (m / 4)) = ⟨(m : Int) % 4, (m : Int) / 4, s.extract q (q + m / 4)⟩ := by
  have : (⟨⟨(s.data.toList.drop q).take (m / 4)⟩⟩ : ByteArray) = s.extract q (q + m / 4) := by
    apply ba_ext
    rw [Lib.extract_data]
    simp
  simp only [mkRec, this]
end Go.Proofs.Ytlppphmnegdhoab

/-
  What the reader of a list of records answers.
-/
namespace Go.Proofs.Ytlppphmnegdhoab
set_option linter.unusedVariables false
open Go.RowKit
open M

/-- a record's cells, a list's -/
def recC (r : M.Rec) : List Value := [.int .i64 r.kind, .int .i64 r.n, .string r.s]
def recsC (l : List M.Rec) : List Value := (l.map recC).flatten
theorem recsC_snoc (l : List M.Rec) (r : M.Rec) : recsC (l ++ [r]) = recsC l ++ recC r := by simp [recsC]

/-- what is left to read is no list of records of these lengths -/
def NoRecs (t : List UInt8) (a b : Int) : Prop := ∀ l, okAll l → t = recsE l → lenA l = a → lenB l = b → False

theorem noRecs_of {t u : List UInt8} {L : List M.Rec} {a b : Int} (ho : okAll L) (ha : 0 ≤ a - lenA L) (hb : 0 ≤ b - lenB L) (ha4 : a ≤ 4096) (hb4 : b ≤ 4096) (h : t = recsE L ++ u) (hn : NoRecs u (a - lenA L) (b - lenB L)) : NoRecs t a b := by
  intro l hl ht la lb
  have n1 := mem_n L ho (by omega) (by omega)
  have n2 := mem_n l hl (by omega) (by omega)
  obtain ⟨m, hm, hu⟩ := recs_prefix L l u ho hl n1 n2 (by rw [← h, ht])
  subst hm
  rw [lenA_append] at la
  rw [lenB_append] at lb
  exact hn m (fun x hx => hl x (List.mem_append_right _ hx)) hu (by omega) (by omega)
theorem noRecs_none {t : List UInt8} {a b : Int} (ha4 : a ≤ 4096) (hb4 : b ≤ 4096) (h : rdRec t = none) (ht : t ≠ []) : NoRecs t a b := by
  intro l hl hh la lb
  match l with
  | [] => exact ht (by rw [hh]; rfl)
  | r :: l =>
    have n2 := mem_n (r :: l) hl (by omega) (by omega) r (List.mem_cons_self ..)
    rw [hh, recsE_cons, rdRec_recE r _ (okAll_cons hl).1 n2] at h
    cases h
theorem noRecs_big {t u : List UInt8} {r : M.Rec} {a b : Int} (ha4 : a ≤ 4096) (hb4 : b ≤ 4096) (h : rdRec t = some (r, u)) (ht : t ≠ []) (hg : a < inA r ∨ b < inB r) : NoRecs t a b := by
  intro l hl hh la lb
  match l with
  | [] => exact ht (by rw [hh]; rfl)
  | r' :: l =>
    have n2 := mem_n (r' :: l) hl (by omega) (by omega) r' (List.mem_cons_self ..)
    rw [hh, recsE_cons, rdRec_recE r' _ (okAll_cons hl).1 n2] at h
    simp only [Option.some.injEq, Prod.mk.injEq] at h
    obtain ⟨rfl, _⟩ := h
    have h3 := mem_le (r' :: l) hl r' (List.mem_cons_self ..)
    omega
theorem noRecs_end {a b : Int} (hg : 0 < a ∨ 0 < b) : NoRecs [] a b := by
  intro l hl hh la lb
  match l with
  | [] => simp [lenA, lenB] at la lb; omega
  | r :: l =>
    have := recE_len r
    have h2 := congrArg List.length hh
    simp [recsE_cons] at h2
    omega

theorem ownsRow_below {w w' : World} {base : Nat} {e : TypeId} {size : Nat} {v : Value} {n : Nat} {xs : List Value} (h : w.ownsRow base e size v n xs) (hb : Below w.heap.size w w') : w'.ownsRow base e size v n xs :=
  h.kept (row := none) ⟨hb.os, hb.tape, hb.output, hb.size, fun k hk _ => hb.block k hk⟩ (by cases v.ownBlock <;> simp)
theorem recC_at (w : World) (r : M.Rec) (t : TypeId) : ∀ j u, (recC r)[j]? = some u → (w.alloc (.cells #[.int .i64 r.kind, .int .i64 r.n, .string r.s] t)).cell? ((⟨w.heap.size, 0, none⟩ : Addr).add j) = some u := by
  intro j u h
  match j, h with
  | 0, h => simp [recC] at h; subst h; simp [Addr.add]
  | 1, h => simp [recC] at h; subst h; simp [Addr.add]
  | 2, h => simp [recC] at h; subst h; simp [Addr.add]
  | n + 3, h => simp [recC] at h
theorem recC_one (r : M.Rec) : ∀ u ∈ recC r, u.oneCell' = true := by
  intro u h
  simp [recC] at h
  rcases h with rfl | rfl | rfl <;> rfl

end Go.Proofs.Ytlppphmnegdhoab

/-
  What the reader of a journal's head, the look at its sum, and the reader of a journal answer.
-/
namespace Go.Proofs.Ytlppphmnegdhoab
set_option linter.unusedVariables false
open Go.RowKit
open M

/-- the bytes of a head, and what is behind them -/
structure Heads (l : List UInt8) (la lb sa sb : Nat) (t : List UInt8) : Prop where
  eq : l = 82 :: 84 :: (numE la ++ (numE lb ++ (twoE sa ++ (twoE sb ++ t))))
  la : la ≤ 4096
  lb : lb ≤ 4096
  sa : sa < 65536
  sb : sb < 65536
def NoHead (l : List UInt8) : Prop := ∀ la lb sa sb t, Heads l la lb sa sb t → False
theorem Heads.rd {l : List UInt8} {la lb sa sb : Nat} {t : List UInt8} (h : Heads l la lb sa sb t) {l1 : List UInt8} (h1 : l = 82 :: 84 :: l1) :
    rdNum l1 = some (la, numE lb ++ (twoE sa ++ (twoE sb ++ t))) ∧ rdNum (numE lb ++ (twoE sa ++ (twoE sb ++ t))) = some (lb, twoE sa ++ (twoE sb ++ t)) ∧ rdTwo (twoE sa ++ (twoE sb ++ t)) = some (sa, twoE sb ++ t) ∧ rdTwo (twoE sb ++ t) = some (sb, t) := by
  have e := h.eq
  rw [h1] at e
  simp only [List.cons.injEq, true_and] at e
  have := h.la
  have := h.lb
  exact ⟨by rw [e]; exact rdNum_numE _ _ (by omega), rdNum_numE _ _ (by omega), rdTwo_twoE _ _ h.sa, rdTwo_twoE _ _ h.sb⟩
/-- a text whose first two bytes are these -/
theorem magic_iff (s : ByteArray) (h : 2 ≤ s.size) : ((s.extract 0 2).toList == [82, 84]) = true ↔ s.data.toList = 82 :: 84 :: s.data.toList.drop 2 := by
  rw [ByteArray.toList_eq, Lib.extract_data, beq_iff_eq]
  have h0 : 0 < s.size := by omega
  have h1 : 1 < s.size := by omega
  have e0 := get_drop s 0 h0
  have e1 := get_drop s 1 h1
  rw [List.drop_zero] at *
  rw [e1] at e0
  constructor
  · intro h
    rw [e0] at h
    simp at h
    rw [h.1, h.2] at e0
    exact e0
  · intro h
    rw [h]; rfl
theorem magic_no (s : ByteArray) (h : 2 ≤ s.size) (hm : ((s.extract 0 2).toList == [82, 84]) = false) : NoHead s.data.toList := by
  intro la lb sa sb t hh
  have := (magic_iff s h).2 (by rw [hh.eq]; rfl)
  rw [hm] at this
  cases this
theorem short_no (s : ByteArray) (h : s.size < 2) : NoHead s.data.toList := by
  intro la lb sa sb t hh
  have h1 := ba_len s
  rw [hh.eq] at h1
  simp at h1
  omega

def noHead : Value := .tuple #[.agg #[.int .i64 0, .int .i64 0, .int .i64 0, .int .i64 0], .int .i64 0, .bool false]
def HeadPost (s : ByteArray) (w w' : World) (e : Ending) : Prop :=
  (e = .returned noHead ∧ NoHead s.data.toList ∧ Below w.heap.size w w') ∨
  ∃ la lb sa sb q : Nat, e = .returned (.tuple #[.agg #[.int .i64 la, .int .i64 lb, .int .i64 sa, .int .i64 sb], .int .i64 q, .bool true]) ∧ q ≤ s.size ∧ Heads s.data.toList la lb sa sb (s.data.toList.drop q) ∧ Below w.heap.size w w'

/-- is the sum at a text's end right? -/
def UnsealPost (j : ByteArray) (w w' : World) (e : Ending) : Prop :=
  (e = .returned (.tuple #[.string ⟨#[]⟩, .bool false]) ∧ (∀ b, j.data.toList = b ++ twoE (sum b) → False) ∧ Below w.heap.size w w') ∨
  ∃ b : ByteArray, e = .returned (.tuple #[.string b, .bool true]) ∧ b.size ≤ j.size ∧ j.data.toList = b.data.toList ++ twoE (sum b.data.toList) ∧ Below w.heap.size w w'

theorem seal_cut (j : ByteArray) (b : List UInt8) (h : j.data.toList = b ++ twoE (sum b)) : 2 ≤ j.size ∧ b = (j.extract 0 (j.size - 2)).data.toList ∧ rdTwo (j.data.toList.drop (j.size - 2)) = some (sum b, j.data.toList.drop (j.size - 2 + 2)) := by
  have hl := ba_len j
  have hb : b.length + 2 = j.size := by rw [← hl, h]; simp [twoE]
  have e : j.size - 2 = b.length := by omega
  refine ⟨by omega, ?_, ?_⟩
  · rw [Lib.extract_data, h, e]; simp
  · have h0 : j.data.toList.drop (j.size - 2 + 2) = [] := List.drop_of_length_le (by omega)
    rw [h0, h, e, List.drop_left]
    have := rdTwo_twoE (sum b) [] (sum_lt b)
    rwa [List.append_nil] at this

def noJn : Value := .tuple #[.agg #[.int .i64 0, .int .i64 0, .int .i64 0, .int .i64 0], .slice none 0 0, .bool false]
theorem tells_parts {s : List UInt8} {j : Jn} (h : Tells s j) : s = bodyE j ++ twoE (sum (bodyE j)) ∧ Heads (bodyE j) j.la j.lb j.sa j.sb (recsE j.l) := by
  refine ⟨h.2.symm, ⟨?_, h.1.la, h.1.lb, h.1.sa, h.1.sb⟩⟩
  simp [bodyE, headE]
theorem tells_body {s b : List UInt8} {j : Jn} (hs : s = b ++ twoE (sum b)) (h : Tells s j) : b = bodyE j := by
  have h2 := (tells_parts h).1
  rw [hs] at h2
  exact (List.append_inj' h2 (by simp [twoE])).1
theorem heads_same {l : List UInt8} {la lb sa sb la' lb' sa' sb' : Nat} {t t' : List UInt8} (h : Heads l la lb sa sb t) (h' : Heads l la' lb' sa' sb' t') : la = la' ∧ lb = lb' ∧ sa = sa' ∧ sb = sb' ∧ t = t' := by
  obtain ⟨r1, r2, r3, r4⟩ := h.rd (l1 := numE la ++ (numE lb ++ (twoE sa ++ (twoE sb ++ t)))) h.eq
  obtain ⟨q1, q2, q3, q4⟩ := h'.rd (l1 := numE la ++ (numE lb ++ (twoE sa ++ (twoE sb ++ t)))) h.eq
  rw [r1] at q1; simp only [Option.some.injEq, Prod.mk.injEq] at q1
  rw [← q1.2, r2] at q2; simp only [Option.some.injEq, Prod.mk.injEq] at q2
  rw [← q2.2, r3] at q3; simp only [Option.some.injEq, Prod.mk.injEq] at q3
  rw [← q3.2, r4] at q4; simp only [Option.some.injEq, Prod.mk.injEq] at q4
  exact ⟨q1.1, q2.1, q3.1, q4.1, q4.2⟩

theorem ownsRow_base {w : World} {base base' : Nat} {e : TypeId} {size : Nat} {v : Value} {n : Nat} {xs : List Value} (h : w.ownsRow base e size v n xs) (hb : base' ≤ base) : w.ownsRow base' e size v n xs := by
  obtain ⟨h1, h2 | ⟨g, cap, cur, h3, h4, h5⟩⟩ := h
  · exact ⟨h1, .inl h2⟩
  · exact ⟨h1, .inr ⟨g, cap, cur, h3, by omega, h5⟩⟩

end Go.Proofs.Ytlppphmnegdhoab

/-
  The document's answer: numbers and sums as bytes, and what it writes.
-/

namespace Go.Proofs.Ytlppphmnegdhoab
set_option linter.unusedVariables false
open Go.RowKit
open M

theorem ba_append (a b : ByteArray) : (a ++ b).data.toList = a.data.toList ++ b.data.toList := by simp [ByteArray.data_append]
theorem numE_step (x : Nat) (h : 128 ≤ x) (hx : x < 2097152) : numE x = [UInt8.ofNat (128 + x % 128)] ++ numE (x / 128) := by
  unfold numE
  rw [if_neg (by omega)]
  by_cases h2 : x < 16384
  · rw [if_pos h2, if_pos (by omega)]; rfl
  · rw [if_neg h2, if_neg (by omega), if_pos (by omega)]
    have e : x / 16384 = x / 128 / 128 := by omega
    rw [e]; rfl
theorem u8_ofNat_int (a : Nat) : UInt8.ofNat (a : Int).toNat = UInt8.ofNat a := by simp
/-- a new row of bytes becomes a text -/
theorem conv_one (a : Int) : ∃ t : ByteArray, t.data.toList = [UInt8.ofNat a.toNat] ∧ ∀ u : World, (convert 109 9 (.slice (some ⟨u.heap.size, 0, none⟩) 1 1)).run Try.prog (u.alloc (.cells #[.int .u8 a] 5)) = .ok (.string t) (u.alloc (.cells #[.int .u8 a] 5)) := by
  refine ⟨strOfNums [a], rfl, fun u => ?_⟩
  refine run_convert_bytes_arg _ 109 5 Try.underlying109 Try.underlying5 _ 0 1 1 [a] rfl (fun i hi => ?_) 9 Try.underlying9
  obtain rfl : i = 0 := by omega
  simp
theorem conv_two (a b : Int) : ∃ t : ByteArray, t.data.toList = [UInt8.ofNat a.toNat, UInt8.ofNat b.toNat] ∧ ∀ u : World, (convert 109 9 (.slice (some ⟨u.heap.size, 0, none⟩) 2 2)).run Try.prog (u.alloc (.cells #[.int .u8 a, .int .u8 b] 5)) = .ok (.string t) (u.alloc (.cells #[.int .u8 a, .int .u8 b] 5)) := by
  refine ⟨strOfNums [a, b], rfl, fun u => ?_⟩
  refine run_convert_bytes_arg _ 109 5 Try.underlying109 Try.underlying5 _ 0 2 2 [a, b] rfl (fun i hi => ?_) 9 Try.underlying9
  obtain rfl | rfl : i = 0 ∨ i = 1 := by omega
  · simp
  · simp

end Go.Proofs.Ytlppphmnegdhoab

/-
  The document's answer: what it writes.
-/
namespace Go.Proofs.Ytlppphmnegdhoab
set_option linter.unusedVariables false
open Go.RowKit
open M
theorem numE_size {t : ByteArray} {v : Nat} (h : t.data.toList = numE v) : t.size ≤ 3 := by
  rw [← ba_len, h]; exact (numE_len v).2
theorem twoE_size {t : ByteArray} {v : Nat} (h : t.data.toList = twoE v) : t.size ≤ 3 := by
  rw [← ba_len, h]; simp [twoE]
/-- the cells of a list of records, as a slice leads to them -/
structure RecsAt (w : World) (a : Option Addr) (n : Nat) (l : List M.Rec) : Prop where
  len : n = l.length
  cells : l = [] ∨ ∃ b off, a = some ⟨b, off, none⟩ ∧ b < w.heap.size ∧ ∀ i (h : i < l.length), w.cell? ⟨b, off + i * 3, none⟩ = some (.int .i64 l[i].kind) ∧ w.cell? ⟨b, off + i * 3 + 1, none⟩ = some (.int .i64 l[i].n) ∧ w.cell? ⟨b, off + i * 3 + 2, none⟩ = some (.string l[i].s)
theorem RecsAt.below {w w' : World} {a : Option Addr} {n : Nat} {l : List M.Rec} (h : RecsAt w a n l) (hb : Below w.heap.size w w') : RecsAt w' a n l := by
  refine ⟨h.len, ?_⟩
  rcases h.cells with h1 | ⟨b, off, h1, h2, h3⟩
  · exact .inl h1
  · refine .inr ⟨b, off, h1, Nat.lt_of_lt_of_le h2 hb.size, fun i hi => ?_⟩
    obtain ⟨c0, c1, c2⟩ := h3 i hi
    exact ⟨(hb.cell (by exact h2)).trans c0, (hb.cell (by exact h2)).trans c1, (hb.cell (by exact h2)).trans c2⟩
theorem recE_le (r : M.Rec) (h : okRec r = true) : ((recE r).length : Int) ≤ 4 * (inA r + inB r) := by
  have h1 := (numE_len (4 * r.n + r.kind).toNat).2
  have h2 := (okRec_iff r).1 h
  have h3 := ba_len r.s
  unfold recE
  rw [List.length_append, h3]
  have h4 := inAB r h
  have h5 : (r.s.size : Int) ≤ inA r := by unfold inA; split <;> omega
  have h6 := inB_nn r h
  omega
theorem recsE_le (l : List M.Rec) (h : okAll l) : ((recsE l).length : Int) ≤ 4 * (lenA l + lenB l) := by
  induction l with
  | nil => simp [recsE, lenA, lenB]
  | cons r l ih =>
    have h1 := recE_le r (okAll_cons h).1
    have h2 := ih (okAll_cons h).2
    rw [recsE_cons, List.length_append]
    simp only [lenA, lenB]
    omega
theorem okAll_take {l : List M.Rec} (h : okAll l) (k : Nat) : okAll (l.take k) := fun r hr => h r (List.mem_of_mem_take hr)
theorem len_take (l : List M.Rec) (h : okAll l) (k : Nat) : lenA (l.take k) ≤ lenA l ∧ lenB (l.take k) ≤ lenB l := by
  have e := List.take_append_drop k l
  have h1 := lenA_append (l.take k) (l.drop k)
  have h2 := lenB_append (l.take k) (l.drop k)
  rw [e] at h1 h2
  have ho : okAll (l.drop k) := fun r hr => h r (List.mem_of_mem_drop hr)
  have := lenA_nn _ ho
  have := lenB_nn _ ho
  omega
theorem take_rec (l : List M.Rec) (k : Nat) (h : k < l.length) : recsE (l.take (k + 1)) = recsE (l.take k) ++ recE l[k] := by
  rw [List.take_succ_eq_append_getElem h, recsE_append]; simp [recsE]
attribute [local go_sem ↓] Go.wp_at_zero Go.wp_at_succ


theorem okAll_len (l : List M.Rec) (h : okAll l) : (l.length : Int) ≤ lenA l + lenB l := by
  induction l with
  | nil => simp [lenA, lenB]
  | cons r l ih =>
    have h1 := ih (okAll_cons h).2
    have h2 := inAB r (okAll_cons h).1
    have h3 := (okRec_iff r).1 (okAll_cons h).1
    simp only [lenA, lenB, List.length_cons]
    omega
theorem headE_len (la lb sa sb : Nat) (l : List M.Rec) : (headE ⟨la, lb, sa, sb, l⟩).length ≤ 12 := by
  have := numE_len la
  have := numE_len lb
  simp [headE, twoE]
  omega
/-- the head's bytes, before the records -/
theorem headE_eq (la lb sa sb : Nat) (l : List M.Rec) {t1 t2 t3 t4 : ByteArray} (h1 : t1.data.toList = numE la) (h2 : t2.data.toList = numE lb) (h3 : t3.data.toList = twoE sa) (h4 : t4.data.toList = twoE sb) :
    ((⟨#[82, 84]⟩ : ByteArray) ++ t1 ++ t2 ++ t3 ++ t4).data.toList = headE ⟨la, lb, sa, sb, l⟩ := by
  rw [ba_append, ba_append, ba_append, ba_append, h1, h2, h3, h4, headE]
  simp

end Go.Proofs.Ytlppphmnegdhoab

/-
  The document's answer: its loose reader.
-/
namespace Go.Proofs.Ytlppphmnegdhoab
set_option linter.unusedVariables false
open Go.RowKit
open M

/-- what the loose reader of a number answers -/
def LsPost (s : ByteArray) (p : Nat) (e : Ending) : Prop :=
  ∃ v q : Nat, e = .returned (.tuple #[.int .i64 v, .int .i64 q]) ∧ lsNum (s.data.toList.drop p) = (v, s.data.toList.drop q) ∧ p ≤ q ∧ (q ≤ s.size ∨ q = p) ∧ (p < s.size → p < q)

end Go.Proofs.Ytlppphmnegdhoab

/-
  The document's answer: what its loose reader tells of a journal.
-/
namespace Go.Proofs.Ytlppphmnegdhoab
set_option linter.unusedVariables false
open Go.RowKit
open M

/-- how far the loose reader has come in a journal -/
def LInv (s : ByteArray) (L : List M.Rec) (q : Nat) : Prop :=
  ∀ j, Tells s.data.toList j → ∃ m, j.l = L ++ m ∧ s.data.toList.drop q = recsE m ++ twoE (sum (bodyE j))

theorem recE_v (r : M.Rec) (h : okRec r = true) (hn : r.n ≤ 4096) : (4 * r.n + r.kind).toNat < 2097152 ∧ ((4 * r.n + r.kind).toNat : Int) % 4 = r.kind ∧ ((4 * r.n + r.kind).toNat : Int) / 4 = r.n := by
  have := (okRec_iff r).1 h
  omega
theorem linv_step {s : ByteArray} {L : List M.Rec} {q next v : Nat} (inv : LInv s L q) (hq : q + 2 < s.size) (hls : lsNum (s.data.toList.drop q) = (v, s.data.toList.drop next)) :
    ∀ j, Tells s.data.toList j → ∃ r m, j.l = L ++ [r] ++ m ∧ okRec r = true ∧ (v : Int) % 4 = r.kind ∧ (v : Int) / 4 = r.n ∧ s.data.toList.drop next = r.s.data.toList ++ (recsE m ++ twoE (sum (bodyE j))) := by
  intro j hj
  obtain ⟨m, hm, hd⟩ := inv j hj
  match m with
  | [] =>
    have h1 := len_drop s q
    rw [hd] at h1
    simp [recsE, twoE] at h1
    omega
  | r :: m =>
    have hok : okRec r = true := hj.1.ok r (by rw [hm]; simp)
    have h1 := hj.1.a
    have h2 := hj.1.b
    have h3 := hj.1.la
    have h4 := hj.1.lb
    have hn := mem_n j.l hj.1.ok (by omega) (by omega) r (by rw [hm]; simp)
    obtain ⟨h5, h6, h7⟩ := recE_v r hok hn
    rw [hd, recsE_cons, recE, List.append_assoc, List.append_assoc, lsNum_numE _ _ h5] at hls
    simp only [Prod.mk.injEq] at hls
    obtain ⟨hv, hdd⟩ := hls
    exact ⟨r, m, by rw [hm]; simp, hok, by rw [← hv]; exact h6, by rw [← hv]; exact h7, hdd.symm⟩
theorem linv_k {s : ByteArray} {L : List M.Rec} {q next v : Nat} (inv : LInv s L q) (hq : q + 2 < s.size) (hls : lsNum (s.data.toList.drop q) = (v, s.data.toList.drop next)) (h4 : ¬ v % 4 = 2) :
    LInv s (L ++ [⟨(v : Int) % 4, (v : Int) / 4, ⟨#[]⟩⟩]) next := by
  intro j hj
  obtain ⟨r, m, h1, h2, h3, h5, h6⟩ := linv_step inv hq hls j hj
  have hk := (okRec_iff r).1 h2
  have hs0 : r.s.data.toList = [] := List.length_eq_zero_iff.1 (by rw [ba_len]; omega)
  obtain ⟨kind, n, b⟩ := r
  simp only at h3 h5 hs0 h6
  have hb : b = ⟨#[]⟩ := ba_ext (by rw [hs0])
  subst hb
  rw [h3, h5]
  exact ⟨m, h1, by rw [h6]; rfl⟩
theorem linv_r {s : ByteArray} {L : List M.Rec} {q next v : Nat} (inv : LInv s L q) (hq : q + 2 < s.size) (hls : lsNum (s.data.toList.drop q) = (v, s.data.toList.drop next)) (hn : next ≤ s.size) (h4 : v % 4 = 2) :
    LInv s (L ++ [⟨(v : Int) % 4, (v : Int) / 4, s.extract next (next + v / 4)⟩]) (next + v / 4) ∧ (s.size < next + v / 4 → ∀ M' q', LInv s M' q') := by
  have key : ∀ j, Tells s.data.toList j → ∃ r m, j.l = L ++ [r] ++ m ∧ (v : Int) % 4 = r.kind ∧ (v : Int) / 4 = r.n ∧ r.s.data.toList.length = v / 4 ∧ s.data.toList.drop next = r.s.data.toList ++ (recsE m ++ twoE (sum (bodyE j))) := by
    intro j hj
    obtain ⟨r, m, h1, h2, h3, h5, h6⟩ := linv_step inv hq hls j hj
    have hk := (okRec_iff r).1 h2
    exact ⟨r, m, h1, h3, h5, by rw [ba_len]; omega, h6⟩
  refine ⟨fun j hj => ?_, fun hbig M' q' j hj => ?_⟩
  · obtain ⟨r, m, h1, h3, h5, h7, h6⟩ := key j hj
    have e1 : s.extract next (next + v / 4) = r.s := by
      apply ba_ext
      rw [Lib.extract_data, h6, Nat.add_sub_cancel_left, ← h7, List.take_left]
    obtain ⟨kind, n, b⟩ := r
    simp only at h3 h5 e1 h6 h7
    rw [h3, h5, e1]
    refine ⟨m, h1, ?_⟩
    rw [← List.drop_drop, h6, ← h7, List.drop_left]
  · obtain ⟨r, m, h1, h3, h5, h7, h6⟩ := key j hj
    have h8 := len_drop s next
    rw [h6, List.length_append, h7] at h8
    simp [twoE] at h8
    omega

/-- the bounds of what the loose reader reads -/
def loRec (r : M.Rec) : Prop := 0 ≤ r.kind ∧ r.kind ≤ 3 ∧ 0 ≤ r.n ∧ r.n < 524288
theorem lo_mk (v : Nat) (hv : v < 2097152) (b : ByteArray) : loRec ⟨(v : Int) % 4, (v : Int) / 4, b⟩ := by
  unfold loRec; simp; omega
theorem lo_snoc {L : List M.Rec} {r : M.Rec} (h : ∀ x ∈ L, loRec x) (hr : loRec r) : ∀ x ∈ L ++ [r], loRec x := by
  intro x hx
  rcases List.mem_append.1 hx with hx | hx
  · exact h x hx
  · simp at hx; rw [hx]; exact hr

/-- what the loose reader tells of the head of a journal -/
theorem lhead {s : ByteArray} {la lb sa sb p q : Nat} (h1 : lsNum (s.data.toList.drop 2) = (la, s.data.toList.drop p)) (h2 : lsNum (s.data.toList.drop p) = (lb, s.data.toList.drop q))
    (h3 : ∀ v t, v < 65536 → s.data.toList.drop q = twoE v ++ t → sa = v) (h4 : ∀ v t, v < 65536 → s.data.toList.drop (q + 2) = twoE v ++ t → sb = v) :
    ∀ j, Tells s.data.toList j → la = j.la ∧ lb = j.lb ∧ sa = j.sa ∧ sb = j.sb ∧ s.data.toList.drop (q + 4) = recsE j.l ++ twoE (sum (bodyE j)) := by
  intro j hj
  obtain ⟨e1, e2⟩ := tells_parts hj
  have b1 := hj.1.la
  have b2 := hj.1.lb
  have e3 := e2.eq
  rw [e3] at e1
  have d2 : s.data.toList.drop 2 = numE j.la ++ (numE j.lb ++ (twoE j.sa ++ (twoE j.sb ++ (recsE j.l ++ twoE (sum (bodyE j)))))) := by
    rw [e1]; simp
    rw [e3]
  rw [d2, lsNum_numE _ _ (by omega)] at h1
  simp only [Prod.mk.injEq] at h1
  rw [← h1.2, lsNum_numE _ _ (by omega)] at h2
  simp only [Prod.mk.injEq] at h2
  have h5 := h3 j.sa _ hj.1.sa h2.2.symm
  have d3 : s.data.toList.drop (q + 2) = twoE j.sb ++ (recsE j.l ++ twoE (sum (bodyE j))) := by
    rw [← List.drop_drop, ← h2.2]; rfl
  have h6 := h4 j.sb _ hj.1.sb d3
  refine ⟨h1.1.symm, h2.1.symm, h5, h6, ?_⟩
  have : q + 4 = (q + 2) + 2 := by omega
  rw [this, ← List.drop_drop, d3]; rfl
end Go.Proofs.Ytlppphmnegdhoab

/-
  The document's answer: the walk of its loose reader.
-/
namespace Go.Proofs.Ytlppphmnegdhoab
set_option linter.unusedVariables false
open Go.RowKit
open M

theorem own_form {w : World} {base : Nat} {e : TypeId} {size : Nat} {v : Value} {n : Nat} {xs : List Value} (h : w.ownsRow base e size v n xs) : ∃ a c, v = .slice a n c := by
  obtain ⟨h1, ⟨rfl, rfl⟩ | ⟨g, cap, cur, h3, _⟩⟩ := h
  · exact ⟨none, 0, rfl⟩
  · exact ⟨_, _, h3⟩

theorem recC_at2 (w : World) (r : M.Rec) (t : TypeId) (o : Obj) : ∀ j u, (recC r)[j]? = some u → ((w.alloc o).alloc (.cells #[.int .i64 r.kind, .int .i64 r.n, .string r.s] t)).cell? ((⟨w.heap.size + 1, 0, none⟩ : Addr).add j) = some u := by
  intro j u h
  have h2 := recC_at (w.alloc o) r t j u h
  have e : (w.alloc o).heap.size = w.heap.size + 1 := by simp
  rwa [e] at h2
/-- two boxes: the answer's (empty yet) and the journal's -/
structure LBox (b : Nat) (w : World) (la lb sa sb : Nat) (a : Option Addr) (n c : Nat) : Prop where
  r0 : w.cell? ⟨b, 0, none⟩ = some (.int .i64 0)
  r1 : w.cell? ⟨b, 1, none⟩ = some (.int .i64 0)
  r2 : w.cell? ⟨b, 2, none⟩ = some (.int .i64 0)
  r3 : w.cell? ⟨b, 3, none⟩ = some (.int .i64 0)
  r4 : w.cell? ⟨b, 4, none⟩ = some (.slice none 0 0)
  f0 : w.frozen? ⟨b, 0, none⟩ = false
  f1 : w.frozen? ⟨b, 1, none⟩ = false
  f2 : w.frozen? ⟨b, 2, none⟩ = false
  f3 : w.frozen? ⟨b, 3, none⟩ = false
  f4 : w.frozen? ⟨b, 4, none⟩ = false
  j0 : w.cell? ⟨b + 1, 0, none⟩ = some (.int .i64 la)
  j1 : w.cell? ⟨b + 1, 1, none⟩ = some (.int .i64 lb)
  j2 : w.cell? ⟨b + 1, 2, none⟩ = some (.int .i64 sa)
  j3 : w.cell? ⟨b + 1, 3, none⟩ = some (.int .i64 sb)
  j4 : w.cell? ⟨b + 1, 4, none⟩ = some (.slice a n c)
  fj : w.frozen? ⟨b + 1, 4, none⟩ = false
theorem LBox.keep {b : Nat} {w w' : World} {la lb sa sb : Nat} {a : Option Addr} {n c : Nat} (h : LBox b w la lb sa sb a n c) (hk : ∀ k, k < b + 2 → w'.heap[k]? = w.heap[k]?) : LBox b w' la lb sa sb a n c := by
  have hc : ∀ k o, k < b + 2 → w'.cell? ⟨k, o, none⟩ = w.cell? ⟨k, o, none⟩ := fun k o hk2 => World.cell?_of_block (hk k hk2)
  have hf : ∀ k o, k < b + 2 → w'.frozen? ⟨k, o, none⟩ = w.frozen? ⟨k, o, none⟩ := fun k o hk2 => World.frozen?_of_block (hk k hk2)
  have l0 : b < b + 2 := by omega
  have l1 : b + 1 < b + 2 := by omega
  exact ⟨(hc _ _ l0).trans h.r0, (hc _ _ l0).trans h.r1, (hc _ _ l0).trans h.r2, (hc _ _ l0).trans h.r3, (hc _ _ l0).trans h.r4, (hf _ _ l0).trans h.f0, (hf _ _ l0).trans h.f1, (hf _ _ l0).trans h.f2, (hf _ _ l0).trans h.f3, (hf _ _ l0).trans h.f4,
    (hc _ _ l1).trans h.j0, (hc _ _ l1).trans h.j1, (hc _ _ l1).trans h.j2, (hc _ _ l1).trans h.j3, (hc _ _ l1).trans h.j4, (hf _ _ l1).trans h.fj⟩
theorem LBox.set {b : Nat} {w : World} {la lb sa sb : Nat} {a : Option Addr} {n c : Nat} (h : LBox b w la lb sa sb a n c) (a' : Option Addr) (n' c' : Nat) : LBox b (w.setCell ⟨b + 1, 4, none⟩ (.slice a' n' c')) la lb sa sb a' n' c' := by
  obtain ⟨r0, r1, r2, r3, r4, f0, f1, f2, f3, f4, j0, j1, j2, j3, j4, fj⟩ := h
  refine ⟨?_, ?_, ?_, ?_, ?_, ?_, ?_, ?_, ?_, ?_, ?_, ?_, ?_, ?_, ?_, ?_⟩
  all_goals first | (simp [go_sem, *]; done) | (rw [World.cell?_setCell_other (by simp)]; assumption) | exact World.cell?_setCell_same j4

end Go.Proofs.Ytlppphmnegdhoab
