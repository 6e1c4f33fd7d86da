/-
  Joining, place by place: plain mathematics.
-/
import Derived.Test.YtlppphmnegdhoaaEvs
namespace Go.Proofs.Ytlppphmnegdhoaa
set_option linter.unusedVariables false
namespace M

def joinE : List Ev → List Ev → List Ev
  | .r c :: es, fs => .r c :: joinE es fs
  | es, .d :: fs => .d :: joinE es fs
  | .k :: es, .k :: fs => .k :: joinE es fs
  | .k :: es, .r c :: fs => .r c :: joinE es fs
  | .d :: es, .k :: fs => .d :: joinE es fs
  | .d :: es, .r _ :: fs => joinE es fs
  | .k :: es, [] => joinE es []
  | .d :: es, [] => joinE es []
  | [], .k :: fs => joinE [] fs
  | [], .r _ :: fs => joinE [] fs
  | [], [] => []
termination_by es fs => es.length + fs.length

@[simp] theorem j_r (c : UInt8) (es fs) : joinE (.r c :: es) fs = .r c :: joinE es fs := by
  cases fs with
  | nil => rw [joinE]
  | cons e fs => cases e <;> rw [joinE]
@[simp] theorem j_kd (es fs) : joinE (.k :: es) (.d :: fs) = .d :: joinE (.k :: es) fs := by rw [joinE]; simp
@[simp] theorem j_dd (es fs) : joinE (.d :: es) (.d :: fs) = .d :: joinE (.d :: es) fs := by rw [joinE]; simp
@[simp] theorem j_nd (fs) : joinE [] (.d :: fs) = .d :: joinE [] fs := by rw [joinE]; simp
@[simp] theorem j_kk (es fs) : joinE (.k :: es) (.k :: fs) = .k :: joinE es fs := by rw [joinE]
@[simp] theorem j_kr (es c fs) : joinE (.k :: es) (.r c :: fs) = .r c :: joinE es fs := by rw [joinE]
@[simp] theorem j_dk (es fs) : joinE (.d :: es) (.k :: fs) = .d :: joinE es fs := by rw [joinE]
@[simp] theorem j_dr (es c fs) : joinE (.d :: es) (.r c :: fs) = joinE es fs := by rw [joinE]
@[simp] theorem j_kn (es) : joinE (.k :: es) [] = joinE es [] := by rw [joinE]
@[simp] theorem j_dn (es) : joinE (.d :: es) [] = joinE es [] := by rw [joinE]
@[simp] theorem j_nk (fs) : joinE [] (.k :: fs) = joinE [] fs := by rw [joinE]
@[simp] theorem j_nr (c fs) : joinE [] (.r c :: fs) = joinE [] fs := by rw [joinE]
@[simp] theorem j_nn : joinE [] [] = [] := by rw [joinE]

theorem j_d (es : List Ev) : ∀ fs, Eqv (joinE es (.d :: fs)) (.d :: joinE es fs) := by
  induction es with
  | nil => intro fs; rw [j_nd]; exact .refl _
  | cons e es ih =>
    intro fs
    cases e with
    | k => rw [j_kd]; exact .refl _
    | d => rw [j_dd]; exact .refl _
    | r c => rw [j_r, j_r]; exact .trans (.cons _ (ih fs)) (.symm (.swap c _))

theorem j_congL {x y : List Ev} (h : Eqv x y) : ∀ fs, Eqv (joinE x fs) (joinE y fs) := by
  induction h with
  | refl x => intro fs; exact .refl _
  | symm _ ih => intro fs; exact .symm (ih fs)
  | trans _ _ ih1 ih2 => intro fs; exact .trans (ih1 fs) (ih2 fs)
  | cons e _ ih =>
    intro fs
    cases e with
    | r c => rw [j_r, j_r]; exact .cons _ (ih fs)
    | k =>
      induction fs with
      | nil => rw [j_kn, j_kn]; exact ih []
      | cons f fs jh =>
        cases f with
        | k => rw [j_kk, j_kk]; exact .cons _ (ih fs)
        | d => rw [j_kd, j_kd]; exact .cons _ jh
        | r c => rw [j_kr, j_kr]; exact .cons _ (ih fs)
    | d =>
      induction fs with
      | nil => rw [j_dn, j_dn]; exact ih []
      | cons f fs jh =>
        cases f with
        | k => rw [j_dk, j_dk]; exact .cons _ (ih fs)
        | d => rw [j_dd, j_dd]; exact .cons _ jh
        | r c => rw [j_dr, j_dr]; exact ih fs
  | swap c x =>
    intro fs
    rw [j_r]
    induction fs with
    | nil => rw [j_dn, j_dn, j_r]; exact .refl _
    | cons f fs jh =>
      cases f with
      | k => rw [j_dk, j_dk, j_r]; exact .swap c _
      | d => rw [j_dd, j_dd]; exact .trans (.cons _ jh) (.swap c _)
      | r e => rw [j_dr, j_dr, j_r]; exact .refl _

theorem j_congR : ∀ (es : List Ev) {x y : List Ev}, Eqv x y → Eqv (joinE es x) (joinE es y)
  | .r c :: es, x, y, h => by rw [j_r, j_r]; exact .cons _ (j_congR es h)
  | [], x, y, h => by
    induction h with
    | refl x => exact .refl _
    | symm _ ih => exact .symm ih
    | trans _ _ ih1 ih2 => exact .trans ih1 ih2
    | swap c x => simp; exact .refl _
    | cons e _ ih => cases e <;> simp <;> first | exact ih | exact .cons _ ih
  | .k :: es, x, y, h => by
    induction h with
    | refl x => exact .refl _
    | symm _ ih => exact .symm ih
    | trans _ _ ih1 ih2 => exact .trans ih1 ih2
    | swap c x =>
      rw [j_kd, j_kr, j_kr]
      exact .trans (.swap c _) (.cons _ (.symm (j_d es x)))
    | cons e g ih =>
      cases e with
      | k => rw [j_kk, j_kk]; exact .cons _ (j_congR es g)
      | d => rw [j_kd, j_kd]; exact .cons _ ih
      | r c => rw [j_kr, j_kr]; exact .cons _ (j_congR es g)
  | .d :: es, x, y, h => by
    induction h with
    | refl x => exact .refl _
    | symm _ ih => exact .symm ih
    | trans _ _ ih1 ih2 => exact .trans ih1 ih2
    | swap c x =>
      rw [j_dd, j_dr, j_dr]
      exact .symm (j_d es x)
    | cons e g ih =>
      cases e with
      | k => rw [j_dk, j_dk]; exact .cons _ (j_congR es g)
      | d => rw [j_dd, j_dd]; exact .cons _ ih
      | r c => rw [j_dr, j_dr]; exact j_congR es g

theorem j_len : ∀ (es fs : List Ev), evB es = evA fs → evA (joinE es fs) = evA es ∧ evB (joinE es fs) = evB fs
  | .r c :: es, fs, h => by
    have := j_len es fs (by simpa [evB] using h)
    rw [j_r]; simp [evA, evB, this]
  | .k :: es, .d :: fs, h => by
    have := j_len (.k :: es) fs (by simpa [evA] using h)
    rw [j_kd]; simp only [evA, evB] at this ⊢; omega
  | .d :: es, .d :: fs, h => by
    have := j_len (.d :: es) fs (by simpa [evA] using h)
    rw [j_dd]; simp only [evA, evB] at this ⊢; omega
  | [], .d :: fs, h => by
    have := j_len [] fs (by simpa [evA] using h)
    rw [j_nd]; simp only [evA, evB] at this ⊢; omega
  | .k :: es, .k :: fs, h => by
    have := j_len es fs (by simp only [evA, evB] at h; omega)
    rw [j_kk]; simp only [evA, evB]; omega
  | .k :: es, .r c :: fs, h => by
    have := j_len es fs (by simp only [evA, evB] at h; omega)
    rw [j_kr]; simp only [evA, evB]; omega
  | .d :: es, .k :: fs, h => by
    have := j_len es fs (by simp only [evA, evB] at h; omega)
    rw [j_dk]; simp only [evA, evB]; omega
  | .d :: es, .r c :: fs, h => by
    have := j_len es fs (by simp only [evA, evB] at h; omega)
    rw [j_dr]; simp only [evA, evB]; omega
  | .k :: es, [], h => by simp [evA, evB] at h
  | .d :: es, [], h => by simp [evA, evB] at h
  | [], .k :: fs, h => by simp [evA, evB] at h
  | [], .r c :: fs, h => by simp [evA, evB] at h
  | [], [], h => by simp [evA, evB]
termination_by es fs => es.length + fs.length

theorem j_nil (z : List Ev) : evA z = 0 → joinE [] z = z := by
  induction z with
  | nil => intro h; rw [j_nn]
  | cons e z ih => intro h; cases e <;> simp [evA] at h; rw [j_nd, ih h]

theorem j_assoc : ∀ (x y z : List Ev), evB x = evA y → evB y = evA z → joinE (joinE x y) z = joinE x (joinE y z)
  | .r c :: x, y, z, h, g => by
    have := j_assoc x y z (by simpa [evB] using h) g
    simp [this]
  | [], [], z, h, g => by simp [evB] at g; rw [j_nn, j_nil z g.symm, j_nil z g.symm]
  | .k :: x, [], z, h, g => by simp [evA, evB] at h
  | .d :: x, [], z, h, g => by simp [evA, evB] at h
  | [], .k :: y, z, h, g => by simp [evA, evB] at h
  | [], .r c :: y, z, h, g => by simp [evA, evB] at h
  | .k :: x, .r c :: y, z, h, g => by
    have := j_assoc x y z (by simp only [evA, evB] at h; omega) (by simpa [evB] using g)
    simp [this]
  | .d :: x, .r c :: y, z, h, g => by
    have := j_assoc x y z (by simp only [evA, evB] at h; omega) (by simpa [evB] using g)
    simp [this]
  | x, .d :: y, [], h, g => by simp [evA, evB] at g
  | x, .k :: y, [], h, g => by simp [evA, evB] at g
  | [], .d :: y, .d :: z, h, g => by
    have := j_assoc [] (.d :: y) z h (by simpa [evA] using g)
    simp at this; simp [this]
  | [], .d :: y, .k :: z, h, g => by
    have := j_assoc [] y z (by simpa [evA] using h) (by simp only [evA, evB] at g; omega)
    simp [this]
  | [], .d :: y, .r c :: z, h, g => by
    have := j_assoc [] y z (by simpa [evA] using h) (by simp only [evA, evB] at g; omega)
    simp [this]
  | .k :: x, .d :: y, .d :: z, h, g => by
    have := j_assoc (.k :: x) (.d :: y) z h (by simpa [evA] using g)
    simp at this; simp [this]
  | .k :: x, .d :: y, .k :: z, h, g => by
    have := j_assoc (.k :: x) y z (by simpa [evA] using h) (by simp only [evA, evB] at g; omega)
    simp [this]
  | .k :: x, .d :: y, .r c :: z, h, g => by
    have := j_assoc (.k :: x) y z (by simpa [evA] using h) (by simp only [evA, evB] at g; omega)
    simp [this]
  | .d :: x, .d :: y, .d :: z, h, g => by
    have := j_assoc (.d :: x) (.d :: y) z h (by simpa [evA] using g)
    simp at this; simp [this]
  | .d :: x, .d :: y, .k :: z, h, g => by
    have := j_assoc (.d :: x) y z (by simpa [evA] using h) (by simp only [evA, evB] at g; omega)
    simp [this]
  | .d :: x, .d :: y, .r c :: z, h, g => by
    have := j_assoc (.d :: x) y z (by simpa [evA] using h) (by simp only [evA, evB] at g; omega)
    simp [this]
  | .k :: x, .k :: y, .d :: z, h, g => by
    have := j_assoc (.k :: x) (.k :: y) z h (by simpa [evA] using g)
    simp at this; simp [this]
  | .k :: x, .k :: y, .k :: z, h, g => by
    have := j_assoc x y z (by simp only [evA, evB] at h; omega) (by simp only [evA, evB] at g; omega)
    simp [this]
  | .k :: x, .k :: y, .r c :: z, h, g => by
    have := j_assoc x y z (by simp only [evA, evB] at h; omega) (by simp only [evA, evB] at g; omega)
    simp [this]
  | .d :: x, .k :: y, .d :: z, h, g => by
    have := j_assoc (.d :: x) (.k :: y) z h (by simpa [evA] using g)
    simp at this; simp [this]
  | .d :: x, .k :: y, .k :: z, h, g => by
    have := j_assoc x y z (by simp only [evA, evB] at h; omega) (by simp only [evA, evB] at g; omega)
    simp [this]
  | .d :: x, .k :: y, .r c :: z, h, g => by
    have := j_assoc x y z (by simp only [evA, evB] at h; omega) (by simp only [evA, evB] at g; omega)
    simp [this]
termination_by x y z => x.length + y.length + z.length

theorem j_idR (x : List Ev) : ∀ n, evB x = n → joinE x (List.replicate n .k) = x := by
  induction x with
  | nil => intro n h; simp [evB] at h; subst h; simp
  | cons e x ih =>
    intro n h
    cases e with
    | r c => rw [j_r, ih n h]
    | k => simp only [evB] at h; subst h; rw [List.replicate_succ, j_kk, ih _ rfl]
    | d => simp only [evB] at h; subst h; rw [List.replicate_succ, j_dk, ih _ rfl]
theorem j_idL (x : List Ev) : ∀ n, evA x = n → joinE (List.replicate n .k) x = x := by
  induction x with
  | nil => intro n h; simp [evA] at h; subst h; simp
  | cons e x ih =>
    intro n h
    cases e with
    | r c => simp only [evA] at h; subst h; rw [List.replicate_succ, j_kr, ih _ rfl]
    | k => simp only [evA] at h; subst h; rw [List.replicate_succ, j_kk, ih _ rfl]
    | d =>
      simp only [evA] at h
      cases n with
      | zero => rw [List.replicate_zero, j_nd]; have := ih 0 h; rw [List.replicate_zero] at this; rw [this]
      | succ n => rw [List.replicate_succ, j_kd, ← List.replicate_succ, ih _ h]

/-- the join of two lists -/
def joinN (x y : List Ev) : List Rec := norm (joinE x y)
theorem joinN_assoc (x y z : List Ev) (h : evB x = evA y) (g : evB y = evA z) : joinN (expL (joinN x y)) z = joinN x (expL (joinN y z)) := by
  unfold joinN
  rw [(j_congL (Eqv.symm (exp_norm (joinE x y))) z).norm, (j_congR x (Eqv.symm (exp_norm (joinE y z)))).norm, j_assoc x y z h g]
theorem joinN_idR (x : List Ev) : joinN x (List.replicate (evB x) .k) = norm x := by unfold joinN; rw [j_idR x _ rfl]
theorem joinN_idL (x : List Ev) : joinN (List.replicate (evA x) .k) x = norm x := by unfold joinN; rw [j_idL x _ rfl]
end M
end Go.Proofs.Ytlppphmnegdhoaa
