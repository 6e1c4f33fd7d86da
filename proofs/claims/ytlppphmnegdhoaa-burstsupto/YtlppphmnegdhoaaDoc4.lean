/-
  The document's answer: what its loose reader tells of a journal.
-/
import Derived.Test.YtlppphmnegdhoaaDoc3
namespace Go.Proofs.Ytlppphmnegdhoaa
set_option linter.unusedVariables false
open Go.RowKit
open M

/-- how far the loose reader has come in a journal -/
def LInv (s : ByteArray) (L : List M.Rec) (q : Nat) : Prop :=
  ∀ j, Tells s.data.toList j → ∃ m, j.l = L ++ m ∧ s.data.toList.drop q = recsE m ++ twoE (sum (bodyE j))

theorem recE_v (r : M.Rec) (h : okRec r = true) (hn : r.n ≤ 4096) : (4 * r.n + r.kind).toNat < 2097152 ∧ ((4 * r.n + r.kind).toNat : Int) % 4 = r.kind ∧ ((4 * r.n + r.kind).toNat : Int) / 4 = r.n := by
  have := (okRec_iff r).1 h
  omega
theorem linv_step {s : ByteArray} {L : List M.Rec} {q next v : Nat} (inv : LInv s L q) (hq : q + 2 < s.size) (hls : lsNum (s.data.toList.drop q) = (v, s.data.toList.drop next)) :
    ∀ j, Tells s.data.toList j → ∃ r m, j.l = L ++ [r] ++ m ∧ okRec r = true ∧ (v : Int) % 4 = r.kind ∧ (v : Int) / 4 = r.n ∧ s.data.toList.drop next = r.s.data.toList ++ (recsE m ++ twoE (sum (bodyE j))) := by
  intro j hj
  obtain ⟨m, hm, hd⟩ := inv j hj
  match m with
  | [] =>
    have h1 := len_drop s q
    rw [hd] at h1
    simp [recsE, twoE] at h1
    omega
  | r :: m =>
    have hok : okRec r = true := hj.1.ok r (by rw [hm]; simp)
    have h1 := hj.1.a
    have h2 := hj.1.b
    have h3 := hj.1.la
    have h4 := hj.1.lb
    have hn := mem_n j.l hj.1.ok (by omega) (by omega) r (by rw [hm]; simp)
    obtain ⟨h5, h6, h7⟩ := recE_v r hok hn
    rw [hd, recsE_cons, recE, List.append_assoc, List.append_assoc, lsNum_numE _ _ h5] at hls
    simp only [Prod.mk.injEq] at hls
    obtain ⟨hv, hdd⟩ := hls
    exact ⟨r, m, by rw [hm]; simp, hok, by rw [← hv]; exact h6, by rw [← hv]; exact h7, hdd.symm⟩
theorem linv_k {s : ByteArray} {L : List M.Rec} {q next v : Nat} (inv : LInv s L q) (hq : q + 2 < s.size) (hls : lsNum (s.data.toList.drop q) = (v, s.data.toList.drop next)) (h4 : ¬ v % 4 = 2) :
    LInv s (L ++ [⟨(v : Int) % 4, (v : Int) / 4, ⟨#[]⟩⟩]) next := by
  intro j hj
  obtain ⟨r, m, h1, h2, h3, h5, h6⟩ := linv_step inv hq hls j hj
  have hk := (okRec_iff r).1 h2
  have hs0 : r.s.data.toList = [] := List.length_eq_zero_iff.1 (by rw [ba_len]; omega)
  obtain ⟨kind, n, b⟩ := r
  simp only at h3 h5 hs0 h6
  have hb : b = ⟨#[]⟩ := ba_ext (by rw [hs0])
  subst hb
  rw [h3, h5]
  exact ⟨m, h1, by rw [h6]; rfl⟩
theorem linv_r {s : ByteArray} {L : List M.Rec} {q next v : Nat} (inv : LInv s L q) (hq : q + 2 < s.size) (hls : lsNum (s.data.toList.drop q) = (v, s.data.toList.drop next)) (hn : next ≤ s.size) (h4 : v % 4 = 2) :
    LInv s (L ++ [⟨(v : Int) % 4, (v : Int) / 4, s.extract next (next + v / 4)⟩]) (next + v / 4) ∧ (s.size < next + v / 4 → ∀ M' q', LInv s M' q') := by
  have key : ∀ j, Tells s.data.toList j → ∃ r m, j.l = L ++ [r] ++ m ∧ (v : Int) % 4 = r.kind ∧ (v : Int) / 4 = r.n ∧ r.s.data.toList.length = v / 4 ∧ s.data.toList.drop next = r.s.data.toList ++ (recsE m ++ twoE (sum (bodyE j))) := by
    intro j hj
    obtain ⟨r, m, h1, h2, h3, h5, h6⟩ := linv_step inv hq hls j hj
    have hk := (okRec_iff r).1 h2
    exact ⟨r, m, h1, h3, h5, by rw [ba_len]; omega, h6⟩
  refine ⟨fun j hj => ?_, fun hbig M' q' j hj => ?_⟩
  · obtain ⟨r, m, h1, h3, h5, h7, h6⟩ := key j hj
    have e1 : s.extract next (next + v / 4) = r.s := by
      apply ba_ext
      rw [Lib.extract_data, h6, Nat.add_sub_cancel_left, ← h7, List.take_left]
    obtain ⟨kind, n, b⟩ := r
    simp only at h3 h5 e1 h6 h7
    rw [h3, h5, e1]
    refine ⟨m, h1, ?_⟩
    rw [← List.drop_drop, h6, ← h7, List.drop_left]
  · obtain ⟨r, m, h1, h3, h5, h7, h6⟩ := key j hj
    have h8 := len_drop s next
    rw [h6, List.length_append, h7] at h8
    simp [twoE] at h8
    omega

/-- the bounds of what the loose reader reads -/
def loRec (r : M.Rec) : Prop := 0 ≤ r.kind ∧ r.kind ≤ 3 ∧ 0 ≤ r.n ∧ r.n < 524288
theorem lo_mk (v : Nat) (hv : v < 2097152) (b : ByteArray) : loRec ⟨(v : Int) % 4, (v : Int) / 4, b⟩ := by
  unfold loRec; simp; omega
theorem lo_snoc {L : List M.Rec} {r : M.Rec} (h : ∀ x ∈ L, loRec x) (hr : loRec r) : ∀ x ∈ L ++ [r], loRec x := by
  intro x hx
  rcases List.mem_append.1 hx with hx | hx
  · exact h x hx
  · simp at hx; rw [hx]; exact hr

def LoosePost (s : ByteArray) (w w' : World) (e : Ending) : Prop :=
  ∃ (j : Jn) (a : Option Addr) (c : Nat), e = .returned (.agg #[.int .i64 j.la, .int .i64 j.lb, .int .i64 j.sa, .int .i64 j.sb, .slice a j.l.length c]) ∧ w'.ownsRow (w.heap.size + 2) 57 3 (.slice a j.l.length c) j.l.length (recsC j.l) ∧ Below w.heap.size w w' ∧
    (∀ j', Tells s.data.toList j' → j = j') ∧ j.la < 2097152 ∧ j.lb < 2097152 ∧ j.sa < 65536 ∧ j.sb < 65536 ∧ j.l.length ≤ s.size ∧ ∀ r ∈ j.l, loRec r

/-- what the loose reader tells of the head of a journal -/
theorem lhead {s : ByteArray} {la lb sa sb p q : Nat} (h1 : lsNum (s.data.toList.drop 2) = (la, s.data.toList.drop p)) (h2 : lsNum (s.data.toList.drop p) = (lb, s.data.toList.drop q))
    (h3 : ∀ v t, v < 65536 → s.data.toList.drop q = twoE v ++ t → sa = v) (h4 : ∀ v t, v < 65536 → s.data.toList.drop (q + 2) = twoE v ++ t → sb = v) :
    ∀ j, Tells s.data.toList j → la = j.la ∧ lb = j.lb ∧ sa = j.sa ∧ sb = j.sb ∧ s.data.toList.drop (q + 4) = recsE j.l ++ twoE (sum (bodyE j)) := by
  intro j hj
  obtain ⟨e1, e2⟩ := tells_parts hj
  have b1 := hj.1.la
  have b2 := hj.1.lb
  have e3 := e2.eq
  rw [e3] at e1
  have d2 : s.data.toList.drop 2 = numE j.la ++ (numE j.lb ++ (twoE j.sa ++ (twoE j.sb ++ (recsE j.l ++ twoE (sum (bodyE j)))))) := by
    rw [e1]; simp
    rw [e3]
  rw [d2, lsNum_numE _ _ (by omega)] at h1
  simp only [Prod.mk.injEq] at h1
  rw [← h1.2, lsNum_numE _ _ (by omega)] at h2
  simp only [Prod.mk.injEq] at h2
  have h5 := h3 j.sa _ hj.1.sa h2.2.symm
  have d3 : s.data.toList.drop (q + 2) = twoE j.sb ++ (recsE j.l ++ twoE (sum (bodyE j))) := by
    rw [← List.drop_drop, ← h2.2]; rfl
  have h6 := h4 j.sb _ hj.1.sb d3
  refine ⟨h1.1.symm, h2.1.symm, h5, h6, ?_⟩
  have : q + 4 = (q + 2) + 2 := by omega
  rw [this, ← List.drop_drop, d3]; rfl
end Go.Proofs.Ytlppphmnegdhoaa
