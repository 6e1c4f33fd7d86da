/-
  Two walks at once: what is left of two lists, and what is joined of them: plain mathematics.
-/
import Derived.Test.YtlppphmnegdhoaaJw
import Derived.Test.YtlppphmnegdhoaaLed0
import Derived.Test.YtlppphmnegdhoaaSh1
namespace Go.Proofs.Ytlppphmnegdhoaa
set_option linter.unusedVariables false
open Go.RowKit
open M

/-- what is left of a list behind i records and p bytes -/
def leftE (l : List M.Rec) (i p : Nat) : List Ev := (expL (l.drop i)).drop p
theorem expR_size (r : M.Rec) (h : okRec r = true) : ((expR r).length : Int) = r.n := by
  have hk := (okRec_iff r).1 h
  have hl := ba_len r.s
  unfold expR
  by_cases h0 : r.kind = 0
  · simp [h0]; omega
  · by_cases h1 : r.kind = 1
    · simp [h1]; omega
    · have h2 : r.kind = 2 := by omega
      simp only [h2]
      simp
      have hl2 : r.s.data.toList.length = r.s.size := hl
      omega
theorem leftE_zero (l : List M.Rec) : leftE l 0 0 = expL l := rfl
theorem leftE_end (l : List M.Rec) (p : Nat) : leftE l l.length p = [] := by simp [leftE, expL]
theorem leftE_in (l : List M.Rec) (i p : Nat) (h : i < l.length) (hok : okRec l[i] = true) (hp : (p : Int) < l[i].n) : leftE l i p = expR (pieceR l[i] p) ++ leftE l (i + 1) 0 := by
  have hs := expR_size l[i] hok
  unfold leftE
  rw [(piece_ok hok hp).2, List.drop_eq_getElem_cons h, expL, List.drop_append_of_le_length (by omega)]
  rfl
theorem leftE_pass (l : List M.Rec) (i p n : Nat) (h : i < l.length) (hok : okRec l[i] = true) (hp : (p : Int) < l[i].n) (hn : (p : Int) + n < l[i].n) : leftE l i p = (expR (pieceR l[i] p)).take n ++ leftE l i (p + n) := by
  have hs := expR_size l[i] hok
  rw [leftE_in l i p h hok hp, leftE_in l i (p + n) h hok (by omega), (piece_ok hok hp).2, (piece_ok hok (show ((p + n : Nat) : Int) < l[i].n by omega)).2, ← List.append_assoc]
  congr 1
  rw [← List.drop_drop, List.take_append_drop]

/-- the record at which a walk is, as far as it is left -/
def pcs (l : List M.Rec) (i p : Nat) : M.Rec := if h : i < l.length then pieceR l[i] p else ⟨0, 0, ⟨#[]⟩⟩
/-- a walk is at a place of the list -/
def Wk (l : List M.Rec) (i p : Nat) : Prop := i ≤ l.length ∧ ∀ h : i < l.length, (p : Int) < l[i].n
theorem pcs_in {l : List M.Rec} {i p : Nat} (h : i < l.length) : pcs l i p = pieceR l[i] p := dif_pos h
theorem pcs_out {l : List M.Rec} {i p : Nat} (h : ¬ i < l.length) : pcs l i p = ⟨0, 0, ⟨#[]⟩⟩ := dif_neg h
theorem left_out {l : List M.Rec} {i p : Nat} (h : ¬ i < l.length) : leftE l i p = [] := by
  have e : l.drop i = [] := List.drop_of_length_le (by omega)
  unfold leftE; rw [e]; simp [expL]
theorem wk_next {l : List M.Rec} {i : Nat} (hok : okAll l) (h : i < l.length) : Wk l (i + 1) 0 :=
  ⟨by omega, fun h2 => by have := ((okRec_iff _).1 (hok _ (List.getElem_mem h2))).1; omega⟩
theorem pcs_ok {l : List M.Rec} {i p : Nat} (hok : okAll l) (hw : Wk l i p) (h : i < l.length) : okRec (pcs l i p) = true ∧ leftE l i p = expR (pcs l i p) ++ leftE l (i + 1) 0 ∧ (p : Int) + (pcs l i p).n = l[i].n := by
  have h1 := hok _ (List.getElem_mem h)
  rw [pcs_in h]
  refine ⟨(piece_ok h1 (hw.2 h)).1, leftE_in l i p h h1 (hw.2 h), ?_⟩
  simp only [pieceR]; omega
theorem pcs_n {l : List M.Rec} {i p : Nat} (hok : okAll l) (hA : lenA l ≤ 4096) (hB : lenB l ≤ 4096) (hw : Wk l i p) : 0 ≤ (pcs l i p).n ∧ (pcs l i p).n ≤ 4096 := by
  by_cases h : i < l.length
  · have h1 := ((okRec_iff _).1 (pcs_ok hok hw h).1).1
    have h2 := (pcs_ok hok hw h).2.2
    have h3 := mem_n l hok hA hB l[i] (List.getElem_mem h)
    omega
  · rw [pcs_out h]; simp
theorem pcs_take {l : List M.Rec} {i p n : Nat} (hok : okAll l) (hw : Wk l i p) (h : i < l.length) (hn : (n : Int) ≤ (pcs l i p).n) :
    ((p : Int) + n < l[i].n → leftE l i p = (expR (pcs l i p)).take n ++ leftE l i (p + n)) ∧ (l[i].n ≤ (p : Int) + n → leftE l i p = (expR (pcs l i p)).take n ++ leftE l (i + 1) 0) := by
  have h1 := hok _ (List.getElem_mem h)
  obtain ⟨h2, h3, h4⟩ := pcs_ok hok hw h
  refine ⟨fun hl => ?_, fun hl => ?_⟩
  · rw [pcs_in h]; exact leftE_pass l i p n h h1 (hw.2 h) hl
  · rw [h3]
    congr 1
    rw [List.take_of_length_le]
    have := expR_size _ h2
    omega
theorem no_r {l : List M.Rec} {i p : Nat} (hok : okAll l) (hw : Wk l i p) (hk : (pcs l i p).kind ≠ 2) : ∀ c x, leftE l i p ≠ .r c :: x := by
  intro c x
  by_cases h : i < l.length
  · obtain ⟨h2, h3, h4⟩ := pcs_ok hok hw h
    have h5 := (okRec_iff _).1 h2
    rw [h3]
    obtain ⟨n, hn⟩ : ∃ n, (pcs l i p).n.toNat = n + 1 := ⟨(pcs l i p).n.toNat - 1, by omega⟩
    unfold expR
    rcases h5.2 with ⟨hk0 | hk0, _⟩ | ⟨hk0, _⟩
    · simp [hk0, hn, List.replicate_succ]
    · simp [hk0, hn, List.replicate_succ]
    · exact absurd hk0 hk
  · rw [left_out h]; simp
theorem both_in {l m : List M.Rec} {i p j q : Nat} (hl : okAll l) (hm : okAll m) (hx : Wk l i p) (hy : Wk m j q) (hr : (pcs l i p).kind ≠ 2) (hq : (pcs m j q).kind ≠ 1) (he : evB (leftE l i p) = evA (leftE m j q)) (hor : i < l.length ∨ j < m.length) : i < l.length ∧ j < m.length := by
  by_cases h1 : i < l.length
  · by_cases h2 : j < m.length
    · exact ⟨h1, h2⟩
    · exfalso
      obtain ⟨a1, a2, a3⟩ := pcs_ok hl hx h1
      have a5 := (okRec_iff _).1 a1
      have a4 := (expR_len _ a1).2
      rw [left_out h2, a2, evB_append] at he
      simp only [evA] at he
      have a6 : (pcs l i p).kind = 0 ∨ (pcs l i p).kind = 1 := by omega
      unfold inB at a4
      rw [if_pos a6] at a4
      omega
  · exfalso
    have h2 : j < m.length := hor.resolve_left h1
    obtain ⟨a1, a2, a3⟩ := pcs_ok hm hy h2
    have a5 := (okRec_iff _).1 a1
    have a4 := (expR_len _ a1).1
    rw [left_out h1, a2, evA_append] at he
    simp only [evB] at he
    unfold inA at a4
    rw [if_neg hq] at a4
    omega

/-- what becomes of n places of the text between -/
def bothE (r q : M.Rec) (n : Nat) : List Ev :=
  if r.kind = 0 then (if q.kind = 0 then List.replicate n .k else (q.s.data.toList.take n).map .r) else (if q.kind = 0 then List.replicate n .d else [])
theorem join_both {r q : M.Rec} {n : Nat} (hr : okRec r = true) (hq : okRec q = true) (h2 : r.kind ≠ 2) (h1 : q.kind ≠ 1) (hn : (n : Int) ≤ r.n) (hm : (n : Int) ≤ q.n) (X Y : List Ev) :
    joinE ((expR r).take n ++ X) ((expR q).take n ++ Y) = bothE r q n ++ joinE X Y ∧ evB ((expR r).take n) = n ∧ evA ((expR q).take n) = n := by
  have kr := (okRec_iff _).1 hr
  have kq := (okRec_iff _).1 hq
  have hl := ba_len q.s
  have er : (r.kind = 0 ∧ (expR r).take n = List.replicate n .k) ∨ (r.kind = 1 ∧ (expR r).take n = List.replicate n .d) := by
    rcases kr.2 with ⟨hk | hk, _⟩ | ⟨hk, _⟩
    · left; refine ⟨hk, ?_⟩; simp [expR, hk]; omega
    · right; refine ⟨hk, ?_⟩; simp [expR, hk]; omega
    · exact absurd hk h2
  have eq : (q.kind = 0 ∧ (expR q).take n = List.replicate n .k) ∨ (q.kind = 2 ∧ (expR q).take n = (q.s.data.toList.take n).map .r ∧ (q.s.data.toList.take n).length = n) := by
    rcases kq.2 with ⟨hk | hk, _⟩ | ⟨hk, hs⟩
    · left; refine ⟨hk, ?_⟩; simp [expR, hk]; omega
    · exact absurd hk h1
    · right; refine ⟨hk, ?_, ?_⟩
      · simp [expR, hk, List.map_take]
      · rw [List.length_take]; omega
  unfold bothE
  rcases er with ⟨e1, e2⟩ | ⟨e1, e2⟩ <;> rcases eq with ⟨g1, g2⟩ | ⟨g1, g2, g3⟩
  · rw [e2, g2, if_pos e1, if_pos g1, j_kkn]; exact ⟨rfl, (ev_rep_k n).2, (ev_rep_k n).1⟩
  · rw [e2, g2, if_pos e1, if_neg (by omega)]
    have := j_krn (q.s.data.toList.take n) X Y
    rw [g3] at this
    exact ⟨this, (ev_rep_k n).2, (ev_map_r _).1.trans g3⟩
  · rw [e2, g2, if_neg (by omega), if_pos g1, j_dkn]; exact ⟨rfl, (ev_rep_d n).2, (ev_rep_k n).1⟩
  · rw [e2, g2, if_neg (by omega), if_neg (by omega)]
    have := j_drn (q.s.data.toList.take n) X Y
    rw [g3] at this
    exact ⟨this, (ev_rep_d n).2, (ev_map_r _).1.trans g3⟩
end Go.Proofs.Ytlppphmnegdhoaa
