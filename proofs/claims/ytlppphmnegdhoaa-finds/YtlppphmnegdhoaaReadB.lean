/-
  What the readers of lengths and of a record answer.
-/
import Derived.Test.YtlppphmnegdhoaaReadA
import Derived.Lib.Strings
namespace Go.Proofs.Ytlppphmnegdhoaa
set_option linter.unusedVariables false
open Go.RowKit
open M

/-- what stands behind a part of a text -/
theorem suffix_at (s : ByteArray) (p : Nat) (x r : List UInt8) (hp : p ≤ s.size) (h : s.data.toList.drop p = x ++ r) : p + x.length ≤ s.size ∧ r = s.data.toList.drop (p + x.length) := by
  have hl := len_drop s p
  rw [h] at hl
  simp at hl
  refine ⟨by omega, ?_⟩
  rw [← List.drop_drop, h, List.drop_left]
theorem rdNum_at (s : ByteArray) (p m : Nat) (r : List UInt8) (hp : p ≤ s.size) (h : rdNum (s.data.toList.drop p) = some (m, r)) : ∃ q, p < q ∧ q ≤ s.size ∧ r = s.data.toList.drop q ∧ m < 2097152 := by
  obtain ⟨h1, h2⟩ := rdNum_inv _ _ _ h
  obtain ⟨h3, h4⟩ := suffix_at s p _ _ hp h1
  exact ⟨_, by have := (numE_len m).1; omega, h3, h4, h2⟩
theorem readNumber_none (s : ByteArray) (p : Nat) (w : World) (hs : s.size ≤ maxLen) (hp : p ≤ s.size) (h : rdNum (s.data.toList.drop p) = none) :
    Calls Try.prog 106 #[.string s, .int .i64 p] w fun e w' => e = .returned (.tuple #[.int .i64 0, .int .i64 0, .bool false]) ∧ w' = w := by
  refine (readNumber_calls s p w hs hp).mono ?_
  rintro e w' ⟨rfl, rfl⟩
  exact ⟨by rw [h]; rfl, rfl⟩
theorem readNumber_some (s : ByteArray) (p m q : Nat) (w : World) (hs : s.size ≤ maxLen) (hp : p ≤ s.size) (hq : q ≤ s.size) (h : rdNum (s.data.toList.drop p) = some (m, s.data.toList.drop q)) :
    Calls Try.prog 106 #[.string s, .int .i64 p] w fun e w' => e = .returned (.tuple #[.int .i64 m, .int .i64 q, .bool true]) ∧ w' = w := by
  refine (readNumber_calls s p w hs hp).mono ?_
  rintro e w' ⟨rfl, rfl⟩
  refine ⟨?_, rfl⟩
  have e : s.size - (s.data.toList.drop q).length = q := by rw [len_drop]; omega
  rw [h]; simp only [numAns, e]

theorem rdRec_at (s : ByteArray) (p : Nat) (r : Rec) (t : List UInt8) (hp : p ≤ s.size) (h : rdRec (s.data.toList.drop p) = some (r, t)) : ∃ q, p < q ∧ q ≤ s.size ∧ t = s.data.toList.drop q := by
  obtain ⟨h1, h2⟩ := rdRec_inv _ _ _ h
  obtain ⟨h3, h4⟩ := suffix_at s p _ _ hp h2
  exact ⟨_, by have := recE_len r; omega, h3, h4⟩

set_option maxRecDepth 100000 in
set_option maxHeartbeats 400000 in
theorem readLength_no (s : ByteArray) (p : Nat) (w : World) (hs : s.size ≤ maxLen) (hp : p ≤ s.size) (h : ∀ m r, rdNum (s.data.toList.drop p) = some (m, r) → 4096 < m) :
    Calls Try.prog 97 #[.string s, .int .i64 p] w fun e w' => e = .returned (.tuple #[.int .i64 0, .int .i64 0, .bool false]) ∧ w' = w := by
  match hm : rdNum (s.data.toList.drop p) with
  | none =>
    have HM : Hid (rdNum (s.data.toList.drop p) = none) := hm
    clear h hm
    go_enter Try.func97, Try.ntmps97
    go_wp2_with fail
    refine (readNumber_none s p _ hs hp HM.out).mono ?_
    rintro e w' ⟨rfl, rfl⟩
    go_wp2
    go_ret3
    exact ⟨rfl, rfl⟩
  | some (m, r) =>
    have hb := h m r hm
    obtain ⟨q, hpq, hq, rfl, hm2⟩ := rdNum_at s p m r hp hm
    have HM : Hid (rdNum (s.data.toList.drop p) = some (m, s.data.toList.drop q)) := hm
    clear h hm
    go_enter Try.func97, Try.ntmps97
    go_wp2_with fail
    refine (readNumber_some s p m q _ hs hp hq HM.out).mono ?_
    rintro e w' ⟨rfl, rfl⟩
    have hb2 : (4096 : Int) < (m : Int) := by omega
    go_wp2
    go_ret3
    exact ⟨rfl, rfl⟩

set_option maxRecDepth 100000 in
set_option maxHeartbeats 400000 in
theorem readLength_yes (s : ByteArray) (p m q : Nat) (w : World) (hs : s.size ≤ maxLen) (hp : p ≤ s.size) (hq : q ≤ s.size) (h : rdNum (s.data.toList.drop p) = some (m, s.data.toList.drop q)) (hm : m ≤ 4096) :
    Calls Try.prog 97 #[.string s, .int .i64 p] w fun e w' => e = .returned (.tuple #[.int .i64 m, .int .i64 q, .bool true]) ∧ w' = w := by
  have HM : Hid (rdNum (s.data.toList.drop p) = some (m, s.data.toList.drop q)) := h
  clear h
  go_enter Try.func97, Try.ntmps97
  go_wp2_with fail
  refine (readNumber_some s p m q _ hs hp hq HM.out).mono ?_
  rintro e w' ⟨rfl, rfl⟩
  have hb2 : ¬ (4096 : Int) < (m : Int) := by omega
  go_wp2
  go_ret3
  exact ⟨rfl, rfl⟩

theorem bcell {W w1 : World} (hb : Below W.heap.size W w1) : (∀ b o, b < W.heap.size → w1.cell? ⟨b, o, none⟩ = W.cell? ⟨b, o, none⟩) ∧ (∀ b o, b < W.heap.size → w1.frozen? ⟨b, o, none⟩ = W.frozen? ⟨b, o, none⟩) :=
  ⟨fun b o h => hb.cell (p := ⟨b, o, none⟩) h, fun b o h => hb.frozen (p := ⟨b, o, none⟩) h⟩

/-- what is answered where no record is read -/
def noRec : Value := .tuple #[.agg #[.int .i64 0, .int .i64 0, .string ⟨#[]⟩], .int .i64 0, .bool false]
def someRec (r : M.Rec) (q : Nat) : Value := .tuple #[.agg #[.int .i64 r.kind, .int .i64 r.n, .string r.s], .int .i64 q, .bool true]

set_option maxRecDepth 100000 in
set_option maxHeartbeats 400000 in
theorem readRecord_no1 (s : ByteArray) (p : Nat) (w : World) (hs : s.size ≤ maxLen) (hp : p ≤ s.size) (hm : rdNum (s.data.toList.drop p) = none) :
    Calls Try.prog 98 #[.string s, .int .i64 p] w fun e w' => e = .returned noRec ∧ Below w.heap.size w w' := by
  unfold maxLen at hs
  have HM : Hid (rdNum (s.data.toList.drop p) = none) := hm
  clear hm
  go_enter Try.func98, Try.ntmps98
  go_wp2_with fail
  refine (readNumber_none s p _ hs hp HM.out).mono ?_
  rintro e w' ⟨rfl, rfl⟩
  go_wp2
  exact bodyPost_ret (v := noRec) (by simp [results, Try.results98, go_sem, noRec]) rfl ⟨rfl, (Below.refl _ _).alloc (Nat.le_refl _) _⟩

set_option maxRecDepth 100000 in
set_option maxHeartbeats 400000 in
theorem readRecord_no2 (s : ByteArray) (p m q : Nat) (w : World) (hs : s.size ≤ maxLen) (hp : p ≤ s.size) (hq : q ≤ s.size) (hm : rdNum (s.data.toList.drop p) = some (m, s.data.toList.drop q)) (hm2 : m < 2097152) (h4 : m % 4 = 2) (h5 : s.size - q < m / 4) :
    Calls Try.prog 98 #[.string s, .int .i64 p] w fun e w' => e = .returned noRec ∧ Below w.heap.size w w' := by
  unfold maxLen at hs
  have HM : Hid (rdNum (s.data.toList.drop p) = some (m, s.data.toList.drop q)) := hm
  clear hm
  have h41 : ((m : Int) % 4 == 2) = true := by simp; omega
  go_enter Try.func98, Try.ntmps98
  go_wp2_with fail
  refine (readNumber_some s p m q _ hs hp hq HM.out).mono ?_
  rintro e w' ⟨rfl, rfl⟩
  go_wp2
  exact bodyPost_ret (v := noRec) (by simp [results, Try.results98, go_sem, noRec]) rfl ⟨rfl, ((Below.refl _ _).alloc (Nat.le_refl _) _).alloc (by simp) _⟩

set_option maxRecDepth 100000 in
set_option maxHeartbeats 1000000 in
theorem readRecord_r (s : ByteArray) (p m q : Nat) (ok : Bool) (w : World) (hs : s.size ≤ maxLen) (hp : p ≤ s.size) (hq : q ≤ s.size) (hm : rdNum (s.data.toList.drop p) = some (m, s.data.toList.drop q)) (hm2 : m < 2097152) (h4 : m % 4 = 2) (h5 : ¬ s.size - q < m / 4)
    (hok : okRec ⟨(m : Int) % 4, (m : Int) / 4, s.extract q (q + m / 4)⟩ = ok) :
    Calls Try.prog 98 #[.string s, .int .i64 p] w fun e w' => e = .returned (if ok then someRec ⟨(m : Int) % 4, (m : Int) / 4, s.extract q (q + m / 4)⟩ (q + m / 4) else noRec) ∧ Below w.heap.size w w' := by
  unfold maxLen at hs
  have HM : Hid (rdNum (s.data.toList.drop p) = some (m, s.data.toList.drop q)) := hm
  have HO : Hid (okRec ⟨(m : Int) % 4, (m : Int) / 4, s.extract q (q + m / 4)⟩ = ok) := hok
  clear hm hok
  have h41 : ((m : Int) % 4 == 2) = true := by simp; omega
  have h42 : (m : Int) / 4 ≤ (s.size : Int) - (q : Int) := by omega
  go_enter Try.func98, Try.ntmps98
  go_wp2_with fail
  refine (readNumber_some s p m q _ hs hp hq HM.out).mono ?_
  rintro e w' ⟨rfl, rfl⟩
  go_wp2_with fail
  refine (isRecord_calls ⟨(m : Int) % 4, (m : Int) / 4, s.extract q (q + m / 4)⟩ _).mono ?_
  rintro e w1 ⟨rfl, hb⟩
  rw [HO.out]
  have hb2 := ((Below.refl w.heap.size _).alloc (Nat.le_refl _) _).alloc (by simp) _ |>.trans (hb.mono (by simp; omega))
  obtain ⟨hc, hf⟩ := bcell hb
  have hz : w.heap.size + 1 < w1.heap.size := by have := hb.size; simp at this; omega
  have s0 : w1.cell? ⟨w.heap.size, 0, none⟩ = some (.int .i64 0) := by rw [hc _ _ (by simp; omega)]; simp [go_sem]
  have s1 : w1.cell? ⟨w.heap.size, 1, none⟩ = some (.int .i64 0) := by rw [hc _ _ (by simp; omega)]; simp [go_sem]
  have s2 : w1.cell? ⟨w.heap.size, 2, none⟩ = some (.string ⟨#[]⟩) := by rw [hc _ _ (by simp; omega)]; simp [go_sem]
  clear hb
  cases ok
  · go_wp2
    refine bodyPost_ret (v := noRec) (by simp [results, Try.results98, go_sem, noRec, s0, s1, s2]) rfl ⟨rfl, ?_⟩
    first | exact hb2 | exact hb2.setCell (by simp) _ | exact ((hb2.setCell (by simp) _).setCell (by simp) _).setCell (by simp) _
  · go_wp2
    refine bodyPost_ret (v := someRec ⟨(m : Int) % 4, (m : Int) / 4, s.extract q (q + m / 4)⟩ (q + m / 4)) (by simp [results, Try.results98, go_sem, someRec, s0, s1, s2]) rfl ⟨rfl, ?_⟩
    first | exact hb2 | exact hb2.setCell (by simp) _ | exact ((hb2.setCell (by simp) _).setCell (by simp) _).setCell (by simp) _

set_option maxRecDepth 100000 in
set_option maxHeartbeats 1000000 in
theorem readRecord_k (s : ByteArray) (p m q : Nat) (ok : Bool) (w : World) (hs : s.size ≤ maxLen) (hp : p ≤ s.size) (hq : q ≤ s.size) (hm : rdNum (s.data.toList.drop p) = some (m, s.data.toList.drop q)) (hm2 : m < 2097152) (h4 : ¬ m % 4 = 2)
    (hok : okRec ⟨(m : Int) % 4, (m : Int) / 4, ⟨#[]⟩⟩ = ok) :
    Calls Try.prog 98 #[.string s, .int .i64 p] w fun e w' => e = .returned (if ok then someRec ⟨(m : Int) % 4, (m : Int) / 4, ⟨#[]⟩⟩ (q) else noRec) ∧ Below w.heap.size w w' := by
  unfold maxLen at hs
  have HM : Hid (rdNum (s.data.toList.drop p) = some (m, s.data.toList.drop q)) := hm
  have HO : Hid (okRec ⟨(m : Int) % 4, (m : Int) / 4, ⟨#[]⟩⟩ = ok) := hok
  clear hm hok
  have h41 : ((m : Int) % 4 == 2) = false := by simp; omega
  go_enter Try.func98, Try.ntmps98
  go_wp2_with fail
  refine (readNumber_some s p m q _ hs hp hq HM.out).mono ?_
  rintro e w' ⟨rfl, rfl⟩
  go_wp2_with fail
  refine (isRecord_calls ⟨(m : Int) % 4, (m : Int) / 4, ⟨#[]⟩⟩ _).mono ?_
  rintro e w1 ⟨rfl, hb⟩
  rw [HO.out]
  have hb2 := ((Below.refl w.heap.size _).alloc (Nat.le_refl _) _).alloc (by simp) _ |>.trans (hb.mono (by simp; omega))
  obtain ⟨hc, hf⟩ := bcell hb
  have hz : w.heap.size + 1 < w1.heap.size := by have := hb.size; simp at this; omega
  have s0 : w1.cell? ⟨w.heap.size, 0, none⟩ = some (.int .i64 0) := by rw [hc _ _ (by simp; omega)]; simp [go_sem]
  have s1 : w1.cell? ⟨w.heap.size, 1, none⟩ = some (.int .i64 0) := by rw [hc _ _ (by simp; omega)]; simp [go_sem]
  have s2 : w1.cell? ⟨w.heap.size, 2, none⟩ = some (.string ⟨#[]⟩) := by rw [hc _ _ (by simp; omega)]; simp [go_sem]
  clear hb
  cases ok
  · go_wp2
    refine bodyPost_ret (v := noRec) (by simp [results, Try.results98, go_sem, noRec, s0, s1, s2]) rfl ⟨rfl, ?_⟩
    first | exact hb2 | exact hb2.setCell (by simp) _ | exact ((hb2.setCell (by simp) _).setCell (by simp) _).setCell (by simp) _
  · go_wp2
    refine bodyPost_ret (v := someRec ⟨(m : Int) % 4, (m : Int) / 4, ⟨#[]⟩⟩ (q)) (by simp [results, Try.results98, go_sem, someRec, s0, s1, s2]) rfl ⟨rfl, ?_⟩
    first | exact hb2 | exact hb2.setCell (by simp) _ | exact ((hb2.setCell (by simp) _).setCell (by simp) _).setCell (by simp) _

theorem mk_r (s : ByteArray) (m q : Nat) : mkRec m ((s.data.toList.drop q).take (m / 4)) = ⟨(m : Int) % 4, (m : Int) / 4, s.extract q (q + m / 4)⟩ := by
  have : (⟨⟨(s.data.toList.drop q).take (m / 4)⟩⟩ : ByteArray) = s.extract q (q + m / 4) := by
    apply ba_ext
    rw [Lib.extract_data]
    simp
  simp only [mkRec, this]
theorem readRecord_none (s : ByteArray) (p : Nat) (w : World) (hs : s.size ≤ maxLen) (hp : p ≤ s.size) (h : rdRec (s.data.toList.drop p) = none) :
    Calls Try.prog 98 #[.string s, .int .i64 p] w fun e w' => e = .returned noRec ∧ Below w.heap.size w w' := by
  match hm : rdNum (s.data.toList.drop p) with
  | none => exact readRecord_no1 s p w hs hp hm
  | some (m, r) =>
    obtain ⟨q, hpq, hq, rfl, hm2⟩ := rdNum_at s p m r hp hm
    simp only [rdRec, hm] at h
    by_cases h4 : m % 4 = 2
    · rw [if_pos h4, len_drop] at h
      by_cases h5 : s.size - q < m / 4
      · exact readRecord_no2 s p m q w hs hp hq hm hm2 h4 h5
      · rw [if_neg h5, mk_r] at h
        have hok : okRec ⟨(m : Int) % 4, (m : Int) / 4, s.extract q (q + m / 4)⟩ = false := by
          cases hx : okRec ⟨(m : Int) % 4, (m : Int) / 4, s.extract q (q + m / 4)⟩
          · rfl
          · rw [hx] at h; simp at h
        exact readRecord_r s p m q false w hs hp hq hm hm2 h4 h5 hok
    · rw [if_neg h4] at h
      have hok : okRec ⟨(m : Int) % 4, (m : Int) / 4, ⟨#[]⟩⟩ = false := by
        cases hx : okRec ⟨(m : Int) % 4, (m : Int) / 4, ⟨#[]⟩⟩
        · rfl
        · have hx' : okRec (mkRec m []) = true := hx
          rw [hx'] at h; simp at h
      exact readRecord_k s p m q false w hs hp hq hm hm2 h4 hok
theorem readRecord_some (s : ByteArray) (p q' : Nat) (r : Rec) (w : World) (hs : s.size ≤ maxLen) (hp : p ≤ s.size) (hq' : q' ≤ s.size) (h : rdRec (s.data.toList.drop p) = some (r, s.data.toList.drop q')) :
    Calls Try.prog 98 #[.string s, .int .i64 p] w fun e w' => e = .returned (someRec r q') ∧ Below w.heap.size w w' := by
  match hm : rdNum (s.data.toList.drop p) with
  | none => simp [rdRec, hm] at h
  | some (m, t) =>
    obtain ⟨q, hpq, hq, rfl, hm2⟩ := rdNum_at s p m t hp hm
    simp only [rdRec, hm] at h
    have inj : ∀ a, a ≤ s.size → s.data.toList.drop a = s.data.toList.drop q' → a = q' := by
      intro a ha e
      have h1 := len_drop s a
      rw [e, len_drop] at h1
      omega
    by_cases h4 : m % 4 = 2
    · rw [if_pos h4, len_drop] at h
      by_cases h5 : s.size - q < m / 4
      · rw [if_pos h5] at h; cases h
      · rw [if_neg h5, mk_r] at h
        cases hx : okRec ⟨(m : Int) % 4, (m : Int) / 4, s.extract q (q + m / 4)⟩
        · rw [hx] at h; simp at h
        · rw [hx, if_pos rfl, List.drop_drop] at h
          simp only [Option.some.injEq, Prod.mk.injEq] at h
          obtain ⟨rfl, h2⟩ := h
          obtain rfl := inj _ (by omega) h2
          exact readRecord_r s p m q true w hs hp hq hm hm2 h4 h5 hx
    · rw [if_neg h4] at h
      cases hx : okRec ⟨(m : Int) % 4, (m : Int) / 4, ⟨#[]⟩⟩
      · have hx' : okRec (mkRec m []) = false := hx
        rw [hx'] at h; simp at h
      · have hx' : okRec (mkRec m []) = true := hx
        rw [hx', if_pos rfl] at h
        simp only [Option.some.injEq, Prod.mk.injEq] at h
        obtain ⟨rfl, h2⟩ := h
        obtain rfl := inj _ hq h2
        exact readRecord_k s p m q true w hs hp hq hm hm2 h4 hx

end Go.Proofs.Ytlppphmnegdhoaa
