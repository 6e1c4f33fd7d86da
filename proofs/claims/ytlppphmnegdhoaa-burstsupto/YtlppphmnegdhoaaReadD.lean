/-
  What the reader of a journal's head, the look at its sum, and the reader of a journal answer.
-/
import Derived.Test.YtlppphmnegdhoaaReadC
namespace Go.Proofs.Ytlppphmnegdhoaa
set_option linter.unusedVariables false
open Go.RowKit
open M

/-- the bytes of a head, and what is behind them -/
structure Heads (l : List UInt8) (la lb sa sb : Nat) (t : List UInt8) : Prop where
  eq : l = 82 :: 84 :: (numE la ++ (numE lb ++ (twoE sa ++ (twoE sb ++ t))))
  la : la ≤ 4096
  lb : lb ≤ 4096
  sa : sa < 65536
  sb : sb < 65536
def NoHead (l : List UInt8) : Prop := ∀ la lb sa sb t, Heads l la lb sa sb t → False
theorem Heads.rd {l : List UInt8} {la lb sa sb : Nat} {t : List UInt8} (h : Heads l la lb sa sb t) {l1 : List UInt8} (h1 : l = 82 :: 84 :: l1) :
    rdNum l1 = some (la, numE lb ++ (twoE sa ++ (twoE sb ++ t))) ∧ rdNum (numE lb ++ (twoE sa ++ (twoE sb ++ t))) = some (lb, twoE sa ++ (twoE sb ++ t)) ∧ rdTwo (twoE sa ++ (twoE sb ++ t)) = some (sa, twoE sb ++ t) ∧ rdTwo (twoE sb ++ t) = some (sb, t) := by
  have e := h.eq
  rw [h1] at e
  simp only [List.cons.injEq, true_and] at e
  have := h.la
  have := h.lb
  exact ⟨by rw [e]; exact rdNum_numE _ _ (by omega), rdNum_numE _ _ (by omega), rdTwo_twoE _ _ h.sa, rdTwo_twoE _ _ h.sb⟩
/-- a text whose first two bytes are these -/
theorem magic_iff (s : ByteArray) (h : 2 ≤ s.size) : ((s.extract 0 2).toList == [82, 84]) = true ↔ s.data.toList = 82 :: 84 :: s.data.toList.drop 2 := by
  rw [ByteArray.toList_eq, Lib.extract_data, beq_iff_eq]
  have h0 : 0 < s.size := by omega
  have h1 : 1 < s.size := by omega
  have e0 := get_drop s 0 h0
  have e1 := get_drop s 1 h1
  rw [List.drop_zero] at *
  rw [e1] at e0
  constructor
  · intro h
    rw [e0] at h
    simp at h
    rw [h.1, h.2] at e0
    exact e0
  · intro h
    rw [h]; rfl
theorem magic_no (s : ByteArray) (h : 2 ≤ s.size) (hm : ((s.extract 0 2).toList == [82, 84]) = false) : NoHead s.data.toList := by
  intro la lb sa sb t hh
  have := (magic_iff s h).2 (by rw [hh.eq]; rfl)
  rw [hm] at this
  cases this
theorem short_no (s : ByteArray) (h : s.size < 2) : NoHead s.data.toList := by
  intro la lb sa sb t hh
  have h1 := ba_len s
  rw [hh.eq] at h1
  simp at h1
  omega

def noHead : Value := .tuple #[.agg #[.int .i64 0, .int .i64 0, .int .i64 0, .int .i64 0], .int .i64 0, .bool false]
def HeadPost (s : ByteArray) (w w' : World) (e : Ending) : Prop :=
  (e = .returned noHead ∧ NoHead s.data.toList ∧ Below w.heap.size w w') ∨
  ∃ la lb sa sb q : Nat, e = .returned (.tuple #[.agg #[.int .i64 la, .int .i64 lb, .int .i64 sa, .int .i64 sb], .int .i64 q, .bool true]) ∧ q ≤ s.size ∧ Heads s.data.toList la lb sa sb (s.data.toList.drop q) ∧ Below w.heap.size w w'

set_option maxRecDepth 100000 in
set_option maxHeartbeats 1000000 in
theorem readHead_calls (s : ByteArray) (w : World) (hs : s.size ≤ 12352) :
    Calls Try.prog 79 #[.string s] w fun e w' => HeadPost s w w' e := by
  have hsm : s.size ≤ maxLen := by unfold maxLen; omega
  by_cases h2 : 2 ≤ s.size
  · cases hm : ((s.extract 0 2).toList == [82, 84])
    · have HN : Hid (NoHead s.data.toList) := magic_no s h2 hm
      go_enter Try.func79, Try.ntmps79
      go_wp2
      exact bodyPost_ret (v := noHead) (by simp [results, Try.results79, go_sem, noHead]) rfl (.inl ⟨rfl, HN.out, (Below.refl _ _).alloc (Nat.le_refl _) _⟩)
    · have HE : Hid (s.data.toList = 82 :: 84 :: s.data.toList.drop 2) := (magic_iff s h2).1 hm
      by_cases hA : ∃ la l, rdNum (s.data.toList.drop 2) = some (la, l) ∧ la ≤ 4096
      · obtain ⟨la, l1, hA, hla⟩ := hA
        obtain ⟨q1, hq1, hq1s, rfl, _⟩ := rdNum_at s 2 la l1 h2 hA
        have HA : Hid (rdNum (s.data.toList.drop 2) = some (la, s.data.toList.drop q1)) := hA
        have EA : Hid (s.data.toList.drop 2 = numE la ++ s.data.toList.drop q1) := (rdNum_inv _ _ _ hA).1
        clear hA
        by_cases hB : ∃ lb l, rdNum (s.data.toList.drop q1) = some (lb, l) ∧ lb ≤ 4096
        · obtain ⟨lb, l2, hB, hlb⟩ := hB
          obtain ⟨q2, hq2, hq2s, rfl, _⟩ := rdNum_at s q1 lb l2 hq1s hB
          have HB : Hid (rdNum (s.data.toList.drop q1) = some (lb, s.data.toList.drop q2)) := hB
          have EB : Hid (s.data.toList.drop q1 = numE lb ++ s.data.toList.drop q2) := (rdNum_inv _ _ _ hB).1
          clear hB
          rcases rdTwo_len s q2 with ⟨sa, hC, hq3, hsa⟩ | ⟨hC, hq3⟩
          · have HC : Hid (rdTwo (s.data.toList.drop q2) = some (sa, s.data.toList.drop (q2 + 2))) := hC
            have EC : Hid (s.data.toList.drop q2 = twoE sa ++ s.data.toList.drop (q2 + 2)) := (rdTwo_inv _ _ _ hC).1
            clear hC
            rcases rdTwo_len s (q2 + 2) with ⟨sb, hD, hq4, hsb⟩ | ⟨hD, hq4⟩
            · have HD : Hid (rdTwo (s.data.toList.drop (q2 + 2)) = some (sb, s.data.toList.drop (q2 + 2 + 2))) := hD
              have ED : Hid (s.data.toList.drop (q2 + 2) = twoE sb ++ s.data.toList.drop (q2 + 2 + 2)) := (rdTwo_inv _ _ _ hD).1
              clear hD
              have HY : Hid (Heads s.data.toList la lb sa sb (s.data.toList.drop (q2 + 2 + 2))) :=
                ⟨by rw [← ED.out, ← EC.out, ← EB.out, ← EA.out]; exact HE.out, hla, hlb, hsa, hsb⟩
              go_enter Try.func79, Try.ntmps79
              go_wp2_with fail
              refine (readLength_yes s 2 la q1 _ hsm h2 hq1s HA.out hla).mono ?_
              rintro e w' ⟨rfl, rfl⟩
              go_wp2_with fail
              refine (readLength_yes s q1 lb q2 _ hsm hq1s hq2s HB.out hlb).mono ?_
              rintro e w' ⟨rfl, rfl⟩
              go_wp2_with fail
              refine (readTwo_yes s q2 sa _ hsm hq3 HC.out).mono ?_
              rintro e w' ⟨rfl, rfl⟩
              go_wp2_with fail
              refine (readTwo_yes s (q2 + 2) sb _ hsm hq4 HD.out).mono ?_
              rintro e w' ⟨rfl, rfl⟩
              go_wp2
              refine bodyPost_ret (v := .tuple #[.agg #[.int .i64 la, .int .i64 lb, .int .i64 sa, .int .i64 sb], .int .i64 (q2 + 2 + 2 : Nat), .bool true]) (by simp [results, Try.results79, go_sem]) rfl (.inr ⟨la, lb, sa, sb, q2 + 2 + 2, rfl, hq4, HY.out, ?_⟩)
              exact ((Below.refl _ _).alloc (Nat.le_refl _) _).drew.drew
            · have HN : Hid (NoHead s.data.toList) := fun la' lb' sa' sb' t hh => by
                obtain ⟨r1, r2, r3, r4⟩ := hh.rd HE.out
                rw [HA.out] at r1; simp only [Option.some.injEq, Prod.mk.injEq] at r1
                rw [← r1.2, HB.out] at r2; simp only [Option.some.injEq, Prod.mk.injEq] at r2
                rw [← r2.2, HC.out] at r3; simp only [Option.some.injEq, Prod.mk.injEq] at r3
                rw [← r3.2, hD] at r4; cases r4
              clear hD
              go_enter Try.func79, Try.ntmps79
              go_wp2_with fail
              refine (readLength_yes s 2 la q1 _ hsm h2 hq1s HA.out hla).mono ?_
              rintro e w' ⟨rfl, rfl⟩
              go_wp2_with fail
              refine (readLength_yes s q1 lb q2 _ hsm hq1s hq2s HB.out hlb).mono ?_
              rintro e w' ⟨rfl, rfl⟩
              go_wp2_with fail
              refine (readTwo_yes s q2 sa _ hsm hq3 HC.out).mono ?_
              rintro e w' ⟨rfl, rfl⟩
              go_wp2_with fail
              refine (readTwo_no s (q2 + 2) _ hsm hq3 hq4).mono ?_
              rintro e w' ⟨rfl, rfl⟩
              go_wp2
              exact bodyPost_ret (v := noHead) (by simp [results, Try.results79, go_sem, noHead]) rfl (.inl ⟨rfl, HN.out, ((Below.refl _ _).alloc (Nat.le_refl _) _).drew⟩)
          · have HN : Hid (NoHead s.data.toList) := fun la' lb' sa' sb' t hh => by
              obtain ⟨r1, r2, r3, r4⟩ := hh.rd HE.out
              rw [HA.out] at r1; simp only [Option.some.injEq, Prod.mk.injEq] at r1
              rw [← r1.2, HB.out] at r2; simp only [Option.some.injEq, Prod.mk.injEq] at r2
              rw [← r2.2, hC] at r3; cases r3
            clear hC
            go_enter Try.func79, Try.ntmps79
            go_wp2_with fail
            refine (readLength_yes s 2 la q1 _ hsm h2 hq1s HA.out hla).mono ?_
            rintro e w' ⟨rfl, rfl⟩
            go_wp2_with fail
            refine (readLength_yes s q1 lb q2 _ hsm hq1s hq2s HB.out hlb).mono ?_
            rintro e w' ⟨rfl, rfl⟩
            go_wp2_with fail
            refine (readTwo_no s q2 _ hsm hq2s hq3).mono ?_
            rintro e w' ⟨rfl, rfl⟩
            go_wp2
            exact bodyPost_ret (v := noHead) (by simp [results, Try.results79, go_sem, noHead]) rfl (.inl ⟨rfl, HN.out, (Below.refl _ _).alloc (Nat.le_refl _) _⟩)
        · have HN : Hid (NoHead s.data.toList) := fun la' lb' sa' sb' t hh => by
            obtain ⟨r1, r2, r3, r4⟩ := hh.rd HE.out
            rw [HA.out] at r1; simp only [Option.some.injEq, Prod.mk.injEq] at r1
            rw [← r1.2] at r2
            exact hB ⟨lb', _, r2, hh.lb⟩
          have HB : Hid (∀ m r, rdNum (s.data.toList.drop q1) = some (m, r) → 4096 < m) := fun m r h => by
            rcases Nat.lt_or_ge 4096 m with h3 | h3
            · exact h3
            · exact absurd ⟨m, r, h, h3⟩ hB
          clear hB
          go_enter Try.func79, Try.ntmps79
          go_wp2_with fail
          refine (readLength_yes s 2 la q1 _ hsm h2 hq1s HA.out hla).mono ?_
          rintro e w' ⟨rfl, rfl⟩
          go_wp2_with fail
          refine (readLength_no s q1 _ hsm hq1s HB.out).mono ?_
          rintro e w' ⟨rfl, rfl⟩
          go_wp2
          exact bodyPost_ret (v := noHead) (by simp [results, Try.results79, go_sem, noHead]) rfl (.inl ⟨rfl, HN.out, (Below.refl _ _).alloc (Nat.le_refl _) _⟩)
      · have HN : Hid (NoHead s.data.toList) := fun la lb sa sb t hh => hA ⟨la, _, (hh.rd HE.out).1, hh.la⟩
        have HA : Hid (∀ m r, rdNum (s.data.toList.drop 2) = some (m, r) → 4096 < m) := fun m r h => by
          rcases Nat.lt_or_ge 4096 m with h3 | h3
          · exact h3
          · exact absurd ⟨m, r, h, h3⟩ hA
        clear hA
        go_enter Try.func79, Try.ntmps79
        go_wp2_with fail
        refine (readLength_no s 2 _ hsm h2 HA.out).mono ?_
        rintro e w' ⟨rfl, rfl⟩
        go_wp2
        exact bodyPost_ret (v := noHead) (by simp [results, Try.results79, go_sem, noHead]) rfl (.inl ⟨rfl, HN.out, (Below.refl _ _).alloc (Nat.le_refl _) _⟩)
  · have HN : Hid (NoHead s.data.toList) := short_no s (by omega)
    have h3 : (s.size : Int) < 2 := by omega
    go_enter Try.func79, Try.ntmps79
    go_wp2
    exact bodyPost_ret (v := noHead) (by simp [results, Try.results79, go_sem, noHead]) rfl (.inl ⟨rfl, HN.out, (Below.refl _ _).alloc (Nat.le_refl _) _⟩)

/-- is the sum at a text's end right? -/
def UnsealPost (j : ByteArray) (w w' : World) (e : Ending) : Prop :=
  (e = .returned (.tuple #[.string ⟨#[]⟩, .bool false]) ∧ (∀ b, j.data.toList = b ++ twoE (sum b) → False) ∧ Below w.heap.size w w') ∨
  ∃ b : ByteArray, e = .returned (.tuple #[.string b, .bool true]) ∧ b.size ≤ j.size ∧ j.data.toList = b.data.toList ++ twoE (sum b.data.toList) ∧ Below w.heap.size w w'

theorem seal_cut (j : ByteArray) (b : List UInt8) (h : j.data.toList = b ++ twoE (sum b)) : 2 ≤ j.size ∧ b = (j.extract 0 (j.size - 2)).data.toList ∧ rdTwo (j.data.toList.drop (j.size - 2)) = some (sum b, j.data.toList.drop (j.size - 2 + 2)) := by
  have hl := ba_len j
  have hb : b.length + 2 = j.size := by rw [← hl, h]; simp [twoE]
  have e : j.size - 2 = b.length := by omega
  refine ⟨by omega, ?_, ?_⟩
  · rw [Lib.extract_data, h, e]; simp
  · have h0 : j.data.toList.drop (j.size - 2 + 2) = [] := List.drop_of_length_le (by omega)
    rw [h0, h, e, List.drop_left]
    have := rdTwo_twoE (sum b) [] (sum_lt b)
    rwa [List.append_nil] at this

set_option maxRecDepth 100000 in
set_option maxHeartbeats 1000000 in
theorem unsealed_calls (j : ByteArray) (w : World) (hs : j.size ≤ 12352) :
    Calls Try.prog 78 #[.string j] w fun e w' => UnsealPost j w w' e := by
  have hsm : j.size ≤ maxLen := by unfold maxLen; omega
  by_cases h2 : 2 ≤ j.size
  · rcases rdTwo_len j (j.size - 2) with ⟨v, hv, hv2, hv3⟩ | ⟨hv, hv2⟩
    · have HV : Hid (rdTwo (j.data.toList.drop (j.size - 2)) = some (v, j.data.toList.drop (j.size - 2 + 2))) := hv
      clear hv
      obtain ⟨p, hp⟩ : ∃ p, p = j.size - 2 := ⟨_, rfl⟩
      have hp2 : p + 2 = j.size := by omega
      rw [← hp] at HV hv2
      clear hp
      have hx : (j.extract 0 p).size ≤ maxLen := by rw [ByteArray.size_extract]; omega
      have hps : ((j.size : Int) - 2) = (p : Int) := by omega
      have hl := sum_lt (j.extract 0 p).data.toList
      by_cases hq : v = sum (j.extract 0 p).data.toList
      · have hq1 : ((v : Int) == ((sum (j.extract 0 p).data.toList : Nat) : Int)) = true := by rw [beq_iff_eq]; omega
        have HY : Hid (j.data.toList = (j.extract 0 p).data.toList ++ twoE (sum (j.extract 0 p).data.toList)) := by
          show j.data.toList = _
          have e := (rdTwo_inv _ _ _ HV.out).1
          have h0 : j.data.toList.drop (p + 2) = [] := List.drop_of_length_le (by rw [ba_len]; omega)
          rw [h0, List.append_nil] at e
          rw [← hq, ← e, Lib.extract_data]; simp
        have HZ : Hid ((j.extract 0 p).size ≤ j.size) := by
          show _ ≤ _
          rw [ByteArray.size_extract]; omega
        generalize hbd : sum (j.extract 0 p).data.toList = sm at *
        have HB : Hid (sum (j.extract 0 p).data.toList = sm) := hbd
        clear hbd hq
        go_enter Try.func78, Try.ntmps78
        go_wp2_with fail
        refine (readTwo_yes j p v _ hsm hv2 HV.out).mono ?_
        rintro e w' ⟨rfl, rfl⟩
        go_wp2_with fail
        refine (sum_calls (j.extract 0 p) _ hx).mono ?_
        rintro e w' ⟨rfl, rfl⟩
        rw [HB.out]
        go_wp2
        go_ret2
        exact .inr ⟨_, rfl, HZ.out, by rw [HB.out]; exact HY.out, (Below.refl _ _).drew⟩
      · have hq1 : ((v : Int) == ((sum (j.extract 0 p).data.toList : Nat) : Int)) = false := by rw [beq_eq_false_iff_ne]; omega
        have HN : Hid (∀ b, j.data.toList = b ++ twoE (sum b) → False) := fun b hb => by
          obtain ⟨_, h4, h5⟩ := seal_cut j b hb
          have e : j.size - 2 = p := by omega
          rw [e] at h4 h5
          rw [HV.out] at h5
          simp only [Option.some.injEq, Prod.mk.injEq] at h5
          rw [h4] at h5
          exact hq h5.1
        generalize hbd : sum (j.extract 0 p).data.toList = sm at *
        have HB : Hid (sum (j.extract 0 p).data.toList = sm) := hbd
        clear hbd hq
        go_enter Try.func78, Try.ntmps78
        go_wp2_with fail
        refine (readTwo_yes j p v _ hsm hv2 HV.out).mono ?_
        rintro e w' ⟨rfl, rfl⟩
        go_wp2_with fail
        refine (sum_calls (j.extract 0 p) _ hx).mono ?_
        rintro e w' ⟨rfl, rfl⟩
        rw [HB.out]
        go_wp2
        go_ret2
        exact .inl ⟨rfl, HN.out, (Below.refl _ _).drew⟩
    · omega
  · have HN : Hid (∀ b, j.data.toList = b ++ twoE (sum b) → False) := fun b hb => h2 (seal_cut j b hb).1
    have h3 : (j.size : Int) - 2 < 0 := by omega
    go_enter Try.func78, Try.ntmps78
    go_wp2
    go_ret2
    exact .inl ⟨rfl, HN.out, Below.refl _ _⟩

def noJn : Value := .tuple #[.agg #[.int .i64 0, .int .i64 0, .int .i64 0, .int .i64 0], .slice none 0 0, .bool false]
/-- what the reader of a journal answers -/
def ReadPost (s : ByteArray) (w w' : World) (e : Ending) : Prop :=
  (e = .returned noJn ∧ (∀ j, Tells s.data.toList j → False) ∧ Below w.heap.size w w') ∨
  ∃ (j : Jn) (v : Value), e = .returned (.tuple #[.agg #[.int .i64 j.la, .int .i64 j.lb, .int .i64 j.sa, .int .i64 j.sb], v, .bool true]) ∧ Tells s.data.toList j ∧ w'.ownsRow w.heap.size 57 3 v j.l.length (recsC j.l) ∧ Below w.heap.size w w'

theorem tells_parts {s : List UInt8} {j : Jn} (h : Tells s j) : s = bodyE j ++ twoE (sum (bodyE j)) ∧ Heads (bodyE j) j.la j.lb j.sa j.sb (recsE j.l) := by
  refine ⟨h.2.symm, ⟨?_, h.1.la, h.1.lb, h.1.sa, h.1.sb⟩⟩
  simp [bodyE, headE]
theorem tells_body {s b : List UInt8} {j : Jn} (hs : s = b ++ twoE (sum b)) (h : Tells s j) : b = bodyE j := by
  have h2 := (tells_parts h).1
  rw [hs] at h2
  exact (List.append_inj' h2 (by simp [twoE])).1
theorem heads_same {l : List UInt8} {la lb sa sb la' lb' sa' sb' : Nat} {t t' : List UInt8} (h : Heads l la lb sa sb t) (h' : Heads l la' lb' sa' sb' t') : la = la' ∧ lb = lb' ∧ sa = sa' ∧ sb = sb' ∧ t = t' := by
  obtain ⟨r1, r2, r3, r4⟩ := h.rd (l1 := numE la ++ (numE lb ++ (twoE sa ++ (twoE sb ++ t)))) h.eq
  obtain ⟨q1, q2, q3, q4⟩ := h'.rd (l1 := numE la ++ (numE lb ++ (twoE sa ++ (twoE sb ++ t)))) h.eq
  rw [r1] at q1; simp only [Option.some.injEq, Prod.mk.injEq] at q1
  rw [← q1.2, r2] at q2; simp only [Option.some.injEq, Prod.mk.injEq] at q2
  rw [← q2.2, r3] at q3; simp only [Option.some.injEq, Prod.mk.injEq] at q3
  rw [← q3.2, r4] at q4; simp only [Option.some.injEq, Prod.mk.injEq] at q4
  exact ⟨q1.1, q2.1, q3.1, q4.1, q4.2⟩

theorem ownsRow_base {w : World} {base base' : Nat} {e : TypeId} {size : Nat} {v : Value} {n : Nat} {xs : List Value} (h : w.ownsRow base e size v n xs) (hb : base' ≤ base) : w.ownsRow base' e size v n xs := by
  obtain ⟨h1, h2 | ⟨g, cap, cur, h3, h4, h5⟩⟩ := h
  · exact ⟨h1, .inl h2⟩
  · exact ⟨h1, .inr ⟨g, cap, cur, h3, by omega, h5⟩⟩

set_option maxRecDepth 100000 in
set_option maxHeartbeats 1000000 in
theorem read_calls (s : ByteArray) (w : World) (hs : s.size ≤ 12352) :
    Calls Try.prog 55 #[.string s] w fun e w' => ReadPost s w w' e := by
  go_enter Try.func55, Try.ntmps55
  go_wp2_with fail
  refine (unsealed_calls s _ hs).mono ?_
  rintro e w1 (⟨rfl, hno, hb⟩ | ⟨b, rfl, hbs, hb1, hb⟩)
  · have hb2 := ((Below.refl w.heap.size _).alloc (Nat.le_refl _) _).trans (hb.mono (by simp))
    have s0 : w1.cell? ⟨w.heap.size, 0, none⟩ = some (.int .i64 0) := by rw [(bcell hb).1 _ _ (by simp)]; simp [go_sem]
    have s1 : w1.cell? ⟨w.heap.size, 1, none⟩ = some (.int .i64 0) := by rw [(bcell hb).1 _ _ (by simp)]; simp [go_sem]
    have s2 : w1.cell? ⟨w.heap.size, 2, none⟩ = some (.int .i64 0) := by rw [(bcell hb).1 _ _ (by simp)]; simp [go_sem]
    have s3 : w1.cell? ⟨w.heap.size, 3, none⟩ = some (.int .i64 0) := by rw [(bcell hb).1 _ _ (by simp)]; simp [go_sem]
    have hf := (bcell hb).2
    have HN : Hid (∀ j, Tells s.data.toList j → False) := fun j hj => hno _ (tells_parts hj).1
    clear hb hno
    go_wp2
    refine bodyPost_ret (v := noJn) (by simp [results, Try.results55, go_sem, noJn, s0, s1, s2, s3]) rfl (.inl ⟨rfl, HN.out, ?_⟩)
    first | exact hb2 | exact (((hb2.setCell (by simp) _).setCell (by simp) _).setCell (by simp) _).setCell (by simp) _
  · have hb2 := ((Below.refl w.heap.size _).alloc (Nat.le_refl _) _).trans (hb.mono (by simp))
    have s0 : w1.cell? ⟨w.heap.size, 0, none⟩ = some (.int .i64 0) := by rw [(bcell hb).1 _ _ (by simp)]; simp [go_sem]
    have s1 : w1.cell? ⟨w.heap.size, 1, none⟩ = some (.int .i64 0) := by rw [(bcell hb).1 _ _ (by simp)]; simp [go_sem]
    have s2 : w1.cell? ⟨w.heap.size, 2, none⟩ = some (.int .i64 0) := by rw [(bcell hb).1 _ _ (by simp)]; simp [go_sem]
    have s3 : w1.cell? ⟨w.heap.size, 3, none⟩ = some (.int .i64 0) := by rw [(bcell hb).1 _ _ (by simp)]; simp [go_sem]
    have hz1 : w.heap.size < w1.heap.size := by have := hb.size; simp at this; omega
    have f0 : w1.frozen? ⟨w.heap.size, 0, none⟩ = false := by rw [(bcell hb).2 _ _ (by simp)]; simp [go_sem]
    have f1 : w1.frozen? ⟨w.heap.size, 1, none⟩ = false := by rw [(bcell hb).2 _ _ (by simp)]; simp [go_sem]
    have f2 : w1.frozen? ⟨w.heap.size, 2, none⟩ = false := by rw [(bcell hb).2 _ _ (by simp)]; simp [go_sem]
    have f3 : w1.frozen? ⟨w.heap.size, 3, none⟩ = false := by rw [(bcell hb).2 _ _ (by simp)]; simp [go_sem]
    have HB : Hid (s.data.toList = b.data.toList ++ twoE (sum b.data.toList)) := hb1
    clear hb hb1
    go_wp2_with fail
    refine (readHead_calls b _ (by omega)).mono ?_
    rintro e w2 (⟨rfl, hno, hb⟩ | ⟨la, lb, sa, sb, q, rfl, hq, hhd, hb⟩)
    · have hb3 := hb2.trans (hb.mono (by omega))
      have t0 := ((bcell hb).1 _ 0 hz1).trans s0
      have t1 := ((bcell hb).1 _ 1 hz1).trans s1
      have t2 := ((bcell hb).1 _ 2 hz1).trans s2
      have t3 := ((bcell hb).1 _ 3 hz1).trans s3
      have g0 := ((bcell hb).2 _ 0 hz1).trans f0
      have g1 := ((bcell hb).2 _ 1 hz1).trans f1
      have g2 := ((bcell hb).2 _ 2 hz1).trans f2
      have g3 := ((bcell hb).2 _ 3 hz1).trans f3
      have hz2 : w.heap.size < w2.heap.size := by have := hb.size; omega
      have HN : Hid (∀ j, Tells s.data.toList j → False) := fun j hj => by
        have h := (tells_parts hj).2
        rw [← tells_body HB.out hj] at h
        exact hno _ _ _ _ _ h
      clear hb hno hb2 s0 s1 s2 s3 f0 f1 f2 f3
      unfold noHead
      go_wp2
      refine bodyPost_ret (v := noJn) (by simp [results, Try.results55, go_sem, noJn, t0, t1, t2, t3, hz2]) rfl (.inl ⟨rfl, HN.out, ?_⟩)
      exact ((((hb3.setCell (by simp) _).setCell (by simp) _).setCell (by simp) _).setCell (by simp) _).alloc (by simp; omega) _
    · have hb3 := hb2.trans (hb.mono (by omega))
      have t0 := ((bcell hb).1 _ 0 hz1).trans s0
      have t1 := ((bcell hb).1 _ 1 hz1).trans s1
      have t2 := ((bcell hb).1 _ 2 hz1).trans s2
      have t3 := ((bcell hb).1 _ 3 hz1).trans s3
      have g0 := ((bcell hb).2 _ 0 hz1).trans f0
      have g1 := ((bcell hb).2 _ 1 hz1).trans f1
      have g2 := ((bcell hb).2 _ 2 hz1).trans f2
      have g3 := ((bcell hb).2 _ 3 hz1).trans f3
      have hz2 : w.heap.size < w2.heap.size := by have := hb.size; omega
      have HH : Hid (Heads b.data.toList la lb sa sb (b.data.toList.drop q)) := hhd
      clear hb hb2 hhd s0 s1 s2 s3 f0 f1 f2 f3
      go_wp2_with fail
      refine (readRecords_calls b q la lb sa sb _ (by omega) hq HH.out.la HH.out.lb).mono ?_
      rintro e w3 ⟨ok, v, L, rfl, hb, hyes, hno⟩
      have hz3 : w.heap.size < (w2.alloc (Obj.cells #[.int .i64 la, .int .i64 lb, .int .i64 sa, .int .i64 sb] 60)).heap.size := by simp; omega
      have hb4 := (hb3.alloc (by omega) _).trans (hb.mono (by simp; omega))
      have s0 := ((bcell hb).1 _ 0 hz3).trans (by simpa [go_sem, hz2] using t0)
      have s1 := ((bcell hb).1 _ 1 hz3).trans (by simpa [go_sem, hz2] using t1)
      have s2 := ((bcell hb).1 _ 2 hz3).trans (by simpa [go_sem, hz2] using t2)
      have s3 := ((bcell hb).1 _ 3 hz3).trans (by simpa [go_sem, hz2] using t3)
      have f0 := ((bcell hb).2 _ 0 hz3).trans (by simpa [go_sem, hz2] using g0)
      have f1 := ((bcell hb).2 _ 1 hz3).trans (by simpa [go_sem, hz2] using g1)
      have f2 := ((bcell hb).2 _ 2 hz3).trans (by simpa [go_sem, hz2] using g2)
      have f3 := ((bcell hb).2 _ 3 hz3).trans (by simpa [go_sem, hz2] using g3)
      have c0 : w3.cell? ⟨w2.heap.size, 0, none⟩ = some (.int .i64 la) := by rw [(bcell hb).1 _ _ (by simp)]; simp [go_sem]
      have c1 : w3.cell? ⟨w2.heap.size, 1, none⟩ = some (.int .i64 lb) := by rw [(bcell hb).1 _ _ (by simp)]; simp [go_sem]
      have c2 : w3.cell? ⟨w2.heap.size, 2, none⟩ = some (.int .i64 sa) := by rw [(bcell hb).1 _ _ (by simp)]; simp [go_sem]
      have c3 : w3.cell? ⟨w2.heap.size, 3, none⟩ = some (.int .i64 sb) := by rw [(bcell hb).1 _ _ (by simp)]; simp [go_sem]
      cases ok
      · have HN : Hid (∀ j, Tells s.data.toList j → False) := fun j hj => by
          have h := (tells_parts hj).2
          rw [← tells_body HB.out hj] at h
          obtain ⟨e1, e2, e3, e4, e5⟩ := heads_same HH.out h
          exact (hno rfl).2 j.l hj.1.ok e5 (by rw [hj.1.a, e1]) (by rw [hj.1.b, e2])
        have hv := (hno rfl).1
        clear hyes hno hb
        subst hv
        go_wp2
        refine bodyPost_ret (v := noJn) (by simp [results, Try.results55, go_sem, noJn, s0, s1, s2, s3]) rfl (.inl ⟨rfl, HN.out, ?_⟩)
        first | exact hb4 | exact (((hb4.setCell (by simp) _).setCell (by simp) _).setCell (by simp) _).setCell (by simp) _
      · obtain ⟨h1, h2, h3, h4, h5⟩ := hyes rfl
        have HT : Hid (Tells s.data.toList ⟨la, lb, sa, sb, L⟩) := by
          refine ⟨⟨h1, h3, h4, HH.out.la, HH.out.lb, HH.out.sa, HH.out.sb⟩, ?_⟩
          have e : bodyE ⟨la, lb, sa, sb, L⟩ = b.data.toList := by
            have := HH.out.eq
            rw [h2] at this
            rw [this]; simp [bodyE, headE]
          rw [HB.out, ← e]; rfl
        have hown := h5
        clear hyes hno hb h1 h2 h3 h4 h5
        have hown2 := ownsRow_base (base' := w.heap.size + 1) hown (by simp; omega)
        clear hown
        go_wp2
        refine bodyPost_ret (v := .tuple #[.agg #[.int .i64 la, .int .i64 lb, .int .i64 sa, .int .i64 sb], v, .bool true]) (by simp [results, Try.results55, go_sem, s0, s1, s2, s3]) rfl (.inr ⟨⟨la, lb, sa, sb, L⟩, v, rfl, HT.out, ?_, ?_⟩)
        · exact ownsRow_base (base := w.heap.size + 1) (ownsRow_setCell_below (ownsRow_setCell_below (ownsRow_setCell_below (ownsRow_setCell_below hown2 (by simp) _) (by simp) _) (by simp) _) (by simp) _) (by omega)
        · exact (((hb4.setCell (by simp) _).setCell (by simp) _).setCell (by simp) _).setCell (by simp) _
end Go.Proofs.Ytlppphmnegdhoaa
