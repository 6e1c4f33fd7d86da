import Derived.Test.YtlppphmnegdhoabMg11
/-
  The document's scripts: asked.
-/
namespace Go.Proofs.Ytlppphmnegdhoab
set_option linter.unusedVariables false
set_option maxRecDepth 100000
open Go.RowKit
open M

/-- a command's cells behind its name was looked at -/
def Lb (nm : Nat) (cs : List Value) (s : ByteArray) (cs' : List Value) : Prop := cs'[11]? = cs[11]? ∧ cs'[13]? = if labelled nm then some (.string s) else cs[13]?
def AkPost (b k nm : Nat) (cs : List Value) (s : ByteArray) (w : World) (e : Ending) (w' : World) : Prop :=
  e = .returned (.bool (askedM k nm s.data.toList)) ∧ ∃ cs', CmdAt w' b cs' ∧ Lb nm cs s cs' ∧ Apt b w w'
theorem Lb.of_sm {nm : Nat} {cs cs' : List Value} {s : ByteArray} (h : Sm cs cs') (hl : labelled nm = false) : Lb nm cs s cs' := ⟨h.2.2.1, by rw [hl]; exact h.2.2.2⟩
theorem Lb.lab {nm : Nat} {cs : List Value} {s : ByteArray} (h : cs.length = 23) (hl : labelled nm = true) : Lb nm cs s (cs.set 13 (.string s)) := ⟨by rw [List.getElem?_set_ne (by decide)], by rw [hl, List.getElem?_set_self (by omega)]; rfl⟩
theorem emp_data (s : ByteArray) : s.data.toList.isEmpty = s.toList.isEmpty := by rw [ByteArray.toList_eq]
set_option maxRecDepth 100000 in
set_option maxHeartbeats 2000000 in
theorem asked_calls (b k nm : Nat) (cs : List Value) (s : ByteArray) (w : World) (hs : s.size ≤ 400) (hb : CmdAt w b cs) (hk0 : cs[0]? = some (.int .i64 k)) (hnm : cs[11]? = some (.int .u8 nm)) (hn2 : nm < 256) :
    Calls Try.prog 17 #[.pointer (some ⟨b, 0, none⟩), .string s] w fun e w' => AkPost b k nm cs s w e w' := by
  have c0 := hb.1.c 0 _ hk0
  have c11 := hb.1.c 11 _ hnm
  have hlen := hb.2
  have HKK : Hid (∀ kk, (kk == 0) = true ↔ kk = 0) := fun kk => by simp
  obtain ⟨fr, hfr⟩ : ∃ fr, decide (k = 0) = fr := ⟨_, rfl⟩
  have hfr2 : ((k : Int) == 0) = fr := by rw [← hfr, Bool.eq_iff_iff]; simp
  obtain ⟨em, hem⟩ : ∃ em, s.toList.isEmpty = em := ⟨_, rfl⟩
  have HFR : Hid (decide (k = 0) = fr) := hfr
  have HEM : Hid (s.data.toList.isEmpty = em) := by show _ = _; rw [emp_data]; exact hem
  clear hfr HKK
  by_cases h125 : nm = 125
  · have n125 : ((nm : Int) == 125) = true := by simp [h125]
    have HA : Hid (askedM k nm s.data.toList = (fr && em)) := by
      show _ = _
      unfold askedM
      rw [if_pos h125, HFR.out, HEM.out]
    have HLB : Hid (labelled nm = false) := by show _ = _; subst h125; rfl
    clear h125
    go_enter Try.func17, Try.ntmps17
    cases fr
    · go_wp2
      go_ret
      exact ⟨ret_bool (by rw [HA.out]; try rfl), cs, hb, Lb.of_sm (Sm.refl hlen) HLB.out, Apt.refl _ _⟩
    · cases em
      · go_wp2
        go_ret
        exact ⟨ret_bool (by rw [HA.out]; try rfl), cs, hb, Lb.of_sm (Sm.refl hlen) HLB.out, Apt.refl _ _⟩
      · go_wp2
        go_ret
        exact ⟨ret_bool (by rw [HA.out]; try rfl), cs, hb, Lb.of_sm (Sm.refl hlen) HLB.out, Apt.refl _ _⟩
  have n125 : ((nm : Int) == 125) = false := by simp; omega
  by_cases h58 : nm = 58
  · have n58 : ((nm : Int) == 58) = true := by simp [h58]
    have HA : Hid (askedM k nm s.data.toList = (fr && letM s.data.toList)) := by
      show _ = _
      unfold askedM
      rw [if_neg h125, if_pos h58, HFR.out]
    have HLB : Hid (labelled nm = true) := by show _ = _; subst h58; rfl
    clear h125 h58
    obtain ⟨v13, c13⟩ := hb.1.get 13 (by omega)
    have f13 := hb.1.fz 13 (by omega)
    have hA1 : CmdAt (w.setCell ⟨b, 13, none⟩ (.string s)) b (cs.set 13 (.string s)) := ⟨hb.1.set 13 (by omega) _ rfl, by rw [List.length_set]; exact hlen⟩
    have hO1 : Apt b w (w.setCell ⟨b, 13, none⟩ (.string s)) := Apt.of_only (Only.set _ _ _ _)
    go_enter Try.func17, Try.ntmps17
    cases fr
    · go_wp2
      go_ret
      exact ⟨ret_bool (by rw [HA.out]; try rfl), _, hA1, Lb.lab hlen HLB.out, hO1⟩
    · go_wp2_with fail
      refine (letter_calls s _ (by omega)).mono ?_
      rintro e w2 ⟨rfl, rfl⟩
      generalize letM s.data.toList = lt at *
      go_wp2
      go_ret
      exact ⟨ret_bool (by rw [HA.out]; try rfl), _, hA1, Lb.lab hlen HLB.out, hO1⟩
  have n58 : ((nm : Int) == 58) = false := by simp; omega
  by_cases h98 : nm = 98
  · have n98 : ((nm : Int) == 98) = true := by simp [h98]
    have HA : Hid (askedM k nm s.data.toList = (em || letM s.data.toList)) := by
      show _ = _
      unfold askedM
      rw [if_neg h125, if_neg h58, if_pos (.inl h98), HEM.out]
    have HLB : Hid (labelled nm = true) := by show _ = _; subst h98; rfl
    clear h125 h58 h98
    obtain ⟨v13, c13⟩ := hb.1.get 13 (by omega)
    have f13 := hb.1.fz 13 (by omega)
    have hA1 : CmdAt (w.setCell ⟨b, 13, none⟩ (.string s)) b (cs.set 13 (.string s)) := ⟨hb.1.set 13 (by omega) _ rfl, by rw [List.length_set]; exact hlen⟩
    have hO1 : Apt b w (w.setCell ⟨b, 13, none⟩ (.string s)) := Apt.of_only (Only.set _ _ _ _)
    go_enter Try.func17, Try.ntmps17
    cases em
    · go_wp2_with fail
      refine (letter_calls s _ (by omega)).mono ?_
      rintro e w2 ⟨rfl, rfl⟩
      generalize letM s.data.toList = lt at *
      go_wp2
      go_ret
      exact ⟨ret_bool (by rw [HA.out]; try rfl), _, hA1, Lb.lab hlen HLB.out, hO1⟩
    · go_wp2
      go_ret
      exact ⟨ret_bool (by rw [HA.out]; try rfl), _, hA1, Lb.lab hlen HLB.out, hO1⟩
  have n98 : ((nm : Int) == 98) = false := by simp; omega
  by_cases h116 : nm = 116
  · have n116 : ((nm : Int) == 116) = true := by simp [h116]
    have HA : Hid (askedM k nm s.data.toList = (em || letM s.data.toList)) := by
      show _ = _
      unfold askedM
      rw [if_neg h125, if_neg h58, if_pos (.inr h116), HEM.out]
    have HLB : Hid (labelled nm = true) := by show _ = _; subst h116; rfl
    clear h125 h58 h98 h116
    obtain ⟨v13, c13⟩ := hb.1.get 13 (by omega)
    have f13 := hb.1.fz 13 (by omega)
    have hA1 : CmdAt (w.setCell ⟨b, 13, none⟩ (.string s)) b (cs.set 13 (.string s)) := ⟨hb.1.set 13 (by omega) _ rfl, by rw [List.length_set]; exact hlen⟩
    have hO1 : Apt b w (w.setCell ⟨b, 13, none⟩ (.string s)) := Apt.of_only (Only.set _ _ _ _)
    go_enter Try.func17, Try.ntmps17
    cases em
    · go_wp2_with fail
      refine (letter_calls s _ (by omega)).mono ?_
      rintro e w2 ⟨rfl, rfl⟩
      generalize letM s.data.toList = lt at *
      go_wp2
      go_ret
      exact ⟨ret_bool (by rw [HA.out]; try rfl), _, hA1, Lb.lab hlen HLB.out, hO1⟩
    · go_wp2
      go_ret
      exact ⟨ret_bool (by rw [HA.out]; try rfl), _, hA1, Lb.lab hlen HLB.out, hO1⟩
  have n116 : ((nm : Int) == 116) = false := by simp; omega
  by_cases h97 : nm = 97
  · have n97 : ((nm : Int) == 97) = true := by simp [h97]
    have HA : Hid (askedM k nm s.data.toList = true) := by
      show _ = _
      unfold askedM
      rw [if_neg h125, if_neg h58, if_neg (by omega), if_pos (.inl h97)]
    have HLB : Hid (labelled nm = false) := by show _ = _; subst h97; rfl
    clear h125 h58 h98 h116 h97
    obtain ⟨v12, c12⟩ := hb.1.get 12 (by omega)
    have f12 := hb.1.fz 12 (by omega)
    have hA1 : CmdAt (w.setCell ⟨b, 12, none⟩ (.string s)) b (cs.set 12 (.string s)) := ⟨hb.1.set 12 (by omega) _ rfl, by rw [List.length_set]; exact hlen⟩
    have hO1 : Apt b w (w.setCell ⟨b, 12, none⟩ (.string s)) := Apt.of_only (Only.set _ _ _ _)
    go_enter Try.func17, Try.ntmps17
    go_wp2
    go_ret
    exact ⟨ret_bool (by rw [HA.out]), _, hA1, Lb.of_sm (Sm.set hlen 12 _ (by decide) (by decide) (by decide)) HLB.out, hO1⟩
  have n97 : ((nm : Int) == 97) = false := by simp; omega
  by_cases h105 : nm = 105
  · have n105 : ((nm : Int) == 105) = true := by simp [h105]
    have HA : Hid (askedM k nm s.data.toList = true) := by
      show _ = _
      unfold askedM
      rw [if_neg h125, if_neg h58, if_neg (by omega), if_pos (.inr (.inl h105))]
    have HLB : Hid (labelled nm = false) := by show _ = _; subst h105; rfl
    clear h125 h58 h98 h116 h97 h105
    obtain ⟨v12, c12⟩ := hb.1.get 12 (by omega)
    have f12 := hb.1.fz 12 (by omega)
    have hA1 : CmdAt (w.setCell ⟨b, 12, none⟩ (.string s)) b (cs.set 12 (.string s)) := ⟨hb.1.set 12 (by omega) _ rfl, by rw [List.length_set]; exact hlen⟩
    have hO1 : Apt b w (w.setCell ⟨b, 12, none⟩ (.string s)) := Apt.of_only (Only.set _ _ _ _)
    go_enter Try.func17, Try.ntmps17
    go_wp2
    go_ret
    exact ⟨ret_bool (by rw [HA.out]), _, hA1, Lb.of_sm (Sm.set hlen 12 _ (by decide) (by decide) (by decide)) HLB.out, hO1⟩
  have n105 : ((nm : Int) == 105) = false := by simp; omega
  by_cases h99 : nm = 99
  · have n99 : ((nm : Int) == 99) = true := by simp [h99]
    have HA : Hid (askedM k nm s.data.toList = true) := by
      show _ = _
      unfold askedM
      rw [if_neg h125, if_neg h58, if_neg (by omega), if_pos (.inr (.inr h99))]
    have HLB : Hid (labelled nm = false) := by show _ = _; subst h99; rfl
    clear h125 h58 h98 h116 h97 h105 h99
    obtain ⟨v12, c12⟩ := hb.1.get 12 (by omega)
    have f12 := hb.1.fz 12 (by omega)
    have hA1 : CmdAt (w.setCell ⟨b, 12, none⟩ (.string s)) b (cs.set 12 (.string s)) := ⟨hb.1.set 12 (by omega) _ rfl, by rw [List.length_set]; exact hlen⟩
    have hO1 : Apt b w (w.setCell ⟨b, 12, none⟩ (.string s)) := Apt.of_only (Only.set _ _ _ _)
    go_enter Try.func17, Try.ntmps17
    go_wp2
    go_ret
    exact ⟨ret_bool (by rw [HA.out]), _, hA1, Lb.of_sm (Sm.set hlen 12 _ (by decide) (by decide) (by decide)) HLB.out, hO1⟩
  have n99 : ((nm : Int) == 99) = false := by simp; omega
  by_cases h115 : nm = 115
  · have n115 : ((nm : Int) == 115) = true := by simp [h115]
    have HA : Hid (askedM k nm s.data.toList = changeM nm s.data.toList) := by
      show _ = _
      unfold askedM
      rw [if_neg h125, if_neg h58, if_neg (by omega), if_neg (by omega), if_pos (.inl h115)]
    have HLB : Hid (labelled nm = false) := by show _ = _; subst h115; rfl
    clear h125 h58 h98 h116 h97 h105 h99 h115
    go_enter Try.func17, Try.ntmps17
    go_wp2_with fail
    refine (change_calls b nm cs s _ hs hb hnm hn2).mono ?_
    rintro e w2 ⟨rfl, cs', hc', hs', ha'⟩
    generalize changeM nm s.data.toList = lt at *
    go_wp2
    go_ret
    exact ⟨ret_bool (by rw [HA.out]), cs', hc', Lb.of_sm hs' HLB.out, ha'⟩
  have n115 : ((nm : Int) == 115) = false := by simp; omega
  by_cases h121 : nm = 121
  · have n121 : ((nm : Int) == 121) = true := by simp [h121]
    have HA : Hid (askedM k nm s.data.toList = changeM nm s.data.toList) := by
      show _ = _
      unfold askedM
      rw [if_neg h125, if_neg h58, if_neg (by omega), if_neg (by omega), if_pos (.inr h121)]
    have HLB : Hid (labelled nm = false) := by show _ = _; subst h121; rfl
    clear h125 h58 h98 h116 h97 h105 h99 h115 h121
    go_enter Try.func17, Try.ntmps17
    go_wp2_with fail
    refine (change_calls b nm cs s _ hs hb hnm hn2).mono ?_
    rintro e w2 ⟨rfl, cs', hc', hs', ha'⟩
    generalize changeM nm s.data.toList = lt at *
    go_wp2
    go_ret
    exact ⟨ret_bool (by rw [HA.out]), cs', hc', Lb.of_sm hs' HLB.out, ha'⟩
  have n121 : ((nm : Int) == 121) = false := by simp; omega
  have HA : Hid (askedM k nm s.data.toList = (inB nm plainN && em)) := by
    show _ = _
    unfold askedM
    rw [if_neg h125, if_neg h58, if_neg (by omega), if_neg (by omega), if_neg (by omega), HEM.out]; rfl
  have HLB : Hid (labelled nm = false) := by
    show _ = _
    unfold labelled
    simp; omega
  clear h125 h58 h98 h116 h97 h105 h99 h115 h121
  go_enter Try.func17, Try.ntmps17
  go_wp2_with fail
  refine (damong_calls nm _ _ (by unfold maxLen; decide) hn2).mono ?_
  rintro e w2 ⟨rfl, rfl⟩
  have e9 : inB nm (ByteArray.mk #[112, 100, 68, 80, 110, 78, 104, 72, 103, 71, 120, 113, 61, 123]).data.toList = inB nm plainN := rfl
  rw [e9]
  generalize inB nm plainN = lt at *
  cases lt
  · go_wp2
    go_ret
    exact ⟨ret_bool (by rw [HA.out]; rfl), cs, hb, Lb.of_sm (Sm.refl hlen) HLB.out, Apt.refl _ _⟩
  · cases em
    · go_wp2
      go_ret
      exact ⟨ret_bool (by rw [HA.out]; rfl), cs, hb, Lb.of_sm (Sm.refl hlen) HLB.out, Apt.refl _ _⟩
    · go_wp2
      go_ret
      exact ⟨ret_bool (by rw [HA.out]; rfl), cs, hb, Lb.of_sm (Sm.refl hlen) HLB.out, Apt.refl _ _⟩
end Go.Proofs.Ytlppphmnegdhoab
