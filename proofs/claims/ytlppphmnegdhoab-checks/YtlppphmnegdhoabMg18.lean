import Derived.Test.YtlppphmnegdhoabMg17
import Derived.Test.YtlppphmnegdhoabMg16
import Derived.Deep.RegionHeld3
/-
  The program's scripts: readRest.
-/
namespace Go.Proofs.Ytlppphmnegdhoab
set_option linter.unusedVariables false
set_option maxRecDepth 100000
open Go.RowKit
open M

/-- a command's cells behind its name was looked at -/
def LbP (nm : Nat) (cs : List Value) (s : ByteArray) (cs' : List Value) : Prop := cs'[12]? = cs[12]? ∧ cs'[13]? = if labelled nm then some (.int .u8 (labB s.data.toList)) else cs[13]?
def RrPost (b cn nm : Nat) (cs : List Value) (s : ByteArray) (w : World) (e : Ending) (w' : World) : Prop :=
  e = .returned (.bool (askedM cn nm s.data.toList)) ∧ ∃ cs', PCmd w' b cs' ∧ LbP nm cs s cs' ∧ Apt b w w'
theorem LbP.of_sp {nm : Nat} {cs cs' : List Value} {s : ByteArray} (h : Sp cs cs') (hl : labelled nm = false) : LbP nm cs s cs' := ⟨h.2.2.1, by rw [hl]; exact h.2.2.2⟩
theorem LbP.lab {nm : Nat} {cs : List Value} {s : ByteArray} (h : cs.length = 25) (hl : labelled nm = true) : LbP nm cs s (cs.set 13 (.int .u8 (labB s.data.toList))) := ⟨by rw [List.getElem?_set_ne (by decide)], by rw [hl, List.getElem?_set_self (by omega)]; rfl⟩
theorem labB_lt (t : List UInt8) : labB t < 256 := by
  unfold labB
  split
  · match t with
    | [] => decide
    | c :: _ => exact c.toNat_lt
  · decide
theorem labB_ne (t : List UInt8) : (labB t ≠ 0) ↔ letM t = true := by
  match t with
  | [] => simp [labB, letM]
  | [c] =>
    cases h : letM [c]
    · simp [labB, h]
    · simp [labB, h]
      simp [letM] at h
      omega
  | c :: d :: t => simp [labB, letM]
theorem emp_dat (s : ByteArray) : s.data.toList.isEmpty = s.toList.isEmpty := by rw [ByteArray.toList_eq]
set_option maxRecDepth 100000 in
set_option maxHeartbeats 4000000 in
theorem readRest_calls (b cn nm : Nat) (cs : List Value) (s : ByteArray) (w : World) (hs : s.size ≤ 400) (hnl : NoNL s) (hb : PCmd w b cs) (hk0 : cs[0]? = some (.int .i64 cn)) (hnm : cs[12]? = some (.int .u8 nm)) (hn2 : nm < 256) :
    Calls Try.prog 22 #[.pointer (some ⟨b, 0, none⟩), .string s] w fun e w' => RrPost b cn nm cs s w e w' := by
  have c0 := hb.1.c 0 _ hk0
  have c12 := hb.1.c 12 _ hnm
  have hlen := hb.2
  obtain ⟨fr, hfr⟩ : ∃ fr, decide (cn = 0) = fr := ⟨_, rfl⟩
  have hfr2 : ((cn : Int) == 0) = fr := by rw [← hfr, Bool.eq_iff_iff]; simp
  obtain ⟨em, hem⟩ : ∃ em, s.toList.isEmpty = em := ⟨_, rfl⟩
  have HFR : Hid (decide (cn = 0) = fr) := hfr
  have HEM : Hid (s.data.toList.isEmpty = em) := by show _ = _; rw [emp_dat]; exact hem
  have HNL : Hid (NoNL s) := hnl
  have HB : Hid (PCmd w b cs) := hb
  have HK : Hid (cs[12]? = some (.int .u8 nm)) := hnm
  have HK0 : Hid (cs[0]? = some (.int .i64 cn)) := hk0
  clear hfr hnl hb hnm hk0
  by_cases hpl : nm = 112 ∨ nm = 100 ∨ nm = 68 ∨ nm = 80 ∨ nm = 110 ∨ nm = 78 ∨ nm = 104 ∨ nm = 72 ∨ nm = 103 ∨ nm = 71 ∨ nm = 120 ∨ nm = 113 ∨ nm = 61 ∨ nm = 123
  · have HA : Hid (askedM cn nm s.data.toList = em) := by
      show _ = _
      rw [← HEM.out]
      rcases hpl with rfl | rfl | rfl | rfl | rfl | rfl | rfl | rfl | rfl | rfl | rfl | rfl | rfl | rfl <;> rfl
    have HLB : Hid (labelled nm = false) := by
      show _ = _
      rcases hpl with rfl | rfl | rfl | rfl | rfl | rfl | rfl | rfl | rfl | rfl | rfl | rfl | rfl | rfl <;> rfl
    rcases hpl with rfl | rfl | rfl | rfl | rfl | rfl | rfl | rfl | rfl | rfl | rfl | rfl | rfl | rfl
    · go_enter Try.func22, Try.ntmps22
      cases em
      · go_wp2
        go_ret
        exact ⟨ret_bool (by rw [HA.out]), cs, HB.out, LbP.of_sp (Sp.refl hlen) HLB.out, Apt.refl _ _⟩
      · go_wp2
        go_ret
        exact ⟨ret_bool (by rw [HA.out]), cs, HB.out, LbP.of_sp (Sp.refl hlen) HLB.out, Apt.refl _ _⟩
    · go_enter Try.func22, Try.ntmps22
      cases em
      · go_wp2
        go_ret
        exact ⟨ret_bool (by rw [HA.out]), cs, HB.out, LbP.of_sp (Sp.refl hlen) HLB.out, Apt.refl _ _⟩
      · go_wp2
        go_ret
        exact ⟨ret_bool (by rw [HA.out]), cs, HB.out, LbP.of_sp (Sp.refl hlen) HLB.out, Apt.refl _ _⟩
    · go_enter Try.func22, Try.ntmps22
      cases em
      · go_wp2
        go_ret
        exact ⟨ret_bool (by rw [HA.out]), cs, HB.out, LbP.of_sp (Sp.refl hlen) HLB.out, Apt.refl _ _⟩
      · go_wp2
        go_ret
        exact ⟨ret_bool (by rw [HA.out]), cs, HB.out, LbP.of_sp (Sp.refl hlen) HLB.out, Apt.refl _ _⟩
    · go_enter Try.func22, Try.ntmps22
      cases em
      · go_wp2
        go_ret
        exact ⟨ret_bool (by rw [HA.out]), cs, HB.out, LbP.of_sp (Sp.refl hlen) HLB.out, Apt.refl _ _⟩
      · go_wp2
        go_ret
        exact ⟨ret_bool (by rw [HA.out]), cs, HB.out, LbP.of_sp (Sp.refl hlen) HLB.out, Apt.refl _ _⟩
    · go_enter Try.func22, Try.ntmps22
      cases em
      · go_wp2
        go_ret
        exact ⟨ret_bool (by rw [HA.out]), cs, HB.out, LbP.of_sp (Sp.refl hlen) HLB.out, Apt.refl _ _⟩
      · go_wp2
        go_ret
        exact ⟨ret_bool (by rw [HA.out]), cs, HB.out, LbP.of_sp (Sp.refl hlen) HLB.out, Apt.refl _ _⟩
    · go_enter Try.func22, Try.ntmps22
      cases em
      · go_wp2
        go_ret
        exact ⟨ret_bool (by rw [HA.out]), cs, HB.out, LbP.of_sp (Sp.refl hlen) HLB.out, Apt.refl _ _⟩
      · go_wp2
        go_ret
        exact ⟨ret_bool (by rw [HA.out]), cs, HB.out, LbP.of_sp (Sp.refl hlen) HLB.out, Apt.refl _ _⟩
    · go_enter Try.func22, Try.ntmps22
      cases em
      · go_wp2
        go_ret
        exact ⟨ret_bool (by rw [HA.out]), cs, HB.out, LbP.of_sp (Sp.refl hlen) HLB.out, Apt.refl _ _⟩
      · go_wp2
        go_ret
        exact ⟨ret_bool (by rw [HA.out]), cs, HB.out, LbP.of_sp (Sp.refl hlen) HLB.out, Apt.refl _ _⟩
    · go_enter Try.func22, Try.ntmps22
      cases em
      · go_wp2
        go_ret
        exact ⟨ret_bool (by rw [HA.out]), cs, HB.out, LbP.of_sp (Sp.refl hlen) HLB.out, Apt.refl _ _⟩
      · go_wp2
        go_ret
        exact ⟨ret_bool (by rw [HA.out]), cs, HB.out, LbP.of_sp (Sp.refl hlen) HLB.out, Apt.refl _ _⟩
    · go_enter Try.func22, Try.ntmps22
      cases em
      · go_wp2
        go_ret
        exact ⟨ret_bool (by rw [HA.out]), cs, HB.out, LbP.of_sp (Sp.refl hlen) HLB.out, Apt.refl _ _⟩
      · go_wp2
        go_ret
        exact ⟨ret_bool (by rw [HA.out]), cs, HB.out, LbP.of_sp (Sp.refl hlen) HLB.out, Apt.refl _ _⟩
    · go_enter Try.func22, Try.ntmps22
      cases em
      · go_wp2
        go_ret
        exact ⟨ret_bool (by rw [HA.out]), cs, HB.out, LbP.of_sp (Sp.refl hlen) HLB.out, Apt.refl _ _⟩
      · go_wp2
        go_ret
        exact ⟨ret_bool (by rw [HA.out]), cs, HB.out, LbP.of_sp (Sp.refl hlen) HLB.out, Apt.refl _ _⟩
    · go_enter Try.func22, Try.ntmps22
      cases em
      · go_wp2
        go_ret
        exact ⟨ret_bool (by rw [HA.out]), cs, HB.out, LbP.of_sp (Sp.refl hlen) HLB.out, Apt.refl _ _⟩
      · go_wp2
        go_ret
        exact ⟨ret_bool (by rw [HA.out]), cs, HB.out, LbP.of_sp (Sp.refl hlen) HLB.out, Apt.refl _ _⟩
    · go_enter Try.func22, Try.ntmps22
      cases em
      · go_wp2
        go_ret
        exact ⟨ret_bool (by rw [HA.out]), cs, HB.out, LbP.of_sp (Sp.refl hlen) HLB.out, Apt.refl _ _⟩
      · go_wp2
        go_ret
        exact ⟨ret_bool (by rw [HA.out]), cs, HB.out, LbP.of_sp (Sp.refl hlen) HLB.out, Apt.refl _ _⟩
    · go_enter Try.func22, Try.ntmps22
      cases em
      · go_wp2
        go_ret
        exact ⟨ret_bool (by rw [HA.out]), cs, HB.out, LbP.of_sp (Sp.refl hlen) HLB.out, Apt.refl _ _⟩
      · go_wp2
        go_ret
        exact ⟨ret_bool (by rw [HA.out]), cs, HB.out, LbP.of_sp (Sp.refl hlen) HLB.out, Apt.refl _ _⟩
    · go_enter Try.func22, Try.ntmps22
      cases em
      · go_wp2
        go_ret
        exact ⟨ret_bool (by rw [HA.out]), cs, HB.out, LbP.of_sp (Sp.refl hlen) HLB.out, Apt.refl _ _⟩
      · go_wp2
        go_ret
        exact ⟨ret_bool (by rw [HA.out]), cs, HB.out, LbP.of_sp (Sp.refl hlen) HLB.out, Apt.refl _ _⟩
  by_cases h125 : nm = 125
  · subst h125
    have HA : Hid (askedM cn 125 s.data.toList = (fr && em)) := by show _ = _; rw [← HFR.out, ← HEM.out]; rfl
    go_enter Try.func22, Try.ntmps22
    cases em
    · go_wp2
      go_ret
      exact ⟨ret_bool (by rw [HA.out]; cases fr <;> rfl), cs, HB.out, LbP.of_sp (Sp.refl hlen) rfl, Apt.refl _ _⟩
    · cases fr
      · go_wp2
        go_ret
        exact ⟨ret_bool (by rw [HA.out]; try rfl), cs, HB.out, LbP.of_sp (Sp.refl hlen) rfl, Apt.refl _ _⟩
      · go_wp2
        go_ret
        exact ⟨ret_bool (by rw [HA.out]; try rfl), cs, HB.out, LbP.of_sp (Sp.refl hlen) rfl, Apt.refl _ _⟩
  by_cases h58 : nm = 58
  · subst h58
    have HA : Hid (askedM cn 58 s.data.toList = (fr && letM s.data.toList)) := by show _ = _; rw [← HFR.out]; rfl
    obtain ⟨v13, c13⟩ := HB.out.1.get 13 (by omega)
    have f13 := HB.out.1.fz 13 (by omega)
    have hlb := labB_lt s.data.toList
    have hln := labB_ne s.data.toList
    have hA1 : PCmd (w.setCell ⟨b, 13, none⟩ (.int .u8 (labB s.data.toList))) b (cs.set 13 (.int .u8 (labB s.data.toList))) := ⟨HB.out.1.set 13 (by omega) _ rfl, by rw [List.length_set]; exact hlen⟩
    have hO1 : Apt b w (w.setCell ⟨b, 13, none⟩ (.int .u8 (labB s.data.toList))) := Apt.of_only (Only.set _ _ _ _)
    have hLP : LbP 58 cs s (cs.set 13 (.int .u8 (labB s.data.toList))) := LbP.lab hlen rfl
    have hc131 := hA1.1.c 13 _ (by rw [List.getElem?_set_self (by omega)])
    have hc01 := hA1.1.c 0 (.int .i64 cn) (by rw [List.getElem?_set_ne (by decide)]; exact HK0.out)
    go_enter Try.func22, Try.ntmps22
    go_wp2_with fail
    refine (labelOf_calls s _ hs).mono ?_
    rintro e wq ⟨rfl, hwq⟩
    rw [hwq]
    clear hwq
    generalize labB s.data.toList = lb at *
    have HLN : Hid (lb ≠ 0 ↔ letM s.data.toList = true) := hln
    clear hln
    by_cases hz : lb = 0
    · have hz1 : ((lb : Int) != 0) = false := by simp [hz]
      have HLT : Hid (letM s.data.toList = false) := by
        cases h9 : letM s.data.toList
        · rfl
        · exact absurd hz (HLN.out.2 h9)
      clear hz
      go_wp2
      go_ret
      exact ⟨ret_bool (by rw [HA.out, HLT.out]; cases fr <;> rfl), _, hA1, hLP, hO1⟩
    · have hz1 : ((lb : Int) != 0) = true := by simp; omega
      have HLT : Hid (letM s.data.toList = true) := HLN.out.1 hz
      clear hz
      cases fr
      · go_wp2
        go_ret
        exact ⟨ret_bool (by rw [HA.out]; rfl), _, hA1, hLP, hO1⟩
      · go_wp2
        go_ret
        exact ⟨ret_bool (by rw [HA.out, HLT.out]; rfl), _, hA1, hLP, hO1⟩
  by_cases h98 : nm = 98
  · subst h98
    have HA : Hid (askedM cn 98 s.data.toList = (em || letM s.data.toList)) := by show _ = _; rw [← HEM.out]; rfl
    obtain ⟨v13, c13⟩ := HB.out.1.get 13 (by omega)
    have f13 := HB.out.1.fz 13 (by omega)
    have hlb := labB_lt s.data.toList
    have hln := labB_ne s.data.toList
    have hA1 : PCmd (w.setCell ⟨b, 13, none⟩ (.int .u8 (labB s.data.toList))) b (cs.set 13 (.int .u8 (labB s.data.toList))) := ⟨HB.out.1.set 13 (by omega) _ rfl, by rw [List.length_set]; exact hlen⟩
    have hO1 : Apt b w (w.setCell ⟨b, 13, none⟩ (.int .u8 (labB s.data.toList))) := Apt.of_only (Only.set _ _ _ _)
    have hLP : LbP 98 cs s (cs.set 13 (.int .u8 (labB s.data.toList))) := LbP.lab hlen rfl
    have hc131 := hA1.1.c 13 _ (by rw [List.getElem?_set_self (by omega)])
    have hc01 := hA1.1.c 0 (.int .i64 cn) (by rw [List.getElem?_set_ne (by decide)]; exact HK0.out)
    go_enter Try.func22, Try.ntmps22
    go_wp2_with fail
    refine (labelOf_calls s _ hs).mono ?_
    rintro e wq ⟨rfl, hwq⟩
    rw [hwq]
    clear hwq
    generalize labB s.data.toList = lb at *
    have HLN : Hid (lb ≠ 0 ↔ letM s.data.toList = true) := hln
    clear hln
    by_cases hz : lb = 0
    · have hz1 : ((lb : Int) != 0) = false := by simp [hz]
      have HLT : Hid (letM s.data.toList = false) := by
        cases h9 : letM s.data.toList
        · rfl
        · exact absurd hz (HLN.out.2 h9)
      clear hz
      cases em
      · go_wp2
        go_ret
        exact ⟨ret_bool (by rw [HA.out, HLT.out]; rfl), _, hA1, hLP, hO1⟩
      · go_wp2
        go_ret
        exact ⟨ret_bool (by rw [HA.out]; rfl), _, hA1, hLP, hO1⟩
    · have hz1 : ((lb : Int) != 0) = true := by simp; omega
      have HLT : Hid (letM s.data.toList = true) := HLN.out.1 hz
      clear hz
      go_wp2
      go_ret
      exact ⟨ret_bool (by rw [HA.out, HLT.out]; cases em <;> rfl), _, hA1, hLP, hO1⟩
  by_cases h116 : nm = 116
  · subst h116
    have HA : Hid (askedM cn 116 s.data.toList = (em || letM s.data.toList)) := by show _ = _; rw [← HEM.out]; rfl
    obtain ⟨v13, c13⟩ := HB.out.1.get 13 (by omega)
    have f13 := HB.out.1.fz 13 (by omega)
    have hlb := labB_lt s.data.toList
    have hln := labB_ne s.data.toList
    have hA1 : PCmd (w.setCell ⟨b, 13, none⟩ (.int .u8 (labB s.data.toList))) b (cs.set 13 (.int .u8 (labB s.data.toList))) := ⟨HB.out.1.set 13 (by omega) _ rfl, by rw [List.length_set]; exact hlen⟩
    have hO1 : Apt b w (w.setCell ⟨b, 13, none⟩ (.int .u8 (labB s.data.toList))) := Apt.of_only (Only.set _ _ _ _)
    have hLP : LbP 116 cs s (cs.set 13 (.int .u8 (labB s.data.toList))) := LbP.lab hlen rfl
    have hc131 := hA1.1.c 13 _ (by rw [List.getElem?_set_self (by omega)])
    have hc01 := hA1.1.c 0 (.int .i64 cn) (by rw [List.getElem?_set_ne (by decide)]; exact HK0.out)
    go_enter Try.func22, Try.ntmps22
    go_wp2_with fail
    refine (labelOf_calls s _ hs).mono ?_
    rintro e wq ⟨rfl, hwq⟩
    rw [hwq]
    clear hwq
    generalize labB s.data.toList = lb at *
    have HLN : Hid (lb ≠ 0 ↔ letM s.data.toList = true) := hln
    clear hln
    by_cases hz : lb = 0
    · have hz1 : ((lb : Int) != 0) = false := by simp [hz]
      have HLT : Hid (letM s.data.toList = false) := by
        cases h9 : letM s.data.toList
        · rfl
        · exact absurd hz (HLN.out.2 h9)
      clear hz
      cases em
      · go_wp2
        go_ret
        exact ⟨ret_bool (by rw [HA.out, HLT.out]; rfl), _, hA1, hLP, hO1⟩
      · go_wp2
        go_ret
        exact ⟨ret_bool (by rw [HA.out]; rfl), _, hA1, hLP, hO1⟩
    · have hz1 : ((lb : Int) != 0) = true := by simp; omega
      have HLT : Hid (letM s.data.toList = true) := HLN.out.1 hz
      clear hz
      go_wp2
      go_ret
      exact ⟨ret_bool (by rw [HA.out, HLT.out]; cases em <;> rfl), _, hA1, hLP, hO1⟩
  by_cases h97 : nm = 97
  · subst h97
    have HA : Hid (askedM cn 97 s.data.toList = true) := by show _ = _; rfl
    obtain ⟨v15, c15⟩ := HB.out.1.get 15 (by omega)
    have f15 := HB.out.1.fz 15 (by omega)
    have hA1 : PCmd (w.setCell ⟨b, 15, none⟩ (.string s)) b (cs.set 15 (.string s)) := ⟨HB.out.1.set 15 (by omega) _ rfl, by rw [List.length_set]; exact hlen⟩
    have hO1 : Apt b w (w.setCell ⟨b, 15, none⟩ (.string s)) := Apt.of_only (Only.set _ _ _ _)
    go_enter Try.func22, Try.ntmps22
    go_wp2
    go_ret
    exact ⟨ret_bool (by rw [HA.out]), _, hA1, LbP.of_sp (Sp.set hlen 15 _ (by decide)) rfl, hO1⟩
  by_cases h105 : nm = 105
  · subst h105
    have HA : Hid (askedM cn 105 s.data.toList = true) := by show _ = _; rfl
    obtain ⟨v15, c15⟩ := HB.out.1.get 15 (by omega)
    have f15 := HB.out.1.fz 15 (by omega)
    have hA1 : PCmd (w.setCell ⟨b, 15, none⟩ (.string s)) b (cs.set 15 (.string s)) := ⟨HB.out.1.set 15 (by omega) _ rfl, by rw [List.length_set]; exact hlen⟩
    have hO1 : Apt b w (w.setCell ⟨b, 15, none⟩ (.string s)) := Apt.of_only (Only.set _ _ _ _)
    go_enter Try.func22, Try.ntmps22
    go_wp2
    go_ret
    exact ⟨ret_bool (by rw [HA.out]), _, hA1, LbP.of_sp (Sp.set hlen 15 _ (by decide)) rfl, hO1⟩
  by_cases h99 : nm = 99
  · subst h99
    have HA : Hid (askedM cn 99 s.data.toList = true) := by show _ = _; rfl
    obtain ⟨v15, c15⟩ := HB.out.1.get 15 (by omega)
    have f15 := HB.out.1.fz 15 (by omega)
    have hA1 : PCmd (w.setCell ⟨b, 15, none⟩ (.string s)) b (cs.set 15 (.string s)) := ⟨HB.out.1.set 15 (by omega) _ rfl, by rw [List.length_set]; exact hlen⟩
    have hO1 : Apt b w (w.setCell ⟨b, 15, none⟩ (.string s)) := Apt.of_only (Only.set _ _ _ _)
    go_enter Try.func22, Try.ntmps22
    go_wp2
    go_ret
    exact ⟨ret_bool (by rw [HA.out]), _, hA1, LbP.of_sp (Sp.set hlen 15 _ (by decide)) rfl, hO1⟩
  by_cases h115 : nm = 115
  · subst h115
    have HA : Hid (askedM cn 115 s.data.toList = changeM 115 s.data.toList) := by show _ = _; rfl
    go_enter Try.func22, Try.ntmps22
    go_wp2_with fail
    refine (readSubstitution_calls b cs s w hs HNL.out HB.out).mono ?_
    rintro e w2 ⟨rfl, cs', hc', hs', ha'⟩
    generalize changeM 115 s.data.toList = lt at *
    go_wp2
    go_ret
    exact ⟨ret_bool (by rw [HA.out]), cs', hc', LbP.of_sp hs' rfl, ha'⟩
  by_cases h121 : nm = 121
  · subst h121
    have HA : Hid (askedM cn 121 s.data.toList = changeM 121 s.data.toList) := by show _ = _; rfl
    go_enter Try.func22, Try.ntmps22
    go_wp2_with fail
    refine (readExchange_calls b cs s w hs HNL.out HB.out).mono ?_
    rintro e w2 ⟨rfl, cs', hc', hs', ha'⟩
    generalize changeM 121 s.data.toList = lt at *
    go_wp2
    go_ret
    exact ⟨ret_bool (by rw [HA.out]), cs', hc', LbP.of_sp hs' rfl, ha'⟩
  have HA : Hid (askedM cn nm s.data.toList = false) := by
    show _ = _
    unfold askedM
    rw [if_neg h125, if_neg h58, if_neg (by omega), if_neg (by omega), if_neg (by omega)]
    have : plainN.any (fun d => d.toNat == nm) = false := by
      simp only [plainN, List.any_cons, List.any_nil, Bool.or_false]
      simp
      omega
    rw [this]; rfl
  have HLB : Hid (labelled nm = false) := by
    show _ = _
    unfold labelled
    simp; omega
  have n112 : ((nm : Int) == 112) = false := by simp; omega
  have n100 : ((nm : Int) == 100) = false := by simp; omega
  have n68 : ((nm : Int) == 68) = false := by simp; omega
  have n80 : ((nm : Int) == 80) = false := by simp; omega
  have n110 : ((nm : Int) == 110) = false := by simp; omega
  have n78 : ((nm : Int) == 78) = false := by simp; omega
  have n104 : ((nm : Int) == 104) = false := by simp; omega
  have n72 : ((nm : Int) == 72) = false := by simp; omega
  have n103 : ((nm : Int) == 103) = false := by simp; omega
  have n71 : ((nm : Int) == 71) = false := by simp; omega
  have n120 : ((nm : Int) == 120) = false := by simp; omega
  have n113 : ((nm : Int) == 113) = false := by simp; omega
  have n61 : ((nm : Int) == 61) = false := by simp; omega
  have n123 : ((nm : Int) == 123) = false := by simp; omega
  have n125 : ((nm : Int) == 125) = false := by simp; omega
  have n58 : ((nm : Int) == 58) = false := by simp; omega
  have n98 : ((nm : Int) == 98) = false := by simp; omega
  have n116 : ((nm : Int) == 116) = false := by simp; omega
  have n97 : ((nm : Int) == 97) = false := by simp; omega
  have n105 : ((nm : Int) == 105) = false := by simp; omega
  have n99 : ((nm : Int) == 99) = false := by simp; omega
  have n115 : ((nm : Int) == 115) = false := by simp; omega
  have n121 : ((nm : Int) == 121) = false := by simp; omega
  clear hpl h125 h58 h98 h116 h97 h105 h99 h115 h121
  go_enter Try.func22, Try.ntmps22
  go_wp2
  go_ret
  exact ⟨ret_bool (by rw [HA.out]), cs, HB.out, LbP.of_sp (Sp.refl hlen) HLB.out, Apt.refl _ _⟩
end Go.Proofs.Ytlppphmnegdhoab

/-
  Scripts: the program's command is the document's: plain mathematics.
-/
namespace Go.Proofs.Ytlppphmnegdhoab
set_option linter.unusedVariables false
open M

theorem digs_le : ∀ (n : Nat) (t : List UInt8), digs n t ≤ n := by
  intro n
  induction n with
  | zero => intro t; simp [digs]
  | succ n ih =>
    intro t
    match t with
    | [] => simp [digs]
    | c :: t =>
      rw [digs]
      split
      · have := ih t; omega
      · omega
theorem digs_more : ∀ (n : Nat) (t : List UInt8), digs (n + 1) t ≤ n → digs n t = digs (n + 1) t := by
  intro n
  induction n with
  | zero =>
    intro t h
    have h1 : digs (0 + 1) t = 0 := by omega
    rw [h1]; rfl
  | succ n ih =>
    intro t h
    match t with
    | [] => rfl
    | c :: t =>
      rw [digs, digs] at *
      cases hd : digB c.toNat
      · rfl
      · rw [hd] at h
        simp only [if_true] at h ⊢
        rw [ih t (by omega)]
theorem digs_full : ∀ (n : Nat) (t : List UInt8), n < digs (n + 1) t → digs n t = n ∧ ∃ c r, t.drop n = c :: r ∧ digB c.toNat = true := by
  intro n
  induction n with
  | zero =>
    intro t h
    match t with
    | [] => simp [digs] at h
    | c :: t =>
      cases hd : digB c.toNat
      · rw [digs, hd] at h; simp at h
      · exact ⟨rfl, c, t, rfl, hd⟩
  | succ n ih =>
    intro t h
    match t with
    | [] => simp [digs] at h
    | c :: t =>
      cases hd : digB c.toNat
      · rw [digs, hd] at h; simp at h
      · rw [digs, hd] at h
        simp only [if_true] at h
        obtain ⟨h1, c2, r2, h2, h3⟩ := ih t (by omega)
        exact ⟨by rw [digs, hd, if_pos rfl, h1], c2, r2, by rw [List.drop_succ_cons]; exact h2, h3⟩
theorem asked_nz (k k' nm : Nat) (t : List UInt8) (h : k ≠ 0) (h' : k' ≠ 0) : askedM k nm t = askedM k' nm t := by
  unfold askedM
  rw [decide_eq_false h, decide_eq_false h']
theorem name_nz (k k' : Nat) (t : List UInt8) (h : k ≠ 0) (h' : k' ≠ 0) : nameM k t = nameM k' t := by
  match t with
  | [] => rfl
  | c :: r => show (if askedM k c.toNat r then _ else _) = if askedM k' c.toNat r then _ else _; rw [asked_nz k k' _ _ h h']
/-- bytes with which no command begins -/
theorem name_no (k : Nat) (c : UInt8) (r : List UInt8) (h : digB c.toNat = true ∨ c.toNat = 47 ∨ c.toNat = 44) : nameM k (c :: r) = none := by
  have hd : c.toNat ≤ 57 ∧ 44 ≤ c.toNat := by
    rcases h with h | h | h
    · have : 48 ≤ c.toNat ∧ c.toNat ≤ 57 := by simpa [digB] using h
      omega
    · omega
    · omega
  have : askedM k c.toNat r = false := by
    unfold askedM
    rw [if_neg (by omega), if_neg (by omega), if_neg (by omega), if_neg (by omega), if_neg (by omega)]
    have : plainN.any (fun d => d.toNat == c.toNat) = false := by
      simp only [plainN, List.any_cons, List.any_nil, Bool.or_false]
      simp
      omega
    rw [this]; rfl
  show (if askedM k c.toNat r then _ else none) = none
  rw [this]; rfl
theorem exc_no (c : UInt8) (r : List UInt8) (h : digB c.toNat = true ∨ c.toNat = 47 ∨ c.toNat = 44) : excP (c :: r) = c :: r := by
  unfold excP
  have : stB (c :: r) 33 = false := by
    show (c.toNat == 33) = false
    rcases h with h | h | h
    · have : 48 ≤ c.toNat ∧ c.toNat ≤ 57 := by simpa [digB] using h
      simp; omega
    · simp; omega
    · simp; omega
  rw [this]; rfl
/-- how the two addresses stand to each other -/
theorem addr_cases (t : List UInt8) : (addrM t = some (0, t) ∧ addrP t = none) ∨ (∃ k t1, k ≠ 0 ∧ addrM t = some (k, t1) ∧ addrP t = some (k, t1)) ∨ (addrM t = none ∧ ((addrP t = none ∧ ∃ c r, t = c :: r ∧ c.toNat = 47) ∨ ∃ c r, addrP t = some (1, c :: r) ∧ digB c.toNat = true)) := by
  match t with
  | [] => exact .inl ⟨rfl, rfl⟩
  | c :: r =>
    have hP : addrP (c :: r) = if c.toNat == 36 then some (2, r) else if c.toNat == 47 then betM (uptoM r) else if 0 < numL (c :: r) then some (1, (c :: r).drop (numL (c :: r))) else none := rfl
    by_cases h36 : c.toNat = 36
    · right; left
      refine ⟨2, r, by decide, by rw [addrM, if_pos h36], by rw [hP, if_pos (by simpa using h36)]⟩
    · by_cases h47 : c.toNat = 47
      · have e1 : addrM (c :: r) = betM (uptoM r) := by rw [addrM, if_neg h36, if_pos h47]
        have e2 : addrP (c :: r) = betM (uptoM r) := by rw [hP, if_neg (by simpa using h36), if_pos (by simpa using h47)]
        cases hb : betM (uptoM r) with
        | none => exact .inr (.inr ⟨by rw [e1, hb], .inl ⟨by rw [e2, hb], c, r, rfl, h47⟩⟩)
        | some p =>
          obtain ⟨k, t1⟩ := p
          have hk : k ≠ 0 := by
            cases hu : uptoM r with
            | none => rw [hu] at hb; cases hb
            | some q =>
              rw [hu, betM] at hb
              split at hb
              · simp at hb; omega
              · cases hb
          exact .inr (.inl ⟨k, t1, hk, by rw [e1, hb], by rw [e2, hb]⟩)
      · have e1 : addrM (c :: r) = if posB c.toNat then (if 4 < digs 5 (c :: r) then none else some (1, (c :: r).drop (digs 5 (c :: r)))) else some (0, c :: r) := by rw [addrM, if_neg h36, if_neg h47]
        have e2 : addrP (c :: r) = if 0 < numL (c :: r) then some (1, (c :: r).drop (numL (c :: r))) else none := by rw [hP, if_neg (by simpa using h36), if_neg (by simpa using h47)]
        have hn : numL (c :: r) = if posB c.toNat then digs 4 (c :: r) else 0 := rfl
        cases hp : posB c.toNat
        · rw [hp] at e1 hn
          have hn0 : numL (c :: r) = 0 := hn
          exact .inl ⟨e1, by rw [e2, hn0]; rfl⟩
        · rw [hp] at e1 hn
          have hn0 : numL (c :: r) = digs 4 (c :: r) := hn
          simp only [if_true] at e1
          have hd : digB c.toNat = true := by
            have : 49 ≤ c.toNat ∧ c.toNat ≤ 57 := by simpa [posB] using hp
            simp [digB]; omega
          have h1 : 0 < digs 4 (c :: r) := by rw [digs, hd, if_pos rfl]; omega
          by_cases h5 : 4 < digs 5 (c :: r)
          · obtain ⟨g1, c2, r2, g2, g3⟩ := digs_full 4 (c :: r) h5
            rw [if_pos h5] at e1
            exact .inr (.inr ⟨e1, .inr ⟨c2, r2, by rw [e2, hn0, if_pos h1, g1, g2], g3⟩⟩)
          · rw [if_neg h5] at e1
            have := digs_more 4 (c :: r) (by show digs 5 (c :: r) ≤ 4; omega)
            exact .inr (.inl ⟨1, _, by decide, e1, by rw [e2, hn0, if_pos h1, this]⟩)
def cmdP (t : List UInt8) : Option (Nat × List UInt8) := nameM (behP t).1 (behP t).2
theorem cmd_same (t : List UInt8) : cmdP t = cmdM t := by
  unfold cmdP cmdM
  rcases addr_cases t with ⟨h1, h2⟩ | ⟨k, t1, hk, h1, h2⟩ | ⟨h1, ⟨h2, c, r, rfl, hc⟩ | ⟨c, r, h2, hc⟩⟩
  · have hb : behP t = (0, t) := by unfold behP; rw [h2]
    rw [hb, h1]
    show nameM 0 t = cmdB 0 (secM 0 t)
    have e1 : secM 0 t = some t := by unfold secM; rw [if_neg (by simp)]
    have e2 : M.notM 0 t = t := by unfold M.notM; rw [if_neg (by simp)]
    rw [e1]
    show nameM 0 t = nameM 0 (M.notM 0 t)
    rw [e2]
  · have hb : behP t = ((secP t1).1, excP (secP t1).2) := by unfold behP; rw [h2]
    rw [hb, h1]
    show nameM (secP t1).1 (excP (secP t1).2) = cmdB k (secM k t1)
    have hex : ∀ u, M.notM k u = excP u := fun u => by
      unfold M.notM excP
      cases stB u 33
      · rw [if_neg (by simp)]; rfl
      · rw [if_pos ⟨hk, rfl⟩]; rfl
    cases h44 : stB t1 44
    · have e1 : secM k t1 = some t1 := by unfold secM; rw [h44, if_neg (by simp)]
      have e2 : secP t1 = (1, t1) := by unfold secP; rw [h44]; rfl
      rw [e1, e2]
      show nameM 1 (excP t1) = nameM k (M.notM k t1)
      rw [hex, name_nz 1 k _ (by decide) hk]
    · have e1 : secM k t1 = secA (addrM (t1.drop 1)) := by unfold secM; rw [h44, if_pos ⟨hk, rfl⟩]
      have e2 : secP t1 = match addrP (t1.drop 1) with | none => (1, t1) | some p => (2, p.2) := by unfold secP; rw [h44]; rfl
      obtain ⟨d, v, hdv, hd44⟩ : ∃ d v, t1 = d :: v ∧ d.toNat = 44 := by
        match t1, h44 with
        | d :: v, h44 => exact ⟨d, v, rfl, by simpa [stB] using h44⟩
      rw [e1]
      rcases addr_cases (t1.drop 1) with ⟨g1, g2⟩ | ⟨k2, t2, hk2, g1, g2⟩ | ⟨g1, ⟨g2, _⟩ | ⟨c2, r2, g2, hc2⟩⟩
      · rw [e2, g1, g2]
        show nameM 1 (excP t1) = none
        rw [hdv, exc_no d v (.inr (.inr hd44)), name_no 1 d v (.inr (.inr hd44))]
      · rw [e2, g1, g2]
        have e3 : secA (some (k2, t2)) = some t2 := by rw [secA, if_neg hk2]
        rw [e3]
        show nameM 2 (excP t2) = nameM k (M.notM k t2)
        rw [hex, name_nz 2 k _ (by decide) hk]
      · rw [e2, g1, g2]
        show nameM 1 (excP t1) = none
        rw [hdv, exc_no d v (.inr (.inr hd44)), name_no 1 d v (.inr (.inr hd44))]
      · rw [e2, g1, g2]
        show nameM 2 (excP (c2 :: r2)) = none
        rw [exc_no c2 r2 (.inl hc2), name_no 2 c2 r2 (.inl hc2)]
  · have hb : behP (c :: r) = (0, c :: r) := by unfold behP; rw [h2]
    rw [hb, h1]
    exact name_no 0 c r (.inr (.inl hc))
  · have hb : behP t = ((secP (c :: r)).1, excP (secP (c :: r)).2) := by unfold behP; rw [h2]
    have hs : secP (c :: r) = (1, c :: r) := by
      unfold secP
      have : stB (c :: r) 44 = false := by
        show (c.toNat == 44) = false
        have : 48 ≤ c.toNat ∧ c.toNat ≤ 57 := by simpa [digB] using hc
        simp; omega
      rw [this]; rfl
    rw [hb, h1, hs]
    show nameM 1 (excP (c :: r)) = none
    rw [exc_no c r (.inl hc), name_no 1 c r (.inl hc)]
end Go.Proofs.Ytlppphmnegdhoab

/-
  The program's scripts: readCommand.
-/
namespace Go.Proofs.Ytlppphmnegdhoab
set_option linter.unusedVariables false
set_option linter.unusedSimpArgs false
set_option maxRecDepth 100000
open Go.RowKit
open M

theorem rtPCmd : RowT 63 25 := ⟨⟨_, Try.underlying63, rfl⟩, by kernel_rfl⟩
def zPC : List Value := [.int .i64 0, .int .i64 0, .int .i64 0, .bool false, .bool false, .slice none 0 0, .int .i64 0, .int .i64 0, .bool false, .bool false, .slice none 0 0, .bool false, .int .u8 0, .int .u8 0, .int .i64 0, .string ⟨#[]⟩, .bool false, .bool false, .slice none 0 0, .slice none 0 0, .int .i64 0, .bool false, .bool false, .string ⟨#[]⟩, .string ⟨#[]⟩]
theorem zPC_one : ∀ v ∈ zPC, v.oneCell' = true := by decide
/-- a command's name and label among its cells -/
def PCmdC (cs : List Value) (c : Nat × List UInt8) : Prop := cs.length = 25 ∧ (∀ v ∈ cs, v.oneCell' = true) ∧ cs[12]? = some (.int .u8 c.1) ∧ c.1 < 256 ∧ cs[13]? = some (.int .u8 (labB c.2))
def PcdPost (s : ByteArray) (w : World) (e : Ending) (w' : World) : Prop :=
  Below w.heap.size w w' ∧ ∃ cs : List Value, cs.length = 25 ∧ (∀ v ∈ cs, v.oneCell' = true) ∧
    ((cmdM s.data.toList = none ∧ e = .returned (.tuple #[.agg cs.toArray, .bool false])) ∨ ∃ c, cmdM s.data.toList = some c ∧ PCmdC cs c ∧ e = .returned (.tuple #[.agg cs.toArray, .bool true]))
theorem cbw_store0 {op : Oper} {a : Act} {w : World} {K : Act → World → Prop} {Q : Exit → Act → World → Prop} {g n : Nat} {cs vs : List Value} {T : TypeId} (hT : RowT T n) (hb : CB w g cs) (hlc : cs.length = n) (x y : Operand) (ho : op.op = .store T x y) (hx : a.eval x = .pointer (some ⟨g, 0, none⟩)) (hy : a.eval y = .agg vs.toArray) (hl : vs.length = n) (h1 : ∀ v ∈ vs, v.oneCell' = true)
    (h : ∀ w', CB w' g vs → Only g w w' → K (a.put op.dst undef) w') : op.wp Try.prog a w K Q := by
  subst hl
  obtain ⟨_, hi⟩ := hT
  have hc := hb.store 0 vs (by omega) h1
  rw [List.take_zero, List.nil_append, List.drop_of_length_le (by omega), List.append_nil] at hc
  exact wp_store_mid T x y ho g 0 vs.toArray hx hy (by rw [List.size_toArray]; exact hb.there 0 vs.length (by omega)) (by rw [List.size_toArray]; exact hi) (all_oneCell_toArray h1) (h _ hc (Only.setCells g 0 vs w))
set_option maxRecDepth 100000 in
set_option maxHeartbeats 8000000 in
theorem readCommand_calls (s : ByteArray) (w : World) (hs : s.size ≤ 400) (hnl : NoNL s) :
    Calls Try.prog 13 #[.string s] w fun e w' => PcdPost s w e w' := by
  have HNL : Hid (NoNL s) := hnl
  have HCM : Hid (cmdM s.data.toList = nameM (behP s.data.toList).1 (behP s.data.toList).2) := (cmd_same _).symm
  clear hnl
  have hb0 : CB (w.alloc (.cells zPC.toArray 63)) w.heap.size zPC := CB.new w _ _ zPC_one
  have B0 : Below w.heap.size w (w.alloc (.cells zPC.toArray 63)) := (Below.refl _ _).alloc (Nat.le_refl _) _
  go_enter Try.func13, Try.ntmps13
  go_wp2_with fail
  change Calls _ _ _ (w.alloc (.cells zPC.toArray 63)) _
  generalize w.alloc (.cells zPC.toArray 63) = W at *
  refine (readAddresses_calls s W hs HNL.out).mono ?_
  rintro e w2 ⟨B2, vs, cn, q, hvl, hv1, hA, hv0, hcn, hqs, hbeh, rfl⟩
  have HN : Hid (cmdM s.data.toList = nameM cn (s.data.toList.drop q)) := by show _ = _; rw [HCM.out, hbeh]
  have hb2 := hb0.below B2 hb0.lt
  have BB2 := B0.trans (B2.mono B0.size)
  have hlt2 := hb2.lt
  have hbn : CB (w2.alloc (.cells zAs.toArray 56)) w2.heap.size zAs := CB.new w2 _ _ zAs_one
  have hb3 := hb2.below ((Below.refl w2.heap.size w2).alloc (Nat.le_refl _) (.cells zAs.toArray 56)) hlt2
  have B3 := BB2.alloc (o := .cells zAs.toArray 56) (by omega)
  clear hbeh HCM hb2 BB2 B2 hb0 B0
  have hq0 : ¬ (q : Int) < 0 := by omega
  by_cases hz : q < s.size
  · have hz1 : ¬ (s.size : Int) ≤ (q : Int) := by omega
    have hz2 : (q : Int) < (s.size : Int) := by omega
    have hz3 : (q : Int) + 1 ≤ (s.size : Int) := by omega
    obtain ⟨x, hx⟩ : ∃ x : Nat, s[q].toNat = x := ⟨_, rfl⟩
    have hxc : x < 256 := by rw [← hx]; exact s[q].toNat_lt
    have HN2 : Hid (cmdM s.data.toList = if askedM cn x (s.data.toList.drop (q + 1)) then some (x, if labelled x then s.data.toList.drop (q + 1) else []) else none) := by
      show _ = _
      rw [HN.out, get_drop s q hz, nameM, hx]
    obtain ⟨q0, k1, n1, k2, n2, f1, f2, f3, f4, f5, a1, a2, l1, c1, l2, c2, rfl⟩ := hA
    obtain rfl : q0 = (cn : Int) := by simpa using hv0
    clear HN
    go_wp2_with (refine cb_store0 rtPAddrs hbn rfl rfl _ _ rfl rfl rfl rfl hv1 ?_
                 intro w5 hb5 O5
                 have hr5 := hb3.keep (O5.block _ (by omega)) (by rw [O5.size]; exact Nat.le_refl _)
                 have B5 := B3.trans (O5.below (B := w.heap.size) (by omega))
                 have hs5 : w5.heap.size = w2.heap.size + 1 := by rw [O5.size]; simp
                 have hl5 := hb5.lt)
    have hone : ∀ v ∈ ([.int .i64 (cn : Int), .int .i64 k1, .int .i64 n1, .bool f1, .bool f2, .slice a1 l1 c1, .int .i64 k2, .int .i64 n2, .bool f3, .bool f4, .slice a2 l2 c2, .bool f5, .int .u8 x, .int .u8 0, .int .i64 0, .string ⟨#[]⟩, .bool false, .bool false, .slice none 0 0, .slice none 0 0, .int .i64 0, .bool false, .bool false, .string ⟨#[]⟩, .string ⟨#[]⟩] : List Value), v.oneCell' = true := by simp [Value.oneCell']
    have r5 : w5.drew.rangeAt w2.heap.size 0 [.int .i64 (cn : Int), .int .i64 k1, .int .i64 n1, .bool f1, .bool f2, .slice a1 l1 c1, .int .i64 k2, .int .i64 n2, .bool f3, .bool f4, .slice a2 l2 c2, .bool f5] := (hb5.keep (w' := w5.drew) rfl (Nat.le_refl _)).range 0 12
    have HZ5 : Hid (CB ((w5.alloc (.cells zPC.toArray 63)).drew) (w2.heap.size + 1) zPC) := by
      have h9 := CB.new w5 63 zPC.toArray zPC_one
      rw [hs5] at h9
      exact h9.keep rfl (Nat.le_refl _)
    have HR5 : Hid (CB ((w5.alloc (.cells zPC.toArray 63)).drew) w.heap.size zPC) := (hr5.below ((Below.refl _ _).alloc (Nat.le_refl _) _) hr5.lt).keep rfl (Nat.le_refl _)
    have HV5 : Hid (CB ((w5.alloc (.cells zPC.toArray 63)).drew) w2.heap.size [.int .i64 (cn : Int), .int .i64 k1, .int .i64 n1, .bool f1, .bool f2, .slice a1 l1 c1, .int .i64 k2, .int .i64 n2, .bool f3, .bool f4, .slice a2 l2 c2, .bool f5]) := (hb5.below ((Below.refl _ _).alloc (Nat.le_refl _) _) hb5.lt).keep rfl (Nat.le_refl _)
    have HB5 : Hid (Below w.heap.size w ((w5.alloc (.cells zPC.toArray 63)).drew)) := (B5.alloc (by omega) _).drew
    have hwl : w.heap.size < w2.heap.size + 1 := by omega
    refine wp_region_held_drew (S := fun wx => wx.rangeAt w2.heap.size 0 [.int .i64 (cn : Int), .int .i64 k1, .int .i64 n1, .bool f1, .bool f2, .slice a1 l1 c1, .int .i64 k2, .int .i64 n2, .bool f3, .bool f4, .slice a2 l2 c2, .bool f5]) (by kernel_rfl) r5 (fun hHeld => ?_)
    refine wpAnyH_take (i := 0) rfl (by kernel_rfl) (by kernel_rfl) (by kernel_rfl) (fun _ _ _ h => h) (yieldsIf_load_mid (by rfl) 56 (.tmp 4) rfl w2.heap.size 0 rfl [.int .i64 (cn : Int), .int .i64 k1, .int .i64 n1, .bool f1, .bool f2, .slice a1 l1 c1, .int .i64 k2, .int .i64 n2, .bool f3, .bool f4, .slice a2 l2 c2, .bool f5] _ (fun _ h => h) Try.underlying56 rfl (by kernel_rfl)) hHeld ?_
    simp only [Act.put, List.setIfInBounds_toArray, List.set_cons_zero, List.set_cons_succ]
    refine wpAnyH_take (i := 1) (v := .string s) rfl (by kernel_rfl) (by kernel_rfl) (by kernel_rfl) (fun _ _ _ h => h) (Or.inl ⟨by rfl, fun w hSw => by go_simp⟩) hHeld ?_
    simp only [Act.put, List.setIfInBounds_toArray, List.set_cons_zero, List.set_cons_succ]
    refine wpAnyH_take (i := 2) (v := .int .i64 (q : Int)) rfl (by kernel_rfl) (by kernel_rfl) (by kernel_rfl) (fun _ _ _ h => h) (Or.inl ⟨by rfl, fun w hSw => by go_simp⟩) hHeld ?_
    simp only [Act.put, List.setIfInBounds_toArray, List.set_cons_zero, List.set_cons_succ]
    refine wpAnyH_take (i := 3) (v := .int .u8 x) rfl (by kernel_rfl) (by kernel_rfl) (by kernel_rfl) (fun _ _ _ h => h) (Or.inl ⟨by rfl, fun w hSw => by go_simp⟩) hHeld ?_
    simp only [Act.put, List.setIfInBounds_toArray, List.set_cons_zero, List.set_cons_succ]
    refine wpAnyH_take (i := 4) (v := .agg ([.int .i64 (cn : Int), .int .i64 k1, .int .i64 n1, .bool f1, .bool f2, .slice a1 l1 c1, .int .i64 k2, .int .i64 n2, .bool f3, .bool f4, .slice a2 l2 c2, .bool f5, .int .u8 x, .int .u8 0, .int .i64 0, .string ⟨#[]⟩, .bool false, .bool false, .slice none 0 0, .slice none 0 0, .int .i64 0, .bool false, .bool false, .string ⟨#[]⟩, .string ⟨#[]⟩] : List Value).toArray) rfl (by kernel_rfl) (by kernel_rfl) (by kernel_rfl) (fun _ _ _ h => h) (Or.inl ⟨by rfl, fun w hSw => by go_simp⟩) hHeld ?_
    simp only [Act.put, List.setIfInBounds_toArray, List.set_cons_zero, List.set_cons_succ]
    refine wpAnyH_ready (rs := [5]) (by kernel_rfl) (by simp) ?_
    refine AllReadyH.cons rfl (fun K hK => ?_) AllReadyH.nil
    go_simp
    change K _ ((w5.alloc (.cells zPC.toArray 63)).drew)
    generalize (w5.alloc (.cells zPC.toArray 63)).drew = W5 at *
    refine hK.out _ _ (HV5.out.range 0 12) (fun hHeld2 => ?_)
    clear hK K
    refine wpAnyH_ready (rs := [6]) (by kernel_rfl) (by simp) ?_
    refine AllReadyH.cons rfl (fun K hK => ?_) AllReadyH.nil
    rw [if_pos (by rfl)]
    refine cbw_store0 rtPCmd HZ5.out rfl (.tmp 6) (.tmp 26) rfl rfl rfl rfl hone ?_
    intro W6 hc6 O6
    refine hK.out _ _ ((HV5.out.keep (O6.block _ (by omega)) (by rw [O6.size]; exact Nat.le_refl _)).range 0 12) (fun _ => wpAnyH_done (by kernel_rfl) ?_ _)
    have hr6 := HR5.out.keep (O6.block _ (by omega)) (by rw [O6.size]; exact Nat.le_refl _)
    have B6 := HB5.out.trans (O6.below (B := w.heap.size) (by omega))
    clear hK K r5 hHeld hHeld2 HV5 HR5 HB5 HZ5 O6 hb5 O5 hr5 B5
    simp only [Act.put, List.setIfInBounds_toArray, List.set_cons_zero, List.set_cons_succ]
    have HZ : Hid ((s.extract (q + 1) s.size).size ≤ 400) := by show _ ≤ _; rw [ByteArray.size_extract]; omega
    have HZ2 : Hid ((s.extract (q + 1) s.size).data.toList = s.data.toList.drop (q + 1)) := dropx s (q + 1)
    have HZ3 : Hid (NoNL (s.extract (q + 1) s.size)) := fun c hc => by rw [HZ2.out] at hc; exact HNL.out.drop _ c hc
    go_wp2_with fail
    refine (readRest_calls (w2.heap.size + 1) cn x _ _ _ HZ.out HZ3.out ⟨hc6, rfl⟩ rfl rfl hxc).mono ?_
    rintro e w7 ⟨rfl, cs7, hc7, hl7, ha7⟩
    have hr7 := hr6.apt ha7 (by omega)
    have B7 := B6.trans (ha7.below (by omega) (by have := hc6.lt; omega))
    have hc71 := hc7.1
    have hc72 := hc7.2
    rw [HZ2.out]
    have HL7 : Hid (PCmdC cs7 (x, if labelled x then s.data.toList.drop (q + 1) else [])) := by
      refine ⟨hc72, hc71.one, hl7.1, hxc, ?_⟩
      rw [hl7.2]
      cases hlb : labelled x
      · rfl
      · show some (Value.int .u8 (labB (s.extract (q + 1) s.size).data.toList)) = _
        rw [HZ2.out]; rfl
    clear hl7 ha7 hc7 hc6 hr6 B6
    generalize hak : askedM cn x (s.data.toList.drop (q + 1)) = ak at *
    cases ak
    · have HF : Hid (cmdM s.data.toList = none) := HN2.out
      go_wp2_with (refine cb_store0 rtPCmd hr7 rfl rfl _ _ rfl rfl (vs := zPC) rfl rfl zPC_one ?_; intro w8 hb8 O8)
      refine bodyPost_ret (results_cb rfl _ _ _ _ rfl rtPCmd hb8 rfl) rfl ?_
      exact ⟨B7.trans (O8.below (Nat.le_refl _)), zPC, rfl, zPC_one, .inl ⟨HF.out, rfl⟩⟩
    · have HF : Hid (cmdM s.data.toList = some (x, if labelled x then s.data.toList.drop (q + 1) else [])) := HN2.out
      go_wp2_with (first
        | refine cb_load0 rtPCmd hc71 hc72 rfl _ rfl rfl ?_
        | (refine cb_store0 rtPCmd hr7 rfl rfl _ _ rfl rfl rfl hc72 hc71.one ?_; intro w8 hb8 O8))
      refine bodyPost_ret (results_cb rfl _ _ _ _ rfl rtPCmd hb8 hc72) rfl ?_
      exact ⟨B7.trans (O8.below (Nat.le_refl _)), cs7, hc72, hc71.one, .inr ⟨_, HF.out, HL7.out, rfl⟩⟩
  · have hz1 : (s.size : Int) ≤ (q : Int) := by omega
    have HF : Hid (cmdM s.data.toList = none) := by
      show _ = _
      rw [HN.out, List.drop_of_length_le (by rw [ba_len]; omega)]; rfl
    clear HN
    go_wp2_with (first
      | (refine cb_store0 rtPAddrs hbn rfl rfl _ _ rfl rfl rfl hvl hv1 ?_; intro w5 hb5 O5; have hr5 := hb3.keep (O5.block _ (by omega)) (by rw [O5.size]; exact Nat.le_refl _))
      | (refine cb_store0 rtPCmd hr5 rfl rfl _ _ rfl rfl (vs := zPC) rfl rfl zPC_one ?_; intro w8 hb8 O8))
    refine bodyPost_ret (results_cb rfl _ _ _ _ rfl rtPCmd hb8 rfl) rfl ?_
    exact ⟨(B3.trans (O5.below (by omega))).trans (O8.below (Nat.le_refl _)), zPC, rfl, zPC_one, .inl ⟨HF.out, rfl⟩⟩
end Go.Proofs.Ytlppphmnegdhoab
