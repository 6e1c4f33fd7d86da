import Derived.Test.YtlppphmnegdhoabGreatDoorRows
import Derived.WalkKit
import Derived.WalkSpells
import Derived.WalkLawsBesides
import Derived.Laws.BitsLemmas
import Derived.Deep.QuietTactic
import Derived.BigQuiet
import Derived.Lib.Strings
import Derived.Laws.BytesArg
import Derived.Deep.MidRow
import Derived.Deep.WholeRow
import Derived.Laws.ResultCell
import Derived.Deep.CutBlock
import Derived.Deep.DeepCutAuto
import Derived.Deep.RegionHeld3
import Derived.Deep.DrawnRows
import Derived.Deep.AppendLies
import Derived.Deep.RegionLaw
import Derived.Great.BuildSlice
import Derived.Lib.ItoaNum
import Derived.Laws.AppendOwnNone
import Derived.Laws.OwnMore
import Derived.Lib.AppendStr
import Derived.Deep.RegionWith
import Derived.Test.YtlppphmnegdhoabGreatDoorMa7
namespace Go.Proofs.YtlppphmnegdhoabGreatDoor
set_option linter.unusedVariables false
set_option maxRecDepth 100000
open Go.RowKit
open M

def pln (nm : Nat) : Bool := !labelled nm && !(nm == 97 || nm == 105 || nm == 99 || nm == 115 || nm == 121)
/-- a command's cells behind what stands behind its name was read -/
inductive RestV (lo : Nat) (w : World) (cs : List Value) (s : ByteArray) : Nat → List Value → Prop
  | plain (nm : Nat) : pln nm = true → RestV lo w cs s nm cs
  | lab (nm : Nat) : labelled nm = true → RestV lo w cs s nm (cs.set 13 (.int .u8 (labB s.data.toList)))
  | txt (nm : Nat) : nm = 97 ∨ nm = 105 ∨ nm = 99 → RestV lo w cs s nm (cs.set 15 (.string s))
  | sub (cs' : List Value) : SubV lo w cs cs' (subV s.data.toList) → RestV lo w cs s 115 cs'
  | exc : RestV lo w cs s 121 (cs.take 23 ++ [.string (ofB (brB (exchV s.data.toList).1)), .string (ofB (brB (exchV s.data.toList).2))])
def RvPost (b cn nm : Nat) (cs : List Value) (s : ByteArray) (w : World) (e : Ending) (w' : World) : Prop :=
  e = .returned (.bool (askedM cn nm s.data.toList)) ∧ ∃ cs', PCmd w' b cs' ∧ (askedM cn nm s.data.toList = true → RestV w.heap.size w' cs s nm cs') ∧ Apt b w w'
set_option maxRecDepth 100000 in
set_option maxHeartbeats 4000000 in
theorem vRest_calls (b cn nm : Nat) (cs : List Value) (s : ByteArray) (w : World) (hs : s.size ≤ 400) (hnl : NoNL s) (hb : PCmd w b cs) (hk0 : cs[0]? = some (.int .i64 cn)) (hnm : cs[12]? = some (.int .u8 nm)) (hn2 : nm < 256) :
    Calls Tryz.prog 132 #[.pointer (some ⟨b, 0, none⟩), .string s] w fun e w' => RvPost b cn nm cs s w e w' := by
  have c0 := hb.1.c 0 _ hk0
  have c12 := hb.1.c 12 _ hnm
  have hlen := hb.2
  obtain ⟨fr, hfr⟩ : ∃ fr, decide (cn = 0) = fr := ⟨_, rfl⟩
  have hfr2 : ((cn : Int) == 0) = fr := by rw [← hfr, Bool.eq_iff_iff]; simp
  obtain ⟨em, hem⟩ : ∃ em, s.toList.isEmpty = em := ⟨_, rfl⟩
  have HFR : Hid (decide (cn = 0) = fr) := hfr
  have HEM : Hid (s.data.toList.isEmpty = em) := by show _ = _; rw [emp_dat]; exact hem
  have HNL : Hid (NoNL s) := hnl
  have HB : Hid (PCmd w b cs) := hb
  have HK : Hid (cs[12]? = some (.int .u8 nm)) := hnm
  have HK0 : Hid (cs[0]? = some (.int .i64 cn)) := hk0
  clear hfr hnl hb hnm hk0
  by_cases hpl : nm = 112 ∨ nm = 100 ∨ nm = 68 ∨ nm = 80 ∨ nm = 110 ∨ nm = 78 ∨ nm = 104 ∨ nm = 72 ∨ nm = 103 ∨ nm = 71 ∨ nm = 120 ∨ nm = 113 ∨ nm = 61 ∨ nm = 123
  · have HA : Hid (askedM cn nm s.data.toList = em) := by
      show _ = _
      rw [← HEM.out]
      rcases hpl with rfl | rfl | rfl | rfl | rfl | rfl | rfl | rfl | rfl | rfl | rfl | rfl | rfl | rfl <;> rfl
    have HPN : Hid (pln nm = true) := by
      show _ = _
      rcases hpl with rfl | rfl | rfl | rfl | rfl | rfl | rfl | rfl | rfl | rfl | rfl | rfl | rfl | rfl <;> rfl
    rcases hpl with rfl | rfl | rfl | rfl | rfl | rfl | rfl | rfl | rfl | rfl | rfl | rfl | rfl | rfl
    · go_enter Tryz.func132, Tryz.ntmps132
      cases em
      · go_wp2
        go_ret
        exact ⟨ret_bool (by rw [HA.out]), cs, HB.out, fun _ => .plain _ HPN.out, Apt.refl _ _⟩
      · go_wp2
        go_ret
        exact ⟨ret_bool (by rw [HA.out]), cs, HB.out, fun _ => .plain _ HPN.out, Apt.refl _ _⟩
    · go_enter Tryz.func132, Tryz.ntmps132
      cases em
      · go_wp2
        go_ret
        exact ⟨ret_bool (by rw [HA.out]), cs, HB.out, fun _ => .plain _ HPN.out, Apt.refl _ _⟩
      · go_wp2
        go_ret
        exact ⟨ret_bool (by rw [HA.out]), cs, HB.out, fun _ => .plain _ HPN.out, Apt.refl _ _⟩
    · go_enter Tryz.func132, Tryz.ntmps132
      cases em
      · go_wp2
        go_ret
        exact ⟨ret_bool (by rw [HA.out]), cs, HB.out, fun _ => .plain _ HPN.out, Apt.refl _ _⟩
      · go_wp2
        go_ret
        exact ⟨ret_bool (by rw [HA.out]), cs, HB.out, fun _ => .plain _ HPN.out, Apt.refl _ _⟩
    · go_enter Tryz.func132, Tryz.ntmps132
      cases em
      · go_wp2
        go_ret
        exact ⟨ret_bool (by rw [HA.out]), cs, HB.out, fun _ => .plain _ HPN.out, Apt.refl _ _⟩
      · go_wp2
        go_ret
        exact ⟨ret_bool (by rw [HA.out]), cs, HB.out, fun _ => .plain _ HPN.out, Apt.refl _ _⟩
    · go_enter Tryz.func132, Tryz.ntmps132
      cases em
      · go_wp2
        go_ret
        exact ⟨ret_bool (by rw [HA.out]), cs, HB.out, fun _ => .plain _ HPN.out, Apt.refl _ _⟩
      · go_wp2
        go_ret
        exact ⟨ret_bool (by rw [HA.out]), cs, HB.out, fun _ => .plain _ HPN.out, Apt.refl _ _⟩
    · go_enter Tryz.func132, Tryz.ntmps132
      cases em
      · go_wp2
        go_ret
        exact ⟨ret_bool (by rw [HA.out]), cs, HB.out, fun _ => .plain _ HPN.out, Apt.refl _ _⟩
      · go_wp2
        go_ret
        exact ⟨ret_bool (by rw [HA.out]), cs, HB.out, fun _ => .plain _ HPN.out, Apt.refl _ _⟩
    · go_enter Tryz.func132, Tryz.ntmps132
      cases em
      · go_wp2
        go_ret
        exact ⟨ret_bool (by rw [HA.out]), cs, HB.out, fun _ => .plain _ HPN.out, Apt.refl _ _⟩
      · go_wp2
        go_ret
        exact ⟨ret_bool (by rw [HA.out]), cs, HB.out, fun _ => .plain _ HPN.out, Apt.refl _ _⟩
    · go_enter Tryz.func132, Tryz.ntmps132
      cases em
      · go_wp2
        go_ret
        exact ⟨ret_bool (by rw [HA.out]), cs, HB.out, fun _ => .plain _ HPN.out, Apt.refl _ _⟩
      · go_wp2
        go_ret
        exact ⟨ret_bool (by rw [HA.out]), cs, HB.out, fun _ => .plain _ HPN.out, Apt.refl _ _⟩
    · go_enter Tryz.func132, Tryz.ntmps132
      cases em
      · go_wp2
        go_ret
        exact ⟨ret_bool (by rw [HA.out]), cs, HB.out, fun _ => .plain _ HPN.out, Apt.refl _ _⟩
      · go_wp2
        go_ret
        exact ⟨ret_bool (by rw [HA.out]), cs, HB.out, fun _ => .plain _ HPN.out, Apt.refl _ _⟩
    · go_enter Tryz.func132, Tryz.ntmps132
      cases em
      · go_wp2
        go_ret
        exact ⟨ret_bool (by rw [HA.out]), cs, HB.out, fun _ => .plain _ HPN.out, Apt.refl _ _⟩
      · go_wp2
        go_ret
        exact ⟨ret_bool (by rw [HA.out]), cs, HB.out, fun _ => .plain _ HPN.out, Apt.refl _ _⟩
    · go_enter Tryz.func132, Tryz.ntmps132
      cases em
      · go_wp2
        go_ret
        exact ⟨ret_bool (by rw [HA.out]), cs, HB.out, fun _ => .plain _ HPN.out, Apt.refl _ _⟩
      · go_wp2
        go_ret
        exact ⟨ret_bool (by rw [HA.out]), cs, HB.out, fun _ => .plain _ HPN.out, Apt.refl _ _⟩
    · go_enter Tryz.func132, Tryz.ntmps132
      cases em
      · go_wp2
        go_ret
        exact ⟨ret_bool (by rw [HA.out]), cs, HB.out, fun _ => .plain _ HPN.out, Apt.refl _ _⟩
      · go_wp2
        go_ret
        exact ⟨ret_bool (by rw [HA.out]), cs, HB.out, fun _ => .plain _ HPN.out, Apt.refl _ _⟩
    · go_enter Tryz.func132, Tryz.ntmps132
      cases em
      · go_wp2
        go_ret
        exact ⟨ret_bool (by rw [HA.out]), cs, HB.out, fun _ => .plain _ HPN.out, Apt.refl _ _⟩
      · go_wp2
        go_ret
        exact ⟨ret_bool (by rw [HA.out]), cs, HB.out, fun _ => .plain _ HPN.out, Apt.refl _ _⟩
    · go_enter Tryz.func132, Tryz.ntmps132
      cases em
      · go_wp2
        go_ret
        exact ⟨ret_bool (by rw [HA.out]), cs, HB.out, fun _ => .plain _ HPN.out, Apt.refl _ _⟩
      · go_wp2
        go_ret
        exact ⟨ret_bool (by rw [HA.out]), cs, HB.out, fun _ => .plain _ HPN.out, Apt.refl _ _⟩
  by_cases h125 : nm = 125
  · subst h125
    have HA : Hid (askedM cn 125 s.data.toList = (fr && em)) := by show _ = _; rw [← HFR.out, ← HEM.out]; rfl
    go_enter Tryz.func132, Tryz.ntmps132
    cases em
    · go_wp2
      go_ret
      exact ⟨ret_bool (by rw [HA.out]; cases fr <;> rfl), cs, HB.out, fun _ => .plain _ rfl, Apt.refl _ _⟩
    · cases fr
      · go_wp2
        go_ret
        exact ⟨ret_bool (by rw [HA.out]; try rfl), cs, HB.out, fun _ => .plain _ rfl, Apt.refl _ _⟩
      · go_wp2
        go_ret
        exact ⟨ret_bool (by rw [HA.out]; try rfl), cs, HB.out, fun _ => .plain _ rfl, Apt.refl _ _⟩
  by_cases h58 : nm = 58
  · subst h58
    have HA : Hid (askedM cn 58 s.data.toList = (fr && letM s.data.toList)) := by show _ = _; rw [← HFR.out]; rfl
    obtain ⟨v13, c13⟩ := HB.out.1.get 13 (by omega)
    have f13 := HB.out.1.fz 13 (by omega)
    have hlb := labB_lt s.data.toList
    have hln := labB_ne s.data.toList
    have hA1 : PCmd (w.setCell ⟨b, 13, none⟩ (.int .u8 (labB s.data.toList))) b (cs.set 13 (.int .u8 (labB s.data.toList))) := ⟨HB.out.1.set 13 (by omega) _ rfl, by rw [List.length_set]; exact hlen⟩
    have hO1 : Apt b w (w.setCell ⟨b, 13, none⟩ (.int .u8 (labB s.data.toList))) := Apt.of_only (Only.set _ _ _ _)
    have HLP : Hid (∀ w', RestV w.heap.size w' cs s 58 (cs.set 13 (.int .u8 (labB s.data.toList)))) := fun _ => .lab 58 rfl
    have hc131 := hA1.1.c 13 _ (by rw [List.getElem?_set_self (by omega)])
    have hc01 := hA1.1.c 0 (.int .i64 cn) (by rw [List.getElem?_set_ne (by decide)]; exact HK0.out)
    go_enter Tryz.func132, Tryz.ntmps132
    go_wp2_with fail
    refine (labelOf_calls s _ hs).mono ?_
    rintro e wq ⟨rfl, hwq⟩
    rw [hwq]
    clear hwq
    generalize labB s.data.toList = lb at *
    have HLN : Hid (lb ≠ 0 ↔ letM s.data.toList = true) := hln
    clear hln
    by_cases hz : lb = 0
    · have hz1 : ((lb : Int) != 0) = false := by simp [hz]
      have HLT : Hid (letM s.data.toList = false) := by
        cases h9 : letM s.data.toList
        · rfl
        · exact absurd hz (HLN.out.2 h9)
      clear hz
      go_wp2
      go_ret
      exact ⟨ret_bool (by rw [HA.out, HLT.out]; cases fr <;> rfl), _, hA1, fun _ => HLP.out _, hO1⟩
    · have hz1 : ((lb : Int) != 0) = true := by simp; omega
      have HLT : Hid (letM s.data.toList = true) := HLN.out.1 hz
      clear hz
      cases fr
      · go_wp2
        go_ret
        exact ⟨ret_bool (by rw [HA.out]; rfl), _, hA1, fun _ => HLP.out _, hO1⟩
      · go_wp2
        go_ret
        exact ⟨ret_bool (by rw [HA.out, HLT.out]; rfl), _, hA1, fun _ => HLP.out _, hO1⟩
  by_cases h98 : nm = 98
  · subst h98
    have HA : Hid (askedM cn 98 s.data.toList = (em || letM s.data.toList)) := by show _ = _; rw [← HEM.out]; rfl
    obtain ⟨v13, c13⟩ := HB.out.1.get 13 (by omega)
    have f13 := HB.out.1.fz 13 (by omega)
    have hlb := labB_lt s.data.toList
    have hln := labB_ne s.data.toList
    have hA1 : PCmd (w.setCell ⟨b, 13, none⟩ (.int .u8 (labB s.data.toList))) b (cs.set 13 (.int .u8 (labB s.data.toList))) := ⟨HB.out.1.set 13 (by omega) _ rfl, by rw [List.length_set]; exact hlen⟩
    have hO1 : Apt b w (w.setCell ⟨b, 13, none⟩ (.int .u8 (labB s.data.toList))) := Apt.of_only (Only.set _ _ _ _)
    have HLP : Hid (∀ w', RestV w.heap.size w' cs s 98 (cs.set 13 (.int .u8 (labB s.data.toList)))) := fun _ => .lab 98 rfl
    have hc131 := hA1.1.c 13 _ (by rw [List.getElem?_set_self (by omega)])
    have hc01 := hA1.1.c 0 (.int .i64 cn) (by rw [List.getElem?_set_ne (by decide)]; exact HK0.out)
    go_enter Tryz.func132, Tryz.ntmps132
    go_wp2_with fail
    refine (labelOf_calls s _ hs).mono ?_
    rintro e wq ⟨rfl, hwq⟩
    rw [hwq]
    clear hwq
    generalize labB s.data.toList = lb at *
    have HLN : Hid (lb ≠ 0 ↔ letM s.data.toList = true) := hln
    clear hln
    by_cases hz : lb = 0
    · have hz1 : ((lb : Int) != 0) = false := by simp [hz]
      have HLT : Hid (letM s.data.toList = false) := by
        cases h9 : letM s.data.toList
        · rfl
        · exact absurd hz (HLN.out.2 h9)
      clear hz
      cases em
      · go_wp2
        go_ret
        exact ⟨ret_bool (by rw [HA.out, HLT.out]; rfl), _, hA1, fun _ => HLP.out _, hO1⟩
      · go_wp2
        go_ret
        exact ⟨ret_bool (by rw [HA.out]; rfl), _, hA1, fun _ => HLP.out _, hO1⟩
    · have hz1 : ((lb : Int) != 0) = true := by simp; omega
      have HLT : Hid (letM s.data.toList = true) := HLN.out.1 hz
      clear hz
      go_wp2
      go_ret
      exact ⟨ret_bool (by rw [HA.out, HLT.out]; cases em <;> rfl), _, hA1, fun _ => HLP.out _, hO1⟩
  by_cases h116 : nm = 116
  · subst h116
    have HA : Hid (askedM cn 116 s.data.toList = (em || letM s.data.toList)) := by show _ = _; rw [← HEM.out]; rfl
    obtain ⟨v13, c13⟩ := HB.out.1.get 13 (by omega)
    have f13 := HB.out.1.fz 13 (by omega)
    have hlb := labB_lt s.data.toList
    have hln := labB_ne s.data.toList
    have hA1 : PCmd (w.setCell ⟨b, 13, none⟩ (.int .u8 (labB s.data.toList))) b (cs.set 13 (.int .u8 (labB s.data.toList))) := ⟨HB.out.1.set 13 (by omega) _ rfl, by rw [List.length_set]; exact hlen⟩
    have hO1 : Apt b w (w.setCell ⟨b, 13, none⟩ (.int .u8 (labB s.data.toList))) := Apt.of_only (Only.set _ _ _ _)
    have HLP : Hid (∀ w', RestV w.heap.size w' cs s 116 (cs.set 13 (.int .u8 (labB s.data.toList)))) := fun _ => .lab 116 rfl
    have hc131 := hA1.1.c 13 _ (by rw [List.getElem?_set_self (by omega)])
    have hc01 := hA1.1.c 0 (.int .i64 cn) (by rw [List.getElem?_set_ne (by decide)]; exact HK0.out)
    go_enter Tryz.func132, Tryz.ntmps132
    go_wp2_with fail
    refine (labelOf_calls s _ hs).mono ?_
    rintro e wq ⟨rfl, hwq⟩
    rw [hwq]
    clear hwq
    generalize labB s.data.toList = lb at *
    have HLN : Hid (lb ≠ 0 ↔ letM s.data.toList = true) := hln
    clear hln
    by_cases hz : lb = 0
    · have hz1 : ((lb : Int) != 0) = false := by simp [hz]
      have HLT : Hid (letM s.data.toList = false) := by
        cases h9 : letM s.data.toList
        · rfl
        · exact absurd hz (HLN.out.2 h9)
      clear hz
      cases em
      · go_wp2
        go_ret
        exact ⟨ret_bool (by rw [HA.out, HLT.out]; rfl), _, hA1, fun _ => HLP.out _, hO1⟩
      · go_wp2
        go_ret
        exact ⟨ret_bool (by rw [HA.out]; rfl), _, hA1, fun _ => HLP.out _, hO1⟩
    · have hz1 : ((lb : Int) != 0) = true := by simp; omega
      have HLT : Hid (letM s.data.toList = true) := HLN.out.1 hz
      clear hz
      go_wp2
      go_ret
      exact ⟨ret_bool (by rw [HA.out, HLT.out]; cases em <;> rfl), _, hA1, fun _ => HLP.out _, hO1⟩
  by_cases h97 : nm = 97
  · subst h97
    have HA : Hid (askedM cn 97 s.data.toList = true) := by show _ = _; rfl
    obtain ⟨v15, c15⟩ := HB.out.1.get 15 (by omega)
    have f15 := HB.out.1.fz 15 (by omega)
    have hA1 : PCmd (w.setCell ⟨b, 15, none⟩ (.string s)) b (cs.set 15 (.string s)) := ⟨HB.out.1.set 15 (by omega) _ rfl, by rw [List.length_set]; exact hlen⟩
    have hO1 : Apt b w (w.setCell ⟨b, 15, none⟩ (.string s)) := Apt.of_only (Only.set _ _ _ _)
    go_enter Tryz.func132, Tryz.ntmps132
    go_wp2
    go_ret
    exact ⟨ret_bool (by rw [HA.out]), _, hA1, fun _ => .txt _ (by decide), hO1⟩
  by_cases h105 : nm = 105
  · subst h105
    have HA : Hid (askedM cn 105 s.data.toList = true) := by show _ = _; rfl
    obtain ⟨v15, c15⟩ := HB.out.1.get 15 (by omega)
    have f15 := HB.out.1.fz 15 (by omega)
    have hA1 : PCmd (w.setCell ⟨b, 15, none⟩ (.string s)) b (cs.set 15 (.string s)) := ⟨HB.out.1.set 15 (by omega) _ rfl, by rw [List.length_set]; exact hlen⟩
    have hO1 : Apt b w (w.setCell ⟨b, 15, none⟩ (.string s)) := Apt.of_only (Only.set _ _ _ _)
    go_enter Tryz.func132, Tryz.ntmps132
    go_wp2
    go_ret
    exact ⟨ret_bool (by rw [HA.out]), _, hA1, fun _ => .txt _ (by decide), hO1⟩
  by_cases h99 : nm = 99
  · subst h99
    have HA : Hid (askedM cn 99 s.data.toList = true) := by show _ = _; rfl
    obtain ⟨v15, c15⟩ := HB.out.1.get 15 (by omega)
    have f15 := HB.out.1.fz 15 (by omega)
    have hA1 : PCmd (w.setCell ⟨b, 15, none⟩ (.string s)) b (cs.set 15 (.string s)) := ⟨HB.out.1.set 15 (by omega) _ rfl, by rw [List.length_set]; exact hlen⟩
    have hO1 : Apt b w (w.setCell ⟨b, 15, none⟩ (.string s)) := Apt.of_only (Only.set _ _ _ _)
    go_enter Tryz.func132, Tryz.ntmps132
    go_wp2
    go_ret
    exact ⟨ret_bool (by rw [HA.out]), _, hA1, fun _ => .txt _ (by decide), hO1⟩
  by_cases h115 : nm = 115
  · subst h115
    have HA : Hid (askedM cn 115 s.data.toList = changeM 115 s.data.toList) := by show _ = _; rfl
    go_enter Tryz.func132, Tryz.ntmps132
    go_wp2_with fail
    refine (vSubstitution_calls b cs s w hs HNL.out HB.out).mono ?_
    rintro e w2 ⟨rfl, cs', hc', hs', ha'⟩
    have HS' : Hid (changeM 115 s.data.toList = true → SubV w.heap.size w2 cs cs' (subV s.data.toList)) := hs'
    have HA2 : Hid (askedM cn 115 s.data.toList = changeM 115 s.data.toList) := HA.out
    clear hs'
    generalize changeM 115 s.data.toList = lt at HA ⊢
    go_wp2
    go_ret
    exact ⟨ret_bool (by rw [HA.out]), cs', hc', fun h => .sub cs' (HS'.out (HA2.out.symm.trans h)), ha'⟩
  by_cases h121 : nm = 121
  · subst h121
    have HA : Hid (askedM cn 121 s.data.toList = changeM 121 s.data.toList) := by show _ = _; rfl
    go_enter Tryz.func132, Tryz.ntmps132
    go_wp2_with fail
    refine (vExchange_calls b cs s w hs HNL.out HB.out).mono ?_
    rintro e w2 ⟨rfl, cs', hc', hs', ha'⟩
    have HS' : Hid (changeM 121 s.data.toList = true → cs' = cs.take 23 ++ [.string (ofB (brB (exchV s.data.toList).1)), .string (ofB (brB (exchV s.data.toList).2))]) := hs'
    have HA2 : Hid (askedM cn 121 s.data.toList = changeM 121 s.data.toList) := HA.out
    clear hs'
    generalize changeM 121 s.data.toList = lt at HA ⊢
    go_wp2
    go_ret
    exact ⟨ret_bool (by rw [HA.out]), cs', hc', fun h => by (rw [HS'.out (HA2.out.symm.trans h)]; exact .exc), ha'⟩
  have HA : Hid (askedM cn nm s.data.toList = false) := by
    show _ = _
    unfold askedM
    rw [if_neg h125, if_neg h58, if_neg (by omega), if_neg (by omega), if_neg (by omega)]
    have : plainN.any (fun d => d.toNat == nm) = false := by
      simp only [plainN, List.any_cons, List.any_nil, Bool.or_false]
      simp
      omega
    rw [this]; rfl
  have n112 : ((nm : Int) == 112) = false := by simp; omega
  have n100 : ((nm : Int) == 100) = false := by simp; omega
  have n68 : ((nm : Int) == 68) = false := by simp; omega
  have n80 : ((nm : Int) == 80) = false := by simp; omega
  have n110 : ((nm : Int) == 110) = false := by simp; omega
  have n78 : ((nm : Int) == 78) = false := by simp; omega
  have n104 : ((nm : Int) == 104) = false := by simp; omega
  have n72 : ((nm : Int) == 72) = false := by simp; omega
  have n103 : ((nm : Int) == 103) = false := by simp; omega
  have n71 : ((nm : Int) == 71) = false := by simp; omega
  have n120 : ((nm : Int) == 120) = false := by simp; omega
  have n113 : ((nm : Int) == 113) = false := by simp; omega
  have n61 : ((nm : Int) == 61) = false := by simp; omega
  have n123 : ((nm : Int) == 123) = false := by simp; omega
  have n125 : ((nm : Int) == 125) = false := by simp; omega
  have n58 : ((nm : Int) == 58) = false := by simp; omega
  have n98 : ((nm : Int) == 98) = false := by simp; omega
  have n116 : ((nm : Int) == 116) = false := by simp; omega
  have n97 : ((nm : Int) == 97) = false := by simp; omega
  have n105 : ((nm : Int) == 105) = false := by simp; omega
  have n99 : ((nm : Int) == 99) = false := by simp; omega
  have n115 : ((nm : Int) == 115) = false := by simp; omega
  have n121 : ((nm : Int) == 121) = false := by simp; omega
  clear hpl h125 h58 h98 h116 h97 h105 h99 h115 h121
  go_enter Tryz.func132, Tryz.ntmps132
  go_wp2
  go_ret
  exact ⟨ret_bool (by rw [HA.out]), cs, HB.out, fun h => by (rw [HA.out] at h; cases h), Apt.refl _ _⟩
end Go.Proofs.YtlppphmnegdhoabGreatDoor

namespace Go.Proofs.YtlppphmnegdhoabGreatDoor
set_option linter.unusedVariables false
set_option linter.unusedSimpArgs false
set_option maxRecDepth 100000
open Go.RowKit
open M

theorem rtPCmd : RowT 148 25 := ⟨⟨_, Tryz.underlying148, rfl⟩, by kernel_rfl⟩
def zPC : List Value := [.int .i64 0, .int .i64 0, .int .i64 0, .bool false, .bool false, .slice none 0 0, .int .i64 0, .int .i64 0, .bool false, .bool false, .slice none 0 0, .bool false, .int .u8 0, .int .u8 0, .int .i64 0, .string ⟨#[]⟩, .bool false, .bool false, .slice none 0 0, .slice none 0 0, .int .i64 0, .bool false, .bool false, .string ⟨#[]⟩, .string ⟨#[]⟩]
theorem zPC_one : ∀ v ∈ zPC, v.oneCell' = true := by decide
theorem cbw_store0 {op : Oper} {a : Act} {w : World} {K : Act → World → Prop} {Q : Exit → Act → World → Prop} {g n : Nat} {cs vs : List Value} {T : TypeId} (hT : RowT T n) (hb : CB w g cs) (hlc : cs.length = n) (x y : Operand) (ho : op.op = .store T x y) (hx : a.eval x = .pointer (some ⟨g, 0, none⟩)) (hy : a.eval y = .agg vs.toArray) (hl : vs.length = n) (h1 : ∀ v ∈ vs, v.oneCell' = true)
    (h : ∀ w', CB w' g vs → Only g w w' → K (a.put op.dst undef) w') : op.wp Tryz.prog a w K Q := by
  subst hl
  obtain ⟨_, hi⟩ := hT
  have hc := hb.store 0 vs (by omega) h1
  rw [List.take_zero, List.nil_append, List.drop_of_length_le (by omega), List.append_nil] at hc
  exact wp_store_mid T x y ho g 0 vs.toArray hx hy (by rw [List.size_toArray]; exact hb.there 0 vs.length (by omega)) (by rw [List.size_toArray]; exact hi) (all_oneCell_toArray h1) (h _ hc (Only.setCells g 0 vs w))
end Go.Proofs.YtlppphmnegdhoabGreatDoor

namespace Go.Proofs.YtlppphmnegdhoabGreatDoor
set_option linter.unusedVariables false
set_option linter.unusedSimpArgs false
set_option maxRecDepth 100000
open Go.RowKit
open M

theorem Kp.apt {lo g : Nat} {w x y : World} (h : Kp lo w x) (O : Apt g x y) (hg : w.heap.size ≤ g) : Kp lo w y := ⟨Nat.le_trans h.1 O.size, fun k h1 h2 => (O.block k (Nat.lt_of_lt_of_le h2 h.1) (by omega)).trans (h.2 k h1 h2)⟩
/-- a command of which the name alone was read -/
def cm0 (A : Ads) (nm : Nat) : Cm := ⟨A.cnt, A.a1, A.a2, A.no, nm, 0, 0, ⟨#[]⟩, zSub, ⟨#[]⟩, ⟨#[]⟩⟩
theorem new_nil' (lo : Nat) (w : World) (a : Option Addr) : New lo w (fun w => RpOk w a zSub.rep) := fun _ _ _ k hk => by simp [zSub] at hk
theorem rest_cm {lo : Nat} {w : World} {A : Ads} {nm : Nat} {s : ByteArray} {p1 p2 : Option Addr} {r1 r2 : Nat} {cs cs' : List Value} (hcs : cs = cmV (cm0 A nm) p1 r1 p2 r2 none 0 none 0) (h : RestV lo w cs s nm cs') :
    ∃ p3 q3 p4 q4, cs' = cmV (fillV A nm s.data.toList) p1 r1 p2 r2 p3 q3 p4 q4 ∧ New lo w (fun w => ExOk w p3 (fillV A nm s.data.toList).sub.ex.l) ∧ New lo w (fun w => RpOk w p4 (fillV A nm s.data.toList).sub.rep) := by
  subst hcs
  cases h with
  | plain _ hp =>
    have h1 : labelled nm = false := by
      unfold pln at hp
      cases hl : labelled nm
      · rfl
      · rw [hl] at hp; cases hp
    have h2 : ¬ (nm = 97 ∨ nm = 105 ∨ nm = 99) ∧ nm ≠ 115 ∧ nm ≠ 121 := by
      simp [pln] at hp
      omega
    have e : fillV A nm s.data.toList = cm0 A nm := by
      unfold fillV
      rw [h1, if_neg h2.1, if_neg h2.2.1, if_neg h2.2.2, if_neg h2.2.2]; rfl
    rw [e]
    exact ⟨none, 0, none, 0, rfl, new_nil _ _ _, new_nil' _ _ _⟩
  | lab _ hl =>
    have h2 : ¬ (nm = 97 ∨ nm = 105 ∨ nm = 99) ∧ nm ≠ 115 ∧ nm ≠ 121 := by
      simp [labelled] at hl
      omega
    have e : fillV A nm s.data.toList = { cm0 A nm with label := labB s.data.toList } := by
      unfold fillV
      rw [hl, if_neg h2.1, if_neg h2.2.1, if_neg h2.2.2, if_neg h2.2.2]; rfl
    rw [e]
    exact ⟨none, 0, none, 0, rfl, new_nil _ _ _, new_nil' _ _ _⟩
  | txt _ ht =>
    have e : fillV A nm s.data.toList = { cm0 A nm with text := s } := by
      rcases ht with rfl | rfl | rfl <;> rfl
    rw [e]
    exact ⟨none, 0, none, 0, rfl, new_nil _ _ _, new_nil' _ _ _⟩
  | sub _ hs =>
    obtain ⟨p3, q3, p4, q4, rfl, h3, h4⟩ := hs
    have e : fillV A 115 s.data.toList = { cm0 A 115 with sub := subV s.data.toList } := rfl
    rw [e]
    exact ⟨p3, q3, p4, q4, rfl, h3, h4⟩
  | exc =>
    have e : fillV A 121 s.data.toList = (⟨A.cnt, A.a1, A.a2, A.no, 121, 0, 0, ⟨#[]⟩, zSub, ofB (brB (exchV s.data.toList).1), ofB (brB (exchV s.data.toList).2)⟩ : Cm) := rfl
    rw [e]
    exact ⟨none, 0, none, 0, rfl, new_nil _ _ _, new_nil' _ _ _⟩
def PcvPost (s : ByteArray) (w : World) (e : Ending) (w' : World) : Prop :=
  Below w.heap.size w w' ∧ ∃ cs : List Value, cs.length = 25 ∧ (∀ v ∈ cs, v.oneCell' = true) ∧
    ((cmdV s.data.toList = none ∧ e = .returned (.tuple #[.agg cs.toArray, .bool false])) ∨ ∃ c, cmdV s.data.toList = some c ∧ New w.heap.size w' (fun w => CmAt w cs c) ∧ e = .returned (.tuple #[.agg cs.toArray, .bool true]))
set_option maxRecDepth 100000 in
set_option maxHeartbeats 8000000 in
theorem vCommand_calls (s : ByteArray) (w : World) (hs : s.size ≤ 400) (hnl : NoNL s) :
    Calls Tryz.prog 90 #[.string s] w fun e w' => PcvPost s w e w' := by
  have HNL : Hid (NoNL s) := hnl
  have HCM : Hid (cmdV s.data.toList = namV (behV s.data.toList).1 (behV s.data.toList).2) := rfl
  clear hnl
  have hb0 : CB (w.alloc (.cells zPC.toArray 148)) w.heap.size zPC := CB.new w _ _ zPC_one
  have B0 : Below w.heap.size w (w.alloc (.cells zPC.toArray 148)) := (Below.refl _ _).alloc (Nat.le_refl _) _
  go_enter Tryz.func90, Tryz.ntmps90
  go_wp2_with fail
  change Calls _ _ _ (w.alloc (.cells zPC.toArray 148)) _
  generalize w.alloc (.cells zPC.toArray 148) = W at *
  refine (vAddresses_calls s W hs HNL.out).mono ?_
  rintro e w2 ⟨B2, vs, A, q, hqs, hbeh, ⟨p1, r1, p2, r2, hvs, hn1, hn2⟩, rfl⟩
  obtain ⟨lo, hlo⟩ : ∃ lo, W.heap.size = lo := ⟨_, rfl⟩
  have hwlo : w.heap.size < lo := by rw [← hlo]; exact hb0.lt
  have hlo2 : lo ≤ w2.heap.size := by rw [← hlo]; exact B2.size
  rw [hlo] at hn1 hn2
  have HN1 : Hid (New lo w2 (fun w => ExOk w p1 A.a1.ex.l) ∧ New lo w2 (fun w => ExOk w p2 A.a2.ex.l)) := ⟨hn1, hn2⟩
  clear hn1 hn2
  have hA : A12 (asL A p1 r1 p2 r2) := ⟨_, _, _, _, _, _, _, _, _, _, _, _, _, _, _, _, rfl⟩
  have hv0 : (asL A p1 r1 p2 r2)[0]? = some (.int .i64 (A.cnt : Nat)) := rfl
  have hvl : (asL A p1 r1 p2 r2).length = 12 := rfl
  have hv1 : ∀ v ∈ asL A p1 r1 p2 r2, v.oneCell' = true := by simp [asL, Value.oneCell']
  have HCM0 : Hid (∀ nm : Nat, cmV (cm0 A nm) p1 r1 p2 r2 none 0 none 0 = asL A p1 r1 p2 r2 ++ [.int .u8 (nm : Nat), .int .u8 0, .int .i64 0, .string ⟨#[]⟩, .bool false, .bool false, .slice none 0 0, .slice none 0 0, .int .i64 0, .bool false, .bool false, .string ⟨#[]⟩, .string ⟨#[]⟩]) := fun _ => rfl
  rw [hvs]
  clear hvs
  obtain ⟨cn, hcn⟩ : ∃ cn, A.cnt = cn := ⟨_, rfl⟩
  have HCN : Hid (A.cnt = cn) := hcn
  rw [hcn] at hv0
  generalize asL A p1 r1 p2 r2 = vs at *
  have HN : Hid (cmdV s.data.toList = namV A (s.data.toList.drop q)) := by show _ = _; rw [HCM.out, hbeh]
  have hb2 := hb0.below B2 hb0.lt
  have BB2 := B0.trans (B2.mono B0.size)
  have hlt2 := hb2.lt
  have hbn : CB (w2.alloc (.cells zAs.toArray 141)) w2.heap.size zAs := CB.new w2 _ _ zAs_one
  have hb3 := hb2.below ((Below.refl w2.heap.size w2).alloc (Nat.le_refl _) (.cells zAs.toArray 141)) hlt2
  have B3 := BB2.alloc (o := .cells zAs.toArray 141) (by omega)
  clear hbeh HCM hb2 BB2 B2 hb0 B0
  have hq0 : ¬ (q : Int) < 0 := by omega
  by_cases hz : q < s.size
  · have hz1 : ¬ (s.size : Int) ≤ (q : Int) := by omega
    have hz2 : (q : Int) < (s.size : Int) := by omega
    have hz3 : (q : Int) + 1 ≤ (s.size : Int) := by omega
    obtain ⟨x, hx⟩ : ∃ x : Nat, s[q].toNat = x := ⟨_, rfl⟩
    have hxc : x < 256 := by rw [← hx]; exact s[q].toNat_lt
    have HN2 : Hid (cmdV s.data.toList = if askedM cn x (s.data.toList.drop (q + 1)) then some (fillV A x (s.data.toList.drop (q + 1))) else none) := by
      show _ = _
      rw [HN.out, get_drop s q hz, namV, hx, HCN.out]
    obtain ⟨q0, k1, n1, k2, n2, f1, f2, f3, f4, f5, a1, a2, l1, c1, l2, c2, rfl⟩ := hA
    obtain rfl : q0 = (cn : Int) := by simpa using hv0
    clear HN
    go_wp2_with (refine cb_store0 rtPAddrs hbn rfl rfl _ _ rfl rfl rfl rfl hv1 ?_
                 intro w5 hb5 O5
                 have hr5 := hb3.keep (O5.block _ (by omega)) (by rw [O5.size]; exact Nat.le_refl _)
                 have B5 := B3.trans (O5.below (B := w.heap.size) (by omega))
                 have hs5 : w5.heap.size = w2.heap.size + 1 := by rw [O5.size]; simp
                 have hl5 := hb5.lt)
    have hone : ∀ v ∈ ([.int .i64 (cn : Int), .int .i64 k1, .int .i64 n1, .bool f1, .bool f2, .slice a1 l1 c1, .int .i64 k2, .int .i64 n2, .bool f3, .bool f4, .slice a2 l2 c2, .bool f5, .int .u8 x, .int .u8 0, .int .i64 0, .string ⟨#[]⟩, .bool false, .bool false, .slice none 0 0, .slice none 0 0, .int .i64 0, .bool false, .bool false, .string ⟨#[]⟩, .string ⟨#[]⟩] : List Value), v.oneCell' = true := by simp [Value.oneCell']
    have r5 : w5.drew.rangeAt w2.heap.size 0 [.int .i64 (cn : Int), .int .i64 k1, .int .i64 n1, .bool f1, .bool f2, .slice a1 l1 c1, .int .i64 k2, .int .i64 n2, .bool f3, .bool f4, .slice a2 l2 c2, .bool f5] := (hb5.keep (w' := w5.drew) rfl (Nat.le_refl _)).range 0 12
    have HZ5 : Hid (CB ((w5.alloc (.cells zPC.toArray 148)).drew) (w2.heap.size + 1) zPC) := by
      have h9 := CB.new w5 148 zPC.toArray zPC_one
      rw [hs5] at h9
      exact h9.keep rfl (Nat.le_refl _)
    have HR5 : Hid (CB ((w5.alloc (.cells zPC.toArray 148)).drew) w.heap.size zPC) := (hr5.below ((Below.refl _ _).alloc (Nat.le_refl _) _) hr5.lt).keep rfl (Nat.le_refl _)
    have HV5 : Hid (CB ((w5.alloc (.cells zPC.toArray 148)).drew) w2.heap.size [.int .i64 (cn : Int), .int .i64 k1, .int .i64 n1, .bool f1, .bool f2, .slice a1 l1 c1, .int .i64 k2, .int .i64 n2, .bool f3, .bool f4, .slice a2 l2 c2, .bool f5]) := (hb5.below ((Below.refl _ _).alloc (Nat.le_refl _) _) hb5.lt).keep rfl (Nat.le_refl _)
    have HB5 : Hid (Below w.heap.size w ((w5.alloc (.cells zPC.toArray 148)).drew)) := (B5.alloc (by omega) _).drew
    have hwl : w.heap.size < w2.heap.size + 1 := by omega
    have KP5 : Hid (Kp lo w2 ((w5.alloc (.cells zPC.toArray 148)).drew)) := by
      have h9 : Kp lo w2 (w5.alloc (.cells zPC.toArray 148)) := (((Kp.refl lo w2).alloc _).only O5 (.inr (Nat.le_refl _))).alloc _
      exact ⟨h9.1, h9.2⟩
    refine wp_region_held_drew (S := fun wx => wx.rangeAt w2.heap.size 0 [.int .i64 (cn : Int), .int .i64 k1, .int .i64 n1, .bool f1, .bool f2, .slice a1 l1 c1, .int .i64 k2, .int .i64 n2, .bool f3, .bool f4, .slice a2 l2 c2, .bool f5]) (by kernel_rfl) r5 (fun hHeld => ?_)
    refine wpAnyH_take (i := 0) rfl (by kernel_rfl) (by kernel_rfl) (by kernel_rfl) (fun _ _ _ h => h) (yieldsIf_load_mid (by rfl) 141 (.tmp 4) rfl w2.heap.size 0 rfl [.int .i64 (cn : Int), .int .i64 k1, .int .i64 n1, .bool f1, .bool f2, .slice a1 l1 c1, .int .i64 k2, .int .i64 n2, .bool f3, .bool f4, .slice a2 l2 c2, .bool f5] _ (fun _ h => h) Tryz.underlying141 rfl (by kernel_rfl)) hHeld ?_
    simp only [Act.put, List.setIfInBounds_toArray, List.set_cons_zero, List.set_cons_succ]
    refine wpAnyH_take (i := 1) (v := .string s) rfl (by kernel_rfl) (by kernel_rfl) (by kernel_rfl) (fun _ _ _ h => h) (Or.inl ⟨by rfl, fun w hSw => by go_simp⟩) hHeld ?_
    simp only [Act.put, List.setIfInBounds_toArray, List.set_cons_zero, List.set_cons_succ]
    refine wpAnyH_take (i := 2) (v := .int .i64 (q : Int)) rfl (by kernel_rfl) (by kernel_rfl) (by kernel_rfl) (fun _ _ _ h => h) (Or.inl ⟨by rfl, fun w hSw => by go_simp⟩) hHeld ?_
    simp only [Act.put, List.setIfInBounds_toArray, List.set_cons_zero, List.set_cons_succ]
    refine wpAnyH_take (i := 3) (v := .int .u8 x) rfl (by kernel_rfl) (by kernel_rfl) (by kernel_rfl) (fun _ _ _ h => h) (Or.inl ⟨by rfl, fun w hSw => by go_simp⟩) hHeld ?_
    simp only [Act.put, List.setIfInBounds_toArray, List.set_cons_zero, List.set_cons_succ]
    refine wpAnyH_take (i := 4) (v := .agg ([.int .i64 (cn : Int), .int .i64 k1, .int .i64 n1, .bool f1, .bool f2, .slice a1 l1 c1, .int .i64 k2, .int .i64 n2, .bool f3, .bool f4, .slice a2 l2 c2, .bool f5, .int .u8 x, .int .u8 0, .int .i64 0, .string ⟨#[]⟩, .bool false, .bool false, .slice none 0 0, .slice none 0 0, .int .i64 0, .bool false, .bool false, .string ⟨#[]⟩, .string ⟨#[]⟩] : List Value).toArray) rfl (by kernel_rfl) (by kernel_rfl) (by kernel_rfl) (fun _ _ _ h => h) (Or.inl ⟨by rfl, fun w hSw => by go_simp⟩) hHeld ?_
    simp only [Act.put, List.setIfInBounds_toArray, List.set_cons_zero, List.set_cons_succ]
    refine wpAnyH_ready (rs := [5]) (by kernel_rfl) (by simp) ?_
    refine AllReadyH.cons rfl (fun K hK => ?_) AllReadyH.nil
    go_simp
    change K _ ((w5.alloc (.cells zPC.toArray 148)).drew)
    generalize (w5.alloc (.cells zPC.toArray 148)).drew = W5 at *
    refine hK.out _ _ (HV5.out.range 0 12) (fun hHeld2 => ?_)
    clear hK K
    refine wpAnyH_ready (rs := [6]) (by kernel_rfl) (by simp) ?_
    refine AllReadyH.cons rfl (fun K hK => ?_) AllReadyH.nil
    rw [if_pos (by rfl)]
    refine cbw_store0 rtPCmd HZ5.out rfl (.tmp 6) (.tmp 26) rfl rfl rfl rfl hone ?_
    intro W6 hc6 O6
    refine hK.out _ _ ((HV5.out.keep (O6.block _ (by omega)) (by rw [O6.size]; exact Nat.le_refl _)).range 0 12) (fun _ => wpAnyH_done (by kernel_rfl) ?_ _)
    have hr6 := HR5.out.keep (O6.block _ (by omega)) (by rw [O6.size]; exact Nat.le_refl _)
    have B6 := HB5.out.trans (O6.below (B := w.heap.size) (by omega))
    have KP6 : Hid (Kp lo w2 W6) := KP5.out.only O6 (.inr (by omega))
    have hlo6 : w.heap.size < W6.heap.size := by have := KP6.out.1; omega
    clear hK K r5 hHeld hHeld2 HV5 HR5 HB5 HZ5 O6 hb5 O5 hr5 B5
    simp only [Act.put, List.setIfInBounds_toArray, List.set_cons_zero, List.set_cons_succ]
    have HZ : Hid ((s.extract (q + 1) s.size).size ≤ 400) := by show _ ≤ _; rw [ByteArray.size_extract]; omega
    have HZ2 : Hid ((s.extract (q + 1) s.size).data.toList = s.data.toList.drop (q + 1)) := dropx s (q + 1)
    have HZ3 : Hid (NoNL (s.extract (q + 1) s.size)) := fun c hc => by rw [HZ2.out] at hc; exact HNL.out.drop _ c hc
    go_wp2_with fail
    refine (vRest_calls (w2.heap.size + 1) cn x _ _ _ HZ.out HZ3.out ⟨hc6, rfl⟩ rfl rfl hxc).mono ?_
    rintro e w7 ⟨rfl, cs7, hc7, hl7, ha7⟩
    have hr7 := hr6.apt ha7 (by omega)
    have B7 := B6.trans (ha7.below (by omega) (by have := hc6.lt; omega))
    have hc71 := hc7.1
    have hc72 := hc7.2
    rw [HZ2.out]
    have KP7 : Hid (Kp lo w2 w7) := KP6.out.apt ha7 (by omega)
    rw [HZ2.out] at hl7
    have HL7 : Hid (askedM cn x (s.data.toList.drop (q + 1)) = true → ∃ p3 q3 p4 q4, cs7 = cmV (fillV A x (s.data.toList.drop (q + 1))) p1 r1 p2 r2 p3 q3 p4 q4 ∧ New W6.heap.size w7 (fun w => ExOk w p3 (fillV A x (s.data.toList.drop (q + 1))).sub.ex.l) ∧ New W6.heap.size w7 (fun w => RpOk w p4 (fillV A x (s.data.toList.drop (q + 1))).sub.rep)) := fun h => by
      have h9 := rest_cm (HCM0.out x).symm (hl7 h)
      rw [HZ2.out] at h9
      exact h9
    clear hl7 ha7 hc7 hc6 hr6 B6
    generalize hak : askedM cn x (s.data.toList.drop (q + 1)) = ak at HL7 HN2 ⊢
    cases ak
    · have HF : Hid (cmdV s.data.toList = none) := HN2.out
      go_wp2_with (refine cb_store0 rtPCmd hr7 rfl rfl _ _ rfl rfl (vs := zPC) rfl rfl zPC_one ?_; intro w8 hb8 O8)
      refine bodyPost_ret (results_cb rfl _ _ _ _ rfl rtPCmd hb8 rfl) rfl ?_
      exact ⟨B7.trans (O8.below (Nat.le_refl _)), zPC, rfl, zPC_one, .inl ⟨HF.out, rfl⟩⟩
    · have HF : Hid (cmdV s.data.toList = some (fillV A x (s.data.toList.drop (q + 1)))) := HN2.out
      go_wp2_with (first
        | refine cb_load0 rtPCmd hc71 hc72 rfl _ rfl rfl ?_
        | (refine cb_store0 rtPCmd hr7 rfl rfl _ _ rfl rfl rfl hc72 hc71.one ?_; intro w8 hb8 O8))
      refine bodyPost_ret (results_cb rfl _ _ _ _ rfl rtPCmd hb8 hc72) rfl ?_
      refine ⟨B7.trans (O8.below (Nat.le_refl _)), cs7, hc72, hc71.one, .inr ⟨_, HF.out, ?_, rfl⟩⟩
      obtain ⟨p3, q3, p4, q4, e1, e2, e3⟩ := HL7.out (by first | trivial | rfl)
      have g1 := ((HN1.out.1.kp KP7.out).only O8 hwlo).mono (Nat.le_of_lt hwlo)
      have g2 := ((HN1.out.2.kp KP7.out).only O8 hwlo).mono (Nat.le_of_lt hwlo)
      have g3 := (e2.only O8 hlo6).mono (Nat.le_of_lt hlo6)
      have g4 := (e3.only O8 hlo6).mono (Nat.le_of_lt hlo6)
      exact fun w'' h1 h2 => ⟨p1, r1, p2, r2, p3, q3, p4, q4, e1, g1 w'' h1 h2, g2 w'' h1 h2, g3 w'' h1 h2, g4 w'' h1 h2⟩
  · have hz1 : (s.size : Int) ≤ (q : Int) := by omega
    have HF : Hid (cmdV s.data.toList = none) := by
      show _ = _
      rw [HN.out, List.drop_of_length_le (by rw [ba_len]; omega)]; rfl
    clear HN
    go_wp2_with (first
      | (refine cb_store0 rtPAddrs hbn rfl rfl _ _ rfl rfl rfl hvl hv1 ?_; intro w5 hb5 O5; have hr5 := hb3.keep (O5.block _ (by omega)) (by rw [O5.size]; exact Nat.le_refl _))
      | (refine cb_store0 rtPCmd hr5 rfl rfl _ _ rfl rfl (vs := zPC) rfl rfl zPC_one ?_; intro w8 hb8 O8))
    refine bodyPost_ret (results_cb rfl _ _ _ _ rfl rtPCmd hb8 rfl) rfl ?_
    exact ⟨(B3.trans (O5.below (by omega))).trans (O8.below (Nat.le_refl _)), zPC, rfl, zPC_one, .inl ⟨HF.out, rfl⟩⟩
end Go.Proofs.YtlppphmnegdhoabGreatDoor

namespace Go.Proofs.YtlppphmnegdhoabGreatDoor
set_option linter.unusedVariables false
set_option maxRecDepth 100000
open Go.RowKit
open M

/-- where the line from k on ends -/
def LeAt (s : ByteArray) (k n : Nat) : Prop := k ≤ n ∧ n ≤ s.size ∧ (∀ i (h : i < s.size), k ≤ i → i < n → s[i].toNat ≠ 10) ∧ (n = s.size ∨ ∃ h : n < s.size, s[n].toNat = 10)
def LePost (s : ByteArray) (k : Nat) (w : World) (e : Ending) (w' : World) : Prop := (∃ n : Nat, e = .returned (.int .i64 n) ∧ LeAt s k n) ∧ w' = w
set_option maxRecDepth 100000 in
theorem lineEnd_calls (s : ByteArray) (k : Nat) (w : World) (hs : s.size ≤ 400) (hk : k ≤ s.size) :
    Calls Tryz.prog 89 #[.string s, .int .i64 k] w fun e w' => LePost s k w e w' := by
  have hsm : s.size ≤ maxLen := by unfold maxLen; omega
  go_enter Tryz.func89, Tryz.ntmps89
  go_wp2_with fail
  go_loop [1] (fun v1 => ∃ n : Nat, v1 = .int .i64 n ∧ k ≤ n ∧ n ≤ s.size ∧ Hid (∀ i (h : i < s.size), k ≤ i → i < n → s[i].toNat ≠ 10)) (fun v1 => s.size - (intOf v1).toNat)
  case atStart => exact ⟨k, rfl, Nat.le_refl _, hk, fun i h h1 h2 => by omega⟩
  case round =>
    obtain ⟨n, rfl, hkn, hns, HP⟩ := hrel
    by_cases hlt : n < s.size
    · have hlt1 : (n : Int) < (s.size : Int) := by omega
      go_wp2_with fail
      refine (stands_calls s n 10 _ hsm hns (by decide)).mono ?_
      rintro e wq ⟨rfl, hwq⟩
      rw [hwq]
      clear hwq
      have HE : Hid (stB (s.data.toList.drop n) 10 = (s[n].toNat == 10)) := by show _ = _; rw [get_drop s n hlt]; rfl
      cases hst : stB (s.data.toList.drop n) 10
      · have HP2 : Hid (∀ i (h : i < s.size), k ≤ i → i < n + 1 → s[i].toNat ≠ 10) := fun i h h1 h2 => by
          by_cases e : i = n
          · subst e
            have := HE.out
            rw [hst] at this
            simpa using this.symm
          · exact HP.out i h h1 (by omega)
        clear hst HE HP
        go_wp2
        go_round
        case rel => exact ⟨n + 1, by go_num, by omega, by omega, HP2.out⟩
        case measure => first | (simp [intOf]; done) | (simp [intOf]; omega)
      · have HF : Hid (LeAt s k n) := ⟨hkn, hns, HP.out, .inr ⟨hlt, by have := HE.out; rw [hst] at this; simpa using this.symm⟩⟩
        clear hst HE HP
        go_wp2
        go_ret
        exact ⟨⟨n, rfl, HF.out⟩, rfl⟩
    · have hlt1 : ¬ (n : Int) < (s.size : Int) := by omega
      have HF : Hid (LeAt s k n) := ⟨hkn, hns, HP.out, .inl (by omega)⟩
      clear HP
      go_wp2
      go_ret
      exact ⟨⟨n, rfl, HF.out⟩, rfl⟩
/-- commands in memory: their names and labels; where they lead to may be written -/
structure PRow (w : World) (g : Nat) (L : List (Nat × Nat)) : Prop where
  lt : g < w.heap.size
  nm : ∀ i (h : i < L.length), w.cell? ⟨g, i * 25 + 12, none⟩ = some (.int .u8 L[i].1)
  lb : ∀ i (h : i < L.length), w.cell? ⟨g, i * 25 + 13, none⟩ = some (.int .u8 L[i].2)
  nx : ∀ i (h : i < L.length), ∃ v, w.cell? ⟨g, i * 25 + 14, none⟩ = some v
  fz : ∀ i (h : i < L.length), w.frozen? ⟨g, i * 25 + 14, none⟩ = false
  b1 : ∀ i (h : i < L.length), L[i].1 < 256
  b2 : ∀ i (h : i < L.length), L[i].2 < 256
theorem PRow.keep {w w' : World} {g : Nat} {L : List (Nat × Nat)} (h : PRow w g L) (hk : w'.heap[g]? = w.heap[g]?) (hs : w.heap.size ≤ w'.heap.size) : PRow w' g L := by
  have hc : ∀ o, w'.cell? ⟨g, o, none⟩ = w.cell? ⟨g, o, none⟩ := fun o => World.cell?_of_block hk
  have hf : ∀ o, w'.frozen? ⟨g, o, none⟩ = w.frozen? ⟨g, o, none⟩ := fun o => World.frozen?_of_block hk
  exact ⟨by have := h.lt; omega, fun i hi => (hc _).trans (h.nm i hi), fun i hi => (hc _).trans (h.lb i hi), fun i hi => by obtain ⟨v, hv⟩ := h.nx i hi; exact ⟨v, (hc _).trans hv⟩, fun i hi => (hf _).trans (h.fz i hi), h.b1, h.b2⟩
theorem PRow.set {w : World} {g : Nat} {L : List (Nat × Nat)} (h : PRow w g L) (j : Nat) (hj : j < L.length) (u : Value) : PRow (w.setCell ⟨g, j * 25 + 14, none⟩ u) g L := by
  refine ⟨by simpa using h.lt, fun i hi => ?_, fun i hi => ?_, fun i hi => ?_, fun i hi => by simpa using h.fz i hi, h.b1, h.b2⟩
  · rw [World.cell?_setCell_other _ _ _ _ (fun e => by have := congrArg Addr.off e; simp at this; omega)]; exact h.nm i hi
  · rw [World.cell?_setCell_other _ _ _ _ (fun e => by have := congrArg Addr.off e; simp at this; omega)]; exact h.lb i hi
  · by_cases e : j = i
    · subst e
      obtain ⟨v, hv⟩ := h.nx j hj
      exact ⟨u, World.cell?_setCell_same' _ _ _ (by rw [hv]; rfl)⟩
    · obtain ⟨v, hv⟩ := h.nx i hi
      exact ⟨v, by rw [World.cell?_setCell_other _ _ _ _ (fun e' => by have := congrArg Addr.off e'; simp at this; omega)]; exact hv⟩
/-- a script in memory -/
structure ScrAt (w : World) (b : Nat) (a : Option Addr) (c : Nat) (L : List (Nat × Nat)) : Prop where
  lt : b < w.heap.size
  c0 : w.cell? ⟨b, 0, none⟩ = some (.slice a L.length c)
  row : L = [] ∨ ∃ g, a = some ⟨g, 0, none⟩ ∧ PRow w g L ∧ g ≠ b
  few : L.length ≤ 8192
def labP : List (Nat × Nat) → Nat → Nat
  | [], _ => 0
  | (n, l) :: t, x => if n = 58 ∧ l = x then 1 else if labP t x = 0 then 0 else labP t x + 1
theorem labP_cons (q : Nat × Nat) (t : List (Nat × Nat)) (x : Nat) : labP (q :: t) x = if q.1 = 58 ∧ q.2 = x then 1 else if labP t x = 0 then 0 else labP t x + 1 := by
  obtain ⟨n, l⟩ := q
  rw [labP]
/-- from a place on -/
def labF (L : List (Nat × Nat)) (i x : Nat) : Nat := if labP (L.drop i) x = 0 then 0 else labP (L.drop i) x + i
theorem labF_step (L : List (Nat × Nat)) (i x : Nat) (h : i < L.length) : labF L i x = if L[i].1 = 58 ∧ L[i].2 = x then i + 1 else labF L (i + 1) x := by
  unfold labF
  rw [List.drop_eq_getElem_cons h, labP_cons]
  by_cases hc : L[i].1 = 58 ∧ L[i].2 = x
  · rw [if_pos hc, if_pos hc]; simp; omega
  · rw [if_neg hc, if_neg hc]
    by_cases h0 : labP (L.drop (i + 1)) x = 0
    · rw [if_pos h0]; simp [h0]
    · rw [if_neg h0, if_neg h0, if_neg (by omega)]; omega
set_option maxRecDepth 100000 in
set_option maxHeartbeats 1000000 in
theorem behindLabel_calls (b : Nat) (a : Option Addr) (c x : Nat) (L : List (Nat × Nat)) (w : World) (hS : ScrAt w b a c L) (hx : x < 256) :
    Calls Tryz.prog 133 #[.pointer (some ⟨b, 0, none⟩), .int .u8 x] w fun e w' => e = .returned (.int .i64 ((labP L x : Nat) : Int)) ∧ w' = w := by
  obtain ⟨hlt0, hc0, hrow, hfew⟩ := hS
  obtain ⟨n, hn⟩ : ∃ n, L.length = n := ⟨_, rfl⟩
  have HN : Hid (L.length = n) := hn
  rw [hn] at hc0 hfew
  clear hn
  have HR : Hid (L = [] ∨ ∃ g, a = some ⟨g, 0, none⟩ ∧ PRow w g L ∧ g ≠ b) := hrow
  clear hrow
  have H0 : Hid (labP L x = labF L 0 x) := by
    show _ = _
    unfold labF
    rw [List.drop_zero]
    split <;> omega
  go_enter Tryz.func133, Tryz.ntmps133
  go_wp2_with fail
  go_loop [5, 11] (fun _ v11 => ∃ i : Nat, i ≤ n ∧ v11 = .int .i64 i ∧ Hid (labP L x = labF L i x)) (fun _ v11 => n - (intOf v11).toNat)
  case atStart => exact ⟨0, Nat.zero_le _, rfl, H0⟩
  case round =>
    clear H0
    obtain ⟨i, hi, rfl, HI⟩ := hrel
    by_cases hlt : i < n
    · have hlt1 : (i : Int) < (n : Int) := by omega
      have h0 : (0 : Int) ≤ (i : Int) := by omega
      have hiL : i < L.length := by rw [HN.out]; exact hlt
      obtain ⟨g, rfl, hpr, hgb⟩ : ∃ g, a = some ⟨g, 0, none⟩ ∧ PRow w g L ∧ g ≠ b := by
        rcases HR.out with h | h
        · rw [h] at hiL; simp at hiL
        · exact h
      have d1 := hpr.nm i hiL
      have d2 := hpr.lb i hiL
      have hgl := hpr.lt
      have e1 := hpr.b1 i hiL
      have e2 := hpr.b2 i hiL
      have HI2 : Hid (labP L x = if L[i].1 = 58 ∧ L[i].2 = x then i + 1 else labF L (i + 1) x) := by show _ = _; rw [HI.out, labF_step L i x hiL]
      generalize L[i].1 = y at *
      generalize L[i].2 = z at *
      clear HI hpr
      by_cases h58 : y = 58
      · have h581 : ((y : Int) == 58) = true := by simp [h58]
        by_cases hzx : z = x
        · have hzx1 : ((z : Int) == (x : Int)) = true := by simp [hzx]
          have HF : Hid (labP L x = i + 1) := by show _ = _; rw [HI2.out, if_pos ⟨h58, hzx⟩]
          clear h58 hzx HI2
          go_wp2
          go_ret
          exact ⟨by rw [HF.out]; rfl, rfl⟩
        · have hzx1 : ((z : Int) == (x : Int)) = false := by simp; omega
          have HF : Hid (labP L x = labF L (i + 1) x) := by show _ = _; rw [HI2.out, if_neg (fun h => hzx h.2)]
          clear h58 hzx HI2
          go_wp2
          go_round
          case rel => exact ⟨i + 1, by omega, by go_num, HF.out⟩
          case measure => first | (simp [intOf]; done) | (simp [intOf]; omega)
      · have h581 : ((y : Int) == 58) = false := by simp; omega
        have HF : Hid (labP L x = labF L (i + 1) x) := by show _ = _; rw [HI2.out, if_neg (fun h => h58 h.1)]
        clear h58 HI2
        go_wp2
        go_round
        case rel => exact ⟨i + 1, by omega, by go_num, HF.out⟩
        case measure => first | (simp [intOf]; done) | (simp [intOf]; omega)
    · have hlt1 : ¬ (i : Int) < (n : Int) := by omega
      have HF : Hid (labP L x = 0) := by
        show _ = _
        rw [HI.out]
        unfold labF
        rw [List.drop_of_length_le (by rw [HN.out]; omega)]; rfl
      clear HI
      go_wp2
      go_ret
      exact ⟨by rw [HF.out]; rfl, rfl⟩
end Go.Proofs.YtlppphmnegdhoabGreatDoor

namespace Go.Proofs.YtlppphmnegdhoabGreatDoor
set_option linter.unusedVariables false
set_option maxRecDepth 100000
open Go.RowKit
open M

/-- brackets, by names alone -/
def brkN : List (Nat × Nat) → Nat → Bool
  | [], d => d == 0
  | (n, _) :: t, d => if n = 123 then brkN t (d + 1) else if n = 125 then (if d = 0 then false else brkN t (d - 1)) else brkN t d
theorem brkN_cons (q : Nat × Nat) (t : List (Nat × Nat)) (d : Nat) : brkN (q :: t) d = if q.1 = 123 then brkN t (d + 1) else if q.1 = 125 then (if d = 0 then false else brkN t (d - 1)) else brkN t d := by
  obtain ⟨n, l⟩ := q
  rw [brkN]
theorem elInt : ElT 116 3 1 8 (.int .i64 0) := ⟨by kernel_rfl, by kernel_rfl, rfl, by decide, by decide, by decide⟩
theorem ScrAt.below {w w' : World} {b : Nat} {a : Option Addr} {c : Nat} {L : List (Nat × Nat)} (h : ScrAt w b a c L) (hb : Below w.heap.size w w') : ScrAt w' b a c L := by
  refine ⟨by have := hb.size; have := h.lt; omega, (hb.cell (by exact h.lt)).trans h.c0, ?_, h.few⟩
  rcases h.row with h0 | ⟨g, ha, hp, hg⟩
  · exact .inl h0
  · exact .inr ⟨g, ha, hp.keep (hb.block g hp.lt) hb.size, hg⟩
/-- what is written lies in the row of commands, and nowhere else -/
structure Led (a : Option Addr) (w w' : World) : Prop where
  os : w'.os = w.os
  tape : w'.tape = w.tape
  output : w'.output = w.output
  size : w.heap.size ≤ w'.heap.size
  block : ∀ k, k < w.heap.size → (∀ g, a = some ⟨g, 0, none⟩ → k ≠ g) → w'.heap[k]? = w.heap[k]?
theorem Led.refl (a : Option Addr) (w : World) : Led a w w := ⟨rfl, rfl, rfl, Nat.le_refl _, fun _ _ _ => rfl⟩
theorem Led.trans {a : Option Addr} {x y z : World} (h : Led a x y) (k : Led a y z) : Led a x z :=
  ⟨k.os.trans h.os, k.tape.trans h.tape, k.output.trans h.output, Nat.le_trans h.size k.size, fun i hi hg => (k.block i (Nat.lt_of_lt_of_le hi h.size) hg).trans (h.block i hi hg)⟩
theorem Led.of_below {a : Option Addr} {w w' : World} (h : Below w.heap.size w w') : Led a w w' := ⟨h.os, h.tape, h.output, h.size, fun k hk _ => h.block k hk⟩
theorem Led.set (g o : Nat) (u : Value) (w : World) : Led (some ⟨g, 0, none⟩) w (w.setCell ⟨g, o, none⟩ u) := ⟨rfl, rfl, rfl, by simp, fun k _ hk => heap_setCell_other w _ k u (hk g rfl)⟩
theorem Led.drewN {a : Option Addr} {w w' : World} (h : Led a w w') (n : Nat) : Led a w (w'.drewN n) := ⟨h.os, h.tape, h.output, h.size, h.block⟩
theorem ScrAt.set {w : World} {b g : Nat} {c : Nat} {L : List (Nat × Nat)} (h : ScrAt w b (some ⟨g, 0, none⟩) c L) (j : Nat) (hj : j < L.length) (u : Value) : ScrAt (w.setCell ⟨g, j * 25 + 14, none⟩ u) b (some ⟨g, 0, none⟩) c L := by
  obtain ⟨g', e, hp, hg⟩ : ∃ g', (some ⟨g, 0, none⟩ : Option Addr) = some ⟨g', 0, none⟩ ∧ PRow w g' L ∧ g' ≠ b := by
    rcases h.row with h0 | h0
    · rw [h0] at hj; simp at hj
    · exact h0
  simp at e
  subst e
  exact ⟨by simpa using h.lt, by rw [World.cell?_setCell_other _ _ _ _ (fun e => hg (congrArg Addr.block e))]; exact h.c0, .inr ⟨g, rfl, hp.set j hj u, hg⟩, h.few⟩
/-- a command's label is as it must be, by bytes -/
def LabN1 (L : List (Nat × Nat)) (i : Nat) (h : i < L.length) : Prop := (L[i].1 = 58 → labP L L[i].2 = i + 1) ∧ (L[i].1 = 98 ∨ L[i].1 = 116 → L[i].2 ≠ 0 → labP L L[i].2 ≠ 0)
def LdPost (b : Nat) (a : Option Addr) (c : Nat) (L : List (Nat × Nat)) (w : World) (e : Ending) (w' : World) : Prop :=
  ∃ r : Bool, e = .returned (.bool r) ∧ (r = true ↔ ∀ i (h : i < L.length), LabN1 L i h) ∧ ScrAt w' b a c L ∧ Led a w w'
set_option maxRecDepth 100000 in
set_option maxHeartbeats 1000000 in
theorem leadToLabels_calls (b : Nat) (a : Option Addr) (c : Nat) (L : List (Nat × Nat)) (w : World) (hS : ScrAt w b a c L) :
    Calls Tryz.prog 92 #[.pointer (some ⟨b, 0, none⟩)] w fun e w' => LdPost b a c L w e w' := by
  have hfew := hS.few
  have hc0 := hS.c0
  have hbl := hS.lt
  obtain ⟨n, hn⟩ : ∃ n, L.length = n := ⟨_, rfl⟩
  have HN : Hid (L.length = n) := hn
  rw [hn] at hc0 hfew
  have HS : Hid (ScrAt w b a c L) := hS
  clear hn hS
  go_enter Tryz.func92, Tryz.ntmps92
  go_wp2_with fail
  go_loopw [3, 4, 5, 11] (fun _ _ _ v11 wr => ∃ i : Nat, i ≤ n ∧ v11 = .int .i64 i ∧ Hid (ScrAt wr b a c L ∧ Led a w wr) ∧ Hid (∀ j (h : j < L.length), j < i → LabN1 L j h)) (fun _ _ _ v11 _ => n - (intOf v11).toNat)
  case atStart => exact ⟨0, Nat.zero_le _, rfl, ⟨HS.out, Led.refl _ _⟩, fun _ _ h => by omega⟩
  case round =>
    clear hc0 hbl HS
    obtain ⟨i, hi, rfl, HW, HJ⟩ := hrel
    have hc0 := HW.out.1.c0
    rw [HN.out] at hc0
    have hbl := HW.out.1.lt
    by_cases hlt : i < n
    · have hlt1 : (i : Int) < (n : Int) := by omega
      have h0 : (0 : Int) ≤ (i : Int) := by omega
      have hiL : i < L.length := by rw [HN.out]; exact hlt
      obtain ⟨g, rfl, hpr, hgb⟩ : ∃ g, a = some ⟨g, 0, none⟩ ∧ PRow wr g L ∧ g ≠ b := by
        rcases HW.out.1.row with h | h
        · rw [h] at hiL; simp at hiL
        · exact h
      have d1 := hpr.nm i hiL
      have d2 := hpr.lb i hiL
      obtain ⟨v9, d3⟩ := hpr.nx i hiL
      have f3 := hpr.fz i hiL
      have hgl := hpr.lt
      have e1 := hpr.b1 i hiL
      have e2 := hpr.b2 i hiL
      obtain ⟨y, hy⟩ : ∃ y, L[i].1 = y := ⟨_, rfl⟩
      obtain ⟨z, hz⟩ : ∃ z, L[i].2 = z := ⟨_, rfl⟩
      rw [hy] at d1 e1
      rw [hz] at d2 e2
      have HY : Hid (L[i].1 = y ∧ L[i].2 = z) := ⟨hy, hz⟩
      have HJ2 : Hid (LabN1 L i hiL → ∀ j (h : j < L.length), j < i + 1 → LabN1 L j h) := fun hl j h hj => by
        by_cases e : j = i
        · subst e; exact hl
        · exact HJ.out j h (by omega)
      have HNO : Hid (¬ LabN1 L i hiL → ¬ ∀ j (h : j < L.length), LabN1 L j h) := fun h hk => h (hk i hiL)
      clear hy hz HJ hpr
      go_wp2_with fail
      refine (behindLabel_calls b _ c z L _ HW.out.1 e2).mono ?_
      rintro e wq ⟨rfl, hwq⟩
      rw [hwq]
      clear hwq
      obtain ⟨q, hq⟩ : ∃ q, labP L z = q := ⟨_, rfl⟩
      have HQ : Hid (labP L z = q) := hq
      rw [hq]
      clear hq
      by_cases h58 : y = 58
      · have h581 : ((y : Int) == 58) = true := by simp [h58]
        by_cases hqi : q = i + 1
        · have hqi1 : ((q : Int) != (i : Int) + 1) = false := by simp; omega
          have HL : Hid (LabN1 L i hiL) := ⟨fun _ => by rw [HY.out.2, HQ.out]; exact hqi, fun h => by have := HY.out.1; omega⟩
          clear h58 hqi
          go_wp2
          go_roundw
          case rel => exact ⟨i + 1, by omega, by go_num, HW.out, HJ2.out HL.out⟩
          case measure => first | (simp [intOf]; done) | (simp [intOf]; omega)
        · have hqi1 : ((q : Int) != (i : Int) + 1) = true := by simp; omega
          have HF : Hid (¬ ∀ j (h : j < L.length), LabN1 L j h) := HNO.out (fun h => hqi (by rw [← HQ.out, ← HY.out.2]; exact h.1 (by rw [HY.out.1]; exact h58)))
          clear h58 hqi
          go_wp2
          go_ret
          exact ⟨false, rfl, ⟨fun h => Bool.noConfusion h, fun h => absurd h HF.out⟩, HW.out⟩
      have h581 : ((y : Int) == 58) = false := by simp; omega
      by_cases hbt : y = 98 ∨ y = 116
      · have hor : (((y : Int) == 98) = true) ∨ (((y : Int) == 98) = false ∧ ((y : Int) == 116) = true) := by
          rcases hbt with h | h
          · exact .inl (by simp [h])
          · exact .inr (by simp [h])
        have HBT : Hid (y = 98 ∨ y = 116) := hbt
        clear hbt h58
        by_cases hz0 : z = 0
        · have hz1 : ((z : Int) != 0) = false := by simp [hz0]
          have hz2 : ((z : Int) == 0) = true := by simp [hz0]
          have HL : Hid (LabN1 L i hiL) := ⟨fun h => by have := HY.out.1; have := HBT.out; omega, fun _ h => absurd (by rw [HY.out.2]; exact hz0) h⟩
          have HW2 : Hid (ScrAt (wr.setCell ⟨g, i * 25 + 14, none⟩ (.int .i64 n)) b (some ⟨g, 0, none⟩) c L ∧ Led (some ⟨g, 0, none⟩) w (wr.setCell ⟨g, i * 25 + 14, none⟩ (.int .i64 n))) := ⟨HW.out.1.set i hiL _, HW.out.2.trans (Led.set _ _ _ _)⟩
          clear hz0
          rcases hor with ho | ⟨ho1, ho2⟩
          · go_wp2
            go_roundw
            case rel => exact ⟨i + 1, by omega, by go_num, HW2.out, HJ2.out HL.out⟩
            case measure => first | (simp [intOf]; done) | (simp [intOf]; omega)
          · go_wp2
            go_roundw
            case rel => exact ⟨i + 1, by omega, by go_num, HW2.out, HJ2.out HL.out⟩
            case measure => first | (simp [intOf]; done) | (simp [intOf]; omega)
        · have hz1 : ((z : Int) != 0) = true := by simp; omega
          have hz2 : ((z : Int) == 0) = false := by simp; omega
          by_cases hq0 : q = 0
          · have hq1 : ((q : Int) == 0) = true := by simp [hq0]
            have HF : Hid (¬ ∀ j (h : j < L.length), LabN1 L j h) := HNO.out (fun h => h.2 (by rw [HY.out.1]; exact HBT.out) (by rw [HY.out.2]; exact hz0) (by rw [HY.out.2, HQ.out]; exact hq0))
            clear hz0 hq0
            rcases hor with ho | ⟨ho1, ho2⟩
            · go_wp2
              go_ret
              exact ⟨false, rfl, ⟨fun h => Bool.noConfusion h, fun h => absurd h HF.out⟩, HW.out⟩
            · go_wp2
              go_ret
              exact ⟨false, rfl, ⟨fun h => Bool.noConfusion h, fun h => absurd h HF.out⟩, HW.out⟩
          · have hq1 : ((q : Int) == 0) = false := by simp; omega
            have HL : Hid (LabN1 L i hiL) := ⟨fun h => by have := HY.out.1; have := HBT.out; omega, fun _ _ => by rw [HY.out.2, HQ.out]; exact hq0⟩
            have HW2 : Hid (ScrAt (wr.setCell ⟨g, i * 25 + 14, none⟩ (.int .i64 q)) b (some ⟨g, 0, none⟩) c L ∧ Led (some ⟨g, 0, none⟩) w (wr.setCell ⟨g, i * 25 + 14, none⟩ (.int .i64 q))) := ⟨HW.out.1.set i hiL _, HW.out.2.trans (Led.set _ _ _ _)⟩
            clear hz0 hq0
            rcases hor with ho | ⟨ho1, ho2⟩
            · go_wp2
              go_roundw
              case rel => exact ⟨i + 1, by omega, by go_num, HW2.out, HJ2.out HL.out⟩
              case measure => first | (simp [intOf]; done) | (simp [intOf]; omega)
            · go_wp2
              go_roundw
              case rel => exact ⟨i + 1, by omega, by go_num, HW2.out, HJ2.out HL.out⟩
              case measure => first | (simp [intOf]; done) | (simp [intOf]; omega)
      have h98 : ((y : Int) == 98) = false := by simp; omega
      have h116 : ((y : Int) == 116) = false := by simp; omega
      have HL : Hid (LabN1 L i hiL) := ⟨fun h => by have := HY.out.1; omega, fun h => by have := HY.out.1; omega⟩
      clear hbt h58
      go_wp2
      go_roundw
      case rel => exact ⟨i + 1, by omega, by go_num, HW.out, HJ2.out HL.out⟩
      case measure => first | (simp [intOf]; done) | (simp [intOf]; omega)
    · have hlt1 : ¬ (i : Int) < (n : Int) := by omega
      have HF : Hid (∀ j (h : j < L.length), LabN1 L j h) := fun j h => HJ.out j h (by rw [HN.out] at h; omega)
      clear HJ
      go_wp2
      go_ret
      exact ⟨true, rfl, ⟨fun _ => HF.out, fun _ => rfl⟩, HW.out⟩
end Go.Proofs.YtlppphmnegdhoabGreatDoor

namespace Go.Proofs.YtlppphmnegdhoabGreatDoor
set_option linter.unusedVariables false
set_option maxRecDepth 100000
open Go.RowKit
open M

def natC (S : List Nat) : List Value := S.map (fun (k : Nat) => .int .i64 (k : Int))
theorem own_shrink {w : World} {B : Nat} {e : TypeId} {a : Option Addr} {n c : Nat} {S : List Nat} {x : Nat} (h : w.ownsRow B e 1 (.slice a (S.length + 1) c) (S.length + 1) (natC (S ++ [x]))) : w.ownsRow B e 1 (.slice a S.length c) S.length (natC S) := by
  obtain ⟨h1, ⟨h2, h3⟩ | ⟨g, cap, cur, e1, e2, e3, e4, e5, e6, e7⟩⟩ := h
  · omega
  · simp at e1
    obtain ⟨rfl, rfl⟩ := e1
    refine ⟨by simp [natC], .inr ⟨g, c, cur, rfl, e2, e3, by omega, e5, e6, ?_⟩⟩
    have h9 := congrArg (List.take S.length) e7
    rw [List.take_take] at h9
    rw [show S.length * 1 = min S.length ((S.length + 1) * 1) by omega, h9]
    simp [natC]
theorem own_last {w : World} {B : Nat} {e : TypeId} {a : Option Addr} {c : Nat} {S : List Nat} {x : Nat} (h : w.ownsRow B e 1 (.slice a (S.length + 1) c) (S.length + 1) (natC (S ++ [x]))) : ∃ g, a = some ⟨g, 0, none⟩ ∧ B ≤ g ∧ g < w.heap.size ∧ w.cell? ⟨g, S.length, none⟩ = some (.int .i64 x) ∧ S.length + 1 ≤ c := by
  have hh := h
  obtain ⟨h1, ⟨h2, h3⟩ | ⟨g, cap, cur, e1, e2, e3, e4, e5, e6, e7⟩⟩ := h
  · omega
  · simp at e1
    obtain ⟨rfl, rfl⟩ := e1
    have c1 := hh.cells rfl S.length (.int .i64 x) (by simp [natC])
    rw [Addr.add_mid, Nat.zero_add] at c1
    exact ⟨g, rfl, e2, (hh.lt g rfl).2, c1, e4⟩
end Go.Proofs.YtlppphmnegdhoabGreatDoor

namespace Go.Proofs.YtlppphmnegdhoabGreatDoor
set_option linter.unusedVariables false
open M

def toP (L : List (Nat × List UInt8)) : List (Nat × Nat) := L.map (fun c => (c.1, labB c.2))
end Go.Proofs.YtlppphmnegdhoabGreatDoor

namespace Go.Proofs.YtlppphmnegdhoabGreatDoor
set_option linter.unusedVariables false
open M

theorem lines_free (u : List UInt8) : ∀ acc, (∀ c ∈ u, c.toNat ≠ 10) → linesM acc u = if acc ++ u = [] then [] else [acc ++ u] := by
  induction u with
  | nil => intro acc _; rw [linesM, List.append_nil]
  | cons c u ih =>
    intro acc h
    have hc := h c (by simp)
    rw [linesM, if_neg hc, ih (acc ++ [c]) (fun d hd => h d (by simp [hd]))]
    rw [List.append_assoc, List.singleton_append]
theorem lines_nl (u : List UInt8) (d : UInt8) (hd : d.toNat = 10) (r : List UInt8) : ∀ acc, (∀ c ∈ u, c.toNat ≠ 10) → linesM acc (u ++ d :: r) = if acc ++ u = [] then linesM [] r else (acc ++ u) :: linesM [] r := by
  induction u with
  | nil => intro acc _; rw [List.nil_append, linesM, if_pos hd, List.append_nil]
  | cons c u ih =>
    intro acc h
    have hc := h c (by simp)
    rw [List.cons_append, linesM, if_neg hc, ih (acc ++ [c]) (fun d hd => h d (by simp [hd]))]
    rw [List.append_assoc, List.singleton_append]
end Go.Proofs.YtlppphmnegdhoabGreatDoor

namespace Go.Proofs.YtlppphmnegdhoabGreatDoor
set_option linter.unusedVariables false
set_option maxRecDepth 100000
open Go.RowKit
open M

/-- the place behind the bracket that closes, from a place on, so many brackets deep; 0: there is none -/
def cloN : List (Nat × Nat) → Nat → Nat → Nat
  | [], _, _ => 0
  | q :: t, d, p => if q.1 = 123 then cloN t (d + 1) (p + 1) else if q.1 = 125 then (if d = 1 then p + 1 else cloN t (d - 1) (p + 1)) else cloN t d (p + 1)
def behN (P : List (Nat × Nat)) (i : Nat) : Nat := cloN (P.drop (i + 1)) 1 (i + 1)
def nmA (P : List (Nat × Nat)) (k : Nat) : Nat := (P.getD k (0, 0)).1
def lbA (P : List (Nat × Nat)) (k : Nat) : Nat := (P.getD k (0, 0)).2
def isBT (P : List (Nat × Nat)) (k : Nat) : Bool := nmA P k == 98 || nmA P k == 116
def tgt (P : List (Nat × Nat)) (k : Nat) : Nat := if lbA P k = 0 then P.length else labP P (lbA P k)
/-- where a command leads to -/
def nxtV (P : List (Nat × Nat)) (k : Nat) : Nat := if isBT P k then tgt P k else if nmA P k = 123 then behN P k else 0
theorem nmA_eq (P : List (Nat × Nat)) (k : Nat) (h : k < P.length) : nmA P k = P[k].1 := by unfold nmA; rw [List.getD_eq_getElem?_getD, List.getElem?_eq_getElem h]; rfl
theorem lbA_eq (P : List (Nat × Nat)) (k : Nat) (h : k < P.length) : lbA P k = P[k].2 := by unfold lbA; rw [List.getD_eq_getElem?_getD, List.getElem?_eq_getElem h]; rfl
def lnkN (P : List (Nat × Nat)) (N0 : Nat → Nat) (i : Nat) : Nat → Nat := fun k => if k < i ∧ isBT P k = true then tgt P k else N0 k
def brkF (P : List (Nat × Nat)) (S : List Nat) (i : Nat) : Nat → Nat := fun k => if k < i ∧ nmA P k = 123 ∧ ¬ k ∈ S then behN P k else 0
/-- the brackets that are open -/
structure Opn' (P : List (Nat × Nat)) (S : List Nat) (i : Nat) : Prop where
  lt : ∀ k ∈ S, k < i
  nm : ∀ k ∈ S, nmA P k = 123
  inc : ∀ j j' (h : j < j') (h' : j' < S.length), S[j] < S[j']
  dep : ∀ j (h : j < S.length), behN P S[j] = cloN (P.drop i) (S.length - j) i
theorem Opn'.nil (P : List (Nat × Nat)) : Opn' P [] 0 := ⟨fun k h => (List.not_mem_nil h).elim, fun k h => (List.not_mem_nil h).elim, fun j j' _ h => absurd h (Nat.not_lt_zero _), fun j h => absurd h (Nat.not_lt_zero _)⟩
theorem cloN_at (P : List (Nat × Nat)) (i d p : Nat) (h : i < P.length) : cloN (P.drop i) d p = if nmA P i = 123 then cloN (P.drop (i + 1)) (d + 1) (p + 1) else if nmA P i = 125 then (if d = 1 then p + 1 else cloN (P.drop (i + 1)) (d - 1) (p + 1)) else cloN (P.drop (i + 1)) d (p + 1) := by
  rw [List.drop_eq_getElem_cons h, cloN, nmA_eq P i h]
theorem Opn'.push {P : List (Nat × Nat)} {S : List Nat} {i : Nat} (h : Opn' P S i) (hi : i < P.length) (hn : nmA P i = 123) : Opn' P (S ++ [i]) (i + 1) := by
  refine ⟨fun k hk => ?_, fun k hk => ?_, fun j j' hj hj' => ?_, fun j hj => ?_⟩
  · rcases List.mem_append.1 hk with hk | hk
    · have := h.lt k hk; omega
    · simp at hk; omega
  · rcases List.mem_append.1 hk with hk | hk
    · exact h.nm k hk
    · simp at hk; rw [hk]; exact hn
  · simp at hj'
    rw [List.getElem_append_left (by omega : j < S.length)]
    by_cases e : j' < S.length
    · rw [List.getElem_append_left e]; exact h.inc j j' hj e
    · rw [List.getElem_append_right (by omega)]
      simp
      exact h.lt _ (List.getElem_mem _)
  · simp at hj
    by_cases e : j < S.length
    · rw [List.getElem_append_left e, h.dep j e, cloN_at P i _ _ hi, if_pos hn]
      rw [show (S ++ [i]).length - j = S.length - j + 1 by simp; omega]
    · have e2 : j = S.length := by omega
      subst e2
      rw [List.getElem_append_right (Nat.le_refl _)]
      simp [behN]
theorem Opn'.pop {P : List (Nat × Nat)} {S : List Nat} {x i : Nat} (h : Opn' P (S ++ [x]) i) (hi : i < P.length) (hn : nmA P i = 125) : Opn' P S (i + 1) ∧ behN P x = i + 1 ∧ ¬ x ∈ S ∧ x < i ∧ nmA P x = 123 := by
  refine ⟨⟨fun k hk => ?_, fun k hk => h.nm k (by simp [hk]), fun j j' hj hj' => ?_, fun j hj => ?_⟩, ?_, fun hx => ?_, h.lt x (by simp), h.nm x (by simp)⟩
  · have := h.lt k (by simp [hk]); omega
  · have := h.inc j j' hj (by simp; omega)
    rw [List.getElem_append_left (by omega), List.getElem_append_left hj'] at this
    exact this
  · have := h.dep j (by simp; omega)
    rw [List.getElem_append_left hj, cloN_at P i _ _ hi, if_neg (by omega), if_pos hn, if_neg (by simp; omega)] at this
    rw [this]
    congr 1
    simp; omega
  · have := h.dep S.length (by simp)
    rw [List.getElem_append_right (Nat.le_refl _), cloN_at P i _ _ hi, if_neg (by omega), if_pos hn, if_pos (by simp)] at this
    simpa using this
  · obtain ⟨j, hj, e⟩ := List.getElem_of_mem hx
    have := h.inc j S.length hj (by simp)
    rw [List.getElem_append_left hj, List.getElem_append_right (Nat.le_refl _)] at this
    simp at this
    omega
theorem Opn'.skip {P : List (Nat × Nat)} {S : List Nat} {i : Nat} (h : Opn' P S i) (hi : i < P.length) (h1 : nmA P i ≠ 123) (h2 : nmA P i ≠ 125) : Opn' P S (i + 1) := by
  refine ⟨fun k hk => ?_, h.nm, h.inc, fun j hj => ?_⟩
  · have := h.lt k hk; omega
  · rw [h.dep j hj, cloN_at P i _ _ hi, if_neg h1, if_neg h2]
def cmdsV : List (List UInt8) → Option (List Cm)
  | [] => some []
  | t :: l => (cmdV t).bind (fun c => (cmdsV l).map (c :: ·))
/-- where each command leads to -/
def linkV (L : List Cm) : List Cm := L.mapIdx (fun i c => { c with next := nxtV (toV L) i })
def LinkedV (L : List Cm) : Prop := brkN (toV L) 0 = true ∧ ∀ i (h : i < (toV L).length), LabN1 (toV L) i h
/-- a text is a script of these commands -/
def ScrV (t : List UInt8) (cs : List Cm) : Prop := ∃ L, cmdsV (linesM [] t) = some L ∧ LinkedV L ∧ cs = linkV L
theorem ScrV.unique {t : List UInt8} {a b : List Cm} (h : ScrV t a) (g : ScrV t b) : a = b := by
  obtain ⟨L, h1, _, rfl⟩ := h
  obtain ⟨M, g1, _, rfl⟩ := g
  rw [h1] at g1
  injection g1 with g1
  rw [g1]
/-- what is read so far, with what is left -/
def cmdsW (L : List Cm) (t : List UInt8) : Option (List Cm) := (cmdsV (linesM [] t)).map (L ++ ·)
theorem cmdsW_nil (L : List Cm) : cmdsW L [] = some L := by
  unfold cmdsW
  rw [linesM, if_pos rfl, cmdsV]
  simp
theorem cmdsW_all (t : List UInt8) : cmdsW [] t = cmdsV (linesM [] t) := by
  unfold cmdsW
  cases cmdsV (linesM [] t) <;> simp
theorem cmdsW_step (L : List Cm) (u : List UInt8) (M : List (List UInt8)) : (cmdsV (u :: M)).map (L ++ ·) = (cmdV u).bind (fun c => (cmdsV M).map ((L ++ [c]) ++ ·)) := by
  rw [cmdsV]
  cases cmdV u with
  | none => rfl
  | some c =>
    cases cmdsV M with
    | none => rfl
    | some l => simp
theorem upto_len : ∀ (t : List UInt8) (m : List Mk) (r : List UInt8), uptoM t = some (m, r) → m.length + r.length + 1 ≤ t.length := by
  have key : ∀ n (t : List UInt8), t.length ≤ n → ∀ m r, uptoM t = some (m, r) → m.length + r.length + 1 ≤ t.length := by
    intro n
    induction n with
    | zero =>
      intro t ht m r h
      match t, ht with
      | [], _ => rw [uptoM] at h; cases h
    | succ n ih =>
      intro t ht m r h
      match t with
      | [] => rw [uptoM] at h; cases h
      | [c] =>
        rw [uptoM] at h
        split at h
        · injection h with h; injection h with h1 h2; subst h1; subst h2; simp
        · cases h
      | c :: d :: t =>
        rw [uptoM] at h
        split at h
        · injection h with h; injection h with h1 h2; subst h1; subst h2; simp
        · split at h
          · cases hu : uptoM t with
            | none => rw [hu] at h; cases h
            | some p =>
              rw [hu] at h
              injection h with h; injection h with h1 h2
              have := ih t (by simp at ht; omega) p.1 p.2 hu
              subst h1; subst h2
              simp; omega
          · cases hu : uptoM (d :: t) with
            | none => rw [hu] at h; cases h
            | some p =>
              rw [hu] at h
              injection h with h; injection h with h1 h2
              have := ih (d :: t) (by simp at ht ⊢; omega) p.1 p.2 hu
              subst h1; subst h2
              simp at this ⊢; omega
  exact fun t => key t.length t (Nat.le_refl _)
theorem items_len : ∀ (n : Nat) (m : List Mk) (l : List It), itemsM n m = some l → l.length ≤ n
  | n, [], l, h => by rw [itemsM] at h; injection h with h; subst h; simp
  | 0, q :: m, l, h => by simp [itemsM] at h
  | n + 1, q :: m, l, h => by
    rw [itemsM] at h
    cases hi : itemM (q :: m) with
    | none => rw [hi] at h; cases h
    | some p =>
      obtain ⟨x, r⟩ := p
      rw [hi] at h
      cases hl : itemsM n r with
      | none => simp [hl] at h
      | some k =>
        have := items_len n r k hl
        simp [hl] at h
        subst h
        simp; omega
theorem exp_len (m : List Mk) (x : Ex) (h : expM m = some x) : x.l.length ≤ m.length := by
  unfold expM at h
  split at h
  · cases h
  · simp only [Option.map_eq_some_iff] at h
    obtain ⟨l, h1, rfl⟩ := h
    have := items_len _ _ _ h1
    have hA : ∀ b : Bool, (if b = true then m.take (m.length - 1) else m).length ≤ m.length := fun b => by cases b <;> simp
    refine Nat.le_trans this ?_
    rw [List.length_drop]
    exact Nat.le_trans (Nat.sub_le _ _) (hA _)
end Go.Proofs.YtlppphmnegdhoabGreatDoor

namespace Go.Proofs.YtlppphmnegdhoabGreatDoor
set_option linter.unusedVariables false
set_option maxRecDepth 100000
open Go.RowKit
open M

theorem digV_le : ∀ (n : Nat) (t : List UInt8) (a : Nat), digV a (t.take (digs n t)) + 1 ≤ (a + 1) * 10 ^ (digs n t) := by
  intro n
  induction n with
  | zero => intro t a; simp [digs, digV]
  | succ n ih =>
    intro t a
    match t with
    | [] => simp [digs, digV]
    | c :: t =>
      rw [digs]
      cases hd : digB c.toNat
      · simp [digV]
      · have hc : 48 ≤ c.toNat ∧ c.toNat ≤ 57 := by simpa [digB] using hd
        have h1 := ih t (10 * a + (c.toNat - 48))
        have e : digV a ((c :: t).take (digs n t + 1)) = digV (10 * a + (c.toNat - 48)) (t.take (digs n t)) := rfl
        simp only [if_true]
        rw [e, Nat.pow_succ]
        refine Nat.le_trans h1 ?_
        rw [Nat.mul_comm (10 ^ digs n t) 10, ← Nat.mul_assoc]
        exact Nat.mul_le_mul_right _ (by omega)
theorem numV_le (t : List UInt8) : numV t ≤ 9999 := by
  unfold numV numL
  match t with
  | [] => simp [digV]
  | c :: r =>
    show digV 0 ((c :: r).take (if posB c.toNat then digs 4 (c :: r) else 0)) ≤ 9999
    cases posB c.toNat
    · simp [digV]
    · simp only [if_true]
      have h1 := digV_le 4 (c :: r) 0
      have h2 : (10 : Nat) ^ digs 4 (c :: r) ≤ 10 ^ 4 := Nat.pow_le_pow_right (by decide) (digs_le 4 _)
      omega
/-- an address as it may be -/
structure AdrOk (A : Adr) : Prop where
  k : A.kind ≤ 3
  n : A.line ≤ 9999
  i : A.ex.l.length ≤ 400
theorem AdrOk.z : AdrOk zAdr := ⟨by decide, by decide, by decide⟩
theorem addrV_ok (t : List UInt8) (h : t.length ≤ 400) (A : Adr) (r : List UInt8) (ha : addrV t = some (A, r)) : AdrOk A ∧ r.length ≤ t.length := by
  unfold addrV at ha
  split at ha
  · injection ha with ha; injection ha with h1 h2; subst h1; subst h2
    exact ⟨⟨by decide, Nat.zero_le _, by simp [zEx]⟩, by rw [List.length_drop]; omega⟩
  · split at ha
    · cases hu : uptoM (t.drop 1) with
      | none => rw [hu] at ha; cases ha
      | some p =>
        rw [hu] at ha
        cases hx : expM p.1 with
        | none => simp [betX, hx] at ha
        | some x =>
          simp [betX, hx] at ha
          obtain ⟨h1, h2⟩ := ha
          subst h1; subst h2
          have h3 := upto_len _ p.1 p.2 hu
          have h4 := exp_len _ _ hx
          rw [List.length_drop] at h3
          exact ⟨⟨by show 3 ≤ 3; decide, Nat.zero_le _, by show x.l.length ≤ 400; omega⟩, by omega⟩
    · split at ha
      · injection ha with ha; injection ha with h1 h2; subst h1; subst h2
        exact ⟨⟨by show 1 ≤ 3; decide, numV_le t, by simp [zEx]⟩, by rw [List.length_drop]; omega⟩
      · cases ha
structure AdsOk (A : Ads) : Prop where
  c : A.cnt ≤ 2
  a1 : AdrOk A.a1
  a2 : AdrOk A.a2
theorem secV_ok (A : Adr) (hA : AdrOk A) (t : List UInt8) (h : t.length ≤ 400) : AdsOk (secV A t).1 ∧ (secV A t).2.length ≤ t.length := by
  unfold secV
  split
  · cases ha : addrV (t.drop 1) with
    | none => exact ⟨⟨by show 1 ≤ 2; decide, hA, .z⟩, Nat.le_refl _⟩
    | some p =>
      have := addrV_ok (t.drop 1) (by rw [List.length_drop]; omega) p.1 p.2 ha
      rw [List.length_drop] at this
      exact ⟨⟨by show 2 ≤ 2; decide, hA, this.1⟩, by show p.2.length ≤ _; omega⟩
  · exact ⟨⟨by show 1 ≤ 2; decide, hA, .z⟩, Nat.le_refl _⟩
theorem excV_ok (p : Ads × List UInt8) (h : AdsOk p.1) : AdsOk (excV p).1 ∧ (excV p).2.length ≤ p.2.length := by
  unfold excV
  split
  · exact ⟨⟨h.c, h.a1, h.a2⟩, by rw [List.length_drop]; omega⟩
  · exact ⟨h, Nat.le_refl _⟩
theorem behV_ok (t : List UInt8) (h : t.length ≤ 400) : AdsOk (behV t).1 ∧ (behV t).2.length ≤ t.length := by
  unfold behV
  cases ha : addrV t with
  | none => exact ⟨⟨Nat.zero_le _, .z, .z⟩, Nat.le_refl _⟩
  | some p =>
    have h1 := addrV_ok t h p.1 p.2 ha
    have h2 := secV_ok p.1 h1.1 p.2 (by omega)
    have h3 := excV_ok _ h2.1
    exact ⟨h3.1, by show (excV (secV p.1 p.2)).2.length ≤ _; omega⟩
theorem ofB_size (l : List UInt8) : (ofB l).size = l.length := by rw [← ba_len]; simp [ofB]
theorem flC_le (t : List UInt8) : flC t ≤ 9 := by
  unfold flC
  have := digI_le t
  split <;> omega
theorem subV_ok (t : List UInt8) (h : t.length ≤ 400) : (subV t).rep.length ≤ 400 ∧ (subV t).ex.l.length ≤ 400 ∧ (subV t).count ≤ 9 := by
  unfold subV
  cases hu : uptoM (t.drop 1) with
  | none => exact ⟨by simp [zSub], by simp [zSub, zEx], by simp [zSub]⟩
  | some p =>
    cases hv : uptoM p.2 with
    | none => simp only [hv]; exact ⟨by simp [zSub], by simp [zSub, zEx], by simp [zSub]⟩
    | some q =>
      simp only [hv]
      have h1 := upto_len _ p.1 p.2 hu
      have h2 := upto_len _ q.1 q.2 hv
      rw [List.length_drop] at h1
      refine ⟨by simp [repM]; omega, ?_, flC_le _⟩
      cases hx : expM p.1 with
      | none => simp [zEx]
      | some x =>
        have := exp_len _ _ hx
        show x.l.length ≤ 400
        omega
theorem exchV_ok (t : List UInt8) (h : t.length ≤ 400) : (exchV t).1.length ≤ 400 ∧ (exchV t).2.length ≤ 400 := by
  unfold exchV
  cases hu : uptoM (t.drop 1) with
  | none => simp
  | some p =>
    cases hv : uptoM p.2 with
    | none => simp [hv]
    | some q =>
      simp only [hv]
      have h1 := upto_len _ p.1 p.2 hu
      have h2 := upto_len _ q.1 q.2 hv
      rw [List.length_drop] at h1
      exact ⟨by omega, by omega⟩
theorem fill_ok (A : Ads) (hA : AdsOk A) (nm : Nat) (hn : nm < 256) (t : List UInt8) (h : t.length ≤ 400) : CmOk (fillV A nm t) := by
  have hs := subV_ok t h
  have hx := exchV_ok t h
  refine ⟨?_, ?_, hA.a1.i, hA.a2.i, ?_, ?_, ?_, hn, Nat.zero_le _, ?_, hA.a1.n, hA.a2.n, hA.a1.k, hA.a2.k, hA.c⟩
  · show (if nm = 97 ∨ nm = 105 ∨ nm = 99 then ofB t else ⟨#[]⟩ : ByteArray).size ≤ 400
    split
    · rw [ofB_size]; exact h
    · exact Nat.zero_le _
  · show (if nm = 115 then subV t else zSub).rep.length ≤ 400
    split
    · exact hs.1
    · simp [zSub]
  · show (if nm = 115 then subV t else zSub).ex.l.length ≤ 400
    split
    · exact hs.2.1
    · simp [zSub, zEx]
  · show (if nm = 121 then ofB (brB (exchV t).1) else ⟨#[]⟩ : ByteArray).size ≤ 400
    split
    · rw [ofB_size]; simp [brB]; exact hx.1
    · exact Nat.zero_le _
  · show (if nm = 121 then ofB (brB (exchV t).2) else ⟨#[]⟩ : ByteArray).size ≤ 400
    split
    · rw [ofB_size]; simp [brB]; exact hx.2
    · exact Nat.zero_le _
  · show (if nm = 115 then subV t else zSub).count ≤ 9
    split
    · exact hs.2.2
    · simp [zSub]
theorem cmdV_ok (t : List UInt8) (h : t.length ≤ 400) (c : Cm) (hc : cmdV t = some c) : CmOk c ∧ c.next = 0 := by
  unfold cmdV at hc
  have hb := behV_ok t h
  match hr : (behV t).2 with
  | [] => rw [hr] at hc; cases hc
  | d :: r =>
    rw [hr] at hc hb
    rw [namV] at hc
    split at hc
    · injection hc with hc
      subst hc
      exact ⟨fill_ok _ hb.1 _ d.toNat_lt _ (by have := hb.2; simp at this; omega), rfl⟩
    · cases hc
theorem lines_len : ∀ (t acc : List UInt8), (linesM acc t).length ≤ t.length + (if acc = [] then 0 else 1) ∧ ∀ l ∈ linesM acc t, l.length ≤ acc.length + t.length
  | [], acc => by
    rw [linesM]
    split
    · exact ⟨by simp, fun l hl => by cases hl⟩
    · rename_i h
      exact ⟨by simp, fun l hl => by simp at hl; rw [hl]; simp⟩
  | c :: t, acc => by
    rw [linesM]
    split
    · have ih := lines_len t []
      split
      · rename_i h
        subst h
        refine ⟨?_, fun l hl => ?_⟩
        · have := ih.1; simp at this ⊢; omega
        · have := ih.2 l hl; simp at this ⊢; omega
      · rename_i h
        refine ⟨?_, fun l hl => ?_⟩
        · have := ih.1; simp at this ⊢; omega
        · rcases List.mem_cons.1 hl with rfl | hl
          · simp
          · have := ih.2 l hl; simp at this ⊢; omega
    · have ih := lines_len t (acc ++ [c])
      refine ⟨?_, fun l hl => ?_⟩
      · have := ih.1
        simp at this ⊢
        split <;> omega
      · have := ih.2 l hl; simp at this ⊢; omega
theorem cmdsV_ok : ∀ (M : List (List UInt8)) (L : List Cm), (∀ t ∈ M, t.length ≤ 400) → cmdsV M = some L → L.length = M.length ∧ ∀ c ∈ L, CmOk c ∧ c.next = 0
  | [], L, _, h => by rw [cmdsV] at h; injection h with h; subst h; exact ⟨rfl, fun c hc => by cases hc⟩
  | u :: M, L, hM, h => by
    rw [cmdsV] at h
    cases hu : cmdV u with
    | none => rw [hu] at h; cases h
    | some c =>
      rw [hu] at h
      cases hm : cmdsV M with
      | none => simp [hm] at h
      | some l =>
        simp [hm] at h
        subst h
        have ih := cmdsV_ok M l (fun t ht => hM t (by simp [ht])) hm
        refine ⟨by simp [ih.1], fun x hx => ?_⟩
        rcases List.mem_cons.1 hx with rfl | hx
        · exact cmdV_ok u (hM u (by simp)) x hu
        · exact ih.2 x hx
theorem cloN_le : ∀ (t : List (Nat × Nat)) (d p : Nat), cloN t d p ≤ p + t.length
  | [], d, p => by rw [cloN]; omega
  | q :: t, d, p => by
    have ih := fun d => cloN_le t d (p + 1)
    rw [cloN]
    simp only [List.length_cons]
    split
    · have := ih (d + 1); omega
    · split
      · split
        · omega
        · have := ih (d - 1); omega
      · have := ih d; omega
theorem labP_le : ∀ (t : List (Nat × Nat)) (x : Nat), labP t x ≤ t.length
  | [], x => by rw [labP]; simp
  | q :: t, x => by
    have ih := labP_le t x
    rw [labP_cons]
    simp only [List.length_cons]
    split
    · omega
    · split <;> omega
theorem behN_le (P : List (Nat × Nat)) (k : Nat) (h : k < P.length) : behN P k ≤ P.length := by
  unfold behN
  have := cloN_le (P.drop (k + 1)) 1 (k + 1)
  rw [List.length_drop] at this
  omega
theorem nxtV_len (P : List (Nat × Nat)) (k : Nat) (h : k < P.length) : nxtV P k ≤ P.length := by
  unfold nxtV
  split
  · unfold tgt
    split
    · omega
    · exact labP_le P (lbA P k)
  · split
    · exact behN_le P k h
    · omega
theorem scrV_ok (t : List UInt8) (h : t.length ≤ 400) (cs : List Cm) (hs : ScrV t cs) : cs.length ≤ 400 ∧ (∀ c ∈ cs, CmOk c) ∧ ∀ c ∈ cs, c.next ≤ cs.length := by
  obtain ⟨L, h1, _, rfl⟩ := hs
  have hl := lines_len t []
  have hk := cmdsV_ok _ L (fun u hu => by have := hl.2 u hu; simp at this; omega) h1
  have hlen : L.length ≤ 400 := by have := hl.1; simp at this; omega
  have hlv : (toV L).length = L.length := by simp [toV]
  have hcs : (linkV L).length = L.length := by simp [linkV]
  have hget : ∀ i (h : i < (linkV L).length), (linkV L)[i] = { L[i]'(by rw [hcs] at h; exact h) with next := nxtV (toV L) i } := fun i h => by simp [linkV]
  have hnx : ∀ i (h : i < (linkV L).length), nxtV (toV L) i ≤ L.length := fun i h => by
    have := nxtV_len (toV L) i (by omega)
    omega
  refine ⟨by omega, fun c hc => ?_, fun c hc => ?_⟩
  · obtain ⟨i, hi, rfl⟩ := List.getElem_of_mem hc
    have ho := (hk.2 (L[i]'(by omega)) (List.getElem_mem _)).1
    have hn := hnx i hi
    rw [hget i hi]
    exact ⟨ho.tx, ho.rp, ho.i1, ho.i2, ho.i3, ho.fr, ho.toF, ho.nm, by show nxtV (toV L) i ≤ 400; omega, ho.ct, ho.n1, ho.n2, ho.k1, ho.k2, ho.cn⟩
  · obtain ⟨i, hi, rfl⟩ := List.getElem_of_mem hc
    rw [hget i hi]
    show nxtV (toV L) i ≤ _
    rw [hcs]
    exact hnx i hi
end Go.Proofs.YtlppphmnegdhoabGreatDoor

namespace Go.Proofs.YtlppphmnegdhoabGreatDoor
set_option linter.unusedVariables false
set_option maxRecDepth 100000
open Go.RowKit
open M

/-- names and labels of commands by their cells -/
structure NmOk (CS : List (List Value)) (L : List (Nat × Nat)) : Prop where
  len : CS.length = L.length
  c25 : ∀ c ∈ CS, c.length = 25
  nm : ∀ i (h : i < L.length) (h' : i < CS.length), CS[i][12]? = some (.int .u8 L[i].1)
  lb : ∀ i (h : i < L.length) (h' : i < CS.length), CS[i][13]? = some (.int .u8 L[i].2)
  b1 : ∀ i (h : i < L.length), L[i].1 < 256
  b2 : ∀ i (h : i < L.length), L[i].2 < 256
/-- commands in memory, with where they lead to -/
structure VRow (w : World) (g : Nat) (CS : List (List Value)) (N : Nat → Nat) : Prop where
  lt : g < w.heap.size
  at' : ∀ i (h : i < CS.length), w.rangeAt g (i * 25) (CS[i].set 14 (.int .i64 (N i : Nat)))
  fz : ∀ o, w.frozen? ⟨g, o, none⟩ = false
theorem VRow.toP {w : World} {g : Nat} {CS : List (List Value)} {N : Nat → Nat} {L : List (Nat × Nat)} (h : VRow w g CS N) (hn : NmOk CS L) : PRow w g L := by
  have hc : ∀ i (hi : i < L.length) j v, (hi' : i < CS.length) → (CS[i].set 14 (.int .i64 (N i : Nat)))[j]? = some v → w.cell? ⟨g, i * 25 + j, none⟩ = some v := fun i hi j v hi' hv => h.at' i hi' j v hv
  refine ⟨h.lt, fun i hi => ?_, fun i hi => ?_, fun i hi => ?_, fun i hi => h.fz _, hn.b1, hn.b2⟩
  · have hi' : i < CS.length := by rw [hn.len]; exact hi
    exact hc i hi 12 _ hi' (by rw [List.getElem?_set_ne (by decide)]; exact hn.nm i hi hi')
  · have hi' : i < CS.length := by rw [hn.len]; exact hi
    exact hc i hi 13 _ hi' (by rw [List.getElem?_set_ne (by decide)]; exact hn.lb i hi hi')
  · have hi' : i < CS.length := by rw [hn.len]; exact hi
    exact ⟨_, hc i hi 14 _ hi' (by rw [List.getElem?_set_self (by rw [hn.c25 _ (List.getElem_mem hi')]; decide)])⟩
theorem VRow.keep {w w' : World} {g : Nat} {CS : List (List Value)} {N : Nat → Nat} (h : VRow w g CS N) (hk : w'.heap[g]? = w.heap[g]?) (hs : w.heap.size ≤ w'.heap.size) : VRow w' g CS N :=
  ⟨by have := h.lt; omega, fun i hi j v hv => (World.cell?_of_block hk).trans (h.at' i hi j v hv), fun o => (World.frozen?_of_block hk).trans (h.fz o)⟩
theorem VRow.congr {w : World} {g : Nat} {CS : List (List Value)} {N N' : Nat → Nat} (h : VRow w g CS N) (hN : ∀ k, k < CS.length → N k = N' k) : VRow w g CS N' := ⟨h.lt, fun i hi => by rw [← hN i hi]; exact h.at' i hi, h.fz⟩
theorem VRow.set {w : World} {g : Nat} {CS : List (List Value)} {N : Nat → Nat} (h : VRow w g CS N) (h25 : ∀ c ∈ CS, c.length = 25) (j : Nat) (hj : j < CS.length) (t : Nat) : VRow (w.setCell ⟨g, j * 25 + 14, none⟩ (.int .i64 (t : Nat))) g CS (fun k => if k = j then t else N k) := by
  refine ⟨by simpa using h.lt, fun i hi o v hv => ?_, fun o => by simpa using h.fz o⟩
  have hl := h25 _ (List.getElem_mem hi)
  have ho : o < 25 := by
    have := (List.getElem?_eq_some_iff.1 hv).1
    rw [List.length_set] at this; omega
  by_cases e : i = j
  · subst e
    simp only [if_true] at hv
    by_cases e2 : o = 14
    · subst e2
      rw [List.getElem?_set_self (by omega)] at hv
      injection hv with hv
      subst hv
      exact World.cell?_setCell_same' _ _ _ (by rw [h.at' i hi 14 _ (by rw [List.getElem?_set_self (by omega)])]; rfl)
    · rw [World.cell?_setCell_other _ _ _ _ (fun e' => e2 (by have := congrArg Addr.off e'; simp at this; omega))]
      rw [List.getElem?_set_ne (by omega)] at hv
      exact h.at' i hi o v (by rw [List.getElem?_set_ne (by omega)]; exact hv)
  · rw [if_neg e] at hv
    rw [World.cell?_setCell_other _ _ _ _ (fun e' => by have := congrArg Addr.off e'; simp at this; omega)]
    exact h.at' i hi o v hv
/-- a script in memory, with where its commands lead to -/
structure VScr (w : World) (b : Nat) (a : Option Addr) (c : Nat) (CS : List (List Value)) (L : List (Nat × Nat)) (N : Nat → Nat) : Prop where
  lt : b < w.heap.size
  c0 : w.cell? ⟨b, 0, none⟩ = some (.slice a L.length c)
  vrow : L = [] ∨ ∃ g, a = some ⟨g, 0, none⟩ ∧ VRow w g CS N ∧ g ≠ b
  few : L.length ≤ 8192
  ok : NmOk CS L
theorem VScr.toScr {w : World} {b : Nat} {a : Option Addr} {c : Nat} {CS : List (List Value)} {L : List (Nat × Nat)} {N : Nat → Nat} (h : VScr w b a c CS L N) : ScrAt w b a c L :=
  ⟨h.lt, h.c0, by
    rcases h.vrow with h0 | ⟨g, ha, hp, hg⟩
    · exact .inl h0
    · exact .inr ⟨g, ha, hp.toP h.ok, hg⟩, h.few⟩
theorem VScr.congr {w : World} {b : Nat} {a : Option Addr} {c : Nat} {CS : List (List Value)} {L : List (Nat × Nat)} {N N' : Nat → Nat} (h : VScr w b a c CS L N) (hN : ∀ k, k < L.length → N k = N' k) : VScr w b a c CS L N' :=
  ⟨h.lt, h.c0, by
    rcases h.vrow with h0 | ⟨g, ha, hp, hg⟩
    · exact .inl h0
    · exact .inr ⟨g, ha, hp.congr (fun k hk => hN k (by rw [← h.ok.len]; exact hk)), hg⟩, h.few, h.ok⟩
theorem VScr.below {w w' : World} {b : Nat} {a : Option Addr} {c : Nat} {CS : List (List Value)} {L : List (Nat × Nat)} {N : Nat → Nat} (h : VScr w b a c CS L N) (hb : Below w.heap.size w w') : VScr w' b a c CS L N := by
  refine ⟨by have := hb.size; have := h.lt; omega, (hb.cell (by exact h.lt)).trans h.c0, ?_, h.few, h.ok⟩
  rcases h.vrow with h0 | ⟨g, ha, hp, hg⟩
  · exact .inl h0
  · exact .inr ⟨g, ha, hp.keep (hb.block g hp.lt) hb.size, hg⟩
theorem VScr.set {w : World} {b g : Nat} {c : Nat} {CS : List (List Value)} {L : List (Nat × Nat)} {N : Nat → Nat} (h : VScr w b (some ⟨g, 0, none⟩) c CS L N) (j : Nat) (hj : j < L.length) (t : Nat) : VScr (w.setCell ⟨g, j * 25 + 14, none⟩ (.int .i64 (t : Nat))) b (some ⟨g, 0, none⟩) c CS L (fun k => if k = j then t else N k) := by
  obtain ⟨g', e, hp, hg⟩ : ∃ g', (some ⟨g, 0, none⟩ : Option Addr) = some ⟨g', 0, none⟩ ∧ VRow w g' CS N ∧ g' ≠ b := by
    rcases h.vrow with h0 | h0
    · rw [h0] at hj; simp at hj
    · exact h0
  simp at e
  subst e
  exact ⟨by simpa using h.lt, by rw [World.cell?_setCell_other _ _ _ _ (fun e => hg (congrArg Addr.block e))]; exact h.c0, .inr ⟨g, rfl, hp.set h.ok.c25 j (by rw [h.ok.len]; exact hj) t, hg⟩, h.few, h.ok⟩
theorem lnk_stay (L : List (Nat × Nat)) (N0 : Nat → Nat) (i k : Nat) (hi : i < L.length) (h : ¬ (L[i].1 = 98 ∨ L[i].1 = 116)) : lnkN L N0 i k = lnkN L N0 (i + 1) k := by
  unfold lnkN
  by_cases e : k = i
  · subst e
    have : isBT L k = false := by
      unfold isBT
      rw [nmA_eq L k hi]
      simp; omega
    rw [this]; simp
  · by_cases h1 : isBT L k = true
    · by_cases h2 : k < i
      · rw [if_pos ⟨h2, h1⟩, if_pos ⟨by omega, h1⟩]
      · rw [if_neg (fun h => h2 h.1), if_neg (fun h => by omega)]
    · rw [if_neg (fun h => h1 h.2), if_neg (fun h => h1 h.2)]
theorem lnk_move (L : List (Nat × Nat)) (N0 : Nat → Nat) (i k : Nat) (hi : i < L.length) (h : L[i].1 = 98 ∨ L[i].1 = 116) (t : Nat) (ht : t = if L[i].2 = 0 then L.length else labP L L[i].2) : (if k = i then t else lnkN L N0 i k) = lnkN L N0 (i + 1) k := by
  unfold lnkN
  by_cases e : k = i
  · subst e
    have h1 : isBT L k = true := by
      unfold isBT
      rw [nmA_eq L k hi]
      simp; omega
    rw [if_pos rfl, if_pos ⟨by omega, h1⟩, ht, tgt, lbA_eq L k hi]
  · rw [if_neg e]
    by_cases h1 : isBT L k = true
    · by_cases h2 : k < i
      · rw [if_pos ⟨h2, h1⟩, if_pos ⟨by omega, h1⟩]
      · rw [if_neg (fun h => h2 h.1), if_neg (fun h => by omega)]
    · rw [if_neg (fun h => h1 h.2), if_neg (fun h => h1 h.2)]
def LvPost (b : Nat) (a : Option Addr) (c : Nat) (CS : List (List Value)) (L : List (Nat × Nat)) (N0 : Nat → Nat) (w : World) (e : Ending) (w' : World) : Prop :=
  ∃ r : Bool, e = .returned (.bool r) ∧ (r = true ↔ ∀ i (h : i < L.length), LabN1 L i h) ∧ (r = true → VScr w' b a c CS L (lnkN L N0 L.length)) ∧ Led a w w'
set_option maxRecDepth 100000 in
set_option maxHeartbeats 1000000 in
theorem vLabels_calls (b : Nat) (a : Option Addr) (c : Nat) (CS : List (List Value)) (L : List (Nat × Nat)) (N0 : Nat → Nat) (w : World) (hS : VScr w b a c CS L N0) :
    Calls Tryz.prog 92 #[.pointer (some ⟨b, 0, none⟩)] w fun e w' => LvPost b a c CS L N0 w e w' := by
  have hfew := hS.few
  have hc0 := hS.c0
  have hbl := hS.lt
  obtain ⟨n, hn⟩ : ∃ n, L.length = n := ⟨_, rfl⟩
  have HN : Hid (L.length = n) := hn
  rw [hn] at hc0 hfew
  have HS : Hid (VScr w b a c CS L N0) := hS
  clear hn hS
  go_enter Tryz.func92, Tryz.ntmps92
  go_wp2_with fail
  go_loopw [3, 4, 5, 11] (fun _ _ _ v11 wr => ∃ i : Nat, i ≤ n ∧ v11 = .int .i64 i ∧ Hid (VScr wr b a c CS L (lnkN L N0 i) ∧ Led a w wr) ∧ Hid (∀ j (h : j < L.length), j < i → LabN1 L j h)) (fun _ _ _ v11 _ => n - (intOf v11).toNat)
  case atStart => exact ⟨0, Nat.zero_le _, rfl, ⟨HS.out.congr (fun k _ => (if_neg (fun h => by omega)).symm), Led.refl _ _⟩, fun _ _ h => by omega⟩
  case round =>
    clear hc0 hbl HS
    obtain ⟨i, hi, rfl, HW, HJ⟩ := hrel
    have hc0 := HW.out.1.c0
    rw [HN.out] at hc0
    have hbl := HW.out.1.lt
    by_cases hlt : i < n
    · have hlt1 : (i : Int) < (n : Int) := by omega
      have h0 : (0 : Int) ≤ (i : Int) := by omega
      have hiL : i < L.length := by rw [HN.out]; exact hlt
      obtain ⟨g, rfl, hpr, hgb⟩ : ∃ g, a = some ⟨g, 0, none⟩ ∧ PRow wr g L ∧ g ≠ b := by
        rcases HW.out.1.toScr.row with h | h
        · rw [h] at hiL; simp at hiL
        · exact h
      have d1 := hpr.nm i hiL
      have d2 := hpr.lb i hiL
      obtain ⟨v9, d3⟩ := hpr.nx i hiL
      have f3 := hpr.fz i hiL
      have hgl := hpr.lt
      have e1 := hpr.b1 i hiL
      have e2 := hpr.b2 i hiL
      obtain ⟨y, hy⟩ : ∃ y, L[i].1 = y := ⟨_, rfl⟩
      obtain ⟨z, hz⟩ : ∃ z, L[i].2 = z := ⟨_, rfl⟩
      rw [hy] at d1 e1
      rw [hz] at d2 e2
      have HY : Hid (L[i].1 = y ∧ L[i].2 = z) := ⟨hy, hz⟩
      have HJ2 : Hid (LabN1 L i hiL → ∀ j (h : j < L.length), j < i + 1 → LabN1 L j h) := fun hl j h hj => by
        by_cases e : j = i
        · subst e; exact hl
        · exact HJ.out j h (by omega)
      have HNO : Hid (¬ LabN1 L i hiL → ¬ ∀ j (h : j < L.length), LabN1 L j h) := fun h hk => h (hk i hiL)
      have HSTAY : Hid (¬ (y = 98 ∨ y = 116) → VScr wr b (some ⟨g, 0, none⟩) c CS L (lnkN L N0 (i + 1))) := fun h9 => HW.out.1.congr (fun k hk => lnk_stay L N0 i k hiL (by rw [hy]; exact h9))
      have HMOVE : Hid ((y = 98 ∨ y = 116) → ∀ t : Nat, t = (if z = 0 then L.length else labP L z) → VScr (wr.setCell ⟨g, i * 25 + 14, none⟩ (.int .i64 (t : Nat))) b (some ⟨g, 0, none⟩) c CS L (lnkN L N0 (i + 1))) := fun h9 t ht => (HW.out.1.set i hiL t).congr (fun k hk => lnk_move L N0 i k hiL (by rw [hy]; exact h9) t (by rw [hz]; exact ht))
      clear hy hz HJ hpr
      go_wp2_with fail
      refine (behindLabel_calls b _ c z L _ HW.out.1.toScr e2).mono ?_
      rintro e wq ⟨rfl, hwq⟩
      rw [hwq]
      clear hwq
      obtain ⟨q, hq⟩ : ∃ q, labP L z = q := ⟨_, rfl⟩
      have HQ : Hid (labP L z = q) := hq
      rw [hq]
      clear hq
      by_cases h58 : y = 58
      · have h581 : ((y : Int) == 58) = true := by simp [h58]
        by_cases hqi : q = i + 1
        · have hqi1 : ((q : Int) != (i : Int) + 1) = false := by simp; omega
          have HL : Hid (LabN1 L i hiL) := ⟨fun _ => by rw [HY.out.2, HQ.out]; exact hqi, fun h => by have := HY.out.1; omega⟩
          have HST : Hid (VScr wr b (some ⟨g, 0, none⟩) c CS L (lnkN L N0 (i + 1))) := HSTAY.out (by omega)
          clear h58 hqi
          go_wp2
          go_roundw
          case rel => exact ⟨i + 1, by omega, by go_num, ⟨HST.out, HW.out.2⟩, HJ2.out HL.out⟩
          case measure => first | (simp [intOf]; done) | (simp [intOf]; omega)
        · have hqi1 : ((q : Int) != (i : Int) + 1) = true := by simp; omega
          have HF : Hid (¬ ∀ j (h : j < L.length), LabN1 L j h) := HNO.out (fun h => hqi (by rw [← HQ.out, ← HY.out.2]; exact h.1 (by rw [HY.out.1]; exact h58)))
          clear h58 hqi
          go_wp2
          go_ret
          exact ⟨false, rfl, ⟨fun h => Bool.noConfusion h, fun h => absurd h HF.out⟩, fun h => Bool.noConfusion h, HW.out.2⟩
      have h581 : ((y : Int) == 58) = false := by simp; omega
      by_cases hbt : y = 98 ∨ y = 116
      · have hor : (((y : Int) == 98) = true) ∨ (((y : Int) == 98) = false ∧ ((y : Int) == 116) = true) := by
          rcases hbt with h | h
          · exact .inl (by simp [h])
          · exact .inr (by simp [h])
        have HBT : Hid (y = 98 ∨ y = 116) := hbt
        clear hbt h58
        by_cases hz0 : z = 0
        · have hz1 : ((z : Int) != 0) = false := by simp [hz0]
          have hz2 : ((z : Int) == 0) = true := by simp [hz0]
          have HL : Hid (LabN1 L i hiL) := ⟨fun h => by have := HY.out.1; have := HBT.out; omega, fun _ h => absurd (by rw [HY.out.2]; exact hz0) h⟩
          have HW2 : Hid (VScr (wr.setCell ⟨g, i * 25 + 14, none⟩ (.int .i64 n)) b (some ⟨g, 0, none⟩) c CS L (lnkN L N0 (i + 1)) ∧ Led (some ⟨g, 0, none⟩) w (wr.setCell ⟨g, i * 25 + 14, none⟩ (.int .i64 n))) := ⟨HMOVE.out HBT.out n (by rw [if_pos hz0, HN.out]), HW.out.2.trans (Led.set _ _ _ _)⟩
          clear hz0
          rcases hor with ho | ⟨ho1, ho2⟩
          · go_wp2
            go_roundw
            case rel => exact ⟨i + 1, by omega, by go_num, HW2.out, HJ2.out HL.out⟩
            case measure => first | (simp [intOf]; done) | (simp [intOf]; omega)
          · go_wp2
            go_roundw
            case rel => exact ⟨i + 1, by omega, by go_num, HW2.out, HJ2.out HL.out⟩
            case measure => first | (simp [intOf]; done) | (simp [intOf]; omega)
        · have hz1 : ((z : Int) != 0) = true := by simp; omega
          have hz2 : ((z : Int) == 0) = false := by simp; omega
          by_cases hq0 : q = 0
          · have hq1 : ((q : Int) == 0) = true := by simp [hq0]
            have HF : Hid (¬ ∀ j (h : j < L.length), LabN1 L j h) := HNO.out (fun h => h.2 (by rw [HY.out.1]; exact HBT.out) (by rw [HY.out.2]; exact hz0) (by rw [HY.out.2, HQ.out]; exact hq0))
            clear hz0 hq0
            rcases hor with ho | ⟨ho1, ho2⟩
            · go_wp2
              go_ret
              exact ⟨false, rfl, ⟨fun h => Bool.noConfusion h, fun h => absurd h HF.out⟩, fun h => Bool.noConfusion h, HW.out.2⟩
            · go_wp2
              go_ret
              exact ⟨false, rfl, ⟨fun h => Bool.noConfusion h, fun h => absurd h HF.out⟩, fun h => Bool.noConfusion h, HW.out.2⟩
          · have hq1 : ((q : Int) == 0) = false := by simp; omega
            have HL : Hid (LabN1 L i hiL) := ⟨fun h => by have := HY.out.1; have := HBT.out; omega, fun _ _ => by rw [HY.out.2, HQ.out]; exact hq0⟩
            have HW2 : Hid (VScr (wr.setCell ⟨g, i * 25 + 14, none⟩ (.int .i64 q)) b (some ⟨g, 0, none⟩) c CS L (lnkN L N0 (i + 1)) ∧ Led (some ⟨g, 0, none⟩) w (wr.setCell ⟨g, i * 25 + 14, none⟩ (.int .i64 q))) := ⟨HMOVE.out HBT.out q (by rw [if_neg hz0, HQ.out]), HW.out.2.trans (Led.set _ _ _ _)⟩
            clear hz0 hq0
            rcases hor with ho | ⟨ho1, ho2⟩
            · go_wp2
              go_roundw
              case rel => exact ⟨i + 1, by omega, by go_num, HW2.out, HJ2.out HL.out⟩
              case measure => first | (simp [intOf]; done) | (simp [intOf]; omega)
            · go_wp2
              go_roundw
              case rel => exact ⟨i + 1, by omega, by go_num, HW2.out, HJ2.out HL.out⟩
              case measure => first | (simp [intOf]; done) | (simp [intOf]; omega)
      have h98 : ((y : Int) == 98) = false := by simp; omega
      have h116 : ((y : Int) == 116) = false := by simp; omega
      have HL : Hid (LabN1 L i hiL) := ⟨fun h => by have := HY.out.1; omega, fun h => by have := HY.out.1; omega⟩
      have HST : Hid (VScr wr b (some ⟨g, 0, none⟩) c CS L (lnkN L N0 (i + 1))) := HSTAY.out hbt
      clear hbt h58
      go_wp2
      go_roundw
      case rel => exact ⟨i + 1, by omega, by go_num, ⟨HST.out, HW.out.2⟩, HJ2.out HL.out⟩
      case measure => first | (simp [intOf]; done) | (simp [intOf]; omega)
    · have hlt1 : ¬ (i : Int) < (n : Int) := by omega
      have HF : Hid (∀ j (h : j < L.length), LabN1 L j h) := fun j h => HJ.out j h (by rw [HN.out] at h; omega)
      clear HJ
      go_wp2
      go_ret
      exact ⟨true, rfl, ⟨fun _ => HF.out, fun _ => rfl⟩, fun _ => HW.out.1.congr (fun k hk => by
        unfold lnkN
        have h1 : k < i := by have := HN.out; omega
        by_cases h2 : isBT L k = true
        · rw [if_pos ⟨h1, h2⟩, if_pos ⟨hk, h2⟩]
        · rw [if_neg (fun h => h2 h.2), if_neg (fun h => h2 h.2)]), HW.out.2⟩
end Go.Proofs.YtlppphmnegdhoabGreatDoor

