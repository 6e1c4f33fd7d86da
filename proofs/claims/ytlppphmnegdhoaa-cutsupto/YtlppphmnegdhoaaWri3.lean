/-
  Does a list lead from a text to another?
-/
import Derived.Test.YtlppphmnegdhoaaWri2
namespace Go.Proofs.Ytlppphmnegdhoaa
set_option linter.unusedVariables false
open Go.RowKit
open M


set_option maxRecDepth 100000 in
set_option maxHeartbeats 4000000 in
theorem dleads_calls (n c : Nat) (ad : Option Addr) (l : List M.Rec) (a b : ByteArray) (w : World) (hat : RecsAt w ad n l) (hok : okAll l) (hln : l.length ≤ 140737488351232) (hab : a.size ≤ 4096) (hbb : b.size ≤ 4096) :
    Calls Try.prog 52 #[.slice ad n c, .string a, .string b] w fun e w' => e = .returned (.bool (leadsL l a.data.toList b.data.toList)) ∧ Below w.heap.size w w' := by
  have hn := hat.len
  subst hn
  go_enter Try.func52, Try.ntmps52
  go_wp2
  go_loopw [1, 2, 7] (fun x y i wr => ∃ (k : Nat) (aa bb : ByteArray), k ≤ l.length ∧ i = .int .i64 k ∧ x = .string aa ∧ y = .string bb ∧ aa.size ≤ 4096 ∧ bb.size ≤ 4096 ∧ Hid (leadsL l a.data.toList b.data.toList = leadsL (l.drop k) aa.data.toList bb.data.toList) ∧ Below w.heap.size w wr) (fun _ _ i _ => l.length - (intOf i).toNat)
  case atStart => exact ⟨0, a, b, Nat.zero_le _, rfl, rfl, rfl, hab, hbb, rfl, Below.refl _ _⟩
  case round =>
    obtain ⟨k, aa, bb, hk, rfl, rfl, rfl, haz, hbz, HU, B⟩ := hrel
    by_cases hlt : k < l.length
    · have hlt1 : (k : Int) < (l.length : Int) := by omega
      have hno : l ≠ [] := fun h => by rw [h] at hlt; simp at hlt
      obtain ⟨bk, off, ha', hbw, hcells⟩ := hat.cells.resolve_left hno
      obtain ⟨c0, c1, c2⟩ := hcells k hlt
      have d0 := (B.cell (by exact hbw)).trans c0
      have d1 := (B.cell (by exact hbw)).trans c1
      have d2 := (B.cell (by exact hbw)).trans c2
      have hokr := hok l[k] (List.getElem_mem hlt)
      have HUD := leadsL_drop l k hlt aa.data.toList bb.data.toList
      rw [HUD] at HU
      clear hcells c0 c1 c2 hno HUD
      subst ha'
      generalize l[k] = r at *
      have hk2 := (okRec_iff r).1 hokr
      obtain ⟨m, hm⟩ : ∃ m : Nat, r.n = m := ⟨r.n.toNat, by omega⟩
      have hm2 : r.n.toNat = m := by omega
      rw [hm2] at HU
      have hm1 : 1 ≤ m := by omega
      have hkk : r.kind = 0 ∨ r.kind = 1 ∨ r.kind = 2 := by omega
      have HM : Hid (r.n = m) := hm
      rw [hm] at d1
      clear hk2 hm2 hokr
      rcases hkk with hkd | hkd | hkd
      · have eA : inA r = m := by simp [inA, hkd, hm]
        have eB : inB r = m := by simp [inB, hkd, hm]
        have k0 : (r.kind == 0) = true := by simp [hkd]
        have k1 : (r.kind == 1) = false := by simp [hkd]
        have k2 : (r.kind == 2) = false := by simp [hkd]
        have kn1 : (r.kind != 1) = true := by simp [hkd]
        have kn2 : (r.kind != 2) = true := by simp [hkd]
        have hm0 : ¬ (m : Int) < 0 := by omega
        rw [if_pos hkd] at HU
        clear hkd
        by_cases hfa : m ≤ aa.size
        · by_cases hfb : m ≤ bb.size
          · have ga : ¬ (aa.size : Int) < (m : Int) := by omega
            have gb : ¬ (bb.size : Int) < (m : Int) := by omega
            cases hcmp : ((aa.extract 0 m).toList == (bb.extract 0 m).toList)
            · have HF : Hid (leadsL l a.data.toList b.data.toList = false) := by
                show _ = _
                rw [HU.out, ← cmp_take, hcmp]; simp
              have hcmp2 : ((aa.extract 0 m).toList != (bb.extract 0 m).toList) = true := by simp [bne, hcmp]
              clear hm eA eB
              go_wp2_with fail
              go_quiet (fail)
              go_wp2
              go_ret
              exact ⟨ret_bool HF.out.symm, by first | exact below_drewN B _ | exact below_drewN (below_drewN B _) _⟩
            · have HU2 : Hid (leadsL l a.data.toList b.data.toList = leadsL (l.drop (k + 1)) (aa.extract m aa.size).data.toList (bb.extract m bb.size).data.toList) := by
                show _ = _
                rw [HU.out, ← cmp_take, hcmp, drop_ext, drop_ext]
                simp [hfa, hfb]
              have HEA : Hid (True) := trivial
              have HEB : Hid (True) := trivial
              have hxa : (aa.extract m aa.size).size ≤ 4096 := by rw [ByteArray.size_extract]; omega
              have hxb : (bb.extract m bb.size).size ≤ 4096 := by rw [ByteArray.size_extract]; omega
              have hcmp2 : ((aa.extract 0 m).toList != (bb.extract 0 m).toList) = false := by simp [bne, hcmp]
              have HXA : Hid ((aa.extract m aa.size).size ≤ 4096) := hxa
              have HXB : Hid ((bb.extract m bb.size).size ≤ 4096) := hxb
              clear hxa hxb
              clear hm eA eB
              go_wp2_with fail
              go_quiet (fail)
              go_wp2_with fail
              go_quiet (fail)
              go_wp2
              go_roundw
              case rel => exact ⟨k + 1, aa.extract m aa.size, bb.extract m bb.size, by omega, by go_num, by first | rfl | rw [HEA.out], by first | rfl | rw [HEB.out], HXA.out, HXB.out, HU2.out, below_drewN B _⟩
              case measure => simp [intOf]; omega
          · have HF : Hid (leadsL l a.data.toList b.data.toList = false) := by
              show _ = _
              rw [HU.out, ba_len, ba_len]; simp [hfb]
            have ga : ¬ (aa.size : Int) < (m : Int) := by omega
            have gb : (bb.size : Int) < (m : Int) := by omega
            clear hm eA eB
            go_wp2
            go_ret
            exact ⟨ret_bool HF.out.symm, by first | exact B | exact below_drewN (B) _⟩
        · have HF : Hid (leadsL l a.data.toList b.data.toList = false) := by
            show _ = _
            rw [HU.out, ba_len, ba_len]; simp [hfa]
          have ga : (aa.size : Int) < (m : Int) := by omega
          clear hm eA eB
          go_wp2
          go_ret
          exact ⟨ret_bool HF.out.symm, by first | exact B | exact below_drewN (B) _⟩
      · have eA : inA r = 0 := by simp [inA, hkd]
        have eB : inB r = m := by simp [inB, hkd, hm]
        have k0 : (r.kind == 0) = false := by simp [hkd]
        have k1 : (r.kind == 1) = true := by simp [hkd]
        have k2 : (r.kind == 2) = false := by simp [hkd]
        have kn1 : (r.kind != 1) = false := by simp [hkd]
        have kn2 : (r.kind != 2) = true := by simp [hkd]
        have hm0 : ¬ (m : Int) < 0 := by omega
        have ga0 : ¬ (aa.size : Int) < 0 := by omega
        rw [if_neg (by omega), if_pos hkd] at HU
        clear hkd
        by_cases hfb : m ≤ bb.size
        · have gb : ¬ (bb.size : Int) < (m : Int) := by omega
          have HU2 : Hid (leadsL l a.data.toList b.data.toList = leadsL (l.drop (k + 1)) aa.data.toList (bb.extract m bb.size).data.toList) := by
            show _ = _
            rw [HU.out, drop_ext]
            simp [hfb]
          have HEA : Hid (aa.extract 0 aa.size = aa) := ext_all aa
          have HEB : Hid (True) := trivial
          have HXA : Hid (aa.size ≤ 4096) := haz
          have HXB : Hid ((bb.extract m bb.size).size ≤ 4096) := by show _ ≤ _; rw [ByteArray.size_extract]; omega
          clear hm eA eB
          go_wp2_with fail
          go_quiet (fail)
          go_wp2_with fail
          go_quiet (fail)
          go_wp2
          go_roundw
          case rel => exact ⟨k + 1, aa, bb.extract m bb.size, by omega, by go_num, by first | rfl | rw [HEA.out], by first | rfl | rw [HEB.out], HXA.out, HXB.out, HU2.out, below_drewN B _⟩
          case measure => simp [intOf]; omega
        · have HF : Hid (leadsL l a.data.toList b.data.toList = false) := by
            show _ = _
            rw [HU.out, ba_len]; simp [hfb]
          have gb : (bb.size : Int) < (m : Int) := by omega
          clear hm eA eB
          go_wp2
          go_ret
          exact ⟨ret_bool HF.out.symm, by first | exact B | exact below_drewN (B) _⟩
      · have eA : inA r = m := by simp [inA, hkd, hm]
        have eB : inB r = 0 := by simp [inB, hkd]
        have k0 : (r.kind == 0) = false := by simp [hkd]
        have k1 : (r.kind == 1) = false := by simp [hkd]
        have k2 : (r.kind == 2) = true := by simp [hkd]
        have kn1 : (r.kind != 1) = true := by simp [hkd]
        have kn2 : (r.kind != 2) = false := by simp [hkd]
        have hm0 : ¬ (m : Int) < 0 := by omega
        have gb0 : ¬ (bb.size : Int) < 0 := by omega
        rw [if_neg (by omega), if_neg (by omega)] at HU
        clear hkd
        by_cases hfa : m ≤ aa.size
        · have ga : ¬ (aa.size : Int) < (m : Int) := by omega
          cases hcmp : ((aa.extract 0 m).toList == r.s.toList)
          · have HF : Hid (leadsL l a.data.toList b.data.toList = false) := by
              show _ = _
              rw [HU.out, ← cmp_take2, hcmp]; simp
            have hcmp2 : ((aa.extract 0 m).toList != r.s.toList) = true := by simp [bne, hcmp]
            clear hm eA eB
            go_wp2_with fail
            go_quiet (fail)
            go_wp2_with fail
            go_quiet (fail)
            go_wp2
            go_ret
            exact ⟨ret_bool HF.out.symm, by first | exact below_drewN B _ | exact below_drewN (below_drewN B _) _⟩
          · have HU2 : Hid (leadsL l a.data.toList b.data.toList = leadsL (l.drop (k + 1)) (aa.extract m aa.size).data.toList bb.data.toList) := by
              show _ = _
              rw [HU.out, ← cmp_take2, hcmp, drop_ext]
              simp [hfa]
            have hcmp2 : ((aa.extract 0 m).toList != r.s.toList) = false := by simp [bne, hcmp]
            have HEA : Hid (True) := trivial
            have HEB : Hid (bb.extract 0 bb.size = bb) := ext_all bb
            have HXA : Hid ((aa.extract m aa.size).size ≤ 4096) := by show _ ≤ _; rw [ByteArray.size_extract]; omega
            have HXB : Hid (bb.size ≤ 4096) := hbz
            clear hm eA eB
            go_wp2_with fail
            go_quiet (fail)
            go_wp2_with fail
            go_quiet (fail)
            go_wp2
            go_roundw
            case rel => exact ⟨k + 1, aa.extract m aa.size, bb, by omega, by go_num, by first | rfl | rw [HEA.out], by first | rfl | rw [HEB.out], HXA.out, HXB.out, HU2.out, below_drewN B _⟩
            case measure => simp [intOf]; omega
        · have HF : Hid (leadsL l a.data.toList b.data.toList = false) := by
            show _ = _
            rw [HU.out, ba_len]; simp [hfa]
          have ga : (aa.size : Int) < (m : Int) := by omega
          clear hm eA eB
          go_wp2
          go_ret
          exact ⟨ret_bool HF.out.symm, by first | exact B | exact below_drewN (B) _⟩
    · obtain rfl : k = l.length := by omega
      have HF : Hid (leadsL l a.data.toList b.data.toList = (aa.toList.isEmpty && bb.toList.isEmpty)) := by
        show _ = _
        rw [HU.out, List.drop_length, leadsL, ByteArray.toList_eq, ByteArray.toList_eq]
      cases hea : aa.toList.isEmpty
      · rw [hea] at HF
        go_wp2
        go_ret
        exact ⟨ret_bool (by rw [HF.out]; simp), B⟩
      · rw [hea] at HF
        go_wp2
        go_ret
        exact ⟨ret_bool (by rw [HF.out]; simp), B⟩
end Go.Proofs.Ytlppphmnegdhoaa
