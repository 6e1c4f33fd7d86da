/-
  Does a list lead from a text to another?
-/
import Derived.Test.YtlppphmnegdhoaaWri1
import Derived.Test.YtlppphmnegdhoaaSame
namespace Go.Proofs.Ytlppphmnegdhoaa
set_option linter.unusedVariables false
open Go.RowKit
open M

def leadsL : List M.Rec → List UInt8 → List UInt8 → Bool
  | [], a, b => a.isEmpty && b.isEmpty
  | r :: l, a, b =>
    if r.kind = 0 then decide (r.n.toNat ≤ a.length) && (decide (r.n.toNat ≤ b.length) && ((a.take r.n.toNat == b.take r.n.toNat) && leadsL l (a.drop r.n.toNat) (b.drop r.n.toNat)))
    else if r.kind = 1 then decide (r.n.toNat ≤ b.length) && leadsL l a (b.drop r.n.toNat)
    else decide (r.n.toNat ≤ a.length) && ((a.take r.n.toNat == r.s.data.toList) && leadsL l (a.drop r.n.toNat) b)
theorem leadsL_drop (l : List M.Rec) (k : Nat) (h : k < l.length) (a b : List UInt8) : leadsL (l.drop k) a b =
    if l[k].kind = 0 then decide (l[k].n.toNat ≤ a.length) && (decide (l[k].n.toNat ≤ b.length) && ((a.take l[k].n.toNat == b.take l[k].n.toNat) && leadsL (l.drop (k + 1)) (a.drop l[k].n.toNat) (b.drop l[k].n.toNat)))
    else if l[k].kind = 1 then decide (l[k].n.toNat ≤ b.length) && leadsL (l.drop (k + 1)) a (b.drop l[k].n.toNat)
    else decide (l[k].n.toNat ≤ a.length) && ((a.take l[k].n.toNat == l[k].s.data.toList) && leadsL (l.drop (k + 1)) (a.drop l[k].n.toNat) b) := by
  rw [List.drop_eq_getElem_cons h]; rfl
theorem cmp_take (a b : ByteArray) (m : Nat) : ((a.extract 0 m).toList == (b.extract 0 m).toList) = (a.data.toList.take m == b.data.toList.take m) := by
  rw [ByteArray.toList_eq, ByteArray.toList_eq, Lib.extract_data, Lib.extract_data]; simp
theorem cmp_take2 (a b : ByteArray) (m : Nat) : ((a.extract 0 m).toList == b.toList) = (a.data.toList.take m == b.data.toList) := by
  rw [ByteArray.toList_eq, ByteArray.toList_eq, Lib.extract_data]; simp
theorem drop_ext (a : ByteArray) (m : Nat) : (a.extract m a.size).data.toList = a.data.toList.drop m := by
  have e : a.size - m = (a.data.toList.drop m).length := by rw [len_drop]
  rw [Lib.extract_data, e, List.take_length]
theorem ext_all (a : ByteArray) : a.extract 0 a.size = a := by
  apply ba_ext
  rw [drop_ext, List.drop_zero]
/-- a list that leads has the texts' lengths -/
theorem leads_len (l : List M.Rec) : ∀ (a b : List UInt8), okAll l → leadsL l a b = true → lenA l = a.length ∧ lenB l = b.length := by
  induction l with
  | nil =>
    intro a b _ h
    simp [leadsL] at h
    simp [lenA, lenB, h.1, h.2]
  | cons r l ih =>
    intro a b ho h
    have h1 := (okRec_iff r).1 (okAll_cons ho).1
    simp only [leadsL] at h
    simp only [lenA, lenB]
    by_cases h0 : r.kind = 0
    · rw [if_pos h0] at h
      simp only [Bool.and_eq_true, decide_eq_true_eq] at h
      obtain ⟨ha, hb, _, hl⟩ := h
      obtain ⟨e1, e2⟩ := ih _ _ (okAll_cons ho).2 hl
      rw [List.length_drop] at e1 e2
      have x1 : inA r = r.n := by simp [inA, h0]
      have x2 : inB r = r.n := by simp [inB, h0]
      omega
    · rw [if_neg h0] at h
      by_cases h2 : r.kind = 1
      · rw [if_pos h2] at h
        simp only [Bool.and_eq_true, decide_eq_true_eq] at h
        obtain ⟨hb, hl⟩ := h
        obtain ⟨e1, e2⟩ := ih _ _ (okAll_cons ho).2 hl
        rw [List.length_drop] at e2
        have x1 : inA r = 0 := by simp [inA, h2]
        have x2 : inB r = r.n := by simp [inB, h2]
        omega
      · rw [if_neg h2] at h
        simp only [Bool.and_eq_true, decide_eq_true_eq] at h
        obtain ⟨ha, _, hl⟩ := h
        obtain ⟨e1, e2⟩ := ih _ _ (okAll_cons ho).2 hl
        rw [List.length_drop] at e1
        have x1 : inA r = r.n := by simp [inA, h2]
        have x2 : inB r = 0 := by simp [inB, h0, h2]
        omega

set_option maxRecDepth 100000 in
set_option maxHeartbeats 4000000 in
theorem jleads_calls (n c : Nat) (ad : Option Addr) (l : List M.Rec) (a b : ByteArray) (w : World) (hat : RecsAt w ad n l) (hok : okAll l) (hln : l.length ≤ 140737488351232) (hab : a.size ≤ 4096) (hbb : b.size ≤ 4096) :
    Calls Try.prog 48 #[.slice ad n c, .string a, .string b] w fun e w' => e = .returned (.bool (leadsL l a.data.toList b.data.toList)) ∧ Below w.heap.size w w' := by
  have hn := hat.len
  subst hn
  go_enter Try.func48, Try.ntmps48
  go_wp2
  go_loopw [1, 2, 13] (fun x y i wr => ∃ (k : Nat) (aa bb : ByteArray), k ≤ l.length ∧ i = .int .i64 k ∧ x = .string aa ∧ y = .string bb ∧ aa.size ≤ 4096 ∧ bb.size ≤ 4096 ∧ Hid (leadsL l a.data.toList b.data.toList = leadsL (l.drop k) aa.data.toList bb.data.toList) ∧ Below w.heap.size w wr) (fun _ _ i _ => l.length - (intOf i).toNat)
  case atStart => exact ⟨0, a, b, Nat.zero_le _, rfl, rfl, rfl, hab, hbb, rfl, Below.refl _ _⟩
  case round =>
    obtain ⟨k, aa, bb, hk, rfl, rfl, rfl, haz, hbz, HU, B⟩ := hrel
    by_cases hlt : k < l.length
    · have hlt1 : (k : Int) < (l.length : Int) := by omega
      have hno : l ≠ [] := fun h => by rw [h] at hlt; simp at hlt
      obtain ⟨bk, off, ha', hbw, hcells⟩ := hat.cells.resolve_left hno
      obtain ⟨c0, c1, c2⟩ := hcells k hlt
      have d0 := (B.cell (by exact hbw)).trans c0
      have d1 := (B.cell (by exact hbw)).trans c1
      have d2 := (B.cell (by exact hbw)).trans c2
      have hokr := hok l[k] (List.getElem_mem hlt)
      have HUD := leadsL_drop l k hlt aa.data.toList bb.data.toList
      rw [HUD] at HU
      clear hcells c0 c1 c2 hno HUD
      subst ha'
      generalize l[k] = r at *
      have hk2 := (okRec_iff r).1 hokr
      obtain ⟨m, hm⟩ : ∃ m : Nat, r.n = m := ⟨r.n.toNat, by omega⟩
      have hm2 : r.n.toNat = m := by omega
      rw [hm2] at HU
      have hm1 : 1 ≤ m := by omega
      have hkk : r.kind = 0 ∨ r.kind = 1 ∨ r.kind = 2 := by omega
      have HM : Hid (r.n = m) := hm
      clear hk2 hm2 hokr
      rcases hkk with hkd | hkd | hkd
      · have eA : inA r = m := by simp [inA, hkd, hm]
        have eB : inB r = m := by simp [inB, hkd, hm]
        have k0 : (r.kind == 0) = true := by simp [hkd]
        have k1 : (r.kind == 1) = false := by simp [hkd]
        have k2 : (r.kind == 2) = false := by simp [hkd]
        have kn1 : (r.kind != 1) = true := by simp [hkd]
        have kn2 : (r.kind != 2) = true := by simp [hkd]
        have hm0 : ¬ (m : Int) < 0 := by omega
        rw [if_pos hkd] at HU
        clear hkd
        by_cases hfa : m ≤ aa.size
        · by_cases hfb : m ≤ bb.size
          · have ga : ¬ (aa.size : Int) < (m : Int) := by omega
            have gb : ¬ (bb.size : Int) < (m : Int) := by omega
            cases hcmp : ((aa.extract 0 m).toList == (bb.extract 0 m).toList)
            · have HF : Hid (leadsL l a.data.toList b.data.toList = false) := by
                show _ = _
                rw [HU.out, ← cmp_take, hcmp]; simp
              have hcmp2 : ((aa.extract 0 m).toList != (bb.extract 0 m).toList) = true := by simp [bne, hcmp]
              clear hm
              go_wp2_with fail
              refine (spans_calls r _).mono ?_
              rintro e w2 ⟨rfl, hb1⟩
              rw [show inA r = m from eA, show inB r = m from eB]
              have B3 : Below w.heap.size w w2 := (B.alloc B.size _).trans (hb1.mono (by have := B.size; simp; omega))
              have e0 : w2.cell? ⟨wr.heap.size, 0, none⟩ = some (.int .i64 r.kind) := by rw [(bcell hb1).1 _ _ (by simp)]; simp [go_sem]
              have e1 : w2.cell? ⟨wr.heap.size, 1, none⟩ = some (.int .i64 (m : Int)) := by rw [(bcell hb1).1 _ _ (by simp)]; simp [go_sem, HM.out]
              have e2 : w2.cell? ⟨wr.heap.size, 2, none⟩ = some (.string r.s) := by rw [(bcell hb1).1 _ _ (by simp)]; simp [go_sem]
              clear hb1 d0 d1 d2 eA eB
              go_wp2_with fail
              go_quiet (fail)
              go_wp2
              go_ret
              exact ⟨ret_bool HF.out.symm, by first | exact below_drewN B3 _ | exact below_drewN (below_drewN B3 _) _⟩
            · have HU2 : Hid (leadsL l a.data.toList b.data.toList = leadsL (l.drop (k + 1)) (aa.extract m aa.size).data.toList (bb.extract m bb.size).data.toList) := by
                show _ = _
                rw [HU.out, ← cmp_take, hcmp, drop_ext, drop_ext]
                simp [hfa, hfb]
              have HEA : Hid (True) := trivial
              have HEB : Hid (True) := trivial
              have hxa : (aa.extract m aa.size).size ≤ 4096 := by rw [ByteArray.size_extract]; omega
              have hxb : (bb.extract m bb.size).size ≤ 4096 := by rw [ByteArray.size_extract]; omega
              have hcmp2 : ((aa.extract 0 m).toList != (bb.extract 0 m).toList) = false := by simp [bne, hcmp]
              have HXA : Hid ((aa.extract m aa.size).size ≤ 4096) := hxa
              have HXB : Hid ((bb.extract m bb.size).size ≤ 4096) := hxb
              clear hxa hxb
              clear hm
              go_wp2_with fail
              refine (spans_calls r _).mono ?_
              rintro e w2 ⟨rfl, hb1⟩
              rw [show inA r = m from eA, show inB r = m from eB]
              have B3 : Below w.heap.size w w2 := (B.alloc B.size _).trans (hb1.mono (by have := B.size; simp; omega))
              have e0 : w2.cell? ⟨wr.heap.size, 0, none⟩ = some (.int .i64 r.kind) := by rw [(bcell hb1).1 _ _ (by simp)]; simp [go_sem]
              have e1 : w2.cell? ⟨wr.heap.size, 1, none⟩ = some (.int .i64 (m : Int)) := by rw [(bcell hb1).1 _ _ (by simp)]; simp [go_sem, HM.out]
              have e2 : w2.cell? ⟨wr.heap.size, 2, none⟩ = some (.string r.s) := by rw [(bcell hb1).1 _ _ (by simp)]; simp [go_sem]
              clear hb1 d0 d1 d2 eA eB
              go_wp2_with fail
              go_quiet (fail)
              go_wp2_with fail
              go_quiet (fail)
              go_wp2
              go_roundw
              case rel => exact ⟨k + 1, aa.extract m aa.size, bb.extract m bb.size, by omega, by go_num, by first | rfl | rw [HEA.out], by first | rfl | rw [HEB.out], HXA.out, HXB.out, HU2.out, below_drewN B3 _⟩
              case measure => simp [intOf]; omega
          · have HF : Hid (leadsL l a.data.toList b.data.toList = false) := by
              show _ = _
              rw [HU.out, ba_len, ba_len]; simp [hfb]
            have ga : ¬ (aa.size : Int) < (m : Int) := by omega
            have gb : (bb.size : Int) < (m : Int) := by omega
            clear hm
            go_wp2_with fail
            refine (spans_calls r _).mono ?_
            rintro e w2 ⟨rfl, hb1⟩
            rw [show inA r = m from eA, show inB r = m from eB]
            have B3 : Below w.heap.size w w2 := (B.alloc B.size _).trans (hb1.mono (by have := B.size; simp; omega))
            have e0 : w2.cell? ⟨wr.heap.size, 0, none⟩ = some (.int .i64 r.kind) := by rw [(bcell hb1).1 _ _ (by simp)]; simp [go_sem]
            have e1 : w2.cell? ⟨wr.heap.size, 1, none⟩ = some (.int .i64 (m : Int)) := by rw [(bcell hb1).1 _ _ (by simp)]; simp [go_sem, HM.out]
            have e2 : w2.cell? ⟨wr.heap.size, 2, none⟩ = some (.string r.s) := by rw [(bcell hb1).1 _ _ (by simp)]; simp [go_sem]
            clear hb1 d0 d1 d2 eA eB
            go_wp2
            go_ret
            exact ⟨ret_bool HF.out.symm, by first | exact B3 | exact below_drewN (B3) _⟩
        · have HF : Hid (leadsL l a.data.toList b.data.toList = false) := by
            show _ = _
            rw [HU.out, ba_len, ba_len]; simp [hfa]
          have ga : (aa.size : Int) < (m : Int) := by omega
          clear hm
          go_wp2_with fail
          refine (spans_calls r _).mono ?_
          rintro e w2 ⟨rfl, hb1⟩
          rw [show inA r = m from eA, show inB r = m from eB]
          have B3 : Below w.heap.size w w2 := (B.alloc B.size _).trans (hb1.mono (by have := B.size; simp; omega))
          have e0 : w2.cell? ⟨wr.heap.size, 0, none⟩ = some (.int .i64 r.kind) := by rw [(bcell hb1).1 _ _ (by simp)]; simp [go_sem]
          have e1 : w2.cell? ⟨wr.heap.size, 1, none⟩ = some (.int .i64 (m : Int)) := by rw [(bcell hb1).1 _ _ (by simp)]; simp [go_sem, HM.out]
          have e2 : w2.cell? ⟨wr.heap.size, 2, none⟩ = some (.string r.s) := by rw [(bcell hb1).1 _ _ (by simp)]; simp [go_sem]
          clear hb1 d0 d1 d2 eA eB
          go_wp2
          go_ret
          exact ⟨ret_bool HF.out.symm, by first | exact B3 | exact below_drewN (B3) _⟩
      · have eA : inA r = 0 := by simp [inA, hkd]
        have eB : inB r = m := by simp [inB, hkd, hm]
        have k0 : (r.kind == 0) = false := by simp [hkd]
        have k1 : (r.kind == 1) = true := by simp [hkd]
        have k2 : (r.kind == 2) = false := by simp [hkd]
        have kn1 : (r.kind != 1) = false := by simp [hkd]
        have kn2 : (r.kind != 2) = true := by simp [hkd]
        have hm0 : ¬ (m : Int) < 0 := by omega
        have ga0 : ¬ (aa.size : Int) < 0 := by omega
        rw [if_neg (by omega), if_pos hkd] at HU
        clear hkd
        by_cases hfb : m ≤ bb.size
        · have gb : ¬ (bb.size : Int) < (m : Int) := by omega
          have HU2 : Hid (leadsL l a.data.toList b.data.toList = leadsL (l.drop (k + 1)) aa.data.toList (bb.extract m bb.size).data.toList) := by
            show _ = _
            rw [HU.out, drop_ext]
            simp [hfb]
          have HEA : Hid (aa.extract 0 aa.size = aa) := ext_all aa
          have HEB : Hid (True) := trivial
          have HXA : Hid (aa.size ≤ 4096) := haz
          have HXB : Hid ((bb.extract m bb.size).size ≤ 4096) := by show _ ≤ _; rw [ByteArray.size_extract]; omega
          clear hm
          go_wp2_with fail
          refine (spans_calls r _).mono ?_
          rintro e w2 ⟨rfl, hb1⟩
          rw [show inA r = 0 from eA, show inB r = m from eB]
          have B3 : Below w.heap.size w w2 := (B.alloc B.size _).trans (hb1.mono (by have := B.size; simp; omega))
          have e0 : w2.cell? ⟨wr.heap.size, 0, none⟩ = some (.int .i64 r.kind) := by rw [(bcell hb1).1 _ _ (by simp)]; simp [go_sem]
          have e1 : w2.cell? ⟨wr.heap.size, 1, none⟩ = some (.int .i64 (m : Int)) := by rw [(bcell hb1).1 _ _ (by simp)]; simp [go_sem, HM.out]
          have e2 : w2.cell? ⟨wr.heap.size, 2, none⟩ = some (.string r.s) := by rw [(bcell hb1).1 _ _ (by simp)]; simp [go_sem]
          clear hb1 d0 d1 d2 eA eB
          go_wp2_with fail
          go_quiet (fail)
          go_wp2_with fail
          go_quiet (fail)
          go_wp2
          go_roundw
          case rel => exact ⟨k + 1, aa, bb.extract m bb.size, by omega, by go_num, by first | rfl | rw [HEA.out], by first | rfl | rw [HEB.out], HXA.out, HXB.out, HU2.out, below_drewN B3 _⟩
          case measure => simp [intOf]; omega
        · have HF : Hid (leadsL l a.data.toList b.data.toList = false) := by
            show _ = _
            rw [HU.out, ba_len]; simp [hfb]
          have gb : (bb.size : Int) < (m : Int) := by omega
          clear hm
          go_wp2_with fail
          refine (spans_calls r _).mono ?_
          rintro e w2 ⟨rfl, hb1⟩
          rw [show inA r = 0 from eA, show inB r = m from eB]
          have B3 : Below w.heap.size w w2 := (B.alloc B.size _).trans (hb1.mono (by have := B.size; simp; omega))
          have e0 : w2.cell? ⟨wr.heap.size, 0, none⟩ = some (.int .i64 r.kind) := by rw [(bcell hb1).1 _ _ (by simp)]; simp [go_sem]
          have e1 : w2.cell? ⟨wr.heap.size, 1, none⟩ = some (.int .i64 (m : Int)) := by rw [(bcell hb1).1 _ _ (by simp)]; simp [go_sem, HM.out]
          have e2 : w2.cell? ⟨wr.heap.size, 2, none⟩ = some (.string r.s) := by rw [(bcell hb1).1 _ _ (by simp)]; simp [go_sem]
          clear hb1 d0 d1 d2 eA eB
          go_wp2
          go_ret
          exact ⟨ret_bool HF.out.symm, by first | exact B3 | exact below_drewN (B3) _⟩
      · have eA : inA r = m := by simp [inA, hkd, hm]
        have eB : inB r = 0 := by simp [inB, hkd]
        have k0 : (r.kind == 0) = false := by simp [hkd]
        have k1 : (r.kind == 1) = false := by simp [hkd]
        have k2 : (r.kind == 2) = true := by simp [hkd]
        have kn1 : (r.kind != 1) = true := by simp [hkd]
        have kn2 : (r.kind != 2) = false := by simp [hkd]
        have hm0 : ¬ (m : Int) < 0 := by omega
        have gb0 : ¬ (bb.size : Int) < 0 := by omega
        rw [if_neg (by omega), if_neg (by omega)] at HU
        clear hkd
        by_cases hfa : m ≤ aa.size
        · have ga : ¬ (aa.size : Int) < (m : Int) := by omega
          cases hcmp : ((aa.extract 0 m).toList == r.s.toList)
          · have HF : Hid (leadsL l a.data.toList b.data.toList = false) := by
              show _ = _
              rw [HU.out, ← cmp_take2, hcmp]; simp
            have hcmp2 : ((aa.extract 0 m).toList != r.s.toList) = true := by simp [bne, hcmp]
            clear hm
            go_wp2_with fail
            refine (spans_calls r _).mono ?_
            rintro e w2 ⟨rfl, hb1⟩
            rw [show inA r = m from eA, show inB r = 0 from eB]
            have B3 : Below w.heap.size w w2 := (B.alloc B.size _).trans (hb1.mono (by have := B.size; simp; omega))
            have e0 : w2.cell? ⟨wr.heap.size, 0, none⟩ = some (.int .i64 r.kind) := by rw [(bcell hb1).1 _ _ (by simp)]; simp [go_sem]
            have e1 : w2.cell? ⟨wr.heap.size, 1, none⟩ = some (.int .i64 (m : Int)) := by rw [(bcell hb1).1 _ _ (by simp)]; simp [go_sem, HM.out]
            have e2 : w2.cell? ⟨wr.heap.size, 2, none⟩ = some (.string r.s) := by rw [(bcell hb1).1 _ _ (by simp)]; simp [go_sem]
            clear hb1 d0 d1 d2 eA eB
            go_wp2_with fail
            go_quiet (fail)
            go_wp2_with fail
            go_quiet (fail)
            go_wp2
            go_ret
            exact ⟨ret_bool HF.out.symm, by first | exact below_drewN B3 _ | exact below_drewN (below_drewN B3 _) _⟩
          · have HU2 : Hid (leadsL l a.data.toList b.data.toList = leadsL (l.drop (k + 1)) (aa.extract m aa.size).data.toList bb.data.toList) := by
              show _ = _
              rw [HU.out, ← cmp_take2, hcmp, drop_ext]
              simp [hfa]
            have hcmp2 : ((aa.extract 0 m).toList != r.s.toList) = false := by simp [bne, hcmp]
            have HEA : Hid (True) := trivial
            have HEB : Hid (bb.extract 0 bb.size = bb) := ext_all bb
            have HXA : Hid ((aa.extract m aa.size).size ≤ 4096) := by show _ ≤ _; rw [ByteArray.size_extract]; omega
            have HXB : Hid (bb.size ≤ 4096) := hbz
            clear hm
            go_wp2_with fail
            refine (spans_calls r _).mono ?_
            rintro e w2 ⟨rfl, hb1⟩
            rw [show inA r = m from eA, show inB r = 0 from eB]
            have B3 : Below w.heap.size w w2 := (B.alloc B.size _).trans (hb1.mono (by have := B.size; simp; omega))
            have e0 : w2.cell? ⟨wr.heap.size, 0, none⟩ = some (.int .i64 r.kind) := by rw [(bcell hb1).1 _ _ (by simp)]; simp [go_sem]
            have e1 : w2.cell? ⟨wr.heap.size, 1, none⟩ = some (.int .i64 (m : Int)) := by rw [(bcell hb1).1 _ _ (by simp)]; simp [go_sem, HM.out]
            have e2 : w2.cell? ⟨wr.heap.size, 2, none⟩ = some (.string r.s) := by rw [(bcell hb1).1 _ _ (by simp)]; simp [go_sem]
            clear hb1 d0 d1 d2 eA eB
            go_wp2_with fail
            go_quiet (fail)
            go_wp2_with fail
            go_quiet (fail)
            go_wp2
            go_roundw
            case rel => exact ⟨k + 1, aa.extract m aa.size, bb, by omega, by go_num, by first | rfl | rw [HEA.out], by first | rfl | rw [HEB.out], HXA.out, HXB.out, HU2.out, below_drewN B3 _⟩
            case measure => simp [intOf]; omega
        · have HF : Hid (leadsL l a.data.toList b.data.toList = false) := by
            show _ = _
            rw [HU.out, ba_len]; simp [hfa]
          have ga : (aa.size : Int) < (m : Int) := by omega
          clear hm
          go_wp2_with fail
          refine (spans_calls r _).mono ?_
          rintro e w2 ⟨rfl, hb1⟩
          rw [show inA r = m from eA, show inB r = 0 from eB]
          have B3 : Below w.heap.size w w2 := (B.alloc B.size _).trans (hb1.mono (by have := B.size; simp; omega))
          have e0 : w2.cell? ⟨wr.heap.size, 0, none⟩ = some (.int .i64 r.kind) := by rw [(bcell hb1).1 _ _ (by simp)]; simp [go_sem]
          have e1 : w2.cell? ⟨wr.heap.size, 1, none⟩ = some (.int .i64 (m : Int)) := by rw [(bcell hb1).1 _ _ (by simp)]; simp [go_sem, HM.out]
          have e2 : w2.cell? ⟨wr.heap.size, 2, none⟩ = some (.string r.s) := by rw [(bcell hb1).1 _ _ (by simp)]; simp [go_sem]
          clear hb1 d0 d1 d2 eA eB
          go_wp2
          go_ret
          exact ⟨ret_bool HF.out.symm, by first | exact B3 | exact below_drewN (B3) _⟩
    · obtain rfl : k = l.length := by omega
      have HF : Hid (leadsL l a.data.toList b.data.toList = (aa.toList.isEmpty && bb.toList.isEmpty)) := by
        show _ = _
        rw [HU.out, List.drop_length, leadsL, ByteArray.toList_eq, ByteArray.toList_eq]
      cases hea : aa.toList.isEmpty
      · rw [hea] at HF
        go_wp2
        go_ret
        exact ⟨ret_bool (by rw [HF.out]; simp), B⟩
      · rw [hea] at HF
        go_wp2
        go_ret
        exact ⟨ret_bool (by rw [HF.out]; simp), B⟩
end Go.Proofs.Ytlppphmnegdhoaa
