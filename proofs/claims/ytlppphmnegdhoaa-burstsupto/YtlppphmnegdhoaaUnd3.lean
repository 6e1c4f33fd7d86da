/-
  Undo: the document's; and the statement on Undo's walk.
-/
import Derived.Test.YtlppphmnegdhoaaUnd2
namespace Go.Proofs.Ytlppphmnegdhoaa
set_option linter.unusedVariables false
open Go.RowKit
open M

set_option maxRecDepth 100000 in
set_option maxHeartbeats 4000000 in
theorem dundo_calls (b s : ByteArray) (w : World) (hbm : b.size ≤ maxLen) (hsm : s.size ≤ maxLen) :
    Calls Try.prog 26 #[.string b, .string s] w fun e w' => UndoPost b s w w' e := by
  unfold maxLen at hbm hsm
  by_cases h1 : 4096 < b.size
  · have HS : Hid (UndoSpec b s [] 1) := .inl ⟨.inl h1, rfl, rfl⟩
    have h11 : (4096 : Int) < (b.size : Int) := by omega
    go_enter Try.func26, Try.ntmps26
    go_wp2
    go_ret2
    exact ⟨⟨⟨#[]⟩, 1, rfl, HS.out⟩, Below.refl _ _⟩
  have h11 : ¬ (4096 : Int) < (b.size : Int) := by omega
  by_cases h2 : 12352 < s.size
  · have HS : Hid (UndoSpec b s [] 1) := .inl ⟨.inr h2, rfl, rfl⟩
    have h21 : (12352 : Int) < (s.size : Int) := by omega
    go_enter Try.func26, Try.ntmps26
    go_wp2
    go_ret2
    exact ⟨⟨⟨#[]⟩, 1, rfl, HS.out⟩, Below.refl _ _⟩
  have h21 : ¬ (12352 : Int) < (s.size : Int) := by omega
  have HL : Hid (¬ (4096 < b.size ∨ 12352 < s.size)) := fun h => by omega
  have hb4 : b.size ≤ 4096 := by omega
  have hbm2 : b.size ≤ maxLen := by unfold maxLen; omega
  clear h1
  go_enter Try.func26, Try.ntmps26
  go_wp2_with fail
  refine (parsed_calls s _ (by omega)).mono ?_
  rintro e w1 ⟨hb, ⟨x0, x1, x2, x3, ax, nx, cx, rfl, hno⟩ | ⟨⟨la, lb, sa, sb, l⟩, a, c, rfl, ht, hown⟩⟩
  · have HS : Hid (UndoSpec b s [] 8) := .inr ⟨HL.out, .inl ⟨hno, rfl, rfl⟩⟩
    clear hno
    go_wp2
    go_ret2
    exact ⟨⟨⟨#[]⟩, 8, rfl, HS.out⟩, hb.alloc hb.size _⟩
  · simp only at hown ht
    have hrec := recsAt_own hown
    have HT : Hid (Tells s.data.toList ⟨la, lb, sa, sb, l⟩) := ht
    have hok : okAll l := ht.1.ok
    have hA : lenA l ≤ 4096 := by rw [ht.1.a]; have := ht.1.la; simp at this ⊢; omega
    have hBl : lenB l ≤ 4096 := by rw [ht.1.b]; have := ht.1.lb; simp at this ⊢; omega
    have hsz := hb.size
    clear ht hown
    by_cases hl : b.size = lb
    · have hl1 : ((b.size : Int) == (lb : Int)) = true := by rw [beq_iff_eq]; omega
      by_cases hq : sum b.data.toList = sb
      · have hq1 : (((sum b.data.toList : Nat) : Int) == (sb : Int)) = true := by rw [beq_iff_eq]; omega
        have hfit : lenB l = b.size := by rw [hl]; exact HT.out.1.b
        have hl4 : l.length ≤ 8192 := by have := okAll_len l hok; omega
        have HLQ : Hid (b.size = lb ∧ sum b.data.toList = sb) := ⟨hl, hq⟩
        have hl5 : ((b.size : Int) != (lb : Int)) = false := by simp; omega
        clear hl hq
        go_wp2_with fail
        go_quiet ((go_at_call 54; exact Calls.quiet_of_same (dsum_calls b _ hbm2)))
        go_wp2
        clear hl1 hq1 hl5
        go_loopw [0, 8, 9] (fun x v i wr => ∃ (k : Nat) (bb A : ByteArray), k ≤ l.length ∧ i = .int .i64 k ∧ x = .string bb ∧ v = .string A ∧ (bb.size : Int) = lenB (l.drop k) ∧ Hid (undoL l b.data.toList = A.data.toList ++ undoL (l.drop k) bb.data.toList) ∧ Below (w1.heap.size + 1) (w1.alloc (Obj.cells #[.int .i64 la, .int .i64 lb, .int .i64 sa, .int .i64 sb, .slice a l.length c] 66)) wr) (fun _ _ i _ => l.length - (intOf i).toNat)
        case atStart => exact ⟨0, b, ⟨#[]⟩, Nat.zero_le _, rfl, rfl, rfl, by rw [List.drop_zero]; exact hfit.symm, rfl, below_drewN (Below.refl _ _) _⟩
        case round =>
          obtain ⟨k, bb, A, hk, rfl, rfl, rfl, hbb, HU, B⟩ := hrel
          have hAl : A.size ≤ 4096 := by
            have h1 := undoL_len l b.data.toList hok
            rw [HU.out, List.length_append, ba_len] at h1
            omega
          have HB : Hid ((bb.size : Int) = lenB (l.drop k)) := hbb
          have hz : w1.heap.size < wr.heap.size := by have := B.size; simp at this; omega
          have j2 : wr.cell? ⟨w1.heap.size, 2, none⟩ = some (.int .i64 sa) := by rw [B.cell (by simp)]; simp [go_sem]
          have j4 : wr.cell? ⟨w1.heap.size, 4, none⟩ = some (.slice a l.length c) := by rw [B.cell (by simp)]; simp [go_sem]
          have B1 : Below w1.heap.size w1 wr := ((Below.refl w1.heap.size w1).alloc (Nat.le_refl _) _).trans (B.mono (by omega))
          have B2 : Below w.heap.size w wr := hb.trans (B1.mono hsz)
          clear hbb
          by_cases hlt : k < l.length
          · have hlt1 : (k : Int) < (l.length : Int) := by omega
            have hno : l ≠ [] := fun h => by rw [h] at hlt; simp at hlt
            obtain ⟨bk, off, ha', hbw, hcells⟩ := hrec.cells.resolve_left hno
            obtain ⟨c0, c1, c2⟩ := hcells k hlt
            have d0 := (B1.cell (by exact hbw)).trans c0
            have d1 := (B1.cell (by exact hbw)).trans c1
            have d2 := (B1.cell (by exact hbw)).trans c2
            have hokr := hok l[k] (List.getElem_mem hlt)
            have hn4 := mem_n l hok hA hBl l[k] (List.getElem_mem hlt)
            have hLB := lenB_drop l k hlt
            have hLn := lenB_nn (l.drop (k + 1)) (okAll_drop hok _)
            have HUD := undoL_drop l k hlt bb.data.toList
            rw [HUD] at HU
            rw [hLB] at HB
            clear hcells c0 c1 c2 hno HUD hLB
            subst ha'
            generalize l[k] = r at *
            have hk2 := (okRec_iff r).1 hokr
            obtain ⟨m, hm⟩ : ∃ m : Nat, r.n = m := ⟨r.n.toNat, by omega⟩
            have hm2 : r.n.toNat = m := by omega
            rw [hm2] at HU
            have hm3 : 1 ≤ m ∧ m ≤ 4096 := by omega
            have hkk : r.kind = 0 ∨ r.kind = 1 ∨ (r.kind = 2 ∧ r.s.size = m) := by omega
            have HM : Hid (r.n = m) := hm
            rw [hm] at d1
            clear hk2 hn4 hm2 hokr
            rcases hkk with hkd | hkd | ⟨hkd, hrs⟩
            · have eB : inB r = m := by simp [inB, hkd, hm]
              have hbm : m ≤ bb.size := by have h := HB.out; rw [eB] at h; omega
              have HB2 : Hid ((bb.size : Int) - m = lenB (l.drop (k + 1))) := by have h := HB.out; rw [eB] at h; show _ = _; omega
              have HU2 : Hid (undoL l b.data.toList = (A ++ bb.extract 0 m).data.toList ++ undoL (l.drop (k + 1)) (bb.extract m bb.size).data.toList) := by
                show _ = _
                have e : bb.size - m = (bb.data.toList.drop m).length := by rw [len_drop]
                rw [HU.out, if_pos hkd, ba_append, Lib.extract_data, Lib.extract_data, e, List.take_length]; simp
              have HX : Hid ((bb.extract 0 m).size = m) := by show _ = _; rw [ByteArray.size_extract]; omega
              have HY : Hid ((bb.extract m bb.size).size = bb.size - m) := by show _ = _; rw [ByteArray.size_extract]; omega
              have hxs : A.size + (bb.extract 0 m).size ≤ 9223372036854775807 := by rw [HX.out]; omega
              have k0 : (r.kind == 0) = true := by simp [hkd]
              have k2 : (m : Int) ≤ (bb.size : Int) := by omega
              clear HB HU hkd hm eB
              go_wp2
              go_roundw
              case rel => exact ⟨k + 1, bb.extract m bb.size, A ++ bb.extract 0 m, by omega, by go_num, rfl, rfl, by rw [HY.out, ← HB2.out]; omega, HU2.out, B⟩
              case measure => simp [intOf]; omega
            · have eB : inB r = m := by simp [inB, hkd, hm]
              have hbm : m ≤ bb.size := by have h := HB.out; rw [eB] at h; omega
              have HB2 : Hid ((bb.size : Int) - m = lenB (l.drop (k + 1))) := by have h := HB.out; rw [eB] at h; show _ = _; omega
              have HU2 : Hid (undoL l b.data.toList = A.data.toList ++ undoL (l.drop (k + 1)) (bb.extract m bb.size).data.toList) := by
                show _ = _
                have e : bb.size - m = (bb.data.toList.drop m).length := by rw [len_drop]
                rw [HU.out, if_neg (by omega), if_pos hkd, Lib.extract_data, e, List.take_length]
              have HY : Hid ((bb.extract m bb.size).size = bb.size - m) := by show _ = _; rw [ByteArray.size_extract]; omega
              have k0 : (r.kind == 0) = false := by simp [hkd]
              have k1 : (r.kind == 1) = true := by simp [hkd]
              have k2 : (m : Int) ≤ (bb.size : Int) := by omega
              clear HB HU hkd hm eB
              go_wp2
              go_roundw
              case rel => exact ⟨k + 1, bb.extract m bb.size, A, by omega, by go_num, rfl, rfl, by rw [HY.out, ← HB2.out]; omega, HU2.out, B⟩
              case measure => simp [intOf]; omega
            · have eB : inB r = 0 := by simp [inB, hkd]
              have HB2 : Hid ((bb.size : Int) = lenB (l.drop (k + 1))) := by have h := HB.out; rw [eB] at h; show _ = _; omega
              have HU2 : Hid (undoL l b.data.toList = (A ++ r.s).data.toList ++ undoL (l.drop (k + 1)) bb.data.toList) := by
                show _ = _
                rw [HU.out, if_neg (by omega), if_neg (by omega), ba_append]; simp
              have hxs : A.size + r.s.size ≤ 9223372036854775807 := by omega
              have k0 : (r.kind == 0) = false := by simp [hkd]
              have k1 : (r.kind == 1) = false := by simp [hkd]
              clear HB HU hkd hm eB
              go_wp2
              go_roundw
              case rel => exact ⟨k + 1, bb, A ++ r.s, by omega, by go_num, rfl, rfl, HB2.out, HU2.out, B⟩
              case measure => simp [intOf]; omega
          · obtain rfl : k = l.length := by omega
            have HA : Hid (A.data.toList = undoL l b.data.toList) := by
              show _ = _
              rw [HU.out, List.drop_length, undoL, List.append_nil]
            have hts2 : A.size ≤ maxLen := by unfold maxLen; omega
            by_cases hx : sum A.data.toList = sa
            · have HS : Hid (UndoSpec b s A.data.toList 0) := .inr ⟨HL.out, .inr ⟨_, HT.out, .inr ⟨HLQ.out, .inr ⟨by rw [← HA.out]; exact hx, rfl, HA.out⟩⟩⟩⟩
              have hx1 : (((sum A.data.toList : Nat) : Int) == (sa : Int)) = true := by rw [beq_iff_eq]; omega
              clear hx
              go_wp2_with fail
              go_quiet ((go_at_call 54; exact Calls.quiet_of_same (dsum_calls A _ hts2)))
              go_wp2
              go_ret2
              exact ⟨⟨A, 0, rfl, HS.out⟩, below_drewN B2 _⟩
            · have HS : Hid (UndoSpec b s [] 9) := .inr ⟨HL.out, .inr ⟨_, HT.out, .inr ⟨HLQ.out, .inl ⟨by rw [← HA.out]; exact hx, rfl, rfl⟩⟩⟩⟩
              have hx1 : (((sum A.data.toList : Nat) : Int) == (sa : Int)) = false := by rw [beq_eq_false_iff_ne]; omega
              clear hx
              go_wp2_with fail
              go_quiet ((go_at_call 54; exact Calls.quiet_of_same (dsum_calls A _ hts2)))
              go_wp2
              go_ret2
              exact ⟨⟨⟨#[]⟩, 9, rfl, HS.out⟩, below_drewN B2 _⟩
      · have HS : Hid (UndoSpec b s [] 9) := .inr ⟨HL.out, .inr ⟨_, HT.out, .inl ⟨fun h => hq h.2, rfl, rfl⟩⟩⟩
        have hq1 : (((sum b.data.toList : Nat) : Int) == (sb : Int)) = false := by rw [beq_eq_false_iff_ne]; omega
        clear hq
        go_wp2_with fail
        go_quiet ((go_at_call 54; exact Calls.quiet_of_same (dsum_calls b _ hbm2)))
        go_wp2
        go_ret2
        exact ⟨⟨⟨#[]⟩, 9, rfl, HS.out⟩, below_drewN (hb.alloc hb.size _) _⟩
    · have HS : Hid (UndoSpec b s [] 9) := .inr ⟨HL.out, .inr ⟨_, HT.out, .inl ⟨fun h => hl h.1, rfl, rfl⟩⟩⟩
      have hl1 : ((b.size : Int) == (lb : Int)) = false := by rw [beq_eq_false_iff_ne]; omega
      have hl4 : ((b.size : Int) != (lb : Int)) = true := by simp; omega
      clear hl
      go_wp2_with fail
      go_quiet (fail)
      go_wp2
      go_ret2
      exact ⟨⟨⟨#[]⟩, 9, rfl, HS.out⟩, below_drewN (hb.alloc hb.size _) _⟩
end Go.Proofs.Ytlppphmnegdhoaa
