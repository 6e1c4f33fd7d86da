/-
  The program's growing short list: 'settle'.
-/
import Derived.Test.YtlppphmnegdhoaaPl1
namespace Go.Proofs.Ytlppphmnegdhoaa
set_option linter.unusedVariables false
open Go.RowKit
open M

theorem slK_pos {m : Nat} (h : ¬ m = 0) : rKeep m = [⟨0, (m : Int), ⟨#[]⟩⟩] := if_neg h
theorem slD_pos {m : Nat} (h : ¬ m = 0) : rDrop m = [⟨1, (m : Int), ⟨#[]⟩⟩] := if_neg h
theorem slR_pos {s : List UInt8} {t : ByteArray} (h : t.data.toList = s) (hs : ¬ s.length = 0) : rRest s = [⟨2, (s.length : Int), t⟩] := by
  have h1 : ¬ s = [] := fun e => hs (by rw [e]; rfl)
  have h2 : (⟨⟨s⟩⟩ : ByteArray) = t := ba_ext h.symm
  unfold rRest
  rw [if_neg h1, h2]

set_option maxRecDepth 100000 in
set_option maxHeartbeats 4000000 in
theorem settle_calls (b : Nat) (S : SL) (vo vr : Value) (w : World) (h : SLAt b w S vo vr) (hm : S.m ≤ 65536) (hd : S.d ≤ 65536) (hs : S.s.length ≤ 65536) (ho : S.out.length ≤ 1048576) :
    Calls Try.prog 101 #[.pointer (some ⟨b, 0, none⟩)] w fun e w' => e = .returned (.tuple #[]) ∧ (∃ vo', SLAt b w' ⟨S.fin, 0, 0, []⟩ vo' (.slice none 0 0) ∧ Fr b vo w w' vo') ∧ Below b w w' := by
  obtain ⟨i0, hi, hz0, hz1, hz2⟩ := info_parts Try.info57
  obtain ⟨L, m, d, s⟩ := S
  simp only at hm hd hs ho
  obtain ⟨ar, cr, hvr⟩ := own_form h.s
  simp only at hvr
  subst hvr
  go_enter Try.func101, Try.ntmps101
  have hlt := h.lt
  obtain ⟨c0, c1, c2, c3, f0, f1, f2, f3⟩ := h.box
  simp only at c0 c1 c2 c3
  go_upto_if 6 with fail
  go_cut [] (fun wx => ∃ v1, SLAt b wx ⟨L ++ rKeep m, m, d, s⟩ v1 (.slice ar s.length cr) ∧ Fr b vo w wx v1 ∧ Below b w wx)
  case first =>
    by_cases hm0 : m = 0
    · have hm1 : ¬ (0 : Int) < (m : Int) := by omega
      have HM : Hid (m = 0) := hm0
      clear hm0
      go_wp2
      go_meet
      exact ⟨vo, by simpa [rKeep, HM.out] using h, Fr.refl _ _ _, Below.refl _ _⟩
    · have hm1 : (0 : Int) < (m : Int) := by omega
      go_wp2
      go_region_law (first
        | (refine step_append_lies _ rfl (.tmp 11) (.tmp 17) 22 rfl (b + 1) 57 i0 (.agg #[.int .i64 0, .int .i64 0, .string ⟨#[]⟩]) 3 32 Try.underlying22 hi hz0 hz1 hz2 rfl (by decide) vo L.length (recsC L) (by simp [Act.eval]) (World.ownsRow.drew (World.ownsRow.alloc h.out _)) ⟨w.heap.size, 0, none⟩ 1 1 (recC ⟨0, (m : Int), ⟨#[]⟩⟩) (by simp [Act.eval]) rfl (fun j u h => recC_at w _ _ j u h) (recC_one _) (by decide) (by unfold maxLen; omega) (by omega) (by simp; omega) (w.heap.size + 1) (by simp) ?_
           intro g cap w3 hown3 hgrow hat3 _
           have hgrow2 : (w.alloc (.cells #[.int .i64 0, .int .i64 (m : Int), .string ⟨#[]⟩] 57)).grownBy w3 vo.ownBlock := ⟨hgrow.os, hgrow.tape, hgrow.output, hgrow.size, hgrow.block⟩
           obtain ⟨hb3, hi3, hB3, hF3⟩ := h.growOut hown3 hgrow2 rfl hat3
           obtain ⟨y0, y1, y2, y3, e0, e1, e2, e3⟩ := hb3
           clear hown3 hgrow hgrow2 hat3 c0 c1 c2 c3 f0 f1 f2 f3))
      all_goals (go_wp2; go_meet)
      all_goals exact ⟨_, by rw [slK_pos hm0]; exact hi3, hF3, hB3⟩
  case rest =>
    clear c0 c1 c2 c3 f0 f1 f2 f3 h hlt
    obtain ⟨v1, h, F1, B1⟩ := hcut
    have hl1 : (L ++ rKeep m).length ≤ 1048577 := by rw [List.length_append]; unfold rKeep; split <;> simp <;> omega
    have HF : Hid ((L ++ rKeep m) ++ (rDrop d ++ rRest s) = SL.fin ⟨L, m, d, s⟩) := by show _ = _; simp [SL.fin]
    generalize L ++ rKeep m = L1 at *
    have hlt := h.lt
    obtain ⟨c0, c1, c2, c3, f0, f1, f2, f3⟩ := h.box
    simp only at c0 c1 c2 c3
    go_upto_if 25 with fail
    go_cut [] (fun wx => ∃ v1, SLAt b wx ⟨L1 ++ rDrop d, m, d, s⟩ v1 (.slice ar s.length cr) ∧ Fr b vo w wx v1 ∧ Below b w wx)
    case first =>
      by_cases hm0 : d = 0
      · have hm1 : ¬ (0 : Int) < (d : Int) := by omega
        have HM : Hid (d = 0) := hm0
        clear hm0
        go_wp2
        go_meet
        exact ⟨v1, by simpa [rDrop, HM.out] using h, F1, B1⟩
      · have hm1 : (0 : Int) < (d : Int) := by omega
        go_wp2
        go_region_law (first
          | (refine step_append_lies _ rfl (.tmp 30) (.tmp 36) 22 rfl (b + 1) 57 i0 (.agg #[.int .i64 0, .int .i64 0, .string ⟨#[]⟩]) 3 32 Try.underlying22 hi hz0 hz1 hz2 rfl (by decide) v1 L1.length (recsC L1) (by simp [Act.eval]) (World.ownsRow.drew (World.ownsRow.alloc h.out _)) ⟨wc.heap.size, 0, none⟩ 1 1 (recC ⟨1, (d : Int), ⟨#[]⟩⟩) (by simp [Act.eval]) rfl (fun j u h => recC_at wc _ _ j u h) (recC_one _) (by decide) (by unfold maxLen; omega) (by omega) (by simp; omega) (wc.heap.size + 1) (by simp) ?_
             intro g cap w3 hown3 hgrow hat3 _
             have hgrow2 : (wc.alloc (.cells #[.int .i64 1, .int .i64 (d : Int), .string ⟨#[]⟩] 57)).grownBy w3 v1.ownBlock := ⟨hgrow.os, hgrow.tape, hgrow.output, hgrow.size, hgrow.block⟩
             obtain ⟨hb3, hi3, hB3, hF3⟩ := h.growOut hown3 hgrow2 rfl hat3
             obtain ⟨y0, y1, y2, y3, e0, e1, e2, e3⟩ := hb3
             clear hown3 hgrow hgrow2 hat3 c0 c1 c2 c3 f0 f1 f2 f3))
        all_goals (go_wp2; go_meet)
        all_goals exact ⟨_, by rw [slD_pos hm0]; exact hi3, F1.trans B1.size hF3, B1.trans hB3⟩
    case rest =>
      clear c0 c1 c2 c3 f0 f1 f2 f3 h hlt B1 F1
      obtain ⟨v2, h, F1, B1⟩ := hcut
      have hl2 : (L1 ++ rDrop d).length ≤ 1048578 := by rw [List.length_append]; unfold rDrop; split <;> simp <;> omega
      rw [← List.append_assoc] at HF
      generalize L1 ++ rDrop d = L2 at *
      have hlt := h.lt
      obtain ⟨c0, c1, c2, c3, f0, f1, f2, f3⟩ := h.box
      simp only at c0 c1 c2 c3
      go_upto_if 45 with fail
      go_cut [] (fun wx => ∃ v1, SLAt b wx ⟨L2 ++ rRest s, m, d, s⟩ v1 (.slice ar s.length cr) ∧ Fr b vo w wx v1 ∧ Below b w wx)
      case first =>
        by_cases hm0 : s.length = 0
        · have hm1 : ¬ (0 : Int) < (s.length : Int) := by omega
          have HM : Hid (s = []) := List.length_eq_zero_iff.1 hm0
          clear hm0
          go_wp2
          go_meet
          exact ⟨v2, by simpa [rRest, HM.out] using h, F1, B1⟩
        · have hm1 : (0 : Int) < (s.length : Int) := by omega
          obtain ⟨t, ht, hr⟩ := conv_own (A := s) h.s
          obtain ⟨t', ht', hr'⟩ := conv_own (A := s) (World.ownsRow.drew h.s)
          obtain rfl : t = t' := ba_ext (ht.trans ht'.symm)
          have HR : Hid (rRest s = [⟨2, (s.length : Int), t⟩]) := slR_pos ht hm0
          clear ht ht'
          go_wp2
          go_region_law (first
            | (refine step_append_lies _ rfl (.tmp 50) (.tmp 62) 22 rfl (b + 1) 57 i0 (.agg #[.int .i64 0, .int .i64 0, .string ⟨#[]⟩]) 3 32 Try.underlying22 hi hz0 hz1 hz2 rfl (by decide) v2 L2.length (recsC L2) (by simp [Act.eval]) (World.ownsRow.drew (World.ownsRow.alloc h.out _)) ⟨wc.heap.size, 0, none⟩ 1 1 (recC ⟨2, (s.length : Int), t⟩) (by simp [Act.eval]) rfl (fun j u h => recC_at wc _ _ j u h) (recC_one _) (by decide) (by unfold maxLen; omega) (by omega) (by simp; omega) (wc.heap.size + 1) (by simp) ?_
               intro g cap w3 hown3 hgrow hat3 _
               have hgrow2 : (wc.alloc (.cells #[.int .i64 2, .int .i64 (s.length : Int), .string t] 57)).grownBy w3 v2.ownBlock := ⟨hgrow.os, hgrow.tape, hgrow.output, hgrow.size, hgrow.block⟩
               obtain ⟨hb3, hi3, hB3, hF3⟩ := h.growOut hown3 hgrow2 rfl hat3
               obtain ⟨y0, y1, y2, y3, e0, e1, e2, e3⟩ := hb3
               clear hown3 hgrow hgrow2 hat3 c0 c1 c2 c3 f0 f1 f2 f3))
          all_goals (go_wp2; go_meet)
          all_goals exact ⟨_, by rw [HR.out]; exact hi3, F1.trans B1.size hF3, B1.trans hB3⟩
      case rest =>
        clear c0 c1 c2 c3 f0 f1 f2 f3 h hlt B1 F1
        obtain ⟨v3, h, F1, B1⟩ := hcut
        rw [HF.out] at h
        have hlt := h.lt
        obtain ⟨c0, c1, c2, c3, f0, f1, f2, f3⟩ := h.box
        simp only at c0 c1 c2 c3
        go_wp2
        go_end0
        refine ⟨rfl, ⟨v3, ?_, ((F1.set _ _).set _ _).set _ _⟩, ?_⟩
        · exact ((h.setM 0).setD 0).setNil
        · exact ((B1.setCell (by simp) _).setCell (by simp) _).setCell (by simp) _
end Go.Proofs.Ytlppphmnegdhoaa
