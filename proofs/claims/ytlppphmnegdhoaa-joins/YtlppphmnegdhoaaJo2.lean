/-
  The document's places: the walk of 'joined'.
-/
import Derived.Test.YtlppphmnegdhoaaJo1
import Derived.BigQuiet
import Derived.Deep.QuietTactic
namespace Go.Proofs.Ytlppphmnegdhoaa
set_option linter.unusedVariables false
open Go.RowKit
open M

set_option maxRecDepth 100000 in
set_option maxHeartbeats 4000000 in
theorem joined_calls (B B' : Nat) (xf xb yf yb : Value) (es fs : List Ev) (w : World) (tx : Twin B w xf xb (evF 0 es) (evK es)) (ty : Twin B' w yf yb (evF 0 fs) (evK fs)) (hj : evB es = evA fs) (hA : evA es ≤ 4096) (hB : evB es ≤ 4096) (hC : evB fs ≤ 4096) :
    Calls Try.prog 63 #[.agg #[xf, xb], .agg #[yf, yb]] w fun e w' => JoinedPost es fs w w' e := by
  obtain ⟨i0, hi, hz0, hz1, hz2⟩ := info_parts infoInt
  obtain ⟨axf, cxf, hxf⟩ := own_form tx.f
  obtain ⟨axb, cxb, hxb⟩ := own_form tx.k
  obtain ⟨ayf, cyf, hyf⟩ := own_form ty.f
  obtain ⟨ayb, cyb, hyb⟩ := own_form ty.k
  subst hxf hxb hyf hyb
  have hXF := ints_own tx.f
  have hXB := ints_own tx.k
  have hYF := ints_own ty.f
  have hYB := ints_own ty.k
  have HG : Hid (∀ i (hi : i < (evF 0 fs).length), (evF 0 fs)[i] < ((evF 0 es).length : Int)) := from_lt es fs hj
  have HG2 : Hid (∀ i (hi : i < (evF 0 es).length), (evF 0 es)[i] < ((evK es).length : Int)) := from_lt2 es
  have HE : Hid (∀ i (hi : i < (evF 0 fs).length), (evF 0 fs)[i] = -1 ∨ 0 ≤ (evF 0 fs)[i]) := from_ge fs
  have HE2 : Hid (∀ i (hi : i < (evF 0 es).length), (evF 0 es)[i] = -1 ∨ 0 ≤ (evF 0 es)[i]) := from_ge es
  have HJ : Hid (evF 0 (joinE es fs) = (evF 0 fs).map (jF (evF 0 es)) ∧ setF (evK es) (evF 0 es) (evK fs) = evK (joinE es fs)) := ⟨join_from es fs hj, join_back es fs hj⟩
  have l1 : (evF 0 es).length ≤ 4096 := by rw [evF_len]; exact hB
  have l2 : (evK es).length ≤ 4096 := by rw [evK_len]; exact hA
  have l3 : (evF 0 fs).length ≤ 4096 := by rw [evF_len]; exact hC
  have l4 : (evK fs).length = (evF 0 es).length := by rw [evK_len, evF_len]; exact hj.symm
  unfold JoinedPost
  clear tx ty hA hB hC
  generalize evF 0 (joinE es fs) = ZF at *
  generalize evK (joinE es fs) = ZB at *
  generalize evF 0 es = XF at *
  generalize evK es = XB at *
  generalize evF 0 fs = YF at *
  generalize evK fs = YB at *
  have HL4 : Hid (YB.length = XF.length) := l4
  have l5 : YB.length ≤ 4096 := by omega
  clear l4
  go_enter Try.func63, Try.ntmps63
  go_wp2
  go_loopw [6] (fun i wr => ∃ (c : Nat) (vf : Value), c ≤ YF.length ∧ i = .int .i64 c ∧ JInv w wr (.slice axf XF.length cxf) (.slice axb XB.length cxb) (.slice ayf YF.length cyf) (.slice ayb YB.length cyb) vf (.slice none 0 0) ((YF.take c).map (jF XF)) []) (fun i _ => YF.length - (intOf i).toNat)
  case atStart =>
    refine ⟨0, .slice none 0 0, Nat.zero_le _, rfl, ?_, ⟨World.ownsRow_nil _ _ _ _, World.ownsRow_nil _ _ _ _, fun g h => by cases h⟩, ?_, by simp⟩
    · constructor <;> simp [go_sem]
    · exact ((((Below.refl _ _).alloc (Nat.le_refl _) _).alloc (by simp) _).alloc (by simp; omega) _).alloc (by simp; omega) _
  case round =>
    obtain ⟨c, vf, hc, rfl, hinv⟩ := hrel
    by_cases hlt : c < YF.length
    · have hlt1 : (c : Int) < (YF.length : Int) := by omega
      have hno : YF ≠ [] := fun h => by rw [h] at hlt; simp at hlt
      obtain ⟨gy, hgy, hgyw, hgyc⟩ := hYF.cells.resolve_left hno
      have HS : Hid ((YF.take (c + 1)).map (jF XF) = (YF.take c).map (jF XF) ++ [jF XF YF[c]]) := by
        show _ = _
        rw [List.take_succ_eq_append_getElem hlt, List.map_append]; rfl
      have hlen : ((YF.take c).map (jF XF)).length ≤ 4096 := by simp; omega
      generalize (YF.take c).map (jF XF) = Z0 at *
      have d0 := (hinv.below.cell (by exact hgyw)).trans (hgyc c hlt)
      obtain ⟨a0, a1, c0, c1, r0, r1, f0, f1, x0, x1, g0, g1⟩ := hinv.box
      have hz := hinv.size
      have hq := HE.out c hlt
      have hq2 := HG.out c hlt
      subst hgy
      generalize YF[c] = q at *
      go_upto_if 22 with fail
      go_cut [7] (fun t wx => t = .int .i64 (jF XF q) ∧ JInv w wx (.slice axf XF.length cxf) (.slice axb XB.length cxb) (.slice (some ⟨gy, 0, none⟩) YF.length cyf) (.slice ayb YB.length cyb) vf (.slice none 0 0) Z0 [])
      case first =>
        by_cases hq0 : 0 ≤ q
        · obtain ⟨m, rfl⟩ := Int.eq_ofNat_of_zero_le hq0
          have hm : m < XF.length := by omega
          have hno2 : XF ≠ [] := fun h => by rw [h] at hm; simp at hm
          obtain ⟨gx, hgx, hgxw, hgxc⟩ := hXF.cells.resolve_left hno2
          have d1 := (hinv.below.cell (by exact hgxw)).trans (hgxc m hm)
          have HV : Hid (jF XF (m : Int) = XF[m]) := by show _ = _; simp [jF, hm]
          have hm1 : (m : Int) < (XF.length : Int) := by omega
          subst hgx
          generalize XF[m] = z at *
          go_wp2
          go_quiet (fail)
          go_wp2
          go_meet
          exact ⟨by rw [HV.out], hinv.drew _⟩
        · obtain rfl : q = -1 := by omega
          have HV : Hid (jF XF (-1) = -1) := jF_neg XF
          go_wp2
          go_meet
          exact ⟨by rw [HV.out], hinv⟩
      case rest =>
        obtain ⟨rfl, hinv2⟩ := hcut
        clear a0 a1 c0 c1 r0 r1 f0 f1 x0 x1 g0 g1 d0 hinv hz
        obtain ⟨af, cf, hvf⟩ := own_form hinv2.twin.f
        subst hvf
        obtain ⟨a0, a1, c0, c1, r0, r1, f0, f1, x0, x1, g0, g1⟩ := hinv2.box
        have hz := hinv2.size
        go_wp2_with (first
          | (at_builtin; refine wpList_append_lies _ rfl _ _ 72 rfl (w.heap.size + 4) 3 i0 (.int .i64 0) 1 8 undInt hi hz0 hz1 hz2 rfl (by decide) _ _ _ rfl (hinv2.twin.f.alloc _) ⟨wc.heap.size, 0, none⟩ 1 1 [.int .i64 (jF XF q)] rfl rfl ?k1 ?k2 (by decide) ?k3 ?k4 ?k5 (wc.heap.size + 1) ?k6 ?_)
          | go_in)
        case k1 => first | exact fun j u h => h | exact one_new _ _ _
        case k2 => exact intC_one _
        case k3 => unfold maxLen; omega
        case k4 => omega
        case k5 => first | omega | (simp; omega)
        case k6 => first | rfl | simp
        intro g cap w3 hown3 hgrow hat3 _
        obtain ⟨hb3, hi3⟩ := hinv2.grow0 hown3 hgrow hat3
        clear a0 a1 c0 c1 r0 r1 f0 f1 x0 x1 g0 g1
        obtain ⟨a0, a1, c0, c1, r0, r1, f0, f1, x0, x1, g0, g1⟩ := hb3
        go_wp2
        go_roundw
        case rel => exact ⟨c + 1, _, by omega, by go_num, by rw [HS.out]; exact hi3⟩
        case measure => simp [intOf]; omega
    · obtain rfl : c = YF.length := by omega
      have HZ : Hid (ZF = YF.map (jF XF)) := HJ.out.1
      rw [List.take_length] at hinv
      rw [← HZ.out] at hinv
      have hlt1 : ¬ (YF.length : Int) < (YF.length : Int) := by omega
      obtain ⟨a0, a1, c0, c1, r0, r1, f0, f1, x0, x1, g0, g1⟩ := hinv.box
      go_wp2
      go_loopw [8] (fun i wr => ∃ (c : Nat) (vf vb : Value), c ≤ XB.length ∧ i = .int .i64 c ∧ JInv w wr (.slice axf XF.length cxf) (.slice axb XB.length cxb) (.slice ayf YF.length cyf) (.slice ayb YB.length cyb) vf vb ZF (XB.take c)) (fun i _ => XB.length - (intOf i).toNat)
      case atStart => exact ⟨0, vf, .slice none 0 0, Nat.zero_le _, rfl, hinv⟩
      case round =>
        clear a0 a1 c0 c1 r0 r1 f0 f1 x0 x1 g0 g1 hinv vf
        obtain ⟨c, vf, vb, hc, rfl, hinv⟩ := hrel
        obtain ⟨a0, a1, c0, c1, r0, r1, f0, f1, x0, x1, g0, g1⟩ := hinv.box
        have hz := hinv.size
        by_cases hlt : c < XB.length
        · have hlt1 : (c : Int) < (XB.length : Int) := by omega
          have hno : XB ≠ [] := fun h => by rw [h] at hlt; simp at hlt
          obtain ⟨gy, hgy, hgyw, hgyc⟩ := hXB.cells.resolve_left hno
          have HS : Hid (XB.take (c + 1) = XB.take c ++ [XB[c]]) := List.take_succ_eq_append_getElem hlt
          have d0 := (hinv.below.cell (by exact hgyw)).trans (hgyc c hlt)
          have hlen : (XB.take c).length ≤ 4096 := by simp; omega
          have hgy2 : gy < wr.heap.size := by omega
          obtain ⟨ab, cb, hvb⟩ := own_form hinv.twin.k
          subst hgy hvb
          generalize XB.take c = Z0 at *
          generalize XB[c] = q at *
          have hz9 : w.heap.size + 3 < wr.heap.size := by omega
          have hz8 : w.heap.size < wr.heap.size := by omega
          go_wp2
          go_region_law (first
            | (refine step_append_lies _ rfl (.tmp 46) (.tmp 52) 72 rfl (w.heap.size + 4) 3 i0 (.int .i64 0) 1 8 undInt hi hz0 hz1 hz2 rfl (by decide) (.slice ab Z0.length cb) Z0.length (intC Z0) (by simp [Act.eval]) (World.ownsRow.drew (World.ownsRow.alloc hinv.twin.k _)) ⟨wr.heap.size, 0, none⟩ 1 1 [.int .i64 q] (by simp [Act.eval]) rfl (fun j u h => one_new wr _ _ j u h) (intC_one _) (by decide) (by unfold maxLen; omega) (by omega) (by simp; omega) (wr.heap.size + 1) (by simp) ?_
               intro g cap w3 hown3 hgrow hat3 _
               have hgrow2 : (wr.alloc (.cells #[.int .i64 q] 3)).grownBy w3 (Value.slice ab Z0.length cb).ownBlock := ⟨hgrow.os, hgrow.tape, hgrow.output, hgrow.size, hgrow.block⟩
               obtain ⟨hb3, hi3⟩ := hinv.grow1 hown3 hgrow2 hat3
               clear hown3 hgrow hgrow2 hat3 d0 a0 a1 c0 c1 r0 r1 f0 f1 x0 x1 g0 g1
               obtain ⟨a0, a1, c0, c1, r0, r1, f0, f1, x0, x1, g0, g1⟩ := hb3))
          all_goals (go_wp2; go_roundw)
          all_goals first
            | exact ⟨c + 1, _, _, by omega, by go_num, by rw [HS.out]; exact hi3⟩
            | (simp [intOf]; omega)
        · obtain rfl : c = XB.length := by omega
          rw [List.take_length] at hinv
          have hlt1 : ¬ (XB.length : Int) < (XB.length : Int) := by omega
          go_wp2
          go_loopw [9] (fun i wr => ∃ (c : Nat) (Z : List Int) (vb : Value), c ≤ XF.length ∧ i = .int .i64 c ∧ Z.length = XB.length ∧ Hid (setF Z (XF.drop c) (YB.drop c) = ZB) ∧ JInv w wr (.slice axf XF.length cxf) (.slice axb XB.length cxb) (.slice ayf YF.length cyf) (.slice ayb YB.length cyb) vf vb ZF Z) (fun i _ => XF.length - (intOf i).toNat)
          case atStart => exact ⟨0, XB, vb, Nat.zero_le _, rfl, rfl, HJ.out.2, hinv⟩
          case round =>
            clear a0 a1 c0 c1 r0 r1 f0 f1 x0 x1 g0 g1 hinv vb hz
            obtain ⟨c, Z, vb, hc, rfl, hZ, HZ2, hinv⟩ := hrel
            have HZL : Hid (Z.length = XB.length) := hZ
            clear hZ
            have hz := hinv.size
            obtain ⟨ab, cb, hvb⟩ := own_form hinv.twin.k
            obtain ⟨a0, a1, c0, c1, r0, r1, f0, f1, x0, x1, g0, g1⟩ := hinv.box
            by_cases hlt : c < XF.length
            · have hlt1 : (c : Int) < (XF.length : Int) := by omega
              have hno : XF ≠ [] := fun h => by rw [h] at hlt; simp at hlt
              obtain ⟨gx, hgx, hgxw, hgxc⟩ := hXF.cells.resolve_left hno
              have hlt2 : c < YB.length := by rw [HL4.out]; exact hlt
              have hlt3 : (c : Int) < (YB.length : Int) := by omega
              have hno2 : YB ≠ [] := fun h => by rw [h] at hlt2; simp at hlt2
              obtain ⟨gy, hgy, hgyw, hgyc⟩ := hYB.cells.resolve_left hno2
              have d0 := (hinv.below.cell (by exact hgxw)).trans (hgxc c hlt)
              have d1 := (hinv.below.cell (by exact hgyw)).trans (hgyc c hlt2)
              have HD := setF_drop Z XF YB c hlt hlt2
              rw [HZ2.out] at HD
              have HD2 : Hid (ZB = setF (if 0 ≤ XF[c] then Z.set XF[c].toNat YB[c] else Z) (XF.drop (c + 1)) (YB.drop (c + 1))) := HD
              clear HD HZ2
              have hq := HE2.out c hlt
              have hq2 := HG2.out c hlt
              subst hgx hgy hvb
              generalize XF[c] = q at *
              generalize YB[c] = y at *
              by_cases hq0 : 0 ≤ q
              · obtain ⟨m, rfl⟩ := Int.eq_ofNat_of_zero_le hq0
                have hm : m < Z.length := by rw [HZL.out]; omega
                have hm1 : (m : Int) < (Z.length : Int) := by omega
                obtain ⟨g, hg, hgw, hgc⟩ := (ints_own hinv.twin.k).cells.resolve_left (fun h => by rw [h] at hm; simp at hm)
                subst hg
                have d2 := hgc m hm
                have d3 := hinv.twin.k.frozenAt m
                generalize Z[m] = z at *
                have HD3 : Hid (setF (Z.set m y) (XF.drop (c + 1)) (YB.drop (c + 1)) = ZB) := by
                  have h := HD2.out
                  rw [if_pos hq0] at h
                  exact h.symm
                have hi4 := hinv.put1 (i := m) (x := y)
                go_wp2
                go_region
                have hi5 := hi4.drew 1
                go_wp2
                go_roundw
                case rel => exact ⟨c + 1, Z.set m y, _, by omega, by go_num, by rw [List.length_set]; exact HZL.out, HD3, hi5⟩
                case measure => simp [intOf]; omega
              · obtain rfl : q = -1 := by omega
                have HD3 : Hid (setF Z (XF.drop (c + 1)) (YB.drop (c + 1)) = ZB) := by
                  have h := HD2.out
                  rw [if_neg hq0] at h
                  exact h.symm
                go_wp2
                go_roundw
                case rel => exact ⟨c + 1, Z, _, by omega, by go_num, HZL.out, HD3, hinv⟩
                case measure => simp [intOf]; omega
            · obtain rfl : c = XF.length := by omega
              have hlt1 : ¬ (XF.length : Int) < (XF.length : Int) := by omega
              have HZ3 : Hid (Z = ZB) := by
                have h := HZ2.out
                rw [List.drop_length] at h
                cases hyy : YB.drop XF.length <;> rw [hyy] at h <;> exact h
              obtain ⟨af, cf, hvf⟩ := own_form hinv.twin.f
              have tw := hinv.twin
              have B0 := hinv.below
              have HTW : Hid (Twin (w.heap.size + 4) wr vf vb ZF ZB) := by show Twin _ _ _ _ _ _; rw [← HZ3.out]; exact tw
              clear tw hinv
              generalize ZF.length = nf at *
              generalize Z.length = nk at *
              subst hvf hvb
              go_wp2
              refine bodyPost_ret (v := .agg #[.slice af nf cf, .slice ab nk cb]) (by simp [results, Try.results63, go_sem, r0, r1]) rfl ⟨_, _, rfl, ?_, ?_⟩
              · have t2 := (HTW.out.set (a := ⟨w.heap.size + 2, 0, none⟩) (by simp) (.slice af nf cf)).set (a := ⟨w.heap.size + 2, 1, none⟩) (by simp) (.slice ab nk cb)
                exact ⟨ownsRow_base t2.f (by omega), ownsRow_base t2.k (by omega), t2.ap⟩
              · exact (B0.setCell (by simp; omega) _).setCell (by simp; omega) _
end Go.Proofs.Ytlppphmnegdhoaa
