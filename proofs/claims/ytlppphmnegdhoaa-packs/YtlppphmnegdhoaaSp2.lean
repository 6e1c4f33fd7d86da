/-
  The document's places: the walk of 'spread'.
-/
import Derived.Test.YtlppphmnegdhoaaSp1
namespace Go.Proofs.Ytlppphmnegdhoaa
set_option linter.unusedVariables false
open Go.RowKit
open M

set_option maxRecDepth 100000 in
set_option maxHeartbeats 2000000 in
theorem spread_calls (n c : Nat) (ad : Option Addr) (l : List M.Rec) (w : World) (hat : RecsAt w ad n l) (hok : okAll l) (hln : l.length ≤ 140737488351232) (hA : lenA l ≤ 4096) (hB : lenB l ≤ 4096) :
    Calls Try.prog 60 #[.slice ad n c] w fun e w' => SpreadPost l w w' e := by
  have hn := hat.len
  subst hn
  obtain ⟨i0, hi, hz0, hz1, hz2⟩ := info_parts infoInt
  go_enter Try.func60, Try.ntmps60
  go_wp2
  go_loopw [4] (fun i wr => ∃ (k : Nat) (vf vb : Value), k ≤ l.length ∧ i = .int .i64 k ∧ SInv w wr vf vb (evF 0 (expL (l.take k))) (evK (expL (l.take k)))) (fun i _ => l.length - (intOf i).toNat)
  case atStart =>
    refine ⟨0, .slice none 0 0, .slice none 0 0, Nat.zero_le _, rfl, ?_, ⟨World.ownsRow_nil _ _ _ _, World.ownsRow_nil _ _ _ _, fun g h => by cases h⟩, ?_, by simp⟩
    · constructor <;> simp [go_sem]
    · exact ((Below.refl _ _).alloc (Nat.le_refl _) _).alloc (by simp) _
  case round =>
    obtain ⟨k, vf, vb, hk, rfl, hinv⟩ := hrel
    by_cases hlt : k < l.length
    · have hlt1 : (k : Int) < (l.length : Int) := by omega
      have hno : l ≠ [] := fun h => by rw [h] at hlt; simp at hlt
      obtain ⟨bk, off, ha', hbw, hcells⟩ := hat.cells.resolve_left hno
      obtain ⟨c0, c1, c2⟩ := hcells k hlt
      have hkr := (okRec_iff l[k]).1 (hok _ (List.getElem_mem hlt))
      have HE : Hid (∀ j : Nat, l[k].n ≤ j → expL (l.take (k + 1)) = expL (l.take k) ++ evAt l[k] j) := fun j hj => by rw [exp_take l k hlt, evAt_all _ (hok _ (List.getElem_mem hlt)) j hj]
      have HL : Hid (∀ j : Nat, (evA (expL (l.take k) ++ evAt l[k] j) : Int) ≤ 4096 ∧ (evB (expL (l.take k) ++ evAt l[k] j) : Int) ≤ 4096) := fun j => by have := exp_le l hok k hlt j; omega
      have hnn : l[k].n ≤ 4096 := mem_n l hok hA hB _ (List.getElem_mem hlt)
      have H0 : Hid (expL (l.take k) ++ evAt l[k] 0 = expL (l.take k)) := by show _ = _; simp [evAt]
      clear hcells hno
      subst ha'
      generalize expL (l.take k) = E0 at *
      generalize l[k] = r at *
      go_wp2
      go_loopw [5] (fun i wr => ∃ (j : Nat) (vf vb : Value), (j : Int) ≤ r.n ∧ i = .int .i64 j ∧ SInv w wr vf vb (evF 0 (E0 ++ evAt r j)) (evK (E0 ++ evAt r j))) (fun i _ => (r.n - intOf i).toNat)
      case atStart => exact ⟨0, vf, vb, by omega, rfl, by rw [H0.out]; exact hinv⟩
      case round =>
        clear hinv vf vb H0
        obtain ⟨j, vf, vb, hj, rfl, hinv⟩ := hrel
        obtain ⟨hle1, hle2⟩ := HL.out j
        have d0 := (hinv.below.cell (by exact hbw)).trans c0
        have d1 := (hinv.below.cell (by exact hbw)).trans c1
        have d2 := (hinv.below.cell (by exact hbw)).trans c2
        have hz := hinv.size
        have hbk : bk < wr.heap.size := by omega
        by_cases hjn : (j : Int) < r.n
        · obtain ⟨af, cf, hvf⟩ := own_form hinv.twin.f
          obtain ⟨ab, cb, hvb⟩ := own_form hinv.twin.k
          have hlf : (evF 0 (E0 ++ evAt r j)).length ≤ 4096 := by rw [evF_len]; omega
          have hlk : (evK (E0 ++ evAt r j)).length ≤ 4096 := by rw [evK_len]; omega
          obtain ⟨r0, r1, f0, f1, x0, x1, g0, g1⟩ := hinv.box
          have hvf2 := hvf
          have hvb2 := hvb
          rcases hkr.2 with ⟨hkd | hkd, hs0⟩ | ⟨hkd, hsn⟩
          · have HN : Hid (evF 0 (E0 ++ evAt r (j + 1)) = evF 0 (E0 ++ evAt r j) ++ [((evK (E0 ++ evAt r j)).length : Int)] ∧ evK (E0 ++ evAt r (j + 1)) = evK (E0 ++ evAt r j) ++ [-1]) := by
              show _ ∧ _
              rw [evAt_k r j hkd hjn, ← List.append_assoc]; exact ⟨evF_snoc_k _, evK_snoc_k _⟩
            have hk0 : (r.kind == 0) = true := by simp [hkd]
            clear hkr
            generalize evF 0 (E0 ++ evAt r j) = F at *
            generalize evK (E0 ++ evAt r j) = K at *
            subst hvf hvb
            go_wp2_with (first
              | (at_builtin; refine wpList_append_lies _ rfl _ _ 72 rfl (w.heap.size + 2) 3 i0 (.int .i64 0) 1 8 undInt hi hz0 hz1 hz2 rfl (by decide) _ _ _ rfl (hinv.twin.f.alloc _) ⟨wr.heap.size, 0, none⟩ 1 1 [.int .i64 (K.length : Int)] rfl rfl ?k1 ?k2 (by decide) ?k3 ?k4 ?k5 (wr.heap.size + 1) ?k6 ?_)
              | go_in)
            case k1 => exact one_new _ _ _
            case k2 => exact intC_one _
            case k3 => unfold maxLen; omega
            case k4 => omega
            case k5 => simp; omega
            case k6 => simp
            intro g cap w3 hown3 hgrow hat3 _
            obtain ⟨hb3, hi3⟩ := hinv.grow0 hown3 hgrow hat3
            obtain ⟨y0, y1, e0, e1, z0, z1, q0, q1⟩ := hb3
            have hz3 := hi3.size
            clear hown3 hgrow hat3 d0 d1 d2 r0 r1 f0 f1 x0 x1 g0 g1
            go_wp2_with (first
              | (at_builtin; refine wpList_append_lies _ rfl _ _ 72 rfl (w.heap.size + 2) 3 i0 (.int .i64 0) 1 8 undInt hi hz0 hz1 hz2 rfl (by decide) _ _ _ rfl (hi3.twin.k.alloc _) ⟨w3.heap.size, 0, none⟩ 1 1 [.int .i64 (-1)] rfl rfl ?k1 ?k2 (by decide) ?k3 ?k4 ?k5 (w3.heap.size + 1) ?k6 ?_)
              | go_in)
            case k1 => simpa using one_new (w3.setCell ⟨w.heap.size + 1, 0, none⟩ (.slice (some ⟨g, 0, none⟩) (F.length + 1) cap)) (-1) _
            case k2 => exact intC_one _
            case k3 => unfold maxLen; omega
            case k4 => omega
            case k5 => simp at hz3 ⊢; omega
            case k6 => simp
            intro g' cap' w4 hown4 hgrow4 hat4 _
            obtain ⟨hb4, hi4⟩ := hi3.grow1 hown4 hgrow4 (by simpa using hat4)
            obtain ⟨t0, t1, p0, p1, s0, s1, v0, v1⟩ := hb4
            have d0 := (hi4.below.cell (by exact hbw)).trans c0
            clear hown4 hgrow4 hat4 y0 y1 e0 e1 z0 z1 q0 q1
            go_wp2
            go_roundw
            case rel => exact ⟨j + 1, _, _, by omega, by go_num, by rw [HN.out.1, HN.out.2]; exact hi4⟩
            case measure => simp [intOf]; omega
          · have HN : Hid (evF 0 (E0 ++ evAt r (j + 1)) = evF 0 (E0 ++ evAt r j) ++ [-1] ∧ evK (E0 ++ evAt r (j + 1)) = evK (E0 ++ evAt r j)) := by
              show _ ∧ _
              rw [evAt_d r j hkd hjn, ← List.append_assoc]; exact ⟨evF_snoc_d _, evK_snoc_d _⟩
            have hk0 : (r.kind == 0) = false := by simp [hkd]
            have hk1 : (r.kind == 1) = true := by simp [hkd]
            clear hkr
            generalize evF 0 (E0 ++ evAt r j) = F at *
            generalize evK (E0 ++ evAt r j) = K at *
            subst hvf hvb
            go_wp2_with (first
              | (at_builtin; refine wpList_append_lies _ rfl _ _ 72 rfl (w.heap.size + 2) 3 i0 (.int .i64 0) 1 8 undInt hi hz0 hz1 hz2 rfl (by decide) _ _ _ rfl (hinv.twin.f.alloc _) ⟨wr.heap.size, 0, none⟩ 1 1 [.int .i64 (-1)] rfl rfl ?k1 ?k2 (by decide) ?k3 ?k4 ?k5 (wr.heap.size + 1) ?k6 ?_)
              | go_in)
            case k1 => exact one_new _ _ _
            case k2 => exact intC_one _
            case k3 => unfold maxLen; omega
            case k4 => omega
            case k5 => simp; omega
            case k6 => simp
            intro g cap w3 hown3 hgrow hat3 _
            obtain ⟨hb3, hi3⟩ := hinv.grow0 hown3 hgrow hat3
            obtain ⟨y0, y1, e0, e1, z0, z1, q0, q1⟩ := hb3
            clear hown3 hgrow hat3 d0 d1 d2 r0 r1 f0 f1 x0 x1 g0 g1
            go_wp2
            go_roundw
            case rel => exact ⟨j + 1, _, _, by omega, by go_num, by rw [HN.out.1, HN.out.2]; exact hi3⟩
            case measure => simp [intOf]; omega
          · have hjs : j < r.s.size := by omega
            have HN : Hid (evF 0 (E0 ++ evAt r (j + 1)) = evF 0 (E0 ++ evAt r j) ∧ evK (E0 ++ evAt r (j + 1)) = evK (E0 ++ evAt r j) ++ [(r.s[j].toNat : Int)]) := by
              show _ ∧ _
              rw [evAt_r r j hkd hjs, ← List.append_assoc]; exact ⟨evF_snoc_r _ _, evK_snoc_r _ _⟩
            have hk0 : (r.kind == 0) = false := by simp [hkd]
            have hk1 : (r.kind == 1) = false := by simp [hkd]
            have hjs1 : (j : Int) < (r.s.size : Int) := by omega
            have hz9 : w.heap.size + 1 < wr.heap.size := by omega
            have HW : Hid (IntKind.i64.wrap (r.s[j].toNat : Int) = (r.s[j].toNat : Int)) := by
              have := r.s[j].toNat_lt
              show _ = _
              rw [IntKind.wrap_i64]
              omega
            clear hkr
            generalize evF 0 (E0 ++ evAt r j) = F at *
            generalize evK (E0 ++ evAt r j) = K at *
            subst hvf hvb
            go_wp2
            go_region_law (first
              | (refine step_append_lies _ rfl (.tmp 27) (.tmp 36) 72 rfl (w.heap.size + 2) 3 i0 (.int .i64 0) 1 8 undInt hi hz0 hz1 hz2 rfl (by decide) (.slice ab K.length cb) K.length (intC K) (by simp [Act.eval]) (World.ownsRow.drew (World.ownsRow.alloc hinv.twin.k _)) ⟨wr.heap.size, 0, none⟩ 1 1 [.int .i64 (IntKind.i64.wrap (r.s[j].toNat : Int))] (by simp [Act.eval]) rfl (fun j u h => one_new wr _ _ j u h) (intC_one _) (by decide) (by unfold maxLen; omega) (by omega) (by simp; omega) (wr.heap.size + 1) (by simp) ?_
                 intro g cap w3 hown3 hgrow hat3 _
                 have hgrow2 : (wr.alloc (.cells #[.int .i64 (IntKind.i64.wrap (r.s[j].toNat : Int))] 3)).grownBy w3 (Value.slice ab K.length cb).ownBlock := ⟨hgrow.os, hgrow.tape, hgrow.output, hgrow.size, hgrow.block⟩
                 obtain ⟨hb3, hi3⟩ := hinv.grow1 hown3 hgrow2 hat3
                 obtain ⟨y0, y1, e0, e1, z0, z1, q0, q1⟩ := hb3
                 clear hown3 hgrow hgrow2 hat3 d0 d1 d2 r0 r1 f0 f1 x0 x1 g0 g1))
            all_goals (go_wp2; go_roundw)
            all_goals first
              | exact ⟨j + 1, _, _, by omega, by go_num, by rw [HN.out.1, HN.out.2, ← HW.out]; exact hi3⟩
              | (simp [intOf]; omega)
        · have HN : Hid (expL (l.take (k + 1)) = E0 ++ evAt r j) := HE.out j (by omega)
          have hjn1 : ¬ (j : Int) < r.n := hjn
          go_wp2
          go_roundw
          case rel => exact ⟨k + 1, vf, vb, by omega, by go_num, by rw [HN.out]; exact hinv⟩
          case measure => simp [intOf]; omega
    · obtain rfl : k = l.length := by omega
      obtain ⟨⟨r0, r1, f0, f1, x0, x1, g0, g1⟩, tw, B, hz⟩ := hinv
      rw [List.take_length] at tw
      obtain ⟨af, cf, hvf⟩ := own_form tw.f
      obtain ⟨ab, cb, hvb⟩ := own_form tw.k
      generalize (evF 0 (expL l)).length = nf at *
      generalize (evK (expL l)).length = nk at *
      subst hvf hvb
      go_wp2
      refine bodyPost_ret (v := .agg #[.slice af nf cf, .slice ab nk cb]) (by simp [results, Try.results60, go_sem, r0, r1]) rfl ⟨_, _, rfl, ?_, ?_⟩
      · have t2 := (tw.set (a := ⟨w.heap.size, 0, none⟩) (by simp) (.slice af nf cf)).set (a := ⟨w.heap.size, 1, none⟩) (by simp) (.slice ab nk cb)
        exact ⟨ownsRow_base t2.f (by omega), ownsRow_base t2.k (by omega), t2.ap⟩
      · exact (B.setCell (by simp) _).setCell (by simp) _
end Go.Proofs.Ytlppphmnegdhoaa
