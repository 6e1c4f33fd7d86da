/-
  The program's expressions: the walk of Read.
-/
import Derived.Test.YtlppphmnegdhoaaGp7
namespace Go.Proofs.Ytlppphmnegdhoaa
set_option linter.unusedVariables false
set_option maxRecDepth 100000
open Go.RowKit
open M

set_option maxRecDepth 100000 in
set_option maxHeartbeats 4000000 in
theorem rd_calls (s : ByteArray) (k : Nat) (m : List Mk) (r : List UInt8) (w : World) (hs8 : s.size ≤ 8192) (hk : k ≤ s.size) (hm : mksM (s.data.toList.drop k) = (m, r)) :
    Calls Try.prog 64 #[.string s, .int .i64 k] w fun e w' => RdPost s k m r w w' e := by
  have hs : s.size ≤ maxLen := by unfold maxLen; omega
  obtain ⟨h94, h94'⟩ := stB_mk _ 94 _ _ hm (by decide) (by decide) (by decide)
  obtain ⟨hd, hhd⟩ : ∃ b, stB (s.data.toList.drop k) 94 = b := ⟨_, rfl⟩
  have HHD : Hid (hd = hdIs m 94) := hhd.symm.trans h94
  obtain ⟨p, hp⟩ : ∃ p : Nat, p = if hd then k + 1 else k := ⟨_, rfl⟩
  obtain ⟨m0, hm0⟩ : ∃ m0 : List Mk, m0 = if hd then m.drop 1 else m := ⟨_, rfl⟩
  have HM00 : Hid (m0 = if hd then m.drop 1 else m) := hm0
  have hps : p ≤ s.size := by
    cases hd
    · rw [hp]; exact hk
    · rw [hp]; exact stB_size s k 94 hhd
  have hkp : k ≤ p := by rw [hp]; cases hd <;> simp
  have HM0 : Hid (mksM (s.data.toList.drop p) = (m0, r)) := by
    show _ = _
    rw [hp, hm0]
    cases hd
    · exact hm
    · obtain ⟨q, m1, e1, e2⟩ := h94' hhd
      rw [List.drop_drop] at e2
      rw [e1]; exact e2
  have HP : Hid (p = if hd then k + 1 else k) := hp
  have HOTH : Hid (stB (s.data.toList.drop k) 94 = hd) := hhd
  clear h94 h94' hm hp hm0 hhd
  have hzv := (zero_of_info infoIt).1
  have hr0 : ExBox w.heap.size ((w.alloc (.cells #[.bool false, .bool false, .slice none 0 0] 82)).alloc (.cells #[.bool false, .bool false, .slice none 0 0] 82)) false false (.slice none 0 0) := by constructor <;> simp [go_sem]
  have hx0 : ExBox (w.heap.size + 1) ((w.alloc (.cells #[.bool false, .bool false, .slice none 0 0] 82)).alloc (.cells #[.bool false, .bool false, .slice none 0 0] 82)) false false (.slice none 0 0) := by constructor <;> simp [go_sem]
  have B0 : Below w.heap.size w ((w.alloc (.cells #[.bool false, .bool false, .slice none 0 0] 82)).alloc (.cells #[.bool false, .bool false, .slice none 0 0] 82)) := ((Below.refl _ _).alloc (Nat.le_refl _) _).alloc (by simp) _
  have hsz0 : ((w.alloc (.cells #[.bool false, .bool false, .slice none 0 0] 82)).alloc (.cells #[.bool false, .bool false, .slice none 0 0] 82)).heap.size = w.heap.size + 2 := by simp
  go_enter Try.func64, Try.ntmps64
  go_wp2_with fail
  generalize ((w.alloc (.cells #[.bool false, .bool false, .slice none 0 0] 82)).alloc (.cells #[.bool false, .bool false, .slice none 0 0] 82)) = W at *
  refine (stands_calls s k 94 _ hs hk (by decide)).mono ?_
  rintro e w2 ⟨rfl, rfl⟩
  rw [HOTH.out]
  go_upto_if 15 with fail
  go_cut [8] (fun v wx => v = .int .i64 p ∧ ExBox w.heap.size wx false false (.slice none 0 0) ∧ ExBox (w.heap.size + 1) wx hd false (.slice none 0 0) ∧ Below w.heap.size w wx ∧ wx.heap.size = w.heap.size + 2)
  case first =>
    cases hd
    · obtain rfl : p = k := HP.out
      go_wp2
      go_meet
      exact ⟨rfl, hr0, hx0, B0, hsz0⟩
    · obtain rfl : p = k + 1 := HP.out
      have hx1 := hx0.set0 true
      have hr1 := hr0.keep (heap_setCell_other w2 ⟨w.heap.size + 1, 0, none⟩ w.heap.size (.bool true) (by simp))
      have B1 := B0.setCell (p := ⟨w.heap.size + 1, 0, none⟩) (by simp) (.bool true)
      obtain ⟨x0, x1, x2, p0, p1, p2⟩ := hx0
      go_wp2
      go_meet
      exact ⟨rfl, hr1, hx1, B1, by simpa using hsz0⟩
  case rest =>
    clear hr0 hx0 B0 hsz0
    obtain ⟨rfl, hr0, hx0, B0, hsz0⟩ := hcut
    go_wp2_with fail
    refine (readItem_calls s p m0 r _ hs hps HM0.out).mono ?_
    rintro e w3 ⟨⟨f, v2, v3, rfl, hpost⟩, B3⟩
    have HPO : Hid (ItmPost s p m0 r f v2 v3) := hpost
    clear hpost
    have hs3 := B3.size
    have hbn : BR (w3.alloc (.cells (Array.replicate 257 (.bool false)) 119)) w3.heap.size 257 (fun _ => false) := BR.new w3 _ 257
    have hP0 : PInv w.heap.size w3.heap.size w (w3.alloc (.cells (Array.replicate 257 (.bool false)) 119)) hd false (.slice none 0 0) [] (fun _ => false) := by
      have hr3 := hr0.keep (B3.block _ (by omega))
      have hx3 := hx0.keep (B3.block _ (by omega))
      have B4 := B0.trans (B3.mono (by omega))
      exact ⟨hr3.keep (Below.heap_alloc _ _ _ (by omega)), hx3.keep (Below.heap_alloc _ _ _ (by omega)), hbn, World.ownsRow_nil _ _ _ _, B4.alloc (by omega) _, by simp, by omega⟩
    obtain ⟨g9, hg9⟩ : ∃ g, w3.heap.size = g := ⟨_, rfl⟩
    rw [hg9] at hP0 hbn
    clear hr0 hx0 B0 B3 hs3 hsz0
    go_wp2_with (refine it_store hbn rfl _ _ rfl rfl _ rfl ?_; intro w5 hb5 O5)
    have hP5 := hP0.sto O5 hb5
    clear hP0 hb5 O5 hbn
    go_loopw [8, 10, 11] (fun v8 v10 v11 wr => ∃ (n : Nat) (L : List It) (m1 : List Mk) (f : Nat → Bool) (v : Value), v8 = .int .i64 n ∧ p ≤ n ∧ n ≤ s.size ∧ L.length ≤ n ∧ Hid (mksM (s.data.toList.drop n) = (m1, r)) ∧ Hid (RunsM m0 L m1) ∧ Hid (ItmPost s n m1 r f v10 v11) ∧ PInv w.heap.size g9 w wr hd false v L f) (fun v8 _ _ _ => s.size - (intOf v8).toNat)
    case atStart =>
      exact ⟨p, [], m0, f, _, rfl, Nat.le_refl _, hps, Nat.zero_le _, HM0, rfl, HPO, hP5⟩
    case round =>
      clear hP5
      obtain ⟨n, L, m1, f, v, rfl, hpn, hns, hLn, HM1, HRU, HIT, hP⟩ := hrel
      obtain ⟨av, cv, hvv⟩ := own_form hP.own
      generalize hnL : L.length = nL at hvv
      have HNL : Hid (L.length = nL) := hnL
      rw [hnL] at hLn
      clear hnL
      subst hvv
      have hsz := hP.size
      have hfar := hP.far
      rcases HIT.out with ⟨x, m2, n2, hit, hn2, hn2s, hm2, hfx, rfl, rfl⟩ | ⟨hit, n2, rfl, rfl⟩
      · have HM2 : Hid (mksM (s.data.toList.drop n2) = (m2, r)) := hm2
        have HRU2 : Hid (RunsM m0 (L ++ [x]) m2) := runs_snoc L m0 m1 m2 x HRU.out hit
        clear hit hm2 HRU HIT HM1
        subst hfx
        have hbi := hP.it
        obtain ⟨x0, x1, x2, p0, p1, p2⟩ := hP.box
        have hlt8 : w.heap.size + 1 < wr.heap.size := by omega
        have hown := hP.own
        rw [HNL.out] at hown
        go_wp2_with (first
          | refine it_load hbi rfl _ rfl rfl ?_
          | refine it_build rfl _ rfl _ rfl ?_
          | (refine it_append (hown.alloc _) wr.heap.size (itF x) (heap_alloc_new wr _) (by omega) (by simp; omega) rfl _ _ rfl rfl rfl ?_
             intro v' w3 hown3 hgrow3
             rw [← HNL.out] at hown3
             have hg3 := hP.grow hown3 hgrow3
             obtain ⟨hb3, hP3⟩ := hg3
             obtain ⟨y0, y1, y2, e0, e1, e2⟩ := hb3
             obtain ⟨av', cv', hvv⟩ := own_form hown3
             rw [HNL.out] at hvv
             subst hvv
             have hlt9 : w.heap.size + 1 < w3.heap.size := by have := hgrow3.size; simp at this; omega
             clear x0 x1 x2 p0 p1 p2 hown3 hgrow3))
        obtain ⟨W3, hW3⟩ : ∃ W3, w3.setCell ⟨w.heap.size + 1, 2, none⟩ (.slice av' (nL + 1) cv') = W3 := ⟨_, rfl⟩
        rw [hW3] at hP3
        try rw [hW3]
        clear hW3 y0 y1 y2 e0 e1 e2 hlt9
        refine (readItem_calls s n2 m2 r _ hs hn2s HM2.out).mono ?_
        rintro e w4 ⟨⟨f4, v24, v34, rfl, hpost⟩, B4⟩
        have HPO4 : Hid (ItmPost s n2 m2 r f4 v24 v34) := hpost
        have hP4 := hP3.keep B4
        clear hpost hP3 B4 hP hbi hown
        have hb4 := hP4.it
        go_wp2_with (refine it_store hb4 rfl _ _ rfl rfl _ rfl ?_; intro w5 hb5 O5)
        have hP6 := hP4.sto O5 hb5
        go_roundw
        case rel => exact ⟨n2, L ++ [x], m2, f4, _, rfl, by omega, hn2s, by rw [List.length_append, HNL.out]; simp; omega, HM2, HRU2, HPO4, hP6⟩
        case measure => simp [intOf]; omega
      · obtain ⟨hA, hB, hC⟩ := exp_read m hd HHD.out L m1 (by rw [← HM00.out]; exact HRU.out) hit
        have HA : Hid (m ≠ [] → m1 = [] → expM m = some ⟨hd, false, L⟩) := hA
        have HB : Hid (∀ d, m1 = [d] → d.is 36 = true → expM m = some ⟨hd, true, L⟩) := hB
        have HC : Hid (m1 ≠ [] → (∀ d, m1 = [d] → d.is 36 = false) → expM m = none) := hC
        clear hA hB hC hit HIT HRU
        go_wp2_with fail
        refine (stands_calls s n 36 _ hs hns (by decide)).mono ?_
        rintro e w4 ⟨rfl, rfl⟩
        obtain ⟨h36, h36'⟩ := stB_mk _ 36 _ _ HM1.out (by decide) (by decide) (by decide)
        cases hb : stB (s.data.toList.drop n) 36
        · have HF : Hid (∀ e' w', e' = .returned (.tuple #[.agg #[.bool hd, .bool false, .slice av nL cv], .int .i64 n, .bool (decide (k < n))]) → w'.ownsRow w.heap.size 119 257 (.slice av nL cv) L.length (itsC L) → Below w.heap.size w w' → RdPost s k m r w w' e') := fun e' w' he ho hbl =>
            ⟨hd, false, L, m1, n, av, cv, by rw [he, HNL.out], by omega, hns, HM1.out, by rw [HNL.out] at ho ⊢; exact ho, hbl, by rw [HNL.out]; omega, HA.out, fun h1 => HC.out h1 (fun d hd' => by
              rw [hd'] at h36
              rw [hb] at h36
              exact h36.symm)⟩
          obtain ⟨x0, x1, x2, p0, p1, p2⟩ := hP.box
          obtain ⟨r0, r1, r2, o0, o1, o2⟩ := hP.res
          have hfin := hP.fin
          clear h36 h36' hb HA HB HC HM1 hP
          by_cases hkn : k < n
          · have hkn1 : (k : Int) < (n : Int) := by omega
            rw [decide_eq_true hkn] at HF
            go_wp2
            refine bodyPost_ret (v := .tuple #[.agg #[.bool hd, .bool false, .slice av nL cv], .int .i64 n, .bool true]) (by simp [results, Try.results64, go_sem, r0, r1, r2]) rfl (HF.out _ _ rfl hfin.1 hfin.2)
          · have hkn1 : ¬ (k : Int) < (n : Int) := by omega
            rw [decide_eq_false hkn] at HF
            go_wp2
            refine bodyPost_ret (v := .tuple #[.agg #[.bool hd, .bool false, .slice av nL cv], .int .i64 n, .bool false]) (by simp [results, Try.results64, go_sem, r0, r1, r2]) rfl (HF.out _ _ rfl hfin.1 hfin.2)
        · obtain ⟨q, m3, hq, hm3⟩ := h36' hb
          have hn1 := stB_size s n 36 hb
          rw [List.drop_drop] at hm3
          have hq36 : q.is 36 = true := by rw [hb, hq] at h36; exact h36.symm
          have HF : Hid (∀ e' w', e' = .returned (.tuple #[.agg #[.bool hd, .bool true, .slice av nL cv], .int .i64 ((n + 1 : Nat) : Int), .bool true]) → w'.ownsRow w.heap.size 119 257 (.slice av nL cv) L.length (itsC L) → Below w.heap.size w w' → RdPost s k m r w w' e') := fun e' w' he ho hbl =>
            ⟨hd, true, L, m3, n + 1, av, cv, by rw [he, HNL.out, decide_eq_true (show k < n + 1 by omega)], by omega, hn1, hm3, by rw [HNL.out] at ho ⊢; exact ho, hbl, by rw [HNL.out]; omega, fun _ h3 => HB.out q (by rw [hq, h3]) hq36, fun h3 => HC.out (by rw [hq]; simp) (fun d hd' => by
              rw [hq] at hd'
              simp at hd'
              exact absurd hd'.2 h3)⟩
          have hP6 := hP.set1 true
          have hfin := hP6.fin
          obtain ⟨z0, z1, z2, q0, q1, q2⟩ := hP6.res
          obtain ⟨x0, x1, x2, p0, p1, p2⟩ := hP.box
          obtain ⟨y0, y1, y2, t0, t1, t2⟩ := hP6.box
          have hkn1 : (k : Int) < (n : Int) + 1 := by omega
          clear h36 h36' hb HA HB HC HM1 hP hq hm3 hq36 hP6
          go_wp2
          refine bodyPost_ret (v := .tuple #[.agg #[.bool hd, .bool true, .slice av nL cv], .int .i64 ((n + 1 : Nat) : Int), .bool true]) (by simp [results, Try.results64, go_sem, z0, z1, z2]) rfl (HF.out _ _ rfl hfin.1 hfin.2)
end Go.Proofs.Ytlppphmnegdhoaa
