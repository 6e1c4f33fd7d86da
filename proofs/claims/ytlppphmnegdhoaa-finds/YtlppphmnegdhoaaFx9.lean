/-
  The document's expressions: the walk of 'expression'.
-/
import Derived.Test.YtlppphmnegdhoaaFx8
namespace Go.Proofs.Ytlppphmnegdhoaa
set_option linter.unusedVariables false
set_option maxRecDepth 100000
open Go.RowKit
open M

set_option maxRecDepth 100000 in
set_option maxHeartbeats 8000000 in
theorem expression_calls (n c : Nat) (ad : Option Addr) (l : List Mk) (w : World) (hat : MarksAt w ad n l) (hln : l.length ≤ 8192) (hcap : n ≤ c) :
    Calls Try.prog 68 #[.slice ad n c] w fun e w' => ExpPost l w w' e := by
  have hn := hat.len
  subst hn
  obtain ⟨i0, hi, hz0, hz1, hz2⟩ := info_parts infoItem
  have hE0 : EInv w ((w.alloc (.cells #[.bool false, .bool false, .slice none 0 0] 92)).alloc (.cells #[.bool false, .bool false, .slice none 0 0] 92)) false false (.slice none 0 0) [] := by
    refine ⟨?_, ?_, World.ownsRow_nil _ _ _ _, fun x hx => by simp at hx, ((Below.refl _ _).alloc (Nat.le_refl _) _).alloc (by simp) _, by simp⟩
    · constructor <;> simp [go_sem]
    · constructor <;> simp [go_sem]
  go_enter Try.func68, Try.ntmps68
  by_cases h0 : l.length = 0
  · have h01 : ((l.length : Int) == 0) = true := by simp [h0]
    have HF : Hid (expM l = none) := by show _ = _; rw [List.length_eq_zero_iff.1 h0]; rfl
    clear h0
    obtain ⟨x0, x1, x2, p0, p1, p2⟩ := hE0.box
    obtain ⟨r0, r1, r2, o0, o1, o2⟩ := hE0.res
    have hfin := hE0.fin
    go_wp2
    refine bodyPost_ret (v := .tuple #[.agg #[.bool false, .bool false, .slice none 0 0], .bool false]) (by simp [results, Try.results68, go_sem]) rfl ⟨false, false, none, 0, 0, ?_, .inl ⟨HF.out, rfl⟩⟩
    first | exact hE0.below | exact (((hE0.below.setCell (by exact Nat.le_refl _) _).setCell (by exact Nat.le_refl _) _).setCell (by exact Nat.le_refl _) _)
  · have h01 : ((l.length : Int) == 0) = false := by rw [beq_eq_false_iff_ne]; omega
    have hpos : 0 < l.length := by omega
    have hpos1 : (0 : Int) < (l.length : Int) := by omega
    obtain ⟨b, off, rfl, hb, d0, d1⟩ := (hat.below hE0.below).get hpos
    simp only [Nat.zero_mul, Nat.add_zero] at d0 d1
    have HX : Hid (∀ (tl : Bool) (at' en : Nat), at' = (if l[0].is 94 then 1 else 0) → tl = (decide (at' < l.length) && (l[l.length - 1]'(by omega)).is 36) → en = (if tl then l.length - 1 else l.length) → expM l = (itemsA ((l.take en).drop at')).map (fun q => ⟨l[0].is 94, tl, q⟩)) := fun tl at' en q2 q3 q4 => expM_eq l (fun e => by rw [e] at hpos; simp at hpos) _ tl at' en hpos rfl q2 q3 q4
    clear h0
    obtain ⟨m, hmm⟩ : ∃ m, l[0] = m := ⟨_, rfl⟩
    rw [hmm] at HX d0 d1
    clear hmm
    go_upto_region 6 with fail
    generalize ((w.alloc (.cells #[.bool false, .bool false, .slice none 0 0] 92)).alloc (.cells #[.bool false, .bool false, .slice none 0 0] 92)) = W at hE0 hb d0 d1 ⊢
    go_wp2_with fail
    refine (is_calls m 94 _).mono ?_
    rintro e w1 ⟨rfl, b1⟩
    have hE1 := hE0.keep b1
    clear hE0 b1 d0 d1 hb
    generalize m.is 94 = hd at *
    go_upto_if 17 with fail
    go_cut [5] (fun at' wx => at' = .int .i64 ((if hd then 1 else 0 : Nat) : Int) ∧ EInv w wx hd false (.slice none 0 0) [])
    case first =>
      cases hd
      · go_wp2
        go_meet
        exact ⟨rfl, hE1⟩
      · have hE2 := hE1.set0 true
        obtain ⟨x0, x1, x2, p0, p1, p2⟩ := hE1.box
        have hsz := hE1.size
        go_wp2
        go_meet
        exact ⟨rfl, hE2⟩
    case rest =>
      clear hE1
      obtain ⟨rfl, hE1⟩ := hcut
      obtain ⟨at0, hat0⟩ : ∃ k : Nat, (if hd then 1 else 0 : Nat) = k := ⟨_, rfl⟩
      rw [hat0]
      have hat1 : at0 ≤ 1 := by rw [← hat0]; cases hd <;> simp
      have HA : Hid (at0 = (if hd then 1 else 0 : Nat)) := hat0.symm
      clear hat0
      obtain ⟨ml, hml⟩ : ∃ ml, l[l.length - 1]'(by omega) = ml := ⟨_, rfl⟩
      rw [hml] at HX
      obtain ⟨tl, htl⟩ : ∃ tl, (decide (at0 < l.length) && ml.is 36) = tl := ⟨_, rfl⟩
      have HTL : Hid (tl = (decide (at0 < l.length) && ml.is 36)) := htl.symm
      clear htl
      go_upto_region 9 with fail
      go_cut [29] (fun t wx => t = .bool tl ∧ Below wc.heap.size wc wx)
      case first =>
        by_cases hlt : at0 < l.length
        · have hlt1 : (at0 : Int) < (l.length : Int) := by omega
          obtain ⟨b', off', hbo, hb', s0, s1⟩ := (hat.below hE1.below).get (show l.length - 1 < l.length by omega)
          simp only [Option.some.injEq, Addr.mk.injEq, and_true] at hbo
          obtain ⟨rfl, rfl⟩ := hbo
          rw [hml] at s0 s1
          have hl1 : (l.length : Int) - 1 = ((l.length - 1 : Nat) : Int) := by omega
          have hl2 : ((l.length - 1 : Nat) : Int) < (l.length : Int) := by omega
          have HT2 : Hid (tl = ml.is 36) := by show _ = _; rw [HTL.out, decide_eq_true hlt]; rfl
          clear hml HTL HX
          generalize l.length - 1 = ll at *
          go_wp2_with fail
          refine (is_calls ml 36 _).mono ?_
          rintro e w2 ⟨rfl, b2⟩
          generalize hgg : ml.is 36 = gg at *
          go_wp2
          go_meet
          exact ⟨by rw [HT2.out], b2⟩
        · have hlt1 : ¬ (at0 : Int) < (l.length : Int) := by omega
          have HT2 : Hid (tl = false) := by show _ = _; rw [HTL.out, decide_eq_false hlt]; rfl
          go_wp2
          go_meet
          exact ⟨by rw [HT2.out], Below.refl _ _⟩
      case rest =>
        obtain ⟨rfl, b2⟩ := hcut
        have hE2 := hE1.keep b2
        clear hE1 b2 hml
        go_upto_if 29 with fail
        go_cut [6] (fun en' wx => en' = .int .i64 ((if tl then l.length - 1 else l.length : Nat) : Int) ∧ EInv w wx hd tl (.slice none 0 0) [])
        case first =>
          cases tl
          · go_wp2
            go_meet
            exact ⟨rfl, hE2⟩
          · have hE3 := hE2.set1 true
            obtain ⟨x0, x1, x2, p0, p1, p2⟩ := hE2.box
            have hsz := hE2.size
            go_wp2
            go_meet
            exact ⟨by simp only [if_true]; congr 1; omega, hE3⟩
        case rest =>
          clear hE2
          obtain ⟨rfl, hE2⟩ := hcut
          obtain ⟨en, hen⟩ : ∃ k : Nat, (if tl then l.length - 1 else l.length : Nat) = k := ⟨_, rfl⟩
          rw [hen]
          have hen1 : en ≤ l.length := by rw [← hen]; cases tl <;> simp
          have HEX : Hid (expM l = (itemsA ((l.take en).drop at0)).map (fun q => ⟨hd, tl, q⟩)) := HX.out tl at0 en HA.out HTL.out hen.symm
          clear HX HA HTL hen
          have hlt' : (l.take en).length = en := by rw [List.length_take]; omega
          go_wp2
          go_loopw [5] (fun at' wr => ∃ (k : Nat) (L : List IV) (v : Value), at' = .int .i64 k ∧ EInv w wr hd tl v L ∧ L.length ≤ k ∧ k ≤ l.length ∧ Hid (itemsA ((l.take en).drop at0) = (itemsA ((l.take en).drop k)).map (L.map IV.it ++ ·))) (fun at' _ => en - (intOf at').toNat)
          case atStart => exact ⟨at0, [], _, rfl, hE2, Nat.zero_le _, by omega, by show _ = _; cases itemsA ((l.take en).drop at0) <;> rfl⟩
          case round =>
            clear hE2
            obtain ⟨k, L, v, rfl, hE, hLk, hkl, HI⟩ := hrel
            obtain ⟨av, cv, hvv⟩ := own_form hE.own
            generalize hnL : L.length = nL at hvv
            have HNL : Hid (L.length = nL) := hnL
            have hnL2 : nL ≤ 8192 := by omega
            clear hnL
            subst hvv
            have hsz := hE.size
            by_cases hlt : k < en
            · have hlt1 : (k : Int) < (en : Int) := by omega
              have hen2 : (en : Int) ≤ (c : Int) := by omega
              have hatk := ((hat.below hE.below).take en hen1)
              have hne : (l.take en).drop k ≠ [] := fun e => by have := congrArg List.length e; rw [List.length_drop, hlt'] at this; simp at this; omega
              have HNE : Hid ((l.take en).drop k ≠ []) := hne
              have HLT : Hid ((l.take en).length = en) := hlt'
              clear hne hlt'
              go_wp2_with fail
              refine (item_calls en _ _ (l.take en) k _ hatk (by rw [HLT.out]; omega) (by rw [HLT.out]; exact hlt)).mono ?_
              rintro e w2 ⟨an, nt, st, vf, vb, b2, ⟨a1, n1, c1, a2, n2, c2, rfl, rfl⟩, ⟨hno, rfl⟩ | ⟨rng, q, hsome, hq0, hq1, rfl, tw⟩⟩
              · have HF : Hid (expM l = none) := by
                  show _ = _
                  rw [HEX.out, HI.out, itemsA_none _ HNE.out hno]; rfl
                obtain ⟨x0, x1, x2, p0, p1, p2⟩ := (hE.keep b2).box
                obtain ⟨r0, r1, r2, o0, o1, o2⟩ := (hE.keep b2).res
                have hsb2 := b2.size
                have hlt8 : w.heap.size + 1 < w2.heap.size := by omega
                have hlt9 : w.heap.size < w2.heap.size := by omega
                have hbl := (hE.keep b2).fin.2.2
                clear HI HEX hno
                go_wp2
                refine bodyPost_ret (v := .tuple #[.agg #[.bool hd, .bool tl, .slice av nL cv], .bool false]) (by simp [results, Try.results68, go_sem, r0, r1, r2, hlt9]) rfl ⟨hd, tl, av, nL, cv, hbl.alloc (by simp; omega) _, .inl ⟨HF.out, rfl⟩⟩
              · have HI2 : Hid (itemsA ((l.take en).drop at0) = (itemsA ((l.take en).drop q)).map ((L ++ [(⟨⟨an, nt, st, rng⟩, .slice a1 n1 c1, .slice a2 n2 c2⟩ : IV)]).map IV.it ++ ·)) := by
                  show _ = _
                  rw [HI.out, itemsA_some _ _ _ HNE.out hsome, cat_it, List.map_append]; rfl
                have hsb2 := b2.size
                have hE2 := hE.keep b2
                have hE3 := hE2.keep ((Below.refl w2.heap.size w2).alloc (Nat.le_refl _) (.cells #[.bool an, .bool nt, .bool st, .slice a1 n1 c1, .slice a2 n2 c2] 127))
                have hx : IVok (w.heap.size + 2) (w2.alloc (.cells #[.bool an, .bool nt, .bool st, .slice a1 n1 c1, .slice a2 n2 c2] 127)) ⟨⟨an, nt, st, rng⟩, .slice a1 n1 c1, .slice a2 n2 c2⟩ := ⟨(ownsRow_base tw.f (by omega)).alloc _, (ownsRow_base tw.k (by omega)).alloc _, tw.ap⟩
                rw [HLT.out] at hq1
                have hL2 : L.length ≤ 8192 := by omega
                have hq2 : ¬ (q : Int) < 0 := by omega
                obtain ⟨x0, x1, x2, p0, p1, p2⟩ := hE2.box
                have hlt8 : w.heap.size + 1 < w2.heap.size := by omega
                have hlt9 : w.heap.size + 1 < w2.heap.size + 1 := by omega
                clear HI hsome tw HNE
                go_wp2_with (first
                  | (at_builtin; refine wpList_append_own _ rfl (.tmp 48) (.tmp 50) 90 rfl (w.heap.size + 2) 127 i0 (.agg #[.bool false, .bool false, .bool false, .slice none 0 0, .slice none 0 0]) 5 56 undItems hi hz0 hz1 hz2 rfl (by decide) _ _ _ rfl (hE3.own.alloc _) ⟨w2.heap.size + 1, 0, none⟩ 1 1 (ivC ⟨⟨an, nt, st, rng⟩, .slice a1 n1 c1, .slice a2 n2 c2⟩) rfl rfl ?k1 ?k2 ?k3 ?k4 ?k5 ?_)
                  | go_in)
                try (case k1 =>
                  first
                  | exact fun j u h => h
                  | (intro j u h
                     have h9 := ivC_at (w2.alloc (.cells #[.bool an, .bool nt, .bool st, .slice a1 n1 c1, .slice a2 n2 c2] 127)) ⟨⟨an, nt, st, rng⟩, .slice a1 n1 c1, .slice a2 n2 c2⟩ 127 j u h
                     simpa using h9))
                try (case k2 => exact ivC_one hx)
                try (case k3 => first | omega | (unfold maxLen; omega))
                try (case k4 => omega)
                try (case k5 => first | omega | (simp; omega))
                intro v' w3 hown3 hgrow _
                obtain ⟨hb3, hE4⟩ := hE3.grow hx hown3 hgrow
                obtain ⟨av', cv', hvv⟩ := own_form hown3
                subst hvv
                obtain ⟨y0, y1, y2, e0, e1, e2⟩ := hb3
                clear hown3 hgrow x0 x1 x2 p0 p1 p2
                go_wp2
                go_roundw
                case rel => exact ⟨q, L ++ [(⟨⟨an, nt, st, rng⟩, .slice a1 n1 c1, .slice a2 n2 c2⟩ : IV)], _, rfl, hE4, by simp; omega, by omega, HI2.out⟩
                case measure => simp [intOf]; omega
            · have hlt1 : ¬ (k : Int) < (en : Int) := by omega
              have HF : Hid (expM l = some ⟨hd, tl, L.map IV.it⟩) := by
                have e : (l.take en).drop k = [] := List.drop_of_length_le (by omega)
                show _ = _
                rw [HEX.out, HI.out, e, itemsA_nil]
                simp
              obtain ⟨x0, x1, x2, p0, p1, p2⟩ := hE.box
              obtain ⟨r0, r1, r2, o0, o1, o2⟩ := hE.res
              have hL2 : L.length ≤ l.length := by omega
              have hfin := hE.fin
              clear HI HEX hlt'
              go_wp2
              refine bodyPost_ret (v := .tuple #[.agg #[.bool hd, .bool tl, .slice av nL cv], .bool true]) (by simp [results, Try.results68, go_sem, r0, r1, r2]) rfl ⟨hd, tl, av, nL, cv, hfin.2.2, .inr ⟨L, HF.out, HNL.out.symm, rfl, hfin.1, hfin.2.1, hL2⟩⟩
end Go.Proofs.Ytlppphmnegdhoaa
