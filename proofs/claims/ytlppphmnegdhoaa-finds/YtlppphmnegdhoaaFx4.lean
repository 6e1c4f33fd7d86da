/-
  The document's expressions: the walk of 'members'.
-/
import Derived.Test.YtlppphmnegdhoaaFx3
import Derived.Deep.DeepCutAuto
namespace Go.Proofs.Ytlppphmnegdhoaa
set_option linter.unusedVariables false
set_option maxRecDepth 100000
open Go.RowKit
open M

theorem MInv.fin {w wr : World} {nt : Bool} {vf vb : Value} {F K : List Int} (h : MInv w wr nt vf vb F K) :
    Twin w.heap.size (((((wr.setCell ⟨w.heap.size, 0, none⟩ (.bool false)).setCell ⟨w.heap.size, 1, none⟩ (.bool nt)).setCell ⟨w.heap.size, 2, none⟩ (.bool false)).setCell ⟨w.heap.size, 3, none⟩ vf).setCell ⟨w.heap.size, 4, none⟩ vb) vf vb F K ∧
    Below w.heap.size w (((((wr.setCell ⟨w.heap.size, 0, none⟩ (.bool false)).setCell ⟨w.heap.size, 1, none⟩ (.bool nt)).setCell ⟨w.heap.size, 2, none⟩ (.bool false)).setCell ⟨w.heap.size, 3, none⟩ vf).setCell ⟨w.heap.size, 4, none⟩ vb) := by
  have t2 := ((((h.twin.set (a := ⟨w.heap.size, 0, none⟩) (by simp) (.bool false)).set (a := ⟨w.heap.size, 1, none⟩) (by simp) (.bool nt)).set (a := ⟨w.heap.size, 2, none⟩) (by simp) (.bool false)).set (a := ⟨w.heap.size, 3, none⟩) (by simp) vf).set (a := ⟨w.heap.size, 4, none⟩) (by simp) vb
  exact ⟨⟨ownsRow_base t2.f (by omega), ownsRow_base t2.k (by omega), t2.ap⟩, ((((h.below.setCell (by simp) _).setCell (by simp) _).setCell (by simp) _).setCell (by simp) _).setCell (by simp) _⟩
/-- what 'members' answers -/
def MembersPost (l : List Mk) (k : Nat) (w w' : World) (e : Ending) : Prop :=
  ∃ (nt : Bool) (vf vb : Value), Below w.heap.size w w' ∧ (∃ a1 n1 c1 a2 n2 c2, vf = .slice a1 n1 c1 ∧ vb = .slice a2 n2 c2) ∧
    ((setM (l.drop k) = none ∧ e = .returned (.tuple #[.agg #[.bool false, .bool nt, .bool false, vf, vb], .int .i64 (-1)])) ∨
     ∃ (rng : List (Nat × Nat)) (q : Nat), setM (l.drop k) = some (nt, rng, l.drop q) ∧ k < q ∧ q ≤ l.length ∧ e = .returned (.tuple #[.agg #[.bool false, .bool nt, .bool false, vf, vb], .int .i64 (q : Int)]) ∧ Twin w.heap.size w' vf vb (los rng) (his rng))
def dash : List Mk → Bool
  | [] => false
  | d :: _ => d.is 45
def badR (m : Mk) : List Mk → Bool
  | [] => true
  | e :: _ => e.is 93 || e.is 45 || decide (e.b < m.b)
def caret : List Mk → Bool
  | [] => false
  | d :: _ => d.is 94
theorem set_caret (t : List Mk) : setM t = if caret t then (membersM (t.drop 1) []).map (fun r => (true, r.1, r.2)) else (membersM t []).map (fun r => (false, r.1, r.2)) := by
  match t with
  | [] => simp [setM, caret, membersM]
  | d :: u => simp [setM, caret]
theorem MarksAt.get {w : World} {ad : Option Addr} {n : Nat} {l : List Mk} (h : MarksAt w ad n l) {k : Nat} (hk : k < l.length) : ∃ b off, ad = some ⟨b, off, none⟩ ∧ b < w.heap.size ∧ w.cell? ⟨b, off + k * 2, none⟩ = some (.int .i64 l[k].b) ∧ w.cell? ⟨b, off + k * 2 + 1, none⟩ = some (.bool l[k].p) := by
  have hno : l ≠ [] := fun e => by rw [e] at hk; simp at hk
  obtain ⟨b, off, h1, h2, h3⟩ := h.cells.resolve_left hno
  exact ⟨b, off, h1, h2, (h3 k hk).1, (h3 k hk).2⟩
theorem getM {l : List Mk} {k : Nat} (h : k < l.length) : l.drop k = l[k] :: l.drop (k + 1) := List.drop_eq_getElem_cons h

set_option maxRecDepth 100000 in
set_option maxHeartbeats 8000000 in
theorem members_calls (n c : Nat) (ad : Option Addr) (l : List Mk) (k0 : Nat) (w : World) (hat : MarksAt w ad n l) (hln : l.length ≤ 8192) (hk0 : k0 ≤ l.length) :
    Calls Try.prog 104 #[.slice ad n c, .int .i64 k0] w fun e w' => MembersPost l k0 w w' e := by
  have hn := hat.len
  subst hn
  obtain ⟨i0, hi, hz0, hz1, hz2⟩ := info_parts infoInt
  go_enter Try.func104, Try.ntmps104
  go_upto_region 2 with fail
  have hm0 : MInv w ((w.alloc (.cells #[.bool false, .bool false, .bool false, .slice none 0 0, .slice none 0 0] 127)).alloc (.cells #[.bool false, .bool false, .bool false, .slice none 0 0, .slice none 0 0] 127)) false (.slice none 0 0) (.slice none 0 0) [] [] := by
    refine ⟨?_, ?_, ⟨World.ownsRow_nil _ _ _ _, World.ownsRow_nil _ _ _ _, fun g h => by cases h⟩, ((Below.refl _ _).alloc (Nat.le_refl _) _).alloc (by simp) _, by simp⟩
    · constructor <;> simp [go_sem]
    · constructor <;> simp [go_sem]
  generalize ((w.alloc (.cells #[.bool false, .bool false, .bool false, .slice none 0 0, .slice none 0 0] 127)).alloc (.cells #[.bool false, .bool false, .bool false, .slice none 0 0, .slice none 0 0] 127)) = W at hm0 ⊢
  have hsW := hm0.size
  go_cut [19] (fun t wx => t = .bool (caret (l.drop k0)) ∧ Below W.heap.size W wx)
  case first =>
    by_cases hlt : k0 < l.length
    · have hlt1 : (k0 : Int) < (l.length : Int) := by omega
      obtain ⟨b, off, rfl, hb, d0, d1⟩ := (hat.below hm0.below).get hlt
      have HC : Hid (caret (l.drop k0) = l[k0].is 94) := by show _ = _; rw [getM hlt]; rfl
      generalize l[k0] = m at *
      go_wp2_with fail
      refine (is_calls m 94 _).mono ?_
      rintro e w1 ⟨rfl, b1⟩
      generalize hg : m.is 94 = mm at *
      go_wp2
      go_meet
      exact ⟨by rw [HC.out], b1⟩
    · have hlt1 : ¬ (k0 : Int) < (l.length : Int) := by omega
      have HC : Hid (caret (l.drop k0) = false) := by show _ = _; rw [List.drop_of_length_le (by omega)]; rfl
      go_wp2
      go_meet
      exact ⟨by rw [HC.out], Below.refl _ _⟩
  case rest =>
    obtain ⟨rfl, bc⟩ := hcut
    have hm1 := hm0.keep bc
    clear hm0 bc hsW
    go_upto_if 19 with fail
    go_cut [1] (fun at' wx => ∃ (nt : Bool) (k : Nat), at' = .int .i64 k ∧ k0 ≤ k ∧ k ≤ l.length ∧ MInv w wx nt (.slice none 0 0) (.slice none 0 0) [] [] ∧ Hid (setM (l.drop k0) = (membersM (l.drop k) []).map (fun r => (nt, r.1, r.2))))
    case first =>
      cases hca : caret (l.drop k0)
      · have HS : Hid (setM (l.drop k0) = (membersM (l.drop k0) []).map (fun r => (false, r.1, r.2))) := by show _ = _; rw [set_caret, hca]; rfl
        clear hca
        go_wp2
        go_meet
        exact ⟨false, k0, rfl, Nat.le_refl _, hk0, hm1, HS.out⟩
      · have hlt : k0 < l.length := by
          apply Classical.byContradiction
          intro h
          rw [List.drop_of_length_le (by omega)] at hca
          cases hca
        have HS : Hid (setM (l.drop k0) = (membersM (l.drop (k0 + 1)) []).map (fun r => (true, r.1, r.2))) := by show _ = _; rw [set_caret, hca, if_pos rfl, List.drop_drop]
        obtain ⟨x0, x1, x2, x3, x4, p0, p1, p2, p3, p4⟩ := hm1.box
        have hsz := hm1.size
        clear hca
        go_wp2
        go_meet
        refine ⟨true, k0 + 1, by go_num, by omega, by omega, ⟨?_, hm1.box.set1 true, hm1.twin.set (by simp) _, hm1.below.setCell (by simp) _, by simpa using hsz⟩, HS.out⟩
        exact hm1.res.keep (heap_setCell_other _ _ _ _ (by simp))
    case rest =>
      clear hm1
      obtain ⟨nt, k1, rfl, hk01, hk1, hm1, HS⟩ := hcut
      go_wp2
      go_loopw [1] (fun at' wr => ∃ (k : Nat) (acc : List (Nat × Nat)) (vf vb : Value), at' = .int .i64 k ∧ k1 ≤ k ∧ k ≤ l.length ∧ MInv w wr nt vf vb (los acc) (his acc) ∧ acc.length ≤ k ∧ Hid (membersM (l.drop k1) [] = membersM (l.drop k) acc)) (fun at' _ => l.length - (intOf at').toNat)
      case atStart => exact ⟨k1, [], _, _, rfl, Nat.le_refl _, hk1, hm1, Nat.zero_le _, rfl⟩
      case round =>
        clear hm1
        obtain ⟨k, acc, vf, vb, rfl, hkk, hk, hinv, hak, HM⟩ := hrel
        obtain ⟨af, cf, hvf⟩ := own_form hinv.twin.f
        obtain ⟨ab, cb, hvb⟩ := own_form hinv.twin.k
        have HLF : Hid ((los acc).length = acc.length) := by show _ = _; simp [los]
        have hle1 : (los acc).length ≤ 8192 := by rw [HLF.out]; omega
        have hle2 : (his acc).length ≤ 8192 := by simp [his]; omega
        have hsz := hinv.size
        have hatr := hat.below hinv.below
        generalize hnf : (los acc).length = nf at hvf
        generalize hnb : (his acc).length = nb at hvb
        have HNF : Hid ((los acc).length = nf) := hnf
        clear hnf hnb
        subst hvf hvb
        by_cases hlt : k < l.length
        · have hlt1 : (k : Int) < (l.length : Int) := by omega
          obtain ⟨b, off, rfl, hb, d0, d1⟩ := hatr.get hlt
          obtain ⟨m, hmm⟩ : ∃ m, l[k] = m := ⟨_, rfl⟩
          have HD : Hid (l.drop k = m :: l.drop (k + 1)) := by show _ = _; rw [← hmm]; exact getM hlt
          rw [hmm] at d0 d1
          clear hmm
          go_wp2_with fail
          refine (is_calls m 93 _).mono ?_
          rintro e w1 ⟨rfl, b1⟩
          have hv1 := hinv.keep b1
          have hat1 := hatr.below b1
          have hb1 : b < w1.heap.size := by have := b1.size; omega
          have f0 := (b1.cell (by exact hb)).trans d0
          have f1 := (b1.cell (by exact hb)).trans d1
          clear d0 d1 b1 hinv hatr hb
          cases h93 : m.is 93
          · go_wp2_with fail
            refine (is_calls m 45 _).mono ?_
            rintro e w2 ⟨rfl, b2⟩
            have hv2 := hv1.keep b2
            have hat2 := hat1.below b2
            have hb2 : b < w2.heap.size := by have := b2.size; omega
            have d0 := (b2.cell (by exact hb1)).trans f0
            have d1 := (b2.cell (by exact hb1)).trans f1
            clear f0 f1 b2 hv1 hat1 hb1
            cases h45 : m.is 45
            · go_upto_region 15 with fail
              go_cut [64] (fun t wx => t = .bool (dash (l.drop (k + 1))) ∧ Below w2.heap.size w2 wx)
              case first =>
                by_cases hlt2 : k + 1 < l.length
                · have hlt3 : (k : Int) + 1 < (l.length : Int) := by omega
                  obtain ⟨b', off', hbo, hb', c0, c1⟩ := hat2.get hlt2
                  simp only [Option.some.injEq, Addr.mk.injEq, and_true] at hbo
                  obtain ⟨rfl, rfl⟩ := hbo
                  have HC : Hid (dash (l.drop (k + 1)) = l[k + 1].is 45) := by show _ = _; rw [getM hlt2]; rfl
                  generalize l[k + 1] = d at *
                  go_wp2_with fail
                  refine (is_calls d 45 _).mono ?_
                  rintro e w3' ⟨rfl, b3⟩
                  generalize hg : d.is 45 = dd at *
                  go_wp2
                  go_meet
                  exact ⟨by rw [HC.out], b3⟩
                · have hlt3 : ¬ (k : Int) + 1 < (l.length : Int) := by omega
                  have HC : Hid (dash (l.drop (k + 1)) = false) := by show _ = _; rw [List.drop_of_length_le (by omega)]; rfl
                  go_wp2
                  go_meet
                  exact ⟨by rw [HC.out], Below.refl _ _⟩
              case rest =>
                obtain ⟨rfl, b3⟩ := hcut
                have hv3 := hv2.keep b3
                have hat3' := hat2.below b3
                have hb3 : b < wc.heap.size := by have := b3.size; omega
                clear d0 d1 b3 hv2 hat2 hb2
                cases hda : dash (l.drop (k + 1))
                · have HN : Hid (membersM (l.drop k1) [] = membersM (l.drop (k + 1)) (acc ++ [(m.b, m.b)])) := by
                    show _ = _
                    rw [HM.out, HD.out, mem_one m _ acc h93 h45 (fun d' u e => by rw [e] at hda; exact hda)]
                  clear HM HD h93 h45 hda
                  obtain ⟨x0, x1, x2, x3, x4, p0, p1, p2, p3, p4⟩ := hv3.box
                  have hsv := hv3.size
                  go_wp2_with (first
                    | (at_builtin; refine wpList_append_lies _ rfl (.tmp 103) (.tmp 105) 72 rfl (w.heap.size + 2) 3 i0 (.int .i64 0) 1 8 undInt hi hz0 hz1 hz2 rfl (by decide) _ _ _ rfl (hv3.twin.f.alloc _) ⟨wc.heap.size, 0, none⟩ 1 1 [.int .i64 (m.b : Int)] rfl rfl ?k1 ?k2 (by decide) ?k3 ?k4 ?k5 (wc.heap.size + 1) ?k6 ?_)
                    | go_in)
                  try (case k1 => first | exact fun j u h => h | exact one_new _ _ _)
                  try (case k2 => first | exact intC_one _ | rfl)
                  try (case k3 => first | omega | (unfold maxLen; omega))
                  try (case k4 => omega)
                  try (case k5 => first | omega | (simp; omega))
                  try (case k6 => simp)
                  intro g cap w3 hown3 hgrow hat3 _
                  obtain ⟨hb3, hi3⟩ := hv3.grow0 hown3 hgrow hat3
                  obtain ⟨y0, y1, y2, y3, y4, e0, e1, e2, e3, e4⟩ := hb3
                  have hz3 := hi3.size
                  simp at hz3
                  clear hown3 hgrow hat3 x0 x1 x2 x3 x4 p0 p1 p2 p3 p4
                  go_wp2_with (first
                    | (at_builtin; refine wpList_append_lies _ rfl (.tmp 109) (.tmp 111) 72 rfl (w.heap.size + 2) 3 i0 (.int .i64 0) 1 8 undInt hi hz0 hz1 hz2 rfl (by decide) _ _ _ rfl (hi3.twin.k.alloc _) ⟨w3.heap.size, 0, none⟩ 1 1 [.int .i64 (m.b : Int)] rfl rfl ?k1 ?k2 (by decide) ?k3 ?k4 ?k5 (w3.heap.size + 1) ?k6 ?_)
                    | go_in)
                  try (case k1 => first | exact fun j u h => h | (simpa using one_new (w3.setCell ⟨w.heap.size + 1, 3, none⟩ (.slice (some ⟨g, 0, none⟩) ((los acc).length + 1) cap)) (m.b : Int) _))
                  try (case k2 => first | exact intC_one _ | rfl)
                  try (case k3 => first | omega | (unfold maxLen; omega))
                  try (case k4 => omega)
                  try (case k5 => first | omega | (simp; omega))
                  try (case k6 => simp)
                  intro g' cap' w4 hown4 hgrow4 hat4 _
                  obtain ⟨hb4, hi4⟩ := hi3.grow1 hown4 hgrow4 (by simpa using hat4)
                  obtain ⟨z0, z1, z2, z3, z4, q0, q1, q2, q3, q4⟩ := hb4
                  clear hown4 hgrow4 hat4 y0 y1 y2 y3 y4 e0 e1 e2 e3 e4
                  go_wp2
                  go_roundw
                  case rel => exact ⟨k + 1, acc ++ [(m.b, m.b)], _, _, by go_num, by omega, by omega, by rw [los_snoc, his_snoc]; exact hi4, by simp; omega, HN.out⟩
                  case measure => simp [intOf]; omega
                · have hlt2 : k + 1 < l.length := by
                    apply Classical.byContradiction
                    intro h
                    rw [List.drop_of_length_le (by omega)] at hda
                    cases hda
                  obtain ⟨d, hdd⟩ : ∃ d, l[k + 1] = d := ⟨_, rfl⟩
                  have HD2 : Hid (l.drop (k + 1) = d :: l.drop (k + 2)) := by show _ = _; rw [← hdd]; exact getM hlt2
                  have hd45 : d.is 45 = true := by rw [HD2.out] at hda; exact hda
                  clear hda hdd
                  go_upto_region 17 with fail
                  go_cut [93] (fun t wx => t = .bool (badR m (l.drop (k + 2))) ∧ Below wc.heap.size wc wx)
                  case first =>
                    by_cases hlt4 : k + 2 < l.length
                    · have hlt5 : ¬ (l.length : Int) ≤ (k : Int) + 2 := by omega
                      have hlt6 : (k : Int) + 2 < (l.length : Int) := by omega
                      obtain ⟨b', off', hbo, hb', c0, c1⟩ := hat3'.get hlt4
                      simp only [Option.some.injEq, Addr.mk.injEq, and_true] at hbo
                      obtain ⟨rfl, rfl⟩ := hbo
                      have HC : Hid (badR m (l.drop (k + 2)) = (l[k + 2].is 93 || l[k + 2].is 45 || decide (l[k + 2].b < m.b))) := by show _ = _; rw [getM hlt4]; rfl
                      generalize l[k + 2] = ee at *
                      go_wp2_with fail
                      refine (is_calls ee 93 _).mono ?_
                      rintro e w4 ⟨rfl, b4⟩
                      have hb4 := b4.size
                      have g0 := (b4.cell (by exact hb3)).trans c0
                      have g1 := (b4.cell (by exact hb3)).trans c1
                      cases h1 : ee.is 93
                      · go_wp2_with fail
                        refine (is_calls ee 45 _).mono ?_
                        rintro e w5 ⟨rfl, b5⟩
                        have g2 := (b5.cell (by simp only; omega)).trans g0
                        have hb5 := b5.size
                        have B5 := b4.trans (b5.mono b4.size)
                        cases h2 : ee.is 45
                        · have HC2 : Hid (badR m (l.drop (k + 2)) = decide (ee.b < m.b)) := by show _ = _; rw [HC.out, h1, h2, Bool.false_or, Bool.false_or]
                          have HE : Hid (decide ((l.length : Int) ≤ (k : Int) + 1 + 1) = false) := decide_eq_false (by omega)
                          clear HC h1 h2
                          go_wp2
                          go_meet
                          exact ⟨by rw [HC2.out]; first | rfl | rw [HE.out, Bool.false_or], B5⟩
                        · have HC2 : Hid (badR m (l.drop (k + 2)) = true) := by show _ = _; rw [HC.out, h1, h2]; rfl
                          clear HC h1 h2
                          go_wp2
                          go_meet
                          exact ⟨by rw [HC2.out], B5⟩
                      · have HC2 : Hid (badR m (l.drop (k + 2)) = true) := by show _ = _; rw [HC.out, h1]; rfl
                        clear HC h1
                        go_wp2
                        go_meet
                        exact ⟨by rw [HC2.out], b4⟩
                    · have hlt5 : (l.length : Int) ≤ (k : Int) + 2 := by omega
                      have HC : Hid (badR m (l.drop (k + 2)) = true) := by show _ = _; rw [List.drop_of_length_le (by omega)]; rfl
                      go_wp2
                      go_meet
                      exact ⟨by rw [HC.out], Below.refl _ _⟩
                  case rest =>
                    obtain ⟨rfl, b4⟩ := hcut
                    have hv4 := hv3.keep b4
                    have hat4' := hat3'.below b4
                    have hb4 := b4.size
                    clear b4 hv3 hat3'
                    cases hba : badR m (l.drop (k + 2))
                    · have hlt4 : k + 2 < l.length := by
                        apply Classical.byContradiction
                        intro h
                        rw [List.drop_of_length_le (by omega)] at hba
                        cases hba
                      have hlt6 : (k : Int) + 1 + 1 < (l.length : Int) := by omega
                      obtain ⟨b', off', hbo, hb', c0, c1⟩ := hat4'.get hlt4
                      simp only [Option.some.injEq, Addr.mk.injEq, and_true] at hbo
                      obtain ⟨rfl, rfl⟩ := hbo
                      obtain ⟨ee, hee⟩ : ∃ ee, l[k + 2] = ee := ⟨_, rfl⟩
                      have HD3 : Hid (l.drop (k + 2) = ee :: l.drop (k + 3)) := by show _ = _; rw [← hee]; exact getM hlt4
                      rw [hee] at c0 c1
                      have HN : Hid (membersM (l.drop k1) [] = membersM (l.drop (k + 3)) (acc ++ [(m.b, ee.b)])) := by
                        show _ = _
                        rw [HD3.out] at hba
                        rw [HM.out, HD.out, HD2.out, HD3.out, mem_range m d ee _ acc h93 h45 hd45, if_neg (by intro h; rw [show badR m (ee :: l.drop (k + 3)) = (ee.is 93 || ee.is 45 || decide (ee.b < m.b)) from rfl, h] at hba; cases hba)]
                      clear HM HD HD2 HD3 h93 h45 hd45 hba hee
                      obtain ⟨x0, x1, x2, x3, x4, p0, p1, p2, p3, p4⟩ := hv4.box
                      have hsv := hv4.size
                      go_wp2_with (first
                        | (at_builtin; refine wpList_append_lies _ rfl (.tmp 103) (.tmp 105) 72 rfl (w.heap.size + 2) 3 i0 (.int .i64 0) 1 8 undInt hi hz0 hz1 hz2 rfl (by decide) _ _ _ rfl (hv4.twin.f.alloc _) ⟨wc.heap.size, 0, none⟩ 1 1 [.int .i64 (m.b : Int)] rfl rfl ?k1 ?k2 (by decide) ?k3 ?k4 ?k5 (wc.heap.size + 1) ?k6 ?_)
                        | go_in)
                      try (case k1 => first | exact fun j u h => h | exact one_new _ _ _)
                      try (case k2 => first | exact intC_one _ | rfl)
                      try (case k3 => first | omega | (unfold maxLen; omega))
                      try (case k4 => omega)
                      try (case k5 => first | omega | (simp; omega))
                      try (case k6 => simp)
                      intro g cap w3 hown3 hgrow hat3 _
                      obtain ⟨hb3, hi3⟩ := hv4.grow0 hown3 hgrow hat3
                      obtain ⟨y0, y1, y2, y3, y4, e0, e1, e2, e3, e4⟩ := hb3
                      have hz3 := hi3.size
                      simp at hz3
                      clear hown3 hgrow hat3 x0 x1 x2 x3 x4 p0 p1 p2 p3 p4
                      go_wp2_with (first
                        | (at_builtin; refine wpList_append_lies _ rfl (.tmp 109) (.tmp 111) 72 rfl (w.heap.size + 2) 3 i0 (.int .i64 0) 1 8 undInt hi hz0 hz1 hz2 rfl (by decide) _ _ _ rfl (hi3.twin.k.alloc _) ⟨w3.heap.size, 0, none⟩ 1 1 [.int .i64 (ee.b : Int)] rfl rfl ?k1 ?k2 (by decide) ?k3 ?k4 ?k5 (w3.heap.size + 1) ?k6 ?_)
                        | go_in)
                      try (case k1 => first | exact fun j u h => h | (simpa using one_new (w3.setCell ⟨w.heap.size + 1, 3, none⟩ (.slice (some ⟨g, 0, none⟩) ((los acc).length + 1) cap)) (ee.b : Int) _))
                      try (case k2 => first | exact intC_one _ | rfl)
                      try (case k3 => first | omega | (unfold maxLen; omega))
                      try (case k4 => omega)
                      try (case k5 => first | omega | (simp; omega))
                      try (case k6 => simp)
                      intro g' cap' w4 hown4 hgrow4 hat4 _
                      obtain ⟨hb4, hi4⟩ := hi3.grow1 hown4 hgrow4 (by simpa using hat4)
                      obtain ⟨z0, z1, z2, z3, z4, q0, q1, q2, q3, q4⟩ := hb4
                      clear hown4 hgrow4 hat4 y0 y1 y2 y3 y4 e0 e1 e2 e3 e4
                      go_wp2
                      go_roundw
                      case rel => exact ⟨k + 3, acc ++ [(m.b, ee.b)], _, _, by go_num, by omega, by omega, by rw [los_snoc, his_snoc]; exact hi4, by simp; omega, HN.out⟩
                      case measure => simp [intOf]; omega
                    · have HF : Hid (setM (l.drop k0) = none) := by
                        show _ = _
                        rw [HS.out, HM.out, HD.out, HD2.out]
                        match hl3 : l.drop (k + 2) with
                        | [] => rw [mem_range0 m d acc h93 h45 hd45]; rfl
                        | ee :: v =>
                          rw [hl3] at hba
                          rw [mem_range m d ee v acc h93 h45 hd45, if_pos (show (ee.is 93 || ee.is 45 || decide (ee.b < m.b)) = true from hba)]; rfl
                      clear HM HS HD HD2 h93 h45 hd45 hba
                      obtain ⟨x0, x1, x2, x3, x4, p0, p1, p2, p3, p4⟩ := hv4.box
                      obtain ⟨r0, r1, r2, r3, r4, o0, o1, o2, o3, o4⟩ := hv4.res
                      go_wp2
                      refine bodyPost_ret (v := .tuple #[.agg #[.bool false, .bool nt, .bool false, .slice af nf cf, .slice ab nb cb], .int .i64 (-1)]) (by simp [results, Try.results104, go_sem, r0, r1, r2, r3, r4]) rfl ⟨nt, .slice af nf cf, .slice ab nb cb, hv4.fin.2, ⟨_, _, _, _, _, _, rfl, rfl⟩, .inl ⟨HF.out, rfl⟩⟩
            · have HF : Hid (setM (l.drop k0) = none) := by
                show _ = _
                rw [HS.out, HM.out, HD.out, mem_dash m _ acc h93 h45]; rfl
              clear HM HS HD h93 h45 d0 d1
              obtain ⟨x0, x1, x2, x3, x4, p0, p1, p2, p3, p4⟩ := hv2.box
              obtain ⟨r0, r1, r2, r3, r4, o0, o1, o2, o3, o4⟩ := hv2.res
              go_wp2
              refine bodyPost_ret (v := .tuple #[.agg #[.bool false, .bool nt, .bool false, .slice af nf cf, .slice ab nb cb], .int .i64 (-1)]) (by simp [results, Try.results104, go_sem, r0, r1, r2, r3, r4]) rfl ⟨nt, .slice af nf cf, .slice ab nb cb, hv2.fin.2, ⟨_, _, _, _, _, _, rfl, rfl⟩, .inl ⟨HF.out, rfl⟩⟩
          · by_cases hacc : acc = []
            · have HF : Hid (setM (l.drop k0) = none) := by
                show _ = _
                rw [HS.out, HM.out, HD.out, mem_close m _ acc h93, if_pos hacc]; rfl
              have hnf0 : ((nf : Int) == 0) = true := by rw [← HNF.out, HLF.out, hacc]; rfl
              clear HM HS HD h93 f0 f1
              obtain ⟨x0, x1, x2, x3, x4, p0, p1, p2, p3, p4⟩ := hv1.box
              obtain ⟨r0, r1, r2, r3, r4, o0, o1, o2, o3, o4⟩ := hv1.res
              go_wp2
              refine bodyPost_ret (v := .tuple #[.agg #[.bool false, .bool nt, .bool false, .slice af nf cf, .slice ab nb cb], .int .i64 (-1)]) (by simp [results, Try.results104, go_sem, r0, r1, r2, r3, r4]) rfl ⟨nt, .slice af nf cf, .slice ab nb cb, hv1.fin.2, ⟨_, _, _, _, _, _, rfl, rfl⟩, .inl ⟨HF.out, rfl⟩⟩
            · have HF : Hid (setM (l.drop k0) = some (nt, acc, l.drop (k + 1))) := by
                show _ = _
                rw [HS.out, HM.out, HD.out, mem_close m _ acc h93, if_neg hacc]; rfl
              have hpos := List.length_pos_iff.2 hacc
              have hnf0 : ((nf : Int) == 0) = false := by have e1 := HNF.out; have e2 := HLF.out; simp; omega
              clear HM HS HD h93 f0 f1 hacc
              obtain ⟨x0, x1, x2, x3, x4, p0, p1, p2, p3, p4⟩ := hv1.box
              obtain ⟨r0, r1, r2, r3, r4, o0, o1, o2, o3, o4⟩ := hv1.res
              go_wp2
              refine bodyPost_ret (v := .tuple #[.agg #[.bool false, .bool nt, .bool false, .slice af nf cf, .slice ab nb cb], .int .i64 ((k : Int) + 1)]) (by simp [results, Try.results104, go_sem, r0, r1, r2, r3, r4]) rfl ⟨nt, .slice af nf cf, .slice ab nb cb, hv1.fin.2, ⟨_, _, _, _, _, _, rfl, rfl⟩, .inr ⟨acc, k + 1, HF.out, by omega, by omega, by rfl, hv1.fin.1⟩⟩
        · have hlt1 : ¬ (k : Int) < (l.length : Int) := by omega
          have HF : Hid (setM (l.drop k0) = none) := by
            show _ = _
            rw [HS.out, HM.out, List.drop_of_length_le (by omega)]; rfl
          clear HM HS
          obtain ⟨x0, x1, x2, x3, x4, p0, p1, p2, p3, p4⟩ := hinv.box
          obtain ⟨r0, r1, r2, r3, r4, o0, o1, o2, o3, o4⟩ := hinv.res
          go_wp2
          refine bodyPost_ret (v := .tuple #[.agg #[.bool false, .bool nt, .bool false, .slice af nf cf, .slice ab nb cb], .int .i64 (-1)]) (by simp [results, Try.results104, go_sem, r0, r1, r2, r3, r4]) rfl ⟨nt, .slice af nf cf, .slice ab nb cb, hinv.fin.2, ⟨_, _, _, _, _, _, rfl, rfl⟩, .inl ⟨HF.out, rfl⟩⟩
end Go.Proofs.Ytlppphmnegdhoaa
