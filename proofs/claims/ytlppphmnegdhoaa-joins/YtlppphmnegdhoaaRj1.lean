/-
  The document's answer: Join.
-/
import Derived.Test.YtlppphmnegdhoaaRq1
import Derived.Test.YtlppphmnegdhoaaJo2
import Derived.Deep.RegionHeld3
namespace Go.Proofs.Ytlppphmnegdhoaa
set_option linter.unusedVariables false
open Go.RowKit
open M

theorem Twin.below {B : Nat} {w w' : World} {vf vb : Value} {F K : List Int} (h : Twin B w vf vb F K) (hb : Below w.heap.size w w') : Twin B w' vf vb F K := ⟨ownsRow_below h.f hb, ownsRow_below h.k hb, h.ap⟩
theorem Twin.drew {B : Nat} {w : World} {vf vb : Value} {F K : List Int} (h : Twin B w vf vb F K) : Twin B w.drew vf vb F K := ⟨h.f, h.k, h.ap⟩
/-- the box of a journal -/
structure JB (d : Nat) (w : World) (x0 x1 x2 x3 : Int) (v : Value) : Prop where
  j0 : w.cell? ⟨d, 0, none⟩ = some (.int .i64 x0)
  j1 : w.cell? ⟨d, 1, none⟩ = some (.int .i64 x1)
  j2 : w.cell? ⟨d, 2, none⟩ = some (.int .i64 x2)
  j3 : w.cell? ⟨d, 3, none⟩ = some (.int .i64 x3)
  j4 : w.cell? ⟨d, 4, none⟩ = some v
  lt : d < w.heap.size
theorem JB.keep {d B : Nat} {w w' : World} {x0 x1 x2 x3 : Int} {v : Value} (h : JB d w x0 x1 x2 x3 v) (hb : Below B w w') (hd : d < B) : JB d w' x0 x1 x2 x3 v :=
  ⟨(hb.cell (by exact hd)).trans h.j0, (hb.cell (by exact hd)).trans h.j1, (hb.cell (by exact hd)).trans h.j2, (hb.cell (by exact hd)).trans h.j3, (hb.cell (by exact hd)).trans h.j4, by have := hb.size; have := h.lt; omega⟩
theorem JB.alloc {d : Nat} {w : World} {x0 x1 x2 x3 : Int} {v : Value} (h : JB d w x0 x1 x2 x3 v) (o : Obj) : JB d (w.alloc o) x0 x1 x2 x3 v :=
  h.keep ((Below.refl w.heap.size w).alloc (Nat.le_refl _) o) h.lt
theorem JB.new (w : World) (x0 x1 x2 x3 : Int) (v : Value) (t : TypeId) : JB w.heap.size (w.alloc (.cells #[.int .i64 x0, .int .i64 x1, .int .i64 x2, .int .i64 x3, v] t)) x0 x1 x2 x3 v := by
  constructor <;> simp

set_option maxRecDepth 100000 in
set_option maxHeartbeats 8000000 in
theorem djoin_calls (s t : ByteArray) (w : World) (hsm : s.size ≤ maxLen) (htm : t.size ≤ maxLen) :
    Calls Try.prog 35 #[.string s, .string t] w fun e w' => (∃ (u : ByteArray) (x : Int), e = .returned (.tuple #[.string u, .int .i64 x]) ∧ JoinSpec s t u.data.toList x) ∧ Below w.heap.size w w' := by
  unfold maxLen at hsm htm
  by_cases h1 : 12352 < s.size
  · have h11 : (12352 : Int) < (s.size : Int) := by omega
    go_enter Try.func35, Try.ntmps35
    go_wp2
    go_ret2
    exact ⟨⟨⟨#[]⟩, 1, rfl, .inl ⟨.inl h1, rfl, rfl⟩⟩, Below.refl _ _⟩
  have h11 : ¬ (12352 : Int) < (s.size : Int) := by omega
  by_cases h2 : 12352 < t.size
  · have h21 : (12352 : Int) < (t.size : Int) := by omega
    go_enter Try.func35, Try.ntmps35
    go_wp2
    go_ret2
    exact ⟨⟨⟨#[]⟩, 1, rfl, .inl ⟨.inr h2, rfl, rfl⟩⟩, Below.refl _ _⟩
  have h21 : ¬ (12352 : Int) < (t.size : Int) := by omega
  have hst : s.size ≤ 12352 ∧ t.size ≤ 12352 := by omega
  go_enter Try.func35, Try.ntmps35
  go_wp2_with fail
  refine (parsed_calls s _ hst.1).mono ?_
  rintro e w1 ⟨hb, ⟨x0, x1, x2, x3, ax, nx, cx, rfl, hno⟩ | ⟨⟨la, lb, sa, sb, l⟩, a, c, rfl, ht, hown⟩⟩
  · have HS : Hid (JoinSpec s t [] 8) := .inr ⟨hst, .inl ⟨.inl hno, rfl, rfl⟩⟩
    clear hno
    go_wp2_with fail
    refine (parsed_calls t _ hst.2).mono ?_
    have hbs := hb.size
    rintro e w2 ⟨hb2, ⟨y0, y1, y2, y3, ay, ny, cy, rfl, hno⟩ | ⟨⟨la', lb', sa', sb', l'⟩, a', c', rfl, ht', hown'⟩⟩
    · clear hno
      go_wp2
      go_ret2
      exact ⟨⟨⟨#[]⟩, 8, rfl, HS.out⟩, ((hb.alloc hb.size _).trans (hb2.mono (by simp; omega))).alloc (by have := hb2.size; simp at this; omega) _⟩
    · clear ht' hown'
      go_wp2
      go_ret2
      exact ⟨⟨⟨#[]⟩, 8, rfl, HS.out⟩, ((hb.alloc hb.size _).trans (hb2.mono (by simp; omega))).alloc (by have := hb2.size; simp at this; omega) _⟩
  · have HT : Hid (Tells s.data.toList ⟨la, lb, sa, sb, l⟩) := ht
    simp only at hown
    clear ht
    go_wp2_with fail
    refine (parsed_calls t _ hst.2).mono ?_
    have hbs := hb.size
    rintro e w2 ⟨hb2, ⟨y0, y1, y2, y3, ay, ny, cy, rfl, hno⟩ | ⟨⟨la', lb', sa', sb', l'⟩, a', c', rfl, ht', hown'⟩⟩
    · have HS : Hid (JoinSpec s t [] 8) := .inr ⟨hst, .inl ⟨.inr hno, rfl, rfl⟩⟩
      clear hno
      go_wp2
      go_ret2
      exact ⟨⟨⟨#[]⟩, 8, rfl, HS.out⟩, ((hb.alloc hb.size _).trans (hb2.mono (by simp; omega))).alloc (by have := hb2.size; simp at this; omega) _⟩
    · have HT2 : Hid (Tells t.data.toList ⟨la', lb', sa', sb', l'⟩) := ht'
      simp only at hown'
      clear ht'
      have hs2 := hb2.size
      simp at hs2
      have B2 : Below w.heap.size w w2 := (hb.alloc hb.size _).trans (hb2.mono (by simp; omega))
      have JB1 := (JB.new w1 la lb sa sb (.slice a l.length c) 66).keep hb2 (by simp)
      have own1 := ownsRow_below (hown.alloc _) hb2
      clear hown hb hb2
      obtain ⟨j0, j1, j2, j3, j4, hd1⟩ := JB1
      by_cases hl : lb = la'
      · by_cases hq : sb = sa'
        · have hl1 : ((lb : Int) != (la' : Int)) = false := by simp [hl]
          have hq1 : ((sb : Int) != (sa' : Int)) = false := by simp [hq]
          have HS : Hid (JoinSpec s t (writE ⟨la, lb', sa, sb', joinN (expL l) (expL l')⟩) 0) := .inr ⟨hst, .inr ⟨_, _, HT.out, HT2.out, .inr ⟨⟨hl, hq⟩, rfl, rfl⟩⟩⟩
          obtain ⟨vok, va, vb', vla, vlb, vsa, vsb⟩ := HT.out.1
          obtain ⟨uok, ua, ub', ula, ulb, usa, usb⟩ := HT2.out.1
          simp only at vok va vb' vla vlb vsa vsb uok ua ub' ula ulb usa usb
          have hcnt := count_le l vok
          have hcnt' := count_le l' uok
          have hex := expL_len l vok
          have hex' := expL_len l' uok
          have hjn : evB (expL l) = evA (expL l') := by omega
          have hjl := j_len _ _ hjn
          have hnl := norm_len (joinE (expL l) (expL l'))
          have hno := norm_ok (joinE (expL l) (expL l'))
          have HL : Hid (lb = la' ∧ sb = sa') := ⟨hl, hq⟩
          clear hl hq HT HT2
          go_wp2_with fail
          refine (spread_calls _ _ _ l _ (recsAt_own (own1.alloc _)) vok (by omega) (by omega) (by omega)).mono ?_
          rintro e w3 ⟨vf, vb, rfl, tw, b3⟩
          have K1 := ((JB.mk j0 j1 j2 j3 j4 hd1).alloc (.cells #[.int .i64 la', .int .i64 lb', .int .i64 sa', .int .i64 sb', .slice a' l'.length c'] 66)).keep b3 (by simp; omega)
          have K2 := (JB.new w2 la' lb' sa' sb' (.slice a' l'.length c') 66).keep b3 (by simp)
          have own2 := ownsRow_below (hown'.alloc (.cells #[.int .i64 la', .int .i64 lb', .int .i64 sa', .int .i64 sb', .slice a' l'.length c'] 66)) b3
          have hs3 := b3.size
          simp at hs3
          have B3 : Below w.heap.size w w3 := (B2.alloc (by omega) _).trans (b3.mono (by simp; omega))
          clear j0 j1 j2 j3 j4 hd1 own1 hown' b3 B2
          obtain ⟨af, cf, hvf⟩ := own_form tw.f
          obtain ⟨ab, cb, hvb⟩ := own_form tw.k
          generalize hnf : (evF 0 (expL l)).length = nf at hvf
          generalize hnk : (evK (expL l)).length = nk at hvb
          clear hnf hnk
          subst hvf hvb
          obtain ⟨j0, j1, j2, j3, j4, hd1⟩ := K1
          obtain ⟨k0, k1, k2, k3, k4, hd2⟩ := K2
          go_wp2_with fail
          refine (spread_calls _ _ _ l' _ (recsAt_own (own2.alloc _)) uok (by omega) (by omega) (by omega)).mono ?_
          rintro e w4 ⟨yf, yb, rfl, ty, b4⟩
          have K1 := ((JB.mk j0 j1 j2 j3 j4 hd1).alloc (.cells #[.slice af nf cf, .slice ab nk cb] 74)).keep b4 (by simp; omega)
          have K2 := ((JB.mk k0 k1 k2 k3 k4 hd2).alloc (.cells #[.slice af nf cf, .slice ab nk cb] 74)).keep b4 (by simp; omega)
          have p0 : w4.cell? ⟨w3.heap.size, 0, none⟩ = some (.slice af nf cf) := (b4.cell (by simp)).trans (by simp)
          have p1 : w4.cell? ⟨w3.heap.size, 1, none⟩ = some (.slice ab nk cb) := (b4.cell (by simp)).trans (by simp)
          have tx := (tw.alloc (.cells #[.slice af nf cf, .slice ab nk cb] 74)).below b4
          have hs4 := b4.size
          simp at hs4
          have B4 : Below w.heap.size w w4 := (B3.alloc (by omega) _).trans (b4.mono (by simp; omega))
          clear j0 j1 j2 j3 j4 hd1 k0 k1 k2 k3 k4 hd2 own2 b4 B3 tw
          obtain ⟨ayf, cyf, hvf⟩ := own_form ty.f
          obtain ⟨ayb, cyb, hvb⟩ := own_form ty.k
          generalize hnf : (evF 0 (expL l')).length = nyf at hvf
          generalize hnk : (evK (expL l')).length = nyk at hvb
          clear hnf hnk
          subst hvf hvb
          obtain ⟨j0, j1, j2, j3, j4, hd1⟩ := K1
          obtain ⟨k0, k1, k2, k3, k4, hd2⟩ := K2
          have hd3 : w3.heap.size < w4.heap.size := by omega
          go_wp2_with fail
          refine (joined_calls _ _ _ _ _ _ (expL l) (expL l') _ (tx.alloc _) (ty.alloc _) hjn (by omega) (by omega) (by omega)).mono ?_
          rintro e w5 ⟨zf, zb, rfl, tz, b5⟩
          have K1 := ((JB.mk j0 j1 j2 j3 j4 hd1).alloc (.cells #[.slice ayf nyf cyf, .slice ayb nyk cyb] 74)).keep b5 (by simp; omega)
          have K2 := ((JB.mk k0 k1 k2 k3 k4 hd2).alloc (.cells #[.slice ayf nyf cyf, .slice ayb nyk cyb] 74)).keep b5 (by simp; omega)
          have hs5 := b5.size
          simp at hs5
          have B5 : Below w.heap.size w w5 := (B4.alloc (by omega) _).trans (b5.mono (by simp; omega))
          clear j0 j1 j2 j3 j4 hd1 k0 k1 k2 k3 k4 hd2 p0 p1 b5 B4 tx ty
          obtain ⟨azf, czf, hvf⟩ := own_form tz.f
          obtain ⟨azb, czb, hvb⟩ := own_form tz.k
          generalize hnf : (evF 0 (joinE (expL l) (expL l'))).length = nzf at hvf
          generalize hnk : (evK (joinE (expL l) (expL l'))).length = nzk at hvb
          clear hnf hnk
          subst hvf hvb
          obtain ⟨j0, j1, j2, j3, j4, hd1⟩ := K1
          obtain ⟨k0, k1, k2, k3, k4, hd2⟩ := K2
          have hw5 : w1.heap.size < w5.heap.size := by omega
          have HTZ : Hid (Twin (w4.heap.size + 1) w5 (.slice azf nzf czf) (.slice azb nzk czb) (evF 0 (joinE (expL l) (expL l'))) (evK (joinE (expL l) (expL l')))) := by
            show Twin _ _ _ _ _ _
            simpa using tz
          clear tz
          have HJN : Hid (joinN (expL l) (expL l') = norm (joinE (expL l) (expL l'))) := rfl
          go_wp2_with fail
          go_region_held3 (fun w' => w'.cell? ⟨w1.heap.size, 0, none⟩ = some (.int .i64 la) ∧ w'.cell? ⟨w2.heap.size, 1, none⟩ = some (.int .i64 lb') ∧ w'.cell? ⟨w1.heap.size, 2, none⟩ = some (.int .i64 sa) ∧ w'.cell? ⟨w2.heap.size, 3, none⟩ = some (.int .i64 sb') ∧ w'.cell? ⟨w5.heap.size, 0, none⟩ = some (.slice azf nzf czf) ∧ w'.cell? ⟨w5.heap.size, 1, none⟩ = some (.slice azb nzk czb) ∧ w5.heap.size < w'.heap.size)
            (first
              | go_keep
              | (go_split_ands
                 refine ⟨?_, ?_, ?_, ?_, ?_, ?_, ?_⟩
                 · (rw [hb1.cell (by first | omega | (simp; done) | (simp; omega))]; assumption)
                 · (rw [hb1.cell (by first | omega | (simp; done) | (simp; omega))]; assumption)
                 · (rw [hb1.cell (by first | omega | (simp; done) | (simp; omega))]; assumption)
                 · (rw [hb1.cell (by first | omega | (simp; done) | (simp; omega))]; assumption)
                 · (rw [hb1.cell (by first | omega | (simp; done) | (simp; omega))]; assumption)
                 · (rw [hb1.cell (by first | omega | (simp; done) | (simp; omega))]; assumption)
                 · (first | (have := hb1.size; omega) | (have := hb1.size; simp at this; omega))))
            (first
              | (go_at_call 61; refine (short_calls (w4.heap.size + 1) _ _ (joinE (expL l) (expL l')) _ (HTZ.out.alloc _).drew (by omega) (by omega)).mono ?_; rintro e w6 ⟨v6, rfl, own6, hb1⟩; have g1 := hb1; obtain ⟨a6, c6, hv6⟩ := own_form own6; subst hv6)
              | (go_at_call 53; refine (written_calls la lb' sa sb' _ _ _ (norm (joinE (expL l) (expL l'))) _ vla ulb vsa usb (recsAt_own own6) hno (by omega) (by omega)).mono ?_; rintro e w7 ⟨⟨t7, rfl, ht7⟩, hb1⟩; have g2 := hb1))
          have z1 := g1.size
          have z2 := g2.size
          simp at z1
          have HT : Hid (JoinSpec s t t7.data.toList 0) := by show JoinSpec _ _ _ _; rw [ht7, ← HJN.out]; exact HS.out
          have BB : Below w.heap.size w w7 := ((B5.alloc (by omega) _).drew.trans (g1.mono (by simp; omega))).trans (g2.mono (by omega))
          go_wp2
          go_ret2
          exact ⟨⟨t7, 0, rfl, HT.out⟩, BB⟩
        · have HS : Hid (JoinSpec s t [] 9) := .inr ⟨hst, .inr ⟨_, _, HT.out, HT2.out, .inl ⟨.inr hq, rfl, rfl⟩⟩⟩
          have hl1 : ((lb : Int) != (la' : Int)) = false := by simp [hl]
          have hq1 : ((sb : Int) != (sa' : Int)) = true := by simp; omega
          clear hl
          go_wp2
          go_ret2
          exact ⟨⟨⟨#[]⟩, 9, rfl, HS.out⟩, B2.alloc (by omega) _⟩
      · have HS : Hid (JoinSpec s t [] 9) := .inr ⟨hst, .inr ⟨_, _, HT.out, HT2.out, .inl ⟨.inl hl, rfl, rfl⟩⟩⟩
        have hl1 : ((lb : Int) != (la' : Int)) = true := by simp; omega
        go_wp2
        go_ret2
        exact ⟨⟨⟨#[]⟩, 9, rfl, HS.out⟩, B2.alloc (by omega) _⟩
end Go.Proofs.Ytlppphmnegdhoaa
