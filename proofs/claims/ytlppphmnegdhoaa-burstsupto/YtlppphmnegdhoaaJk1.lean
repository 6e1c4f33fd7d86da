/-
  The program's Join.
-/
import Derived.Test.YtlppphmnegdhoaaJn2
import Derived.Test.YtlppphmnegdhoaaSpc
import Derived.Test.YtlppphmnegdhoaaPk1
namespace Go.Proofs.Ytlppphmnegdhoaa
set_option linter.unusedVariables false
open Go.RowKit
open M

theorem joinSpec_same {s t : ByteArray} {u u' : List UInt8} {e e' : Int} (h : JoinSpec s t u e) (g : JoinSpec s t u' e') : u = u' ∧ e = e' := by
  rcases h with ⟨h1, rfl, rfl⟩ | ⟨h1, ⟨h2, rfl, rfl⟩ | ⟨j, k, h2, h3, h4⟩⟩ <;> rcases g with ⟨g1, rfl, rfl⟩ | ⟨g1, ⟨g2, rfl, rfl⟩ | ⟨j', k', g2, g3, g4⟩⟩
  · exact ⟨rfl, rfl⟩
  · omega
  · omega
  · omega
  · exact ⟨rfl, rfl⟩
  · rcases h2 with h2 | h2
    · exact (h2 _ g2).elim
    · exact (h2 _ g3).elim
  · omega
  · rcases g2 with g2 | g2
    · exact (g2 _ h2).elim
    · exact (g2 _ h3).elim
  · obtain rfl := tells_same h2 g2
    obtain rfl := tells_same h3 g3
    rcases h4 with ⟨h4, rfl, rfl⟩ | ⟨h4, rfl, rfl⟩ <;> rcases g4 with ⟨g4, rfl, rfl⟩ | ⟨g4, rfl, rfl⟩
    · exact ⟨rfl, rfl⟩
    · omega
    · omega
    · exact ⟨rfl, rfl⟩

set_option maxRecDepth 100000 in
set_option maxHeartbeats 8000000 in
theorem rjoin_calls (s t : ByteArray) (w : World) (hsm : s.size ≤ maxLen) (htm : t.size ≤ maxLen) :
    Calls Try.prog 34 #[.string s, .string t] w fun e w' => (∃ (u : ByteArray) (x : Int), e = .returned (.tuple #[.string u, .int .i64 x]) ∧ JoinSpec s t u.data.toList x) ∧ Below w.heap.size w w' := by
  unfold maxLen at hsm htm
  by_cases h1 : 12352 < s.size
  · have h11 : (12352 : Int) < (s.size : Int) := by omega
    go_enter Try.func34, Try.ntmps34
    go_wp2
    go_ret2
    exact ⟨⟨⟨#[]⟩, 1, rfl, .inl ⟨.inl h1, rfl, rfl⟩⟩, Below.refl _ _⟩
  have h11 : ¬ (12352 : Int) < (s.size : Int) := by omega
  by_cases h2 : 12352 < t.size
  · have h21 : (12352 : Int) < (t.size : Int) := by omega
    go_enter Try.func34, Try.ntmps34
    go_wp2
    go_ret2
    exact ⟨⟨⟨#[]⟩, 1, rfl, .inl ⟨.inr h2, rfl, rfl⟩⟩, Below.refl _ _⟩
  have h21 : ¬ (12352 : Int) < (t.size : Int) := by omega
  have hst : s.size ≤ 12352 ∧ t.size ≤ 12352 := by omega
  go_enter Try.func34, Try.ntmps34
  go_wp2_with fail
  refine (read_calls s _ (by omega)).mono ?_
  rintro e w1 (⟨rfl, hno, hb⟩ | ⟨⟨la, lb, sa, sb, l⟩, v, rfl, ht, hown, hb⟩)
  · have HS : Hid (JoinSpec s t [] 8) := .inr ⟨hst, .inl ⟨.inl hno, rfl, rfl⟩⟩
    clear hno
    unfold noJn
    go_wp2
    go_ret2
    exact ⟨⟨⟨#[]⟩, 8, rfl, HS.out⟩, hb.alloc hb.size _⟩
  · have HT : Hid (Tells s.data.toList ⟨la, lb, sa, sb, l⟩) := ht
    obtain ⟨a, c, rfl⟩ := own_form hown
    simp only at hown
    clear ht
    have hbs := hb.size
    go_wp2_with fail
    refine (read_calls t _ (by omega)).mono ?_
    rintro e w2 (⟨rfl, hno, hb2⟩ | ⟨⟨la', lb', sa', sb', l'⟩, v', rfl, ht', hown', hb2⟩)
    · have HS : Hid (JoinSpec s t [] 8) := .inr ⟨hst, .inl ⟨.inr hno, rfl, rfl⟩⟩
      clear hno
      unfold noJn
      go_wp2
      go_ret2
      exact ⟨⟨⟨#[]⟩, 8, rfl, HS.out⟩, ((hb.alloc hb.size _).trans (hb2.mono (by simp; omega))).alloc (by have := hb2.size; simp at this; omega) _⟩
    · have HT2 : Hid (Tells t.data.toList ⟨la', lb', sa', sb', l'⟩) := ht'
      obtain ⟨a', c', rfl⟩ := own_form hown'
      simp only at hown'
      clear ht'
      have hs2 := hb2.size
      simp at hs2
      have B2 : Below w.heap.size w w2 := (hb.alloc hb.size _).trans (hb2.mono (by simp; omega))
      have j0 : w2.cell? ⟨w1.heap.size, 0, none⟩ = some (.int .i64 la) := (hb2.cell (by simp)).trans (by simp)
      have j1 : w2.cell? ⟨w1.heap.size, 1, none⟩ = some (.int .i64 lb) := (hb2.cell (by simp)).trans (by simp)
      have j2 : w2.cell? ⟨w1.heap.size, 2, none⟩ = some (.int .i64 sa) := (hb2.cell (by simp)).trans (by simp)
      have j3 : w2.cell? ⟨w1.heap.size, 3, none⟩ = some (.int .i64 sb) := (hb2.cell (by simp)).trans (by simp)
      have hd1 : w1.heap.size < w2.heap.size := by omega
      have own1 := ownsRow_below (hown.alloc _) hb2
      clear hown hb hb2
      by_cases hl : lb = la'
      · by_cases hq : sb = sa'
        · have hl1 : ((lb : Int) != (la' : Int)) = false := by simp [hl]
          have hq1 : ((sb : Int) != (sa' : Int)) = false := by simp [hq]
          have HS : Hid (JoinSpec s t (writE ⟨la, lb', sa, sb', joinN (expL l) (expL l')⟩) 0) := .inr ⟨hst, .inr ⟨_, _, HT.out, HT2.out, .inr ⟨⟨hl, hq⟩, rfl, rfl⟩⟩⟩
          obtain ⟨vok, va, vb', vla, vlb, vsa, vsb⟩ := HT.out.1
          obtain ⟨uok, ua, ub', ula, ulb, usa, usb⟩ := HT2.out.1
          simp only at vok va vb' vla vlb vsa vsb uok ua ub' ula ulb usa usb
          have hex := expL_len l vok
          have hex' := expL_len l' uok
          have hjn : evB (expL l) = evA (expL l') := by omega
          have hjl := j_len _ _ hjn
          have hnl := norm_len (joinE (expL l) (expL l'))
          have hno := norm_ok (joinE (expL l) (expL l'))
          have HL : Hid (lb = la' ∧ sb = sa') := ⟨hl, hq⟩
          clear hl hq HT HT2
          have rec1 := recsAt_own (own1.alloc (.cells #[.int .i64 la', .int .i64 lb', .int .i64 sa', .int .i64 sb'] 60))
          have rec2 := recsAt_own (hown'.alloc (.cells #[.int .i64 la', .int .i64 lb', .int .i64 sa', .int .i64 sb'] 60))
          clear own1 hown'
          go_wp2_with fail
          refine (join_calls _ _ _ _ _ _ l l' _ rec1 rec2 vok uok (by omega) (by omega) (by omega) (by omega) hjn).mono ?_
          rintro e w3 ⟨v3, rfl, own3, b3⟩
          obtain ⟨a3, c3, hv3⟩ := own_form own3
          have hs3 := b3.size
          simp at hs3
          have B3 : Below w.heap.size w w3 := (B2.alloc (by omega) _).trans (b3.mono (by simp; omega))
          have i0 : w3.cell? ⟨w1.heap.size, 0, none⟩ = some (.int .i64 la) := (b3.cell (by simp; omega)).trans (by rw [World.cell?_alloc_past _ _ _ hd1]; exact j0)
          have i2 : w3.cell? ⟨w1.heap.size, 2, none⟩ = some (.int .i64 sa) := (b3.cell (by simp; omega)).trans (by rw [World.cell?_alloc_past _ _ _ hd1]; exact j2)
          have k1 : w3.cell? ⟨w2.heap.size, 1, none⟩ = some (.int .i64 lb') := (b3.cell (by simp)).trans (by simp)
          have k3 : w3.cell? ⟨w2.heap.size, 3, none⟩ = some (.int .i64 sb') := (b3.cell (by simp)).trans (by simp)
          have hd2 : w2.heap.size < w3.heap.size := by omega
          have hd3 : w1.heap.size < w3.heap.size := by omega
          have HJN : Hid (joinN (expL l) (expL l') = norm (joinE (expL l) (expL l'))) := rfl
          rw [← HJN.out] at hnl hno
          clear j0 j1 j2 j3 b3 rec1 rec2 B2
          generalize hnj : joinN (expL l) (expL l') = nl at hv3 own3 hnl hno HS
          clear HJN hnj
          subst hv3
          have rec3 := recsAt_own (own3.alloc (.cells #[.int .i64 la, .int .i64 lb', .int .i64 sa, .int .i64 sb'] 60))
          go_wp2_with fail
          refine (jwrite_calls la lb' sa sb' _ _ _ nl _ vla ulb vsa usb rec3 hno (by omega) (by omega)).mono ?_
          rintro e w4 ⟨⟨u, rfl, hu⟩, b4⟩
          have HU : Hid (JoinSpec s t u.data.toList 0) := by show JoinSpec _ _ _ _; rw [hu]; exact HS.out
          clear hu
          go_wp2
          go_ret2
          exact ⟨⟨u, 0, rfl, HU.out⟩, (B3.alloc (by omega) _).trans (b4.mono (by simp; omega))⟩
        · have HS : Hid (JoinSpec s t [] 9) := .inr ⟨hst, .inr ⟨_, _, HT.out, HT2.out, .inl ⟨.inr hq, rfl, rfl⟩⟩⟩
          have hl1 : ((lb : Int) != (la' : Int)) = false := by simp [hl]
          have hq1 : ((sb : Int) != (sa' : Int)) = true := by simp; omega
          clear hl
          go_wp2
          go_ret2
          exact ⟨⟨⟨#[]⟩, 9, rfl, HS.out⟩, B2.alloc (by omega) _⟩
      · have HS : Hid (JoinSpec s t [] 9) := .inr ⟨hst, .inr ⟨_, _, HT.out, HT2.out, .inl ⟨.inl hl, rfl, rfl⟩⟩⟩
        have hl1 : ((lb : Int) != (la' : Int)) = true := by simp; omega
        go_wp2
        go_ret2
        exact ⟨⟨⟨#[]⟩, 9, rfl, HS.out⟩, B2.alloc (by omega) _⟩
end Go.Proofs.Ytlppphmnegdhoaa
