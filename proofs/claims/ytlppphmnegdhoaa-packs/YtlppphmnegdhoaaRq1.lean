/-
  The document's answer: Pack.
-/
import Derived.Test.YtlppphmnegdhoaaDoc6
import Derived.Test.YtlppphmnegdhoaaSp2
import Derived.Test.YtlppphmnegdhoaaSh2
import Derived.Test.YtlppphmnegdhoaaSpc
namespace Go.Proofs.Ytlppphmnegdhoaa
set_option linter.unusedVariables false
open Go.RowKit
open M

theorem Twin.alloc {B : Nat} {w : World} {vf vb : Value} {F K : List Int} (h : Twin B w vf vb F K) (o : Obj) : Twin B (w.alloc o) vf vb F K := ⟨h.f.alloc o, h.k.alloc o, h.ap⟩
set_option maxRecDepth 100000 in
set_option maxHeartbeats 4000000 in
theorem dpack_calls (s : ByteArray) (w : World) (hsm : s.size ≤ maxLen) :
    Calls Try.prog 33 #[.string s] w fun e w' => (∃ (t : ByteArray) (x : Int), e = .returned (.tuple #[.string t, .int .i64 x]) ∧ PackSpec s t.data.toList x) ∧ Below w.heap.size w w' := by
  unfold maxLen at hsm
  go_enter Try.func33, Try.ntmps33
  by_cases h2 : 12352 < s.size
  · have h21 : (12352 : Int) < (s.size : Int) := by omega
    go_wp2
    go_ret2
    exact ⟨⟨⟨#[]⟩, 1, rfl, .inl ⟨h2, rfl, rfl⟩⟩, Below.refl _ _⟩
  have h21 : ¬ (12352 : Int) < (s.size : Int) := by omega
  go_wp2_with fail
  refine (parsed_calls s _ (by omega)).mono ?_
  rintro e w1 ⟨hb, ⟨x0, x1, x2, x3, ax, nx, cx, rfl, hno⟩ | ⟨⟨la, lb, sa, sb, l⟩, a, c, rfl, ht, hown⟩⟩
  · have HS : Hid (PackSpec s [] 8) := .inr ⟨by omega, .inl ⟨hno, rfl, rfl⟩⟩
    clear hno
    go_wp2
    go_ret2
    exact ⟨⟨⟨#[]⟩, 8, rfl, HS.out⟩, hb.alloc hb.size _⟩
  · have hv := ht.1
    have HS : Hid (PackSpec s (writE ⟨la, lb, sa, sb, norm (expL l)⟩) 0) := .inr ⟨by omega, .inr ⟨_, ht, rfl, rfl⟩⟩
    simp only at hown
    clear ht
    obtain ⟨vok, va, vb', vla, vlb, vsa, vsb⟩ := hv
    simp only at vok va vb' vla vlb vsa vsb
    have hcnt := count_le l vok
    have hex := expL_len l vok
    have hnl := norm_len (expL l)
    have hno := norm_ok (expL l)
    go_wp2_with fail
    refine (spread_calls _ _ _ l _ (recsAt_own (hown.alloc _)) vok (by omega) (by omega) (by omega)).mono ?_
    rintro e w2 ⟨vf, vb, rfl, tw, b2⟩
    obtain ⟨af, cf, hvf⟩ := own_form tw.f
    obtain ⟨ab, cb, hvb⟩ := own_form tw.k
    have hd : w1.heap.size < w2.heap.size := by have := b2.size; simp at this; omega
    have j0 : w2.cell? ⟨w1.heap.size, 0, none⟩ = some (.int .i64 la) := (b2.cell (by simp)).trans (by simp)
    have j1 : w2.cell? ⟨w1.heap.size, 1, none⟩ = some (.int .i64 lb) := (b2.cell (by simp)).trans (by simp)
    have j2 : w2.cell? ⟨w1.heap.size, 2, none⟩ = some (.int .i64 sa) := (b2.cell (by simp)).trans (by simp)
    have j3 : w2.cell? ⟨w1.heap.size, 3, none⟩ = some (.int .i64 sb) := (b2.cell (by simp)).trans (by simp)
    have j4 : w2.cell? ⟨w1.heap.size, 4, none⟩ = some (.slice a l.length c) := (b2.cell (by simp)).trans (by simp)
    have f4 : w2.frozen? ⟨w1.heap.size, 4, none⟩ = false := (b2.frozen (by simp)).trans (by simp)
    have B2 : Below w.heap.size w w2 := (hb.alloc hb.size _).trans (b2.mono (by have := hb.size; simp; omega))
    have HTW : Hid (Twin (w1.heap.size + 1) w2 vf vb (evF 0 (expL l)) (evK (expL l))) := by
      show Twin _ _ _ _ _ _
      simpa using tw
    have hbs := hb.size
    clear tw b2 hown hb
    generalize (evF 0 (expL l)).length = nf at *
    generalize (evK (expL l)).length = nk at *
    subst hvf hvb
    go_wp2_with fail
    refine (short_calls _ _ _ (expL l) _ (HTW.out.alloc _) (by omega) (by omega)).mono ?_
    rintro e w3 ⟨v3, rfl, own3, b3⟩
    obtain ⟨a3, c3, hv3⟩ := own_form own3
    subst hv3
    have k0 : w3.cell? ⟨w1.heap.size, 0, none⟩ = some (.int .i64 la) := (b3.cell (by simp; omega)).trans (by rw [World.cell?_alloc_past _ _ _ hd]; exact j0)
    have k1 : w3.cell? ⟨w1.heap.size, 1, none⟩ = some (.int .i64 lb) := (b3.cell (by simp; omega)).trans (by rw [World.cell?_alloc_past _ _ _ hd]; exact j1)
    have k2 : w3.cell? ⟨w1.heap.size, 2, none⟩ = some (.int .i64 sa) := (b3.cell (by simp; omega)).trans (by rw [World.cell?_alloc_past _ _ _ hd]; exact j2)
    have k3 : w3.cell? ⟨w1.heap.size, 3, none⟩ = some (.int .i64 sb) := (b3.cell (by simp; omega)).trans (by rw [World.cell?_alloc_past _ _ _ hd]; exact j3)
    have k4 : w3.cell? ⟨w1.heap.size, 4, none⟩ = some (.slice a l.length c) := (b3.cell (by simp; omega)).trans (by rw [World.cell?_alloc_past _ _ _ hd]; exact j4)
    have q4 : w3.frozen? ⟨w1.heap.size, 4, none⟩ = false := (b3.frozen (by simp; omega)).trans (by simp [go_sem, f4, hd])
    have B3 : Below w.heap.size w w3 := (B2.alloc (by omega) _).trans (b3.mono (by simp; omega))
    have own4 := ownsRow_setCell_below own3 (a := ⟨w1.heap.size, 4, none⟩) (by simp; omega) (.slice a3 (norm (expL l)).length c3)
    clear j0 j1 j2 j3 j4 f4 own3
    generalize norm (expL l) = nl at *
    go_wp2_with fail
    refine (written_calls la lb sa sb _ _ _ nl _ vla vlb vsa vsb (recsAt_own own4) hno (by omega) (by omega)).mono ?_
    rintro e w4 ⟨⟨t, rfl, ht⟩, b4⟩
    have HT : Hid (PackSpec s t.data.toList 0) := by show PackSpec _ _ _; rw [ht]; exact HS.out
    go_wp2
    go_ret2
    exact ⟨⟨t, 0, rfl, HT.out⟩, (B3.setCell (by simp; omega) _).trans (b4.mono (by have := B3.size; simp; omega))⟩
end Go.Proofs.Ytlppphmnegdhoaa
