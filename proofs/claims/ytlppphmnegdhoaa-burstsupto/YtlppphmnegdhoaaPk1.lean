/-
  The program's Pack.
-/
import Derived.Test.YtlppphmnegdhoaaPl3
import Derived.Test.YtlppphmnegdhoaaSpc
import Derived.Test.YtlppphmnegdhoaaWri1
import Derived.Test.YtlppphmnegdhoaaUnd4
namespace Go.Proofs.Ytlppphmnegdhoaa
set_option linter.unusedVariables false
open Go.RowKit
open M

theorem packSpec_same {s : ByteArray} {t t' : List UInt8} {e e' : Int} (h : PackSpec s t e) (g : PackSpec s t' e') : t = t' ∧ e = e' := by
  rcases h with ⟨h1, rfl, rfl⟩ | ⟨h1, ⟨h2, rfl, rfl⟩ | ⟨j, h2, rfl, rfl⟩⟩ <;> rcases g with ⟨g1, rfl, rfl⟩ | ⟨g1, ⟨g2, rfl, rfl⟩ | ⟨k, g2, rfl, rfl⟩⟩
  · exact ⟨rfl, rfl⟩
  · omega
  · omega
  · omega
  · exact ⟨rfl, rfl⟩
  · exact (h2 _ g2).elim
  · omega
  · exact (g2 _ h2).elim
  · rw [tells_same h2 g2]; exact ⟨rfl, rfl⟩

set_option maxRecDepth 100000 in
set_option maxHeartbeats 4000000 in
theorem pack_calls (s : ByteArray) (w : World) (hsm : s.size ≤ maxLen) :
    Calls Try.prog 32 #[.string s] w fun e w' => (∃ (t : ByteArray) (x : Int), e = .returned (.tuple #[.string t, .int .i64 x]) ∧ PackSpec s t.data.toList x) ∧ Below w.heap.size w w' := by
  unfold maxLen at hsm
  go_enter Try.func32, Try.ntmps32
  by_cases h2 : 12352 < s.size
  · have h21 : (12352 : Int) < (s.size : Int) := by omega
    go_wp2
    go_ret2
    exact ⟨⟨⟨#[]⟩, 1, rfl, .inl ⟨h2, rfl, rfl⟩⟩, Below.refl _ _⟩
  have h21 : ¬ (12352 : Int) < (s.size : Int) := by omega
  go_wp2_with fail
  refine (read_calls s _ (by omega)).mono ?_
  rintro e w1 (⟨rfl, hno, hb⟩ | ⟨⟨la, lb, sa, sb, l⟩, v, rfl, ht, hown, hb⟩)
  · have HS : Hid (PackSpec s [] 8) := .inr ⟨by omega, .inl ⟨hno, rfl, rfl⟩⟩
    clear hno
    unfold noJn
    go_wp2
    go_ret2
    exact ⟨⟨⟨#[]⟩, 8, rfl, HS.out⟩, hb.alloc hb.size _⟩
  · obtain ⟨a, c, rfl⟩ := own_form hown
    simp only at hown ht
    have HS : Hid (PackSpec s (writE ⟨la, lb, sa, sb, norm (expL l)⟩) 0) := .inr ⟨by omega, .inr ⟨_, ht, rfl, rfl⟩⟩
    obtain ⟨vok, va, vb', vla, vlb, vsa, vsb⟩ := ht.1
    simp only at vok va vb' vla vlb vsa vsb
    clear ht
    have hcnt := count_le l vok
    have hex := expL_len l vok
    have hnl := norm_len (expL l)
    have hno := norm_ok (expL l)
    have hsz := hb.size
    go_wp2_with fail
    refine (short_of_calls _ _ _ l _ (recsAt_own (hown.alloc _)) vok (by omega) (by omega)).mono ?_
    rintro e w2 ⟨v2, rfl, own2, b2⟩
    obtain ⟨a2, c2, hv2⟩ := own_form own2
    have hd : w1.heap.size < w2.heap.size := by have := b2.size; simp at this; omega
    have j0 : w2.cell? ⟨w1.heap.size, 0, none⟩ = some (.int .i64 la) := (b2.cell (by simp)).trans (by simp)
    have j1 : w2.cell? ⟨w1.heap.size, 1, none⟩ = some (.int .i64 lb) := (b2.cell (by simp)).trans (by simp)
    have j2 : w2.cell? ⟨w1.heap.size, 2, none⟩ = some (.int .i64 sa) := (b2.cell (by simp)).trans (by simp)
    have j3 : w2.cell? ⟨w1.heap.size, 3, none⟩ = some (.int .i64 sb) := (b2.cell (by simp)).trans (by simp)
    have B2 : Below w.heap.size w w2 := (hb.alloc hb.size _).trans (b2.mono (by simp; omega))
    generalize norm (expL l) = nl at *
    subst hv2
    have rec2 := recsAt_own own2
    go_wp2_with fail
    refine (jwrite_calls la lb sa sb _ _ _ nl _ vla vlb vsa vsb rec2 hno (by omega) (by omega)).mono ?_
    rintro e w3 ⟨⟨t, rfl, ht⟩, b3⟩
    have HT : Hid (PackSpec s t.data.toList 0) := by show PackSpec _ _ _; rw [ht]; exact HS.out
    clear ht
    go_wp2
    go_ret2
    exact ⟨⟨t, 0, rfl, HT.out⟩, B2.trans (b3.mono B2.size)⟩
end Go.Proofs.Ytlppphmnegdhoaa
