/-
  The statement on what is joined: its walk.
-/
import Derived.Test.YtlppphmnegdhoaaKp1
namespace Go.Proofs.Ytlppphmnegdhoaa
set_option linter.unusedVariables false
set_option maxRecDepth 100000
open Go.RowKit
open M

theorem writE_10 (j : Jn) : 10 ≤ (writE j).length := by
  have h2 := numE_len j.la
  have h3 := numE_len j.lb
  simp [writE, bodyE, headE, twoE]
  omega
/-- the other way round: it leads on, or it is told -/
theorem join_back_ok {t u a b c x : ByteArray} {l m : List M.Rec} {e : Int} (h : Jour t a b l) (g : Jour u b c m) (hp : JoinSpec u t x.data.toList e) :
    ((a.size = c.size ∧ sum a.data.toList = sum c.data.toList) → e = 0 ∧ 10 ≤ x.size) ∧ (¬ (a.size = c.size ∧ sum a.data.toList = sum c.data.toList) → e = 9 ∧ x = ⟨#[]⟩) := by
  refine ⟨fun hs => ?_, fun hs => ?_⟩
  · have h2 : JoinSpec u t (writE ⟨b.size, b.size, sum b.data.toList, sum b.data.toList, joinN (expL m) (expL l)⟩) 0 := .inr ⟨⟨g.len.2, h.len.2⟩, .inr ⟨_, _, g.tells, h.tells, .inr ⟨⟨hs.1.symm, hs.2.symm⟩, rfl, rfl⟩⟩⟩
    obtain ⟨h3, h4⟩ := joinSpec_same hp h2
    refine ⟨h4, ?_⟩
    rw [← ba_len, h3]
    exact writE_10 _
  · have h2 : JoinSpec u t [] 9 := .inr ⟨⟨g.len.2, h.len.2⟩, .inr ⟨_, _, g.tells, h.tells, .inl ⟨by simp only; omega, rfl, rfl⟩⟩⟩
    obtain ⟨h3, h4⟩ := joinSpec_same hp h2
    exact ⟨h4, ba_ext h3⟩

set_option maxRecDepth 100000 in
set_option maxHeartbeats 4000000 in
theorem joined_walk (n c n2 c2 : Nat) (ad ad2 : Option Addr) (raw more : List M.Rec) (a : ByteArray) (w : World) (hat : RecsAt w ad n raw) (hat2 : RecsAt w ad2 n2 more) (hwf : ∀ r ∈ raw, wfRec r) (hwf2 : ∀ r ∈ more, wfRec r) (hln : raw.length ≤ 1048576) (hln2 : more.length ≤ 1048576) (hS : a.size + sumS raw + sumS more ≤ 1048576) :
    Calls Try.prog 12 #[.string a, .slice ad n c, .slice ad2 n2 c2] w fun e w' => e = .returned (.bool true) ∧ Below w.heap.size w w' := by
  go_enter Try.func12, Try.ntmps12
  go_wp2_with fail
  refine (moved_calls n c ad raw a _ hat hwf hln (by omega) (by omega)).mono ?_
  rintro e w1 ⟨l, v, b, rfl, hok, hld, hown, hll, hbs, b1⟩
  obtain ⟨a1, c1, rfl⟩ := own_form hown
  have HL : Hid (leadsL l a.data.toList b.data.toList = true) := hld
  clear hld
  go_wp2_with fail
  refine (moved_calls n2 c2 ad2 more b _ (hat2.below b1) hwf2 hln2 (by omega) (by omega)).mono ?_
  rintro e w2 ⟨m, v2, d, rfl, hok2, hld2, hown2, hll2, hbs2, b2⟩
  obtain ⟨a2, k2, rfl⟩ := own_form hown2
  have HM : Hid (leadsL m b.data.toList d.data.toList = true) := hld2
  clear hld2
  have rec1 := (recsAt_own hown).below b2
  have rec2 := recsAt_own hown2
  have B2 := b1.trans (b2.mono b1.size)
  clear hown hown2 b1 b2
  go_wp2_with fail
  refine (fits_calls a _ (by unfold maxLen; omega)).mono ?_
  rintro e w3 ⟨rfl, hw⟩
  obtain rfl : w2 = w3 := hw.symm
  clear hw
  by_cases h1 : a.size ≤ 4096
  case neg =>
    rw [decide_eq_false h1]
    go_wp2
    go_ret
    exact ⟨rfl, B2⟩
  rw [decide_eq_true h1]
  go_wp2_with fail
  refine (fits_calls b _ (by unfold maxLen; omega)).mono ?_
  rintro e w3 ⟨rfl, hw⟩
  obtain rfl : w2 = w3 := hw.symm
  clear hw
  by_cases h2 : b.size ≤ 4096
  case neg =>
    rw [decide_eq_false h2]
    go_wp2
    go_ret
    exact ⟨rfl, B2⟩
  rw [decide_eq_true h2]
  go_wp2_with fail
  refine (fits_calls d _ (by unfold maxLen; omega)).mono ?_
  rintro e w3 ⟨rfl, hw⟩
  obtain rfl : w2 = w3 := hw.symm
  clear hw
  by_cases h3 : d.size ≤ 4096
  case neg =>
    rw [decide_eq_false h3]
    go_wp2
    go_ret
    exact ⟨rfl, B2⟩
  rw [decide_eq_true h3]
  go_wp2_with fail
  refine (jwritten_calls _ _ _ l a b _ rec1 (by omega) h1 h2 hok HL.out).mono ?_
  rintro e w3 ⟨⟨t, rfl, jt⟩, b3⟩
  have B3 := B2.trans (b3.mono B2.size)
  have rec2' := rec2.below b3
  clear b3 rec1 rec2 B2
  go_wp2_with fail
  refine (jwritten_calls _ _ _ m b d _ rec2' (by omega) h2 h3 hok2 HM.out).mono ?_
  rintro e w4 ⟨⟨u, rfl, ju⟩, b4⟩
  have B4 := B3.trans (b4.mono B3.size)
  clear b4 rec2' B3
  have lt := jt.len
  have lu := ju.len
  go_wp2_with fail
  refine (rjoin_calls t u _ (by unfold maxLen; omega) (by unfold maxLen; omega)).mono ?_
  rintro e w5 ⟨⟨x, er, rfl, hx⟩, b5⟩
  obtain ⟨rfl, jx⟩ := jt.join ju hx
  have B5 := B4.trans (b5.mono B4.size)
  clear b5 B4 hx
  go_wp2_with fail
  refine (jundone_calls d x a _ _ jx).mono ?_
  rintro e w6 ⟨rfl, b6⟩
  have B6 := B5.trans (b6.mono B5.size)
  clear b6 B5
  go_wp2_with fail
  refine (jundone_calls d u b _ _ ju).mono ?_
  rintro e w7 ⟨rfl, b7⟩
  have B7 := B6.trans (b7.mono B6.size)
  clear b7 B6
  have lx := jx.len
  have gx : ¬ (x.size : Int) < 10 := by omega
  go_wp2_with fail
  refine (rjoin_calls u t _ (by unfold maxLen; omega) (by unfold maxLen; omega)).mono ?_
  rintro e w8 ⟨⟨y, er, rfl, hy⟩, b8⟩
  have B8 := B7.trans (b8.mono B7.size)
  have HY : Hid _ := join_back_ok jt ju hy
  clear b8 B7 hy
  go_wp2_with fail
  refine (rsum_calls a _ (by unfold maxLen; omega)).mono ?_
  rintro e w9 ⟨rfl, hw⟩
  obtain rfl : w8 = w9 := hw.symm
  clear hw
  by_cases hz : a.size = d.size
  · have hz1 : ((a.size : Int) != (d.size : Int)) = false := by simp; omega
    have HZ : Hid (a.size = d.size) := hz
    clear hz
    go_wp2_with fail
    refine (rsum_calls d _ (by unfold maxLen; omega)).mono ?_
    rintro e w9 ⟨rfl, hw⟩
    obtain rfl : w8 = w9 := hw.symm
    clear hw
    by_cases hq : sum a.data.toList = sum d.data.toList
    · obtain ⟨rfl, hy10⟩ := HY.out.1 ⟨HZ.out, hq⟩
      have hq1 : (((sum a.data.toList : Nat) : Int) != ((sum d.data.toList : Nat) : Int)) = false := by simp; omega
      have gy : (10 : Int) ≤ (y.size : Int) := by omega
      clear hq HY
      go_wp2
      go_ret
      exact ⟨rfl, B8⟩
    · obtain ⟨rfl, rfl⟩ := HY.out.2 (fun h => hq h.2)
      have hq1 : (((sum a.data.toList : Nat) : Int) != ((sum d.data.toList : Nat) : Int)) = true := by simp; omega
      clear hq HY
      go_wp2
      go_ret
      exact ⟨rfl, B8⟩
  · obtain ⟨rfl, rfl⟩ := HY.out.2 (fun h => hz h.1)
    have hz1 : ((a.size : Int) != (d.size : Int)) = true := by simp; omega
    clear hz HY
    go_wp2
    go_ret
    exact ⟨rfl, B8⟩
end Go.Proofs.Ytlppphmnegdhoaa
