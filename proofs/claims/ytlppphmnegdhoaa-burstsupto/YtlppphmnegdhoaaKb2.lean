/-
  The statement on bits that are turned: its walk.
-/
import Derived.Test.YtlppphmnegdhoaaKb1
namespace Go.Proofs.Ytlppphmnegdhoaa
set_option linter.unusedVariables false
set_option maxRecDepth 100000
open Go.RowKit
open M

theorem undo_turned {t a b x : ByteArray} {l : List M.Rec} {u : List UInt8} {e : Int} (h : Jour t a b l) (hx : x.size = b.size) (hs : sum x.data.toList ≠ sum b.data.toList) (hu : UndoSpec x t u e) : e = 9 ∧ u = [] := by
  have hb := h.hb
  have hl := h.len
  have h2 : UndoSpec x t [] 9 := .inr ⟨fun h => by omega, .inr ⟨_, h.tells, .inl ⟨fun h => hs h.2, rfl, rfl⟩⟩⟩
  obtain ⟨h3, h4⟩ := undoSpec_same hu h2
  exact ⟨h4, h3⟩

set_option maxRecDepth 100000 in
set_option maxHeartbeats 4000000 in
theorem bursts_walk (n c : Nat) (ad : Option Addr) (raw : List M.Rec) (a : ByteArray) (at' mask : Int) (w : World) (hat : RecsAt w ad n raw) (hwf : ∀ r ∈ raw, wfRec r) (hln : raw.length ≤ 1048576) (hS : a.size + sumS raw ≤ 1048576) (h0 : -9223372036854775808 ≤ at') (h00 : at' ≤ 9223372036854775807) (g0 : -9223372036854775808 ≤ mask) (g00 : mask ≤ 9223372036854775807) :
    Calls Try.prog 9 #[.string a, .slice ad n c, .int .i64 at', .int .i64 mask] w fun e w' => e = .returned (.bool true) ∧ Below w.heap.size w w' := by
  go_enter Try.func9, Try.ntmps9
  go_wp2_with fail
  refine (moved_calls n c ad raw a _ hat hwf hln (by omega) (by omega)).mono ?_
  rintro e w1 ⟨l, v, b, rfl, hok, hld, hown, hll, hbs, b1⟩
  obtain ⟨a1, c1, rfl⟩ := own_form hown
  have rec1 := recsAt_own hown
  have HL : Hid (leadsL l a.data.toList b.data.toList = true) := hld
  clear hld hown
  go_wp2_with fail
  refine (fits_calls a _ (by unfold maxLen; omega)).mono ?_
  rintro e w2 ⟨rfl, hw⟩
  obtain rfl : w1 = w2 := hw.symm
  clear hw
  by_cases h1 : a.size ≤ 4096
  case neg =>
    rw [decide_eq_false h1]
    go_wp2
    go_ret
    exact ⟨rfl, b1⟩
  rw [decide_eq_true h1]
  go_wp2_with fail
  refine (fits_calls b _ (by unfold maxLen; omega)).mono ?_
  rintro e w2 ⟨rfl, hw⟩
  obtain rfl : w1 = w2 := hw.symm
  clear hw
  by_cases h2 : b.size ≤ 4096
  case neg =>
    rw [decide_eq_false h2]
    go_wp2
    go_ret
    exact ⟨rfl, b1⟩
  rw [decide_eq_true h2]
  go_wp2_with fail
  refine (jwritten_calls _ _ _ l a b _ rec1 (by omega) h1 h2 hok HL.out).mono ?_
  rintro e w2 ⟨⟨j, rfl, jj⟩, b2⟩
  have B2 := b1.trans (b2.mono b1.size)
  have lj := jj.len
  clear b1 b2 rec1
  go_wp2_with fail
  refine (jundone_calls b j a _ _ jj).mono ?_
  rintro e w3 ⟨rfl, b3⟩
  have B3 := B2.trans (b3.mono B2.size)
  clear b3 B2
  go_wp2_with fail
  refine (burst_calls j at' mask _ (by omega) lj.2 h0 h00 g0 g00).mono ?_
  rintro e w4 ⟨⟨t, p, y, rfl, ht, hp, hT⟩, b4⟩
  have B4 := B3.trans (b4.mono B3.size)
  have HN : Hid (∀ q, Tells t.data.toList q → False) := turned_tells hT (by rw [ba_len]; exact hp) jj.tells
  have hts : t.size ≤ maxLen := by unfold maxLen; omega
  clear b4 B3 hT hp ht
  go_wp2_with fail
  refine (none_calls t b j _ hts h2 lj.2 HN.out).mono ?_
  rintro e w5 ⟨rfl, b5⟩
  have B5 := B4.trans (b5.mono B4.size)
  clear b5 B4 HN hts
  cases hae : b.toList.isEmpty
  · have hae2 : (b.toList == []) = false := by cases h : b.toList with
      | nil => rw [h] at hae; simp at hae
      | cons x y => rfl
    have hbp : 0 < b.size := by
      rw [empty_iff] at hae
      exact Nat.pos_of_ne_zero (of_decide_eq_false hae)
    go_wp2_with fail
    refine (burst_calls b at' mask _ hbp (by omega) h0 h00 g0 g00).mono ?_
    rintro e w6 ⟨⟨x, p, y, rfl, hx, hp, hT⟩, b6⟩
    have B6 := B5.trans (b6.mono B5.size)
    have HQ : Hid (sum x.data.toList ≠ sum b.data.toList) := turned_sum hT (by rw [ba_len]; exact hp)
    have HX : Hid (x.size = b.size) := hx
    have hxs : x.size ≤ maxLen := by unfold maxLen; omega
    clear b6 B5 hT hp hx
    go_wp2_with fail
    refine (undo_calls x j _ hxs (by unfold maxLen; omega)).mono ?_
    rintro e w7 ⟨⟨u, er, rfl, hu⟩, b7⟩
    obtain ⟨rfl, hu2⟩ := undo_turned jj HX.out HQ.out hu
    obtain rfl : u = ⟨#[]⟩ := ba_ext hu2
    have B7 := B6.trans (b7.mono B6.size)
    clear b7 B6 hu hu2
    go_wp2
    go_ret
    exact ⟨rfl, B7⟩
  · have hae2 : (b.toList == []) = true := by simpa using hae
    go_wp2
    go_ret
    exact ⟨rfl, B5⟩
end Go.Proofs.Ytlppphmnegdhoaa
