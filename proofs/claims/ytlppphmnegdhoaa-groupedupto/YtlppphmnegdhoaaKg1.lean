/-
  The statement on three journals in a row: its walk.
-/
import Derived.Test.YtlppphmnegdhoaaKp1
namespace Go.Proofs.Ytlppphmnegdhoaa
set_option linter.unusedVariables false
set_option maxRecDepth 100000
open Go.RowKit
open M

theorem whole_exp (a : ByteArray) (l : List M.Rec) (h : l = rKeep a.size) : expL l = List.replicate a.size .k := by
  subst h
  unfold rKeep
  split
  · rename_i h; simp [h, expL]
  · simp [expL, expR]
theorem whole_leads (a : ByteArray) : okAll (rKeep a.size) ∧ leadsL (rKeep a.size) a.data.toList a.data.toList = true := by
  have hl := ba_len a
  unfold rKeep
  split
  · rename_i h
    have e : a.data.toList = [] := List.length_eq_zero_iff.1 (by omega)
    rw [e]
    exact ⟨fun x hx => by simp at hx, rfl⟩
  · rename_i h
    obtain ⟨k1, k2⟩ := keep_leads a.data.toList (fun e => h (by rw [← hl, e]; rfl))
    rw [hl] at k1 k2
    exact ⟨fun x hx => by simp at hx; rw [hx]; exact k1, k2⟩

set_option maxRecDepth 100000 in
set_option maxHeartbeats 1000000 in
theorem whole_calls (a : ByteArray) (w : World) (ha : a.size ≤ 4096) :
    Calls Try.prog 42 #[.string a] w fun e w' => (∃ t : ByteArray, e = .returned (.tuple #[.string t, .bool true]) ∧ Jour t a a (rKeep a.size)) ∧ Below w.heap.size w w' := by
  obtain ⟨i0, hi, hz0, hz1, hz2⟩ := info_parts Try.info57
  obtain ⟨ok, ld⟩ := whole_leads a
  have HW : Hid (okAll (rKeep a.size) ∧ leadsL (rKeep a.size) a.data.toList a.data.toList = true) := ⟨ok, ld⟩
  clear ok ld
  go_enter Try.func42, Try.ntmps42
  cases hae : a.toList.isEmpty
  · have hap : 0 < a.size := by
      rw [empty_iff] at hae
      exact Nat.pos_of_ne_zero (of_decide_eq_false hae)
    have hae2 : (a.toList == []) = false := by cases h : a.toList with
      | nil => rw [h] at hae; simp at hae
      | cons x y => rfl
    have HK : Hid (rKeep a.size = [⟨0, (a.size : Int), ⟨#[]⟩⟩]) := if_neg (by omega)
    go_wp2_with (first
      | (at_builtin; refine wpList_append_own _ rfl (.tmp 7) (.tmp 11) 22 rfl w.heap.size 57 i0 (.agg #[.int .i64 0, .int .i64 0, .string ⟨#[]⟩]) 3 32 Try.underlying22 hi hz0 hz1 hz2 rfl (by decide) _ _ _ rfl (World.ownsRow_nil _ _ _ _) ⟨w.heap.size, 0, none⟩ 1 1 (recC ⟨0, (a.size : Int), ⟨#[]⟩⟩) rfl rfl ?k1 ?k2 ?k3 ?k4 ?k5 ?_)
      | go_in)
    case k1 => exact recC_at w ⟨0, (a.size : Int), ⟨#[]⟩⟩ _
    case k2 => exact recC_one _
    case k3 => unfold maxLen; omega
    case k4 => omega
    case k5 => simp
    intro v' w3 hown3 hgrow _
    have B3 : Below w.heap.size w w3 := ((Below.refl _ _).alloc (Nat.le_refl _) _).grown hgrow (by simp) (fun k hk => by simp [Value.ownBlock] at hk)
    have own4 : w3.ownsRow w.heap.size 57 3 v' (rKeep a.size).length (recsC (rKeep a.size)) := by rw [HK.out]; exact hown3
    obtain ⟨a4, c4, hv4⟩ := own_form own4
    clear hgrow hown3
    generalize hrk : rKeep a.size = rk at own4 hv4 HW HK
    have HR : Hid (rKeep a.size = rk) := hrk
    clear hrk
    subst hv4
    have hl1 : Hid (rk.length ≤ 140737488351232) := by show _ ≤ _; rw [HK.out]; simp
    go_wp2_with fail
    refine (jwritten_calls _ _ _ rk a a _ (recsAt_own own4) hl1.out ha ha HW.out.1 HW.out.2).mono ?_
    rintro e w4 ⟨⟨t, rfl, jt⟩, b4⟩
    go_wp2
    go_ret2
    exact ⟨⟨t, rfl, by rw [HR.out]; exact jt⟩, B3.trans (b4.mono B3.size)⟩
  · have hae2 : (a.toList == []) = true := by simpa using hae
    have hap : a.size = 0 := by
      rw [empty_iff] at hae
      exact of_decide_eq_true hae
    have HK : Hid (rKeep a.size = []) := if_pos hap
    clear hap
    go_wp2_with fail
    refine (jwritten_calls 0 0 none [] a a _ ⟨rfl, .inl rfl⟩ (by simp) ha ha (by have := HW.out.1; rw [HK.out] at this; exact this) (by have := HW.out.2; rw [HK.out] at this; exact this)).mono ?_
    rintro e w4 ⟨⟨t, rfl, jt⟩, b4⟩
    go_wp2
    go_ret2
    exact ⟨⟨t, rfl, by rw [HK.out]; exact jt⟩, b4⟩

set_option maxRecDepth 100000 in
set_option maxHeartbeats 8000000 in
theorem grouped_walk (n c n2 c2 n3 c3 : Nat) (ad ad2 ad3 : Option Addr) (raw more most : List M.Rec) (a : ByteArray) (w : World) (hat : RecsAt w ad n raw) (hat2 : RecsAt w ad2 n2 more) (hat3 : RecsAt w ad3 n3 most) (hwf : ∀ r ∈ raw, wfRec r) (hwf2 : ∀ r ∈ more, wfRec r) (hwf3 : ∀ r ∈ most, wfRec r) (hln : raw.length ≤ 1048576) (hln2 : more.length ≤ 1048576) (hln3 : most.length ≤ 1048576) (hS : a.size + sumS raw + sumS more + sumS most ≤ 1048576) :
    Calls Try.prog 13 #[.string a, .slice ad n c, .slice ad2 n2 c2, .slice ad3 n3 c3] w fun e w' => e = .returned (.bool true) ∧ Below w.heap.size w w' := by
  go_enter Try.func13, Try.ntmps13
  go_wp2_with fail
  refine (moved_calls n c ad raw a _ hat hwf hln (by omega) (by omega)).mono ?_
  rintro e w1 ⟨l, v, b, rfl, hok, hld, hown, hll, hbs, b1⟩
  obtain ⟨a1, c1, rfl⟩ := own_form hown
  have HL : Hid (leadsL l a.data.toList b.data.toList = true) := hld
  clear hld
  go_wp2_with fail
  refine (moved_calls n2 c2 ad2 more b _ (hat2.below b1) hwf2 hln2 (by omega) (by omega)).mono ?_
  rintro e w2 ⟨m, v2, d, rfl, hok2, hld2, hown2, hll2, hbs2, b2⟩
  obtain ⟨a2, k2, rfl⟩ := own_form hown2
  have HM : Hid (leadsL m b.data.toList d.data.toList = true) := hld2
  clear hld2
  have rec1 := (recsAt_own hown).below b2
  have B2 := b1.trans (b2.mono b1.size)
  clear b1 b2 hown
  go_wp2_with fail
  refine (moved_calls n3 c3 ad3 most d _ (hat3.below B2) hwf3 hln3 (by omega) (by omega)).mono ?_
  rintro e w3 ⟨o, v3, f, rfl, hok3, hld3, hown3, hll3, hbs3, b3⟩
  obtain ⟨a3, k3, rfl⟩ := own_form hown3
  have HO : Hid (leadsL o d.data.toList f.data.toList = true) := hld3
  clear hld3
  have rec1' := rec1.below b3
  have rec2 := (recsAt_own hown2).below b3
  have rec3 := recsAt_own hown3
  have B3 := B2.trans (b3.mono B2.size)
  clear hown2 hown3 b3 B2 rec1
  go_wp2_with fail
  refine (fits_calls a _ (by unfold maxLen; omega)).mono ?_
  rintro e w4 ⟨rfl, hw⟩
  obtain rfl : w3 = w4 := hw.symm
  clear hw
  by_cases h1 : a.size ≤ 4096
  case neg =>
    rw [decide_eq_false h1]
    go_wp2
    go_ret
    exact ⟨rfl, B3⟩
  rw [decide_eq_true h1]
  go_wp2_with fail
  refine (fits_calls b _ (by unfold maxLen; omega)).mono ?_
  rintro e w4 ⟨rfl, hw⟩
  obtain rfl : w3 = w4 := hw.symm
  clear hw
  by_cases h2 : b.size ≤ 4096
  case neg =>
    rw [decide_eq_false h2]
    go_wp2
    go_ret
    exact ⟨rfl, B3⟩
  rw [decide_eq_true h2]
  go_wp2_with fail
  refine (fits_calls d _ (by unfold maxLen; omega)).mono ?_
  rintro e w4 ⟨rfl, hw⟩
  obtain rfl : w3 = w4 := hw.symm
  clear hw
  by_cases h3 : d.size ≤ 4096
  case neg =>
    rw [decide_eq_false h3]
    go_wp2
    go_ret
    exact ⟨rfl, B3⟩
  rw [decide_eq_true h3]
  go_wp2_with fail
  refine (fits_calls f _ (by unfold maxLen; omega)).mono ?_
  rintro e w4 ⟨rfl, hw⟩
  obtain rfl : w3 = w4 := hw.symm
  clear hw
  by_cases h4 : f.size ≤ 4096
  case neg =>
    rw [decide_eq_false h4]
    go_wp2
    go_ret
    exact ⟨rfl, B3⟩
  rw [decide_eq_true h4]
  go_wp2_with fail
  refine (jwritten_calls _ _ _ l a b _ rec1' (by omega) h1 h2 hok HL.out).mono ?_
  rintro e w4 ⟨⟨x, rfl, jx⟩, b4⟩
  have B4 := B3.trans (b4.mono B3.size)
  have rec2' := rec2.below b4
  have rec3' := rec3.below b4
  clear b4 rec1' rec2 rec3 B3
  go_wp2_with fail
  refine (jwritten_calls _ _ _ m b d _ rec2' (by omega) h2 h3 hok2 HM.out).mono ?_
  rintro e w5 ⟨⟨y, rfl, jy⟩, b5⟩
  have B5 := B4.trans (b5.mono B4.size)
  have rec3 := rec3'.below b5
  clear b5 rec2' rec3' B4
  go_wp2_with fail
  refine (jwritten_calls _ _ _ o d f _ rec3 (by omega) h3 h4 hok3 HO.out).mono ?_
  rintro e w6 ⟨⟨z, rfl, jz⟩, b6⟩
  have B6 := B5.trans (b6.mono B5.size)
  clear b6 rec3 B5
  go_wp2_with fail
  refine (whole_calls a _ h1).mono ?_
  rintro e w7 ⟨⟨u, rfl, ju⟩, b7⟩
  have B7 := B6.trans (b7.mono B6.size)
  clear b7 B6
  go_wp2_with fail
  refine (whole_calls b _ h2).mono ?_
  rintro e w8 ⟨⟨v, rfl, jv⟩, b8⟩
  have B8 := B7.trans (b8.mono B7.size)
  clear b8 B7
  go_wp2_with fail
  refine (both_calls x y a b d l m _ jx jy).mono ?_
  rintro e w9 ⟨⟨xy, rfl, jxy⟩, b9⟩
  have B9 := B8.trans (b9.mono B8.size)
  clear b9 B8
  go_wp2_with fail
  refine (both_calls y z b d f m o _ jy jz).mono ?_
  rintro e w10 ⟨⟨yz, rfl, jyz⟩, b10⟩
  have B10 := B9.trans (b10.mono B9.size)
  clear b10 B9
  go_wp2_with fail
  refine (both_calls xy z a d f _ o _ jxy jz).mono ?_
  rintro e w11 ⟨⟨left, rfl, jleft⟩, b11⟩
  have B11 := B10.trans (b11.mono B10.size)
  clear b11 B10
  go_wp2_with fail
  refine (both_calls x yz a b f l _ _ jx jyz).mono ?_
  rintro e w12 ⟨⟨right, rfl, jright⟩, b12⟩
  have B12 := B11.trans (b12.mono B11.size)
  clear b12 B11
  go_wp2_with fail
  refine (both_calls u x a a b _ l _ ju jx).mono ?_
  rintro e w13 ⟨⟨ux, rfl, jux⟩, b13⟩
  have B13 := B12.trans (b13.mono B12.size)
  clear b13 B12
  go_wp2_with fail
  refine (both_calls x v a b b l _ _ jx jv).mono ?_
  rintro e w14 ⟨⟨xv, rfl, jxv⟩, b14⟩
  have B14 := B13.trans (b14.mono B13.size)
  clear b14 B13
  have lx := jx.len
  go_wp2_with fail
  refine (pack_calls x _ (by unfold maxLen; omega)).mono ?_
  rintro e w15 ⟨⟨p, er, rfl, hp⟩, b15⟩
  obtain ⟨rfl, jp⟩ := jx.pack hp
  have B15 := B14.trans (b15.mono B14.size)
  clear b15 B14 hp
  have e1 := jx.evs
  have e2 := jy.evs
  have e3 := jz.evs
  obtain rfl : left = right := by
    rw [joinN_assoc _ _ _ (by omega) (by omega)] at jleft
    exact jleft.one jright
  obtain rfl : ux = p := by
    rw [whole_exp a _ rfl, ← e1.1, joinN_idL] at jux
    exact jux.one jp
  obtain rfl : xv = ux := by
    rw [whole_exp b _ rfl, ← e1.2, joinN_idR] at jxv
    exact jxv.one jp
  clear jleft jright jux jxv jp jx jy jz ju jv jxy jyz e1 e2 e3
  go_wp2
  go_ret
  exact ⟨rfl, B15⟩
end Go.Proofs.Ytlppphmnegdhoaa
