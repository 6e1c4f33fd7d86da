/-
  The statement on what is packed: its walk.
-/
import Derived.Test.YtlppphmnegdhoaaKh1
namespace Go.Proofs.Ytlppphmnegdhoaa
set_option linter.unusedVariables false
set_option maxRecDepth 100000
open Go.RowKit
open M

set_option maxRecDepth 100000 in
set_option maxHeartbeats 4000000 in
theorem kshort_calls (n c : Nat) (ad : Option Addr) (l : List M.Rec) (w : World) (hat : RecsAt w ad n l) (hln : l.length ≤ 1048576) (hch : ∀ i, (h : i + 1 < l.length) → l[i].kind ≠ l[i + 1].kind ∧ ¬ (l[i].kind = 2 ∧ l[i + 1].kind = 1)) :
    Calls Try.prog 40 #[.slice ad n c] w fun e w' => e = .returned (.bool true) ∧ Below w.heap.size w w' := by
  have hn := hat.len
  subst hn
  have HC : Hid (∀ i, (h : i + 1 < l.length) → l[i].kind ≠ l[i + 1].kind ∧ ¬ (l[i].kind = 2 ∧ l[i + 1].kind = 1)) := hch
  clear hch
  go_enter Try.func40, Try.ntmps40
  go_wp2
  go_loopw [3] (fun i wr => ∃ k : Nat, i = .int .i64 k ∧ k ≤ l.length ∧ Below w.heap.size w wr) (fun i _ => l.length - (intOf i).toNat)
  case atStart => exact ⟨0, rfl, Nat.zero_le _, Below.refl _ _⟩
  case round =>
    obtain ⟨k, rfl, hk, B⟩ := hrel
    by_cases hlt : k + 1 < l.length
    · have hlt1 : (k : Int) + 1 < (l.length : Int) := by omega
      have hlt2 : (k : Int) < (l.length : Int) := by omega
      have hno : l ≠ [] := fun h => by rw [h] at hlt; simp at hlt
      obtain ⟨bk, off, ha', hbw, hcells⟩ := hat.cells.resolve_left hno
      obtain ⟨c0, _, _⟩ := hcells k (by omega)
      obtain ⟨e0, _, _⟩ := hcells (k + 1) hlt
      have d0 := (B.cell (by exact hbw)).trans c0
      have d1 := (B.cell (by exact hbw)).trans e0
      obtain ⟨h1, h2⟩ := HC.out k hlt
      have p1 : (l[k].kind == l[k + 1].kind) = false := by simpa using h1
      have hz := B.size
      have hbk : bk < wr.heap.size := by omega
      clear hcells c0 e0 hno h1
      subst ha'
      by_cases hk2 : l[k].kind = 2
      · have p2 : (l[k].kind == 2) = true := by simp [hk2]
        have p3 : (l[k + 1].kind == 1) = false := by
          have : ¬ l[k + 1].kind = 1 := fun h => h2 ⟨hk2, h⟩
          simpa using this
        clear h2 hk2
        generalize l[k].kind = x at *
        generalize l[k + 1].kind = y at *
        go_wp2
        go_quiet (fail)
        go_wp2
        go_roundw
        case rel => exact ⟨k + 1, by go_num, by omega, below_drewN B _⟩
        case measure => simp [intOf]; omega
      · have p2 : (l[k].kind == 2) = false := by simpa using hk2
        clear h2 hk2
        generalize l[k].kind = x at *
        generalize l[k + 1].kind = y at *
        go_wp2
        go_quiet (fail)
        go_wp2
        go_roundw
        case rel => exact ⟨k + 1, by go_num, by omega, below_drewN B _⟩
        case measure => simp [intOf]; omega
    · have hlt1 : ¬ (k : Int) + 1 < (l.length : Int) := by omega
      go_wp2
      go_ret
      exact ⟨rfl, B⟩

theorem writE_size {t a b : ByteArray} {l : List M.Rec} (h : Jour t a b l) : t.size = 8 + (numE a.size).length + (numE b.size).length + (recsE l).length := by
  rw [← ba_len, h.tx]
  simp [writE, bodyE, headE, twoE]
  omega

set_option maxRecDepth 100000 in
set_option maxHeartbeats 8000000 in
theorem packed_walk (n c : Nat) (ad : Option Addr) (raw : List M.Rec) (a : ByteArray) (turn : Bool) (w : World) (hat : RecsAt w ad n raw) (hwf : ∀ r ∈ raw, wfRec r) (hln : raw.length ≤ 1048576) (hS : a.size + sumS raw ≤ 1048576) :
    Calls Try.prog 11 #[.string a, .slice ad n c, .bool turn] w fun e w' => e = .returned (.bool true) ∧ Below w.heap.size w w' := by
  go_enter Try.func11, Try.ntmps11
  go_wp2_with fail
  refine (moved_calls n c ad raw a _ hat hwf hln (by omega) (by omega)).mono ?_
  rintro e w1 ⟨l, v, b, rfl, hok, hld, hown, hll, hbs, b1⟩
  obtain ⟨a1, c1, rfl⟩ := own_form hown
  have rec1 := recsAt_own hown
  have HL : Hid (leadsL l a.data.toList b.data.toList = true) := hld
  clear hld hown
  go_wp2_with fail
  refine (fits_calls a _ (by unfold maxLen; omega)).mono ?_
  rintro e w2 ⟨rfl, hw⟩
  obtain rfl : w1 = w2 := hw.symm
  clear hw
  by_cases h1 : a.size ≤ 4096
  case neg =>
    rw [decide_eq_false h1]
    go_wp2
    go_ret
    exact ⟨rfl, b1⟩
  rw [decide_eq_true h1]
  go_wp2_with fail
  refine (fits_calls b _ (by unfold maxLen; omega)).mono ?_
  rintro e w2 ⟨rfl, hw⟩
  obtain rfl : w1 = w2 := hw.symm
  clear hw
  by_cases h2 : b.size ≤ 4096
  case neg =>
    rw [decide_eq_false h2]
    go_wp2
    go_ret
    exact ⟨rfl, b1⟩
  rw [decide_eq_true h2]
  go_wp2_with fail
  refine (jwritten_calls _ _ _ l a b _ rec1 (by omega) h1 h2 hok HL.out).mono ?_
  rintro e w2 ⟨⟨j, rfl, jj⟩, b2⟩
  have B2 := b1.trans (b2.mono b1.size)
  have rec2 := rec1.below b2
  have lj := jj.lens
  have lj2 := jj.len
  clear b1 b2 rec1
  go_wp2_with fail
  refine (halves_calls _ _ _ l turn _ rec2 hok (by omega) (by omega)).mono ?_
  rintro e w3 ⟨L, a3, c3, rfl, rec3, hoL, hEq, hlL, b3⟩
  have B3 := B2.trans (b3.mono B2.size)
  have HLd : Hid (leadsL L a.data.toList b.data.toList = true) := (leads_exp _ _ _ hoL).2 ((leadsE_eqv hEq _ _).2 jj.exp)
  have HN : Hid (norm (expL L) = norm (expL l)) := hEq.norm
  clear b3 B2 rec2 hEq
  go_wp2_with fail
  refine (jwritten_calls _ _ _ L a b _ rec3 (by omega) h1 h2 hoL HLd.out).mono ?_
  rintro e w4 ⟨⟨k, rfl, jk⟩, b4⟩
  have B4 := B3.trans (b4.mono B3.size)
  have lk := jk.len
  clear b4 B3 rec3
  go_wp2_with fail
  refine (pack_calls j _ (by unfold maxLen; omega)).mono ?_
  rintro e w5 ⟨⟨p, er, rfl, hp⟩, b5⟩
  obtain ⟨rfl, jp⟩ := jj.pack hp
  have B5 := B4.trans (b5.mono B4.size)
  have lp := jp.len
  clear b5 B4 hp
  go_wp2_with fail
  refine (pack_calls k _ (by unfold maxLen; omega)).mono ?_
  rintro e w6 ⟨⟨q, er, rfl, hq⟩, b6⟩
  obtain ⟨rfl, jq⟩ := jk.pack hq
  have B6 := B5.trans (b6.mono B5.size)
  rw [HN.out] at jq
  obtain rfl : q = p := jq.one jp
  clear b6 B5 hq jq
  go_wp2_with fail
  refine (pack_calls q _ (by unfold maxLen; omega)).mono ?_
  rintro e w7 ⟨⟨r, er, rfl, hr⟩, b7⟩
  obtain ⟨rfl, jr⟩ := jp.pack hr
  have B7 := B6.trans (b7.mono B6.size)
  rw [norm_norm] at jr
  obtain rfl : r = q := jr.one jp
  clear b7 B6 hr jr
  go_wp2_with fail
  refine (rread_calls r _ (by unfold maxLen; omega)).mono ?_
  rintro e w8 ⟨m, er, v8, rfl, h8, own8, nil8, b8⟩
  obtain ⟨rfl, rfl⟩ := read_ok lp.2 jp.tells h8
  have B8 := B7.trans (b8.mono B7.size)
  have hch := chain_get _ _ (chain_norm (expL l))
  have hln8 := count_le _ (norm_ok (expL l))
  have hlens := jp.lens
  obtain ⟨a8, c8, hv8⟩ := own_form own8
  have rec8 := recsAt_own (by rw [hv8] at own8; exact own8)
  have HW : Hid (r.size ≤ j.size) := by
    have e1 := writE_size jp
    have e2 := writE_size jj
    have e3 := norm_bytes l hok
    show _ ≤ _
    omega
  have HJ : Hid (Jour r a b (norm (expL l))) := jp
  clear b8 B7 h8 own8 nil8 jp jj jk lj HN
  generalize norm (expL l) = nl at *
  subst hv8
  go_wp2_with fail
  refine (kshort_calls _ _ _ nl _ rec8 (by omega) hch).mono ?_
  rintro e w9 ⟨rfl, b9⟩
  have B9 := B8.trans (b9.mono B8.size)
  clear b9 B8 rec8 hch
  go_wp2_with fail
  refine (jundone_calls b r a _ _ HJ.out).mono ?_
  rintro e w10 ⟨rfl, b10⟩
  have B10 := B9.trans (b10.mono B9.size)
  clear b10 B9
  have hle : (r.size : Int) ≤ (j.size : Int) := by have := HW.out; omega
  go_wp2
  go_ret
  exact ⟨rfl, B10⟩
end Go.Proofs.Ytlppphmnegdhoaa
