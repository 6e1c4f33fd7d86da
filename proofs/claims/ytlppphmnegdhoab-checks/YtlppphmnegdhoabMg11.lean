import Derived.Test.YtlppphmnegdhoabMg10
/-
  The document's scripts: flags.
-/
namespace Go.Proofs.Ytlppphmnegdhoab
set_option linter.unusedVariables false
set_option maxRecDepth 100000
open Go.RowKit
open M

/-- a command's cells, the kind of its first address, its name and its label as they were -/
def Sm (cs cs' : List Value) : Prop := cs'.length = 23 ∧ cs'[0]? = cs[0]? ∧ cs'[11]? = cs[11]? ∧ cs'[13]? = cs[13]?
theorem Sm.refl {cs : List Value} (h : cs.length = 23) : Sm cs cs := ⟨h, rfl, rfl, rfl⟩
theorem Sm.trans {a b c : List Value} (h : Sm a b) (g : Sm b c) : Sm a c := ⟨g.1, g.2.1.trans h.2.1, g.2.2.1.trans h.2.2.1, g.2.2.2.trans h.2.2.2⟩
theorem Sm.set {cs : List Value} (h : cs.length = 23) (j : Nat) (u : Value) (h0 : j ≠ 0) (h1 : j ≠ 11) (h2 : j ≠ 13) : Sm cs (cs.set j u) := by
  refine ⟨by rw [List.length_set]; exact h, ?_, ?_, ?_⟩ <;> rw [List.getElem?_set_ne (by omega)]
/-- a command's box -/
def CmdAt (w : World) (b : Nat) (cs : List Value) : Prop := CB w b cs ∧ cs.length = 23
theorem CB.get {w : World} {b : Nat} {cs : List Value} (h : CB w b cs) (j : Nat) (hj : j < cs.length) : ∃ v, w.cell? ⟨b, j, none⟩ = some v := ⟨_, h.c j _ (List.getElem?_eq_getElem hj)⟩
theorem dropx (a : ByteArray) (m : Nat) : (a.extract m a.size).data.toList = a.data.toList.drop m := by
  rw [Lib.extract_data, List.take_of_length_le (by rw [List.length_drop, ba_len]; omega)]
def stP (p : Nat → Bool) : List UInt8 → Bool
  | [] => false
  | c :: _ => p c.toNat
theorem optB_by (p : Nat → Bool) (t : List UInt8) : optB p t = if stP p t then t.drop 1 else t := by
  match t with
  | [] => rfl
  | c :: r => rfl
theorem stP_size (s : ByteArray) (p : Nat → Bool) (h : stP p s.data.toList = true) : 0 < s.size := by
  rcases Nat.eq_zero_or_pos s.size with h0 | h0
  · have hl := ba_len s
    rw [List.length_eq_zero_iff.1 (hl.trans h0)] at h
    cases h
  · exact h0
theorem stP_zero (s : ByteArray) (p : Nat → Bool) (h : 0 < s.size) : stP p s.data.toList = p s[0].toNat := by
  have e := get_drop s 0 h
  rw [List.drop_zero] at e
  rw [e]; rfl
theorem stP_none (s : ByteArray) (p : Nat → Bool) (h : s.size = 0) : stP p s.data.toList = false := by
  have hl := ba_len s
  rw [List.length_eq_zero_iff.1 (hl.trans h)]; rfl
set_option maxRecDepth 100000 in
set_option maxHeartbeats 1000000 in
theorem flags_calls (b : Nat) (cs : List Value) (s : ByteArray) (w : World) (hs : s.size ≤ 400) (hb : CmdAt w b cs) :
    Calls Try.prog 35 #[.pointer (some ⟨b, 0, none⟩), .string s] w fun e w' => e = .returned (.bool (flagsM s.data.toList)) ∧ ∃ cs', CmdAt w' b cs' ∧ Sm cs cs' ∧ Only b w w' := by
  obtain ⟨hcb, hlen⟩ := hb
  obtain ⟨v18, c18⟩ := hcb.get 18 (by omega)
  have f18 := hcb.fz 18 (by omega)
  have hA : CmdAt (w.setCell ⟨b, 18, none⟩ (.int .i64 1)) b (cs.set 18 (.int .i64 1)) := ⟨hcb.set 18 (by omega) _ rfl, by rw [List.length_set]; exact hlen⟩
  have hS : Sm cs (cs.set 18 (.int .i64 1)) := Sm.set hlen 18 _ (by decide) (by decide) (by decide)
  have hO : Only b w (w.setCell ⟨b, 18, none⟩ (.int .i64 1)) := Only.set _ _ _ _
  go_enter Try.func35, Try.ntmps35
  go_upto_region 2 with fail
  generalize w.setCell ⟨b, 18, none⟩ (.int .i64 1) = W0 at *
  obtain ⟨cs1, hcs1⟩ : ∃ c, cs.set 18 (.int .i64 1) = c := ⟨_, rfl⟩
  rw [hcs1] at hA hS
  have HA : Hid (CmdAt W0 b cs1 ∧ Sm cs cs1 ∧ Only b w W0) := ⟨hA, hS, hO⟩
  have HF : Hid (flagsM s.data.toList = (optB (· == 112) (optB (· == 103) (optB posB s.data.toList))).isEmpty) := rfl
  clear hA hS hO hcs1 c18 f18 hcb hlen v18
  go_cut [19] (fun t wx => t = .bool (stP posB s.data.toList) ∧ wx = W0)
  case first =>
    by_cases h0 : s.size = 0
    · have he : s.toList.isEmpty = true := by rw [empty_iff]; exact decide_eq_true h0
      have HT : Hid (stP posB s.data.toList = false) := stP_none s _ h0
      clear h0
      go_wp2
      go_meet
      exact ⟨by rw [HT.out], rfl⟩
    · have he : s.toList.isEmpty = false := by rw [empty_iff]; exact decide_eq_false h0
      have hp0 : 0 < s.size := by omega
      have hp1 : (0 : Int) < (s.size : Int) := by omega
      obtain ⟨x, hx⟩ : ∃ x : Nat, s[0].toNat = x := ⟨_, rfl⟩
      have hxc : x < 256 := by rw [← hx]; exact s[0].toNat_lt
      have HT : Hid (stP posB s.data.toList = (posB) x) := by show _ = _; rw [stP_zero s _ hp0, hx]
      clear h0
      by_cases ha : 49 ≤ x
      · have ha1 : (49 : Int) ≤ (x : Int) := by omega
        by_cases hb : x ≤ 57
        · have hb1 : (x : Int) ≤ 57 := by omega
          have HT2 : Hid (posB x = true) := by show _ = _; unfold posB; rw [decide_eq_true ha, decide_eq_true hb]; rfl
          go_wp2
          go_meet
          exact ⟨by rw [HT.out, HT2.out], rfl⟩
        · have hb1 : ¬ (x : Int) ≤ 57 := by omega
          have HT2 : Hid (posB x = false) := by show _ = _; unfold posB; rw [decide_eq_false hb]; simp
          go_wp2
          go_meet
          exact ⟨by rw [HT.out, HT2.out], rfl⟩
      · have ha1 : ¬ (49 : Int) ≤ (x : Int) := by omega
        have HT2 : Hid (posB x = false) := by show _ = _; unfold posB; rw [decide_eq_false ha]; rfl
        go_wp2
        go_meet
        exact ⟨by rw [HT.out, HT2.out], rfl⟩
  case rest =>
  obtain ⟨rfl, rfl⟩ := hcut
  go_upto_if 19 with fail
  go_cut [1] (fun v wx => ∃ s1 : ByteArray, ∃ cs', v = .string s1 ∧ s1.size ≤ 400 ∧ Hid (s1.data.toList = optB posB s.data.toList) ∧ Hid (CmdAt wx b cs' ∧ Sm cs cs' ∧ Only b w wx))
  case first =>
    cases ht : stP posB s.data.toList
    · have HO : Hid (s.data.toList = optB posB s.data.toList) := by show _ = _; rw [optB_by, ht]; rfl
      clear ht
      go_wp2
      go_meet
      exact ⟨s, _, rfl, by omega, HO.out, HA.out⟩
    · have hp0 := stP_size s _ ht
      have hp1 : (0 : Int) < (s.size : Int) := by omega
      have hp2 : (1 : Int) ≤ (s.size : Int) := by omega
      have HO : Hid ((s.extract 1 s.size).data.toList = optB posB s.data.toList) := by show _ = _; rw [optB_by, ht, dropx]; rfl
      have HZ : Hid ((s.extract 1 s.size).size ≤ 400) := by show _ ≤ _; rw [ByteArray.size_extract]; omega
      obtain ⟨v9, c9⟩ := HA.out.1.1.get 18 (by have := HA.out.1.2; omega)
      have f9 := HA.out.1.1.fz 18 (by have := HA.out.1.2; omega)
      obtain ⟨x, hx⟩ : ∃ x : Nat, s[0].toNat = x := ⟨_, rfl⟩
      have hxr : posB x = true := by rw [← hx, ← stP_zero s posB hp0]; exact ht
      have hxr2 : 49 ≤ x ∧ x ≤ 57 := by simpa [posB] using hxr
      have hxc : x < 256 := by omega
      have hx3 : (48 : Int) ≤ (x : Int) := by omega
      have HN : Hid (CmdAt (wc.setCell ⟨b, 18, none⟩ (.int .i64 ((x : Int) - 48))) b (cs1.set 18 (.int .i64 ((x : Int) - 48))) ∧ Sm cs (cs1.set 18 (.int .i64 ((x : Int) - 48))) ∧ Only b w (wc.setCell ⟨b, 18, none⟩ (.int .i64 ((x : Int) - 48)))) :=
        ⟨⟨HA.out.1.1.set 18 (by have := HA.out.1.2; omega) _ rfl, by rw [List.length_set]; exact HA.out.1.2⟩, HA.out.2.1.trans (Sm.set HA.out.1.2 18 _ (by decide) (by decide) (by decide)), HA.out.2.2.trans (Only.set _ _ _ _)⟩
      clear hxr
      clear ht
      go_wp2
      go_meet
      exact ⟨_, _, rfl, HZ.out, HO.out, HN.out⟩
  case rest =>
  clear HA
  obtain ⟨s1, cs2, rfl, hs1, Hs1, HA⟩ := hcut
  rw [← Hs1.out] at HF
  clear Hs1
  go_upto_region 5 with fail
  go_cut [35] (fun t wx => t = .bool (stP (· == 103) s1.data.toList) ∧ wx = wc)
  case first =>
    by_cases h0 : s1.size = 0
    · have he : s1.toList.isEmpty = true := by rw [empty_iff]; exact decide_eq_true h0
      have HT : Hid (stP (· == 103) s1.data.toList = false) := stP_none s1 _ h0
      clear h0
      go_wp2
      go_meet
      exact ⟨by rw [HT.out], rfl⟩
    · have he : s1.toList.isEmpty = false := by rw [empty_iff]; exact decide_eq_false h0
      have hp0 : 0 < s1.size := by omega
      have hp1 : (0 : Int) < (s1.size : Int) := by omega
      obtain ⟨x, hx⟩ : ∃ x : Nat, s1[0].toNat = x := ⟨_, rfl⟩
      have hxc : x < 256 := by rw [← hx]; exact s1[0].toNat_lt
      have HT : Hid (stP (· == 103) s1.data.toList = ((· == 103)) x) := by show _ = _; rw [stP_zero s1 _ hp0, hx]
      clear h0
      by_cases ha : x = 103
      · have ha1 : ((x : Int) == 103) = true := by simp [ha]
        have HT2 : Hid ((x == 103) = true) := by show _ = _; simp [ha]
        clear ha
        go_wp2
        go_meet
        exact ⟨by rw [HT.out, HT2.out], rfl⟩
      · have ha1 : ((x : Int) == 103) = false := by simp; omega
        have HT2 : Hid ((x == 103) = false) := by show _ = _; simp [ha]
        clear ha
        go_wp2
        go_meet
        exact ⟨by rw [HT.out, HT2.out], rfl⟩
  case rest =>
  obtain ⟨rfl, rfl⟩ := hcut
  go_upto_if 35 with fail
  go_cut [1] (fun v wx => ∃ s11 : ByteArray, ∃ cs', v = .string s11 ∧ s11.size ≤ 400 ∧ Hid (s11.data.toList = optB (· == 103) s1.data.toList) ∧ Hid (CmdAt wx b cs' ∧ Sm cs cs' ∧ Only b w wx))
  case first =>
    cases ht : stP (· == 103) s1.data.toList
    · have HO : Hid (s1.data.toList = optB (· == 103) s1.data.toList) := by show _ = _; rw [optB_by, ht]; rfl
      clear ht
      go_wp2
      go_meet
      exact ⟨s1, _, rfl, by omega, HO.out, HA.out⟩
    · have hp0 := stP_size s1 _ ht
      have hp1 : (0 : Int) < (s1.size : Int) := by omega
      have hp2 : (1 : Int) ≤ (s1.size : Int) := by omega
      have HO : Hid ((s1.extract 1 s1.size).data.toList = optB (· == 103) s1.data.toList) := by show _ = _; rw [optB_by, ht, dropx]; rfl
      have HZ : Hid ((s1.extract 1 s1.size).size ≤ 400) := by show _ ≤ _; rw [ByteArray.size_extract]; omega
      obtain ⟨v9, c9⟩ := HA.out.1.1.get 19 (by have := HA.out.1.2; omega)
      have f9 := HA.out.1.1.fz 19 (by have := HA.out.1.2; omega)
      have HN : Hid (CmdAt (wc.setCell ⟨b, 19, none⟩ (.bool true)) b (cs2.set 19 (.bool true)) ∧ Sm cs (cs2.set 19 (.bool true)) ∧ Only b w (wc.setCell ⟨b, 19, none⟩ (.bool true))) :=
        ⟨⟨HA.out.1.1.set 19 (by have := HA.out.1.2; omega) _ rfl, by rw [List.length_set]; exact HA.out.1.2⟩, HA.out.2.1.trans (Sm.set HA.out.1.2 19 _ (by decide) (by decide) (by decide)), HA.out.2.2.trans (Only.set _ _ _ _)⟩
      clear ht
      go_wp2
      go_meet
      exact ⟨_, _, rfl, HZ.out, HO.out, HN.out⟩
  case rest =>
  clear HA
  obtain ⟨s11, cs3, rfl, hs11, Hs11, HA⟩ := hcut
  rw [← Hs11.out] at HF
  clear Hs11
  go_upto_region 8 with fail
  go_cut [47] (fun t wx => t = .bool (stP (· == 112) s11.data.toList) ∧ wx = wc)
  case first =>
    by_cases h0 : s11.size = 0
    · have he : s11.toList.isEmpty = true := by rw [empty_iff]; exact decide_eq_true h0
      have HT : Hid (stP (· == 112) s11.data.toList = false) := stP_none s11 _ h0
      clear h0
      go_wp2
      go_meet
      exact ⟨by rw [HT.out], rfl⟩
    · have he : s11.toList.isEmpty = false := by rw [empty_iff]; exact decide_eq_false h0
      have hp0 : 0 < s11.size := by omega
      have hp1 : (0 : Int) < (s11.size : Int) := by omega
      obtain ⟨x, hx⟩ : ∃ x : Nat, s11[0].toNat = x := ⟨_, rfl⟩
      have hxc : x < 256 := by rw [← hx]; exact s11[0].toNat_lt
      have HT : Hid (stP (· == 112) s11.data.toList = ((· == 112)) x) := by show _ = _; rw [stP_zero s11 _ hp0, hx]
      clear h0
      by_cases ha : x = 112
      · have ha1 : ((x : Int) == 112) = true := by simp [ha]
        have HT2 : Hid ((x == 112) = true) := by show _ = _; simp [ha]
        clear ha
        go_wp2
        go_meet
        exact ⟨by rw [HT.out, HT2.out], rfl⟩
      · have ha1 : ((x : Int) == 112) = false := by simp; omega
        have HT2 : Hid ((x == 112) = false) := by show _ = _; simp [ha]
        clear ha
        go_wp2
        go_meet
        exact ⟨by rw [HT.out, HT2.out], rfl⟩
  case rest =>
  obtain ⟨rfl, rfl⟩ := hcut
  go_upto_if 47 with fail
  go_cut [1] (fun v wx => ∃ s111 : ByteArray, ∃ cs', v = .string s111 ∧ s111.size ≤ 400 ∧ Hid (s111.data.toList = optB (· == 112) s11.data.toList) ∧ Hid (CmdAt wx b cs' ∧ Sm cs cs' ∧ Only b w wx))
  case first =>
    cases ht : stP (· == 112) s11.data.toList
    · have HO : Hid (s11.data.toList = optB (· == 112) s11.data.toList) := by show _ = _; rw [optB_by, ht]; rfl
      clear ht
      go_wp2
      go_meet
      exact ⟨s11, _, rfl, by omega, HO.out, HA.out⟩
    · have hp0 := stP_size s11 _ ht
      have hp1 : (0 : Int) < (s11.size : Int) := by omega
      have hp2 : (1 : Int) ≤ (s11.size : Int) := by omega
      have HO : Hid ((s11.extract 1 s11.size).data.toList = optB (· == 112) s11.data.toList) := by show _ = _; rw [optB_by, ht, dropx]; rfl
      have HZ : Hid ((s11.extract 1 s11.size).size ≤ 400) := by show _ ≤ _; rw [ByteArray.size_extract]; omega
      obtain ⟨v9, c9⟩ := HA.out.1.1.get 20 (by have := HA.out.1.2; omega)
      have f9 := HA.out.1.1.fz 20 (by have := HA.out.1.2; omega)
      have HN : Hid (CmdAt (wc.setCell ⟨b, 20, none⟩ (.bool true)) b (cs3.set 20 (.bool true)) ∧ Sm cs (cs3.set 20 (.bool true)) ∧ Only b w (wc.setCell ⟨b, 20, none⟩ (.bool true))) :=
        ⟨⟨HA.out.1.1.set 20 (by have := HA.out.1.2; omega) _ rfl, by rw [List.length_set]; exact HA.out.1.2⟩, HA.out.2.1.trans (Sm.set HA.out.1.2 20 _ (by decide) (by decide) (by decide)), HA.out.2.2.trans (Only.set _ _ _ _)⟩
      clear ht
      go_wp2
      go_meet
      exact ⟨_, _, rfl, HZ.out, HO.out, HN.out⟩
  case rest =>
  clear HA
  obtain ⟨s111, cs4, rfl, hs111, Hs111, HA⟩ := hcut
  rw [← Hs111.out] at HF
  clear Hs111
  have HE : Hid (flagsM s.data.toList = s111.toList.isEmpty) := by
    show _ = _
    rw [HF.out, ByteArray.toList_eq]
  cases he : s111.toList.isEmpty
  · rw [he] at HE
    go_wp2
    go_ret
    exact ⟨ret_bool (by rw [HE.out]), _, HA.out⟩
  · rw [he] at HE
    go_wp2
    go_ret
    exact ⟨ret_bool (by rw [HE.out]), _, HA.out⟩
end Go.Proofs.Ytlppphmnegdhoab

/-
  The document's scripts: change.
-/
namespace Go.Proofs.Ytlppphmnegdhoab
set_option linter.unusedVariables false
set_option maxRecDepth 100000
open Go.RowKit
open M

/-- all old blocks but one are as they were -/
structure Apt (g : Nat) (w w' : World) : Prop where
  os : w'.os = w.os
  tape : w'.tape = w.tape
  output : w'.output = w.output
  size : w.heap.size ≤ w'.heap.size
  block : ∀ k, k < w.heap.size → k ≠ g → w'.heap[k]? = w.heap[k]?
theorem Apt.refl (g : Nat) (w : World) : Apt g w w := ⟨rfl, rfl, rfl, Nat.le_refl _, fun _ _ _ => rfl⟩
theorem Apt.trans {g : Nat} {a b c : World} (h : Apt g a b) (k : Apt g b c) : Apt g a c :=
  ⟨k.os.trans h.os, k.tape.trans h.tape, k.output.trans h.output, Nat.le_trans h.size k.size, fun i hi hg => (k.block i (Nat.lt_of_lt_of_le hi h.size) hg).trans (h.block i hi hg)⟩
theorem Apt.of_below {g : Nat} {w w' : World} (h : Below w.heap.size w w') : Apt g w w' := ⟨h.os, h.tape, h.output, h.size, fun k hk _ => h.block k hk⟩
theorem Apt.of_only {g : Nat} {w w' : World} (h : Only g w w') : Apt g w w' := ⟨h.os, h.tape, h.output, by rw [h.size]; exact Nat.le_refl _, fun k _ hk => h.block k hk⟩
theorem Apt.below {g B : Nat} {w w' : World} (h : Apt g w w') (hB : B ≤ g) (hw : B ≤ w.heap.size) : Below B w w' := ⟨h.os, h.tape, h.output, h.size, fun k hk => h.block k (by omega) (by omega)⟩
theorem Apt.only_new {g b : Nat} {w W W' : World} (h : Apt b w W) (ho : Only g W W') (hg : w.heap.size ≤ g) : Apt b w W' := ⟨ho.os.trans h.os, ho.tape.trans h.tape, ho.output.trans h.output, by rw [ho.size]; exact h.size, fun k hk hb => (ho.block k (by omega)).trans (h.block k hk hb)⟩
theorem Apt.drewN {g : Nat} {w w' : World} (h : Apt g w w') (n : Nat) : Apt g w (w'.drewN n) := ⟨h.os, h.tape, h.output, h.size, h.block⟩
theorem CB.apt {w w' : World} {b g : Nat} {cs : List Value} (h : CB w b cs) (ha : Apt g w w') (hb : b ≠ g) : CB w' b cs := h.keep (ha.block b h.lt hb) ha.size
def ChPost (b nm : Nat) (cs : List Value) (s : ByteArray) (f : Nat → List UInt8 → Bool) (w : World) (e : Ending) (w' : World) : Prop :=
  e = .returned (.bool (f nm s.data.toList)) ∧ ∃ cs', CmdAt w' b cs' ∧ Sm cs cs' ∧ Apt b w w'
theorem twice_iff (m : List Mk) : twice m = true ↔ ∃ i k, ∃ (h : i < m.length) (h' : k < i), m[i].b = (m[k]'(by omega)).b := by
  induction m with
  | nil => simp [twice]
  | cons q m ih =>
    rw [twice, Bool.or_eq_true, ih, List.any_eq_true]
    constructor
    · rintro (⟨x, hx, e⟩ | ⟨i, k, h, h', e⟩)
      · obtain ⟨i, hi, rfl⟩ := List.getElem_of_mem hx
        exact ⟨i + 1, 0, by simp; omega, by omega, by simpa using e⟩
      · exact ⟨i + 1, k + 1, by simp; omega, by omega, by simpa using e⟩
    · rintro ⟨i, k, h, h', e⟩
      obtain ⟨i, rfl⟩ : ∃ j, i = j + 1 := ⟨i - 1, by omega⟩
      cases k with
      | zero =>
        left
        refine ⟨m[i]'(by simpa using h), List.getElem_mem _, ?_⟩
        simpa using e
      | succ k =>
        right
        exact ⟨i, k, by simpa using h, by omega, by simpa using e⟩
theorem CmdAt.keep {w w' : World} {b : Nat} {cs : List Value} (h : CmdAt w b cs) (hb : Below w.heap.size w w') : CmdAt w' b cs := ⟨h.1.below hb h.1.lt, h.2⟩
theorem Sm.part {cs : List Value} (h : cs.length = 23) (o : Nat) (vs : List Value) (ho : 14 ≤ o) (hn : o + vs.length ≤ 23) : Sm cs (cs.take o ++ vs ++ cs.drop (o + vs.length)) := by
  have e : ∀ j, j < 14 → (cs.take o ++ vs ++ cs.drop (o + vs.length))[j]? = cs[j]? := fun j hj => by
    rw [List.append_assoc, List.getElem?_append_left (by rw [List.length_take]; omega), List.getElem?_take, if_pos (by omega)]
  exact ⟨by simp; omega, e 0 (by omega), e 11 (by omega), e 13 (by omega)⟩
theorem cb_storeAt {ops : Array Oper} {rest : List Oper} {op : Oper} {a : Act} {w : World} {Q : Exit → Act → World → Prop} {g n : Nat} {cs vs : List Value} {T : TypeId} (hT : RowT T n) (hb : CB w g cs) (o : Nat) (hgd : op.guard = none) (x y : Operand) (ho : op.op = .store T x y) (hx : a.eval x = .pointer (some ⟨g, o, none⟩)) (hy : a.eval y = .agg vs.toArray) (hl : vs.length = n) (hn : o + n ≤ cs.length) (h1 : ∀ v ∈ vs, v.oneCell' = true)
    (h : ∀ w', CB w' g (cs.take o ++ vs ++ cs.drop (o + n)) → Only g w w' → wpList Try.prog ops Q rest (a.put op.dst undef) w') : wpList Try.prog ops Q (op :: rest) a w :=
  cb_store hT hb hl hn h1 hgd x y ho hx hy h
set_option maxRecDepth 100000 in
set_option maxHeartbeats 1000000 in
theorem change_calls (b nm : Nat) (cs : List Value) (s : ByteArray) (w : World) (hs : s.size ≤ 400) (hb : CmdAt w b cs) (hnm : cs[11]? = some (.int .u8 nm)) (hn2 : nm < 256) :
    Calls Try.prog 27 #[.pointer (some ⟨b, 0, none⟩), .string s] w fun e w' => ChPost b nm cs s changeM w e w' := by
  by_cases h0 : s.size = 0
  · have he : s.toList.isEmpty = true := by rw [empty_iff]; exact decide_eq_true h0
    have HF : Hid (changeM nm s.data.toList = false) := by
      have hl := ba_len s
      show _ = _
      rw [List.length_eq_zero_iff.1 (hl.trans h0)]; rfl
    clear h0
    go_enter Try.func27, Try.ntmps27
    go_wp2
    go_ret
    exact ⟨ret_bool (by rw [HF.out]), cs, hb, Sm.refl hb.2, Apt.refl _ _⟩
  have he : s.toList.isEmpty = false := by rw [empty_iff]; exact decide_eq_false h0
  have hp0 : 0 < s.size := by omega
  have hp1 : (0 : Int) < (s.size : Int) := by omega
  obtain ⟨x, hx⟩ : ∃ x : Nat, s[0].toNat = x := ⟨_, rfl⟩
  have hxc : x < 256 := by rw [← hx]; exact s[0].toNat_lt
  have HG : Hid (s.data.toList = s[0] :: s.data.toList.drop 1) := by
    have e := get_drop s 0 hp0
    rw [List.drop_zero] at e
    exact e
  by_cases h47 : x = 47
  · have HCH : Hid (changeM nm s.data.toList = chgA nm (uptoM (s.data.toList.drop 1))) := by
      show _ = _
      rw [HG.out, changeM, if_pos (by rw [hx]; exact h47), ← HG.out]
    have hne : ((x : Int) != 47) = false := by simp [h47]
    clear h47 h0
    go_enter Try.func27, Try.ntmps27
    go_wp2_with fail
    have HC := upto_calls s 1 w (by omega) (by omega)
    rw [show ((1 : Nat) : Int) = 1 from rfl] at HC
    refine HC.mono ?_
    clear HC
    rintro e w1 ⟨b1, ⟨hno, rfl⟩ | ⟨l, p, a, c, hsome, hq0, hq1, hlq, rfl, hown⟩⟩
    · have HF : Hid (changeM nm s.data.toList = false) := by show _ = _; rw [HCH.out, hno]; rfl
      clear hno HCH
      go_wp2
      go_ret
      exact ⟨ret_bool (by rw [HF.out]), cs, hb.keep b1, Sm.refl hb.2, Apt.of_below b1⟩
    · have HCH2 : Hid (changeM nm s.data.toList = chgB nm l (uptoM (s.data.toList.drop p))) := by show _ = _; rw [HCH.out, hsome]; rfl
      clear hsome HCH
      have hp2 : ¬ (p : Int) < 0 := by omega
      go_wp2_with fail
      refine (upto_calls s p w1 (by omega) hq1).mono ?_
      rintro e w2 ⟨b2, ⟨hno, rfl⟩ | ⟨l2, q, a2, c2, hsome, hr0, hr1, hlr, rfl, hown2⟩⟩
      · have HF : Hid (changeM nm s.data.toList = false) := by show _ = _; rw [HCH2.out, hno]; rfl
        clear hno HCH2
        go_wp2
        go_ret
        exact ⟨ret_bool (by rw [HF.out]), cs, (hb.keep b1).keep b2, Sm.refl hb.2, (Apt.of_below b1).trans (Apt.of_below b2)⟩
      · have HCH3 : Hid (changeM nm s.data.toList = if nm = 115 then (expM l).isSome && flagsM (s.data.toList.drop q) else !twice l && (!l.isEmpty && (l.length == l2.length && (s.data.toList.drop q).isEmpty))) := by show _ = _; rw [HCH2.out, hsome]; rfl
        clear hsome HCH2
        have hq2 : ¬ (q : Int) < 0 := by omega
        have hA := (hb.keep b1).keep b2
        have HA : Hid (CmdAt w2 b cs ∧ Apt b w w2) := ⟨hA, (Apt.of_below b1).trans (Apt.of_below b2)⟩
        have hcap := own_cap0 hown
        have hown' := ownsRow_below hown b2
        have hmk := marksAt_own hown'
        have c11 := hA.1.c 11 _ hnm
        clear hown hown' hown2 hA b1 b2
        by_cases h115 : nm = 115
        · have HCH4 : Hid (changeM nm s.data.toList = ((expM l).isSome && flagsM (s.data.toList.drop q))) := by show _ = _; rw [HCH3.out, if_pos h115]
          have h1 : ((nm : Int) == 115) = true := by simp [h115]
          clear h115 HCH3
          go_wp2_with fail
          refine (expression_calls _ _ _ l w2 hmk (by omega) hcap).mono ?_
          rintro e w3 ⟨hd, tl, a3, n3, c3, b3, hor⟩
          have HA3 : Hid (CmdAt w3 b cs ∧ Apt b w w3) := ⟨HA.out.1.keep b3, HA.out.2.trans (Apt.of_below b3)⟩
          have hbn : CB (w3.alloc (.cells #[.bool false, .bool false, .slice none 0 0] 40)) w3.heap.size [.bool false, .bool false, .slice none 0 0] := CB.new w3 _ _ (by simp [Value.oneCell'])
          have HA4 : Hid (CmdAt (w3.alloc (.cells #[.bool false, .bool false, .slice none 0 0] 40)) b cs ∧ Apt b w (w3.alloc (.cells #[.bool false, .bool false, .slice none 0 0] 40))) :=
            ⟨HA3.out.1.keep ((Below.refl _ _).alloc (Nat.le_refl _) _), HA3.out.2.trans (Apt.of_below ((Below.refl _ _).alloc (Nat.le_refl _) _))⟩
          have hbw3 := HA3.out.1.1.lt
          have hww3 := HA3.out.2.size
          obtain ⟨ok, hok⟩ : ∃ ok, (expM l).isSome = ok := ⟨_, rfl⟩
          rw [hok] at HCH4
          have hor2 : e = .returned (.tuple #[.agg #[.bool hd, .bool tl, .slice a3 n3 c3], .bool ok]) := by
            rcases hor with ⟨hex, rfl⟩ | ⟨L, hex, rfl, rfl, -⟩
            · rw [hex] at hok; rw [← hok]; rfl
            · rw [hex] at hok; rw [← hok]; rfl
          clear hor hok HA HA3 c11 hmk
          subst hor2
          generalize hW : w3.alloc (.cells #[.bool false, .bool false, .slice none 0 0] 40) = W3 at *
          have hlen := HA4.out.1.2
          have hg3 : w3.heap.size ≠ b := by omega
          obtain ⟨g3, hg3'⟩ : ∃ g, w3.heap.size = g := ⟨_, rfl⟩
          rw [hg3'] at hbn hg3
          have hbc := HA4.out.1.1
          have hq3 : (q : Int) ≤ (s.size : Int) := by omega
          have HZ : Hid ((s.extract q s.size).size ≤ 400) := by show _ ≤ _; rw [ByteArray.size_extract]; omega
          have HZ2 : Hid ((s.extract q s.size).data.toList = s.data.toList.drop q) := dropx s q
          go_wp2_with (first
            | (refine cb_store0 rtExp hbn rfl rfl _ _ rfl rfl rfl rfl (by simp [Value.oneCell']) ?_; intro w5 hb5 O5; have hbc5 := hbc.keep (O5.block _ (Ne.symm hg3)) (by rw [O5.size]; exact Nat.le_refl _))
            | refine cb_load0 rtExp hb5 rfl rfl _ rfl rfl ?_
            | (refine cb_storeAt rtExp hbc5 14 rfl _ _ rfl rfl rfl rfl (by omega) (by simp [Value.oneCell']) ?_
               intro w6 hb6 O6
               obtain ⟨v17, c17⟩ := hb6.get 17 (by simp; omega)
               have f17 := hb6.fz 17 (by simp; omega)))
          have hS6 : Sm cs (cs.take 14 ++ [.bool hd, .bool tl, .slice a3 n3 c3] ++ cs.drop (14 + 3)) := Sm.part hlen 14 [.bool hd, .bool tl, .slice a3 n3 c3] (by omega) (by simp)
          generalize cs.take 14 ++ [.bool hd, .bool tl, .slice a3 n3 c3] ++ cs.drop (14 + 3) = cs6 at *
          have hb7 : CmdAt (w6.setCell ⟨b, 17, none⟩ (.slice a2 l2.length c2)) b (cs6.set 17 (.slice a2 l2.length c2)) := ⟨hb6.set 17 (by rw [hS6.1]; omega) _ rfl, by rw [List.length_set]; exact hS6.1⟩
          have HP7 : Hid (Sm cs (cs6.set 17 (.slice a2 l2.length c2)) ∧ Apt b w (w6.setCell ⟨b, 17, none⟩ (.slice a2 l2.length c2))) :=
            ⟨hS6.trans (Sm.set hS6.1 17 _ (by decide) (by decide) (by decide)), by
              exact (HA4.out.2.only_new O5 (by omega)).trans ((Apt.of_only O6).trans (Apt.of_only (Only.set _ _ _ _)))⟩
          clear hb5 O5 hbc5 O6 c17 f17 hb6 hS6 hbc hbn HA4
          refine (flags_calls b _ _ _ HZ.out hb7).mono ?_
          rintro e w8 ⟨rfl, cs8, hc8, hs8, O8⟩
          rw [HZ2.out]
          cases ok
          · have HF : Hid (changeM nm s.data.toList = false) := by show _ = _; rw [HCH4.out]; rfl
            go_wp2
            go_ret
            exact ⟨ret_bool (by rw [HF.out]), cs8, hc8, HP7.out.1.trans hs8, HP7.out.2.trans (Apt.of_only O8)⟩
          · have HF : Hid (changeM nm s.data.toList = flagsM (s.data.toList.drop q)) := by show _ = _; rw [HCH4.out]; rfl
            generalize flagsM (s.data.toList.drop q) = fl at *
            go_wp2
            go_ret
            exact ⟨ret_bool (by rw [HF.out]), cs8, hc8, HP7.out.1.trans hs8, HP7.out.2.trans (Apt.of_only O8)⟩
        · have HCH4 : Hid (changeM nm s.data.toList = (!twice l && (!l.isEmpty && (l.length == l2.length && (s.data.toList.drop q).isEmpty)))) := by show _ = _; rw [HCH3.out, if_neg h115]
          have h1 : ((nm : Int) == 115) = false := by simp; omega
          clear h115 HCH3
          have HMK : Hid (∀ i (h : i < l.length), ∃ b' off, a = some ⟨b', off, none⟩ ∧ b' < w2.heap.size ∧ w2.cell? ⟨b', off + i * 2, none⟩ = some (.int .i64 l[i].b)) := fun i h => by
            obtain ⟨b', off, e1, e2, e3, e4⟩ := hmk.get h
            exact ⟨b', off, e1, e2, e3⟩
          obtain ⟨n, hn⟩ : ∃ n, l.length = n := ⟨_, rfl⟩
          have HLN : Hid (l.length = n) := hn
          rw [hn] at hlq hcap ⊢
          clear hmk hn
          go_wp2_with fail
          go_loopw [12, 13] (fun v12 _ wr => ∃ i : Nat, i ≤ n ∧ v12 = .int .i64 i ∧ Hid (∀ i' k' (h : i' < l.length) (h2 : k' < i'), i' < i → l[i'].b ≠ (l[k']'(by omega)).b) ∧ Hid (CmdAt wr b cs ∧ Apt b w wr ∧ ∀ i (h : i < l.length), ∃ b' off, a = some ⟨b', off, none⟩ ∧ b' < wr.heap.size ∧ wr.cell? ⟨b', off + i * 2, none⟩ = some (.int .i64 l[i].b))) (fun v12 _ _ => n - (intOf v12).toNat)
          case atStart => exact ⟨0, Nat.zero_le _, rfl, fun _ _ _ _ h => by omega, HA.out.1, HA.out.2, HMK.out⟩
          case round =>
            clear HA HMK c11
            obtain ⟨i, hi, rfl, HP, HW⟩ := hrel
            by_cases hin : i < n
            · have hin1 : (i : Int) < (n : Int) := by omega
              go_wp2_with fail
              go_loopw [13] (fun v13 wr => ∃ k : Nat, k ≤ i ∧ v13 = .int .i64 k ∧ Hid (∀ k' (h : i < l.length) (h2 : k' < i), k' < k → l[i].b ≠ (l[k']'(by omega)).b) ∧ Hid (CmdAt wr b cs ∧ Apt b w wr ∧ ∀ i (h : i < l.length), ∃ b' off, a = some ⟨b', off, none⟩ ∧ b' < wr.heap.size ∧ wr.cell? ⟨b', off + i * 2, none⟩ = some (.int .i64 l[i].b))) (fun v13 _ => i - (intOf v13).toNat)
              case atStart => exact ⟨0, Nat.zero_le _, rfl, fun _ _ _ h => by omega, HW.out⟩
              case round =>
                clear HW
                obtain ⟨k, hk, rfl, HP2, HW⟩ := hrel
                by_cases hki : k < i
                · have hki1 : (k : Int) < (i : Int) := by omega
                  have hk1 : (k : Int) < (n : Int) := by omega
                  have h01 : (0 : Int) ≤ (k : Int) := by omega
                  have h02 : (0 : Int) ≤ (i : Int) := by omega
                  have hil : i < l.length := by rw [HLN.out]; omega
                  have hkl : k < l.length := by omega
                  obtain ⟨b', off, rfl, hb', d0⟩ := HW.out.2.2 i hil
                  obtain ⟨b'', off', hbo, hb'', d1⟩ := HW.out.2.2 k hkl
                  simp only [Option.some.injEq, Addr.mk.injEq, and_true] at hbo
                  obtain ⟨rfl, rfl⟩ := hbo
                  obtain ⟨y0, hy0⟩ : ∃ y, l[i].b = y := ⟨_, rfl⟩
                  obtain ⟨y1, hy1⟩ : ∃ y, l[k].b = y := ⟨_, rfl⟩
                  rw [hy0] at d0
                  rw [hy1] at d1
                  have HY : Hid (l[i].b = y0 ∧ l[k].b = y1) := ⟨hy0, hy1⟩
                  clear hy0 hy1
                  by_cases heq : y0 = y1
                  · have HF : Hid (changeM nm s.data.toList = false) := by
                      show _ = _
                      have : twice l = true := (twice_iff l).2 ⟨i, k, hil, hki, by rw [HY.out.1, HY.out.2]; exact heq⟩
                      rw [HCH4.out, this]; rfl
                    have he1 : ((y0 : Int) == (y1 : Int)) = true := by simp [heq]
                    clear heq
                    go_wp2_with fail
                    go_quiet (fail)
                    go_wp2
                    go_ret
                    exact ⟨ret_bool (by rw [HF.out]), cs, ⟨HW.out.1.1.keep rfl (Nat.le_refl _), HW.out.1.2⟩, Sm.refl HW.out.1.2, HW.out.2.1.drewN _⟩
                  · have he1 : ((y0 : Int) == (y1 : Int)) = false := by simp; omega
                    have HP3 : Hid (∀ k' (h : i < l.length) (h2 : k' < i), k' < k + 1 → l[i].b ≠ (l[k']'(by omega)).b) := fun k' h h2 h3 => by
                      by_cases e : k' = k
                      · subst e; rw [HY.out.1, HY.out.2]; exact heq
                      · exact HP2.out k' h h2 (by omega)
                    clear heq HP2
                    go_wp2_with fail
                    go_quiet (fail)
                    go_wp2
                    go_roundw
                    case rel => exact ⟨k + 1, by omega, by go_num, HP3.out, ⟨HW.out.1.1.keep rfl (Nat.le_refl _), HW.out.1.2⟩, HW.out.2.1.drewN _, HW.out.2.2⟩
                    case measure => first | (simp [intOf]; done) | (simp [intOf]; omega)
                · obtain rfl : k = i := by omega
                  have HP3 : Hid (∀ i' k' (h : i' < l.length) (h2 : k' < i'), i' < k + 1 → l[i'].b ≠ (l[k']'(by omega)).b) := fun i' k' h h2 h3 => by
                    by_cases e : i' = k
                    · subst e; exact HP2.out k' h h2 h2
                    · exact HP.out i' k' h h2 (by omega)
                  clear HP HP2
                  go_wp2
                  go_roundw
                  case rel => exact ⟨k + 1, by omega, by go_num, HP3.out, HW.out⟩
                  case measure => first | (simp [intOf]; done) | (simp [intOf]; omega)
            · obtain rfl : i = n := by omega
              have HTW : Hid (twice l = false) := by
                show _ = _
                rw [Bool.eq_false_iff]
                intro h
                obtain ⟨i', k', h1, h2, e⟩ := (twice_iff l).1 h
                exact HP.out i' k' h1 h2 (by rw [← HLN.out]; exact h1) e
              have hc21 := HW.out.1.1.get 21 (by have := HW.out.1.2; omega)
              obtain ⟨v21, c21⟩ := hc21
              have f21 := HW.out.1.1.fz 21 (by have := HW.out.1.2; omega)
              have hA1 := HW.out.1.1.set 21 (by have := HW.out.1.2; omega) (.slice a i c) rfl
              obtain ⟨v22, c22⟩ := hA1.get 22 (by have := HW.out.1.2; simp; omega)
              have f22 := hA1.fz 22 (by have := HW.out.1.2; simp; omega)
              have hA2 : Hid (CmdAt ((wr.setCell ⟨b, 21, none⟩ (.slice a i c)).setCell ⟨b, 22, none⟩ (.slice a2 l2.length c2)) b ((cs.set 21 (.slice a i c)).set 22 (.slice a2 l2.length c2))) := ⟨hA1.set 22 (by have := HW.out.1.2; simp; omega) _ rfl, by rw [List.length_set, List.length_set]; exact HW.out.1.2⟩
              have HS2 : Hid (Sm cs ((cs.set 21 (.slice a i c)).set 22 (.slice a2 l2.length c2)) ∧ Apt b w ((wr.setCell ⟨b, 21, none⟩ (.slice a i c)).setCell ⟨b, 22, none⟩ (.slice a2 l2.length c2))) :=
                ⟨(Sm.set HW.out.1.2 21 _ (by decide) (by decide) (by decide)).trans (Sm.set (by rw [List.length_set]; exact HW.out.1.2) 22 _ (by decide) (by decide) (by decide)), HW.out.2.1.trans ((Apt.of_only (Only.set _ _ _ _)).trans (Apt.of_only (Only.set _ _ _ _)))⟩
              have HV : Hid (changeM nm s.data.toList = (!decide (i = 0) && (decide (i = l2.length) && decide (q = s.size)))) := by
                show _ = _
                have e1 : l.isEmpty = decide (i = 0) := by
                  rw [← HLN.out]
                  cases l <;> simp
                have e2 : (l.length == l2.length) = decide (i = l2.length) := by rw [HLN.out]; rfl
                have e3 : (s.data.toList.drop q).isEmpty = decide (q = s.size) := by
                  rw [Bool.eq_iff_iff, List.isEmpty_iff, decide_eq_true_iff, List.drop_eq_nil_iff, ba_len]
                  omega
                rw [HCH4.out, HTW.out, e1, e2, e3]; rfl
              clear HCH4 HTW HP hA1
              by_cases z1 : i = 0
              · have HF : Hid (changeM nm s.data.toList = false) := by show _ = _; rw [HV.out, decide_eq_true z1]; rfl
                have z2 : ¬ (0 : Int) < (i : Int) := by omega
                clear z1 HV
                go_wp2
                go_ret
                exact ⟨ret_bool (by rw [HF.out]), _, hA2.out, HS2.out.1, HS2.out.2⟩
              · have z2 : (0 : Int) < (i : Int) := by omega
                by_cases z3 : i = l2.length
                · have z4 : ((i : Int) == (l2.length : Int)) = true := by simp [z3]
                  by_cases z5 : q = s.size
                  · have HF : Hid (changeM nm s.data.toList = true) := by show _ = _; rw [HV.out, decide_eq_false z1, decide_eq_true z3, decide_eq_true z5]; rfl
                    have z6 : ((q : Int) == (s.size : Int)) = true := by simp [z5]
                    clear z1 z3 z5 HV
                    go_wp2
                    go_ret
                    exact ⟨ret_bool (by rw [HF.out]), _, hA2.out, HS2.out.1, HS2.out.2⟩
                  · have HF : Hid (changeM nm s.data.toList = false) := by show _ = _; rw [HV.out, decide_eq_false z5]; simp
                    have z6 : ((q : Int) == (s.size : Int)) = false := by simp; omega
                    clear z1 z3 z5 HV
                    go_wp2
                    go_ret
                    exact ⟨ret_bool (by rw [HF.out]), _, hA2.out, HS2.out.1, HS2.out.2⟩
                · have z4 : ((i : Int) == (l2.length : Int)) = false := by simp; omega
                  have HF : Hid (changeM nm s.data.toList = false) := by show _ = _; rw [HV.out, decide_eq_false z3]; simp
                  clear z1 z3 HV
                  go_wp2
                  go_ret
                  exact ⟨ret_bool (by rw [HF.out]), _, hA2.out, HS2.out.1, HS2.out.2⟩
  · have HF : Hid (changeM nm s.data.toList = false) := by
      show _ = _
      rw [HG.out, changeM, if_neg (by rw [hx]; exact h47)]
    have hne : ((x : Int) != 47) = true := by simp; omega
    clear h47 h0
    go_enter Try.func27, Try.ntmps27
    go_wp2
    go_ret
    exact ⟨ret_bool (by rw [HF.out]), cs, hb, Sm.refl hb.2, Apt.refl _ _⟩
end Go.Proofs.Ytlppphmnegdhoab
