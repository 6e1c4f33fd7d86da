import Derived.Test.YtlppphmnegdhoabMg12
/-
  The document's scripts: command.
-/
namespace Go.Proofs.Ytlppphmnegdhoab
set_option linter.unusedVariables false
set_option maxRecDepth 100000
open Go.RowKit
open M

theorem rtCmd : RowT 45 23 := ⟨⟨_, Try.underlying45, rfl⟩, by kernel_rfl⟩
def zCmd : List Value := [.int .i64 0, .int .i64 0, .bool false, .bool false, .slice none 0 0, .int .i64 0, .int .i64 0, .bool false, .bool false, .slice none 0 0, .bool false, .int .u8 0, .string ⟨#[]⟩, .string ⟨#[]⟩, .bool false, .bool false, .slice none 0 0, .slice none 0 0, .int .i64 0, .bool false, .bool false, .slice none 0 0, .slice none 0 0]
theorem infoCmd : (Try.prog.info? 45).map (fun i => (i.zero, i.size, i.bytes)) = some (some (.agg zCmd.toArray), 23, 256) := by kernel_rfl
theorem zCmd_one : ∀ v ∈ zCmd, v.oneCell' = true := by decide
/-- a command's name and label among its cells -/
def CmdC (cs : List Value) (c : Nat × List UInt8) : Prop := cs.length = 23 ∧ (∀ v ∈ cs, v.oneCell' = true) ∧ cs[11]? = some (.int .u8 c.1) ∧ c.1 < 256 ∧ ∃ t : ByteArray, cs[13]? = some (.string t) ∧ t.data.toList = c.2
def CdPost (s : ByteArray) (w : World) (e : Ending) (w' : World) : Prop :=
  Below w.heap.size w w' ∧ ∃ cs : List Value, cs.length = 23 ∧ (∀ v ∈ cs, v.oneCell' = true) ∧
    ((cmdM s.data.toList = none ∧ e = .returned (.tuple #[.agg cs.toArray, .bool false])) ∨ ∃ c, cmdM s.data.toList = some c ∧ CmdC cs c ∧ e = .returned (.tuple #[.agg cs.toArray, .bool true]))
/-- all that 'command' holds -/
structure DInv (h0 g5 k : Nat) (w wx : World) (vs cs : List Value) : Prop where
  res : CB wx h0 zCmd
  c : CB wx (h0 + 1) cs
  a : CB wx g5 vs
  len : cs.length = 23
  below : Below h0 w wx
  far : h0 + 2 ≤ g5
  k0 : cs[0]? = some (.int .i64 k)
  v0 : vs[0]? = some (.int .i64 k)
  l13 : cs[13]? = some (.string ⟨#[]⟩)
theorem DInv.set {h0 g5 k : Nat} {w wx : World} {vs cs : List Value} (h : DInv h0 g5 k w wx vs cs) (j : Nat) (hj : j < 23) (u : Value) (hu : u.oneCell' = true) (j0 : j ≠ 0) (j13 : j ≠ 13) : DInv h0 g5 k w (wx.setCell ⟨h0 + 1, j, none⟩ u) vs (cs.set j u) := by
  have hf := h.far
  refine ⟨h.res.keep (heap_setCell_other _ _ _ _ (by simp)) (by simp), h.c.set j (by rw [h.len]; exact hj) u hu, h.a.keep (heap_setCell_other _ _ _ _ (by simp; omega)) (by simp), by rw [List.length_set]; exact h.len, h.below.setCell (by simp) _, h.far, by rw [List.getElem?_set_ne (by omega)]; exact h.k0, h.v0, by rw [List.getElem?_set_ne (by omega)]; exact h.l13⟩
theorem DInv.keep {h0 g5 k : Nat} {w wx w' : World} {vs cs : List Value} (h : DInv h0 g5 k w wx vs cs) (hb : Below wx.heap.size wx w') : DInv h0 g5 k w w' vs cs := by
  have h1 := h.a.lt
  have hf := h.far
  exact ⟨h.res.below hb h.res.lt, h.c.below hb h.c.lt, h.a.below hb h1, h.len, h.below.trans (hb.mono (by omega)), h.far, h.k0, h.v0, h.l13⟩
theorem stB_at (s : ByteArray) (q c : Nat) (h : q < s.size) : stB (s.data.toList.drop q) c = (s[q].toNat == c) := by rw [get_drop s q h]; rfl
theorem stB_off (s : ByteArray) (q c : Nat) (h : s.size ≤ q) : stB (s.data.toList.drop q) c = false := by rw [List.drop_of_length_le (by rw [ba_len]; omega)]; rfl
set_option maxRecDepth 100000 in
set_option maxHeartbeats 4000000 in
theorem command_calls (s : ByteArray) (w : World) (hs : s.size ≤ 400) :
    Calls Try.prog 10 #[.string s] w fun e w' => CdPost s w e w' := by
  have hr0 : CB (w.alloc (.cells zCmd.toArray 45)) w.heap.size zCmd := CB.new w _ _ zCmd_one
  have hr1 : CB ((w.alloc (.cells zCmd.toArray 45)).alloc (.cells zCmd.toArray 45)) w.heap.size zCmd := hr0.below ((Below.refl _ _).alloc (Nat.le_refl _) _) hr0.lt
  have hc1 : CB ((w.alloc (.cells zCmd.toArray 45)).alloc (.cells zCmd.toArray 45)) (w.heap.size + 1) zCmd := by
    have := CB.new (w.alloc (.cells zCmd.toArray 45)) 45 zCmd.toArray zCmd_one
    have e : (w.alloc (.cells zCmd.toArray 45)).heap.size = w.heap.size + 1 := by simp
    rw [e] at this; exact this
  have B1 : Below w.heap.size w ((w.alloc (.cells zCmd.toArray 45)).alloc (.cells zCmd.toArray 45)) := ((Below.refl _ _).alloc (Nat.le_refl _) _).alloc (by simp) _
  have hsz1 : ((w.alloc (.cells zCmd.toArray 45)).alloc (.cells zCmd.toArray 45)).heap.size = w.heap.size + 2 := by simp
  go_enter Try.func10, Try.ntmps10
  go_wp2_with fail
  change Calls _ _ _ ((w.alloc (.cells zCmd.toArray 45)).alloc (.cells zCmd.toArray 45)) _
  generalize ((w.alloc (.cells zCmd.toArray 45)).alloc (.cells zCmd.toArray 45)) = W at *
  clear hr0
  have HC := address_calls s 0 W hs (Nat.zero_le _)
  rw [show ((0 : Nat) : Int) = 0 from rfl] at HC
  refine HC.mono ?_
  clear HC
  rintro e w2 ⟨b2, vs, hvl, hv1, hor⟩
  have hr2 := hr1.below b2 hr1.lt
  have hc2 := hc1.below b2 hc1.lt
  have hsz2 := b2.size
  have B2 := B1.trans (b2.mono (by omega))
  have hzA : CB (w2.alloc (.cells #[.int .i64 0, .int .i64 0, .bool false, .bool false, .slice none 0 0] 42)) w2.heap.size [.int .i64 0, .int .i64 0, .bool false, .bool false, .slice none 0 0] := CB.new w2 _ _ (by simp [Value.oneCell'])
  have hr3 : CB (w2.alloc (.cells #[.int .i64 0, .int .i64 0, .bool false, .bool false, .slice none 0 0] 42)) w.heap.size zCmd := hr2.below ((Below.refl _ _).alloc (Nat.le_refl _) _) hr2.lt
  have hc3 : CB (w2.alloc (.cells #[.int .i64 0, .int .i64 0, .bool false, .bool false, .slice none 0 0] 42)) (w.heap.size + 1) zCmd := hc2.below ((Below.refl _ _).alloc (Nat.le_refl _) _) hc2.lt
  have B3 := B2.alloc (o := .cells #[.int .i64 0, .int .i64 0, .bool false, .bool false, .slice none 0 0] 42) (by omega)
  generalize hW3 : w2.alloc (.cells #[.int .i64 0, .int .i64 0, .bool false, .bool false, .slice none 0 0] 42) = W3 at *
  obtain ⟨g5, hg5⟩ : ∃ g, w2.heap.size = g := ⟨_, rfl⟩
  rw [hg5] at hzA
  have hgb : w.heap.size + 2 ≤ g5 := by omega
  clear hr1 hc1 B1 b2 hr2 hc2 B2 hsz1 hsz2
  rcases hor with ⟨hno, rfl⟩ | ⟨k, q, hsome, hpq, hqs, hk3, hv0, rfl⟩
  · have HCM : Hid (cmdM s.data.toList = none) := by
      show _ = _
      rw [List.drop_zero] at hno
      unfold cmdM; rw [hno]; rfl
    clear hno
    go_wp2_with (first
      | (refine cb_store0 rtAddr hzA rfl rfl _ _ rfl rfl rfl hvl hv1 ?_; intro w5 hb5 O5; have hc5 := hc3.keep (O5.block _ (by omega)) (by rw [O5.size]; exact Nat.le_refl _); have hr5 := hr3.keep (O5.block _ (by omega)) (by rw [O5.size]; exact Nat.le_refl _))
      | refine cb_load0 rtCmd hc5 rfl rfl _ rfl rfl ?_
      | (refine cb_store0 rtCmd hr5 rfl rfl _ _ rfl rfl rfl rfl zCmd_one ?_; intro w6 hb6 O6))
    refine bodyPost_ret (results_cb rfl _ _ _ _ rfl rtCmd hb6 rfl) rfl ?_
    exact ⟨(B3.trans (O5.below (by omega))).trans (O6.below (Nat.le_refl _)), zCmd, rfl, zCmd_one, .inl ⟨HCM.out, rfl⟩⟩
  · have HCM : Hid (cmdM s.data.toList = cmdB k (secM k (s.data.toList.drop q))) := by
      show _ = _
      rw [List.drop_zero] at hsome
      unfold cmdM; rw [hsome]; rfl
    clear hsome
    have hq1 : ¬ (q : Int) < 0 := by omega
    have hlz : zCmd.length = 23 := rfl
    obtain ⟨v0', v1', v2', v3', v4', hvs⟩ : ∃ a b c d e, vs = [a, b, c, d, e] := by
      match vs, hvl with
      | [a, b, c, d, e], _ => exact ⟨a, b, c, d, e, rfl⟩
    subst hvs
    obtain rfl : v0' = .int .i64 k := by simpa using hv0
    go_upto_region 6 with (first
      | (refine cb_store0 rtAddr hzA rfl rfl _ _ rfl rfl rfl hvl hv1 ?_; intro w5 hb5 O5; have hc5 := hc3.keep (O5.block _ (by omega)) (by rw [O5.size]; exact Nat.le_refl _); have hr5 := hr3.keep (O5.block _ (by omega)) (by rw [O5.size]; exact Nat.le_refl _))
      | refine cb_load0 rtAddr hb5 rfl rfl _ rfl rfl ?_
      | (refine cb_storeAt rtAddr hc5 0 rfl _ _ rfl rfl rfl hvl (by decide) hv1 ?_; intro w6 hb6 O6))
    have hI : DInv w.heap.size g5 k w w6 [.int .i64 k, v1', v2', v3', v4'] (zCmd.take 0 ++ [.int .i64 k, v1', v2', v3', v4'] ++ zCmd.drop (0 + 5)) :=
      ⟨hr5.keep (O6.block _ (by omega)) (by rw [O6.size]; exact Nat.le_refl _), hb6, hb5.keep (O6.block _ (by omega)) (by rw [O6.size]; exact Nat.le_refl _), rfl, (B3.trans (O5.below (by omega))).trans (O6.below (by omega)), hgb, rfl, rfl, rfl⟩
    generalize zCmd.take 0 ++ [.int .i64 k, v1', v2', v3', v4'] ++ zCmd.drop (0 + 5) = cs at *
    generalize ([.int .i64 k, v1', v2', v3', v4'] : List Value) = vs at *
    clear hb5 O5 hc5 hr5 hb6 O6 hzA hr3 hc3 B3 hW3 hg5 hv0 hlz
    simp only [Act.put]
    obtain ⟨WX, hWX⟩ : ∃ W, W = w6 := ⟨_, rfl⟩
    subst hWX
    by_cases hcm : k ≠ 0 ∧ stB (s.data.toList.drop q) 44 = true
    · obtain ⟨hk0, hst⟩ := hcm
      have hq9 := stB_size s q 44 hst
      have HCM2 : Hid (cmdM s.data.toList = cmdB k (secA (addrM (s.data.toList.drop (q + 1))))) := by
        show _ = _
        rw [HCM.out, secM, if_pos ⟨hk0, hst⟩, List.drop_drop]
      have ca := hI.a.c 0 _ hI.v0
      have hal := hI.a.lt
      have hz0 : q < s.size := by omega
      obtain ⟨x, hx⟩ : ∃ x : Nat, s[q].toNat = x := ⟨_, rfl⟩
      have hxc : x < 256 := by rw [← hx]; exact s[q].toNat_lt
      have h441 : ((x : Int) == 44) = true := by
        rw [stB_at s q 44 hz0, hx] at hst
        have : x = 44 := by simpa using hst
        simp [this]
      have hz1 : (q : Int) < (s.size : Int) := by omega
      have hk1 : ((k : Int) != 0) = true := by simp; omega
      clear HCM hst
      go_wp2_with fail
      have HC := address_calls s (q + 1) WX hs hq9
      rw [show ((q + 1 : Nat) : Int) = (q : Int) + 1 from rfl] at HC
      refine HC.mono ?_
      clear HC ca hal
      rintro e w8 ⟨b8, us, hul, hu1, hor⟩
      have hI8 := hI.keep b8
      have hI9 := hI8.keep ((Below.refl w8.heap.size w8).alloc (Nat.le_refl _) (.cells #[.int .i64 0, .int .i64 0, .bool false, .bool false, .slice none 0 0] 42))
      have hzB : CB (w8.alloc (.cells #[.int .i64 0, .int .i64 0, .bool false, .bool false, .slice none 0 0] 42)) w8.heap.size [.int .i64 0, .int .i64 0, .bool false, .bool false, .slice none 0 0] := CB.new w8 _ _ (by simp [Value.oneCell'])
      have hlt8 := hI8.a.lt
      have hlc8 := hI8.c.lt
      obtain ⟨g8, hg8⟩ : ∃ g, w8.heap.size = g := ⟨_, rfl⟩
      rw [hg8] at hzB hlt8 hlc8
      generalize hW9 : w8.alloc (.cells #[.int .i64 0, .int .i64 0, .bool false, .bool false, .slice none 0 0] 42) = W9 at *
      have hc9 := hI9.c
      have hl9 := hI9.len
      have hr9 := hI9.res
      clear hI hI8 b8
      rcases hor with ⟨hno, rfl⟩ | ⟨k2, qn, hsome, hpq2, hqs2, hk32, hu0, rfl⟩
      · have HNN : Hid (cmdM s.data.toList = none) := by show _ = _; rw [HCM2.out, hno]; rfl
        clear hno HCM2
        go_wp2_with (first
          | (refine cb_store0 rtAddr hzB rfl rfl _ _ rfl rfl rfl hul hu1 ?_; intro w10 hb10 O10; have hc10 := hc9.keep (O10.block _ (by omega)) (by rw [O10.size]; exact Nat.le_refl _); have hr10 := hr9.keep (O10.block _ (by omega)) (by rw [O10.size]; exact Nat.le_refl _))
          | refine cb_load0 rtCmd hc10 hl9 rfl _ rfl rfl ?_
          | (refine cb_store0 rtCmd hr10 rfl rfl _ _ rfl rfl rfl hl9 hc10.one ?_; intro w11 hb11 O11))
        refine bodyPost_ret (results_cb rfl _ _ _ _ rfl rtCmd hb11 hl9) rfl ?_
        exact ⟨(hI9.below.trans (O10.below (by omega))).trans (O11.below (Nat.le_refl _)), _, hl9, hc10.one, .inl ⟨HNN.out, rfl⟩⟩
      · obtain ⟨u0, u1, u2, u3, u4, hus⟩ : ∃ a b c d e, us = [a, b, c, d, e] := by
          match us, hul with
          | [a, b, c, d, e], _ => exact ⟨a, b, c, d, e, rfl⟩
        subst hus
        obtain rfl : u0 = .int .i64 k2 := by simpa using hu0
        have hn1 : ¬ (qn : Int) < 0 := by omega
        by_cases hk2 : k2 = 0
        · have HNN : Hid (cmdM s.data.toList = none) := by show _ = _; rw [HCM2.out, hsome, hk2]; rfl
          have hk21 : ((k2 : Int) == 0) = true := by simp [hk2]
          clear hsome HCM2 hk2
          go_wp2_with (first
            | (refine cb_store0 rtAddr hzB rfl rfl _ _ rfl rfl rfl hul hu1 ?_; intro w10 hb10 O10; have hc10 := hc9.keep (O10.block _ (by omega)) (by rw [O10.size]; exact Nat.le_refl _); have hr10 := hr9.keep (O10.block _ (by omega)) (by rw [O10.size]; exact Nat.le_refl _); have cu := hb10.c 0 _ rfl; have hlu := hb10.lt)
            | refine cb_load0 rtCmd hc10 hl9 rfl _ rfl rfl ?_
            | (refine cb_store0 rtCmd hr10 rfl rfl _ _ rfl rfl rfl hl9 hc10.one ?_; intro w11 hb11 O11))
          refine bodyPost_ret (results_cb rfl _ _ _ _ rfl rtCmd hb11 hl9) rfl ?_
          exact ⟨(hI9.below.trans (O10.below (by omega))).trans (O11.below (Nat.le_refl _)), _, hl9, hc10.one, .inl ⟨HNN.out, rfl⟩⟩
        · have HM : Hid (cmdM s.data.toList = nameM k (M.notM k (s.data.toList.drop qn))) := by
            show _ = _
            rw [HCM2.out, hsome, secA, if_neg hk2]; rfl
          have hk21 : ((k2 : Int) == 0) = false := by simp; omega
          clear hsome HCM2 hk2
          go_upto_region 12 with (first
            | (refine cb_store0 rtAddr hzB rfl rfl _ _ rfl rfl rfl hul hu1 ?_; intro w10 hb10 O10; have hc10 := hc9.keep (O10.block _ (by omega)) (by rw [O10.size]; exact Nat.le_refl _); have cu := hb10.c 0 _ rfl; have hlu := hb10.lt)
            | refine cb_load0 rtAddr hb10 rfl rfl _ rfl rfl ?_
            | (refine cb_storeAt rtAddr hc10 5 rfl _ _ rfl rfl rfl hul (by omega) hu1 ?_; intro w11 hb11 O11))
          have hI : DInv w.heap.size g5 k w w11 vs (cs.take 5 ++ [.int .i64 k2, u1, u2, u3, u4] ++ cs.drop (5 + 5)) := by
            have hf := hI9.far
            refine ⟨(hr9.keep (O10.block _ (by omega)) (by rw [O10.size]; exact Nat.le_refl _)).keep (O11.block _ (by omega)) (by rw [O11.size]; exact Nat.le_refl _), hb11, (hI9.a.keep (O10.block _ (by omega)) (by rw [O10.size]; exact Nat.le_refl _)).keep (O11.block _ (by omega)) (by rw [O11.size]; exact Nat.le_refl _), by simp; omega, (hI9.below.trans (O10.below (by omega))).trans (O11.below (by omega)), hf, ?_, hI9.v0, ?_⟩
            · rw [List.append_assoc, List.getElem?_append_left (by rw [List.length_take]; omega), List.getElem?_take, if_pos (by omega)]; exact hI9.k0
            · rw [List.getElem?_append_right (by rw [List.length_append, List.length_take]; simp; omega), List.length_append, List.length_take, List.getElem?_drop]
              have e9 : 5 + 5 + (13 - (min 5 cs.length + ([.int .i64 k2, u1, u2, u3, u4] : List Value).length)) = 13 := by simp; omega
              rw [e9]; exact hI9.l13
          generalize cs.take 5 ++ [.int .i64 k2, u1, u2, u3, u4] ++ cs.drop (5 + 5) = cs at *
          clear hb10 O10 hc10 cu hlu hb11 O11 hI9 hc9 hl9 hr9 hzB hW9 hg8 hk1 h441 hz1 hk0 hk21
          try simp only [Act.put]
          obtain ⟨WX, hWX⟩ : ∃ W, W = w11 := ⟨_, rfl⟩
          subst hWX
          obtain ⟨bang, hbang⟩ : ∃ bg, (decide (k ≠ 0) && stB (s.data.toList.drop qn) 33) = bg := ⟨_, rfl⟩
          have HBG : Hid ((decide (k ≠ 0) && stB (s.data.toList.drop qn) 33) = bang) := hbang
          have ca := hI.a.c 0 _ hI.v0
          have hal := hI.a.lt
          clear hbang
          go_upto_region 12 with fail
          go_cut [67] (fun t wx => t = .bool bang ∧ wx = WX)
          case first =>
            by_cases hk0 : k = 0
            · have hk1 : ((k : Int) != 0) = false := by simp [hk0]
              have HB2 : Hid (bang = false) := by show _ = _; rw [← HBG.out, hk0]; rfl
              clear hk0
              go_wp2
              go_meet
              exact ⟨by rw [HB2.out], rfl⟩
            · have hk1 : ((k : Int) != 0) = true := by simp; omega
              by_cases hz : qn < s.size
              · have hz1 : (qn : Int) < (s.size : Int) := by omega
                obtain ⟨x, hx⟩ : ∃ x : Nat, s[qn].toNat = x := ⟨_, rfl⟩
                have hxc : x < 256 := by rw [← hx]; exact s[qn].toNat_lt
                have HB2 : Hid (bang = (x == 33)) := by show _ = _; rw [← HBG.out, stB_at s qn 33 hz, hx, decide_eq_true hk0]; rfl
                clear hk0
                by_cases h33 : x = 33
                · have h331 : ((x : Int) == 33) = true := by simp [h33]
                  have HB3 : Hid (bang = true) := by show _ = _; rw [HB2.out, h33]; rfl
                  clear h33
                  go_wp2
                  go_meet
                  exact ⟨by rw [HB3.out], rfl⟩
                · have h331 : ((x : Int) == 33) = false := by simp; omega
                  have HB3 : Hid (bang = false) := by show _ = _; rw [HB2.out]; simpa using h33
                  clear h33
                  go_wp2
                  go_meet
                  exact ⟨by rw [HB3.out], rfl⟩
              · have hz1 : ¬ (qn : Int) < (s.size : Int) := by omega
                have HB2 : Hid (bang = false) := by show _ = _; rw [← HBG.out, stB_off s qn 33 (by omega)]; simp
                clear hk0
                go_wp2
                go_meet
                exact ⟨by rw [HB2.out], rfl⟩
          case rest =>
            obtain ⟨rfl, rfl⟩ := hcut
            cases bang
            · have HN : Hid (cmdM s.data.toList = nameM k (s.data.toList.drop qn)) := by
                show _ = _
                rw [HM.out, M.notM]
                split
                · rename_i h
                  have := HBG.out
                  rw [h.2, decide_eq_true h.1] at this; cases this
                · rfl
              clear HM HBG
              have hE : qn ≤ s.size := by omega
              by_cases hz : qn < s.size
              · have hz1 : ¬ (s.size : Int) ≤ (qn : Int) := by omega
                have hz2 : (qn : Int) < (s.size : Int) := by omega
                have hz3 : (qn : Int) + 1 ≤ (s.size : Int) := by omega
                obtain ⟨x, hx⟩ : ∃ x : Nat, s[qn].toNat = x := ⟨_, rfl⟩
                have hxc : x < 256 := by rw [← hx]; exact s[qn].toNat_lt
                have HNA : Hid (cmdM s.data.toList = if askedM k x (s.data.toList.drop (qn + 1)) then some (x, if labelled x then s.data.toList.drop (qn + 1) else []) else none) := by
                  show _ = _
                  rw [HN.out, get_drop s qn hz, nameM, hx]
                obtain ⟨v11, c11⟩ := hI.c.get 11 (by have := hI.len; omega)
                have f11 := hI.c.fz 11 (by have := hI.len; omega)
                have hI9 := hI.set 11 (by decide) (.int .u8 x) rfl (by decide) (by decide)
                have HZ : Hid ((s.extract (qn + 1) s.size).size ≤ 400) := by show _ ≤ _; rw [ByteArray.size_extract]; omega
                have HZ2 : Hid ((s.extract (qn + 1) s.size).data.toList = s.data.toList.drop (qn + 1)) := dropx s (qn + 1)
                have hcl := hI.c.lt
                clear HN
                go_wp2_with fail
                refine (asked_calls _ k x _ _ _ HZ.out ⟨hI9.c, hI9.len⟩ hI9.k0 (by rw [List.getElem?_set_self (by rw [hI.len]; decide)]) hxc).mono ?_
                rintro e w9 ⟨rfl, cs9, hc9, hl9, ha9⟩
                have hlc9 : cs9.length = 23 := hc9.2
                have hr9 := hI9.res.apt ha9 (by omega)
                have B9 := hI9.below.trans (ha9.below (by omega) (by have := hI9.c.lt; omega))
                have HL9 : Hid (CmdC cs9 (x, if labelled x then s.data.toList.drop (qn + 1) else [])) := by
                  refine ⟨hlc9, hc9.1.one, ?_, hxc, ?_⟩
                  · rw [hl9.1, List.getElem?_set_self (by rw [hI.len]; decide)]
                  · rw [hl9.2]
                    cases hlb : labelled x
                    · refine ⟨⟨#[]⟩, ?_, rfl⟩
                      exact hI9.l13
                    · exact ⟨_, rfl, HZ2.out⟩
                rw [HZ2.out]
                have hcc := hc9.1
                clear hl9 ha9 hc9
                generalize hak : askedM k x (s.data.toList.drop (qn + 1)) = ak at *
                go_wp2_with (first
                  | refine cb_load0 rtCmd hcc hlc9 rfl _ rfl rfl ?_
                  | (refine cb_store0 rtCmd hr9 rfl rfl _ _ rfl rfl rfl hlc9 hcc.one ?_; intro w10 hb10 O10))
                refine bodyPost_ret (results_cb rfl _ _ _ _ rfl rtCmd hb10 hlc9) rfl ?_
                refine ⟨B9.trans (O10.below (Nat.le_refl _)), cs9, hlc9, hcc.one, ?_⟩
                cases ak
                · exact .inl ⟨HNA.out, rfl⟩
                · exact .inr ⟨_, HNA.out, HL9.out, rfl⟩
              · have hz1 : (s.size : Int) ≤ (qn : Int) := by omega
                have HNN : Hid (cmdM s.data.toList = none) := by
                  show _ = _
                  rw [HN.out, List.drop_of_length_le (by rw [ba_len]; omega)]; rfl
                have hcc := hI.c
                have hll := hI.len
                have hrr := hI.res
                clear HN
                go_wp2_with (first
                  | refine cb_load0 rtCmd hcc hll rfl _ rfl rfl ?_
                  | (refine cb_store0 rtCmd hrr rfl rfl _ _ rfl rfl rfl hll hcc.one ?_; intro w10 hb10 O10))
                refine bodyPost_ret (results_cb rfl _ _ _ _ rfl rtCmd hb10 hll) rfl ?_
                exact ⟨hI.below.trans (O10.below (Nat.le_refl _)), _, hll, hcc.one, .inl ⟨HNN.out, rfl⟩⟩
            · have hbg := HBG.out
              have hk0 : k ≠ 0 := by
                intro e; rw [e] at hbg; cases hbg
              have hst : stB (s.data.toList.drop qn) 33 = true := by
                cases e : stB (s.data.toList.drop qn) 33
                · rw [e] at hbg; simp at hbg
                · rfl
              have hq9 := stB_size s qn 33 hst
              have HN : Hid (cmdM s.data.toList = nameM k (s.data.toList.drop (qn + 1))) := by
                show _ = _
                rw [HM.out, M.notM, if_pos ⟨hk0, hst⟩, List.drop_drop]
              obtain ⟨v10, c10⟩ := hI.c.get 10 (by have := hI.len; omega)
              have f10 := hI.c.fz 10 (by have := hI.len; omega)
              have hI8 := hI.set 10 (by decide) (.bool true) rfl (by decide) (by decide)
              clear HM HBG hbg hk0 hst
              go_upto_region 15 with fail
              generalize wc.setCell ⟨w.heap.size + 1, 10, none⟩ (.bool true) = W8 at *
              obtain ⟨Q2, hQ2⟩ : ∃ q2, qn + 1 = q2 := ⟨_, rfl⟩
              have hQ3 : (qn : Int) + 1 = (Q2 : Int) := by omega
              rw [hQ2] at HN hq9
              try rw [hQ3]
              clear hQ2
              have hE : Q2 ≤ s.size := by omega
              by_cases hz : Q2 < s.size
              · have hz1 : ¬ (s.size : Int) ≤ (Q2 : Int) := by omega
                have hz2 : (Q2 : Int) < (s.size : Int) := by omega
                have hz3 : (Q2 : Int) + 1 ≤ (s.size : Int) := by omega
                obtain ⟨x, hx⟩ : ∃ x : Nat, s[Q2].toNat = x := ⟨_, rfl⟩
                have hxc : x < 256 := by rw [← hx]; exact s[Q2].toNat_lt
                have HNA : Hid (cmdM s.data.toList = if askedM k x (s.data.toList.drop (Q2 + 1)) then some (x, if labelled x then s.data.toList.drop (Q2 + 1) else []) else none) := by
                  show _ = _
                  rw [HN.out, get_drop s Q2 hz, nameM, hx]
                obtain ⟨v11, c11⟩ := hI8.c.get 11 (by have := hI8.len; omega)
                have f11 := hI8.c.fz 11 (by have := hI8.len; omega)
                have hI9 := hI8.set 11 (by decide) (.int .u8 x) rfl (by decide) (by decide)
                have HZ : Hid ((s.extract (Q2 + 1) s.size).size ≤ 400) := by show _ ≤ _; rw [ByteArray.size_extract]; omega
                have HZ2 : Hid ((s.extract (Q2 + 1) s.size).data.toList = s.data.toList.drop (Q2 + 1)) := dropx s (Q2 + 1)
                have hcl := hI8.c.lt
                clear HN
                go_wp2_with fail
                refine (asked_calls _ k x _ _ _ HZ.out ⟨hI9.c, hI9.len⟩ hI9.k0 (by rw [List.getElem?_set_self (by rw [hI8.len]; decide)]) hxc).mono ?_
                rintro e w9 ⟨rfl, cs9, hc9, hl9, ha9⟩
                have hlc9 : cs9.length = 23 := hc9.2
                have hr9 := hI9.res.apt ha9 (by omega)
                have B9 := hI9.below.trans (ha9.below (by omega) (by have := hI9.c.lt; omega))
                have HL9 : Hid (CmdC cs9 (x, if labelled x then s.data.toList.drop (Q2 + 1) else [])) := by
                  refine ⟨hlc9, hc9.1.one, ?_, hxc, ?_⟩
                  · rw [hl9.1, List.getElem?_set_self (by rw [hI8.len]; decide)]
                  · rw [hl9.2]
                    cases hlb : labelled x
                    · refine ⟨⟨#[]⟩, ?_, rfl⟩
                      exact hI9.l13
                    · exact ⟨_, rfl, HZ2.out⟩
                rw [HZ2.out]
                have hcc := hc9.1
                clear hl9 ha9 hc9
                generalize hak : askedM k x (s.data.toList.drop (Q2 + 1)) = ak at *
                go_wp2_with (first
                  | refine cb_load0 rtCmd hcc hlc9 rfl _ rfl rfl ?_
                  | (refine cb_store0 rtCmd hr9 rfl rfl _ _ rfl rfl rfl hlc9 hcc.one ?_; intro w10 hb10 O10))
                refine bodyPost_ret (results_cb rfl _ _ _ _ rfl rtCmd hb10 hlc9) rfl ?_
                refine ⟨B9.trans (O10.below (Nat.le_refl _)), cs9, hlc9, hcc.one, ?_⟩
                cases ak
                · exact .inl ⟨HNA.out, rfl⟩
                · exact .inr ⟨_, HNA.out, HL9.out, rfl⟩
              · have hz1 : (s.size : Int) ≤ (Q2 : Int) := by omega
                have HNN : Hid (cmdM s.data.toList = none) := by
                  show _ = _
                  rw [HN.out, List.drop_of_length_le (by rw [ba_len]; omega)]; rfl
                have hcc := hI8.c
                have hll := hI8.len
                have hrr := hI8.res
                clear HN
                go_wp2_with (first
                  | refine cb_load0 rtCmd hcc hll rfl _ rfl rfl ?_
                  | (refine cb_store0 rtCmd hrr rfl rfl _ _ rfl rfl rfl hll hcc.one ?_; intro w10 hb10 O10))
                refine bodyPost_ret (results_cb rfl _ _ _ _ rfl rtCmd hb10 hll) rfl ?_
                exact ⟨hI8.below.trans (O10.below (Nat.le_refl _)), _, hll, hcc.one, .inl ⟨HNN.out, rfl⟩⟩
    · have HM : Hid (cmdM s.data.toList = nameM k (M.notM k (s.data.toList.drop q))) := by
        show _ = _
        rw [HCM.out, secM, if_neg hcm]; rfl
      have ca := hI.a.c 0 _ hI.v0
      have hal := hI.a.lt
      clear HCM
      go_cut [34] (fun t wx => t = .bool false ∧ wx = WX)
      case first =>
        by_cases hk0 : k = 0
        · have hk1 : ((k : Int) != 0) = false := by simp [hk0]
          clear hk0 hcm
          go_wp2
          go_meet
          exact ⟨rfl, rfl⟩
        · have hk1 : ((k : Int) != 0) = true := by simp; omega
          by_cases hz : q < s.size
          · have hz1 : (q : Int) < (s.size : Int) := by omega
            obtain ⟨x, hx⟩ : ∃ x : Nat, s[q].toNat = x := ⟨_, rfl⟩
            have hxc : x < 256 := by rw [← hx]; exact s[q].toNat_lt
            have h44 : x ≠ 44 := fun e => hcm ⟨hk0, by rw [stB_at s q 44 hz, hx, e]; rfl⟩
            have h441 : ((x : Int) == 44) = false := by simp; omega
            clear hk0 hcm h44
            go_wp2
            go_meet
            exact ⟨rfl, rfl⟩
          · have hz1 : ¬ (q : Int) < (s.size : Int) := by omega
            clear hk0 hcm
            go_wp2
            go_meet
            exact ⟨rfl, rfl⟩
      case rest =>
        obtain ⟨rfl, rfl⟩ := hcut
        obtain ⟨WX, hWX⟩ : ∃ W, W = wc := ⟨_, rfl⟩
        subst hWX
        clear hcm ca hal
        obtain ⟨bang, hbang⟩ : ∃ bg, (decide (k ≠ 0) && stB (s.data.toList.drop q) 33) = bg := ⟨_, rfl⟩
        have HBG : Hid ((decide (k ≠ 0) && stB (s.data.toList.drop q) 33) = bang) := hbang
        have ca := hI.a.c 0 _ hI.v0
        have hal := hI.a.lt
        clear hbang
        go_upto_region 12 with fail
        go_cut [67] (fun t wx => t = .bool bang ∧ wx = WX)
        case first =>
          by_cases hk0 : k = 0
          · have hk1 : ((k : Int) != 0) = false := by simp [hk0]
            have HB2 : Hid (bang = false) := by show _ = _; rw [← HBG.out, hk0]; rfl
            clear hk0
            go_wp2
            go_meet
            exact ⟨by rw [HB2.out], rfl⟩
          · have hk1 : ((k : Int) != 0) = true := by simp; omega
            by_cases hz : q < s.size
            · have hz1 : (q : Int) < (s.size : Int) := by omega
              obtain ⟨x, hx⟩ : ∃ x : Nat, s[q].toNat = x := ⟨_, rfl⟩
              have hxc : x < 256 := by rw [← hx]; exact s[q].toNat_lt
              have HB2 : Hid (bang = (x == 33)) := by show _ = _; rw [← HBG.out, stB_at s q 33 hz, hx, decide_eq_true hk0]; rfl
              clear hk0
              by_cases h33 : x = 33
              · have h331 : ((x : Int) == 33) = true := by simp [h33]
                have HB3 : Hid (bang = true) := by show _ = _; rw [HB2.out, h33]; rfl
                clear h33
                go_wp2
                go_meet
                exact ⟨by rw [HB3.out], rfl⟩
              · have h331 : ((x : Int) == 33) = false := by simp; omega
                have HB3 : Hid (bang = false) := by show _ = _; rw [HB2.out]; simpa using h33
                clear h33
                go_wp2
                go_meet
                exact ⟨by rw [HB3.out], rfl⟩
            · have hz1 : ¬ (q : Int) < (s.size : Int) := by omega
              have HB2 : Hid (bang = false) := by show _ = _; rw [← HBG.out, stB_off s q 33 (by omega)]; simp
              clear hk0
              go_wp2
              go_meet
              exact ⟨by rw [HB2.out], rfl⟩
        case rest =>
          obtain ⟨rfl, rfl⟩ := hcut
          cases bang
          · have HN : Hid (cmdM s.data.toList = nameM k (s.data.toList.drop q)) := by
              show _ = _
              rw [HM.out, M.notM]
              split
              · rename_i h
                have := HBG.out
                rw [h.2, decide_eq_true h.1] at this; cases this
              · rfl
            clear HM HBG
            have hE : q ≤ s.size := by omega
            by_cases hz : q < s.size
            · have hz1 : ¬ (s.size : Int) ≤ (q : Int) := by omega
              have hz2 : (q : Int) < (s.size : Int) := by omega
              have hz3 : (q : Int) + 1 ≤ (s.size : Int) := by omega
              obtain ⟨x, hx⟩ : ∃ x : Nat, s[q].toNat = x := ⟨_, rfl⟩
              have hxc : x < 256 := by rw [← hx]; exact s[q].toNat_lt
              have HNA : Hid (cmdM s.data.toList = if askedM k x (s.data.toList.drop (q + 1)) then some (x, if labelled x then s.data.toList.drop (q + 1) else []) else none) := by
                show _ = _
                rw [HN.out, get_drop s q hz, nameM, hx]
              obtain ⟨v11, c11⟩ := hI.c.get 11 (by have := hI.len; omega)
              have f11 := hI.c.fz 11 (by have := hI.len; omega)
              have hI9 := hI.set 11 (by decide) (.int .u8 x) rfl (by decide) (by decide)
              have HZ : Hid ((s.extract (q + 1) s.size).size ≤ 400) := by show _ ≤ _; rw [ByteArray.size_extract]; omega
              have HZ2 : Hid ((s.extract (q + 1) s.size).data.toList = s.data.toList.drop (q + 1)) := dropx s (q + 1)
              have hcl := hI.c.lt
              clear HN
              go_wp2_with fail
              refine (asked_calls _ k x _ _ _ HZ.out ⟨hI9.c, hI9.len⟩ hI9.k0 (by rw [List.getElem?_set_self (by rw [hI.len]; decide)]) hxc).mono ?_
              rintro e w9 ⟨rfl, cs9, hc9, hl9, ha9⟩
              have hlc9 : cs9.length = 23 := hc9.2
              have hr9 := hI9.res.apt ha9 (by omega)
              have B9 := hI9.below.trans (ha9.below (by omega) (by have := hI9.c.lt; omega))
              have HL9 : Hid (CmdC cs9 (x, if labelled x then s.data.toList.drop (q + 1) else [])) := by
                refine ⟨hlc9, hc9.1.one, ?_, hxc, ?_⟩
                · rw [hl9.1, List.getElem?_set_self (by rw [hI.len]; decide)]
                · rw [hl9.2]
                  cases hlb : labelled x
                  · refine ⟨⟨#[]⟩, ?_, rfl⟩
                    exact hI9.l13
                  · exact ⟨_, rfl, HZ2.out⟩
              rw [HZ2.out]
              have hcc := hc9.1
              clear hl9 ha9 hc9
              generalize hak : askedM k x (s.data.toList.drop (q + 1)) = ak at *
              go_wp2_with (first
                | refine cb_load0 rtCmd hcc hlc9 rfl _ rfl rfl ?_
                | (refine cb_store0 rtCmd hr9 rfl rfl _ _ rfl rfl rfl hlc9 hcc.one ?_; intro w10 hb10 O10))
              refine bodyPost_ret (results_cb rfl _ _ _ _ rfl rtCmd hb10 hlc9) rfl ?_
              refine ⟨B9.trans (O10.below (Nat.le_refl _)), cs9, hlc9, hcc.one, ?_⟩
              cases ak
              · exact .inl ⟨HNA.out, rfl⟩
              · exact .inr ⟨_, HNA.out, HL9.out, rfl⟩
            · have hz1 : (s.size : Int) ≤ (q : Int) := by omega
              have HNN : Hid (cmdM s.data.toList = none) := by
                show _ = _
                rw [HN.out, List.drop_of_length_le (by rw [ba_len]; omega)]; rfl
              have hcc := hI.c
              have hll := hI.len
              have hrr := hI.res
              clear HN
              go_wp2_with (first
                | refine cb_load0 rtCmd hcc hll rfl _ rfl rfl ?_
                | (refine cb_store0 rtCmd hrr rfl rfl _ _ rfl rfl rfl hll hcc.one ?_; intro w10 hb10 O10))
              refine bodyPost_ret (results_cb rfl _ _ _ _ rfl rtCmd hb10 hll) rfl ?_
              exact ⟨hI.below.trans (O10.below (Nat.le_refl _)), _, hll, hcc.one, .inl ⟨HNN.out, rfl⟩⟩
          · have hbg := HBG.out
            have hk0 : k ≠ 0 := by
              intro e; rw [e] at hbg; cases hbg
            have hst : stB (s.data.toList.drop q) 33 = true := by
              cases e : stB (s.data.toList.drop q) 33
              · rw [e] at hbg; simp at hbg
              · rfl
            have hq9 := stB_size s q 33 hst
            have HN : Hid (cmdM s.data.toList = nameM k (s.data.toList.drop (q + 1))) := by
              show _ = _
              rw [HM.out, M.notM, if_pos ⟨hk0, hst⟩, List.drop_drop]
            obtain ⟨v10, c10⟩ := hI.c.get 10 (by have := hI.len; omega)
            have f10 := hI.c.fz 10 (by have := hI.len; omega)
            have hI8 := hI.set 10 (by decide) (.bool true) rfl (by decide) (by decide)
            clear HM HBG hbg hk0 hst
            go_upto_region 15 with fail
            generalize wc.setCell ⟨w.heap.size + 1, 10, none⟩ (.bool true) = W8 at *
            obtain ⟨Q2, hQ2⟩ : ∃ q2, q + 1 = q2 := ⟨_, rfl⟩
            have hQ3 : (q : Int) + 1 = (Q2 : Int) := by omega
            rw [hQ2] at HN hq9
            try rw [hQ3]
            clear hQ2
            have hE : Q2 ≤ s.size := by omega
            by_cases hz : Q2 < s.size
            · have hz1 : ¬ (s.size : Int) ≤ (Q2 : Int) := by omega
              have hz2 : (Q2 : Int) < (s.size : Int) := by omega
              have hz3 : (Q2 : Int) + 1 ≤ (s.size : Int) := by omega
              obtain ⟨x, hx⟩ : ∃ x : Nat, s[Q2].toNat = x := ⟨_, rfl⟩
              have hxc : x < 256 := by rw [← hx]; exact s[Q2].toNat_lt
              have HNA : Hid (cmdM s.data.toList = if askedM k x (s.data.toList.drop (Q2 + 1)) then some (x, if labelled x then s.data.toList.drop (Q2 + 1) else []) else none) := by
                show _ = _
                rw [HN.out, get_drop s Q2 hz, nameM, hx]
              obtain ⟨v11, c11⟩ := hI8.c.get 11 (by have := hI8.len; omega)
              have f11 := hI8.c.fz 11 (by have := hI8.len; omega)
              have hI9 := hI8.set 11 (by decide) (.int .u8 x) rfl (by decide) (by decide)
              have HZ : Hid ((s.extract (Q2 + 1) s.size).size ≤ 400) := by show _ ≤ _; rw [ByteArray.size_extract]; omega
              have HZ2 : Hid ((s.extract (Q2 + 1) s.size).data.toList = s.data.toList.drop (Q2 + 1)) := dropx s (Q2 + 1)
              have hcl := hI8.c.lt
              clear HN
              go_wp2_with fail
              refine (asked_calls _ k x _ _ _ HZ.out ⟨hI9.c, hI9.len⟩ hI9.k0 (by rw [List.getElem?_set_self (by rw [hI8.len]; decide)]) hxc).mono ?_
              rintro e w9 ⟨rfl, cs9, hc9, hl9, ha9⟩
              have hlc9 : cs9.length = 23 := hc9.2
              have hr9 := hI9.res.apt ha9 (by omega)
              have B9 := hI9.below.trans (ha9.below (by omega) (by have := hI9.c.lt; omega))
              have HL9 : Hid (CmdC cs9 (x, if labelled x then s.data.toList.drop (Q2 + 1) else [])) := by
                refine ⟨hlc9, hc9.1.one, ?_, hxc, ?_⟩
                · rw [hl9.1, List.getElem?_set_self (by rw [hI8.len]; decide)]
                · rw [hl9.2]
                  cases hlb : labelled x
                  · refine ⟨⟨#[]⟩, ?_, rfl⟩
                    exact hI9.l13
                  · exact ⟨_, rfl, HZ2.out⟩
              rw [HZ2.out]
              have hcc := hc9.1
              clear hl9 ha9 hc9
              generalize hak : askedM k x (s.data.toList.drop (Q2 + 1)) = ak at *
              go_wp2_with (first
                | refine cb_load0 rtCmd hcc hlc9 rfl _ rfl rfl ?_
                | (refine cb_store0 rtCmd hr9 rfl rfl _ _ rfl rfl rfl hlc9 hcc.one ?_; intro w10 hb10 O10))
              refine bodyPost_ret (results_cb rfl _ _ _ _ rfl rtCmd hb10 hlc9) rfl ?_
              refine ⟨B9.trans (O10.below (Nat.le_refl _)), cs9, hlc9, hcc.one, ?_⟩
              cases ak
              · exact .inl ⟨HNA.out, rfl⟩
              · exact .inr ⟨_, HNA.out, HL9.out, rfl⟩
            · have hz1 : (s.size : Int) ≤ (Q2 : Int) := by omega
              have HNN : Hid (cmdM s.data.toList = none) := by
                show _ = _
                rw [HN.out, List.drop_of_length_le (by rw [ba_len]; omega)]; rfl
              have hcc := hI8.c
              have hll := hI8.len
              have hrr := hI8.res
              clear HN
              go_wp2_with (first
                | refine cb_load0 rtCmd hcc hll rfl _ rfl rfl ?_
                | (refine cb_store0 rtCmd hrr rfl rfl _ _ rfl rfl rfl hll hcc.one ?_; intro w10 hb10 O10))
              refine bodyPost_ret (results_cb rfl _ _ _ _ rfl rtCmd hb10 hll) rfl ?_
              exact ⟨hI8.below.trans (O10.below (Nat.le_refl _)), _, hll, hcc.one, .inl ⟨HNN.out, rfl⟩⟩
end Go.Proofs.Ytlppphmnegdhoab
