import Derived.Test.YtlppphmnegdhoabMg15
import Derived.Test.YtlppphmnegdhoabMg11
/-
  The program's scripts: readAddress, readAddresses.
-/
namespace Go.Proofs.Ytlppphmnegdhoab
set_option linter.unusedVariables false
set_option maxRecDepth 100000
open Go.RowKit
open M

theorem rtPAddrs : RowT 56 12 := ⟨⟨_, Try.underlying56, rfl⟩, by kernel_rfl⟩
theorem ones_app {l m : List Value} (h : ∀ v ∈ l, v.oneCell' = true) (g : ∀ v ∈ m, v.oneCell' = true) : ∀ v ∈ l ++ m, v.oneCell' = true := fun v hv => (List.mem_append.1 hv).elim (h v) (g v)
/-- the program's address -/
def addrP (t : List UInt8) : Option (Nat × List UInt8) :=
  if stB t 36 then some (2, t.drop 1) else if stB t 47 then betM (uptoM (t.drop 1)) else if 0 < numL t then some (1, t.drop (numL t)) else none
def PaPost (s : ByteArray) (k : Nat) (w : World) (e : Ending) (w' : World) : Prop :=
  Below w.heap.size w w' ∧ ∃ vs : List Value, A5 vs ∧
    ((∃ kd q : Nat, addrP (s.data.toList.drop k) = some (kd, s.data.toList.drop q) ∧ kd ≠ 0 ∧ k < q ∧ q ≤ s.size ∧ e = .returned (.tuple #[.agg vs.toArray, .int .i64 q, .bool true])) ∨
     (addrP (s.data.toList.drop k) = none ∧ ∃ n : Nat, e = .returned (.tuple #[.agg vs.toArray, .int .i64 n, .bool false])))
set_option maxRecDepth 100000 in
set_option maxHeartbeats 1000000 in
theorem readAddress_calls (s : ByteArray) (k : Nat) (w : World) (hs : s.size ≤ 400) (hk : k ≤ s.size) (hnl : NoNL s) :
    Calls Try.prog 29 #[.string s, .int .i64 k] w fun e w' => PaPost s k w e w' := by
  have hsm : s.size ≤ maxLen := by unfold maxLen; omega
  have HNL : Hid (NoNL s) := hnl
  clear hnl
  have hb0 : CB (w.alloc (.cells #[.int .i64 0, .int .i64 0, .bool false, .bool false, .slice none 0 0] 54)) w.heap.size [.int .i64 0, .int .i64 0, .bool false, .bool false, .slice none 0 0] := CB.new w _ _ (by simp [Value.oneCell'])
  have B0 : Below w.heap.size w (w.alloc (.cells #[.int .i64 0, .int .i64 0, .bool false, .bool false, .slice none 0 0] 54)) := (Below.refl _ _).alloc (Nat.le_refl _) _
  go_enter Try.func29, Try.ntmps29
  go_wp2_with fail
  generalize w.alloc (.cells #[.int .i64 0, .int .i64 0, .bool false, .bool false, .slice none 0 0] 54) = W at *
  refine (stands_calls s k 36 _ hsm hk (by decide)).mono ?_
  rintro e w1 ⟨rfl, rfl⟩
  cases h36 : stB (s.data.toList.drop k) 36
  · have H36 : Hid (stB (s.data.toList.drop k) 36 = false) := h36
    clear h36
    go_wp2_with fail
    refine (stands_calls s k 47 _ hsm hk (by decide)).mono ?_
    rintro e w2 ⟨rfl, rfl⟩
    cases h47 : stB (s.data.toList.drop k) 47
    · have HA : Hid (addrP (s.data.toList.drop k) = if 0 < numL (s.data.toList.drop k) then some (1, (s.data.toList.drop k).drop (numL (s.data.toList.drop k))) else none) := by
        show _ = _
        unfold addrP; rw [H36.out, h47]; rfl
      clear h47 H36
      go_wp2_with fail
      refine (prNum_calls s k w2 hs hk).mono ?_
      rintro e w3 ⟨⟨n, q, hq, rfl, hqs⟩, rfl⟩
      by_cases hp : k < q
      · have HA2 : Hid (addrP (s.data.toList.drop k) = some (1, s.data.toList.drop q)) := by
          show _ = _
          rw [HA.out, if_pos (by omega), List.drop_drop, ← hq]
        have hp1 : (k : Int) < (q : Int) := by omega
        clear hq HA
        go_wp2_with (refine cb_store0 rtPAddr hb0 rfl rfl _ _ rfl rfl rfl rfl (by simp [Value.oneCell']) ?_; intro w5 hb5 O5)
        refine bodyPost_ret (results_cb3 rfl _ _ _ _ rfl rtPAddr hb5 rfl) rfl ?_
        exact ⟨B0.trans (O5.below (Nat.le_refl _)), _, ⟨_, _, _, _, _, _, _, rfl⟩, .inl ⟨1, q, HA2.out, by decide, hp, hqs, rfl⟩⟩
      · have HA2 : Hid (addrP (s.data.toList.drop k) = none) := by
          show _ = _
          rw [HA.out, if_neg (by omega)]
        have hp1 : ¬ (k : Int) < (q : Int) := by omega
        clear hq HA
        go_wp2_with (refine cb_store0 rtPAddr hb0 rfl rfl _ _ rfl rfl rfl rfl (by simp [Value.oneCell']) ?_; intro w5 hb5 O5)
        refine bodyPost_ret (results_cb3 rfl _ _ _ _ rfl rtPAddr hb5 rfl) rfl ?_
        exact ⟨B0.trans (O5.below (Nat.le_refl _)), _, ⟨_, _, _, _, _, _, _, rfl⟩, .inr ⟨HA2.out, q, rfl⟩⟩
    · have HA : Hid (addrP (s.data.toList.drop k) = betM (uptoM (s.data.toList.drop (k + 1)))) := by
        show _ = _
        unfold addrP; rw [H36.out, h47, List.drop_drop]; rfl
      have H47 : Hid (stB (s.data.toList.drop k) 47 = true) := h47
      clear h47 H36
      go_wp2_with fail
      refine (readBetween_calls s k w2 hs hk HNL.out).mono ?_
      rintro e w3 ⟨B3, vs, hE, hor⟩
      have hv1 := hE.one
      obtain ⟨v0, v1, v2, v3, v4, rfl⟩ := hE
      have hb3 := hb0.below B3 hb0.lt
      have BB3 := B0.trans (B3.mono B0.size)
      have hlt3 := hb3.lt
      have hbn : CB (w3.alloc (.cells #[.bool false, .bool false, .slice none 0 0] 52)) w3.heap.size [.bool false, .bool false, .slice none 0 0] := CB.new w3 _ _ (by simp [Value.oneCell'])
      have hb4 : CB (w3.alloc (.cells #[.bool false, .bool false, .slice none 0 0] 52)) w.heap.size [.int .i64 0, .int .i64 0, .bool false, .bool false, .slice none 0 0] := hb3.below ((Below.refl _ _).alloc (Nat.le_refl _) _) hlt3
      have B4 := BB3.alloc (o := .cells #[.bool false, .bool false, .slice none 0 0] 52) (by omega)
      rcases hor with ⟨_, q, hbt, hkq, hqs, rfl⟩ | ⟨hno, rfl⟩
      · have HA2 : Hid (addrP (s.data.toList.drop k) = some (3, s.data.toList.drop q)) := by show _ = _; rw [HA.out, hbt]
        clear hbt HA
        go_wp2_with (first
          | (refine cb_store0 rtPExp hbn rfl rfl _ _ rfl rfl rfl rfl hv1 ?_; intro w5 hb5 O5; have hb6 := hb4.keep (O5.block _ (by omega)) (by rw [O5.size]; exact Nat.le_refl _))
          | refine cb_load0 rtPExp hb5 rfl rfl _ rfl rfl ?_
          | (refine cb_store0 rtPAddr hb6 rfl rfl _ _ rfl rfl rfl rfl (ones_app (l := [.int .i64 3, .int .i64 0]) (by simp [Value.oneCell']) hv1) ?_; intro w7 hb7 O7))
        refine bodyPost_ret (results_cb3 rfl _ _ _ _ rfl rtPAddr hb7 rfl) rfl ?_
        exact ⟨(B4.trans (O5.below (by omega))).trans (O7.below (Nat.le_refl _)), _, ⟨_, _, _, _, _, _, _, rfl⟩, .inl ⟨3, q, HA2.out, by decide, hkq, hqs, rfl⟩⟩
      · have HA2 : Hid (addrP (s.data.toList.drop k) = none) := by
          show _ = _
          rcases hno with h | h
          · rw [H47.out] at h; cases h
          · rw [HA.out, h]
        clear hno HA
        go_wp2_with (first
          | (refine cb_store0 rtPExp hbn rfl rfl _ _ rfl rfl rfl rfl hv1 ?_; intro w5 hb5 O5; have hb6 := hb4.keep (O5.block _ (by omega)) (by rw [O5.size]; exact Nat.le_refl _))
          | refine cb_load0 rtPExp hb5 rfl rfl _ rfl rfl ?_
          | (refine cb_store0 rtPAddr hb6 rfl rfl _ _ rfl rfl rfl rfl (ones_app (l := [.int .i64 3, .int .i64 0]) (by simp [Value.oneCell']) hv1) ?_; intro w7 hb7 O7))
        refine bodyPost_ret (results_cb3 rfl _ _ _ _ rfl rtPAddr hb7 rfl) rfl ?_
        exact ⟨(B4.trans (O5.below (by omega))).trans (O7.below (Nat.le_refl _)), _, ⟨_, _, _, _, _, _, _, rfl⟩, .inr ⟨HA2.out, k, rfl⟩⟩
  · have hk1 := stB_size s k 36 h36
    have HA : Hid (addrP (s.data.toList.drop k) = some (2, s.data.toList.drop (k + 1))) := by
      show _ = _
      unfold addrP; rw [h36, List.drop_drop]; rfl
    clear h36
    go_wp2_with (refine cb_store0 rtPAddr hb0 rfl rfl _ _ rfl rfl rfl rfl (by simp [Value.oneCell']) ?_; intro w5 hb5 O5)
    refine bodyPost_ret (results_cb3 rfl _ _ _ _ rfl rtPAddr hb5 rfl) rfl ?_
    exact ⟨B0.trans (O5.below (Nat.le_refl _)), _, ⟨_, _, _, _, _, _, _, rfl⟩, .inl ⟨2, k + 1, HA.out, by decide, by omega, hk1, rfl⟩⟩
/-- behind the second address of the program: how many there are -/
def secP (t : List UInt8) : Nat × List UInt8 := if stB t 44 then (match addrP (t.drop 1) with | none => (1, t) | some p => (2, p.2)) else (1, t)
def excP (t : List UInt8) : List UInt8 := if stB t 33 then t.drop 1 else t
def behP (t : List UInt8) : Nat × List UInt8 := match addrP t with
  | none => (0, t)
  | some p => ((secP p.2).1, excP (secP p.2).2)
def AsPost (s : ByteArray) (w : World) (e : Ending) (w' : World) : Prop :=
  Below w.heap.size w w' ∧ ∃ (vs : List Value) (cn q : Nat), vs.length = 12 ∧ (∀ v ∈ vs, v.oneCell' = true) ∧ A12 vs ∧ vs[0]? = some (.int .i64 cn) ∧ cn ≤ 2 ∧ q ≤ s.size ∧ behP s.data.toList = (cn, s.data.toList.drop q) ∧ e = .returned (.tuple #[.agg vs.toArray, .int .i64 q])
def zAs : List Value := [.int .i64 0, .int .i64 0, .int .i64 0, .bool false, .bool false, .slice none 0 0, .int .i64 0, .int .i64 0, .bool false, .bool false, .slice none 0 0, .bool false]
theorem zAs_one : ∀ v ∈ zAs, v.oneCell' = true := by decide
set_option maxRecDepth 100000 in
set_option maxHeartbeats 2000000 in
theorem readAddresses_calls (s : ByteArray) (w : World) (hs : s.size ≤ 400) (hnl : NoNL s) :
    Calls Try.prog 21 #[.string s] w fun e w' => AsPost s w e w' := by
  have hsm : s.size ≤ maxLen := by unfold maxLen; omega
  have HNL : Hid (NoNL s) := hnl
  clear hnl
  have hb0 : CB (w.alloc (.cells zAs.toArray 56)) w.heap.size zAs := CB.new w _ _ zAs_one
  have B0 : Below w.heap.size w (w.alloc (.cells zAs.toArray 56)) := (Below.refl _ _).alloc (Nat.le_refl _) _
  go_enter Try.func21, Try.ntmps21
  go_wp2_with fail
  change Calls _ _ _ (w.alloc (.cells zAs.toArray 56)) _
  generalize w.alloc (.cells zAs.toArray 56) = W at *
  have HC := readAddress_calls s 0 W hs (Nat.zero_le _) HNL.out
  rw [show ((0 : Nat) : Int) = 0 from rfl] at HC
  refine HC.mono ?_
  clear HC
  rintro e w2 ⟨B2, vs, hA, hor⟩
  have hvl := hA.len
  have hv1 := hA.one
  have hb2 := hb0.below B2 hb0.lt
  have BB2 := B0.trans (B2.mono B0.size)
  have hlt2 := hb2.lt
  have hbn : CB (w2.alloc (.cells #[.int .i64 0, .int .i64 0, .bool false, .bool false, .slice none 0 0] 54)) w2.heap.size [.int .i64 0, .int .i64 0, .bool false, .bool false, .slice none 0 0] := CB.new w2 _ _ (by simp [Value.oneCell'])
  have hb3 : CB (w2.alloc (.cells #[.int .i64 0, .int .i64 0, .bool false, .bool false, .slice none 0 0] 54)) w.heap.size zAs := hb2.below ((Below.refl _ _).alloc (Nat.le_refl _) _) hlt2
  have B3 := BB2.alloc (o := .cells #[.int .i64 0, .int .i64 0, .bool false, .bool false, .slice none 0 0] 54) (by omega)
  have hs3 : (w2.alloc (.cells #[.int .i64 0, .int .i64 0, .bool false, .bool false, .slice none 0 0] 54)).heap.size = w2.heap.size + 1 := by simp
  rcases hor with ⟨kd, q, hap, hkd, h0q, hqs, rfl⟩ | ⟨hap, n, rfl⟩
  · obtain ⟨k1, n1, h1, t1, a1, l1, c1, rfl⟩ := hA
    obtain ⟨v0, hv0⟩ : ∃ v, Value.int .i64 k1 = v := ⟨_, rfl⟩
    obtain ⟨v1, hv1'⟩ : ∃ v, Value.int .i64 n1 = v := ⟨_, rfl⟩
    obtain ⟨v2, hv2⟩ : ∃ v, Value.bool h1 = v := ⟨_, rfl⟩
    obtain ⟨v3, hv3⟩ : ∃ v, Value.bool t1 = v := ⟨_, rfl⟩
    obtain ⟨v4, hv4⟩ : ∃ v, Value.slice a1 l1 c1 = v := ⟨_, rfl⟩
    have hA12 : A12 [.int .i64 1, v0, v1, v2, v3, v4, .int .i64 0, .int .i64 0, .bool false, .bool false, .slice none 0 0, .bool false] := ⟨1, k1, n1, 0, 0, h1, t1, false, false, false, a1, none, l1, c1, 0, 0, by rw [← hv0, ← hv1', ← hv2, ← hv3, ← hv4]⟩
    rw [hv0, hv1', hv2, hv3, hv4] at hv1 hvl ⊢
    clear hv0 hv1' hv2 hv3 hv4
    have HBH : Hid (behP s.data.toList = ((secP (s.data.toList.drop q)).1, excP (secP (s.data.toList.drop q)).2)) := by
      show _ = _
      rw [List.drop_zero] at hap
      unfold behP; rw [hap]
    clear hap
    go_upto_region 5 with (first
      | (refine cb_store0 rtPAddr hbn rfl rfl _ _ rfl rfl rfl rfl hv1 ?_
         intro w5 hb5 O5
         have hr5 := hb3.keep (O5.block _ (by omega)) (by rw [O5.size]; exact Nat.le_refl _)
         have B5 := B3.trans (O5.below (B := w.heap.size) (by omega))
         have hs5 : w5.heap.size = w2.heap.size + 1 := by rw [O5.size]; simp
         have hcn : CB (w5.alloc (.cells zAs.toArray 56)) (w2.heap.size + 1) zAs := by rw [← hs5]; exact CB.new w5 _ _ zAs_one
         have hr6 := hr5.below ((Below.refl w5.heap.size w5).alloc (Nat.le_refl _) (.cells zAs.toArray 56)) hr5.lt
         have B6 := B5.alloc (o := .cells zAs.toArray 56) (by omega))
      | refine cb_load0 rtPAddr hb5 rfl rfl _ rfl rfl ?_
      | (refine cb_store0 rtPAddrs hcn rfl rfl _ _ rfl rfl rfl rfl (ones_app (l := [.int .i64 1]) (by simp [Value.oneCell']) (ones_app hv1 (m := [.int .i64 0, .int .i64 0, .bool false, .bool false, .slice none 0 0, .bool false]) (by simp [Value.oneCell']))) ?_
         intro w7 hb7 O7
         have hr7 := hr6.keep (O7.block _ (by omega)) (by rw [O7.size]; exact Nat.le_refl _)
         have B7 := B6.trans (O7.below (B := w.heap.size) (by omega))))
    have hl7 : CB w7 (w2.heap.size + 1) ([.int .i64 1, v0, v1, v2, v3, v4, .int .i64 0, .int .i64 0, .bool false, .bool false, .slice none 0 0, .bool false] : List Value) := hb7
    obtain ⟨cs7, hcs7⟩ : ∃ cs : List Value, ([.int .i64 1, v0, v1, v2, v3, v4, .int .i64 0, .int .i64 0, .bool false, .bool false, .slice none 0 0, .bool false] : List Value) = cs := ⟨_, rfl⟩
    have hlen7 : cs7.length = 12 := by rw [← hcs7]; rfl
    have hz7 : cs7[0]? = some (.int .i64 1) := by rw [← hcs7]; rfl
    rw [hcs7] at hl7 hA12
    obtain ⟨ga, hga⟩ : ∃ g, w2.heap.size + 1 = g := ⟨_, rfl⟩
    have hgw : w.heap.size < ga := by omega
    have hga2 : ga < w7.heap.size := by rw [← hga]; exact hl7.lt
    rw [hga] at hl7
    try simp only [Act.put]
    clear hb7 hcn hr6 B6 hb5 O5 hr5 B5 hs5 O7 hcs7 hbn hb3 B3 hs3 hb2 BB2 hb0 B0 B2
    go_wp2_with fail
    refine (stands_calls s q 44 _ hsm hqs (by decide)).mono ?_
    rintro e w8 ⟨rfl, rfl⟩
    cases h44 : stB (s.data.toList.drop q) 44
    · have HE : Hid (behP s.data.toList = (1, excP (s.data.toList.drop q))) := by show _ = _; rw [HBH.out, secP, h44]; rfl
      clear h44 HBH
      go_wp2_with fail
      refine (stands_calls s q 33 _ hsm (by omega) (by decide)).mono ?_
      rintro e wx ⟨rfl, rfl⟩
      cases h33 : stB (s.data.toList.drop q) 33
      · have HE2 : Hid (behP s.data.toList = (1, s.data.toList.drop q)) := by show _ = _; rw [HE.out, excP, h33]; rfl
        clear h33 HE
        go_wp2_with (first
          | refine cb_load0 rtPAddrs hl7 hlen7 rfl _ rfl rfl ?_
          | (refine cb_store0 rtPAddrs hr7 rfl rfl _ _ rfl rfl rfl hlen7 hl7.one ?_; intro w20 hb20 O20))
        refine bodyPost_ret (results_cb rfl _ _ _ _ rfl rtPAddrs hb20 hlen7) rfl ?_
        exact ⟨B7.trans (O20.below (Nat.le_refl _)), _, 1, q, hlen7, hl7.one, hA12, hz7, by omega, by omega, HE2.out, rfl⟩
      · have hq33 := stB_size s q 33 h33
        have HE2 : Hid (behP s.data.toList = (1, s.data.toList.drop (q + 1))) := by show _ = _; rw [HE.out, excP, h33, List.drop_drop]; rfl
        obtain ⟨y11, c11⟩ := hl7.get 11 (by omega)
        have f11 := hl7.fz 11 (by omega)
        have hbS := hl7.set 11 (by omega) (.bool true) rfl
        have hrS := hr7.keep (heap_setCell_other wx ⟨ga, 11, none⟩ w.heap.size (.bool true) (by simp; omega)) (by simp)
        have BS := B7.setCell (p := ⟨ga, 11, none⟩) (by simp; omega) (.bool true)
        have lnS : (cs7.set 11 (.bool true)).length = 12 := by rw [List.length_set]; exact hlen7
        have zS : (cs7.set 11 (.bool true))[0]? = some (.int .i64 1) := by rw [List.getElem?_set_ne (by decide)]; exact hz7
        clear h33 HE
        go_wp2_with (first
          | refine cb_load0 rtPAddrs hbS lnS rfl _ rfl rfl ?_
          | (refine cb_store0 rtPAddrs hrS rfl rfl _ _ rfl rfl rfl lnS hbS.one ?_; intro w20 hb20 O20))
        refine bodyPost_ret (results_cb rfl _ _ _ _ rfl rtPAddrs hb20 lnS) rfl ?_
        exact ⟨BS.trans (O20.below (Nat.le_refl _)), _, 1, q + 1, lnS, hbS.one, (by first | exact hA12.set11 true | exact hA13.set11 true), zS, by omega, hq33, HE2.out, rfl⟩
    · have hq44 := stB_size s q 44 h44
      have HB2 : Hid (secP (s.data.toList.drop q) = match addrP (s.data.toList.drop (q + 1)) with | none => (1, s.data.toList.drop q) | some p => (2, p.2)) := by
        show _ = _
        rw [secP, h44, List.drop_drop]; rfl
      clear h44
      go_wp2_with fail
      have HC := readAddress_calls s (q + 1) w8 hs hq44 HNL.out
      rw [show ((q + 1 : Nat) : Int) = (q : Int) + 1 from rfl] at HC
      refine HC.mono ?_
      clear HC
      rintro e w9 ⟨B9, us, hA5, hor⟩
      have hul := hA5.len
      have hu1 := hA5.one
      have hl9 := hl7.below B9 hl7.lt
      have hr9 := hr7.below B9 hr7.lt
      have BB9 := B7.trans (B9.mono B7.size)
      have hlt9 := hl9.lt
      have hzB : CB (w9.alloc (.cells #[.int .i64 0, .int .i64 0, .bool false, .bool false, .slice none 0 0] 54)) w9.heap.size [.int .i64 0, .int .i64 0, .bool false, .bool false, .slice none 0 0] := CB.new w9 _ _ (by simp [Value.oneCell'])
      have hl10 := hl9.below ((Below.refl w9.heap.size w9).alloc (Nat.le_refl _) (.cells #[.int .i64 0, .int .i64 0, .bool false, .bool false, .slice none 0 0] 54)) hlt9
      have hr10 := hr9.below ((Below.refl w9.heap.size w9).alloc (Nat.le_refl _) (.cells #[.int .i64 0, .int .i64 0, .bool false, .bool false, .slice none 0 0] 54)) hr9.lt
      have B10 := BB9.alloc (o := .cells #[.int .i64 0, .int .i64 0, .bool false, .bool false, .slice none 0 0] 54) (by omega)
      rcases hor with ⟨kd2, q2, hap2, hkd2, hq2, hqs2, rfl⟩ | ⟨hap2, n2, rfl⟩
      · have HE : Hid (behP s.data.toList = (2, excP (s.data.toList.drop q2))) := by show _ = _; rw [HBH.out, HB2.out, hap2]
        obtain ⟨u0, u1, u2, u3, u4, hus⟩ : ∃ a b c d e, us = [a, b, c, d, e] := by
          match us, hul with
          | [a, b, c, d, e], _ => exact ⟨a, b, c, d, e, rfl⟩
        subst hus
        clear hap2 HBH HB2
        go_wp2_with (first
          | (refine cb_store0 rtPAddr hzB rfl rfl _ _ rfl rfl rfl rfl hu1 ?_
             intro w11 hb11 O11
             have hl11 := hl10.keep (O11.block _ (by omega)) (by rw [O11.size]; exact Nat.le_refl _)
             have hr11 := hr10.keep (O11.block _ (by omega)) (by rw [O11.size]; exact Nat.le_refl _)
             have B11 := B10.trans (O11.below (B := w.heap.size) (by omega))
             obtain ⟨y0, c0⟩ := hl11.get 0 (by omega)
             have f0 := hl11.fz 0 (by omega)
             have hl12 := hl11.set 0 (by omega) (.int .i64 2) rfl
             have hr12 := hr11.keep (heap_setCell_other w11 ⟨ga, 0, none⟩ w.heap.size (.int .i64 2) (by simp; omega)) (by simp)
             have hb12 := hb11.keep (heap_setCell_other w11 ⟨ga, 0, none⟩ w9.heap.size (.int .i64 2) (by simp; omega)) (by simp)
             have B12 := B11.setCell (p := ⟨ga, 0, none⟩) (by simp; omega) (.int .i64 2))
          | refine cb_load0 rtPAddr hb12 rfl rfl _ rfl rfl ?_
          | (refine cb_store rtPAddr hl12 rfl (o := 6) (by rw [List.length_set]; omega) hu1 rfl _ _ rfl rfl rfl ?_
             intro w13 hb13 O13))
        have hlen13 : ((cs7.set 0 (.int .i64 2)).take 6 ++ [u0, u1, u2, u3, u4] ++ (cs7.set 0 (.int .i64 2)).drop (6 + 5)).length = 12 := by simp; omega
        have hz13 : ((cs7.set 0 (.int .i64 2)).take 6 ++ [u0, u1, u2, u3, u4] ++ (cs7.set 0 (.int .i64 2)).drop (6 + 5))[0]? = some (.int .i64 2) := by
          rw [List.append_assoc, List.getElem?_append_left (by rw [List.length_take, List.length_set]; omega), List.getElem?_take, if_pos (by omega), List.getElem?_set_self (by omega)]
        have hA13 := hA12.part hA5 2
        have hr13 := hr12.keep (O13.block _ (by omega)) (by rw [O13.size]; exact Nat.le_refl _)
        have B13 := B12.trans (O13.below (B := w.heap.size) (by omega))
        generalize (cs7.set 0 (.int .i64 2)).take 6 ++ [u0, u1, u2, u3, u4] ++ (cs7.set 0 (.int .i64 2)).drop (6 + 5) = cs13 at *
        clear hb11 O11 hl11 hr11 B11 hl12 hr12 hb12 B12 O13 hl10 hr10 B10 hl9 hr9 BB9 hzB hl7 hr7 B7 c0 f0
        refine (stands_calls s q2 33 _ hsm (by omega) (by decide)).mono ?_
        rintro e wx ⟨rfl, rfl⟩
        cases h33 : stB (s.data.toList.drop q2) 33
        · have HE2 : Hid (behP s.data.toList = (2, s.data.toList.drop q2)) := by show _ = _; rw [HE.out, excP, h33]; rfl
          clear h33 HE
          go_wp2_with (first
            | refine cb_load0 rtPAddrs hb13 hlen13 rfl _ rfl rfl ?_
            | (refine cb_store0 rtPAddrs hr13 rfl rfl _ _ rfl rfl rfl hlen13 hb13.one ?_; intro w20 hb20 O20))
          refine bodyPost_ret (results_cb rfl _ _ _ _ rfl rtPAddrs hb20 hlen13) rfl ?_
          exact ⟨B13.trans (O20.below (Nat.le_refl _)), _, 2, q2, hlen13, hb13.one, hA13, hz13, by omega, by omega, HE2.out, rfl⟩
        · have hq33 := stB_size s q2 33 h33
          have HE2 : Hid (behP s.data.toList = (2, s.data.toList.drop (q2 + 1))) := by show _ = _; rw [HE.out, excP, h33, List.drop_drop]; rfl
          obtain ⟨y11, c11⟩ := hb13.get 11 (by omega)
          have f11 := hb13.fz 11 (by omega)
          have hbS := hb13.set 11 (by omega) (.bool true) rfl
          have hrS := hr13.keep (heap_setCell_other wx ⟨ga, 11, none⟩ w.heap.size (.bool true) (by simp; omega)) (by simp)
          have BS := B13.setCell (p := ⟨ga, 11, none⟩) (by simp; omega) (.bool true)
          have lnS : (cs13.set 11 (.bool true)).length = 12 := by rw [List.length_set]; exact hlen13
          have zS : (cs13.set 11 (.bool true))[0]? = some (.int .i64 2) := by rw [List.getElem?_set_ne (by decide)]; exact hz13
          clear h33 HE
          go_wp2_with (first
            | refine cb_load0 rtPAddrs hbS lnS rfl _ rfl rfl ?_
            | (refine cb_store0 rtPAddrs hrS rfl rfl _ _ rfl rfl rfl lnS hbS.one ?_; intro w20 hb20 O20))
          refine bodyPost_ret (results_cb rfl _ _ _ _ rfl rtPAddrs hb20 lnS) rfl ?_
          exact ⟨BS.trans (O20.below (Nat.le_refl _)), _, 2, q2 + 1, lnS, hbS.one, (by first | exact hA12.set11 true | exact hA13.set11 true), zS, by omega, hq33, HE2.out, rfl⟩
      · have HE : Hid (behP s.data.toList = (1, excP (s.data.toList.drop q))) := by show _ = _; rw [HBH.out, HB2.out, hap2]
        clear hap2 HBH HB2
        go_wp2_with (refine cb_store0 rtPAddr hzB rfl rfl _ _ rfl rfl rfl hul hu1 ?_
                     intro w11 hb11 O11
                     have hl11 := hl10.keep (O11.block _ (by omega)) (by rw [O11.size]; exact Nat.le_refl _)
                     have hr11 := hr10.keep (O11.block _ (by omega)) (by rw [O11.size]; exact Nat.le_refl _)
                     have B11 := B10.trans (O11.below (B := w.heap.size) (by omega)))
        clear hb11 O11 hl10 hr10 B10 hl9 hr9 BB9 hzB hl7 hr7 B7
        refine (stands_calls s q 33 _ hsm (by omega) (by decide)).mono ?_
        rintro e wx ⟨rfl, rfl⟩
        cases h33 : stB (s.data.toList.drop q) 33
        · have HE2 : Hid (behP s.data.toList = (1, s.data.toList.drop q)) := by show _ = _; rw [HE.out, excP, h33]; rfl
          clear h33 HE
          go_wp2_with (first
            | refine cb_load0 rtPAddrs hl11 hlen7 rfl _ rfl rfl ?_
            | (refine cb_store0 rtPAddrs hr11 rfl rfl _ _ rfl rfl rfl hlen7 hl11.one ?_; intro w20 hb20 O20))
          refine bodyPost_ret (results_cb rfl _ _ _ _ rfl rtPAddrs hb20 hlen7) rfl ?_
          exact ⟨B11.trans (O20.below (Nat.le_refl _)), _, 1, q, hlen7, hl11.one, hA12, hz7, by omega, by omega, HE2.out, rfl⟩
        · have hq33 := stB_size s q 33 h33
          have HE2 : Hid (behP s.data.toList = (1, s.data.toList.drop (q + 1))) := by show _ = _; rw [HE.out, excP, h33, List.drop_drop]; rfl
          obtain ⟨y11, c11⟩ := hl11.get 11 (by omega)
          have f11 := hl11.fz 11 (by omega)
          have hbS := hl11.set 11 (by omega) (.bool true) rfl
          have hrS := hr11.keep (heap_setCell_other wx ⟨ga, 11, none⟩ w.heap.size (.bool true) (by simp; omega)) (by simp)
          have BS := B11.setCell (p := ⟨ga, 11, none⟩) (by simp; omega) (.bool true)
          have lnS : (cs7.set 11 (.bool true)).length = 12 := by rw [List.length_set]; exact hlen7
          have zS : (cs7.set 11 (.bool true))[0]? = some (.int .i64 1) := by rw [List.getElem?_set_ne (by decide)]; exact hz7
          clear h33 HE
          go_wp2_with (first
            | refine cb_load0 rtPAddrs hbS lnS rfl _ rfl rfl ?_
            | (refine cb_store0 rtPAddrs hrS rfl rfl _ _ rfl rfl rfl lnS hbS.one ?_; intro w20 hb20 O20))
          refine bodyPost_ret (results_cb rfl _ _ _ _ rfl rtPAddrs hb20 lnS) rfl ?_
          exact ⟨BS.trans (O20.below (Nat.le_refl _)), _, 1, q + 1, lnS, hbS.one, (by first | exact hA12.set11 true | exact hA13.set11 true), zS, by omega, hq33, HE2.out, rfl⟩
  · have HBH : Hid (behP s.data.toList = (0, s.data.toList.drop 0)) := by
      show _ = _
      rw [List.drop_zero] at hap ⊢
      unfold behP; rw [hap]
    clear hap
    go_wp2_with (first
      | (refine cb_store0 rtPAddr hbn rfl rfl _ _ rfl rfl rfl hvl hv1 ?_; intro w5 hb5 O5; have hb6 := hb3.keep (O5.block _ (by omega)) (by rw [O5.size]; exact Nat.le_refl _))
      | (refine cb_store0 rtPAddrs hb6 rfl rfl _ _ rfl rfl (vs := zAs) rfl rfl zAs_one ?_; intro w7 hb7 O7))
    refine bodyPost_ret (results_cb rfl _ _ _ _ rfl rtPAddrs hb7 rfl) rfl ?_
    exact ⟨(B3.trans (O5.below (by omega))).trans (O7.below (Nat.le_refl _)), zAs, 0, 0, rfl, zAs_one, ⟨0, 0, 0, 0, 0, false, false, false, false, false, none, none, 0, 0, 0, 0, rfl⟩, rfl, by omega, by omega, HBH.out, rfl⟩
end Go.Proofs.Ytlppphmnegdhoab

/-
  The program's scripts: readPiece, readReplacement, readFlags.
-/
namespace Go.Proofs.Ytlppphmnegdhoab
set_option linter.unusedVariables false
set_option maxRecDepth 100000
open Go.RowKit
open M

theorem rtPiece : RowT 105 2 := ⟨⟨_, Try.underlying105, rfl⟩, by kernel_rfl⟩
theorem elPiece : ElT 57 105 2 2 (.agg #[.bool false, .int .u8 0]) := ⟨by kernel_rfl, by kernel_rfl, rfl, by decide, by decide, by decide⟩
theorem bar_slash (q : Mk) (h47 : q.is 47 = false) : (q.p && inB q.b [47]) = false := by
  obtain ⟨b, p⟩ := q
  cases p
  · rfl
  · simp [Mk.is] at h47
    simp [inB]
    omega
def PcAt (s : ByteArray) (k : Nat) (m : List Mk) (r : List UInt8) (v2 v3 : Value) : Prop :=
  (∃ (q : Mk) (m' : List Mk) (n : Nat), m = q :: m' ∧ k < n ∧ n ≤ s.size ∧ mksM (s.data.toList.drop n) = (m', r) ∧ v2 = .int .i64 n ∧ v3 = .bool true) ∨ (m = [] ∧ ∃ n : Nat, v2 = .int .i64 n ∧ v3 = .bool false)
def PcPost (s : ByteArray) (k : Nat) (m : List Mk) (r : List UInt8) (w : World) (e : Ending) (w' : World) : Prop :=
  Below w.heap.size w w' ∧ ∃ (vs : List Value) (v2 v3 : Value), vs.length = 2 ∧ (∀ v ∈ vs, v.oneCell' = true) ∧ e = .returned (.tuple #[.agg vs.toArray, v2, v3]) ∧ PcAt s k m r v2 v3
set_option maxRecDepth 100000 in
set_option maxHeartbeats 1000000 in
theorem readPiece_calls (s : ByteArray) (k : Nat) (m : List Mk) (r : List UInt8) (w : World) (hs : s.size ≤ 400) (hk : k ≤ s.size) (hm : mksM (s.data.toList.drop k) = (m, r)) :
    Calls Try.prog 45 #[.string s, .int .i64 k] w fun e w' => PcPost s k m r w e w' := by
  have hsm : s.size ≤ maxLen := by unfold maxLen; omega
  have HM : Hid (mksM (s.data.toList.drop k) = (m, r)) := hm
  have H47 : Hid (∀ q ∈ m, q.is 47 = false) := fun q hq => no47 (s.data.toList.drop k) q (by rw [hm]; exact hq)
  obtain ⟨h38, h38'⟩ := stB_mk _ 38 _ _ hm (by decide) (by decide) (by decide)
  have H38 : Hid (stB (s.data.toList.drop k) 38 = true → ∃ k' m', m = k' :: m' ∧ mksM ((s.data.toList.drop k).drop 1) = (m', r)) := h38'
  clear hm h38 h38'
  have hb0 : CB (w.alloc (.cells #[.bool false, .int .u8 0] 105)) w.heap.size [.bool false, .int .u8 0] := CB.new w _ _ (by simp [Value.oneCell'])
  have B0 : Below w.heap.size w (w.alloc (.cells #[.bool false, .int .u8 0] 105)) := (Below.refl _ _).alloc (Nat.le_refl _) _
  go_enter Try.func45, Try.ntmps45
  go_wp2_with fail
  generalize w.alloc (.cells #[.bool false, .int .u8 0] 105) = W at *
  refine (stands_calls s k 38 _ hsm hk (by decide)).mono ?_
  rintro e w1 ⟨rfl, rfl⟩
  cases hb : stB (s.data.toList.drop k) 38
  · clear hb H38
    go_wp2_with fail
    refine (byte_calls s k _ m r _ hsm hk (by unfold maxLen; decide) (by decide) HM.out).mono ?_
    rintro e w2 ⟨hpost, rfl⟩
    have hp2 : ByteP s k [47] m r e := hpost
    clear hpost
    rcases hp2 with ⟨q, m', n, rfl, hq, hq2, hkn, hn, hm', rfl⟩ | ⟨hno, n, rfl, hn1, hn2⟩
    · have HF : Hid (PcAt s k (q :: m') r (.int .i64 n) (.bool true)) := .inl ⟨q, m', n, rfl, hkn, hn, hm', rfl, rfl⟩
      clear hm' hq
      go_wp2_with (refine cb_store0 rtPiece hb0 rfl rfl _ _ rfl rfl rfl rfl (by simp [Value.oneCell']) ?_; intro w5 hb5 O5)
      refine bodyPost_ret (results_cb3 rfl _ _ _ _ rfl rtPiece hb5 rfl) rfl ?_
      exact ⟨B0.trans (O5.below (Nat.le_refl _)), _, _, _, rfl, by simp [Value.oneCell'], rfl, HF.out⟩
    · have HF : Hid (PcAt s k m r (.int .i64 n) (.bool false)) := .inr ⟨by
        rcases hno with h | ⟨q, v, h, h2⟩
        · exact h
        · rw [bar_slash q (H47.out q (by rw [h]; simp))] at h2; exact Bool.noConfusion h2, n, rfl, rfl⟩
      clear hno
      go_wp2_with (refine cb_store0 rtPiece hb0 rfl rfl _ _ rfl rfl rfl rfl (by simp [Value.oneCell']) ?_; intro w5 hb5 O5)
      refine bodyPost_ret (results_cb3 rfl _ _ _ _ rfl rtPiece hb5 rfl) rfl ?_
      exact ⟨B0.trans (O5.below (Nat.le_refl _)), _, _, _, rfl, by simp [Value.oneCell'], rfl, HF.out⟩
  · have hk1 := stB_size s k 38 hb
    obtain ⟨q, m', hmq, hm'⟩ := H38.out hb
    rw [List.drop_drop] at hm'
    have HF : Hid (PcAt s k m r (.int .i64 ((k + 1 : Nat) : Int)) (.bool true)) := .inl ⟨q, m', k + 1, hmq, by omega, hk1, hm', rfl, rfl⟩
    clear hb hmq hm' H38
    go_wp2_with (refine cb_store0 rtPiece hb0 rfl rfl _ _ rfl rfl rfl rfl (by simp [Value.oneCell']) ?_; intro w5 hb5 O5)
    refine bodyPost_ret (results_cb3 rfl _ _ _ _ rfl rtPiece hb5 rfl) rfl ?_
    exact ⟨B0.trans (O5.below (Nat.le_refl _)), _, _, _, rfl, by simp [Value.oneCell'], rfl, HF.out⟩
def RpPost (s : ByteArray) (k : Nat) (r : List UInt8) (w : World) (e : Ending) (w' : World) : Prop :=
  Below w.heap.size w w' ∧ ∃ (a : Option Addr) (l c n : Nat), e = .returned (.tuple #[.slice a l c, .int .i64 n]) ∧ k ≤ n ∧ n ≤ s.size ∧ mksM (s.data.toList.drop n) = ([], r)
set_option maxRecDepth 100000 in
set_option maxHeartbeats 1000000 in
theorem readReplacement_calls (s : ByteArray) (k : Nat) (m : List Mk) (r : List UInt8) (w : World) (hs : s.size ≤ 400) (hk : k ≤ s.size) (hm : mksM (s.data.toList.drop k) = (m, r)) :
    Calls Try.prog 38 #[.string s, .int .i64 k] w fun e w' => RpPost s k r w e w' := by
  have HM : Hid (mksM (s.data.toList.drop k) = (m, r)) := hm
  clear hm
  go_enter Try.func38, Try.ntmps38
  go_wp2_with fail
  refine (readPiece_calls s k m r w hs hk HM.out).mono ?_
  rintro e w1 ⟨B1, vs, v2, v3, hvl, hv1, rfl, hat⟩
  have HAT : Hid (PcAt s k m r v2 v3) := hat
  have hbn : CB (w1.alloc (.cells #[.bool false, .int .u8 0] 105)) w1.heap.size [.bool false, .int .u8 0] := CB.new w1 _ _ (by simp [Value.oneCell'])
  have B2 := B1.alloc (o := .cells #[.bool false, .int .u8 0] 105) B1.size
  have hsz1 := B1.size
  clear hat B1
  obtain ⟨g7, hg7⟩ : ∃ g, w1.heap.size = g := ⟨_, rfl⟩
  rw [hg7] at hbn hsz1
  go_wp2_with (refine cb_store0 rtPiece hbn rfl rfl _ _ rfl rfl rfl hvl hv1 ?_; intro w3 hb3 O3)
  have B3 := B2.trans (O3.below (B := w.heap.size) (by omega))
  have hs3 : w3.heap.size = g7 + 1 := by rw [O3.size, ← hg7]; simp
  clear hbn B2 O3
  go_loopw [1, 6, 8, 9] (fun v1 v6 v8 v9 wr => ∃ (n l : Nat) (m1 : List Mk) (cs xs : List Value), v1 = .int .i64 n ∧ k ≤ n ∧ n ≤ s.size ∧ l ≤ n ∧ Hid (mksM (s.data.toList.drop n) = (m1, r)) ∧ Hid (PcAt s n m1 r v8 v9) ∧ wr.ownsRow (g7 + 1) 105 2 v6 l xs ∧ CB wr g7 cs ∧ cs.length = 2 ∧ Below w.heap.size w wr ∧ g7 + 1 ≤ wr.heap.size) (fun v1 _ _ _ _ => s.size - (intOf v1).toNat)
  case atStart => exact ⟨k, 0, m, vs, [], rfl, Nat.le_refl _, hk, Nat.zero_le _, HM, HAT, World.ownsRow_nil _ _ _ _, hb3, hvl, B3, by omega⟩
  case round =>
    clear hb3 B3
    obtain ⟨n, l, m1, cs, xs, rfl, hkn, hns, hln, HM1, HA1, hown, hcb, hcl, hB, hg⟩ := hrel
    obtain ⟨av, cv, hvv⟩ := own_form hown
    subst hvv
    rcases HA1.out with ⟨q, m', n', rfl, hnn, hn's, hm', rfl, rfl⟩ | ⟨rfl, n', rfl, rfl⟩
    · have HM2 : Hid (mksM (s.data.toList.drop n') = (m', r)) := hm'
      clear hm' HA1 HM1
      go_wp2_with (first
        | refine cb_load0 rtPiece hcb hcl rfl _ rfl rfl ?_
        | refine gb_build elPiece rfl _ rfl cs rfl hcl ?_
        | (refine gb_append elPiece (hown.alloc _) wr.heap.size cs (heap_alloc_new wr _) hcl hcb.one (by omega) (by simp; omega) rfl _ _ rfl rfl rfl ?_
           intro v' w6 hown6 hgrow6
           have hs6 := hgrow6.size
           have hcb6 := (hcb.below ((Below.refl wr.heap.size wr).alloc (Nat.le_refl _) (.cells cs.toArray 105)) hcb.lt).keep (hgrow6.block g7 (by simp; omega) (fun e => by have := (hown.lt g7 e.symm).1; omega)) hs6
           have hB6 : Below w.heap.size w w6 := (hB.alloc (by omega) _).grown hgrow6 (by simp; omega) (fun k hk => by have := (hown.lt k hk).1; omega)
           obtain ⟨av', cv', hvv⟩ := own_form hown6
           subst hvv
           simp at hs6
           clear hgrow6))
      refine (readPiece_calls s n' m' r _ hs hn's HM2.out).mono ?_
      rintro e w7 ⟨B7, us, u2, u3, hul, hu1, rfl, hat⟩
      have HAT2 : Hid (PcAt s n' m' r u2 u3) := hat
      have hs7 := B7.size
      have hcb7 := hcb6.below B7 hcb6.lt
      have hown7 := ownsRow_below hown6 B7
      have hB7 := hB6.trans (B7.mono (by omega))
      clear hat hcb6 hown6 hB6
      go_wp2_with (refine cb_store0 rtPiece hcb7 hcl rfl _ _ rfl rfl rfl hul hu1 ?_; intro w8 hb8 O8)
      have hown8 := ownsRow_up hown7 (fun k hk => O8.block k (by omega))
      have hB8 := hB7.trans (O8.below (B := w.heap.size) (by omega))
      go_roundw
      case rel => exact ⟨n', l + 1, m', us, _, rfl, by omega, hn's, by omega, HM2, HAT2, hown8, hb8, hul, hB8, by rw [O8.size]; omega⟩
      case measure => first | (simp [intOf]; done) | (simp [intOf]; omega)
    · clear HA1
      go_wp2
      go_ret2
      exact ⟨hB, av, l, cv, n, rfl, hkn, hns, HM1.out⟩
end Go.Proofs.Ytlppphmnegdhoab

/-
  The program's scripts: readFlags, readSubstitution.
-/
namespace Go.Proofs.Ytlppphmnegdhoab
set_option linter.unusedVariables false
set_option maxRecDepth 100000
open Go.RowKit
open M

/-- a command's cells: how many addresses, the name and the label as they were -/
def Sp (cs cs' : List Value) : Prop := cs'.length = 25 ∧ cs'[0]? = cs[0]? ∧ cs'[12]? = cs[12]? ∧ cs'[13]? = cs[13]?
theorem Sp.refl {cs : List Value} (h : cs.length = 25) : Sp cs cs := ⟨h, rfl, rfl, rfl⟩
theorem Sp.trans {a b c : List Value} (h : Sp a b) (g : Sp b c) : Sp a c := ⟨g.1, g.2.1.trans h.2.1, g.2.2.1.trans h.2.2.1, g.2.2.2.trans h.2.2.2⟩
theorem Sp.set {cs : List Value} (h : cs.length = 25) (j : Nat) (u : Value) (hj : 14 ≤ j) : Sp cs (cs.set j u) := by
  refine ⟨by rw [List.length_set]; exact h, ?_, ?_, ?_⟩ <;> rw [List.getElem?_set_ne (by omega)]
theorem Sp.part {cs : List Value} (h : cs.length = 25) (o : Nat) (vs : List Value) (ho : 14 ≤ o) (hn : o + vs.length ≤ 25) : Sp cs (cs.take o ++ vs ++ cs.drop (o + vs.length)) := by
  have e : ∀ j, j < 14 → (cs.take o ++ vs ++ cs.drop (o + vs.length))[j]? = cs[j]? := fun j hj => by
    rw [List.append_assoc, List.getElem?_append_left (by rw [List.length_take]; omega), List.getElem?_take, if_pos (by omega)]
  exact ⟨by simp; omega, e 0 (by omega), e 12 (by omega), e 13 (by omega)⟩
def PCmd (w : World) (b : Nat) (cs : List Value) : Prop := CB w b cs ∧ cs.length = 25
theorem PCmd.keep {w w' : World} {b : Nat} {cs : List Value} (h : PCmd w b cs) (hb : Below w.heap.size w w') : PCmd w' b cs := ⟨h.1.below hb h.1.lt, h.2⟩
theorem opt_dig (t : List UInt8) : optB posB t = if 0 < digI t then t.drop 1 else t := by
  match t with
  | [] => simp [optB, digI]
  | c :: r =>
    show (if posB c.toNat then r else c :: r) = _
    cases hd : digB c.toNat
    · have : posB c.toNat = false := by
        simp [digB] at hd
        simp [posB]; omega
      rw [this]; simp [digI, hd]
    · have h1 : 48 ≤ c.toNat ∧ c.toNat ≤ 57 := by simpa [digB] using hd
      by_cases h2 : c.toNat = 48
      · have : posB c.toNat = false := by rw [h2]; rfl
        rw [this]; simp [digI, h2]; decide
      · have : posB c.toNat = true := by simp [posB]; omega
        rw [this]
        have h3 : 0 < digI (c :: r) := by simp [digI, hd]; omega
        rw [if_pos h3]; rfl
theorem opt_st (t : List UInt8) (c : Nat) : optB (· == c) t = if stB t c then t.drop 1 else t := by
  match t with
  | [] => rfl
  | d :: r => rfl
def FgPost (b : Nat) (cs : List Value) (f : Bool) (w : World) (e : Ending) (w' : World) : Prop := e = .returned (.bool f) ∧ ∃ cs', PCmd w' b cs' ∧ Sp cs cs' ∧ Only b w w'
set_option maxRecDepth 100000 in
set_option maxHeartbeats 1000000 in
theorem readFlags_calls (b : Nat) (cs : List Value) (s : ByteArray) (k : Nat) (w : World) (hs : s.size ≤ 400) (hk : k ≤ s.size) (hb : PCmd w b cs) :
    Calls Try.prog 39 #[.pointer (some ⟨b, 16, none⟩), .string s, .int .i64 k] w fun e w' => FgPost b cs (flagsM (s.data.toList.drop k)) w e w' := by
  have hsm : s.size ≤ maxLen := by unfold maxLen; omega
  have HA : Hid (PCmd w b cs ∧ Sp cs cs ∧ Only b w w) := ⟨hb, Sp.refl hb.2, Only.refl _ _⟩
  have HF : Hid (flagsM (s.data.toList.drop k) = (optB (· == 112) (optB (· == 103) (optB posB (s.data.toList.drop k)))).isEmpty) := rfl
  obtain ⟨cs0, hcs0⟩ : ∃ c, c = cs := ⟨_, rfl⟩
  have HA : Hid (PCmd w b cs0 ∧ Sp cs cs0 ∧ Only b w w) := by rw [hcs0]; exact HA.out
  clear hb hcs0
  go_enter Try.func39, Try.ntmps39
  go_wp2_with fail
  refine (digitAt_calls s k _ hs hk).mono ?_
  rintro e wq ⟨rfl, hwq⟩
  rw [hwq]
  clear hwq
  have hle := digI_le (s.data.toList.drop k)
  have HO := opt_dig (s.data.toList.drop k)
  have HOH : Hid (optB posB (s.data.toList.drop k) = if 0 < digI (s.data.toList.drop k) then (s.data.toList.drop k).drop 1 else s.data.toList.drop k) := HO
  have HSZ : Hid (0 < digI (s.data.toList.drop k) → k + 1 ≤ s.size) := fun h => by
    refine Nat.lt_of_not_le fun h9 => ?_
    rw [List.drop_of_length_le (by rw [ba_len]; omega)] at h
    simp [digI] at h
  clear HO
  generalize digI (s.data.toList.drop k) = dg at *
  go_upto_if 12 with fail
  go_cut [2] (fun v wx => ∃ (q : Nat) (cs' : List Value), v = .int .i64 q ∧ q ≤ s.size ∧ Hid (s.data.toList.drop q = optB posB (s.data.toList.drop k)) ∧ Hid (PCmd wx b cs' ∧ Sp cs cs' ∧ Only b w wx))
  case first =>
    by_cases hd : 0 < dg
    · have hk1 := HSZ.out hd
      have HQ : Hid (s.data.toList.drop (k + 1) = optB posB (s.data.toList.drop k)) := by show _ = _; rw [HOH.out, if_pos hd, List.drop_drop]
      obtain ⟨v9, c9⟩ := HA.out.1.1.get 20 (by have := HA.out.1.2; omega)
      have f9 := HA.out.1.1.fz 20 (by have := HA.out.1.2; omega)
      have HN : Hid (PCmd (w.setCell ⟨b, 20, none⟩ (.int .i64 dg)) b (cs0.set 20 (.int .i64 dg)) ∧ Sp cs (cs0.set 20 (.int .i64 dg)) ∧ Only b w (w.setCell ⟨b, 20, none⟩ (.int .i64 dg))) :=
        ⟨⟨HA.out.1.1.set 20 (by have := HA.out.1.2; omega) _ rfl, by rw [List.length_set]; exact HA.out.1.2⟩, HA.out.2.1.trans (Sp.set HA.out.1.2 20 _ (by decide)), HA.out.2.2.trans (Only.set _ _ _ _)⟩
      go_wp2
      go_meet
      exact ⟨k + 1, _, by go_num, hk1, HQ.out, HN.out⟩
    · have HQ : Hid (s.data.toList.drop k = optB posB (s.data.toList.drop k)) := by show _ = _; rw [HOH.out, if_neg hd]
      go_wp2
      go_meet
      exact ⟨k, _, rfl, hk, HQ.out, HA.out⟩
  case rest =>
  clear HA HOH HSZ hle
  obtain ⟨q, cs1, rfl, hq, HQ, HA⟩ := hcut
  rw [← HQ.out] at HF
  clear HQ
  go_wp2_with fail
  refine (stands_calls s q 103 _ hsm hq (by decide)).mono ?_
  rintro e wq ⟨rfl, hwq⟩
  rw [hwq]
  clear hwq
  go_upto_if 21 with fail
  go_cut [2] (fun v wx => ∃ (q1 : Nat) (cs' : List Value), v = .int .i64 q1 ∧ q1 ≤ s.size ∧ Hid (s.data.toList.drop q1 = optB (· == 103) (s.data.toList.drop q)) ∧ Hid (PCmd wx b cs' ∧ Sp cs cs' ∧ Only b w wx))
  case first =>
    cases hd : stB (s.data.toList.drop q) 103
    · have HQ : Hid (s.data.toList.drop q = optB (· == 103) (s.data.toList.drop q)) := by show _ = _; rw [opt_st, hd]; rfl
      clear hd
      go_wp2
      go_meet
      exact ⟨q, _, rfl, hq, HQ.out, HA.out⟩
    · have hk1 := stB_size s q 103 hd
      have HQ : Hid (s.data.toList.drop (q + 1) = optB (· == 103) (s.data.toList.drop q)) := by show _ = _; rw [opt_st, hd, List.drop_drop]; rfl
      obtain ⟨v9, c9⟩ := HA.out.1.1.get 21 (by have := HA.out.1.2; omega)
      have f9 := HA.out.1.1.fz 21 (by have := HA.out.1.2; omega)
      have HN : Hid (PCmd (wc.setCell ⟨b, 21, none⟩ (.bool true)) b (cs1.set 21 (.bool true)) ∧ Sp cs (cs1.set 21 (.bool true)) ∧ Only b w (wc.setCell ⟨b, 21, none⟩ (.bool true))) :=
        ⟨⟨HA.out.1.1.set 21 (by have := HA.out.1.2; omega) _ rfl, by rw [List.length_set]; exact HA.out.1.2⟩, HA.out.2.1.trans (Sp.set HA.out.1.2 21 _ (by decide)), HA.out.2.2.trans (Only.set _ _ _ _)⟩
      clear hd
      go_wp2
      go_meet
      exact ⟨q + 1, _, by go_num, hk1, HQ.out, HN.out⟩
  case rest =>
  clear HA
  obtain ⟨q1, cs2, rfl, hq1, HQ, HA⟩ := hcut
  rw [← HQ.out] at HF
  clear HQ
  go_wp2_with fail
  refine (stands_calls s q1 112 _ hsm hq1 (by decide)).mono ?_
  rintro e wq ⟨rfl, hwq⟩
  rw [hwq]
  clear hwq
  go_upto_if 29 with fail
  go_cut [2] (fun v wx => ∃ (q2 : Nat) (cs' : List Value), v = .int .i64 q2 ∧ q2 ≤ s.size ∧ Hid (s.data.toList.drop q2 = optB (· == 112) (s.data.toList.drop q1)) ∧ Hid (PCmd wx b cs' ∧ Sp cs cs' ∧ Only b w wx))
  case first =>
    cases hd : stB (s.data.toList.drop q1) 112
    · have HQ : Hid (s.data.toList.drop q1 = optB (· == 112) (s.data.toList.drop q1)) := by show _ = _; rw [opt_st, hd]; rfl
      clear hd
      go_wp2
      go_meet
      exact ⟨q1, _, rfl, hq1, HQ.out, HA.out⟩
    · have hk1 := stB_size s q1 112 hd
      have HQ : Hid (s.data.toList.drop (q1 + 1) = optB (· == 112) (s.data.toList.drop q1)) := by show _ = _; rw [opt_st, hd, List.drop_drop]; rfl
      obtain ⟨v9, c9⟩ := HA.out.1.1.get 22 (by have := HA.out.1.2; omega)
      have f9 := HA.out.1.1.fz 22 (by have := HA.out.1.2; omega)
      have HN : Hid (PCmd (wc.setCell ⟨b, 22, none⟩ (.bool true)) b (cs2.set 22 (.bool true)) ∧ Sp cs (cs2.set 22 (.bool true)) ∧ Only b w (wc.setCell ⟨b, 22, none⟩ (.bool true))) :=
        ⟨⟨HA.out.1.1.set 22 (by have := HA.out.1.2; omega) _ rfl, by rw [List.length_set]; exact HA.out.1.2⟩, HA.out.2.1.trans (Sp.set HA.out.1.2 22 _ (by decide)), HA.out.2.2.trans (Only.set _ _ _ _)⟩
      clear hd
      go_wp2
      go_meet
      exact ⟨q1 + 1, _, by go_num, hk1, HQ.out, HN.out⟩
  case rest =>
  clear HA
  obtain ⟨q2, cs3, rfl, hq2, HQ, HA⟩ := hcut
  rw [← HQ.out] at HF
  clear HQ
  have HE : Hid (flagsM (s.data.toList.drop k) = decide (q2 = s.size)) := by
    show _ = _
    rw [HF.out, Bool.eq_iff_iff, List.isEmpty_iff, decide_eq_true_iff, List.drop_eq_nil_iff, ba_len]
    omega
  by_cases he : q2 = s.size
  · have he1 : ((q2 : Int) == (s.size : Int)) = true := by simp [he]
    have HE2 : Hid (flagsM (s.data.toList.drop k) = true) := by show _ = _; rw [HE.out, decide_eq_true he]
    clear he HE HF
    go_wp2
    go_ret
    exact ⟨ret_bool (by rw [HE2.out]), _, HA.out⟩
  · have he1 : ((q2 : Int) == (s.size : Int)) = false := by simp; omega
    have HE2 : Hid (flagsM (s.data.toList.drop k) = false) := by show _ = _; rw [HE.out, decide_eq_false he]
    clear he HE HF
    go_wp2
    go_ret
    exact ⟨ret_bool (by rw [HE2.out]), _, HA.out⟩
end Go.Proofs.Ytlppphmnegdhoab
