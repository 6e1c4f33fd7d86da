import Derived.Test.YtlppphmnegdhoabGreatDoorRows
import Derived.WalkKit
import Derived.WalkSpells
import Derived.WalkLawsBesides
import Derived.Laws.BitsLemmas
import Derived.Deep.QuietTactic
import Derived.BigQuiet
import Derived.Lib.Strings
import Derived.Laws.BytesArg
import Derived.Deep.MidRow
import Derived.Deep.WholeRow
import Derived.Laws.ResultCell
import Derived.Deep.CutBlock
import Derived.Deep.DeepCutAuto
import Derived.Deep.RegionHeld3
import Derived.Deep.DrawnRows
import Derived.Deep.AppendLies
import Derived.Deep.RegionLaw
import Derived.Great.BuildSlice
import Derived.Lib.ItoaNum
import Derived.Laws.AppendOwnNone
import Derived.Laws.OwnMore
import Derived.Lib.AppendStr
import Derived.Deep.RegionWith
import Derived.Test.YtlppphmnegdhoabGreatDoorMa6
namespace Go.Proofs.YtlppphmnegdhoabGreatDoor
set_option linter.unusedVariables false
set_option maxRecDepth 100000
open Go.RowKit
open M

/-- the blocks from a place up to the end of a world, as they were in it -/
def Kp (lo : Nat) (w w' : World) : Prop := w.heap.size ≤ w'.heap.size ∧ ∀ k, lo ≤ k → k < w.heap.size → w'.heap[k]? = w.heap[k]?
theorem Kp.refl (lo : Nat) (w : World) : Kp lo w w := ⟨Nat.le_refl _, fun _ _ _ => rfl⟩
theorem Kp.below {lo B : Nat} {w x y : World} (h : Kp lo w x) (hb : Below B x y) (hB : w.heap.size ≤ B) : Kp lo w y := ⟨Nat.le_trans h.1 hb.size, fun k h1 h2 => (hb.block k (Nat.lt_of_lt_of_le h2 hB)).trans (h.2 k h1 h2)⟩
theorem Kp.alloc {lo : Nat} {w x : World} (h : Kp lo w x) (o : Obj) : Kp lo w (x.alloc o) := ⟨by have := h.1; simp; omega, fun k h1 h2 => (Below.heap_alloc x o k (Nat.lt_of_lt_of_le h2 h.1)).trans (h.2 k h1 h2)⟩
theorem Kp.only {lo g : Nat} {w x y : World} (h : Kp lo w x) (O : Only g x y) (hg : g < lo ∨ w.heap.size ≤ g) : Kp lo w y := ⟨by rw [O.size]; exact h.1, fun k h1 h2 => (O.block k (by omega)).trans (h.2 k h1 h2)⟩
theorem New.kp {lo : Nat} {w w' : World} {P : World → Prop} (h : New lo w P) (hk : Kp lo w w') : New lo w' P := h.toF hk.1 hk.2
theorem new_nil (lo : Nat) (w : World) (a : Option Addr) : New lo w (fun w => ExOk w a zEx.l) := fun _ _ _ k hk => by simp [zEx] at hk
/-- an address's cells -/
def AdV (lo : Nat) (w : World) (vs : List Value) (A : Adr) : Prop := ∃ a c, vs = [.int .i64 (A.kind : Nat), .int .i64 (A.line : Nat), .bool A.ex.head, .bool A.ex.tail, .slice a A.ex.l.length c] ∧ New lo w (fun w => ExOk w a A.ex.l)
def PvPost (s : ByteArray) (k : Nat) (w : World) (e : Ending) (w' : World) : Prop :=
  Below w.heap.size w w' ∧ ∃ vs : List Value, A5 vs ∧
    ((∃ (A : Adr) (q : Nat), addrV (s.data.toList.drop k) = some (A, s.data.toList.drop q) ∧ A.kind ≠ 0 ∧ k < q ∧ q ≤ s.size ∧ AdV w.heap.size w' vs A ∧ e = .returned (.tuple #[.agg vs.toArray, .int .i64 q, .bool true])) ∨
     (addrV (s.data.toList.drop k) = none ∧ ∃ n : Nat, e = .returned (.tuple #[.agg vs.toArray, .int .i64 n, .bool false])))
set_option maxRecDepth 100000 in
set_option maxHeartbeats 1000000 in
theorem vAddress_calls (s : ByteArray) (k : Nat) (w : World) (hs : s.size ≤ 400) (hk : k ≤ s.size) (hnl : NoNL s) :
    Calls Tryz.prog 165 #[.string s, .int .i64 k] w fun e w' => PvPost s k w e w' := by
  have hsm : s.size ≤ maxLen := by unfold maxLen; omega
  have HNL : Hid (NoNL s) := hnl
  clear hnl
  have hb0 : CB (w.alloc (.cells #[.int .i64 0, .int .i64 0, .bool false, .bool false, .slice none 0 0] 139)) w.heap.size [.int .i64 0, .int .i64 0, .bool false, .bool false, .slice none 0 0] := CB.new w _ _ (by simp [Value.oneCell'])
  have B0 : Below w.heap.size w (w.alloc (.cells #[.int .i64 0, .int .i64 0, .bool false, .bool false, .slice none 0 0] 139)) := (Below.refl _ _).alloc (Nat.le_refl _) _
  go_enter Tryz.func165, Tryz.ntmps165
  go_wp2_with fail
  generalize w.alloc (.cells #[.int .i64 0, .int .i64 0, .bool false, .bool false, .slice none 0 0] 139) = W at *
  refine (stands_calls s k 36 _ hsm hk (by decide)).mono ?_
  rintro e w1 ⟨rfl, rfl⟩
  cases h36 : stB (s.data.toList.drop k) 36
  · have H36 : Hid (stB (s.data.toList.drop k) 36 = false) := h36
    clear h36
    go_wp2_with fail
    refine (stands_calls s k 47 _ hsm hk (by decide)).mono ?_
    rintro e w2 ⟨rfl, rfl⟩
    cases h47 : stB (s.data.toList.drop k) 47
    · have HA : Hid (addrV (s.data.toList.drop k) = if 0 < numL (s.data.toList.drop k) then some (⟨1, numV (s.data.toList.drop k), zEx⟩, (s.data.toList.drop k).drop (numL (s.data.toList.drop k))) else none) := by
        show _ = _
        unfold addrV; rw [H36.out, h47]; rfl
      clear h47 H36
      go_wp2_with fail
      refine (vNum_calls s k w2 hs hk).mono ?_
      rintro e w3 ⟨⟨n, q, hq, rfl, hqs, hnv, hn9⟩, rfl⟩
      have HNV : Hid (k < q → n = numV (s.data.toList.drop k)) := hnv
      clear hnv
      by_cases hp : k < q
      · have HA2 : Hid (addrV (s.data.toList.drop k) = some (⟨1, n, zEx⟩, s.data.toList.drop q)) := by
          show _ = _
          rw [HA.out, if_pos (by omega), List.drop_drop, ← hq, ← HNV.out hp]
        have hp1 : (k : Int) < (q : Int) := by omega
        clear hq HA
        go_wp2_with (refine cb_store0 rtPAddr hb0 rfl rfl _ _ rfl rfl rfl rfl (by simp [Value.oneCell']) ?_; intro w5 hb5 O5)
        refine bodyPost_ret (results_cb3 rfl _ _ _ _ rfl rtPAddr hb5 rfl) rfl ?_
        exact ⟨B0.trans (O5.below (Nat.le_refl _)), [.int .i64 1, .int .i64 (n : Nat), .bool false, .bool false, .slice none 0 0], ⟨_, _, _, _, _, _, _, rfl⟩, .inl ⟨⟨1, n, zEx⟩, q, HA2.out, by show 1 ≠ 0; decide, hp, hqs, ⟨none, 0, rfl, new_nil _ _ _⟩, rfl⟩⟩
      · have HA2 : Hid (addrV (s.data.toList.drop k) = none) := by
          show _ = _
          rw [HA.out, if_neg (by omega)]
        have hp1 : ¬ (k : Int) < (q : Int) := by omega
        clear hq HA
        go_wp2_with (refine cb_store0 rtPAddr hb0 rfl rfl _ _ rfl rfl rfl rfl (by simp [Value.oneCell']) ?_; intro w5 hb5 O5)
        refine bodyPost_ret (results_cb3 rfl _ _ _ _ rfl rtPAddr hb5 rfl) rfl ?_
        exact ⟨B0.trans (O5.below (Nat.le_refl _)), _, ⟨_, _, _, _, _, _, _, rfl⟩, .inr ⟨HA2.out, q, rfl⟩⟩
    · have HA : Hid (addrV (s.data.toList.drop k) = (betX (uptoM (s.data.toList.drop (k + 1)))).map (fun p => (⟨3, 0, p.1⟩, p.2))) := by
        show _ = _
        unfold addrV; rw [H36.out, h47, List.drop_drop]; rfl
      have H47 : Hid (stB (s.data.toList.drop k) 47 = true) := h47
      clear h47 H36
      go_wp2_with fail
      refine (vBetween_calls s k w2 hs hk HNL.out).mono ?_
      rintro e w3 ⟨B3, vs, hE, hor⟩
      have hv1 := hE.one
      obtain ⟨v0, v1, v2, v3, v4, rfl⟩ := hE
      have hb3 := hb0.below B3 hb0.lt
      have BB3 := B0.trans (B3.mono B0.size)
      have hlt3 := hb3.lt
      have hbn : CB (w3.alloc (.cells #[.bool false, .bool false, .slice none 0 0] 137)) w3.heap.size [.bool false, .bool false, .slice none 0 0] := CB.new w3 _ _ (by simp [Value.oneCell'])
      have hb4 : CB (w3.alloc (.cells #[.bool false, .bool false, .slice none 0 0] 137)) w.heap.size [.int .i64 0, .int .i64 0, .bool false, .bool false, .slice none 0 0] := hb3.below ((Below.refl _ _).alloc (Nat.le_refl _) _) hlt3
      have B4 := BB3.alloc (o := .cells #[.bool false, .bool false, .slice none 0 0] 137) (by omega)
      rcases hor with ⟨_, q, x, hbt, hkq, hqs, ⟨p1, c1, hvx, hnx⟩, rfl⟩ | ⟨hno, rfl⟩
      · have HA2 : Hid (addrV (s.data.toList.drop k) = some (⟨3, 0, x⟩, s.data.toList.drop q)) := by show _ = _; rw [HA.out, hbt]; rfl
        have HVX : Hid ([Value.bool v0, Value.bool v1, Value.slice v2 v3 v4] = [Value.bool x.head, Value.bool x.tail, Value.slice p1 x.l.length c1]) := hvx
        have HNX : Hid (New w2.heap.size w3 (fun w => ExOk w p1 x.l)) := hnx
        have hlw := hb0.lt
        clear hbt HA hvx hnx
        go_wp2_with (first
          | (refine cb_store0 rtPExp hbn rfl rfl _ _ rfl rfl rfl rfl hv1 ?_; intro w5 hb5 O5; have hb6 := hb4.keep (O5.block _ (by omega)) (by rw [O5.size]; exact Nat.le_refl _))
          | refine cb_load0 rtPExp hb5 rfl rfl _ rfl rfl ?_
          | (refine cb_store0 rtPAddr hb6 rfl rfl _ _ rfl rfl rfl rfl (ones_app (l := [.int .i64 3, .int .i64 0]) (by simp [Value.oneCell']) hv1) ?_; intro w7 hb7 O7))
        refine bodyPost_ret (results_cb3 rfl _ _ _ _ rfl rtPAddr hb7 rfl) rfl ?_
        exact ⟨(B4.trans (O5.below (by omega))).trans (O7.below (Nat.le_refl _)), [.int .i64 3, .int .i64 0, .bool v0, .bool v1, .slice v2 v3 v4], ⟨_, _, _, _, _, _, _, rfl⟩, .inl ⟨⟨3, 0, x⟩, q, HA2.out, by show 3 ≠ 0; decide, hkq, hqs, ⟨p1, c1, congrArg (fun l => Value.int .i64 3 :: Value.int .i64 0 :: l) HVX.out, ((HNX.out.boxed O5).only O7 hlw).mono (Nat.le_of_lt hlw)⟩, rfl⟩⟩
      · have HA2 : Hid (addrV (s.data.toList.drop k) = none) := by
          show _ = _
          rcases hno with h | h
          · rw [H47.out] at h; cases h
          · rw [HA.out, h]; rfl
        clear hno HA
        go_wp2_with (first
          | (refine cb_store0 rtPExp hbn rfl rfl _ _ rfl rfl rfl rfl hv1 ?_; intro w5 hb5 O5; have hb6 := hb4.keep (O5.block _ (by omega)) (by rw [O5.size]; exact Nat.le_refl _))
          | refine cb_load0 rtPExp hb5 rfl rfl _ rfl rfl ?_
          | (refine cb_store0 rtPAddr hb6 rfl rfl _ _ rfl rfl rfl rfl (ones_app (l := [.int .i64 3, .int .i64 0]) (by simp [Value.oneCell']) hv1) ?_; intro w7 hb7 O7))
        refine bodyPost_ret (results_cb3 rfl _ _ _ _ rfl rtPAddr hb7 rfl) rfl ?_
        exact ⟨(B4.trans (O5.below (by omega))).trans (O7.below (Nat.le_refl _)), _, ⟨_, _, _, _, _, _, _, rfl⟩, .inr ⟨HA2.out, k, rfl⟩⟩
  · have hk1 := stB_size s k 36 h36
    have HA : Hid (addrV (s.data.toList.drop k) = some (⟨2, 0, zEx⟩, s.data.toList.drop (k + 1))) := by
      show _ = _
      unfold addrV; rw [h36, List.drop_drop]; rfl
    clear h36
    go_wp2_with (refine cb_store0 rtPAddr hb0 rfl rfl _ _ rfl rfl rfl rfl (by simp [Value.oneCell']) ?_; intro w5 hb5 O5)
    refine bodyPost_ret (results_cb3 rfl _ _ _ _ rfl rtPAddr hb5 rfl) rfl ?_
    exact ⟨B0.trans (O5.below (Nat.le_refl _)), [.int .i64 2, .int .i64 0, .bool false, .bool false, .slice none 0 0], ⟨_, _, _, _, _, _, _, rfl⟩, .inl ⟨⟨2, 0, zEx⟩, k + 1, HA.out, by show 2 ≠ 0; decide, by omega, hk1, ⟨none, 0, rfl, new_nil _ _ _⟩, rfl⟩⟩
/-- the addresses' cells -/
def asL (A : Ads) (p1 : Option Addr) (q1 : Nat) (p2 : Option Addr) (q2 : Nat) : List Value := [.int .i64 (A.cnt : Nat), .int .i64 (A.a1.kind : Nat), .int .i64 (A.a1.line : Nat), .bool A.a1.ex.head, .bool A.a1.ex.tail, .slice p1 A.a1.ex.l.length q1, .int .i64 (A.a2.kind : Nat), .int .i64 (A.a2.line : Nat), .bool A.a2.ex.head, .bool A.a2.ex.tail, .slice p2 A.a2.ex.l.length q2, .bool A.no]
def AsV (lo : Nat) (w : World) (vs : List Value) (A : Ads) : Prop := ∃ p1 q1 p2 q2, vs = asL A p1 q1 p2 q2 ∧ New lo w (fun w => ExOk w p1 A.a1.ex.l) ∧ New lo w (fun w => ExOk w p2 A.a2.ex.l)
def AvPost (s : ByteArray) (w : World) (e : Ending) (w' : World) : Prop :=
  Below w.heap.size w w' ∧ ∃ (vs : List Value) (A : Ads) (q : Nat), q ≤ s.size ∧ behV s.data.toList = (A, s.data.toList.drop q) ∧ AsV w.heap.size w' vs A ∧ e = .returned (.tuple #[.agg vs.toArray, .int .i64 q])
set_option maxRecDepth 100000 in
set_option maxHeartbeats 2000000 in
theorem vAddresses_calls (s : ByteArray) (w : World) (hs : s.size ≤ 400) (hnl : NoNL s) :
    Calls Tryz.prog 131 #[.string s] w fun e w' => AvPost s w e w' := by
  have hsm : s.size ≤ maxLen := by unfold maxLen; omega
  have HNL : Hid (NoNL s) := hnl
  clear hnl
  have hb0 : CB (w.alloc (.cells zAs.toArray 141)) w.heap.size zAs := CB.new w _ _ zAs_one
  have B0 : Below w.heap.size w (w.alloc (.cells zAs.toArray 141)) := (Below.refl _ _).alloc (Nat.le_refl _) _
  go_enter Tryz.func131, Tryz.ntmps131
  go_wp2_with fail
  change Calls _ _ _ (w.alloc (.cells zAs.toArray 141)) _
  generalize w.alloc (.cells zAs.toArray 141) = W at *
  have HC := vAddress_calls s 0 W hs (Nat.zero_le _) HNL.out
  rw [show ((0 : Nat) : Int) = 0 from rfl] at HC
  refine HC.mono ?_
  clear HC
  rintro e w2 ⟨B2, vs, hA, hor⟩
  have hvl := hA.len
  have hv1 := hA.one
  have hb2 := hb0.below B2 hb0.lt
  have BB2 := B0.trans (B2.mono B0.size)
  have hlt2 := hb2.lt
  have hbn : CB (w2.alloc (.cells #[.int .i64 0, .int .i64 0, .bool false, .bool false, .slice none 0 0] 139)) w2.heap.size [.int .i64 0, .int .i64 0, .bool false, .bool false, .slice none 0 0] := CB.new w2 _ _ (by simp [Value.oneCell'])
  have hb3 : CB (w2.alloc (.cells #[.int .i64 0, .int .i64 0, .bool false, .bool false, .slice none 0 0] 139)) w.heap.size zAs := hb2.below ((Below.refl _ _).alloc (Nat.le_refl _) _) hlt2
  have B3 := BB2.alloc (o := .cells #[.int .i64 0, .int .i64 0, .bool false, .bool false, .slice none 0 0] 139) (by omega)
  have hs3 : (w2.alloc (.cells #[.int .i64 0, .int .i64 0, .bool false, .bool false, .slice none 0 0] 139)).heap.size = w2.heap.size + 1 := by simp
  have hwW : w.heap.size < W.heap.size := hb0.lt
  have hWw2 : W.heap.size ≤ w2.heap.size := B2.size
  obtain ⟨lo, hlo⟩ : ∃ lo, W.heap.size = lo := ⟨_, rfl⟩
  rw [hlo] at hwW hWw2
  rcases hor with ⟨A, q, hap, hkd, h0q, hqs, ⟨p1, q1, hvx, hnx⟩, rfl⟩ | ⟨hap, n, rfl⟩
  · rw [hlo] at hnx
    have HN1 : Hid (New lo w2 (fun w => ExOk w p1 A.ex.l)) := hnx
    obtain ⟨k1, n1, h1, t1, a1, l1, c1, rfl⟩ := hA
    have HVX : Hid ([Value.int .i64 k1, Value.int .i64 n1, Value.bool h1, Value.bool t1, Value.slice a1 l1 c1] = [Value.int .i64 (A.kind : Nat), .int .i64 (A.line : Nat), .bool A.ex.head, .bool A.ex.tail, .slice p1 A.ex.l.length q1]) := hvx
    clear hnx hvx hkd
    obtain ⟨v0, hv0⟩ : ∃ v, Value.int .i64 k1 = v := ⟨_, rfl⟩
    obtain ⟨v1, hv1'⟩ : ∃ v, Value.int .i64 n1 = v := ⟨_, rfl⟩
    obtain ⟨v2, hv2⟩ : ∃ v, Value.bool h1 = v := ⟨_, rfl⟩
    obtain ⟨v3, hv3⟩ : ∃ v, Value.bool t1 = v := ⟨_, rfl⟩
    obtain ⟨v4, hv4⟩ : ∃ v, Value.slice a1 l1 c1 = v := ⟨_, rfl⟩
    have hA12 : A12 [.int .i64 1, v0, v1, v2, v3, v4, .int .i64 0, .int .i64 0, .bool false, .bool false, .slice none 0 0, .bool false] := ⟨1, k1, n1, 0, 0, h1, t1, false, false, false, a1, none, l1, c1, 0, 0, by rw [← hv0, ← hv1', ← hv2, ← hv3, ← hv4]⟩
    rw [hv0, hv1', hv2, hv3, hv4] at HVX
    rw [hv0, hv1', hv2, hv3, hv4] at hv1 hvl ⊢
    clear hv0 hv1' hv2 hv3 hv4
    have HBH : Hid (behV s.data.toList = excV (secV A (s.data.toList.drop q))) := by
      show _ = _
      rw [List.drop_zero] at hap
      unfold behV; rw [hap]
    clear hap
    go_upto_region 5 with (first
      | (refine cb_store0 rtPAddr hbn rfl rfl _ _ rfl rfl rfl rfl hv1 ?_
         intro w5 hb5 O5
         have hr5 := hb3.keep (O5.block _ (by omega)) (by rw [O5.size]; exact Nat.le_refl _)
         have B5 := B3.trans (O5.below (B := w.heap.size) (by omega))
         have hs5 : w5.heap.size = w2.heap.size + 1 := by rw [O5.size]; simp
         have hcn : CB (w5.alloc (.cells zAs.toArray 141)) (w2.heap.size + 1) zAs := by rw [← hs5]; exact CB.new w5 _ _ zAs_one
         have hr6 := hr5.below ((Below.refl w5.heap.size w5).alloc (Nat.le_refl _) (.cells zAs.toArray 141)) hr5.lt
         have B6 := B5.alloc (o := .cells zAs.toArray 141) (by omega))
      | refine cb_load0 rtPAddr hb5 rfl rfl _ rfl rfl ?_
      | (refine cb_store0 rtPAddrs hcn rfl rfl _ _ rfl rfl rfl rfl (ones_app (l := [.int .i64 1]) (by simp [Value.oneCell']) (ones_app hv1 (m := [.int .i64 0, .int .i64 0, .bool false, .bool false, .slice none 0 0, .bool false]) (by simp [Value.oneCell']))) ?_
         intro w7 hb7 O7
         have KP7 : Hid (Kp lo w2 w7) := (((Kp.refl lo w2).alloc _).only O5 (.inr (Nat.le_refl _))).alloc _ |>.only O7 (.inr (by omega))
         have hr7 := hr6.keep (O7.block _ (by omega)) (by rw [O7.size]; exact Nat.le_refl _)
         have B7 := B6.trans (O7.below (B := w.heap.size) (by omega))))
    have hl7 : CB w7 (w2.heap.size + 1) ([.int .i64 1, v0, v1, v2, v3, v4, .int .i64 0, .int .i64 0, .bool false, .bool false, .slice none 0 0, .bool false] : List Value) := hb7
    obtain ⟨cs7, hcs7⟩ : ∃ cs : List Value, ([.int .i64 1, v0, v1, v2, v3, v4, .int .i64 0, .int .i64 0, .bool false, .bool false, .slice none 0 0, .bool false] : List Value) = cs := ⟨_, rfl⟩
    have hlen7 : cs7.length = 12 := by rw [← hcs7]; rfl
    have hz7 : cs7[0]? = some (.int .i64 1) := by rw [← hcs7]; rfl
    have HAS : Hid (cs7 = asL ⟨1, A, zAdr, false⟩ p1 q1 none 0) := by
      show _ = _
      have h9 := HVX.out
      simp only [List.cons.injEq, and_true] at h9
      rw [← hcs7, h9.1, h9.2.1, h9.2.2.1, h9.2.2.2.1, h9.2.2.2.2]; rfl
    clear HVX
    rw [hcs7] at hl7 hA12
    obtain ⟨ga, hga⟩ : ∃ g, w2.heap.size + 1 = g := ⟨_, rfl⟩
    have hgw : w.heap.size < ga := by omega
    have hgw2 : w2.heap.size ≤ ga := by omega
    have hga2 : ga < w7.heap.size := by rw [← hga]; exact hl7.lt
    rw [hga] at hl7
    try simp only [Act.put]
    clear hb7 hcn hr6 B6 hb5 O5 hr5 B5 hs5 O7 hcs7 hbn hb3 B3 hs3 hb2 BB2 hb0 B0 B2
    go_wp2_with fail
    refine (stands_calls s q 44 _ hsm hqs (by decide)).mono ?_
    rintro e w8 ⟨rfl, rfl⟩
    cases h44 : stB (s.data.toList.drop q) 44
    · have HE : Hid (behV s.data.toList = excV (⟨1, A, zAdr, false⟩, s.data.toList.drop q)) := by show _ = _; rw [HBH.out, secV, h44]; rfl
      clear h44 HBH
      go_wp2_with fail
      refine (stands_calls s q 33 _ hsm (by omega) (by decide)).mono ?_
      rintro e wx ⟨rfl, rfl⟩
      cases h33 : stB (s.data.toList.drop q) 33
      · have HE2 : Hid (behV s.data.toList = (⟨1, A, zAdr, false⟩, s.data.toList.drop q)) := by show _ = _; rw [HE.out]; unfold excV; simp only [h33]; rfl
        clear h33 HE
        go_wp2_with (first
          | refine cb_load0 rtPAddrs hl7 hlen7 rfl _ rfl rfl ?_
          | (refine cb_store0 rtPAddrs hr7 rfl rfl _ _ rfl rfl rfl hlen7 hl7.one ?_; intro w20 hb20 O20))
        refine bodyPost_ret (results_cb rfl _ _ _ _ rfl rtPAddrs hb20 hlen7) rfl ?_
        exact ⟨B7.trans (O20.below (Nat.le_refl _)), _, _, q, by omega, HE2.out, ⟨p1, q1, none, 0, HAS.out, ((HN1.out.kp KP7.out).only O20 hwW).mono (Nat.le_of_lt hwW), new_nil _ _ _⟩, rfl⟩
      · have hq33 := stB_size s q 33 h33
        have HE2 : Hid (behV s.data.toList = (⟨1, A, zAdr, true⟩, s.data.toList.drop (q + 1))) := by show _ = _; rw [HE.out]; unfold excV; simp only [h33, List.drop_drop]; rfl
        have HAS2 : Hid (cs7.set 11 (.bool true) = asL ⟨1, A, zAdr, true⟩ p1 q1 none 0) := by show _ = _; rw [HAS.out]; rfl
        have KP8 : Hid (Kp lo w2 (wx.setCell ⟨ga, 11, none⟩ (.bool true))) := KP7.out.only (Only.set _ _ _ _) (.inr hgw2)
        obtain ⟨y11, c11⟩ := hl7.get 11 (by omega)
        have f11 := hl7.fz 11 (by omega)
        have hbS := hl7.set 11 (by omega) (.bool true) rfl
        have hrS := hr7.keep (heap_setCell_other wx ⟨ga, 11, none⟩ w.heap.size (.bool true) (by simp; omega)) (by simp)
        have BS := B7.setCell (p := ⟨ga, 11, none⟩) (by simp; omega) (.bool true)
        have lnS : (cs7.set 11 (.bool true)).length = 12 := by rw [List.length_set]; exact hlen7
        have zS : (cs7.set 11 (.bool true))[0]? = some (.int .i64 1) := by rw [List.getElem?_set_ne (by decide)]; exact hz7
        clear h33 HE
        go_wp2_with (first
          | refine cb_load0 rtPAddrs hbS lnS rfl _ rfl rfl ?_
          | (refine cb_store0 rtPAddrs hrS rfl rfl _ _ rfl rfl rfl lnS hbS.one ?_; intro w20 hb20 O20))
        refine bodyPost_ret (results_cb rfl _ _ _ _ rfl rtPAddrs hb20 lnS) rfl ?_
        exact ⟨BS.trans (O20.below (Nat.le_refl _)), _, _, q + 1, hq33, HE2.out, ⟨p1, q1, none, 0, HAS2.out, ((HN1.out.kp KP8.out).only O20 hwW).mono (Nat.le_of_lt hwW), new_nil _ _ _⟩, rfl⟩
    · have hq44 := stB_size s q 44 h44
      have HB2 : Hid (secV A (s.data.toList.drop q) = match addrV (s.data.toList.drop (q + 1)) with | none => (⟨1, A, zAdr, false⟩, s.data.toList.drop q) | some p => (⟨2, A, p.1, false⟩, p.2)) := by
        show _ = _
        rw [secV, h44, List.drop_drop]; rfl
      clear h44
      go_wp2_with fail
      have HC := vAddress_calls s (q + 1) w8 hs hq44 HNL.out
      rw [show ((q + 1 : Nat) : Int) = (q : Int) + 1 from rfl] at HC
      refine HC.mono ?_
      clear HC
      rintro e w9 ⟨B9, us, hA5, hor⟩
      have hul := hA5.len
      have hu1 := hA5.one
      have hl9 := hl7.below B9 hl7.lt
      have hr9 := hr7.below B9 hr7.lt
      have BB9 := B7.trans (B9.mono B7.size)
      have hlt9 := hl9.lt
      have KP9 : Hid (Kp lo w2 w9) := KP7.out.below B9 (by have := KP7.out.1; omega)
      have hga8 : ga < w8.heap.size := hga2
      have hw8 : w.heap.size ≤ w8.heap.size := by omega
      have hw89 : w8.heap.size ≤ w9.heap.size := B9.size
      obtain ⟨lo2, hlo2⟩ : ∃ lo, w8.heap.size = lo := ⟨_, rfl⟩
      rw [hlo2] at hga8 hw8 hw89
      have hzB : CB (w9.alloc (.cells #[.int .i64 0, .int .i64 0, .bool false, .bool false, .slice none 0 0] 139)) w9.heap.size [.int .i64 0, .int .i64 0, .bool false, .bool false, .slice none 0 0] := CB.new w9 _ _ (by simp [Value.oneCell'])
      have hl10 := hl9.below ((Below.refl w9.heap.size w9).alloc (Nat.le_refl _) (.cells #[.int .i64 0, .int .i64 0, .bool false, .bool false, .slice none 0 0] 139)) hlt9
      have hr10 := hr9.below ((Below.refl w9.heap.size w9).alloc (Nat.le_refl _) (.cells #[.int .i64 0, .int .i64 0, .bool false, .bool false, .slice none 0 0] 139)) hr9.lt
      have B10 := BB9.alloc (o := .cells #[.int .i64 0, .int .i64 0, .bool false, .bool false, .slice none 0 0] 139) (by omega)
      rcases hor with ⟨A2, q2, hap2, hkd2, hq2, hqs2, ⟨p2, r2, hvx2, hnx2⟩, rfl⟩ | ⟨hap2, n2, rfl⟩
      · rw [hlo2] at hnx2
        have HN2 : Hid (New lo2 w9 (fun w => ExOk w p2 A2.ex.l)) := hnx2
        have HVX2 : Hid (us = [Value.int .i64 (A2.kind : Nat), .int .i64 (A2.line : Nat), .bool A2.ex.head, .bool A2.ex.tail, .slice p2 A2.ex.l.length r2]) := hvx2
        have HE : Hid (behV s.data.toList = excV (⟨2, A, A2, false⟩, s.data.toList.drop q2)) := by show _ = _; rw [HBH.out, HB2.out, hap2]
        clear hnx2 hvx2 hkd2
        obtain ⟨u0, u1, u2, u3, u4, hus⟩ : ∃ a b c d e, us = [a, b, c, d, e] := by
          match us, hul with
          | [a, b, c, d, e], _ => exact ⟨a, b, c, d, e, rfl⟩
        subst hus
        clear hap2 HBH HB2
        go_wp2_with (first
          | (refine cb_store0 rtPAddr hzB rfl rfl _ _ rfl rfl rfl rfl hu1 ?_
             intro w11 hb11 O11
             have hl11 := hl10.keep (O11.block _ (by omega)) (by rw [O11.size]; exact Nat.le_refl _)
             have hr11 := hr10.keep (O11.block _ (by omega)) (by rw [O11.size]; exact Nat.le_refl _)
             have B11 := B10.trans (O11.below (B := w.heap.size) (by omega))
             obtain ⟨y0, c0⟩ := hl11.get 0 (by omega)
             have f0 := hl11.fz 0 (by omega)
             have hl12 := hl11.set 0 (by omega) (.int .i64 2) rfl
             have hr12 := hr11.keep (heap_setCell_other w11 ⟨ga, 0, none⟩ w.heap.size (.int .i64 2) (by simp; omega)) (by simp)
             have hb12 := hb11.keep (heap_setCell_other w11 ⟨ga, 0, none⟩ w9.heap.size (.int .i64 2) (by simp; omega)) (by simp)
             have B12 := B11.setCell (p := ⟨ga, 0, none⟩) (by simp; omega) (.int .i64 2)
             have KP12 : Hid (Kp lo w2 (w11.setCell ⟨ga, 0, none⟩ (.int .i64 2))) := ((KP9.out.alloc _).only O11 (.inr KP9.out.1)).only (Only.set _ _ _ _) (.inr hgw2)
             have HN12 : Hid (New lo2 (w11.setCell ⟨ga, 0, none⟩ (.int .i64 2)) (fun w => ExOk w p2 A2.ex.l)) := (HN2.out.boxed O11).only (Only.set _ _ _ _) hga8)
          | refine cb_load0 rtPAddr hb12 rfl rfl _ rfl rfl ?_
          | (refine cb_store rtPAddr hl12 rfl (o := 6) (by rw [List.length_set]; omega) hu1 rfl _ _ rfl rfl rfl ?_
             intro w13 hb13 O13))
        have hlen13 : ((cs7.set 0 (.int .i64 2)).take 6 ++ [u0, u1, u2, u3, u4] ++ (cs7.set 0 (.int .i64 2)).drop (6 + 5)).length = 12 := by simp; omega
        have hz13 : ((cs7.set 0 (.int .i64 2)).take 6 ++ [u0, u1, u2, u3, u4] ++ (cs7.set 0 (.int .i64 2)).drop (6 + 5))[0]? = some (.int .i64 2) := by
          rw [List.append_assoc, List.getElem?_append_left (by rw [List.length_take, List.length_set]; omega), List.getElem?_take, if_pos (by omega), List.getElem?_set_self (by omega)]
        have hA13 := hA12.part hA5 2
        have hr13 := hr12.keep (O13.block _ (by omega)) (by rw [O13.size]; exact Nat.le_refl _)
        have B13 := B12.trans (O13.below (B := w.heap.size) (by omega))
        have KP13 : Hid (Kp lo w2 w13) := KP12.out.only O13 (.inr hgw2)
        have HN13 : Hid (New lo2 w13 (fun w => ExOk w p2 A2.ex.l)) := HN12.out.only O13 hga8
        have HAS13 : Hid ((cs7.set 0 (.int .i64 2)).take 6 ++ [u0, u1, u2, u3, u4] ++ (cs7.set 0 (.int .i64 2)).drop (6 + 5) = asL ⟨2, A, A2, false⟩ p1 q1 p2 r2) := by
          show _ = _
          rw [HVX2.out, HAS.out]; rfl
        generalize (cs7.set 0 (.int .i64 2)).take 6 ++ [u0, u1, u2, u3, u4] ++ (cs7.set 0 (.int .i64 2)).drop (6 + 5) = cs13 at *
        clear hb11 O11 hl11 hr11 B11 hl12 hr12 hb12 B12 O13 hl10 hr10 B10 hl9 hr9 BB9 hzB hl7 hr7 B7 c0 f0
        refine (stands_calls s q2 33 _ hsm (by omega) (by decide)).mono ?_
        rintro e wx ⟨rfl, rfl⟩
        cases h33 : stB (s.data.toList.drop q2) 33
        · have HE2 : Hid (behV s.data.toList = (⟨2, A, A2, false⟩, s.data.toList.drop q2)) := by show _ = _; rw [HE.out]; unfold excV; simp only [h33]; rfl
          clear h33 HE
          go_wp2_with (first
            | refine cb_load0 rtPAddrs hb13 hlen13 rfl _ rfl rfl ?_
            | (refine cb_store0 rtPAddrs hr13 rfl rfl _ _ rfl rfl rfl hlen13 hb13.one ?_; intro w20 hb20 O20))
          refine bodyPost_ret (results_cb rfl _ _ _ _ rfl rtPAddrs hb20 hlen13) rfl ?_
          exact ⟨B13.trans (O20.below (Nat.le_refl _)), _, _, q2, by omega, HE2.out, ⟨p1, q1, p2, r2, HAS13.out, ((HN1.out.kp KP13.out).only O20 hwW).mono (Nat.le_of_lt hwW), (HN13.out.only O20 (by omega)).mono hw8⟩, rfl⟩
        · have hq33 := stB_size s q2 33 h33
          have HE2 : Hid (behV s.data.toList = (⟨2, A, A2, true⟩, s.data.toList.drop (q2 + 1))) := by show _ = _; rw [HE.out]; unfold excV; simp only [h33, List.drop_drop]; rfl
          have HAS14 : Hid (cs13.set 11 (.bool true) = asL ⟨2, A, A2, true⟩ p1 q1 p2 r2) := by show _ = _; rw [HAS13.out]; rfl
          have KP14 : Hid (Kp lo w2 (wx.setCell ⟨ga, 11, none⟩ (.bool true))) := KP13.out.only (Only.set _ _ _ _) (.inr hgw2)
          have HN14 : Hid (New lo2 (wx.setCell ⟨ga, 11, none⟩ (.bool true)) (fun w => ExOk w p2 A2.ex.l)) := HN13.out.only (Only.set _ _ _ _) hga8
          obtain ⟨y11, c11⟩ := hb13.get 11 (by omega)
          have f11 := hb13.fz 11 (by omega)
          have hbS := hb13.set 11 (by omega) (.bool true) rfl
          have hrS := hr13.keep (heap_setCell_other wx ⟨ga, 11, none⟩ w.heap.size (.bool true) (by simp; omega)) (by simp)
          have BS := B13.setCell (p := ⟨ga, 11, none⟩) (by simp; omega) (.bool true)
          have lnS : (cs13.set 11 (.bool true)).length = 12 := by rw [List.length_set]; exact hlen13
          have zS : (cs13.set 11 (.bool true))[0]? = some (.int .i64 2) := by rw [List.getElem?_set_ne (by decide)]; exact hz13
          clear h33 HE
          go_wp2_with (first
            | refine cb_load0 rtPAddrs hbS lnS rfl _ rfl rfl ?_
            | (refine cb_store0 rtPAddrs hrS rfl rfl _ _ rfl rfl rfl lnS hbS.one ?_; intro w20 hb20 O20))
          refine bodyPost_ret (results_cb rfl _ _ _ _ rfl rtPAddrs hb20 lnS) rfl ?_
          exact ⟨BS.trans (O20.below (Nat.le_refl _)), _, _, q2 + 1, hq33, HE2.out, ⟨p1, q1, p2, r2, HAS14.out, ((HN1.out.kp KP14.out).only O20 hwW).mono (Nat.le_of_lt hwW), (HN14.out.only O20 (by omega)).mono hw8⟩, rfl⟩
      · have HE : Hid (behV s.data.toList = excV (⟨1, A, zAdr, false⟩, s.data.toList.drop q)) := by show _ = _; rw [HBH.out, HB2.out, hap2]
        clear hap2 HBH HB2
        go_wp2_with (refine cb_store0 rtPAddr hzB rfl rfl _ _ rfl rfl rfl hul hu1 ?_
                     intro w11 hb11 O11
                     have hl11 := hl10.keep (O11.block _ (by omega)) (by rw [O11.size]; exact Nat.le_refl _)
                     have hr11 := hr10.keep (O11.block _ (by omega)) (by rw [O11.size]; exact Nat.le_refl _)
                     have B11 := B10.trans (O11.below (B := w.heap.size) (by omega))
                     have KP11 : Hid (Kp lo w2 w11) := (KP9.out.alloc _).only O11 (.inr KP9.out.1))
        clear hb11 O11 hl10 hr10 B10 hl9 hr9 BB9 hzB hl7 hr7 B7
        refine (stands_calls s q 33 _ hsm (by omega) (by decide)).mono ?_
        rintro e wx ⟨rfl, rfl⟩
        cases h33 : stB (s.data.toList.drop q) 33
        · have HE2 : Hid (behV s.data.toList = (⟨1, A, zAdr, false⟩, s.data.toList.drop q)) := by show _ = _; rw [HE.out]; unfold excV; simp only [h33]; rfl
          clear h33 HE
          go_wp2_with (first
            | refine cb_load0 rtPAddrs hl11 hlen7 rfl _ rfl rfl ?_
            | (refine cb_store0 rtPAddrs hr11 rfl rfl _ _ rfl rfl rfl hlen7 hl11.one ?_; intro w20 hb20 O20))
          refine bodyPost_ret (results_cb rfl _ _ _ _ rfl rtPAddrs hb20 hlen7) rfl ?_
          exact ⟨B11.trans (O20.below (Nat.le_refl _)), _, _, q, by omega, HE2.out, ⟨p1, q1, none, 0, HAS.out, ((HN1.out.kp KP11.out).only O20 hwW).mono (Nat.le_of_lt hwW), new_nil _ _ _⟩, rfl⟩
        · have hq33 := stB_size s q 33 h33
          have HE2 : Hid (behV s.data.toList = (⟨1, A, zAdr, true⟩, s.data.toList.drop (q + 1))) := by show _ = _; rw [HE.out]; unfold excV; simp only [h33, List.drop_drop]; rfl
          have HAS12 : Hid (cs7.set 11 (.bool true) = asL ⟨1, A, zAdr, true⟩ p1 q1 none 0) := by show _ = _; rw [HAS.out]; rfl
          have KP12 : Hid (Kp lo w2 (wx.setCell ⟨ga, 11, none⟩ (.bool true))) := KP11.out.only (Only.set _ _ _ _) (.inr hgw2)
          obtain ⟨y11, c11⟩ := hl11.get 11 (by omega)
          have f11 := hl11.fz 11 (by omega)
          have hbS := hl11.set 11 (by omega) (.bool true) rfl
          have hrS := hr11.keep (heap_setCell_other wx ⟨ga, 11, none⟩ w.heap.size (.bool true) (by simp; omega)) (by simp)
          have BS := B11.setCell (p := ⟨ga, 11, none⟩) (by simp; omega) (.bool true)
          have lnS : (cs7.set 11 (.bool true)).length = 12 := by rw [List.length_set]; exact hlen7
          have zS : (cs7.set 11 (.bool true))[0]? = some (.int .i64 1) := by rw [List.getElem?_set_ne (by decide)]; exact hz7
          clear h33 HE
          go_wp2_with (first
            | refine cb_load0 rtPAddrs hbS lnS rfl _ rfl rfl ?_
            | (refine cb_store0 rtPAddrs hrS rfl rfl _ _ rfl rfl rfl lnS hbS.one ?_; intro w20 hb20 O20))
          refine bodyPost_ret (results_cb rfl _ _ _ _ rfl rtPAddrs hb20 lnS) rfl ?_
          exact ⟨BS.trans (O20.below (Nat.le_refl _)), _, _, q + 1, hq33, HE2.out, ⟨p1, q1, none, 0, HAS12.out, ((HN1.out.kp KP12.out).only O20 hwW).mono (Nat.le_of_lt hwW), new_nil _ _ _⟩, rfl⟩
  · have HBH : Hid (behV s.data.toList = (zAds, s.data.toList.drop 0)) := by
      show _ = _
      rw [List.drop_zero] at hap ⊢
      unfold behV; rw [hap]
    clear hap
    go_wp2_with (first
      | (refine cb_store0 rtPAddr hbn rfl rfl _ _ rfl rfl rfl hvl hv1 ?_; intro w5 hb5 O5; have hb6 := hb3.keep (O5.block _ (by omega)) (by rw [O5.size]; exact Nat.le_refl _))
      | (refine cb_store0 rtPAddrs hb6 rfl rfl _ _ rfl rfl (vs := zAs) rfl rfl zAs_one ?_; intro w7 hb7 O7))
    refine bodyPost_ret (results_cb rfl _ _ _ _ rfl rtPAddrs hb7 rfl) rfl ?_
    exact ⟨(B3.trans (O5.below (by omega))).trans (O7.below (Nat.le_refl _)), zAs, zAds, 0, by omega, HBH.out, ⟨none, 0, none, 0, rfl, new_nil _ _ _, new_nil _ _ _⟩, rfl⟩
end Go.Proofs.YtlppphmnegdhoabGreatDoor

namespace Go.Proofs.YtlppphmnegdhoabGreatDoor
set_option linter.unusedVariables false
set_option maxRecDepth 100000
open Go.RowKit
open M

theorem rtPiece : RowT 274 2 := ⟨⟨_, Tryz.underlying274, rfl⟩, by kernel_rfl⟩
theorem elPiece : ElT 142 274 2 2 (.agg #[.bool false, .int .u8 0]) := ⟨by kernel_rfl, by kernel_rfl, rfl, by decide, by decide, by decide⟩
theorem bar_slash (q : Mk) (h47 : q.is 47 = false) : (q.p && inBs q.b [47]) = false := by
  obtain ⟨b, p⟩ := q
  cases p
  · rfl
  · simp [Mk.is] at h47
    simp [inBs]
    omega
end Go.Proofs.YtlppphmnegdhoabGreatDoor

namespace Go.Proofs.YtlppphmnegdhoabGreatDoor
set_option linter.unusedVariables false
set_option maxRecDepth 100000
open Go.RowKit
open M

theorem pc_byte (q : Mk) (h : q.b < 256) {m' : List Mk} (hn : hdIs (q :: m') 38 = false) : [Value.bool false, .int .u8 q.b] = pcV (pcM q) := by
  have h1 : q.is 38 = false := hn
  have h2 : (UInt8.ofNat q.b).toNat = q.b := by simp; omega
  unfold pcM
  rw [h1]
  show _ = [Value.bool false, .int .u8 ((UInt8.ofNat q.b).toNat : Int)]
  rw [h2]
theorem pc_amp (q : Mk) {m' : List Mk} (hn : hdIs (q :: m') 38 = true) : [Value.bool true, .int .u8 0] = pcV (pcM q) := by
  have h1 : q.is 38 = true := hn
  unfold pcM
  rw [h1]; rfl
theorem own_rp {w : World} {B c : Nat} {a : Option Addr} {L : List (Option UInt8)} (h : w.ownsRow B 274 2 (.slice a L.length c) L.length (L.map pcV).flatten) : New B w (fun w => RpOk w a L) := fun w' hs hb k hk => by
  obtain ⟨g, h1, h2, h3, h4, _⟩ := own_rows (CS := L.map pcV) h (by simp) (fun c hc => by
    simp only [List.mem_map] at hc
    obtain ⟨x, _, rfl⟩ := hc
    cases x <;> rfl) k (by simpa using hk)
  refine ⟨g, h1, by omega, fun j u hu => (World.cell?_of_block (hb g h3 (by omega))).trans (h4 j u ?_)⟩
  rw [List.getElem_map]; exact hu
def PwAt (s : ByteArray) (k : Nat) (m : List Mk) (r : List UInt8) (vs : List Value) (v2 v3 : Value) : Prop :=
  (∃ (q : Mk) (m' : List Mk) (n : Nat), m = q :: m' ∧ vs = pcV (pcM q) ∧ k < n ∧ n ≤ s.size ∧ mksM (s.data.toList.drop n) = (m', r) ∧ v2 = .int .i64 n ∧ v3 = .bool true) ∨ (m = [] ∧ ∃ n : Nat, v2 = .int .i64 n ∧ v3 = .bool false)
def PwPost (s : ByteArray) (k : Nat) (m : List Mk) (r : List UInt8) (w : World) (e : Ending) (w' : World) : Prop :=
  Below w.heap.size w w' ∧ ∃ (vs : List Value) (v2 v3 : Value), vs.length = 2 ∧ (∀ v ∈ vs, v.oneCell' = true) ∧ e = .returned (.tuple #[.agg vs.toArray, v2, v3]) ∧ PwAt s k m r vs v2 v3
set_option maxRecDepth 100000 in
set_option maxHeartbeats 1000000 in
theorem vPiece_calls (s : ByteArray) (k : Nat) (m : List Mk) (r : List UInt8) (w : World) (hs : s.size ≤ 400) (hk : k ≤ s.size) (hm : mksM (s.data.toList.drop k) = (m, r)) :
    Calls Tryz.prog 231 #[.string s, .int .i64 k] w fun e w' => PwPost s k m r w e w' := by
  have hsm : s.size ≤ maxLen := by unfold maxLen; omega
  have HM : Hid (mksM (s.data.toList.drop k) = (m, r)) := hm
  have H47 : Hid (∀ q ∈ m, q.is 47 = false) := fun q hq => no47 (s.data.toList.drop k) q (by rw [hm]; exact hq)
  obtain ⟨h38, h38'⟩ := stB_mk _ 38 _ _ hm (by decide) (by decide) (by decide)
  have H38 : Hid (stB (s.data.toList.drop k) 38 = true → ∃ k' m', m = k' :: m' ∧ mksM ((s.data.toList.drop k).drop 1) = (m', r)) := h38'
  have HIS : Hid (stB (s.data.toList.drop k) 38 = hdIs m 38) := h38
  clear hm h38 h38'
  have hb0 : CB (w.alloc (.cells #[.bool false, .int .u8 0] 274)) w.heap.size [.bool false, .int .u8 0] := CB.new w _ _ (by simp [Value.oneCell'])
  have B0 : Below w.heap.size w (w.alloc (.cells #[.bool false, .int .u8 0] 274)) := (Below.refl _ _).alloc (Nat.le_refl _) _
  go_enter Tryz.func231, Tryz.ntmps231
  go_wp2_with fail
  generalize w.alloc (.cells #[.bool false, .int .u8 0] 274) = W at *
  refine (stands_calls s k 38 _ hsm hk (by decide)).mono ?_
  rintro e w1 ⟨rfl, rfl⟩
  cases hb : stB (s.data.toList.drop k) 38
  · have HNO : Hid (hdIs m 38 = false) := HIS.out.symm.trans hb
    clear hb H38 HIS
    go_wp2_with fail
    refine (byte_calls s k _ m r _ hsm hk (by unfold maxLen; decide) (by decide) HM.out).mono ?_
    rintro e w2 ⟨hpost, rfl⟩
    have hp2 : ByteP s k [47] m r e := hpost
    clear hpost
    rcases hp2 with ⟨q, m', n, rfl, hq, hq2, hkn, hn, hm', rfl⟩ | ⟨hno, n, rfl, hn1, hn2⟩
    · have HF : Hid (PwAt s k (q :: m') r [.bool false, .int .u8 q.b] (.int .i64 n) (.bool true)) := .inl ⟨q, m', n, rfl, pc_byte q hq2 HNO.out, hkn, hn, hm', rfl, rfl⟩
      clear hm' hq
      go_wp2_with (refine cb_store0 rtPiece hb0 rfl rfl _ _ rfl rfl rfl rfl (by simp [Value.oneCell']) ?_; intro w5 hb5 O5)
      refine bodyPost_ret (results_cb3 rfl _ _ _ _ rfl rtPiece hb5 rfl) rfl ?_
      exact ⟨B0.trans (O5.below (Nat.le_refl _)), _, _, _, rfl, by simp [Value.oneCell'], rfl, HF.out⟩
    · have HF : Hid (PwAt s k m r [.bool false, .int .u8 0] (.int .i64 n) (.bool false)) := .inr ⟨by
        rcases hno with h | ⟨q, v, h, h2⟩
        · exact h
        · rw [bar_slash q (H47.out q (by rw [h]; simp))] at h2; exact Bool.noConfusion h2, n, rfl, rfl⟩
      clear hno
      go_wp2_with (refine cb_store0 rtPiece hb0 rfl rfl _ _ rfl rfl rfl rfl (by simp [Value.oneCell']) ?_; intro w5 hb5 O5)
      refine bodyPost_ret (results_cb3 rfl _ _ _ _ rfl rtPiece hb5 rfl) rfl ?_
      exact ⟨B0.trans (O5.below (Nat.le_refl _)), _, _, _, rfl, by simp [Value.oneCell'], rfl, HF.out⟩
  · have hk1 := stB_size s k 38 hb
    obtain ⟨q, m', hmq, hm'⟩ := H38.out hb
    rw [List.drop_drop] at hm'
    have HF : Hid (PwAt s k m r [.bool true, .int .u8 0] (.int .i64 ((k + 1 : Nat) : Int)) (.bool true)) := .inl ⟨q, m', k + 1, hmq, pc_amp q (by have := HIS.out.symm.trans hb; rw [hmq] at this; exact this), by omega, hk1, hm', rfl, rfl⟩
    clear hb hmq hm' H38
    go_wp2_with (refine cb_store0 rtPiece hb0 rfl rfl _ _ rfl rfl rfl rfl (by simp [Value.oneCell']) ?_; intro w5 hb5 O5)
    refine bodyPost_ret (results_cb3 rfl _ _ _ _ rfl rtPiece hb5 rfl) rfl ?_
    exact ⟨B0.trans (O5.below (Nat.le_refl _)), _, _, _, rfl, by simp [Value.oneCell'], rfl, HF.out⟩
def RwvPost (s : ByteArray) (k : Nat) (m : List Mk) (r : List UInt8) (w : World) (e : Ending) (w' : World) : Prop :=
  Below w.heap.size w w' ∧ ∃ (a : Option Addr) (c n : Nat), e = .returned (.tuple #[.slice a (repM m).length c, .int .i64 n]) ∧ k ≤ n ∧ n ≤ s.size ∧ mksM (s.data.toList.drop n) = ([], r) ∧ New w.heap.size w' (fun w => RpOk w a (repM m))
set_option maxRecDepth 100000 in
set_option maxHeartbeats 1000000 in
theorem vReplacement_calls (s : ByteArray) (k : Nat) (m : List Mk) (r : List UInt8) (w : World) (hs : s.size ≤ 400) (hk : k ≤ s.size) (hm : mksM (s.data.toList.drop k) = (m, r)) :
    Calls Tryz.prog 205 #[.string s, .int .i64 k] w fun e w' => RwvPost s k m r w e w' := by
  have HM : Hid (mksM (s.data.toList.drop k) = (m, r)) := hm
  clear hm
  go_enter Tryz.func205, Tryz.ntmps205
  go_wp2_with fail
  refine (vPiece_calls s k m r w hs hk HM.out).mono ?_
  rintro e w1 ⟨B1, vs, v2, v3, hvl, hv1, rfl, hat⟩
  have HAT : Hid (PwAt s k m r vs v2 v3) := hat
  have hbn : CB (w1.alloc (.cells #[.bool false, .int .u8 0] 274)) w1.heap.size [.bool false, .int .u8 0] := CB.new w1 _ _ (by simp [Value.oneCell'])
  have B2 := B1.alloc (o := .cells #[.bool false, .int .u8 0] 274) B1.size
  have hsz1 := B1.size
  clear hat B1
  obtain ⟨g7, hg7⟩ : ∃ g, w1.heap.size = g := ⟨_, rfl⟩
  rw [hg7] at hbn hsz1
  go_wp2_with (refine cb_store0 rtPiece hbn rfl rfl _ _ rfl rfl rfl hvl hv1 ?_; intro w3 hb3 O3)
  have B3 := B2.trans (O3.below (B := w.heap.size) (by omega))
  have hs3 : w3.heap.size = g7 + 1 := by rw [O3.size, ← hg7]; simp
  clear hbn B2 O3
  go_loopw [1, 6, 8, 9] (fun v1 v6 v8 v9 wr => ∃ (n l : Nat) (m1 : List Mk) (cs xs : List Value) (PS : List (Option UInt8)), Hid (xs = (PS.map pcV).flatten ∧ l = PS.length ∧ repM m = PS ++ repM m1) ∧ v1 = .int .i64 n ∧ k ≤ n ∧ n ≤ s.size ∧ l ≤ n ∧ Hid (mksM (s.data.toList.drop n) = (m1, r)) ∧ Hid (PwAt s n m1 r cs v8 v9) ∧ wr.ownsRow (g7 + 1) 274 2 v6 l xs ∧ CB wr g7 cs ∧ cs.length = 2 ∧ Below w.heap.size w wr ∧ g7 + 1 ≤ wr.heap.size) (fun v1 _ _ _ _ => s.size - (intOf v1).toNat)
  case atStart => exact ⟨k, 0, m, vs, [], [], ⟨rfl, rfl, rfl⟩, rfl, Nat.le_refl _, hk, Nat.zero_le _, HM, HAT, World.ownsRow_nil _ _ _ _, hb3, hvl, B3, by omega⟩
  case round =>
    clear hb3 B3
    obtain ⟨n, l, m1, cs, xs, PS, HPS, rfl, hkn, hns, hln, HM1, HA1, hown, hcb, hcl, hB, hg⟩ := hrel
    obtain ⟨av, cv, hvv⟩ := own_form hown
    subst hvv
    rcases HA1.out with ⟨q, m', n', rfl, hpc, hnn, hn's, hm', rfl, rfl⟩ | ⟨rfl, n', rfl, rfl⟩
    · have HM2 : Hid (mksM (s.data.toList.drop n') = (m', r)) := hm'
      have HPS2 : Hid (xs ++ cs = ((PS ++ [pcM q]).map pcV).flatten ∧ l + 1 = (PS ++ [pcM q]).length ∧ repM m = (PS ++ [pcM q]) ++ repM m') := by
        obtain ⟨e1, e2, e3⟩ := HPS.out
        refine ⟨?_, ?_, ?_⟩
        · rw [e1, hpc]; simp
        · rw [List.length_append, e2]; rfl
        · rw [e3, List.append_assoc]; rfl
      clear hm' HA1 HM1 HPS hpc
      go_wp2_with (first
        | refine cb_load0 rtPiece hcb hcl rfl _ rfl rfl ?_
        | refine gb_build elPiece rfl _ rfl cs rfl hcl ?_
        | (refine gb_append elPiece (hown.alloc _) wr.heap.size cs (heap_alloc_new wr _) hcl hcb.one (by omega) (by simp; omega) rfl _ _ rfl rfl rfl ?_
           intro v' w6 hown6 hgrow6
           have hs6 := hgrow6.size
           have hcb6 := (hcb.below ((Below.refl wr.heap.size wr).alloc (Nat.le_refl _) (.cells cs.toArray 274)) hcb.lt).keep (hgrow6.block g7 (by simp; omega) (fun e => by have := (hown.lt g7 e.symm).1; omega)) hs6
           have hB6 : Below w.heap.size w w6 := (hB.alloc (by omega) _).grown hgrow6 (by simp; omega) (fun k hk => by have := (hown.lt k hk).1; omega)
           obtain ⟨av', cv', hvv⟩ := own_form hown6
           subst hvv
           simp at hs6
           clear hgrow6))
      refine (vPiece_calls s n' m' r _ hs hn's HM2.out).mono ?_
      rintro e w7 ⟨B7, us, u2, u3, hul, hu1, rfl, hat⟩
      have HAT2 : Hid (PwAt s n' m' r us u2 u3) := hat
      have hs7 := B7.size
      have hcb7 := hcb6.below B7 hcb6.lt
      have hown7 := ownsRow_below hown6 B7
      have hB7 := hB6.trans (B7.mono (by omega))
      clear hat hcb6 hown6 hB6
      go_wp2_with (refine cb_store0 rtPiece hcb7 hcl rfl _ _ rfl rfl rfl hul hu1 ?_; intro w8 hb8 O8)
      have hown8 := ownsRow_up hown7 (fun k hk => O8.block k (by omega))
      have hB8 := hB7.trans (O8.below (B := w.heap.size) (by omega))
      go_roundw
      case rel => exact ⟨n', l + 1, m', us, _, _, HPS2, rfl, by omega, hn's, by omega, HM2, HAT2, hown8, hb8, hul, hB8, by rw [O8.size]; omega⟩
      case measure => first | (simp [intOf]; done) | (simp [intOf]; omega)
    · have hrm : repM m = PS := by rw [HPS.out.2.2]; simp [repM]
      have HRP : Hid (New w.heap.size wr (fun w => RpOk w av (repM m))) := by
        have h9 := hown
        rw [HPS.out.1, HPS.out.2.1, ← hrm] at h9
        exact (own_rp h9).mono (by omega)
      have HLL : Hid (l = (repM m).length) := by show _ = _; rw [hrm]; exact HPS.out.2.1
      clear HA1 HPS hrm
      go_wp2
      go_ret2
      exact ⟨hB, av, cv, n, by rw [← HLL.out]; rfl, hkn, hns, HM1.out, HRP.out⟩
end Go.Proofs.YtlppphmnegdhoabGreatDoor

namespace Go.Proofs.YtlppphmnegdhoabGreatDoor
set_option linter.unusedVariables false
set_option maxRecDepth 100000
open Go.RowKit
open M

/-- a command's cells: how many addresses, the name and the label as they were -/
def Sp (cs cs' : List Value) : Prop := cs'.length = 25 ∧ cs'[0]? = cs[0]? ∧ cs'[12]? = cs[12]? ∧ cs'[13]? = cs[13]?
theorem Sp.refl {cs : List Value} (h : cs.length = 25) : Sp cs cs := ⟨h, rfl, rfl, rfl⟩
theorem Sp.trans {a b c : List Value} (h : Sp a b) (g : Sp b c) : Sp a c := ⟨g.1, g.2.1.trans h.2.1, g.2.2.1.trans h.2.2.1, g.2.2.2.trans h.2.2.2⟩
theorem Sp.set {cs : List Value} (h : cs.length = 25) (j : Nat) (u : Value) (hj : 14 ≤ j) : Sp cs (cs.set j u) := by
  refine ⟨by rw [List.length_set]; exact h, ?_, ?_, ?_⟩ <;> rw [List.getElem?_set_ne (by omega)]
theorem Sp.part {cs : List Value} (h : cs.length = 25) (o : Nat) (vs : List Value) (ho : 14 ≤ o) (hn : o + vs.length ≤ 25) : Sp cs (cs.take o ++ vs ++ cs.drop (o + vs.length)) := by
  have e : ∀ j, j < 14 → (cs.take o ++ vs ++ cs.drop (o + vs.length))[j]? = cs[j]? := fun j hj => by
    rw [List.append_assoc, List.getElem?_append_left (by rw [List.length_take]; omega), List.getElem?_take, if_pos (by omega)]
  exact ⟨by simp; omega, e 0 (by omega), e 12 (by omega), e 13 (by omega)⟩
def PCmd (w : World) (b : Nat) (cs : List Value) : Prop := CB w b cs ∧ cs.length = 25
theorem PCmd.keep {w w' : World} {b : Nat} {cs : List Value} (h : PCmd w b cs) (hb : Below w.heap.size w w') : PCmd w' b cs := ⟨h.1.below hb h.1.lt, h.2⟩
theorem opt_dig (t : List UInt8) : optB posB t = if 0 < digI t then t.drop 1 else t := by
  match t with
  | [] => simp [optB, digI]
  | c :: r =>
    show (if posB c.toNat then r else c :: r) = _
    cases hd : digB c.toNat
    · have : posB c.toNat = false := by
        simp [digB] at hd
        simp [posB]; omega
      rw [this]; simp [digI, hd]
    · have h1 : 48 ≤ c.toNat ∧ c.toNat ≤ 57 := by simpa [digB] using hd
      by_cases h2 : c.toNat = 48
      · have : posB c.toNat = false := by rw [h2]; rfl
        rw [this]; simp [digI, h2]; decide
      · have : posB c.toNat = true := by simp [posB]; omega
        rw [this]
        have h3 : 0 < digI (c :: r) := by simp [digI, hd]; omega
        rw [if_pos h3]; rfl
theorem opt_st (t : List UInt8) (c : Nat) : optB (· == c) t = if stB t c then t.drop 1 else t := by
  match t with
  | [] => rfl
  | d :: r => rfl
end Go.Proofs.YtlppphmnegdhoabGreatDoor

namespace Go.Proofs.YtlppphmnegdhoabGreatDoor
set_option linter.unusedVariables false
set_option maxRecDepth 100000
open Go.RowKit
open M

theorem set_id (cs : List Value) (j : Nat) (v : Value) (h : cs[j]? = some v) : cs.set j v = cs := by
  obtain ⟨h1, h2⟩ := List.getElem?_eq_some_iff.1 h
  rw [← h2, List.set_getElem_self]
/-- the flags, in their cells -/
def flS (cs : List Value) (t : List UInt8) : List Value := ((cs.set 20 (.int .i64 (flC t : Nat))).set 21 (.bool (flA t))).set 22 (.bool (flP t))
def FvPost (b : Nat) (cs : List Value) (t : List UInt8) (w : World) (e : Ending) (w' : World) : Prop := e = .returned (.bool (flagsM t)) ∧ PCmd w' b (flS cs t) ∧ Only b w w'
set_option maxRecDepth 100000 in
set_option maxHeartbeats 1000000 in
theorem vFlags_calls (b : Nat) (cs : List Value) (s : ByteArray) (k : Nat) (w : World) (hs : s.size ≤ 400) (hk : k ≤ s.size) (hb : PCmd w b cs) (z20 : cs[20]? = some (.int .i64 1)) (z21 : cs[21]? = some (.bool false)) (z22 : cs[22]? = some (.bool false)) :
    Calls Tryz.prog 206 #[.pointer (some ⟨b, 16, none⟩), .string s, .int .i64 k] w fun e w' => FvPost b cs (s.data.toList.drop k) w e w' := by
  have hsm : s.size ≤ maxLen := by unfold maxLen; omega
  have HZ : Hid (cs[20]? = some (.int .i64 1) ∧ cs[21]? = some (.bool false) ∧ cs[22]? = some (.bool false)) := ⟨z20, z21, z22⟩
  have HA0 : Hid (PCmd w b cs ∧ cs = cs ∧ Only b w w) := ⟨hb, rfl, Only.refl _ _⟩
  have HFC : Hid (flC (s.data.toList.drop k) = if 0 < digI (s.data.toList.drop k) then (digI (s.data.toList.drop k)).toNat else 1) := rfl
  clear z20 z21 z22
  have HF : Hid (flagsM (s.data.toList.drop k) = (optB (· == 112) (optB (· == 103) (optB posB (s.data.toList.drop k)))).isEmpty) := rfl
  obtain ⟨cs0, hcs0⟩ : ∃ c, c = cs := ⟨_, rfl⟩
  have HA : Hid (PCmd w b cs0 ∧ cs0 = cs ∧ Only b w w) := by rw [hcs0]; exact HA0.out
  clear HA0
  clear hb hcs0
  go_enter Tryz.func206, Tryz.ntmps206
  go_wp2_with fail
  refine (digitAt_calls s k _ hs hk).mono ?_
  rintro e wq ⟨rfl, hwq⟩
  rw [hwq]
  clear hwq
  have hle := digI_le (s.data.toList.drop k)
  have HO := opt_dig (s.data.toList.drop k)
  have HOH : Hid (optB posB (s.data.toList.drop k) = if 0 < digI (s.data.toList.drop k) then (s.data.toList.drop k).drop 1 else s.data.toList.drop k) := HO
  have HSZ : Hid (0 < digI (s.data.toList.drop k) → k + 1 ≤ s.size) := fun h => by
    refine Nat.lt_of_not_le fun h9 => ?_
    rw [List.drop_of_length_le (by rw [ba_len]; omega)] at h
    simp [digI] at h
  clear HO
  generalize digI (s.data.toList.drop k) = dg at *
  go_upto_if 12 with fail
  go_cut [2] (fun v wx => ∃ (q : Nat) (cs' : List Value), v = .int .i64 q ∧ q ≤ s.size ∧ Hid (s.data.toList.drop q = optB posB (s.data.toList.drop k)) ∧ Hid (PCmd wx b cs' ∧ cs' = cs.set 20 (.int .i64 (flC (s.data.toList.drop k) : Nat)) ∧ Only b w wx))
  case first =>
    by_cases hd : 0 < dg
    · have hk1 := HSZ.out hd
      have HQ : Hid (s.data.toList.drop (k + 1) = optB posB (s.data.toList.drop k)) := by show _ = _; rw [HOH.out, if_pos hd, List.drop_drop]
      obtain ⟨v9, c9⟩ := HA.out.1.1.get 20 (by have := HA.out.1.2; omega)
      have f9 := HA.out.1.1.fz 20 (by have := HA.out.1.2; omega)
      have HN : Hid (PCmd (w.setCell ⟨b, 20, none⟩ (.int .i64 dg)) b (cs0.set 20 (.int .i64 dg)) ∧ cs0.set 20 (.int .i64 dg) = cs.set 20 (.int .i64 (flC (s.data.toList.drop k) : Nat)) ∧ Only b w (w.setCell ⟨b, 20, none⟩ (.int .i64 dg))) :=
        ⟨⟨HA.out.1.1.set 20 (by have := HA.out.1.2; omega) _ rfl, by rw [List.length_set]; exact HA.out.1.2⟩, by rw [HA.out.2.1, HFC.out, if_pos hd, Int.toNat_of_nonneg (Int.le_of_lt hd)], HA.out.2.2.trans (Only.set _ _ _ _)⟩
      go_wp2
      go_meet
      exact ⟨k + 1, _, by go_num, hk1, HQ.out, HN.out⟩
    · have HQ : Hid (s.data.toList.drop k = optB posB (s.data.toList.drop k)) := by show _ = _; rw [HOH.out, if_neg hd]
      go_wp2
      go_meet
      exact ⟨k, _, rfl, hk, HQ.out, HA.out.1, by rw [HA.out.2.1, HFC.out, if_neg (by omega)]; exact (set_id _ _ _ HZ.out.1).symm, HA.out.2.2⟩
  case rest =>
  clear HA HOH HSZ hle
  obtain ⟨q, cs1, rfl, hq, HQ, HA⟩ := hcut
  rw [← HQ.out] at HF
  have HFA : Hid (flA (s.data.toList.drop k) = stB (s.data.toList.drop q) 103) := by show _ = _; rw [HQ.out]; rfl
  have HFP : Hid (flP (s.data.toList.drop k) = stB (optB (· == 103) (s.data.toList.drop q)) 112) := by show _ = _; rw [HQ.out]; rfl
  clear HQ HFC
  go_wp2_with fail
  refine (stands_calls s q 103 _ hsm hq (by decide)).mono ?_
  rintro e wq ⟨rfl, hwq⟩
  rw [hwq]
  clear hwq
  go_upto_if 21 with fail
  go_cut [2] (fun v wx => ∃ (q1 : Nat) (cs' : List Value), v = .int .i64 q1 ∧ q1 ≤ s.size ∧ Hid (s.data.toList.drop q1 = optB (· == 103) (s.data.toList.drop q)) ∧ Hid (PCmd wx b cs' ∧ cs' = (cs.set 20 (.int .i64 (flC (s.data.toList.drop k) : Nat))).set 21 (.bool (flA (s.data.toList.drop k))) ∧ Only b w wx))
  case first =>
    cases hd : stB (s.data.toList.drop q) 103
    · have HQ : Hid (s.data.toList.drop q = optB (· == 103) (s.data.toList.drop q)) := by show _ = _; rw [opt_st, hd]; rfl
      have HS : Hid (cs1 = (cs.set 20 (.int .i64 (flC (s.data.toList.drop k) : Nat))).set 21 (.bool (flA (s.data.toList.drop k)))) := by
        show _ = _
        rw [HFA.out, hd, set_id _ 21 (.bool false) (by rw [List.getElem?_set_ne (by decide)]; exact HZ.out.2.1)]
        exact HA.out.2.1
      clear hd
      go_wp2
      go_meet
      exact ⟨q, _, rfl, hq, HQ.out, HA.out.1, HS.out, HA.out.2.2⟩
    · have hk1 := stB_size s q 103 hd
      have HQ : Hid (s.data.toList.drop (q + 1) = optB (· == 103) (s.data.toList.drop q)) := by show _ = _; rw [opt_st, hd, List.drop_drop]; rfl
      obtain ⟨v9, c9⟩ := HA.out.1.1.get 21 (by have := HA.out.1.2; omega)
      have f9 := HA.out.1.1.fz 21 (by have := HA.out.1.2; omega)
      have HN : Hid (PCmd (wc.setCell ⟨b, 21, none⟩ (.bool true)) b (cs1.set 21 (.bool true)) ∧ cs1.set 21 (.bool true) = (cs.set 20 (.int .i64 (flC (s.data.toList.drop k) : Nat))).set 21 (.bool (flA (s.data.toList.drop k))) ∧ Only b w (wc.setCell ⟨b, 21, none⟩ (.bool true))) :=
        ⟨⟨HA.out.1.1.set 21 (by have := HA.out.1.2; omega) _ rfl, by rw [List.length_set]; exact HA.out.1.2⟩, by rw [HFA.out, hd, HA.out.2.1], HA.out.2.2.trans (Only.set _ _ _ _)⟩
      clear hd
      go_wp2
      go_meet
      exact ⟨q + 1, _, by go_num, hk1, HQ.out, HN.out⟩
  case rest =>
  clear HA
  obtain ⟨q1, cs2, rfl, hq1, HQ, HA⟩ := hcut
  rw [← HQ.out] at HF
  rw [← HQ.out] at HFP
  clear HQ
  go_wp2_with fail
  refine (stands_calls s q1 112 _ hsm hq1 (by decide)).mono ?_
  rintro e wq ⟨rfl, hwq⟩
  rw [hwq]
  clear hwq
  go_upto_if 29 with fail
  go_cut [2] (fun v wx => ∃ (q2 : Nat) (cs' : List Value), v = .int .i64 q2 ∧ q2 ≤ s.size ∧ Hid (s.data.toList.drop q2 = optB (· == 112) (s.data.toList.drop q1)) ∧ Hid (PCmd wx b cs' ∧ cs' = flS cs (s.data.toList.drop k) ∧ Only b w wx))
  case first =>
    cases hd : stB (s.data.toList.drop q1) 112
    · have HQ : Hid (s.data.toList.drop q1 = optB (· == 112) (s.data.toList.drop q1)) := by show _ = _; rw [opt_st, hd]; rfl
      have HS : Hid (cs2 = flS cs (s.data.toList.drop k)) := by
        show _ = _
        unfold flS
        rw [HFP.out, hd, set_id _ 22 (.bool false) (by rw [List.getElem?_set_ne (by decide), List.getElem?_set_ne (by decide)]; exact HZ.out.2.2)]
        exact HA.out.2.1
      clear hd
      go_wp2
      go_meet
      exact ⟨q1, _, rfl, hq1, HQ.out, HA.out.1, HS.out, HA.out.2.2⟩
    · have hk1 := stB_size s q1 112 hd
      have HQ : Hid (s.data.toList.drop (q1 + 1) = optB (· == 112) (s.data.toList.drop q1)) := by show _ = _; rw [opt_st, hd, List.drop_drop]; rfl
      obtain ⟨v9, c9⟩ := HA.out.1.1.get 22 (by have := HA.out.1.2; omega)
      have f9 := HA.out.1.1.fz 22 (by have := HA.out.1.2; omega)
      have HN : Hid (PCmd (wc.setCell ⟨b, 22, none⟩ (.bool true)) b (cs2.set 22 (.bool true)) ∧ cs2.set 22 (.bool true) = flS cs (s.data.toList.drop k) ∧ Only b w (wc.setCell ⟨b, 22, none⟩ (.bool true))) :=
        ⟨⟨HA.out.1.1.set 22 (by have := HA.out.1.2; omega) _ rfl, by rw [List.length_set]; exact HA.out.1.2⟩, by unfold flS; rw [HFP.out, hd, HA.out.2.1], HA.out.2.2.trans (Only.set _ _ _ _)⟩
      clear hd
      go_wp2
      go_meet
      exact ⟨q1 + 1, _, by go_num, hk1, HQ.out, HN.out⟩
  case rest =>
  clear HA
  obtain ⟨q2, cs3, rfl, hq2, HQ, HA⟩ := hcut
  rw [← HQ.out] at HF
  clear HQ
  have HE : Hid (flagsM (s.data.toList.drop k) = decide (q2 = s.size)) := by
    show _ = _
    rw [HF.out, Bool.eq_iff_iff, List.isEmpty_iff, decide_eq_true_iff, List.drop_eq_nil_iff, ba_len]
    omega
  by_cases he : q2 = s.size
  · have he1 : ((q2 : Int) == (s.size : Int)) = true := by simp [he]
    have HE2 : Hid (flagsM (s.data.toList.drop k) = true) := by show _ = _; rw [HE.out, decide_eq_true he]
    clear he HE HF
    go_wp2
    go_ret
    exact ⟨ret_bool (by rw [HE2.out]), by rw [← HA.out.2.1]; exact HA.out.1, HA.out.2.2⟩
  · have he1 : ((q2 : Int) == (s.size : Int)) = false := by simp; omega
    have HE2 : Hid (flagsM (s.data.toList.drop k) = false) := by show _ = _; rw [HE.out, decide_eq_false he]
    clear he HE HF
    go_wp2
    go_ret
    exact ⟨ret_bool (by rw [HE2.out]), by rw [← HA.out.2.1]; exact HA.out.1, HA.out.2.2⟩
end Go.Proofs.YtlppphmnegdhoabGreatDoor

namespace Go.Proofs.YtlppphmnegdhoabGreatDoor
set_option linter.unusedVariables false
set_option maxRecDepth 100000
open Go.RowKit
open M

theorem rtSub : RowT 144 7 := ⟨⟨_, Tryz.underlying144, rfl⟩, by kernel_rfl⟩
theorem bet_none (o : Option (List Mk × List UInt8)) (h : betM o = none) : chgA 115 o = false := by
  cases o with
  | none => rfl
  | some p =>
    rw [betM] at h
    split at h
    · cases h
    · rename_i hx
      show chgB 115 p.1 (uptoM p.2) = false
      cases uptoM p.2 with
      | none => rfl
      | some q =>
        rw [chgB, if_pos rfl]
        simp at hx
        simp [hx]
theorem change_by (nm : Nat) (t : List UInt8) : changeM nm t = if stB t 47 then chgA nm (uptoM (t.drop 1)) else false := by
  match t with
  | [] => rfl
  | c :: r =>
    show (if c.toNat = 47 then _ else false) = if (c.toNat == 47) = true then _ else false
    by_cases h : c.toNat = 47
    · rw [if_pos h, if_pos (by simpa using h)]; rfl
    · rw [if_neg h, if_neg (by simpa using h)]
end Go.Proofs.YtlppphmnegdhoabGreatDoor

namespace Go.Proofs.YtlppphmnegdhoabGreatDoor
set_option linter.unusedVariables false
set_option maxRecDepth 100000
open Go.RowKit
open M

theorem betX_some (o : Option (List Mk × List UInt8)) (x : Ex) (t : List UInt8) (h : betX o = some (x, t)) : ∃ m, o = some (m, t) ∧ expM m = some x := by
  cases o with
  | none => cases h
  | some p =>
    rw [betX] at h
    cases hx : expM p.1 with
    | none => rw [hx] at h; cases h
    | some y =>
      rw [hx] at h
      simp at h
      exact ⟨p.1, by rw [← h.2], by rw [hx, h.1]⟩
theorem betX_nope (o : Option (List Mk × List UInt8)) (h : betX o = none) : chgA 115 o = false := bet_none o (by rw [betX_M, h]; rfl)
/-- a substitution's cells -/
def sbL (S : Sbs) (p3 : Option Addr) (q3 : Nat) (p4 : Option Addr) (q4 : Nat) : List Value := [.bool S.ex.head, .bool S.ex.tail, .slice p3 S.ex.l.length q3, .slice p4 S.rep.length q4, .int .i64 (S.count : Nat), .bool S.all, .bool S.prt]
def SubV (lo : Nat) (w : World) (cs cs' : List Value) (S : Sbs) : Prop := ∃ p3 q3 p4 q4, cs' = cs.take 16 ++ sbL S p3 q3 p4 q4 ++ cs.drop 23 ∧ New lo w (fun w => ExOk w p3 S.ex.l) ∧ New lo w (fun w => RpOk w p4 S.rep)
def SvPost (b : Nat) (cs : List Value) (s : ByteArray) (w : World) (e : Ending) (w' : World) : Prop := e = .returned (.bool (changeM 115 s.data.toList)) ∧ ∃ cs', PCmd w' b cs' ∧ (changeM 115 s.data.toList = true → SubV w.heap.size w' cs cs' (subV s.data.toList)) ∧ Apt b w w'
theorem fl_sb (cs : List Value) (h : cs.length = 25) (v0 v1 v2 v3 : Value) (t : List UInt8) : flS (cs.take 16 ++ [v0, v1, v2, v3, .int .i64 1, .bool false, .bool false] ++ cs.drop 23) t = cs.take 16 ++ [v0, v1, v2, v3, .int .i64 (flC t : Nat), .bool (flA t), .bool (flP t)] ++ cs.drop 23 := by
  have h16 : (cs.take 16).length = 16 := by rw [List.length_take]; omega
  obtain ⟨l, hl⟩ : ∃ l, cs.take 16 = l := ⟨_, rfl⟩
  rw [hl] at h16 ⊢
  match l, h16 with
  | [a0, a1, a2, a3, a4, a5, a6, a7, a8, a9, b0, b1, b2, b3, b4, b5], _ => rfl
theorem at_sb (cs : List Value) (h : cs.length = 25) (v0 v1 v2 v3 v4 v5 v6 : Value) : (cs.take 16 ++ [v0, v1, v2, v3, v4, v5, v6] ++ cs.drop 23)[20]? = some v4 ∧ (cs.take 16 ++ [v0, v1, v2, v3, v4, v5, v6] ++ cs.drop 23)[21]? = some v5 ∧ (cs.take 16 ++ [v0, v1, v2, v3, v4, v5, v6] ++ cs.drop 23)[22]? = some v6 := by
  have h16 : (cs.take 16).length = 16 := by rw [List.length_take]; omega
  obtain ⟨l, hl⟩ : ∃ l, cs.take 16 = l := ⟨_, rfl⟩
  rw [hl] at h16 ⊢
  match l, h16 with
  | [a0, a1, a2, a3, a4, a5, a6, a7, a8, a9, b0, b1, b2, b3, b4, b5], _ => exact ⟨rfl, rfl, rfl⟩
set_option maxRecDepth 100000 in
set_option maxHeartbeats 1000000 in
theorem vSubstitution_calls (b : Nat) (cs : List Value) (s : ByteArray) (w : World) (hs : s.size ≤ 400) (hnl : NoNL s) (hb : PCmd w b cs) :
    Calls Tryz.prog 167 #[.pointer (some ⟨b, 0, none⟩), .string s] w fun e w' => SvPost b cs s w e w' := by
  have hsm : s.size ≤ maxLen := by unfold maxLen; omega
  have hbw : ∀ k, w.heap.size ≤ k → k ≠ b := fun k h => by have := hb.1.lt; omega
  have HNL : Hid (NoNL s) := hnl
  have HCH : Hid (changeM 115 s.data.toList = if stB s.data.toList 47 then chgA 115 (uptoM (s.data.toList.drop 1)) else false) := change_by 115 _
  clear hnl
  go_enter Tryz.func167, Tryz.ntmps167
  go_wp2_with fail
  have HC := vBetween_calls s 0 w hs (Nat.zero_le _) HNL.out
  rw [show ((0 : Nat) : Int) = 0 from rfl] at HC
  refine HC.mono ?_
  clear HC
  rintro e w1 ⟨B1, vs, hE, hor⟩
  have hvl := hE.len
  have hv1 := hE.one
  rw [List.drop_zero] at hor
  have hb1 := hb.keep B1
  have A1 : Apt b w w1 := Apt.of_below B1
  have hbn : CB (w1.alloc (.cells #[.bool false, .bool false, .slice none 0 0] 137)) w1.heap.size [.bool false, .bool false, .slice none 0 0] := CB.new w1 _ _ (by simp [Value.oneCell'])
  have hb2 := hb1.keep ((Below.refl w1.heap.size w1).alloc (Nat.le_refl _) (.cells #[.bool false, .bool false, .slice none 0 0] 137))
  have A2 : Apt b w (w1.alloc (.cells #[.bool false, .bool false, .slice none 0 0] 137)) := A1.trans (Apt.of_below ((Below.refl _ _).alloc (Nat.le_refl _) _))
  have hlt1 := hb1.1.lt
  have hww := B1.size
  obtain ⟨g1, hg1⟩ : ∃ g, w1.heap.size = g := ⟨_, rfl⟩
  rw [hg1] at hbn hlt1 hww
  rcases hor with ⟨h47, q, x, hbt, h0q, hqs, ⟨p3, q3, hvx, hnx⟩, rfl⟩ | ⟨hno, rfl⟩
  · obtain ⟨m, hup, hexx⟩ := betX_some _ _ _ hbt
    have hex : (expM m).isSome = true := by rw [hexx]; rfl
    have HNX : Hid (New w.heap.size w1 (fun w => ExOk w p3 x.l)) := hnx
    obtain ⟨m2, r2, hm2⟩ : ∃ m2 r2, mksM (s.data.toList.drop q) = (m2, r2) := ⟨_, _, rfl⟩
    obtain ⟨p1, p2⟩ := upto_mk _ m2 r2 (HNL.out.drop q) hm2
    have HM2 : Hid (mksM (s.data.toList.drop q) = (m2, r2)) := hm2
    have HY : Hid (∀ r', r2 = 47 :: r' → changeM 115 s.data.toList = flagsM r') := fun r' e => by
      rw [HCH.out, h47, if_pos rfl, hup]
      show chgB 115 m (uptoM (s.data.toList.drop q)) = _
      rw [p1 r' e]
      rw [chgB, if_pos rfl, hex]; rfl
    have HSV : Hid (∀ r', r2 = 47 :: r' → subV s.data.toList = ⟨x, repM m2, flC r', flA r', flP r'⟩) := fun r' e => by
      unfold subV
      rw [hup]
      simp only [p1 r' e, hexx]; rfl
    have HN : Hid ((∀ r', r2 ≠ 47 :: r') → changeM 115 s.data.toList = false) := fun e => by
      rw [HCH.out, h47, if_pos rfl, hup]
      show chgB 115 m (uptoM (s.data.toList.drop q)) = _
      rw [p2 e]; rfl
    clear hup hex hexx hm2 p1 p2 hbt h47 HCH hnx
    obtain ⟨v0, v1, v2, hvs⟩ : ∃ a b c, vs = [a, b, c] := by
      match vs, hvl with
      | [a, b, c], _ => exact ⟨a, b, c, rfl⟩
    subst hvs
    have HVX : Hid ([v0, v1, v2] = [Value.bool x.head, .bool x.tail, .slice p3 x.l.length q3]) := hvx
    clear hvx
    go_wp2_with (refine cb_store0 rtPExp hbn rfl rfl _ _ rfl rfl rfl rfl hv1 ?_
                 intro w3 hb3 O3
                 have hc3 : PCmd w3 b cs := ⟨hb2.1.keep (O3.block _ (by omega)) (by rw [O3.size]; exact Nat.le_refl _), hb2.2⟩
                 have HNX3 : Hid (New w.heap.size w3 (fun w => ExOk w p3 x.l)) := by
                   have O3' := O3
                   rw [← hg1] at O3'
                   exact HNX.out.boxed O3'
                 have A3 := A2.only_new O3 hww)
    refine (vReplacement_calls s q m2 r2 w3 hs hqs HM2.out).mono ?_
    rintro e w4 ⟨B4, a4, c4, n, rfl, hqn, hns, hmn, hrp⟩
    have HNX4 : Hid (New w.heap.size w4 (fun w => ExOk w p3 x.l)) := HNX3.out.below B4
    have HRP4 : Hid (New w3.heap.size w4 (fun w => RpOk w a4 (repM m2))) := hrp
    have hb3s := hc3.1.lt
    have hs34 : w.heap.size ≤ w3.heap.size := A3.size
    obtain ⟨l4, hl4⟩ : ∃ l, (repM m2).length = l := ⟨_, rfl⟩
    have HL4 : Hid ((repM m2).length = l4) := hl4
    rw [hl4]
    clear hrp hl4
    have hc4 := hc3.keep B4
    have hb4 := hb3.below B4 hb3.lt
    have A4 := A3.trans (Apt.of_below B4)
    have HST : Hid (stB (s.data.toList.drop n) 47 = true ↔ (([] : List Mk) = [] ∧ ∃ r', r2 = 47 :: r' ∧ s.data.toList.drop n = 47 :: r')) := stB_slash _ _ _ hmn
    have HR2 : Hid (r2 = s.data.toList.drop n) := mks_nil _ _ hmn
    clear hmn hc3 hb3 A3 B4
    go_wp2_with fail
    refine (stands_calls s n 47 _ hsm hns (by decide)).mono ?_
    rintro e wq ⟨rfl, hwq⟩
    rw [hwq]
    clear hwq
    cases hst : stB (s.data.toList.drop n) 47
    · have HF : Hid (changeM 115 s.data.toList = false) := HN.out (fun r' e => by
        rw [HR2.out] at e
        rw [e] at hst
        cases hst)
      clear hst HY HN HST
      go_wp2
      go_ret
      exact ⟨ret_bool (by rw [HF.out]), cs, hc4, fun h => by (rw [HF.out] at h; cases h), A4⟩
    · have hn1 := stB_size s n 47 hst
      obtain ⟨_, r', hr', hdn⟩ := HST.out.1 hst
      have HF : Hid (changeM 115 s.data.toList = flagsM (s.data.toList.drop (n + 1))) := by
        show _ = _
        rw [HY.out r' hr', ← List.drop_drop, hdn]; rfl
      have HSV2 : Hid (subV s.data.toList = ⟨x, repM m2, flC (s.data.toList.drop (n + 1)), flA (s.data.toList.drop (n + 1)), flP (s.data.toList.drop (n + 1))⟩) := by
        show _ = _
        rw [HSV.out r' hr', ← List.drop_drop, hdn]; rfl
      have hc41 := hc4.1
      have hc42 := hc4.2
      clear hst HY HN HST hr' hdn HSV
      go_wp2_with (first
        | refine cb_load0 rtPExp hb4 rfl rfl _ rfl rfl ?_
        | (refine cb_storeAt rtSub hc41 16 rfl _ _ rfl rfl rfl rfl (by omega) (ones_app hv1 (m := [.slice a4 l4 c4, .int .i64 1, .bool false, .bool false]) (by simp [Value.oneCell'])) ?_
           intro w5 hb5 O5))
      have hAT := at_sb cs hc42 v0 v1 v2 (.slice a4 l4 c4) (.int .i64 1) (.bool false) (.bool false)
      have HFS : Hid (flS (cs.take 16 ++ [v0, v1, v2, .slice a4 l4 c4, .int .i64 1, .bool false, .bool false] ++ cs.drop (16 + 7)) (s.data.toList.drop (n + 1)) = cs.take 16 ++ sbL ⟨x, repM m2, flC (s.data.toList.drop (n + 1)), flA (s.data.toList.drop (n + 1)), flP (s.data.toList.drop (n + 1))⟩ p3 q3 a4 c4 ++ cs.drop 23) := by
        show _ = _
        have h9 := HVX.out
        simp only [List.cons.injEq, and_true] at h9
        rw [show (16 + 7 : Nat) = 23 from rfl, fl_sb cs hc42, h9.1, h9.2.1, h9.2.2, ← HL4.out]; rfl
      have hS5 : Sp cs (cs.take 16 ++ [v0, v1, v2, .slice a4 l4 c4, .int .i64 1, .bool false, .bool false] ++ cs.drop (16 + 7)) := Sp.part hc42 16 [v0, v1, v2, .slice a4 l4 c4, .int .i64 1, .bool false, .bool false] (by omega) (by simp)
      have hb5' : CB w5 b (cs.take 16 ++ [v0, v1, v2, .slice a4 l4 c4, .int .i64 1, .bool false, .bool false] ++ cs.drop (16 + 7)) := hb5
      generalize cs.take 16 ++ [v0, v1, v2, .slice a4 l4 c4, .int .i64 1, .bool false, .bool false] ++ cs.drop (16 + 7) = cs5 at hS5 hb5' hAT HFS
      have HC := vFlags_calls b cs5 s (n + 1) w5 hs hn1 ⟨hb5', hS5.1⟩ hAT.1 hAT.2.1 hAT.2.2
      rw [show ((n + 1 : Nat) : Int) = (n : Int) + 1 from rfl] at HC
      refine HC.mono ?_
      clear HC hb5
      rintro e w6 ⟨rfl, hc6, O6⟩
      have HN6 : Hid (New w.heap.size w6 (fun w => ExOk w p3 x.l)) := HNX4.out.toF (by rw [O6.size, O5.size]; exact Nat.le_refl _) (fun k h1 h2 => (O6.block k (hbw k h1)).trans (O5.block k (hbw k h1)))
      have HR6 : Hid (New w.heap.size w6 (fun w => RpOk w a4 (repM m2))) := ((HRP4.out.only O5 hb3s).only O6 hb3s).mono hs34
      generalize flagsM (s.data.toList.drop (n + 1)) = fl at *
      go_wp2
      go_ret
      exact ⟨ret_bool (by rw [HF.out]), _, hc6, fun _ => by rw [HSV2.out]; exact ⟨p3, q3, a4, c4, HFS.out, HN6.out, HR6.out⟩, A4.trans ((Apt.of_only O5).trans (Apt.of_only O6))⟩
  · have HF : Hid (changeM 115 s.data.toList = false) := by
      show _ = _
      rw [HCH.out]
      rcases hno with h | h
      · rw [h]; rfl
      · rw [betX_nope _ h]; split <;> rfl
    clear hno HCH
    go_wp2_with (refine cb_store0 rtPExp hbn rfl rfl _ _ rfl rfl rfl hvl hv1 ?_
                 intro w3 hb3 O3
                 have hc3 : PCmd w3 b cs := ⟨hb2.1.keep (O3.block _ (by omega)) (by rw [O3.size]; exact Nat.le_refl _), hb2.2⟩
                 have A3 := A2.only_new O3 hww)
    go_ret
    exact ⟨ret_bool (by rw [HF.out]), cs, hc3, fun h => by (rw [HF.out] at h; cases h), A3⟩
end Go.Proofs.YtlppphmnegdhoabGreatDoor

namespace Go.Proofs.YtlppphmnegdhoabGreatDoor
set_option linter.unusedVariables false
set_option maxRecDepth 100000
open Go.RowKit
open M

theorem elByte : ElT 151 5 1 1 (.int .u8 0) := ⟨by kernel_rfl, by kernel_rfl, rfl, by decide, by decide, by decide⟩
theorem pconv_own {w : World} {base : Nat} {v : Value} {n : Nat} {A : List UInt8} (h : w.ownsRow base 5 1 v n (A.map fun b => .int .u8 (b.toNat : Int))) : ∃ t : ByteArray, t.data.toList = A ∧ (convert 151 9 v).run Tryz.prog w = .ok (.string t) w := by
  obtain ⟨h1, ⟨rfl, rfl⟩ | ⟨g, cap, cur, rfl, hrest⟩⟩ := id h
  · refine ⟨ByteArray.empty, ?_, ?_⟩
    · simp at h1
      rw [h1]; rfl
    · exact run_convert_bytes_nil w 151 5 Tryz.underlying151 Tryz.underlying5 0 0 9 Tryz.underlying9
  · have hl : n = A.length := by simpa using h1.symm
    subst hl
    refine ⟨⟨A.toArray⟩, by simp, ?_⟩
    refine run_convert_bytes_back w 151 9 5 ⟨g, 0, none⟩ cap A Tryz.underlying151 Tryz.underlying5 Tryz.underlying9 (fun j hj => ?_)
    exact h.cells rfl j _ (by simp [List.getElem?_eq_getElem hj])
/-- the marks' bytes -/
def mkB (m : List Mk) : List UInt8 := m.map (fun q => UInt8.ofNat q.b)
def BtAt (s : ByteArray) (k : Nat) (m : List Mk) (r : List UInt8) (v1 v2 v3 : Value) : Prop :=
  (∃ (q : Mk) (m' : List Mk) (n : Nat), m = q :: m' ∧ q.b < 256 ∧ k < n ∧ n ≤ s.size ∧ mksM (s.data.toList.drop n) = (m', r) ∧ v1 = .int .u8 q.b ∧ v2 = .int .i64 n ∧ v3 = .bool true) ∨ (m = [] ∧ v1 = .int .u8 0 ∧ ∃ n : Nat, v2 = .int .i64 n ∧ v3 = .bool false)
theorem bt_at {s : ByteArray} {k : Nat} {m : List Mk} {r : List UInt8} {e : Ending} (hm : mksM (s.data.toList.drop k) = (m, r)) (h : ByteP s k [47] m r e) : ∃ v1 v2 v3, e = .returned (.tuple #[v1, v2, v3]) ∧ BtAt s k m r v1 v2 v3 := by
  rcases h with ⟨q, m', n, h1, h2, h3, h4, h5, h6, rfl⟩ | ⟨hno, n, rfl, _, _⟩
  · exact ⟨_, _, _, rfl, .inl ⟨q, m', n, h1, h3, h4, h5, h6, rfl, rfl, rfl⟩⟩
  · refine ⟨_, _, _, rfl, .inr ⟨?_, rfl, n, rfl, rfl⟩⟩
    rcases hno with h | ⟨q, v, h, h2⟩
    · exact h
    · rw [bar_slash q (no47 (s.data.toList.drop k) q (by rw [hm, h]; simp))] at h2
      exact Bool.noConfusion h2
def RwPost (s : ByteArray) (k : Nat) (m : List Mk) (r : List UInt8) (w : World) (e : Ending) (w' : World) : Prop :=
  Below w.heap.size w w' ∧ ∃ (t : ByteArray) (n : Nat), e = .returned (.tuple #[.string t, .int .i64 n]) ∧ t.data.toList = mkB m ∧ k ≤ n ∧ n ≤ s.size ∧ mksM (s.data.toList.drop n) = ([], r) ∧ t.size ≤ n
set_option maxRecDepth 100000 in
set_option maxHeartbeats 1000000 in
theorem readRow_calls (s : ByteArray) (k : Nat) (m : List Mk) (r : List UInt8) (w : World) (hs : s.size ≤ 400) (hk : k ≤ s.size) (hm : mksM (s.data.toList.drop k) = (m, r)) :
    Calls Tryz.prog 207 #[.string s, .int .i64 k] w fun e w' => RwPost s k m r w e w' := by
  have hsm : s.size ≤ maxLen := by unfold maxLen; omega
  have HM : Hid (mksM (s.data.toList.drop k) = (m, r)) := hm
  clear hm
  go_enter Tryz.func207, Tryz.ntmps207
  go_wp2_with fail
  refine (byte_calls s k _ m r _ hsm hk (by unfold maxLen; decide) (by decide) HM.out).mono ?_
  rintro e w1 ⟨hpost, rfl⟩
  obtain ⟨v1, v2, v3, rfl, hat⟩ := bt_at HM.out (show ByteP s k [47] m r e from hpost)
  have HAT : Hid (BtAt s k m r v1 v2 v3) := hat
  clear hpost hat
  go_wp2_with fail
  go_loopw [1, 6, 7, 8, 9] (fun x1 x6 x7 x8 x9 wr => ∃ (n : Nat) (m1 : List Mk) (A : List UInt8), x1 = .int .i64 n ∧ k ≤ n ∧ n ≤ s.size ∧ A.length ≤ n ∧ Hid (mksM (s.data.toList.drop n) = (m1, r)) ∧ Hid (mkB m = A ++ mkB m1) ∧ Hid (BtAt s n m1 r x7 x8 x9) ∧ wr.ownsRow w1.heap.size 5 1 x6 A.length (A.map fun b => .int .u8 (b.toNat : Int)) ∧ Below w1.heap.size w1 wr) (fun x1 _ _ _ _ _ => s.size - (intOf x1).toNat)
  case atStart => exact ⟨k, m, [], rfl, Nat.le_refl _, hk, Nat.zero_le _, HM, rfl, HAT, World.ownsRow_nil _ _ _ _, Below.refl _ _⟩
  case round =>
    obtain ⟨n, m1, A, rfl, hkn, hns, hAn, HM1, HA, HB1, hown, hB⟩ := hrel
    obtain ⟨av, cv, hvv⟩ := own_form hown
    subst hvv
    obtain ⟨nA, hnA⟩ : ∃ n, A.length = n := ⟨_, rfl⟩
    have HNA : Hid (A.length = nA) := hnA
    rw [hnA] at hown hAn ⊢
    clear hnA
    have hwb := hB.size
    rcases HB1.out with ⟨q, m', n', rfl, hq, hnn, hn's, hm', rfl, rfl, rfl⟩ | ⟨rfl, rfl, n', rfl, rfl⟩
    · have HM2 : Hid (mksM (s.data.toList.drop n') = (m', r)) := hm'
      have HA2 : Hid (mkB m = (A ++ [UInt8.ofNat q.b]) ++ mkB m') := by show _ = _; rw [HA.out, List.append_assoc]; rfl
      have hqn : ((UInt8.ofNat q.b).toNat : Int) = (q.b : Int) := by
        have : (UInt8.ofNat q.b).toNat = q.b := by simp; omega
        omega
      have HQN : Hid (((UInt8.ofNat q.b).toNat : Int) = (q.b : Int)) := hqn
      obtain ⟨y, hy⟩ : ∃ y, q.b = y := ⟨_, rfl⟩
      have HY : Hid (q.b = y) := hy
      rw [hy] at hq ⊢
      clear hm' HB1 HM1 HA hqn hy
      go_wp2_with (refine gb_append elByte (hown.alloc _) wr.heap.size [.int .u8 y] (heap_alloc_new wr _) rfl (by simp [Value.oneCell']) (by omega) (by simp; omega) rfl _ _ rfl rfl rfl ?_
                   intro v' w6 hown6 hgrow6
                   have hB6 : Below w1.heap.size w1 w6 := (hB.alloc (by omega) _).grown hgrow6 (by simp; omega) (fun k hk => (hown.lt k hk).1)
                   obtain ⟨av', cv', hvv⟩ := own_form hown6
                   subst hvv
                   clear hgrow6)
      refine (byte_calls s n' _ m' r _ hsm hn's (by unfold maxLen; decide) (by decide) HM2.out).mono ?_
      rintro e w7 ⟨hpost, rfl⟩
      obtain ⟨u1, u2, u3, rfl, hat⟩ := bt_at HM2.out (show ByteP s n' [47] m' r e from hpost)
      have HAT2 : Hid (BtAt s n' m' r u1 u2 u3) := hat
      clear hpost hat
      go_wp2_with fail
      go_roundw
      case rel =>
        refine ⟨n', m', A ++ [UInt8.ofNat q.b], rfl, by omega, hn's, by rw [List.length_append, HNA.out]; simp; omega, HM2, HA2.out, HAT2, ?_, hB6⟩
        rw [List.length_append, HNA.out, List.map_append]
        show w7.ownsRow _ _ _ _ (nA + 1) (_ ++ [.int .u8 ((UInt8.ofNat q.b).toNat : Int)])
        rw [HQN.out, HY.out]; exact hown6
      case measure => first | (simp [intOf]; done) | (simp [intOf]; omega)
    · obtain ⟨t, ht, hcv⟩ := pconv_own hown
      have HT : Hid (t.data.toList = mkB m) := by show _ = _; rw [ht, HA.out]; simp [mkB]
      have hts : t.size ≤ n := by rw [← ba_len, ht, HNA.out]; exact hAn
      clear HB1 HA ht
      go_wp2
      go_ret2
      exact ⟨hB, t, n, rfl, HT.out, hkn, hns, HM1.out, hts⟩
end Go.Proofs.YtlppphmnegdhoabGreatDoor

namespace Go.Proofs.YtlppphmnegdhoabGreatDoor
set_option linter.unusedVariables false
set_option maxRecDepth 100000
open Go.RowKit
open M

theorem infoSeen : (Tryz.prog.info? 209).map (fun i => (i.zero, i.size)) = some (some (.agg (Array.replicate 256 (.bool false))), 256) := by kernel_rfl
def inT (l : List UInt8) (i c : Nat) : Bool := (l.take i).any (fun d => d.toNat == c)
theorem inT_succ (l : List UInt8) (i c : Nat) (h : i < l.length) : inT l (i + 1) c = (inT l i c || l[i].toNat == c) := by
  unfold inT
  rw [List.take_add_one, List.getElem?_eq_getElem h, List.any_append]
  simp only [Option.toList, List.any_cons, List.any_nil, Bool.or_false]
def TwPost (s : ByteArray) (w : World) (e : Ending) (w' : World) : Prop :=
  Below w.heap.size w w' ∧ ∃ r : Bool, e = .returned (.bool r) ∧ (r = true ↔ ∃ i k, ∃ (h : i < s.data.toList.length) (h' : k < i), s.data.toList[i] = (s.data.toList[k]'(by omega)))
theorem inT_iff (l : List UInt8) (i c : Nat) (hi : i ≤ l.length) : inT l i c = true ↔ ∃ k, ∃ (h : k < i), (l[k]'(by omega)).toNat = c := by
  unfold inT
  rw [List.any_eq_true]
  constructor
  · rintro ⟨d, hd, e⟩
    obtain ⟨k, hk, rfl⟩ := List.getElem_of_mem hd
    rw [List.length_take] at hk
    exact ⟨k, by omega, by simpa using e⟩
  · rintro ⟨k, hk, e⟩
    refine ⟨l[k]'(by omega), ?_, by simpa using e⟩
    have : (l.take i)[k]'(by rw [List.length_take]; omega) = l[k]'(by omega) := List.getElem_take
    rw [← this]; exact List.getElem_mem _
set_option maxRecDepth 100000 in
set_option maxHeartbeats 1000000 in
theorem hasTwice_calls (s : ByteArray) (w : World) (hs : s.size ≤ 8192) :
    Calls Tryz.prog 208 #[.string s] w fun e w' => TwPost s w e w' := by
  have HL : Hid (s.data.toList.length = s.size) := ba_len s
  have hzv := (zero_of_info infoSeen).1
  have hb0 : BR (w.alloc (.cells (Array.replicate 256 (.bool false)) 209)) w.heap.size 256 (fun _ => false) := BR.new w _ 256
  have B0 : Below w.heap.size w (w.alloc (.cells (Array.replicate 256 (.bool false)) 209)) := (Below.refl _ _).alloc (Nat.le_refl _) _
  go_enter Tryz.func208, Tryz.ntmps208
  go_wp2_with fail
  go_loopw [4] (fun v4 wr => ∃ i : Nat, i ≤ s.size ∧ v4 = .int .i64 i ∧ BR wr w.heap.size 256 (inT s.data.toList i) ∧ Below w.heap.size w wr ∧ Hid (∀ i' k' (h : i' < s.data.toList.length) (h2 : k' < i'), i' < i → s.data.toList[i'] ≠ (s.data.toList[k']'(by omega)))) (fun v4 _ => s.size - (intOf v4).toNat)
  case atStart => exact ⟨0, Nat.zero_le _, rfl, hb0.congr (fun i _ => rfl), B0, fun _ _ _ _ h => by omega⟩
  case round =>
    clear hb0 B0
    obtain ⟨i, hi, rfl, hbr, hB, HP⟩ := hrel
    by_cases hlt : i < s.size
    · have hlt1 : (i : Int) < (s.size : Int) := by omega
      obtain ⟨x, hx⟩ : ∃ x : Nat, s[i].toNat = x := ⟨_, rfl⟩
      have hxc : x < 256 := by rw [← hx]; exact s[i].toNat_lt
      have hxc1 : (x : Int) < 256 := by omega
      have hiL : i < s.data.toList.length := by rw [HL.out]; exact hlt
      have HGI : Hid (s.data.toList[i].toNat = x) := hx
      have z0 := hbr.c x hxc
      have z1 := hbr.fz x hxc
      have hII := inT_iff s.data.toList i x (by omega)
      cases hin : inT s.data.toList i x
      · rw [hin] at z0
        have HP2 : Hid (∀ i' k' (h : i' < s.data.toList.length) (h2 : k' < i'), i' < i + 1 → s.data.toList[i'] ≠ (s.data.toList[k']'(by omega))) := fun i' k' h h2 h3 e => by
          by_cases e1 : i' = i
          · subst e1
            have : inT s.data.toList i' x = true := hII.2 ⟨k', h2, by rw [← e]; exact HGI.out⟩
            rw [hin] at this; cases this
          · exact HP.out i' k' h h2 (by omega) e
        have hb2 : BR (wr.setCell ⟨w.heap.size, x, none⟩ (.bool true)) w.heap.size 256 (inT s.data.toList (i + 1)) := (hbr.set x hxc true).congr (fun c _ => by
          rw [inT_succ _ _ _ hiL, HGI.out]
          by_cases e : c = x
          · rw [if_pos e, e]; simp
          · rw [if_neg e]
            have : (x == c) = false := by simp; omega
            rw [this, Bool.or_false])
        have hB2 := hB.setCell (p := ⟨w.heap.size, x, none⟩) (Nat.le_refl _) (.bool true)
        clear hin hII HP
        go_wp2
        go_roundw
        case rel => exact ⟨i + 1, by omega, by go_num, hb2, hB2, HP2.out⟩
        case measure => first | (simp [intOf]; done) | (simp [intOf]; omega)
      · rw [hin] at z0
        have HF : Hid (∃ i k, ∃ (h : i < s.data.toList.length) (h' : k < i), s.data.toList[i] = (s.data.toList[k]'(by omega))) := by
          obtain ⟨k, hk, e⟩ := hII.1 hin
          exact ⟨i, k, hiL, hk, UInt8.toNat_inj.1 (by rw [HGI.out]; exact e.symm)⟩
        clear hin hII HP
        go_wp2
        go_ret
        exact ⟨hB, true, rfl, ⟨fun _ => HF.out, fun _ => rfl⟩⟩
    · obtain rfl : i = s.size := by omega
      have hlt1 : ¬ (s.size : Int) < (s.size : Int) := by omega
      go_wp2
      go_ret
      exact ⟨hB, false, rfl, ⟨fun h => Bool.noConfusion h, fun ⟨i, k, h, h', e⟩ => absurd e (HP.out i k h h' (by rw [HL.out] at h; exact h))⟩⟩
theorem twice_bytes (m : List Mk) (t : ByteArray) (hm : ∀ q ∈ m, q.b < 256) (ht : t.data.toList = mkB m) : twice m = true ↔ ∃ i k, ∃ (h : i < t.data.toList.length) (h' : k < i), t.data.toList[i] = (t.data.toList[k]'(by omega)) := by
  have hlen : (mkB m).length = m.length := by simp [mkB]
  have hget : ∀ i (h : i < m.length), (mkB m)[i]'(by rw [hlen]; exact h) = UInt8.ofNat m[i].b := fun i h => by simp [mkB]
  have hinj : ∀ i k (h : i < m.length) (h' : k < m.length), UInt8.ofNat m[i].b = UInt8.ofNat m[k].b ↔ m[i].b = m[k].b := fun i k h h' => by
    have h1 := hm m[i] (List.getElem_mem _)
    have h2 := hm m[k] (List.getElem_mem _)
    constructor
    · intro e
      have := congrArg UInt8.toNat e
      simp at this
      omega
    · intro e; rw [e]
  rw [twice_iff]
  simp only [ht]
  constructor
  · rintro ⟨i, k, h, h', e⟩
    exact ⟨i, k, by rw [hlen]; exact h, h', by rw [hget i h, hget k (by omega)]; exact (hinj i k h (by omega)).2 e⟩
  · rintro ⟨i, k, h, h', e⟩
    have h9 : i < m.length := by rw [hlen] at h; exact h
    exact ⟨i, k, h9, h', by rw [hget i h9, hget k (by omega)] at e; exact (hinj i k h9 (by omega)).1 e⟩
theorem rtExc : RowT 146 2 := ⟨⟨_, Tryz.underlying146, rfl⟩, by kernel_rfl⟩
end Go.Proofs.YtlppphmnegdhoabGreatDoor

namespace Go.Proofs.YtlppphmnegdhoabGreatDoor
set_option linter.unusedVariables false
set_option maxRecDepth 100000
open Go.RowKit
open M

theorem ba_of {t : ByteArray} {l : List UInt8} (h : t.data.toList = l) : t = ofB l := by
  subst h
  rfl
def XvPost (b : Nat) (cs : List Value) (s : ByteArray) (w : World) (e : Ending) (w' : World) : Prop := e = .returned (.bool (changeM 121 s.data.toList)) ∧ ∃ cs', PCmd w' b cs' ∧ (changeM 121 s.data.toList = true → cs' = cs.take 23 ++ [.string (ofB (brB (exchV s.data.toList).1)), .string (ofB (brB (exchV s.data.toList).2))]) ∧ Apt b w w'
set_option maxRecDepth 100000 in
set_option maxHeartbeats 1000000 in
theorem vExchange_calls (b : Nat) (cs : List Value) (s : ByteArray) (w : World) (hs : s.size ≤ 400) (hnl : NoNL s) (hb : PCmd w b cs) :
    Calls Tryz.prog 168 #[.pointer (some ⟨b, 0, none⟩), .string s] w fun e w' => XvPost b cs s w e w' := by
  have hsm : s.size ≤ maxLen := by unfold maxLen; omega
  have HNL : Hid (NoNL s) := hnl
  have HCH : Hid (changeM 121 s.data.toList = if stB s.data.toList 47 then chgA 121 (uptoM (s.data.toList.drop 1)) else false) := change_by 121 _
  clear hnl
  go_enter Tryz.func168, Tryz.ntmps168
  go_wp2_with fail
  have HC := stands_calls s 0 47 w hsm (Nat.zero_le _) (by decide)
  rw [show ((0 : Nat) : Int) = 0 from rfl, List.drop_zero] at HC
  refine HC.mono ?_
  clear HC
  rintro e wq ⟨rfl, hwq⟩
  rw [hwq]
  clear hwq
  cases h47 : stB s.data.toList 47
  · have HF : Hid (changeM 121 s.data.toList = false) := by show _ = _; rw [HCH.out, h47]; rfl
    clear h47 HCH
    go_wp2
    go_ret
    exact ⟨ret_bool (by rw [HF.out]), cs, hb, fun h => by (rw [HF.out] at h; cases h), Apt.refl _ _⟩
  have h1s : 1 ≤ s.size := stB_size s 0 47 (by rw [List.drop_zero]; exact h47)
  obtain ⟨m, r, hmr⟩ : ∃ m r, mksM (s.data.toList.drop 1) = (m, r) := ⟨_, _, rfl⟩
  have HM : Hid (mksM (s.data.toList.drop 1) = (m, r)) := hmr
  obtain ⟨p1, p2⟩ := upto_mk _ m r (HNL.out.drop 1) hmr
  have HC1 : Hid ((∀ r', r ≠ 47 :: r') → changeM 121 s.data.toList = false) := fun e => by rw [HCH.out, h47, if_pos rfl, p2 e]; rfl
  have HC2 : Hid (∀ r', r = 47 :: r' → changeM 121 s.data.toList = chgB 121 m (uptoM r')) := fun r' e => by rw [HCH.out, h47, if_pos rfl, p1 r' e]; rfl
  have HX1 : Hid (∀ r', r = 47 :: r' → uptoM (s.data.toList.drop 1) = some (m, r')) := p1
  have HLT : Hid (∀ q ∈ m, q.b < 256) := fun q hq => mk_lt (s.data.toList.drop 1) q (by rw [hmr]; exact hq)
  clear hmr p1 p2 h47 HCH
  go_wp2_with fail
  have HC := readRow_calls s 1 m r w hs h1s HM.out
  rw [show ((1 : Nat) : Int) = 1 from rfl] at HC
  refine HC.mono ?_
  clear HC
  rintro e w1 ⟨B1, t, n, rfl, ht, h1n, hns, hmn, htn⟩
  have HT : Hid (t.data.toList = mkB m) := ht
  have HST : Hid (stB (s.data.toList.drop n) 47 = true ↔ (([] : List Mk) = [] ∧ ∃ r', r = 47 :: r' ∧ s.data.toList.drop n = 47 :: r')) := stB_slash _ _ _ hmn
  have HR : Hid (r = s.data.toList.drop n) := mks_nil _ _ hmn
  have hb1 := hb.keep B1
  have A1 : Apt b w w1 := Apt.of_below B1
  clear ht hmn B1 hb
  go_wp2_with fail
  refine (stands_calls s n 47 _ hsm hns (by decide)).mono ?_
  rintro e wq ⟨rfl, hwq⟩
  rw [hwq]
  clear hwq
  cases hst : stB (s.data.toList.drop n) 47
  · have HF : Hid (changeM 121 s.data.toList = false) := HC1.out (fun r' e => by rw [HR.out] at e; rw [e] at hst; cases hst)
    clear hst HC1 HC2 HST
    go_wp2
    go_ret
    exact ⟨ret_bool (by rw [HF.out]), cs, hb1, fun h => by (rw [HF.out] at h; cases h), A1⟩
  have hn1 := stB_size s n 47 hst
  obtain ⟨_, r', hr', hdn⟩ := HST.out.1 hst
  have HX2 : Hid (uptoM (s.data.toList.drop 1) = some (m, s.data.toList.drop (n + 1))) := by
    show _ = _
    rw [HX1.out r' hr', ← List.drop_drop, hdn]; rfl
  have HC3 : Hid (changeM 121 s.data.toList = chgB 121 m (uptoM (s.data.toList.drop (n + 1)))) := by
    show _ = _
    rw [HC2.out r' hr', ← List.drop_drop, hdn]; rfl
  obtain ⟨m2, r2, hm2⟩ : ∃ m2 r2, mksM (s.data.toList.drop (n + 1)) = (m2, r2) := ⟨_, _, rfl⟩
  have HM2 : Hid (mksM (s.data.toList.drop (n + 1)) = (m2, r2)) := hm2
  obtain ⟨p1, p2⟩ := upto_mk _ m2 r2 (HNL.out.drop (n + 1)) hm2
  have HX3 : Hid (∀ r', r2 = 47 :: r' → exchV s.data.toList = (m, m2)) := fun r' e => by
    unfold exchV
    rw [HX2.out]
    simp only [p1 r' e]
  have HC4 : Hid ((∀ r', r2 ≠ 47 :: r') → changeM 121 s.data.toList = false) := fun e => by rw [HC3.out, p2 e]; rfl
  have HC5 : Hid (∀ r', r2 = 47 :: r' → changeM 121 s.data.toList = (!twice m && (!m.isEmpty && (m.length == m2.length && r'.isEmpty)))) := fun r' e => by
    rw [HC3.out, p1 r' e, chgB, if_neg (by decide)]
  clear hm2 p1 p2 hst HC1 HC2 HST hr' hdn HC3
  go_wp2_with fail
  have HC := readRow_calls s (n + 1) m2 r2 w1 hs hn1 HM2.out
  rw [show ((n + 1 : Nat) : Int) = (n : Int) + 1 from rfl] at HC
  refine HC.mono ?_
  clear HC
  rintro e w2 ⟨B2, t2, q, rfl, ht2, hnq, hqs, hmq, ht2n⟩
  have HT2 : Hid (t2.data.toList = mkB m2) := ht2
  have HST : Hid (stB (s.data.toList.drop q) 47 = true ↔ (([] : List Mk) = [] ∧ ∃ r', r2 = 47 :: r' ∧ s.data.toList.drop q = 47 :: r')) := stB_slash _ _ _ hmq
  have HR2 : Hid (r2 = s.data.toList.drop q) := mks_nil _ _ hmq
  have hb2 := hb1.keep B2
  have A2 : Apt b w w2 := A1.trans (Apt.of_below B2)
  clear ht2 hmq B2 hb1 A1
  go_wp2_with fail
  refine (stands_calls s q 47 _ hsm hqs (by decide)).mono ?_
  rintro e wq ⟨rfl, hwq⟩
  rw [hwq]
  clear hwq
  cases hst : stB (s.data.toList.drop q) 47
  · have HF : Hid (changeM 121 s.data.toList = false) := HC4.out (fun r' e => by rw [HR2.out] at e; rw [e] at hst; cases hst)
    clear hst HC4 HC5 HST
    go_wp2
    go_ret
    exact ⟨ret_bool (by rw [HF.out]), cs, hb2, fun h => by (rw [HF.out] at h; cases h), A2⟩
  have hq1 := stB_size s q 47 hst
  obtain ⟨_, r', hr', hdq⟩ := HST.out.1 hst
  have HXS : Hid ([Value.string t, .string t2] = [.string (ofB (brB (exchV s.data.toList).1)), .string (ofB (brB (exchV s.data.toList).2))]) := by
    show _ = _
    rw [HX3.out r' hr', ba_of HT.out, ba_of HT2.out]; rfl
  have hr'l : r'.isEmpty = decide (q + 1 = s.size) := by
    have h9 := congrArg List.length hdq
    rw [List.length_drop, ba_len] at h9
    simp at h9
    cases r' with
    | nil => simp at h9 ⊢; omega
    | cons a b => simp at h9 ⊢; omega
  have hlm : m.length = t.size := by rw [← ba_len, HT.out]; simp [mkB]
  have hlm2 : m2.length = t2.size := by rw [← ba_len, HT2.out]; simp [mkB]
  have HV : Hid (changeM 121 s.data.toList = (!twice m && (!decide (t.size = 0) && (decide (t.size = t2.size) && decide (q + 1 = s.size))))) := by
    show _ = _
    rw [HC5.out r' hr', hr'l, hlm, hlm2]
    have e1 : m.isEmpty = decide (t.size = 0) := by
      rw [← hlm]; cases m <;> simp
    rw [e1]; rfl
  have hts : t.size ≤ 8192 := by omega
  have HTW := twice_bytes m t HLT.out HT.out
  have HTW2 : Hid (twice m = true ↔ ∃ i k, ∃ (h : i < t.data.toList.length) (h' : k < i), t.data.toList[i] = (t.data.toList[k]'(by omega))) := HTW
  clear HTW
  clear hst HC4 HC5 HST hr' hdq hr'l hlm hlm2
  by_cases hend : q + 1 = s.size
  · have he1 : ((q : Int) + 1 != (s.size : Int)) = false := by simp; omega
    have hb21 := hb2.1
    have hb22 := hb2.2
    have HV2 : Hid (changeM 121 s.data.toList = (!twice m && (!decide (t.size = 0) && decide (t.size = t2.size)))) := by show _ = _; rw [HV.out, decide_eq_true hend, Bool.and_true]
    have HXC : Hid (cs.take 23 ++ [.string t, .string t2] ++ cs.drop (23 + 2) = cs.take 23 ++ [.string (ofB (brB (exchV s.data.toList).1)), .string (ofB (brB (exchV s.data.toList).2))]) := by
      show _ = _
      rw [HXS.out, List.drop_of_length_le (by omega), List.append_nil]
    have hSn : Sp cs (cs.take 23 ++ [.string t, .string t2] ++ cs.drop (23 + 2)) := Sp.part hb22 23 [.string t, .string t2] (by omega) (by simp)
    clear HV hend
    by_cases z1 : t.size = 0
    · have z11 : ¬ (0 : Int) < (t.size : Int) := by omega
      have HF : Hid (changeM 121 s.data.toList = false) := by show _ = _; rw [HV2.out, decide_eq_true z1]; simp
      clear HV2 z1
      go_wp2_with (refine cb_storeAt rtExc hb21 23 rfl _ _ rfl rfl rfl rfl (by omega) (by simp [Value.oneCell']) ?_; intro w5 hb5 O5)
      go_ret
      exact ⟨ret_bool (by rw [HF.out]), _, ⟨hb5, hSn.1⟩, fun h => by (rw [HF.out] at h; cases h), A2.trans (Apt.of_only O5)⟩
    · have z11 : (0 : Int) < (t.size : Int) := by omega
      by_cases z2 : t.size = t2.size
      · have z21 : ((t.size : Int) == (t2.size : Int)) = true := by simp [z2]
        have HV3 : Hid (changeM 121 s.data.toList = !twice m) := by show _ = _; rw [HV2.out, decide_eq_false z1, decide_eq_true z2]; simp
        clear HV2 z1 z2
        go_wp2_with (refine cb_storeAt rtExc hb21 23 rfl _ _ rfl rfl rfl rfl (by omega) (by simp [Value.oneCell']) ?_; intro w5 hb5 O5)
        refine (hasTwice_calls t w5 hts).mono ?_
        rintro e w6 ⟨B6, tw, rfl, htw⟩
        have HF : Hid (changeM 121 s.data.toList = !tw) := by
          show _ = _
          have : twice m = tw := by
            rw [Bool.eq_iff_iff]
            exact HTW2.out.trans htw.symm
          rw [HV3.out, this]
        have hc6 : PCmd w6 b (cs.take 23 ++ [.string t, .string t2] ++ cs.drop (23 + 2)) := PCmd.keep ⟨hb5, hSn.1⟩ B6
        clear htw HV3
        cases tw
        · go_wp2
          go_ret
          exact ⟨ret_bool (by rw [HF.out]; rfl), _, hc6, fun _ => HXC.out, (A2.trans (Apt.of_only O5)).trans (Apt.of_below B6)⟩
        · go_wp2
          go_ret
          exact ⟨ret_bool (by rw [HF.out]; rfl), _, hc6, fun _ => HXC.out, (A2.trans (Apt.of_only O5)).trans (Apt.of_below B6)⟩
      · have z21 : ((t.size : Int) == (t2.size : Int)) = false := by simp; omega
        have HF : Hid (changeM 121 s.data.toList = false) := by show _ = _; rw [HV2.out, decide_eq_false z2]; simp
        clear HV2 z1 z2
        go_wp2_with (refine cb_storeAt rtExc hb21 23 rfl _ _ rfl rfl rfl rfl (by omega) (by simp [Value.oneCell']) ?_; intro w5 hb5 O5)
        go_ret
        exact ⟨ret_bool (by rw [HF.out]), _, ⟨hb5, hSn.1⟩, fun h => by (rw [HF.out] at h; cases h), A2.trans (Apt.of_only O5)⟩
  · have he1 : ((q : Int) + 1 != (s.size : Int)) = true := by simp; omega
    have HF : Hid (changeM 121 s.data.toList = false) := by show _ = _; rw [HV.out, decide_eq_false hend]; simp
    clear HV hend
    go_wp2
    go_ret
    exact ⟨ret_bool (by rw [HF.out]), cs, hb2, fun h => by (rw [HF.out] at h; cases h), A2⟩
end Go.Proofs.YtlppphmnegdhoabGreatDoor

namespace Go.Proofs.YtlppphmnegdhoabGreatDoor
set_option linter.unusedVariables false
set_option maxRecDepth 100000
open Go.RowKit
open M

theorem labB_lt (t : List UInt8) : labB t < 256 := by
  unfold labB
  split
  · match t with
    | [] => decide
    | c :: _ => exact c.toNat_lt
  · decide
theorem labB_ne (t : List UInt8) : (labB t ≠ 0) ↔ letM t = true := by
  match t with
  | [] => simp [labB, letM]
  | [c] =>
    cases h : letM [c]
    · simp [labB, h]
    · simp [labB, h]
      simp [letM] at h
      omega
  | c :: d :: t => simp [labB, letM]
theorem emp_dat (s : ByteArray) : s.data.toList.isEmpty = s.toList.isEmpty := by rw [ByteArray.toList_eq]
end Go.Proofs.YtlppphmnegdhoabGreatDoor

