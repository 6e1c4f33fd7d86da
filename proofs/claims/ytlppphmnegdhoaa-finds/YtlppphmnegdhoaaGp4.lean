/-
  The program's sets: readMembers.
-/
import Derived.Test.YtlppphmnegdhoaaGp3
import Derived.Deep.CutBlock
import Derived.Deep.DeepCutAuto
namespace Go.Proofs.Ytlppphmnegdhoaa
set_option linter.unusedVariables false
set_option maxRecDepth 100000
open Go.RowKit
open M

theorem itV_congr {f g : Nat → Bool} (h : ∀ i, i < 257 → f i = g i) : itV f = itV g := by unfold itV; rw [bC_congr 257 f g h]
theorem zeroV : (.agg (Array.replicate 257 (.bool false)) : Value) = itV (fun _ => false) := by
  unfold itV bC
  congr 1
def accF (acc : List (Nat × Nat)) : Nat → Bool := fun i => if i = 256 then false else acc.any (fun r => decide (r.1 ≤ i) && decide (i ≤ r.2))
theorem accF_snoc (acc : List (Nat × Nat)) (lo hi : Nat) (hhi : hi < 256) (i : Nat) : addF lo hi (accF acc) i = accF (acc ++ [(lo, hi)]) i := by
  unfold addF accF
  by_cases e : i = 256
  · rw [if_neg (by omega), if_pos e, if_pos e]
  · rw [if_neg e, if_neg e, List.any_append]
    by_cases e2 : lo ≤ i ∧ i ≤ hi
    · rw [if_pos e2]; simp [e2]
    · rw [if_neg e2]
      have : (decide (lo ≤ i) && decide (i ≤ hi)) = false := by
        rw [Bool.eq_false_iff]; intro h; simp at h; exact e2 h
      simp [this]
theorem accF_it (acc : List (Nat × Nat)) (i : Nat) : accF acc i = itF ⟨false, false, false, acc⟩ i := by
  unfold accF itF hasI
  split
  · rfl
  · simp
theorem turn_it (acc : List (Nat × Nat)) (i : Nat) (h : i < 257) : turnF (accF acc) i = itF ⟨false, true, false, acc⟩ i := by
  unfold turnF accF itF hasI
  by_cases e : i = 256
  · subst e; rfl
  · rw [if_pos (by omega), if_neg e, if_neg e]; simp
/-- a set behind its bracket -/
def SetPost (s : ByteArray) (k : Nat) (m : List Mk) (r : List UInt8) (e : Ending) : Prop :=
  (∃ (no : Bool) (acc : List (Nat × Nat)) (m' : List Mk) (n : Nat), setM m = some (no, acc, m') ∧ k < n ∧ n ≤ s.size ∧ mksM (s.data.toList.drop n) = (m', r) ∧ e = .returned (.tuple #[itV (itF ⟨false, no, false, acc⟩), .int .i64 n, .bool true])) ∨
  (setM m = none ∧ e = .returned (.tuple #[itV (fun _ => false), .int .i64 k, .bool false]))
theorem set_by (m : List Mk) (oth : Bool) (h : oth = hdIs m 94) : setM m = (membersM (if oth then m.drop 1 else m) []).map (fun r => (oth, r.1, r.2)) := by
  match m with
  | [] => subst h; rfl
  | d :: u =>
    have e : oth = d.is 94 := h
    show (if d.is 94 then _ else _) = _
    rw [← e]
    cases oth <;> rfl
/-- what the reader of members holds -/
def MemAt (s : ByteArray) (k : Nat) (m : List Mk) (r : List UInt8) (v1 v2 v3 v4 : Value) : Prop :=
  (∃ (lo hi : Nat) (m' : List Mk) (n : Nat), memP m = some (lo, hi, m') ∧ lo < 256 ∧ hi < 256 ∧ k < n ∧ n ≤ s.size ∧ mksM (s.data.toList.drop n) = (m', r) ∧ v1 = .int .u8 lo ∧ v2 = .int .u8 hi ∧ v3 = .int .i64 n ∧ v4 = .bool true) ∨
  (memP m = none ∧ v1 = .int .u8 0 ∧ v2 = .int .u8 0 ∧ ∃ n : Nat, v3 = .int .i64 n ∧ v4 = .bool false)
theorem mem_at {s : ByteArray} {k : Nat} {m : List Mk} {r : List UInt8} {e : Ending} (h : MemPost s k m r e) : ∃ v1 v2 v3 v4, e = .returned (.tuple #[v1, v2, v3, v4]) ∧ MemAt s k m r v1 v2 v3 v4 := by
  rcases h with ⟨lo, hi, m', n, h1, h2, h3, h4, h5, h6, rfl⟩ | ⟨h1, n, rfl, _, _⟩
  · exact ⟨_, _, _, _, rfl, .inl ⟨lo, hi, m', n, h1, h2, h3, h4, h5, h6, rfl, rfl, rfl, rfl⟩⟩
  · exact ⟨_, _, _, _, rfl, .inr ⟨h1, rfl, rfl, n, rfl, rfl⟩⟩
theorem members_stop (m : List Mk) (acc : List (Nat × Nat)) (h : memP m = none) : (hdIs m 93 = true → acc ≠ [] → ∀ k m', m = k :: m' → membersM m acc = some (acc, m')) ∧ (hdIs m 93 = false ∨ acc = [] → membersM m acc = none) := by
  have hst := members_step m acc
  rw [h] at hst
  match m with
  | [] => exact ⟨fun e => Bool.noConfusion e, fun _ => hst⟩
  | k :: m' =>
    have hst2 : membersM (k :: m') acc = if k.is 93 then (if acc = [] then none else some (acc, m')) else none := hst
    refine ⟨fun e ha k2 m2 e2 => ?_, fun e => ?_⟩
    · have e' : k.is 93 = true := e
      simp at e2
      rw [hst2, if_pos e', if_neg ha, e2.2]
    · rw [hst2]
      rcases e with e | e
      · have e' : k.is 93 = false := e
        rw [e']; rfl
      · rw [if_pos e]; split <;> rfl
theorem stB_size (s : ByteArray) (k c : Nat) (hb : stB (s.data.toList.drop k) c = true) : k + 1 ≤ s.size := by
  refine Nat.lt_of_not_le fun h => ?_
  rw [List.drop_of_length_le (by rw [ba_len]; omega)] at hb
  cases hb

set_option maxRecDepth 100000 in
set_option maxHeartbeats 2000000 in
theorem readMembers_calls (s : ByteArray) (k : Nat) (m : List Mk) (r : List UInt8) (w : World) (hs : s.size ≤ maxLen) (hk : k ≤ s.size) (hm : mksM (s.data.toList.drop k) = (m, r)) :
    Calls Try.prog 107 #[.string s, .int .i64 k] w fun e w' => SetPost s k m r e ∧ Below w.heap.size w w' := by
  obtain ⟨h94, h94'⟩ := stB_mk _ 94 _ _ hm (by decide) (by decide) (by decide)
  obtain ⟨oth, hoth⟩ : ∃ b, stB (s.data.toList.drop k) 94 = b := ⟨_, rfl⟩
  have HO : Hid (setM m = (membersM (if oth then m.drop 1 else m) []).map (fun r => (oth, r.1, r.2))) := set_by m oth (hoth.symm.trans h94)
  obtain ⟨p, hp⟩ : ∃ p : Nat, p = if oth then k + 1 else k := ⟨_, rfl⟩
  obtain ⟨m0, hm0⟩ : ∃ m0 : List Mk, m0 = if oth then m.drop 1 else m := ⟨_, rfl⟩
  have hps : p ≤ s.size := by
    cases oth
    · rw [hp]; exact hk
    · rw [hp]; exact stB_size s k 94 hoth
  have hkp : k ≤ p := by rw [hp]; cases oth <;> simp
  have HM0 : Hid (mksM (s.data.toList.drop p) = (m0, r)) := by
    show _ = _
    rw [hp, hm0]
    cases oth
    · exact hm
    · obtain ⟨q, m1, e1, e2⟩ := h94' hoth
      rw [List.drop_drop] at e2
      rw [e1]; exact e2
  rw [← hm0] at HO
  have HP : Hid (p = if oth then k + 1 else k) := hp
  have HOTH : Hid (stB (s.data.toList.drop k) 94 = oth) := hoth
  clear h94 h94' hm hp hm0 hoth
  have hs' := hs
  unfold maxLen at hs'
  have hzv := (zero_of_info infoIt).1
  obtain ⟨g0, hg0⟩ : ∃ g, w.heap.size = g := ⟨_, rfl⟩
  rw [hg0]
  go_enter Try.func107, Try.ntmps107
  go_wp2_with fail
  have hb0 : BR (w.alloc (.cells (Array.replicate 257 (.bool false)) 119)) w.heap.size 257 (fun _ => false) := BR.new w _ 257
  have B0 : Below w.heap.size w (w.alloc (.cells (Array.replicate 257 (.bool false)) 119)) := (Below.refl _ _).alloc (Nat.le_refl _) _
  have hsz0 : (w.alloc (.cells (Array.replicate 257 (.bool false)) 119)).heap.size = w.heap.size + 1 := by simp
  generalize w.alloc (.cells (Array.replicate 257 (.bool false)) 119) = W0 at *
  have hb1 : BR (W0.alloc (.cells (Array.replicate 257 (.bool false)) 119)) W0.heap.size 257 (fun _ => false) := BR.new W0 _ 257
  have hb01 : BR (W0.alloc (.cells (Array.replicate 257 (.bool false)) 119)) w.heap.size 257 (fun _ => false) := hb0.below ((Below.refl _ _).alloc (Nat.le_refl _) _) (by omega)
  have B1 : Below w.heap.size w (W0.alloc (.cells (Array.replicate 257 (.bool false)) 119)) := B0.alloc (by omega) _
  generalize W0.alloc (.cells (Array.replicate 257 (.bool false)) 119) = W at *
  rw [hsz0] at hb1
  rw [hg0] at hb1 hb01 B1
  clear hb0 B0 hsz0 hg0
  refine (stands_calls s k 94 _ hs hk (by decide)).mono ?_
  rintro e w2 ⟨rfl, rfl⟩
  rw [HOTH.out]
  go_upto_if 19 with fail
  go_cut [8] (fun v wx => v = .int .i64 p ∧ wx = w2)
  case first =>
    cases oth
    · obtain rfl : p = k := HP.out
      go_wp2
      go_meet
      exact ⟨rfl, rfl⟩
    · obtain rfl : p = k + 1 := HP.out
      go_wp2
      go_meet
      exact ⟨rfl, rfl⟩
  case rest =>
    obtain ⟨rfl, rfl⟩ := hcut
    go_wp2_with fail
    refine (readMember_calls s p m0 r _ hs hps HM0.out).mono ?_
    rintro e w3 ⟨hpost, rfl⟩
    obtain ⟨v1, v2, v3, v4, rfl, hat⟩ := mem_at hpost
    have HAT : Hid (MemAt s p m0 r v1 v2 v3 v4) := hat
    clear hpost hat
    go_wp2_with fail
    go_loopw [10, 11, 12, 13, 14] (fun v10 v11 v12 v13 v14 wr => ∃ (n : Nat) (acc : List (Nat × Nat)) (m1 : List Mk), v10 = .int .i64 n ∧ p ≤ n ∧ n ≤ s.size ∧ Hid (mksM (s.data.toList.drop n) = (m1, r)) ∧ Hid (membersM m0 [] = membersM m1 acc) ∧ Hid (acc = [] ↔ n = p) ∧ Hid (MemAt s n m1 r v11 v12 v13 v14) ∧ BR wr (g0 + 1) 257 (accF acc) ∧ BR wr g0 257 (fun _ => false) ∧ Below g0 w wr) (fun v10 _ _ _ _ _ => s.size - (intOf v10).toNat)
    case atStart =>
      refine ⟨p, [], m0, rfl, Nat.le_refl _, hps, HM0, rfl, ⟨fun _ => rfl, fun _ => rfl⟩, HAT, hb1.congr (fun i _ => ?_), hb01, B1⟩
      unfold accF; split <;> rfl
    case round =>
      obtain ⟨n, acc, m1, rfl, hpn, hns, HM1, HME, HAC, HAT2, hbr, hbr0, Br⟩ := hrel
      rcases HAT2.out with ⟨lo, hi, m2, n2, hmem, hlo, hhi, hn2, hn2s, hm2, rfl, rfl, rfl, rfl⟩ | ⟨hmem, rfl, rfl, n2, rfl, rfl⟩
      · have HM2 : Hid (mksM (s.data.toList.drop n2) = (m2, r)) := hm2
        have HME2 : Hid (membersM m0 [] = membersM m2 (acc ++ [(lo, hi)])) := by
          show _ = _
          rw [HME.out, members_step m1, hmem]
        clear hmem hm2 HAT2 HME
        go_wp2_with fail
        refine (itadd_calls _ lo hi _ _ hbr hlo hhi).mono ?_
        rintro e w4 ⟨rfl, hb4, O4⟩
        have hb40 := hbr0.keep (O4.block _ (by omega)) (by rw [O4.size]; exact Nat.le_refl _)
        have B4 := Br.trans (O4.below (B := g0) (by omega))
        go_wp2_with fail
        refine (readMember_calls s n2 m2 r _ hs hn2s HM2.out).mono ?_
        rintro e w5 ⟨hpost, rfl⟩
        obtain ⟨x1, x2, x3, x4, rfl, hat⟩ := mem_at hpost
        have HAT3 : Hid (MemAt s n2 m2 r x1 x2 x3 x4) := hat
        clear hpost hat
        go_wp2_with fail
        go_roundw
        case rel =>
          exact ⟨n2, acc ++ [(lo, hi)], m2, rfl, by omega, hn2s, HM2, HME2, ⟨fun e => absurd e (by simp), fun e => by omega⟩, HAT3, hb4.congr (fun i _ => accF_snoc acc lo hi hhi i), hb40, B4⟩
        case measure => simp [intOf]; omega
      · obtain ⟨hs1, hs2⟩ := members_stop m1 acc hmem
        have HS1 : Hid (hdIs m1 93 = true → acc ≠ [] → ∀ k m', m1 = k :: m' → membersM m1 acc = some (acc, m')) := hs1
        have HS2 : Hid (hdIs m1 93 = false ∨ acc = [] → membersM m1 acc = none) := hs2
        clear hs1 hs2 hmem HAT2
        by_cases hnp : n = p
        · have HF : Hid (SetPost s k m r (.returned (.tuple #[itV (fun _ => false), .int .i64 k, .bool false]))) := .inr ⟨by rw [HO.out, HME.out, HS2.out (.inr (HAC.out.2 hnp))]; rfl, rfl⟩
          have hnp1 : ((n : Int) == (p : Int)) = true := by simp [hnp]
          clear hnp
          go_wp2_with (refine it_store hbr0 rfl _ _ rfl rfl (fun _ => false) zeroV ?_; intro w5 hb5 O5)
          refine bodyPost_ret (results_item rfl _ _ _ _ rfl hb5) rfl ?_
          exact ⟨HF.out, Br.trans (O5.below (Nat.le_refl _))⟩
        · have hnp1 : ((n : Int) == (p : Int)) = false := by simp; omega
          have HNE : Hid (acc ≠ []) := fun e => hnp (HAC.out.1 e)
          clear hnp
          go_wp2_with fail
          refine (stands_calls s n 93 _ hs hns (by decide)).mono ?_
          rintro e w4 ⟨rfl, rfl⟩
          obtain ⟨h93, h93'⟩ := stB_mk _ 93 _ _ HM1.out (by decide) (by decide) (by decide)
          cases hb : stB (s.data.toList.drop n) 93
          · have HF : Hid (SetPost s k m r (.returned (.tuple #[itV (fun _ => false), .int .i64 k, .bool false]))) := .inr ⟨by rw [HO.out, HME.out, HS2.out (.inl (by rw [← h93]; exact hb))]; rfl, rfl⟩
            clear h93 h93' hb
            go_wp2_with (refine it_store hbr0 rfl _ _ rfl rfl (fun _ => false) zeroV ?_; intro w5 hb5 O5)
            refine bodyPost_ret (results_item rfl _ _ _ _ rfl hb5) rfl ?_
            exact ⟨HF.out, Br.trans (O5.below (Nat.le_refl _))⟩
          · obtain ⟨q, m3, hq, hm3⟩ := h93' hb
            have hn1 := stB_size s n 93 hb
            rw [List.drop_drop] at hm3
            have HSET : Hid (setM m = some (oth, acc, m3)) := by
              show _ = _
              rw [HO.out, HME.out, HS1.out (by rw [← h93]; exact hb) HNE.out q m3 hq]; rfl
            have HM3 : Hid (mksM (s.data.toList.drop (n + 1)) = (m3, r)) := hm3
            clear h93 h93' hb hq hm3
            cases oth
            · have HF : Hid (SetPost s k m r (.returned (.tuple #[itV (itF ⟨false, false, false, acc⟩), .int .i64 ((n + 1 : Nat) : Int), .bool true]))) := .inl ⟨false, acc, m3, n + 1, HSET.out, by omega, hn1, HM3.out, rfl⟩
              rw [itV_congr (fun i _ => (accF_it acc i).symm)] at HF
              go_wp2_with (first | refine it_load hbr rfl _ rfl rfl ?_ | (refine it_store hbr0 rfl _ _ rfl rfl _ rfl ?_; intro w5 hb5 O5))
              refine bodyPost_ret (results_item rfl _ _ _ _ rfl hb5) rfl ?_
              exact ⟨HF.out, Br.trans (O5.below (Nat.le_refl _))⟩
            · have HF : Hid (SetPost s k m r (.returned (.tuple #[itV (itF ⟨false, true, false, acc⟩), .int .i64 ((n + 1 : Nat) : Int), .bool true]))) := .inl ⟨true, acc, m3, n + 1, HSET.out, by omega, hn1, HM3.out, rfl⟩
              rw [itV_congr (fun i h => (turn_it acc i h).symm)] at HF
              go_wp2_with fail
              refine (turn_calls _ _ _ hbr).mono ?_
              rintro e w5 ⟨rfl, hb5, O5⟩
              have hb50 := hbr0.keep (O5.block _ (by omega)) (by rw [O5.size]; exact Nat.le_refl _)
              have B5 := Br.trans (O5.below (B := g0) (by omega))
              go_wp2_with (first | refine it_load hb5 rfl _ rfl rfl ?_ | (refine it_store hb50 rfl _ _ rfl rfl _ rfl ?_; intro w6 hb6 O6))
              refine bodyPost_ret (results_item rfl _ _ _ _ rfl hb6) rfl ?_
              exact ⟨HF.out, B5.trans (O6.below (Nat.le_refl _))⟩
end Go.Proofs.Ytlppphmnegdhoaa
