/-
  The program's items: readBytes, readItem.
-/
import Derived.Test.YtlppphmnegdhoaaGp4
namespace Go.Proofs.Ytlppphmnegdhoaa
set_option linter.unusedVariables false
set_option maxRecDepth 100000
open Go.RowKit
open M

/-- an item without its star -/
def BytesPost (s : ByteArray) (k : Nat) (m : List Mk) (r : List UInt8) (e : Ending) : Prop :=
  (∃ (x : It) (m' : List Mk) (n : Nat), bareM m = some (x, m') ∧ k < n ∧ n ≤ s.size ∧ mksM (s.data.toList.drop n) = (m', r) ∧ e = .returned (.tuple #[itV (itF x), .int .i64 n, .bool true])) ∨
  (bareM m = none ∧ ∃ (f : Nat → Bool) (n : Nat), e = .returned (.tuple #[itV f, .int .i64 n, .bool false]))
theorem any_it (i : Nat) (h : i < 257) : turnF (fun _ => false) i = itF ⟨true, false, false, []⟩ i := by
  unfold turnF itF hasI
  by_cases e : i = 256
  · subst e; rfl
  · rw [if_pos (by omega), if_neg e]; rfl
theorem one_it (c i : Nat) (h : i < 257) (hc : c < 256) : (if i = c then true else false) = itF ⟨false, false, false, [(c, c)]⟩ i := by
  unfold itF hasI
  by_cases e : i = 256
  · rw [if_neg (by omega), if_pos e]
  · rw [if_neg e]
    by_cases e2 : i = c
    · subst e2; simp
    · rw [if_neg e2]
      have : (decide (c ≤ i) && decide (i ≤ c)) = false := by
        rw [Bool.eq_false_iff]; intro h; simp at h; omega
      simp [this]
theorem bar_bare (q : Mk) (h47 : q.is 47 = false) (h91 : q.is 91 = false) (h46 : q.is 46 = false) : (q.p && inB q.b [47, 46, 42, 91, 93, 94, 36]) = (q.is 42 || q.is 93 || q.is 94 || q.is 36) := by
  obtain ⟨b, p⟩ := q
  cases p
  · rfl
  · simp [Mk.is] at h47 h91 h46
    have e : ∀ c : UInt8, (c.toNat == b) = (b == c.toNat) := fun c => by
      rw [Bool.eq_iff_iff]; simp; exact eq_comm
    simp only [Mk.is, inB, Bool.true_and, List.any_cons, List.any_nil, Bool.or_false, e]
    have e1 : (b == (47 : UInt8).toNat) = false := by simp; omega
    have e2 : (b == (46 : UInt8).toNat) = false := by simp; omega
    have e3 : (b == (91 : UInt8).toNat) = false := by simp; omega
    rw [e1, e2, e3]
    show (false || (false || ((b == 42) || (false || ((b == 93) || ((b == 94) || (b == 36))))))) = _
    simp [Bool.or_assoc]
def bareT : List Mk → Option (It × List Mk)
  | [] => none
  | c :: t => if c.is 42 || c.is 93 || c.is 94 || c.is 36 then none else some (⟨false, false, false, [(c.b, c.b)]⟩, t)
theorem bare_by (m : List Mk) (h91 : hdIs m 91 = false) (h46 : hdIs m 46 = false) : bareM m = bareT m := by
  match m, h91, h46 with
  | [], _, _ => rfl
  | c :: t, h91, h46 =>
    have e1 : c.is 91 = false := h91
    have e2 : c.is 46 = false := h46
    show (if c.is 46 then _ else if c.is 91 then _ else _) = _
    rw [e1, e2]; rfl
theorem bare_91 (c : Mk) (t : List Mk) (h : c.is 91 = true) : bareM (c :: t) = (setM t).map (fun r => (⟨false, r.1, false, r.2.1⟩, r.2.2)) := by
  have e : c.is 46 = false := by
    obtain ⟨b, p⟩ := c
    cases p
    · rfl
    · simp [Mk.is] at h ⊢; omega
  show (if c.is 46 then _ else if c.is 91 then _ else _) = _
  rw [e, h]; rfl
theorem bare_46 (c : Mk) (t : List Mk) (h : c.is 46 = true) : bareM (c :: t) = some (⟨true, false, false, []⟩, t) := by
  show (if c.is 46 then _ else _) = _
  rw [h]; rfl

set_option maxRecDepth 100000 in
set_option maxHeartbeats 2000000 in
theorem readBytes_calls (s : ByteArray) (k : Nat) (m : List Mk) (r : List UInt8) (w : World) (hs : s.size ≤ maxLen) (hk : k ≤ s.size) (hm : mksM (s.data.toList.drop k) = (m, r)) :
    Calls Try.prog 102 #[.string s, .int .i64 k] w fun e w' => BytesPost s k m r e ∧ Below w.heap.size w w' := by
  have HM : Hid (mksM (s.data.toList.drop k) = (m, r)) := hm
  have H47 : Hid (∀ q ∈ m, q.is 47 = false) := fun q hq => no47 (s.data.toList.drop k) q (by rw [hm]; exact hq)
  obtain ⟨h91, h91'⟩ := stB_mk _ 91 _ _ hm (by decide) (by decide) (by decide)
  obtain ⟨h46, h46'⟩ := stB_mk _ 46 _ _ hm (by decide) (by decide) (by decide)
  have H91 : Hid (stB (s.data.toList.drop k) 91 = hdIs m 91 ∧ (stB (s.data.toList.drop k) 91 = true → ∃ k' m', m = k' :: m' ∧ mksM ((s.data.toList.drop k).drop 1) = (m', r))) := ⟨h91, h91'⟩
  have H46 : Hid (stB (s.data.toList.drop k) 46 = hdIs m 46 ∧ (stB (s.data.toList.drop k) 46 = true → ∃ k' m', m = k' :: m' ∧ mksM ((s.data.toList.drop k).drop 1) = (m', r))) := ⟨h46, h46'⟩
  clear h91 h91' h46 h46' hm
  have hs' := hs
  unfold maxLen at hs'
  have hzv := (zero_of_info infoIt).1
  obtain ⟨g0, hg0⟩ : ∃ g, w.heap.size = g := ⟨_, rfl⟩
  rw [hg0]
  go_enter Try.func102, Try.ntmps102
  go_wp2_with fail
  have hb0 : BR (w.alloc (.cells (Array.replicate 257 (.bool false)) 119)) w.heap.size 257 (fun _ => false) := BR.new w _ 257
  have B0 : Below w.heap.size w (w.alloc (.cells (Array.replicate 257 (.bool false)) 119)) := (Below.refl _ _).alloc (Nat.le_refl _) _
  have hsz0 : (w.alloc (.cells (Array.replicate 257 (.bool false)) 119)).heap.size = w.heap.size + 1 := by simp
  generalize w.alloc (.cells (Array.replicate 257 (.bool false)) 119) = W at *
  rw [hg0] at hb0 B0 hsz0
  clear hg0
  refine (stands_calls s k 91 _ hs hk (by decide)).mono ?_
  rintro e w2 ⟨rfl, rfl⟩
  cases hb : stB (s.data.toList.drop k) 91
  · have HN91 : Hid (hdIs m 91 = false) := by show _ = _; rw [← H91.out.1]; exact hb
    clear hb
    go_wp2_with fail
    have hb1 : BR (w2.alloc (.cells (Array.replicate 257 (.bool false)) 119)) w2.heap.size 257 (fun _ => false) := BR.new w2 _ 257
    have hb01 : BR (w2.alloc (.cells (Array.replicate 257 (.bool false)) 119)) g0 257 (fun _ => false) := hb0.below ((Below.refl _ _).alloc (Nat.le_refl _) _) (by omega)
    have B1 : Below g0 w (w2.alloc (.cells (Array.replicate 257 (.bool false)) 119)) := B0.alloc (by omega) _
    generalize w2.alloc (.cells (Array.replicate 257 (.bool false)) 119) = W at *
    rw [hsz0] at hb1
    refine (stands_calls s k 46 _ hs hk (by decide)).mono ?_
    rintro e w3 ⟨rfl, rfl⟩
    cases hb2 : stB (s.data.toList.drop k) 46
    · have HN46 : Hid (hdIs m 46 = false) := by show _ = _; rw [← H46.out.1]; exact hb2
      have HBB : Hid (bareM m = bareT m) := bare_by m HN91.out HN46.out
      clear hb2
      go_wp2_with fail
      refine (byte_calls s k _ m r _ hs hk (by unfold maxLen; decide) (by decide) HM.out).mono ?_
      rintro e w4 ⟨hpost, rfl⟩
      have hpost2 : ByteP s k [47, 46, 42, 91, 93, 94, 36] m r e := hpost
      clear hpost
      rcases hpost2 with ⟨q, m', n, rfl, hq, hq2, hkn, hn, hm', rfl⟩ | ⟨hno, n, rfl, hn1, hn2⟩
      · rw [bar_bare q (H47.out q (by simp)) HN91.out HN46.out] at hq
        obtain ⟨x, hx⟩ : ∃ x, q.b = x := ⟨_, rfl⟩
        have HF : Hid (BytesPost s k (q :: m') r (.returned (.tuple #[itV (itF ⟨false, false, false, [(x, x)]⟩), .int .i64 n, .bool true]))) := .inl ⟨_, m', n, by
          rw [HBB.out]
          show (if (q.is 42 || q.is 93 || q.is 94 || q.is 36) = true then none else some ((⟨false, false, false, [(q.b, q.b)]⟩ : It), m')) = _
          rw [hq, hx]; rfl, hkn, hn, hm', rfl⟩
        rw [hx] at hq2 ⊢
        rw [itV_congr (fun i h => (one_it x i h hq2).symm)] at HF
        clear hx hq hm' HBB
        have hc := hb1.c x (by omega)
        have hf := hb1.fz x (by omega)
        have hx1 : (x : Int) < 256 := by omega
        have hb6 := hb1.set x (by omega) true
        have hb06 := hb01.keep (heap_setCell_other w4 ⟨g0 + 1, x, none⟩ g0 (.bool true) (by simp)) (by simp)
        have O6 := Only.set (g0 + 1) x (.bool true) w4
        go_wp2_with (first | refine it_load hb6 rfl _ rfl rfl ?_ | (refine it_store hb06 rfl _ _ rfl rfl _ rfl ?_; intro w7 hb7 O7))
        refine bodyPost_ret (results_item rfl _ _ _ _ rfl hb7) rfl ?_
        exact ⟨HF.out, (B1.trans (O6.below (by omega))).trans (O7.below (Nat.le_refl _))⟩
      · have HF : Hid (BytesPost s k m r (.returned (.tuple #[itV (fun _ => false), .int .i64 n, .bool false]))) := .inr ⟨by
          rw [HBB.out]
          rcases hno with rfl | ⟨q, v, rfl, hq⟩
          · rfl
          · rw [bar_bare q (H47.out q (by simp)) HN91.out HN46.out] at hq
            show (if (q.is 42 || q.is 93 || q.is 94 || q.is 36) = true then none else some ((⟨false, false, false, [(q.b, q.b)]⟩ : It), v)) = none
            rw [hq]; rfl, _, n, rfl⟩
        clear hno HBB
        go_wp2_with (first | refine it_load hb1 rfl _ rfl rfl ?_ | (refine it_store hb01 rfl _ _ rfl rfl _ rfl ?_; intro w7 hb7 O7))
        refine bodyPost_ret (results_item rfl _ _ _ _ rfl hb7) rfl ?_
        exact ⟨HF.out, B1.trans (O7.below (Nat.le_refl _))⟩
    · have hk1 := stB_size s k 46 hb2
      obtain ⟨q, m1, rfl, hm1⟩ := H46.out.2 hb2
      rw [List.drop_drop] at hm1
      have HF : Hid (BytesPost s k (q :: m1) r (.returned (.tuple #[itV (itF ⟨true, false, false, []⟩), .int .i64 ((k + 1 : Nat) : Int), .bool true]))) := .inl ⟨_, m1, k + 1, bare_46 q m1 (by rw [← hb2, H46.out.1]; rfl), by omega, hk1, hm1, rfl⟩
      rw [itV_congr (fun i h => (any_it i h).symm)] at HF
      clear hb2 hm1
      go_wp2_with fail
      refine (turn_calls _ _ _ hb1).mono ?_
      rintro e w4 ⟨rfl, hb4, O4⟩
      have hb04 := hb01.keep (O4.block _ (by omega)) (by rw [O4.size]; exact Nat.le_refl _)
      have B4 := B1.trans (O4.below (B := g0) (by omega))
      go_wp2_with (first | refine it_load hb4 rfl _ rfl rfl ?_ | (refine it_store hb04 rfl _ _ rfl rfl _ rfl ?_; intro w5 hb5 O5))
      refine bodyPost_ret (results_item rfl _ _ _ _ rfl hb5) rfl ?_
      exact ⟨HF.out, B4.trans (O5.below (Nat.le_refl _))⟩
  · have hk1 := stB_size s k 91 hb
    obtain ⟨q, m1, rfl, hm1⟩ := H91.out.2 hb
    have HQ : Hid (bareM (q :: m1) = (setM m1).map (fun r => (⟨false, r.1, false, r.2.1⟩, r.2.2))) := bare_91 q m1 (by rw [← hb, H91.out.1]; rfl)
    rw [List.drop_drop] at hm1
    have HM1 : Hid (mksM (s.data.toList.drop (k + 1)) = (m1, r)) := hm1
    clear hm1 H91 H46 hb
    go_wp2_with fail
    have HC := readMembers_calls s (k + 1) m1 r w2 hs hk1 HM1.out
    rw [show ((k + 1 : Nat) : Int) = (k : Int) + 1 from rfl] at HC
    refine HC.mono ?_
    clear HC
    rintro e w3 ⟨⟨no, acc, m', n, hset, hkn, hn, hm', rfl⟩ | ⟨hset, rfl⟩, B3⟩
    · have HF : Hid (BytesPost s k (q :: m1) r (.returned (.tuple #[itV (itF ⟨false, no, false, acc⟩), .int .i64 n, .bool true]))) := .inl ⟨_, m', n, by rw [HQ.out, hset]; rfl, by omega, hn, hm', rfl⟩
      clear hset hm'
      have hb3 := hb0.below B3 (by omega)
      go_wp2_with (refine it_store hb3 rfl _ _ rfl rfl _ rfl ?_; intro w5 hb5 O5)
      refine bodyPost_ret (results_item rfl _ _ _ _ rfl hb5) rfl ?_
      exact ⟨HF.out, (B0.trans (B3.mono (by omega))).trans (O5.below (Nat.le_refl _))⟩
    · have HF : Hid (BytesPost s k (q :: m1) r (.returned (.tuple #[itV (fun _ => false), .int .i64 ((k + 1 : Nat) : Int), .bool false]))) := .inr ⟨by rw [HQ.out, hset]; rfl, _, k + 1, rfl⟩
      clear hset
      have hb3 := hb0.below B3 (by omega)
      go_wp2_with (refine it_store hb3 rfl _ _ rfl rfl _ rfl ?_; intro w5 hb5 O5)
      refine bodyPost_ret (results_item rfl _ _ _ _ rfl hb5) rfl ?_
      exact ⟨HF.out, (B0.trans (B3.mono (by omega))).trans (O5.below (Nat.le_refl _))⟩

/-- an item -/
def ItmPost (s : ByteArray) (k : Nat) (m : List Mk) (r : List UInt8) (f : Nat → Bool) (v2 v3 : Value) : Prop :=
  (∃ (x : It) (m' : List Mk) (n : Nat), itemM m = some (x, m') ∧ k < n ∧ n ≤ s.size ∧ mksM (s.data.toList.drop n) = (m', r) ∧ f = itF x ∧ v2 = .int .i64 n ∧ v3 = .bool true) ∨
  (itemM m = none ∧ ∃ (n : Nat), v2 = .int .i64 n ∧ v3 = .bool false)
theorem itm_star (m m' : List Mk) (x : It) (h : bareM m = some (x, m')) : itemM m = some (if hdIs m' 42 then (⟨x.any, x.not, true, x.rng⟩, m'.drop 1) else (x, m')) := by
  unfold itemM
  rw [h]
  match m' with
  | [] => rfl
  | d :: u =>
    show some (starM (x, d :: u)) = some (if d.is 42 then _ else _)
    unfold starM
    rfl
theorem bare_star (m m' : List Mk) (x : It) (h : bareM m = some (x, m')) : x.star = false := by
  match m with
  | [] => simp [bareM] at h
  | c :: t =>
    have h' : (if c.is 46 then some ((⟨true, false, false, []⟩ : It), t) else if c.is 91 then (setM t).map (fun r => ((⟨false, r.1, false, r.2.1⟩ : It), r.2.2)) else if c.is 42 || c.is 93 || c.is 94 || c.is 36 then none else some (⟨false, false, false, [(c.b, c.b)]⟩, t)) = some (x, m') := h
    replace h := h'
    clear h'
    split at h
    · simp at h; rw [← h.1]
    · split at h
      · cases hset : setM t with
        | none => rw [hset] at h; cases h
        | some p => rw [hset] at h; simp at h; rw [← h.1]
      · split at h
        · cases h
        · simp only [Option.some.injEq, Prod.mk.injEq] at h; rw [← h.1]
theorem star_it (x : It) (hx : x.star = false) (i : Nat) : (if i = 256 then true else itF x i) = itF ⟨x.any, x.not, true, x.rng⟩ i := by
  unfold itF
  by_cases e : i = 256
  · rw [if_pos e, if_pos e]
  · rw [if_neg e, if_neg e, if_neg e]; rfl
set_option maxRecDepth 100000 in
set_option maxHeartbeats 2000000 in
theorem readItem_calls (s : ByteArray) (k : Nat) (m : List Mk) (r : List UInt8) (w : World) (hs : s.size ≤ maxLen) (hk : k ≤ s.size) (hm : mksM (s.data.toList.drop k) = (m, r)) :
    Calls Try.prog 91 #[.string s, .int .i64 k] w fun e w' => (∃ f v2 v3, e = .returned (.tuple #[itV f, v2, v3]) ∧ ItmPost s k m r f v2 v3) ∧ Below w.heap.size w w' := by
  have HM : Hid (mksM (s.data.toList.drop k) = (m, r)) := hm
  clear hm
  have hs' := hs
  unfold maxLen at hs'
  have hzv := (zero_of_info infoIt).1
  obtain ⟨g0, hg0⟩ : ∃ g, w.heap.size = g := ⟨_, rfl⟩
  rw [hg0]
  go_enter Try.func91, Try.ntmps91
  go_wp2_with fail
  have hb0 : BR (w.alloc (.cells (Array.replicate 257 (.bool false)) 119)) w.heap.size 257 (fun _ => false) := BR.new w _ 257
  have B0 : Below w.heap.size w (w.alloc (.cells (Array.replicate 257 (.bool false)) 119)) := (Below.refl _ _).alloc (Nat.le_refl _) _
  have hsz0 : (w.alloc (.cells (Array.replicate 257 (.bool false)) 119)).heap.size = w.heap.size + 1 := by simp
  generalize w.alloc (.cells (Array.replicate 257 (.bool false)) 119) = W at *
  rw [hg0] at hb0 B0 hsz0
  clear hg0
  refine (readBytes_calls s k m r W hs hk HM.out).mono ?_
  rintro e w2 ⟨hpost, B2⟩
  have hb2 := hb0.below B2 (by omega)
  have BB2 := B0.trans (B2.mono (by omega))
  have hsz2 : g0 < w2.heap.size := hb2.lt
  obtain ⟨g2, hg2⟩ : ∃ g, w2.heap.size = g := ⟨_, rfl⟩
  have hb3 : BR (w2.alloc (.cells (Array.replicate 257 (.bool false)) 119)) w2.heap.size 257 (fun _ => false) := BR.new w2 _ 257
  have hb03 : BR (w2.alloc (.cells (Array.replicate 257 (.bool false)) 119)) g0 257 (fun _ => false) := hb2.below ((Below.refl _ _).alloc (Nat.le_refl _) _) (by omega)
  have B3 : Below g0 w (w2.alloc (.cells (Array.replicate 257 (.bool false)) 119)) := BB2.alloc (by omega) _
  obtain ⟨W3, hW3⟩ : ∃ W3, w2.alloc (.cells (Array.replicate 257 (.bool false)) 119) = W3 := ⟨_, rfl⟩
  rw [hW3] at hb3 hb03 B3
  rw [hg2] at hb3
  rw [hg2] at hsz2
  clear hb0 B0 B2 hb2 BB2
  rcases hpost with ⟨x, m', n, hbare, hkn, hn, hm', rfl⟩ | ⟨hbare, f, n, rfl⟩
  · have HI : Hid (itemM m = some (if hdIs m' 42 then (⟨x.any, x.not, true, x.rng⟩, m'.drop 1) else (x, m'))) := itm_star m m' x hbare
    have HXS : Hid (x.star = false) := bare_star m m' x hbare
    have HM' : Hid (mksM (s.data.toList.drop n) = (m', r)) := hm'
    clear hbare hm'
    go_wp2_with (refine it_store hb3 rfl _ _ rfl rfl _ rfl ?_; intro w4 hb4 O4)
    have hb04 := hb03.keep (O4.block _ (by omega)) (by rw [O4.size]; exact Nat.le_refl _)
    have B4 := B3.trans (O4.below (B := g0) (by omega))
    refine (stands_calls s n 42 _ hs hn (by decide)).mono ?_
    rintro e w5 ⟨rfl, rfl⟩
    obtain ⟨h42, h42'⟩ := stB_mk _ 42 _ _ HM'.out (by decide) (by decide) (by decide)
    cases hb : stB (s.data.toList.drop n) 42
    · have HF : Hid (ItmPost s k m r (itF x) (.int .i64 n) (.bool true)) := .inl ⟨x, m', n, by rw [HI.out, ← h42, hb]; rfl, hkn, hn, HM'.out, rfl, rfl, rfl⟩
      clear h42 h42' hb
      go_wp2_with (first | refine it_load hb4 rfl _ rfl rfl ?_ | (refine it_store hb04 rfl _ _ rfl rfl _ rfl ?_; intro w6 hb6 O6))
      refine bodyPost_ret (results_item rfl _ _ _ _ rfl hb6) rfl ?_
      exact ⟨⟨_, _, _, rfl, HF.out⟩, B4.trans (O6.below (Nat.le_refl _))⟩
    · have hn1 := stB_size s n 42 hb
      obtain ⟨q, m3, hq, hm3⟩ := h42' hb
      rw [List.drop_drop] at hm3
      have HF : Hid (ItmPost s k m r (itF ⟨x.any, x.not, true, x.rng⟩) (.int .i64 ((n + 1 : Nat) : Int)) (.bool true)) := .inl ⟨_, m3, n + 1, by rw [HI.out, ← h42, hb, hq]; rfl, by omega, hn1, hm3, rfl, rfl, rfl⟩
      clear h42 h42' hb hq hm3
      have hc := hb4.c 256 (by omega)
      have hf := hb4.fz 256 (by omega)
      have hb6 := (hb4.set 256 (by omega) true).congr (fun i _ => star_it x HXS.out i)
      have hb06 := hb04.keep (heap_setCell_other w5 ⟨g2, 256, none⟩ g0 (.bool true) (by simp; omega)) (by simp)
      have O6 := Only.set g2 256 (.bool true) w5
      go_wp2_with (first | refine it_load hb6 rfl _ rfl rfl ?_ | (refine it_store hb06 rfl _ _ rfl rfl _ rfl ?_; intro w7 hb7 O7))
      refine bodyPost_ret (results_item rfl _ _ _ _ rfl hb7) rfl ?_
      exact ⟨⟨_, _, _, rfl, HF.out⟩, (B4.trans (O6.below (by omega))).trans (O7.below (Nat.le_refl _))⟩
  · have HF : Hid (ItmPost s k m r f (.int .i64 n) (.bool false)) := .inr ⟨by unfold itemM; rw [hbare]; rfl, n, rfl, rfl⟩
    clear hbare
    go_wp2_with (first | (refine it_store hb3 rfl _ _ rfl rfl _ rfl ?_; intro w4 hb4 O4; have hb04 := hb03.keep (O4.block _ (by omega)) (by rw [O4.size]; exact Nat.le_refl _)) | refine it_load hb4 rfl _ rfl rfl ?_ | (refine it_store hb04 rfl _ _ rfl rfl _ rfl ?_; intro w6 hb6 O6))
    refine bodyPost_ret (results_item rfl _ _ _ _ rfl hb6) rfl ?_
    exact ⟨⟨_, _, _, rfl, HF.out⟩, (B3.trans (O4.below (by omega))).trans (O6.below (Nat.le_refl _))⟩
end Go.Proofs.Ytlppphmnegdhoaa
