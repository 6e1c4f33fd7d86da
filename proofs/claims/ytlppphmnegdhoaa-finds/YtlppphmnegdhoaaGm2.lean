/-
  The program's matches: layMany, layAhead.
-/
import Derived.Test.YtlppphmnegdhoaaGm1
namespace Go.Proofs.Ytlppphmnegdhoaa
set_option linter.unusedVariables false
set_option maxRecDepth 100000
open Go.RowKit
open M

def manyAt (f : Nat → Bool) (s : List UInt8) (e : Nat → Int) : Nat → Int
  | 0 => e s.length
  | d + 1 => if f ((s.getD (s.length - (d + 1)) 0).toNat) = true ∧ e (s.length - (d + 1)) < manyAt f s e d then manyAt f s e d else e (s.length - (d + 1))
def manyE (f : Nat → Bool) (s : List UInt8) (e : Nat → Int) (p : Nat) : Int := manyAt f s e (s.length - p)
theorem manyE_end (f : Nat → Bool) (s : List UInt8) (e : Nat → Int) : manyE f s e s.length = e s.length := by unfold manyE; rw [Nat.sub_self]; rfl
theorem manyE_step (f : Nat → Bool) (s : List UInt8) (e : Nat → Int) (p : Nat) (h : p < s.length) : manyE f s e p = if f s[p].toNat = true ∧ e p < manyE f s e (p + 1) then manyE f s e (p + 1) else e p := by
  unfold manyE
  obtain ⟨d, hd⟩ : ∃ d, s.length - p = d + 1 := ⟨s.length - p - 1, by omega⟩
  have h1 : s.length - (p + 1) = d := by omega
  have h2 : s.length - (d + 1) = p := by omega
  have e1 : s.getD p 0 = s[p] := by rw [List.getD_eq_getElem?_getD, List.getElem?_eq_getElem h]; rfl
  rw [hd, h1]
  show (if f ((s.getD (s.length - (d + 1)) 0).toNat) = true ∧ e (s.length - (d + 1)) < manyAt f s e d then manyAt f s e d else e (s.length - (d + 1))) = _
  rw [h2, e1]
theorem drewN_only (g : Nat) (w : World) (n : Nat) : Only g w (w.drewN n) := ⟨rfl, rfl, rfl, rfl, fun _ _ => rfl⟩
set_option maxRecDepth 100000 in
set_option maxHeartbeats 4000000 in
theorem layMany_calls (b g c : Nat) (s : ByteArray) (f : Nat → Bool) (e : Nat → Int) (w : World) (hs : s.size ≤ 256) (hb : MB w b s (.slice (some ⟨g, 0, none⟩) (s.size + 1) c)) (hr : IR w g (s.size + 1) e) (hbg : b ≠ g) :
    Calls Try.prog 110 #[.pointer (some ⟨b, 0, none⟩), itV f] w fun x w' => x = .returned (.tuple #[]) ∧ IR w' g (s.size + 1) (manyE f s.data.toList e) ∧ Apart g w w' := by
  have hl := ba_len s
  have HL : Hid (s.data.toList.length = s.size) := hl
  clear hl
  have hgl := hr.lt
  have hbl := hb.lt
  go_enter Try.func110, Try.ntmps110
  go_upto_region 1 with (refine it_box rfl _ rfl f rfl ?_; intro w1 hb1 B1 hs1)
  obtain ⟨gi, hgi⟩ : ∃ gi, w.heap.size = gi := ⟨_, rfl⟩
  have HA0 : Hid (MB w1 b s (.slice (some ⟨g, 0, none⟩) (s.size + 1) c) ∧ IR w1 g (s.size + 1) e ∧ BR w1 gi 257 f ∧ Apart g w w1) :=
    ⟨hb.keep (B1.block _ hbl) (by omega), hr.keep (B1.block _ hgl) (by omega), by rw [← hgi]; exact hb1, Apart.of_below B1⟩
  rw [hgi] at hgl hbl
  clear hb hr hb1 B1 hs1
  obtain ⟨hm1, hm2, hm3⟩ := HA0.out.1
  go_wp2_with fail
  go_loopw [4] (fun v4 wr => ∃ p : Nat, p ≤ s.size ∧ v4 = .int .i64 ((p : Int) - 1) ∧ Hid (MB wr b s (.slice (some ⟨g, 0, none⟩) (s.size + 1) c) ∧ IR wr g (s.size + 1) (fun q => if p ≤ q then manyE f s.data.toList e q else e q) ∧ BR wr gi 257 f ∧ Apart g w wr)) (fun v4 _ => (intOf v4 + 1).toNat)
  case atStart =>
    refine ⟨s.size, Nat.le_refl _, rfl, HA0.out.1, HA0.out.2.1.congr (fun i hi => ?_), HA0.out.2.2⟩
    by_cases h : s.size ≤ i
    · rw [if_pos h]
      obtain rfl : i = s.size := by omega
      have := manyE_end f s.data.toList e
      rw [HL.out] at this
      exact this.symm
    · rw [if_neg h]
  case round =>
    clear HA0 hm1 hm2 hm3
    obtain ⟨pp, hps, rfl, HB⟩ := hrel
    obtain ⟨hy, y0, y1⟩ := HB.out.1
    by_cases hlt : 0 < pp
    · obtain ⟨p, rfl⟩ : ∃ p, pp = p + 1 := ⟨pp - 1, by omega⟩
      have ep : (((p + 1 : Nat) : Int) - 1) = (p : Int) := by omega
      rw [ep]
      clear ep
      have h0 : (0 : Int) ≤ (p : Int) := by omega
      have hlt1 : (p : Int) < (s.size : Int) := by omega
      have hlt2 : (p : Int) < (s.size : Int) + 1 := by omega
      have hlt3 : (p : Int) + 1 < (s.size : Int) + 1 := by omega
      have z0 := HB.out.2.1.c p (by omega)
      rw [if_neg (by omega)] at z0
      have z1 := HB.out.2.1.fz p (by omega)
      have z2 := HB.out.2.1.c (p + 1) (by omega)
      rw [if_pos (Nat.le_refl _)] at z2
      obtain ⟨x, hx⟩ : ∃ x : Nat, s[p].toNat = x := ⟨_, rfl⟩
      have hxc : x < 256 := by rw [← hx]; exact s[p].toNat_lt
      have hxc1 : (x : Int) < 256 := by omega
      have z3 := HB.out.2.2.1.c x (by omega)
      have HX : Hid (manyE f s.data.toList e p = if f x = true ∧ e p < manyE f s.data.toList e (p + 1) then manyE f s.data.toList e (p + 1) else e p) := by
        show _ = _
        rw [manyE_step f s.data.toList e p (by rw [HL.out]; omega), ← hx]; rfl
      have HN : Hid (∀ wx, Only g wr wx → MB wx b s (.slice (some ⟨g, 0, none⟩) (s.size + 1) c) ∧ IR wx g (s.size + 1) (fun q => if p + 1 ≤ q then manyE f s.data.toList e q else e q) → True) := fun _ _ _ => trivial
      obtain ⟨E1, hE1⟩ : ∃ E1, manyE f s.data.toList e (p + 1) = E1 := ⟨_, rfl⟩
      obtain ⟨E0, hE0⟩ : ∃ E0, e p = E0 := ⟨_, rfl⟩
      rw [hE1] at z2 HX
      rw [hE0] at z0 HX
      have HE0 : Hid (e p = E0) := hE0
      clear hE0 hE1 HN
      cases hf : f x
      · rw [hf] at z3
        have HX2 : Hid (manyE f s.data.toList e p = E0) := by show _ = _; rw [HX.out, hf, if_neg (by simp)]
        clear HX hf
        go_wp2_with fail
        go_quiet (fail)
        go_wp2
        go_roundw
        case rel =>
          refine ⟨p, by omega, by first | rfl | go_num, HB.out.1.keep (w' := wr.drewN nq) rfl (Nat.le_refl _), (HB.out.2.1.keep (w' := wr.drewN nq) rfl (Nat.le_refl _)).congr (fun i _ => ?_), HB.out.2.2.1.keep (w' := wr.drewN nq) rfl (Nat.le_refl _), HB.out.2.2.2.trans (Apart.of_only (drewN_only g _ _))⟩
          by_cases e1 : i = p
          · rw [if_neg (by omega), if_pos (by omega), e1, HX2.out]; exact HE0.out
          · by_cases e2 : p + 1 ≤ i
            · rw [if_pos e2, if_pos (by omega)]
            · rw [if_neg e2, if_neg (by omega)]
        case measure => simp [intOf]
      · rw [hf] at z3
        by_cases hgt : E0 < E1
        · have HX2 : Hid (manyE f s.data.toList e p = E1) := by show _ = _; rw [HX.out, hf, if_pos ⟨rfl, hgt⟩]
          clear HX hf
          go_wp2_with fail
          go_quiet (fail)
          have HW : Hid (MB (wr.drewN nq) b s (.slice (some ⟨g, 0, none⟩) (s.size + 1) c) ∧ IR (wr.drewN nq) g (s.size + 1) (fun q => if p + 1 ≤ q then manyE f s.data.toList e q else e q) ∧ BR (wr.drewN nq) gi 257 f ∧ Apart g w (wr.drewN nq)) :=
            ⟨HB.out.1.keep rfl (Nat.le_refl _), HB.out.2.1.keep rfl (Nat.le_refl _), HB.out.2.2.1.keep rfl (Nat.le_refl _), HB.out.2.2.2.trans (Apart.of_only (drewN_only g _ _))⟩
          have z0' : (wr.drewN nq).cell? ⟨g, p, none⟩ = some (.int .i64 E0) := z0
          have z1' : (wr.drewN nq).frozen? ⟨g, p, none⟩ = false := z1
          have z2' : (wr.drewN nq).cell? ⟨g, p + 1, none⟩ = some (.int .i64 E1) := z2
          have y0' : (wr.drewN nq).cell? ⟨b, 0, none⟩ = some (.string s) := y0
          have y1' : (wr.drewN nq).cell? ⟨b, 1, none⟩ = some (.slice (some ⟨g, 0, none⟩) (s.size + 1) c) := y1
          clear z0 z1 z2 z3 y0 y1 hy HB
          generalize wr.drewN nq = W at *
          go_wp2_with fail
          go_region
          go_wp2
          go_roundw
          case rel =>
            refine ⟨p, by omega, by first | rfl | go_num, HW.out.1.keep (heap_setCell_other _ _ _ _ hbg) (by simp), (HW.out.2.1.drew.set p (by omega) E1).congr (fun i _ => ?_), HW.out.2.2.1.keep (heap_setCell_other _ _ _ _ (by simp; omega)) (by simp), HW.out.2.2.2.trans (Apart.of_only ((Only.refl g W).drew.trans (Only.set _ _ _ _)))⟩
            by_cases e1 : i = p
            · rw [if_pos e1, if_pos (by omega), e1, HX2.out]
            · rw [if_neg e1]
              by_cases e2 : p + 1 ≤ i
              · rw [if_pos e2, if_pos (by omega)]
              · rw [if_neg e2, if_neg (by omega)]
          case measure => simp [intOf]
        · have HX2 : Hid (manyE f s.data.toList e p = E0) := by show _ = _; rw [HX.out, if_neg (fun h => hgt h.2)]
          clear HX hf
          go_wp2_with fail
          go_quiet (fail)
          go_wp2
          go_roundw
          case rel =>
            refine ⟨p, by omega, by first | rfl | go_num, HB.out.1.keep (w' := wr.drewN nq) rfl (Nat.le_refl _), (HB.out.2.1.keep (w' := wr.drewN nq) rfl (Nat.le_refl _)).congr (fun i _ => ?_), HB.out.2.2.1.keep (w' := wr.drewN nq) rfl (Nat.le_refl _), HB.out.2.2.2.trans (Apart.of_only (drewN_only g _ _))⟩
            by_cases e1 : i = p
            · rw [if_neg (by omega), if_pos (by omega), e1, HX2.out]; exact HE0.out
            · by_cases e2 : p + 1 ≤ i
              · rw [if_pos e2, if_pos (by omega)]
              · rw [if_neg e2, if_neg (by omega)]
          case measure => simp [intOf]
    · obtain rfl : pp = 0 := by omega
      go_wp2
      go_end0
      exact ⟨rfl, HB.out.2.1.congr (fun i _ => by rw [if_pos (by omega)]), HB.out.2.2.2⟩

def layE (x : It) (s : List UInt8) (e : Nat → Int) : Nat → Int := if x.star then manyE (itF x) s e else oneE (itF x) s e
set_option maxRecDepth 100000 in
set_option maxHeartbeats 4000000 in
theorem layAhead_calls (b g c : Nat) (s : ByteArray) (x : It) (e : Nat → Int) (w : World) (hs : s.size ≤ 256) (hb : MB w b s (.slice (some ⟨g, 0, none⟩) (s.size + 1) c)) (hr : IR w g (s.size + 1) e) (hbg : b ≠ g) :
    Calls Try.prog 103 #[.pointer (some ⟨b, 0, none⟩), itV (itF x)] w fun y w' => y = .returned (.tuple #[]) ∧ IR w' g (s.size + 1) (layE x s.data.toList e) ∧ Apart g w w' := by
  have hgl := hr.lt
  have hbl := hb.lt
  go_enter Try.func103, Try.ntmps103
  go_upto_region 1 with (refine it_box rfl _ rfl (itF x) rfl ?_; intro w1 hb1 B1 hs1)
  have hbw := hb.keep (B1.block _ hbl) (by omega)
  have hrw := hr.keep (B1.block _ hgl) (by omega)
  have hst := hb1.c 256 (by omega)
  have e256 : itF x 256 = x.star := rfl
  rw [e256] at hst
  clear hb hr
  cases hx : x.star
  · rw [hx] at hst
    have HL : Hid (layE x s.data.toList e = oneE (itF x) s.data.toList e) := by show _ = _; unfold layE; rw [hx]; rfl
    clear hx e256
    go_wp2_with (refine it_load hb1 rfl _ rfl rfl ?_)
    refine (layOne_calls b g c s (itF x) e w1 hs hbw hrw hbg).mono ?_
    rintro y w2 ⟨rfl, hr2, hA2⟩
    go_wp2
    go_end0
    exact ⟨rfl, by rw [HL.out]; exact hr2, (Apart.of_below B1).trans hA2⟩
  · rw [hx] at hst
    have HL : Hid (layE x s.data.toList e = manyE (itF x) s.data.toList e) := by show _ = _; unfold layE; rw [hx]; rfl
    clear hx e256
    go_wp2_with (refine it_load hb1 rfl _ rfl rfl ?_)
    refine (layMany_calls b g c s (itF x) e w1 hs hbw hrw hbg).mono ?_
    rintro y w2 ⟨rfl, hr2, hA2⟩
    go_wp2
    go_end0
    exact ⟨rfl, by rw [HL.out]; exact hr2, (Apart.of_below B1).trans hA2⟩
/-- one item more -/
theorem gre_lay (tl : Bool) (l : List It) (s : List UInt8) (k : Nat) (hk : k < l.length) (e : Nat → Int) (h : ∀ p, p ≤ s.length → Gre tl l s (k + 1) p (e p)) : ∀ p, p ≤ s.length → Gre tl l s k p (layE l[k] s e p) := by
  have hit : ∀ c : UInt8, itF l[k] c.toNat = hasI l[k] c.toNat := fun c => by
    unfold itF; rw [if_neg (by have := c.toNat_lt; omega)]
  unfold layE
  cases hs : l[k].star
  · intro p hp
    show Gre tl l s k p (oneE (itF l[k]) s e p)
    unfold oneE
    by_cases hlt : p < s.length
    · rw [dif_pos hlt, hit]
      exact gre_one tl l s k p _ hk hs hlt (h (p + 1) hlt)
    · rw [dif_neg hlt]
      obtain rfl : p = s.length := by omega
      exact gre_one_end tl l s k hk hs
  · have main : ∀ d p, s.length - p = d → p ≤ s.length → Gre tl l s k p (manyE (itF l[k]) s e p) := by
      intro d
      induction d with
      | zero =>
        intro p hd hp
        obtain rfl : p = s.length := by omega
        rw [manyE_end]
        exact gre_many_end tl l s k _ hk hs (h _ (Nat.le_refl _))
      | succ d ih =>
        intro p hd hp
        rw [manyE_step _ s e p (by omega), hit]
        exact gre_many tl l s k p _ _ hk hs (by omega) (h p hp) (ih (p + 1) (by omega) (by omega))
    exact fun p hp => main _ p rfl hp
end Go.Proofs.Ytlppphmnegdhoaa
