/-
  The document's expressions: the walk of 'item'.
-/
import Derived.Test.YtlppphmnegdhoaaFx5
import Derived.Deep.CutBlock
namespace Go.Proofs.Ytlppphmnegdhoaa
set_option linter.unusedVariables false
set_option maxRecDepth 100000
open Go.RowKit
open M

/-- the bytes that begin no item -/
def badI (m : Mk) : Bool := m.is 42 || m.is 93 || m.is 94 || m.is 36
theorem bare_any (m : Mk) (t : List Mk) (h : m.is 46 = true) : bareM (m :: t) = some (⟨true, false, false, []⟩, t) := by simp [bareM, h]
theorem bare_set (m : Mk) (t : List Mk) (h : m.is 46 = false) (h2 : m.is 91 = true) : bareM (m :: t) = (setM t).map (fun r => (⟨false, r.1, false, r.2.1⟩, r.2.2)) := by simp [bareM, h, h2]
theorem bare_bad (m : Mk) (t : List Mk) (h : m.is 46 = false) (h2 : m.is 91 = false) (h3 : badI m = true) : bareM (m :: t) = none := by
  have e : bareM (m :: t) = if badI m then none else some (⟨false, false, false, [(m.b, m.b)]⟩, t) := by simp only [bareM, h, h2]; rfl
  rw [e, h3]; rfl
theorem bare_one (m : Mk) (t : List Mk) (h : m.is 46 = false) (h2 : m.is 91 = false) (h3 : badI m = false) : bareM (m :: t) = some (⟨false, false, false, [(m.b, m.b)]⟩, t) := by
  have e : bareM (m :: t) = if badI m then none else some (⟨false, false, false, [(m.b, m.b)]⟩, t) := by simp only [bareM, h, h2]; rfl
  rw [e, h3]; rfl
theorem item_star (l : List Mk) (k q : Nat) (an nt : Bool) (rng : List (Nat × Nat)) (h : bareM (l.drop k) = some (⟨an, nt, false, rng⟩, l.drop q)) (hq : q < l.length) (hs : l[q].is 42 = true) : itemM (l.drop k) = some (⟨an, nt, true, rng⟩, l.drop (q + 1)) := by
  have e := getM hq
  unfold itemM
  rw [h]
  simp only [Option.map_some, starM, e, hs, if_true]
theorem item_plain (l : List Mk) (k q : Nat) (an nt : Bool) (rng : List (Nat × Nat)) (h : bareM (l.drop k) = some (⟨an, nt, false, rng⟩, l.drop q)) (hs : ∀ hq : q < l.length, l[q].is 42 = false) : itemM (l.drop k) = some (⟨an, nt, false, rng⟩, l.drop q) := by
  unfold itemM
  rw [h]
  by_cases hq : q < l.length
  · have e := getM hq
    have e2 := hs hq
    simp only [Option.map_some, starM, e, e2]
    rfl
  · have e : l.drop q = [] := List.drop_of_length_le (by omega)
    simp only [Option.map_some, starM, e]
theorem item_none (l : List Mk) (k : Nat) (h : bareM (l.drop k) = none) : itemM (l.drop k) = none := by unfold itemM; rw [h]; rfl

/-- the box of an item, written over -/
def putI (w : World) (b : Nat) (a n s : Bool) (vf vb : Value) : World := ((((w.setCell ⟨b, 0, none⟩ (.bool a)).setCell ⟨b, 1, none⟩ (.bool n)).setCell ⟨b, 2, none⟩ (.bool s)).setCell ⟨b, 3, none⟩ vf).setCell ⟨b, 4, none⟩ vb
theorem ItBox.put {b : Nat} {w : World} {a n s : Bool} {vf vb : Value} (h : ItBox b w a n s vf vb) (a' n' s' : Bool) (vf' vb' : Value) : ItBox b (putI w b a' n' s' vf' vb') a' n' s' vf' vb' := ((((h.set0 a').set1 n').set2 s').set3 vf').set4 vb'
theorem putI_far {b k : Nat} (w : World) (a n s : Bool) (vf vb : Value) (h : k ≠ b) : (putI w b a n s vf vb).heap[k]? = w.heap[k]? := by
  unfold putI
  rw [heap_setCell_other _ _ _ _ h, heap_setCell_other _ _ _ _ h, heap_setCell_other _ _ _ _ h, heap_setCell_other _ _ _ _ h, heap_setCell_other _ _ _ _ h]
theorem putI_below {B b : Nat} {w0 w : World} (h : Below B w0 w) (a n s : Bool) (vf vb : Value) (hb : B ≤ b) : Below B w0 (putI w b a n s vf vb) :=
  ((((h.setCell (by exact hb) _).setCell (by exact hb) _).setCell (by exact hb) _).setCell (by exact hb) _).setCell (by exact hb) _
theorem IInv.put {w wr : World} {vf vb : Value} {F K : List Int} {a0 n0 s0 : Bool} {v0 v1 : Value} {F0 K0 : List Int} (h : IInv w wr a0 n0 s0 v0 v1 F0 K0) (t : Twin (w.heap.size + 2) wr vf vb F K) (a n s : Bool) : IInv w (putI wr (w.heap.size + 1) a n s vf vb) a n s vf vb F K := by
  refine ⟨h.res.keep (putI_far _ _ _ _ _ _ (by omega)), h.box.put a n s vf vb, ?_, putI_below h.below a n s vf vb (by omega), ?_⟩
  · exact ((((t.set (by simp) _).set (by simp) _).set (by simp) _).set (by simp) _).set (by simp) _
  · have := h.size; unfold putI; simpa using this

set_option maxRecDepth 100000 in
set_option maxHeartbeats 8000000 in
theorem item_calls (n c : Nat) (ad : Option Addr) (l : List Mk) (k : Nat) (w : World) (hat : MarksAt w ad n l) (hln : l.length ≤ 8192) (hk : k < l.length) :
    Calls Try.prog 94 #[.slice ad n c, .int .i64 k] w fun e w' => ItemPost l k w w' e := by
  have hn := hat.len
  subst hn
  have hk1 : (k : Int) < (l.length : Int) := by omega
  obtain ⟨b, off, rfl, hb, d0, d1⟩ := hat.get hk
  obtain ⟨m, hmm⟩ : ∃ m, l[k] = m := ⟨_, rfl⟩
  have HD : Hid (l.drop k = m :: l.drop (k + 1)) := by show _ = _; rw [← hmm]; exact getM hk
  rw [hmm] at d0 d1
  clear hmm
  go_enter Try.func94, Try.ntmps94
  go_upto_block 0 with fail
  have hi0 : IInv w (((w.alloc (.cells #[.bool false, .bool false, .bool false, .slice none 0 0, .slice none 0 0] 127)).alloc (.cells #[.bool false, .bool false, .bool false, .slice none 0 0, .slice none 0 0] 127)).alloc (.cells #[.int .i64 (m.b : Int), .bool m.p] 124)) false false false (.slice none 0 0) (.slice none 0 0) [] [] := by
    refine ⟨?_, ?_, ⟨World.ownsRow_nil _ _ _ _, World.ownsRow_nil _ _ _ _, fun g h => by cases h⟩, (((Below.refl _ _).alloc (Nat.le_refl _) _).alloc (by simp) _).alloc (by simp; omega) _, by simp⟩
    · constructor <;> simp [go_sem]
    · constructor <;> simp [go_sem]
  have j0 : (((w.alloc (.cells #[.bool false, .bool false, .bool false, .slice none 0 0, .slice none 0 0] 127)).alloc (.cells #[.bool false, .bool false, .bool false, .slice none 0 0, .slice none 0 0] 127)).alloc (.cells #[.int .i64 (m.b : Int), .bool m.p] 124)).cell? ⟨w.heap.size + 1 + 1, 0, none⟩ = some (.int .i64 (m.b : Int)) := by simp [go_sem]
  have j1 : (((w.alloc (.cells #[.bool false, .bool false, .bool false, .slice none 0 0, .slice none 0 0] 127)).alloc (.cells #[.bool false, .bool false, .bool false, .slice none 0 0, .slice none 0 0] 127)).alloc (.cells #[.int .i64 (m.b : Int), .bool m.p] 124)).cell? ⟨w.heap.size + 1 + 1, 1, none⟩ = some (.bool m.p) := by simp [go_sem]
  have hs0 : w.heap.size + 1 + 1 < (((w.alloc (.cells #[.bool false, .bool false, .bool false, .slice none 0 0, .slice none 0 0] 127)).alloc (.cells #[.bool false, .bool false, .bool false, .slice none 0 0, .slice none 0 0] 127)).alloc (.cells #[.int .i64 (m.b : Int), .bool m.p] 124)).heap.size := by simp
  generalize (((w.alloc (.cells #[.bool false, .bool false, .bool false, .slice none 0 0, .slice none 0 0] 127)).alloc (.cells #[.bool false, .bool false, .bool false, .slice none 0 0, .slice none 0 0] 127)).alloc (.cells #[.int .i64 (m.b : Int), .bool m.p] 124)) = W at hi0 j0 j1 hs0 ⊢
  clear d0 d1
  go_cut [7] (fun nx wx => ∃ (an nt : Bool) (vf vb : Value) (rng : List (Nat × Nat)) (q : Nat), nx = .int .i64 q ∧ k < q ∧ q ≤ l.length ∧ IInv w wx an nt false vf vb (los rng) (his rng) ∧ Hid (bareM (l.drop k) = some (⟨an, nt, false, rng⟩, l.drop q)))
  case first =>
    have i00 := j0
    have i10 := j1
    clear j0 j1
    go_wp2_with fail
    refine (is_calls m 46 _).mono ?_
    rintro e w1 ⟨rfl, b1⟩
    have hi1 := hi0.keep b1
    have i01 := (b1.cell (by exact hs0)).trans i00
    have i11 := (b1.cell (by exact hs0)).trans i10
    have hs1 : w.heap.size + 1 + 1 < w1.heap.size := by have := b1.size; omega
    clear hi0 i00 i10 hs0 b1
    cases h46 : m.is 46
    · go_wp2_with fail
      refine (is_calls m 91 _).mono ?_
      rintro e w2 ⟨rfl, b2⟩
      have hi2 := hi1.keep b2
      have i02 := (b2.cell (by exact hs1)).trans i01
      have i12 := (b2.cell (by exact hs1)).trans i11
      have hs2 : w.heap.size + 1 + 1 < w2.heap.size := by have := b2.size; omega
      clear hi1 i01 i11 hs1 b2
      cases h91 : m.is 91
      · go_wp2_with fail
        refine (is_calls m 42 _).mono ?_
        rintro e w3 ⟨rfl, b3⟩
        have hi3 := hi2.keep b3
        have i03 := (b3.cell (by exact hs2)).trans i02
        have i13 := (b3.cell (by exact hs2)).trans i12
        have hs3 : w.heap.size + 1 + 1 < w3.heap.size := by have := b3.size; omega
        clear hi2 i02 i12 hs2 b3
        cases h42 : m.is 42
        · go_wp2_with fail
          refine (is_calls m 93 _).mono ?_
          rintro e w4 ⟨rfl, b4⟩
          have hi4 := hi3.keep b4
          have i04 := (b4.cell (by exact hs3)).trans i03
          have i14 := (b4.cell (by exact hs3)).trans i13
          have hs4 : w.heap.size + 1 + 1 < w4.heap.size := by have := b4.size; omega
          clear hi3 i03 i13 hs3 b4
          cases h93 : m.is 93
          · go_wp2_with fail
            refine (is_calls m 94 _).mono ?_
            rintro e w5 ⟨rfl, b5⟩
            have hi5 := hi4.keep b5
            have i05 := (b5.cell (by exact hs4)).trans i04
            have i15 := (b5.cell (by exact hs4)).trans i14
            have hs5 : w.heap.size + 1 + 1 < w5.heap.size := by have := b5.size; omega
            clear hi4 i04 i14 hs4 b5
            cases h94 : m.is 94
            · go_wp2_with fail
              refine (is_calls m 36 _).mono ?_
              rintro e w6 ⟨rfl, b6⟩
              have hi6 := hi5.keep b6
              have i06 := (b6.cell (by exact hs5)).trans i05
              have i16 := (b6.cell (by exact hs5)).trans i15
              have hs6 : w.heap.size + 1 + 1 < w6.heap.size := by have := b6.size; omega
              clear hi5 i05 i15 hs5 b6
              cases h36 : m.is 36
              · have HB : Hid (bareM (l.drop k) = some (⟨false, false, false, [(m.b, m.b)]⟩, l.drop (k + 1))) := by
                  show _ = _
                  rw [HD.out, bare_one m _ h46 h91 (by simp [badI, h42, h93, h94, h36])]
                have ho := hi6.one m.b
                obtain ⟨x0, x1, x2, x3, x4, p0, p1, p2, p3, p4⟩ := hi6.box
                have hszB := hi6.size
                have hlt7 : w.heap.size + 1 < w6.heap.size := by omega
                have hlt8 : w.heap.size + 1 < w6.heap.size + 1 := by omega
                clear HD h46 h91 h42 h93 h94 h36
                go_wp2
                go_meet
                exact ⟨false, false, _, _, [(m.b, m.b)], k + 1, by go_num, by omega, by omega, ho, HB.out⟩
              · have HF : Hid (itemM (l.drop k) = none) := item_none l k (by rw [HD.out]; exact bare_bad m _ h46 h91 (by simp [badI, h36]))
                obtain ⟨x0, x1, x2, x3, x4, p0, p1, p2, p3, p4⟩ := hi6.box
                obtain ⟨r0, r1, r2, r3, r4, o0, o1, o2, o3, o4⟩ := hi6.res
                have hszB := hi6.size
                clear HD
                go_wp2
                refine bodyPost_ret (v := .tuple #[.agg #[.bool false, .bool false, .bool false, .slice none 0 0, .slice none 0 0], .int .i64 (-1)]) (by simp [results, Try.results94, go_sem, r0, r1, r2, r3, r4]) rfl ⟨false, false, false, .slice none 0 0, .slice none 0 0, hi6.fin.2, ⟨_, _, _, _, _, _, rfl, rfl⟩, .inl ⟨HF.out, rfl⟩⟩
            · have HF : Hid (itemM (l.drop k) = none) := item_none l k (by rw [HD.out]; exact bare_bad m _ h46 h91 (by simp [badI, h94]))
              obtain ⟨x0, x1, x2, x3, x4, p0, p1, p2, p3, p4⟩ := hi5.box
              obtain ⟨r0, r1, r2, r3, r4, o0, o1, o2, o3, o4⟩ := hi5.res
              have hszB := hi5.size
              clear HD
              go_wp2
              refine bodyPost_ret (v := .tuple #[.agg #[.bool false, .bool false, .bool false, .slice none 0 0, .slice none 0 0], .int .i64 (-1)]) (by simp [results, Try.results94, go_sem, r0, r1, r2, r3, r4]) rfl ⟨false, false, false, .slice none 0 0, .slice none 0 0, hi5.fin.2, ⟨_, _, _, _, _, _, rfl, rfl⟩, .inl ⟨HF.out, rfl⟩⟩
          · have HF : Hid (itemM (l.drop k) = none) := item_none l k (by rw [HD.out]; exact bare_bad m _ h46 h91 (by simp [badI, h93]))
            obtain ⟨x0, x1, x2, x3, x4, p0, p1, p2, p3, p4⟩ := hi4.box
            obtain ⟨r0, r1, r2, r3, r4, o0, o1, o2, o3, o4⟩ := hi4.res
            have hszB := hi4.size
            clear HD
            go_wp2
            refine bodyPost_ret (v := .tuple #[.agg #[.bool false, .bool false, .bool false, .slice none 0 0, .slice none 0 0], .int .i64 (-1)]) (by simp [results, Try.results94, go_sem, r0, r1, r2, r3, r4]) rfl ⟨false, false, false, .slice none 0 0, .slice none 0 0, hi4.fin.2, ⟨_, _, _, _, _, _, rfl, rfl⟩, .inl ⟨HF.out, rfl⟩⟩
        · have HF : Hid (itemM (l.drop k) = none) := item_none l k (by rw [HD.out]; exact bare_bad m _ h46 h91 (by simp [badI, h42]))
          obtain ⟨x0, x1, x2, x3, x4, p0, p1, p2, p3, p4⟩ := hi3.box
          obtain ⟨r0, r1, r2, r3, r4, o0, o1, o2, o3, o4⟩ := hi3.res
          have hszB := hi3.size
          clear HD
          go_wp2
          refine bodyPost_ret (v := .tuple #[.agg #[.bool false, .bool false, .bool false, .slice none 0 0, .slice none 0 0], .int .i64 (-1)]) (by simp [results, Try.results94, go_sem, r0, r1, r2, r3, r4]) rfl ⟨false, false, false, .slice none 0 0, .slice none 0 0, hi3.fin.2, ⟨_, _, _, _, _, _, rfl, rfl⟩, .inl ⟨HF.out, rfl⟩⟩
      · have hat2 := hat.below hi2.below
        have hszB := hi2.size
        go_wp2_with fail
        refine (members_calls _ _ _ l (k + 1) _ hat2 hln (by omega)).mono ?_
        rintro e w3 ⟨nt, vf, vb, b3, ⟨a1, n1, c1, a2, n2, c2, rfl, rfl⟩, ⟨hno, rfl⟩ | ⟨rng, q, hsome, hq0, hq1, rfl, tw⟩⟩
        · have HF : Hid (itemM (l.drop k) = none) := item_none l k (by rw [HD.out, bare_set m _ h46 h91, hno]; rfl)
          have hi3 := hi2.keep b3
          have hbx := hi3.box.put false nt false (.slice a1 n1 c1) (.slice a2 n2 c2)
          have hrs := hi3.res.keep (putI_far (b := w.heap.size + 1) w3 false nt false (.slice a1 n1 c1) (.slice a2 n2 c2) (by omega))
          have hbl := putI_below (putI_below hi3.below false nt false (.slice a1 n1 c1) (.slice a2 n2 c2) (show w.heap.size ≤ w.heap.size + 1 by omega)) false nt false (.slice a1 n1 c1) (.slice a2 n2 c2) (Nat.le_refl w.heap.size)
          obtain ⟨x0, x1, x2, x3, x4, p0, p1, p2, p3, p4⟩ := hi3.box
          obtain ⟨r0, r1, r2, r3, r4, o0, o1, o2, o3, o4⟩ := hi3.res
          have hsz3 := hi3.size
          clear HD h46 h91 hno
          go_wp2
          refine bodyPost_ret (v := .tuple #[.agg #[.bool false, .bool nt, .bool false, .slice a1 n1 c1, .slice a2 n2 c2], .int .i64 (-1)]) (by simp [results, Try.results94, go_sem, r0, r1, r2, r3, r4]) rfl ⟨false, nt, false, .slice a1 n1 c1, .slice a2 n2 c2, hbl, ⟨_, _, _, _, _, _, rfl, rfl⟩, .inl ⟨HF.out, rfl⟩⟩
        · have HB : Hid (bareM (l.drop k) = some (⟨false, nt, false, rng⟩, l.drop q)) := by
            show _ = _
            rw [HD.out, bare_set m _ h46 h91, hsome]; rfl
          have hi3 := hi2.keep b3
          have hput := hi3.put ⟨ownsRow_base tw.f (by omega), ownsRow_base tw.k (by omega), tw.ap⟩ false nt false
          obtain ⟨x0, x1, x2, x3, x4, p0, p1, p2, p3, p4⟩ := hi3.box
          have hsz3 := hi3.size
          have hq2 : ¬ (q : Int) < 0 := by omega
          clear HD h46 h91 hsome
          go_wp2
          go_meet
          exact ⟨false, nt, _, _, rng, q, rfl, by omega, hq1, hput, HB.out⟩
    · have HB : Hid (bareM (l.drop k) = some (⟨true, false, false, []⟩, l.drop (k + 1))) := by show _ = _; rw [HD.out, bare_any m _ h46]
      have hi2 := hi1.set0 true
      obtain ⟨x0, x1, x2, x3, x4, p0, p1, p2, p3, p4⟩ := hi1.box
      have hsz1 := hi1.size
      clear HD h46
      go_wp2
      go_meet
      exact ⟨true, false, _, _, [], k + 1, by go_num, by omega, by omega, hi2, HB.out⟩
  case rest =>
    clear hi0 j0 j1 hs0
    obtain ⟨an, nt, vf, vb, rng, q, rfl, hkq, hql, hi2, HB⟩ := hcut
    obtain ⟨af, cf, hvf⟩ := own_form hi2.twin.f
    obtain ⟨ab, cb, hvb⟩ := own_form hi2.twin.k
    generalize hnf : (los rng).length = nf at hvf
    generalize hnb : (his rng).length = nb at hvb
    clear hnf hnb
    subst hvf hvb
    have hatS := hat.below hi2.below
    have hszS := hi2.size
    by_cases hqS : q < l.length
    · have hqS1 : (q : Int) < (l.length : Int) := by omega
      obtain ⟨b', off', hbo, hb', s0, s1⟩ := hatS.get hqS
      simp only [Option.some.injEq, Addr.mk.injEq, and_true] at hbo
      obtain ⟨rfl, rfl⟩ := hbo
      have HST : Hid (l[q].is 42 = true → itemM (l.drop k) = some (⟨an, nt, true, rng⟩, l.drop (q + 1))) := fun hs => item_star l k _ _ _ _ HB.out hqS hs
      have HPL : Hid (l[q].is 42 = false → itemM (l.drop k) = some (⟨an, nt, false, rng⟩, l.drop q)) := fun hs => item_plain l k _ _ _ _ HB.out (fun _ => hs)
      generalize l[q] = ms at *
      go_wp2_with fail
      refine (is_calls ms 42 _).mono ?_
      rintro e wS ⟨rfl, bS⟩
      have hiS := hi2.keep bS
      have hzS := bS.size
      cases hsm : ms.is 42
      · have HPP : Hid (itemM (l.drop k) = some (⟨an, nt, false, rng⟩, l.drop q)) := HPL.out hsm
        clear HST HPL hsm s0 s1 HB
        obtain ⟨x0, x1, x2, x3, x4, p0, p1, p2, p3, p4⟩ := hiS.box
        obtain ⟨r0, r1, r2, r3, r4, o0, o1, o2, o3, o4⟩ := hiS.res
        go_wp2
        refine bodyPost_ret (v := .tuple #[.agg #[.bool an, .bool nt, .bool false, .slice af nf cf, .slice ab nb cb], .int .i64 (q : Int)]) (by simp [results, Try.results94, go_sem, r0, r1, r2, r3, r4]) rfl ⟨an, nt, false, .slice af nf cf, .slice ab nb cb, hiS.fin.2, ⟨_, _, _, _, _, _, rfl, rfl⟩, .inr ⟨rng, q, HPP.out, by omega, by omega, rfl, hiS.fin.1⟩⟩
      · have HPP : Hid (itemM (l.drop k) = some (⟨an, nt, true, rng⟩, l.drop (q + 1))) := HST.out hsm
        clear HST HPL hsm s0 s1 HB
        have hiT := hiS.set2 true
        obtain ⟨x0, x1, x2, x3, x4, p0, p1, p2, p3, p4⟩ := hiS.box
        obtain ⟨r0, r1, r2, r3, r4, o0, o1, o2, o3, o4⟩ := hiS.res
        go_wp2
        refine bodyPost_ret (v := .tuple #[.agg #[.bool an, .bool nt, .bool true, .slice af nf cf, .slice ab nb cb], .int .i64 ((q : Int) + 1)]) (by simp [results, Try.results94, go_sem, r0, r1, r2, r3, r4]) rfl ⟨an, nt, true, .slice af nf cf, .slice ab nb cb, hiT.fin.2, ⟨_, _, _, _, _, _, rfl, rfl⟩, .inr ⟨rng, q + 1, HPP.out, by omega, by omega, rfl, hiT.fin.1⟩⟩
    · have hqS1 : ¬ (q : Int) < (l.length : Int) := by omega
      have HPP : Hid (itemM (l.drop k) = some (⟨an, nt, false, rng⟩, l.drop q)) := item_plain l k _ _ _ _ HB.out (fun h => absurd h hqS)
      clear HB
      obtain ⟨x0, x1, x2, x3, x4, p0, p1, p2, p3, p4⟩ := hi2.box
      obtain ⟨r0, r1, r2, r3, r4, o0, o1, o2, o3, o4⟩ := hi2.res
      go_wp2
      refine bodyPost_ret (v := .tuple #[.agg #[.bool an, .bool nt, .bool false, .slice af nf cf, .slice ab nb cb], .int .i64 (q : Int)]) (by simp [results, Try.results94, go_sem, r0, r1, r2, r3, r4]) rfl ⟨an, nt, false, .slice af nf cf, .slice ab nb cb, hi2.fin.2, ⟨_, _, _, _, _, _, rfl, rfl⟩, .inr ⟨rng, q, HPP.out, by omega, by omega, rfl, hi2.fin.1⟩⟩
end Go.Proofs.Ytlppphmnegdhoaa
