/-
  The document's answer: what it takes for a journal.
-/
import Derived.Test.YtlppphmnegdhoaaDoc5
namespace Go.Proofs.Ytlppphmnegdhoaa
set_option linter.unusedVariables false
open Go.RowKit
open M

theorem recsC_at (l : List M.Rec) : ∀ (i : Nat) (h : i < l.length), (recsC l)[i * 3]? = some (.int .i64 l[i].kind) ∧ (recsC l)[i * 3 + 1]? = some (.int .i64 l[i].n) ∧ (recsC l)[i * 3 + 2]? = some (.string l[i].s) := by
  induction l with
  | nil => intro i h; simp at h
  | cons r l ih =>
    intro i h
    have e : recsC (r :: l) = .int .i64 r.kind :: .int .i64 r.n :: .string r.s :: recsC l := by simp [recsC, recC]
    rw [e]
    match i with
    | 0 => simp
    | i + 1 =>
      obtain ⟨h1, h2, h3⟩ := ih i (by simpa using h)
      have e0 : (i + 1) * 3 = i * 3 + 3 := by omega
      rw [e0]
      simp only [List.getElem_cons_succ]
      exact ⟨by simpa using h1, by simpa using h2, by simpa using h3⟩
theorem recsAt_own {w : World} {base : Nat} {a : Option Addr} {c : Nat} {l : List M.Rec} (h : w.ownsRow base 57 3 (.slice a l.length c) l.length (recsC l)) : RecsAt w a l.length l := by
  refine ⟨rfl, ?_⟩
  obtain ⟨h1, ⟨hv, hn⟩ | ⟨g, cap, cur, hv, hrest⟩⟩ := id h
  · exact .inl (List.length_eq_zero_iff.1 hn)
  · refine .inr ⟨g, 0, ?_, ?_, fun i hi => ?_⟩
    · simp at hv; exact hv.1
    · exact (h.lt g (by rw [hv]; rfl)).2
    · obtain ⟨c0, c1, c2⟩ := recsC_at l i hi
      have hc := h.cells (g := g) (by rw [hv]; rfl)
      have e : ∀ j, (⟨g, 0, none⟩ : Addr).add j = ⟨g, 0 + j, none⟩ := fun j => by simp [Addr.add]; omega
      exact ⟨by have := hc _ _ c0; rwa [e] at this, by have := hc _ _ c1; rwa [e, ← Nat.add_assoc] at this, by have := hc _ _ c2; rwa [e, ← Nat.add_assoc] at this⟩

theorem lo_len (l : List M.Rec) (h : ∀ r ∈ l, loRec r) : 0 ≤ lenA l ∧ lenA l ≤ 524288 * (l.length : Int) ∧ 0 ≤ lenB l ∧ lenB l ≤ 524288 * (l.length : Int) := by
  induction l with
  | nil => simp [lenA, lenB]
  | cons r l ih =>
    have h1 := ih (fun x hx => h x (List.mem_cons_of_mem _ hx))
    have h2 := h r (List.mem_cons_self ..)
    unfold loRec at h2
    have h3 : 0 ≤ inA r ∧ inA r ≤ r.n := by unfold inA; split <;> omega
    have h4 : 0 ≤ inB r ∧ inB r ≤ r.n := by unfold inB; split <;> omega
    simp only [lenA, lenB, List.length_cons]
    omega
theorem lo_take {l : List M.Rec} (h : ∀ r ∈ l, loRec r) (k : Nat) : ∀ r ∈ l.take k, loRec r := fun r hr => h r (List.mem_of_mem_take hr)
theorem lenA_take (l : List M.Rec) (k : Nat) (h : k < l.length) : lenA (l.take (k + 1)) = lenA (l.take k) + inA l[k] ∧ lenB (l.take (k + 1)) = lenB (l.take k) + inB l[k] := by
  rw [List.take_succ_eq_append_getElem h, lenA_append, lenB_append]; simp [lenA, lenB]
theorem okAll_step {l : List M.Rec} {k : Nat} (h : okAll (l.take k)) (hk : k < l.length) (hr : okRec l[k] = true) : okAll (l.take (k + 1)) := by
  rw [List.take_succ_eq_append_getElem hk]
  exact okAll_append h (fun x hx => by simp at hx; rw [hx]; exact hr)

def ParsedPost (s : ByteArray) (w w' : World) (e : Ending) : Prop :=
  Below w.heap.size w w' ∧ ((∃ (x0 x1 x2 x3 : Int) (ax : Option Addr) (nx cx : Nat), e = .returned (.tuple #[.agg #[.int .i64 x0, .int .i64 x1, .int .i64 x2, .int .i64 x3, .slice ax nx cx], .bool false]) ∧ ∀ j, Tells s.data.toList j → False) ∨
  ∃ (j : Jn) (a : Option Addr) (c : Nat), e = .returned (.tuple #[.agg #[.int .i64 j.la, .int .i64 j.lb, .int .i64 j.sa, .int .i64 j.sb, .slice a j.l.length c], .bool true]) ∧ Tells s.data.toList j ∧ w'.ownsRow w.heap.size 57 3 (.slice a j.l.length c) j.l.length (recsC j.l))

/-- two boxes: the answer's (empty yet) and the journal's -/
structure PBox (b d : Nat) (w : World) (la lb sa sb : Nat) (a : Option Addr) (n c : Nat) : Prop where
  r0 : w.cell? ⟨b, 0, none⟩ = some (.int .i64 0)
  r1 : w.cell? ⟨b, 1, none⟩ = some (.int .i64 0)
  r2 : w.cell? ⟨b, 2, none⟩ = some (.int .i64 0)
  r3 : w.cell? ⟨b, 3, none⟩ = some (.int .i64 0)
  r4 : w.cell? ⟨b, 4, none⟩ = some (.slice none 0 0)
  f0 : w.frozen? ⟨b, 0, none⟩ = false
  f1 : w.frozen? ⟨b, 1, none⟩ = false
  f2 : w.frozen? ⟨b, 2, none⟩ = false
  f3 : w.frozen? ⟨b, 3, none⟩ = false
  f4 : w.frozen? ⟨b, 4, none⟩ = false
  j0 : w.cell? ⟨d, 0, none⟩ = some (.int .i64 la)
  j1 : w.cell? ⟨d, 1, none⟩ = some (.int .i64 lb)
  j2 : w.cell? ⟨d, 2, none⟩ = some (.int .i64 sa)
  j3 : w.cell? ⟨d, 3, none⟩ = some (.int .i64 sb)
  j4 : w.cell? ⟨d, 4, none⟩ = some (.slice a n c)
theorem PBox.keep {b d : Nat} {w w' : World} {la lb sa sb : Nat} {a : Option Addr} {n c B : Nat} (h : PBox b d w la lb sa sb a n c) (hb : Below B w w') (l0 : b < B) (l1 : d < B) : PBox b d w' la lb sa sb a n c := by
  have hc : ∀ k o, k < B → w'.cell? ⟨k, o, none⟩ = w.cell? ⟨k, o, none⟩ := fun k o hk2 => hb.cell (by exact hk2)
  have hf : ∀ k o, k < B → w'.frozen? ⟨k, o, none⟩ = w.frozen? ⟨k, o, none⟩ := fun k o hk2 => hb.frozen (by exact hk2)
  exact ⟨(hc _ _ l0).trans h.r0, (hc _ _ l0).trans h.r1, (hc _ _ l0).trans h.r2, (hc _ _ l0).trans h.r3, (hc _ _ l0).trans h.r4, (hf _ _ l0).trans h.f0, (hf _ _ l0).trans h.f1, (hf _ _ l0).trans h.f2, (hf _ _ l0).trans h.f3, (hf _ _ l0).trans h.f4,
    (hc _ _ l1).trans h.j0, (hc _ _ l1).trans h.j1, (hc _ _ l1).trans h.j2, (hc _ _ l1).trans h.j3, (hc _ _ l1).trans h.j4⟩

set_option maxRecDepth 100000 in
set_option maxHeartbeats 4000000 in
theorem parsed_calls (s : ByteArray) (w : World) (hs : s.size ≤ 12352) :
    Calls Try.prog 56 #[.string s] w fun e w' => ParsedPost s w w' e := by
  go_enter Try.func56, Try.ntmps56
  go_wp2_with fail
  refine (loose_calls s _ hs).mono ?_
  rintro e w1 ⟨⟨la, lb, sa, sb, l⟩, a, c, rfl, hown, hb, huniq, hla, hlb, hsa, hsb, hll, hlo⟩
  simp only at hown huniq hla hlb hsa hsb hll hlo
  have HU : Hid (∀ j', Tells s.data.toList j' → (⟨la, lb, sa, sb, l⟩ : Jn) = j') := huniq
  clear huniq
  have B1 : Below w.heap.size w w1 := ((Below.refl w.heap.size _).alloc (Nat.le_refl _) _).trans (hb.mono (by simp))
  have hz1 : w.heap.size < w1.heap.size := by have := hb.size; simp at this; omega
  have s0 : w1.cell? ⟨w.heap.size, 0, none⟩ = some (.int .i64 0) := by rw [(bcell hb).1 _ _ (by simp)]; simp [go_sem]
  have s1 : w1.cell? ⟨w.heap.size, 1, none⟩ = some (.int .i64 0) := by rw [(bcell hb).1 _ _ (by simp)]; simp [go_sem]
  have s2 : w1.cell? ⟨w.heap.size, 2, none⟩ = some (.int .i64 0) := by rw [(bcell hb).1 _ _ (by simp)]; simp [go_sem]
  have s3 : w1.cell? ⟨w.heap.size, 3, none⟩ = some (.int .i64 0) := by rw [(bcell hb).1 _ _ (by simp)]; simp [go_sem]
  have s4 : w1.cell? ⟨w.heap.size, 4, none⟩ = some (.slice none 0 0) := by rw [(bcell hb).1 _ _ (by simp)]; simp [go_sem]
  have f0 : w1.frozen? ⟨w.heap.size, 0, none⟩ = false := by rw [(bcell hb).2 _ _ (by simp)]; simp [go_sem]
  have f1 : w1.frozen? ⟨w.heap.size, 1, none⟩ = false := by rw [(bcell hb).2 _ _ (by simp)]; simp [go_sem]
  have f2 : w1.frozen? ⟨w.heap.size, 2, none⟩ = false := by rw [(bcell hb).2 _ _ (by simp)]; simp [go_sem]
  have f3 : w1.frozen? ⟨w.heap.size, 3, none⟩ = false := by rw [(bcell hb).2 _ _ (by simp)]; simp [go_sem]
  have f4 : w1.frozen? ⟨w.heap.size, 4, none⟩ = false := by rw [(bcell hb).2 _ _ (by simp)]; simp [go_sem]
  have PB : PBox w.heap.size w1.heap.size (w1.alloc (Obj.cells #[.int .i64 la, .int .i64 lb, .int .i64 sa, .int .i64 sb, .slice a l.length c] 66)) la lb sa sb a l.length c := by
    constructor <;> simp [go_sem, *]
  have hrec := recsAt_own hown
  have hown1 := ownsRow_base (base' := w.heap.size + 1) hown (by simp)
  clear hb s0 s1 s2 s3 s4 f0 f1 f2 f3 f4 hown
  go_wp2
  go_loopw [5, 6, 7] (fun x y i wr => ∃ k : Nat, k ≤ l.length ∧ i = .int .i64 k ∧ x = .int .i64 (lenA (l.take k)) ∧ y = .int .i64 (lenB (l.take k)) ∧ okAll (l.take k) ∧ PBox w.heap.size w1.heap.size wr la lb sa sb a l.length c ∧ Below w1.heap.size w1 wr ∧ w1.heap.size < wr.heap.size) (fun _ _ i _ => l.length - (intOf i).toNat)
  case atStart =>
    exact ⟨0, Nat.zero_le _, rfl, rfl, rfl, fun x hx => by simp at hx, PB, (Below.refl _ _).alloc (Nat.le_refl _) _, by simp⟩
  case round =>
    obtain ⟨k, hk, rfl, rfl, rfl, hok, hP, B, hz⟩ := hrel
    have hP2 := hP
    obtain ⟨r0, r1, r2, r3, r4, f0, f1, f2, f3, f4, j0, j1, j2, j3, j4⟩ := hP2
    have hlk := lo_len (l.take k) (lo_take hlo k)
    have hlt3 : (l.take k).length ≤ 12352 := by rw [List.length_take]; omega
    have hla1 : 0 ≤ lenA (l.take k) := hlk.1
    have hla2 : lenA (l.take k) ≤ 6476005376 := by omega
    have hlb1 : 0 ≤ lenB (l.take k) := hlk.2.2.1
    have hlb2 : lenB (l.take k) ≤ 6476005376 := by omega
    clear hlk hlt3
    have B2 : Below w.heap.size w wr := B1.trans (B.mono (by omega))
    by_cases hlt : k < l.length
    · have hlt1 : (k : Int) < (l.length : Int) := by omega
      have hno : l ≠ [] := fun h => by rw [h] at hlt; simp at hlt
      obtain ⟨b, off, ha', hbw, hcells⟩ := hrec.cells.resolve_left hno
      obtain ⟨c0, c1, c2⟩ := hcells k hlt
      have d0 := (B.cell (by exact hbw)).trans c0
      have d1 := (B.cell (by exact hbw)).trans c1
      have d2 := (B.cell (by exact hbw)).trans c2
      have hlor := hlo l[k] (List.getElem_mem hlt)
      have HT : Hid (lenA (l.take (k + 1)) = lenA (l.take k) + inA l[k] ∧ lenB (l.take (k + 1)) = lenB (l.take k) + inB l[k]) := lenA_take l k hlt
      have HO : Hid (okRec l[k] = true → okAll (l.take (k + 1))) := fun h => okAll_step hok hlt h
      have HN : Hid (okRec l[k] = false → ∀ j, Tells s.data.toList j → False) := fun h j hj => by
        have := HU.out j hj
        subst this
        have h2 := hj.1.ok l[k] (List.getElem_mem hlt)
        rw [h] at h2
        cases h2
      unfold loRec at hlor
      clear hcells c0 c1 c2 hno
      subst ha'
      generalize l[k] = r at *
      generalize lenA (l.take k) = xa at *
      generalize lenB (l.take k) = xb at *
      go_wp2_with fail
      refine (record_calls r _).mono ?_
      rintro e w2 ⟨rfl, hb⟩
      have hz2 : w1.heap.size < w2.heap.size := by have := hb.size; omega
      have hP3 := hP.keep hb (by omega) hz
      have e0 := (hb.cell (by exact Nat.lt_trans hbw hz)).trans d0
      have e1 := (hb.cell (by exact Nat.lt_trans hbw hz)).trans d1
      have e2 := (hb.cell (by exact Nat.lt_trans hbw hz)).trans d2
      have B3 : Below w1.heap.size w1 w2 := B.trans (hb.mono (by omega))
      have B4 : Below w.heap.size w w2 := B1.trans (B3.mono (by omega))
      clear hb r0 r1 r2 r3 r4 f0 f1 f2 f3 f4 j0 j1 j2 j3 j4 d0 d1 d2 hP
      have hP4 := hP3
      obtain ⟨r0, r1, r2, r3, r4, f0, f1, f2, f3, f4, j0, j1, j2, j3, j4⟩ := hP4
      cases hokr : okRec r
      · have HF : Hid (∀ j, Tells s.data.toList j → False) := HN.out hokr
        clear hokr HN HO HT
        go_wp2
        refine bodyPost_ret (v := .tuple #[.agg #[.int .i64 0, .int .i64 0, .int .i64 0, .int .i64 0, .slice none 0 0], .bool false]) (by simp [results, Try.results56, go_sem, r0, r1, r2, r3, r4]) rfl ⟨?_, .inl ⟨_, _, _, _, _, _, _, rfl, HF.out⟩⟩
        exact ((((B4.setCell (by simp) _).setCell (by simp) _).setCell (by simp) _).setCell (by simp) _).setCell (by simp) _
      · have hO := HO.out hokr
        have hk2 := (okRec_iff r).1 hokr
        have hrn : r.n ≤ 524288 := by omega
        have hrn0 : 0 ≤ r.n := by omega
        have hkk : r.kind = 0 ∨ r.kind = 1 ∨ r.kind = 2 := by omega
        clear hk2 hlor HO HN hokr
        rcases hkk with hkd | hkd | hkd
        · have hk1 : (r.kind == 1) = false := by simp [hkd]
          have hk2 : (r.kind == 2) = false := by simp [hkd]
          have HL : Hid (lenA (l.take (k + 1)) = xa + r.n ∧ lenB (l.take (k + 1)) = xb + r.n) := by
            have h := HT.out
            simp only [inA, inB, hkd] at h
            simpa [Hid] using h
          clear hkd HT
          go_wp2
          go_roundw
          case rel => exact ⟨k + 1, by omega, by go_num, by rw [HL.out.1], by rw [HL.out.2], hO, hP3, B3, hz2⟩
          case measure => simp [intOf]; omega
        · have hk1 : (r.kind == 1) = true := by simp [hkd]
          have hk2 : (r.kind == 2) = false := by simp [hkd]
          have HL : Hid (lenA (l.take (k + 1)) = xa ∧ lenB (l.take (k + 1)) = xb + r.n) := by
            have h := HT.out
            simp only [inA, inB, hkd] at h
            simpa [Hid] using h
          clear hkd HT
          go_wp2
          go_roundw
          case rel => exact ⟨k + 1, by omega, by go_num, by rw [HL.out.1], by rw [HL.out.2], hO, hP3, B3, hz2⟩
          case measure => simp [intOf]; omega
        · have hk1 : (r.kind == 1) = false := by simp [hkd]
          have hk2 : (r.kind == 2) = true := by simp [hkd]
          have HL : Hid (lenA (l.take (k + 1)) = xa + r.n ∧ lenB (l.take (k + 1)) = xb) := by
            have h := HT.out
            simp only [inA, inB, hkd] at h
            simpa [Hid] using h
          clear hkd HT
          go_wp2
          go_roundw
          case rel => exact ⟨k + 1, by omega, by go_num, by rw [HL.out.1], by rw [HL.out.2], hO, hP3, B3, hz2⟩
          case measure => simp [intOf]; omega
    · obtain rfl : k = l.length := by omega
      rw [List.take_length] at *
      by_cases hgood : (lenA l = la ∧ lenB l = lb) ∧ (la ≤ 4096 ∧ lb ≤ 4096)
      · obtain ⟨⟨hga, hgb⟩, hg3, hg4⟩ := hgood
        have HA : Hid (lenA l = la) := hga
        have HB : Hid (lenB l = lb) := hgb
        have hga' : (lenA l == (la : Int)) = true := by rw [beq_iff_eq]; exact hga
        have hgb' : (lenB l == (lb : Int)) = true := by rw [beq_iff_eq]; exact hgb
        have hg5 : ¬ (4096 : Int) < lenA l := by omega
        have hg6 : ¬ (4096 : Int) < lenB l := by omega
        have hrw := hrec.below B
        clear hga hgb
        go_wp2_with fail
        refine (written_calls la lb sa sb l.length c a l _ hg3 hg4 hsa hsb hrw hok (by rw [HA.out]; omega) (by rw [HB.out]; omega)).mono ?_
        rintro e w2 ⟨⟨t, rfl, ht⟩, hb⟩
        have hz2 : w1.heap.size < w2.heap.size := by have := hb.size; omega
        have hP3 := hP.keep hb (by omega) hz
        have B3 : Below w1.heap.size w1 w2 := B.trans (hb.mono (by omega))
        have B4 : Below w.heap.size w w2 := B1.trans (B3.mono (by omega))
        have hown2 := ownsRow_below hown1 B3
        have HT : Hid (t.data.toList = writE ⟨la, lb, sa, sb, l⟩) := ht
        clear hb ht r0 r1 r2 r3 r4 f0 f1 f2 f3 f4 j0 j1 j2 j3 j4 hP hrw
        obtain ⟨r0, r1, r2, r3, r4, f0, f1, f2, f3, f4, j0, j1, j2, j3, j4⟩ := hP3
        cases hts : (t.toList == s.toList)
        · have HF : Hid (∀ j, Tells s.data.toList j → False) := fun j hj => by
            have := HU.out j hj
            subst this
            have h2 := hj.2
            rw [← HT.out, ← ByteArray.toList_eq, ← ByteArray.toList_eq] at h2
            rw [h2] at hts
            simp at hts
          go_wp2
          refine bodyPost_ret (v := .tuple #[.agg #[.int .i64 la, .int .i64 lb, .int .i64 sa, .int .i64 sb, .slice a l.length c], .bool false]) (by simp [results, Try.results56, go_sem, r0, r1, r2, r3, r4]) rfl ⟨?_, .inl ⟨_, _, _, _, _, _, _, rfl, HF.out⟩⟩
          exact ((((B4.setCell (by simp) _).setCell (by simp) _).setCell (by simp) _).setCell (by simp) _).setCell (by simp) _
        · have HF : Hid (Tells s.data.toList ⟨la, lb, sa, sb, l⟩) := by
            refine ⟨⟨hok, HA.out, HB.out, hg3, hg4, hsa, hsb⟩, ?_⟩
            rw [← HT.out, ← ByteArray.toList_eq, ← ByteArray.toList_eq]
            exact beq_iff_eq.1 hts
          go_wp2
          refine bodyPost_ret (v := .tuple #[.agg #[.int .i64 la, .int .i64 lb, .int .i64 sa, .int .i64 sb, .slice a l.length c], .bool true]) (by simp [results, Try.results56, go_sem, r0, r1, r2, r3, r4]) rfl ⟨?_, .inr ⟨⟨la, lb, sa, sb, l⟩, a, c, rfl, HF.out, ?_⟩⟩
          · exact ((((B4.setCell (by simp) _).setCell (by simp) _).setCell (by simp) _).setCell (by simp) _).setCell (by simp) _
          · exact ownsRow_base (base := w.heap.size + 1) (ownsRow_setCell_below (ownsRow_setCell_below (ownsRow_setCell_below (ownsRow_setCell_below (ownsRow_setCell_below hown2 (by simp) _) (by simp) _) (by simp) _) (by simp) _) (by simp) _) (by omega)
      · have HF : Hid (∀ j, Tells s.data.toList j → False) := fun j hj => by
          have := HU.out j hj
          subst this
          exact hgood ⟨⟨hj.1.a, hj.1.b⟩, hj.1.la, hj.1.lb⟩
        have hbad : ¬ (lenA l = la) ∨ ¬ (lenB l = lb) ∨ (4096 < (la : Int)) ∨ (4096 < (lb : Int)) := by omega
        clear hgood
        generalize lenA l = xa at *
        generalize lenB l = xb at *
        by_cases h1 : xa = la
        · subst h1
          by_cases h2 : xb = lb
          · subst h2
            by_cases h3 : (4096 : Int) < (la : Int)
            · go_wp2
              refine bodyPost_ret (v := .tuple #[.agg #[.int .i64 0, .int .i64 0, .int .i64 0, .int .i64 0, .slice none 0 0], .bool false]) (by simp [results, Try.results56, go_sem, r0, r1, r2, r3, r4]) rfl ⟨?_, .inl ⟨_, _, _, _, _, _, _, rfl, HF.out⟩⟩
              exact ((((B2.setCell (by simp) _).setCell (by simp) _).setCell (by simp) _).setCell (by simp) _).setCell (by simp) _
            · have h4 : (4096 : Int) < (lb : Int) := by omega
              go_wp2
              refine bodyPost_ret (v := .tuple #[.agg #[.int .i64 0, .int .i64 0, .int .i64 0, .int .i64 0, .slice none 0 0], .bool false]) (by simp [results, Try.results56, go_sem, r0, r1, r2, r3, r4]) rfl ⟨?_, .inl ⟨_, _, _, _, _, _, _, rfl, HF.out⟩⟩
              exact ((((B2.setCell (by simp) _).setCell (by simp) _).setCell (by simp) _).setCell (by simp) _).setCell (by simp) _
          · have h21 : (xb == (lb : Int)) = false := by rw [beq_eq_false_iff_ne]; exact h2
            clear hbad
            go_wp2
            refine bodyPost_ret (v := .tuple #[.agg #[.int .i64 0, .int .i64 0, .int .i64 0, .int .i64 0, .slice none 0 0], .bool false]) (by simp [results, Try.results56, go_sem, r0, r1, r2, r3, r4]) rfl ⟨?_, .inl ⟨_, _, _, _, _, _, _, rfl, HF.out⟩⟩
            exact ((((B2.setCell (by simp) _).setCell (by simp) _).setCell (by simp) _).setCell (by simp) _).setCell (by simp) _
        · have h11 : (xa == (la : Int)) = false := by rw [beq_eq_false_iff_ne]; exact h1
          clear hbad
          go_wp2
          refine bodyPost_ret (v := .tuple #[.agg #[.int .i64 0, .int .i64 0, .int .i64 0, .int .i64 0, .slice none 0 0], .bool false]) (by simp [results, Try.results56, go_sem, r0, r1, r2, r3, r4]) rfl ⟨?_, .inl ⟨_, _, _, _, _, _, _, rfl, HF.out⟩⟩
          exact ((((B2.setCell (by simp) _).setCell (by simp) _).setCell (by simp) _).setCell (by simp) _).setCell (by simp) _
end Go.Proofs.Ytlppphmnegdhoaa
