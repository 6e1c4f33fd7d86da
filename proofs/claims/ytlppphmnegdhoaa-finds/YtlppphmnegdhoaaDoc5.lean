/-
  The document's answer: the walk of its loose reader.
-/
import Derived.Test.YtlppphmnegdhoaaDoc4
namespace Go.Proofs.Ytlppphmnegdhoaa
set_option linter.unusedVariables false
open Go.RowKit
open M

theorem own_form {w : World} {base : Nat} {e : TypeId} {size : Nat} {v : Value} {n : Nat} {xs : List Value} (h : w.ownsRow base e size v n xs) : ∃ a c, v = .slice a n c := by
  obtain ⟨h1, ⟨rfl, rfl⟩ | ⟨g, cap, cur, h3, _⟩⟩ := h
  · exact ⟨none, 0, rfl⟩
  · exact ⟨_, _, h3⟩

theorem recC_at2 (w : World) (r : M.Rec) (t : TypeId) (o : Obj) : ∀ j u, (recC r)[j]? = some u → ((w.alloc o).alloc (.cells #[.int .i64 r.kind, .int .i64 r.n, .string r.s] t)).cell? ((⟨w.heap.size + 1, 0, none⟩ : Addr).add j) = some u := by
  intro j u h
  have h2 := recC_at (w.alloc o) r t j u h
  have e : (w.alloc o).heap.size = w.heap.size + 1 := by simp
  rwa [e] at h2
/-- two boxes: the answer's (empty yet) and the journal's -/
structure LBox (b : Nat) (w : World) (la lb sa sb : Nat) (a : Option Addr) (n c : Nat) : Prop where
  r0 : w.cell? ⟨b, 0, none⟩ = some (.int .i64 0)
  r1 : w.cell? ⟨b, 1, none⟩ = some (.int .i64 0)
  r2 : w.cell? ⟨b, 2, none⟩ = some (.int .i64 0)
  r3 : w.cell? ⟨b, 3, none⟩ = some (.int .i64 0)
  r4 : w.cell? ⟨b, 4, none⟩ = some (.slice none 0 0)
  f0 : w.frozen? ⟨b, 0, none⟩ = false
  f1 : w.frozen? ⟨b, 1, none⟩ = false
  f2 : w.frozen? ⟨b, 2, none⟩ = false
  f3 : w.frozen? ⟨b, 3, none⟩ = false
  f4 : w.frozen? ⟨b, 4, none⟩ = false
  j0 : w.cell? ⟨b + 1, 0, none⟩ = some (.int .i64 la)
  j1 : w.cell? ⟨b + 1, 1, none⟩ = some (.int .i64 lb)
  j2 : w.cell? ⟨b + 1, 2, none⟩ = some (.int .i64 sa)
  j3 : w.cell? ⟨b + 1, 3, none⟩ = some (.int .i64 sb)
  j4 : w.cell? ⟨b + 1, 4, none⟩ = some (.slice a n c)
  fj : w.frozen? ⟨b + 1, 4, none⟩ = false
theorem LBox.keep {b : Nat} {w w' : World} {la lb sa sb : Nat} {a : Option Addr} {n c : Nat} (h : LBox b w la lb sa sb a n c) (hk : ∀ k, k < b + 2 → w'.heap[k]? = w.heap[k]?) : LBox b w' la lb sa sb a n c := by
  have hc : ∀ k o, k < b + 2 → w'.cell? ⟨k, o, none⟩ = w.cell? ⟨k, o, none⟩ := fun k o hk2 => World.cell?_of_block (hk k hk2)
  have hf : ∀ k o, k < b + 2 → w'.frozen? ⟨k, o, none⟩ = w.frozen? ⟨k, o, none⟩ := fun k o hk2 => World.frozen?_of_block (hk k hk2)
  have l0 : b < b + 2 := by omega
  have l1 : b + 1 < b + 2 := by omega
  exact ⟨(hc _ _ l0).trans h.r0, (hc _ _ l0).trans h.r1, (hc _ _ l0).trans h.r2, (hc _ _ l0).trans h.r3, (hc _ _ l0).trans h.r4, (hf _ _ l0).trans h.f0, (hf _ _ l0).trans h.f1, (hf _ _ l0).trans h.f2, (hf _ _ l0).trans h.f3, (hf _ _ l0).trans h.f4,
    (hc _ _ l1).trans h.j0, (hc _ _ l1).trans h.j1, (hc _ _ l1).trans h.j2, (hc _ _ l1).trans h.j3, (hc _ _ l1).trans h.j4, (hf _ _ l1).trans h.fj⟩
theorem LBox.set {b : Nat} {w : World} {la lb sa sb : Nat} {a : Option Addr} {n c : Nat} (h : LBox b w la lb sa sb a n c) (a' : Option Addr) (n' c' : Nat) : LBox b (w.setCell ⟨b + 1, 4, none⟩ (.slice a' n' c')) la lb sa sb a' n' c' := by
  obtain ⟨r0, r1, r2, r3, r4, f0, f1, f2, f3, f4, j0, j1, j2, j3, j4, fj⟩ := h
  refine ⟨?_, ?_, ?_, ?_, ?_, ?_, ?_, ?_, ?_, ?_, ?_, ?_, ?_, ?_, ?_, ?_⟩
  all_goals first | (simp [go_sem, *]; done) | (rw [World.cell?_setCell_other (by simp)]; assumption) | exact World.cell?_setCell_same j4

set_option maxRecDepth 100000 in
set_option maxHeartbeats 2000000 in
theorem loose_calls (s : ByteArray) (w : World) (hs : s.size ≤ 12352) :
    Calls Try.prog 81 #[.string s] w fun e w' => LoosePost s w w' e := by
  obtain ⟨i0, hi, hz0, hz1, hz2⟩ := info_parts Try.info57
  go_enter Try.func81, Try.ntmps81
  go_wp2_with fail
  refine (number_calls s 2 _ hs (by omega)).mono ?_
  rintro e w' ⟨⟨la, p, rfl, h1, hp1, hp2, _⟩, rfl⟩
  have H1 : Hid (lsNum (s.data.toList.drop 2) = (la, s.data.toList.drop p)) := h1
  have hla := lsNum_lt (s.data.toList.drop 2)
  rw [h1] at hla
  clear h1
  have hla2 : la < 2097152 := hla
  clear hla
  go_wp2_with fail
  refine (number_calls s p _ hs (by omega)).mono ?_
  rintro e w' ⟨⟨lb, q, rfl, h2, hq1, hq2, _⟩, rfl⟩
  have H2 : Hid (lsNum (s.data.toList.drop p) = (lb, s.data.toList.drop q)) := h2
  have hlb := lsNum_lt (s.data.toList.drop p)
  rw [h2] at hlb
  clear h2
  have hlb2 : lb < 2097152 := hlb
  clear hlb
  have hq3 : q ≤ 12354 := by omega
  clear hp1 hp2 hq1 hq2
  go_wp2_with fail
  refine (pair_calls s q _ hs (by omega)).mono ?_
  rintro e w' ⟨⟨sa, rfl, hsa, h3⟩, n1, rfl⟩
  have H3 : Hid (∀ v t, v < 65536 → s.data.toList.drop q = twoE v ++ t → sa = v) := h3
  clear h3
  go_wp2_with fail
  have hq2 : ((q : Int) + 2) = ((q + 2 : Nat) : Int) := by omega
  rw [hq2]
  refine (pair_calls s (q + 2) _ hs (by omega)).mono ?_
  rintro e w' ⟨⟨sb, rfl, hsb, h4⟩, n2, rfl⟩
  have HH : Hid (∀ j, Tells s.data.toList j → la = j.la ∧ lb = j.lb ∧ sa = j.sa ∧ sb = j.sb ∧ s.data.toList.drop (q + 4) = recsE j.l ++ twoE (sum (bodyE j))) := lhead H1.out H2.out H3.out h4
  have HI : Hid (LInv s [] (q + 4)) := fun j hj => ⟨j.l, rfl, (HH.out j hj).2.2.2.2⟩
  clear h4 H1 H2 H3 hq2
  go_wp2
  go_loopw [8] (fun at' wr => ∃ (q' : Nat) (L : List M.Rec) (a : Option Addr) (c : Nat), at' = .int .i64 q' ∧ q' ≤ 12360 ∧ L.length ≤ q' ∧ L.length ≤ s.size ∧ LBox w.heap.size wr la lb sa sb a L.length c ∧ wr.ownsRow (w.heap.size + 2) 57 3 (.slice a L.length c) L.length (recsC L) ∧ Below w.heap.size w wr ∧ w.heap.size + 2 ≤ wr.heap.size ∧ Hid (LInv s L q') ∧ ∀ r ∈ L, loRec r)
    (fun at' _ => 20000 - (intOf at').toNat)
  case atStart =>
    refine ⟨q + 4, [], none, 0, rfl, by omega, by simp, by simp, ?_, World.ownsRow_nil _ _ _ _, ?_, by simp, HI.out, fun r hr => by simp at hr⟩
    · constructor <;> simp [go_sem]
    · exact (below_drewN ((Below.refl _ _).alloc (Nat.le_refl _) _) _).alloc (by simp) _
  case round =>
    obtain ⟨q', L, a, c, rfl, hq4, hl1, hl2, hbox, hown, B, hz, HI2, hlo⟩ := hrel
    by_cases hlt : q' + 2 < s.size
    · have hlt1 : (q' : Int) < (s.size : Int) - 2 := by omega
      have hbox2 := hbox
      obtain ⟨r0, r1, r2, r3, r4, f0, f1, f2, f3, f4, j0, j1, j2, j3, j4, fj⟩ := hbox2
      go_wp2_with fail
      refine (number_calls s q' _ hs (by omega)).mono ?_
      rintro e w' ⟨⟨v, nx, rfl, h2, hq5, hq6, hq7⟩, hw⟩
      obtain rfl : wr = w' := hw.symm
      clear hw
      have hz9 : w.heap.size + 1 < wr.heap.size := by omega
      have HV : Hid (lsNum (s.data.toList.drop q') = (v, s.data.toList.drop nx)) := h2
      have hv := lsNum_lt (s.data.toList.drop q')
      rw [h2] at hv
      clear h2
      have hv2 : v < 2097152 := hv
      have hq8 : q' < nx := hq7 (by omega)
      have hq9 : nx ≤ s.size := by omega
      clear hv hq5 hq6 hq7
      by_cases h4 : v % 4 = 2
      · have h41 : ((v : Int) % 4 == 2) = true := by simp; omega
        by_cases h5 : s.size < nx + v / 4
        · have h51 : (s.size : Int) < (nx : Int) + (v : Int) / 4 := by omega
          have HJ : Hid (LInv s (L ++ [⟨(v : Int) % 4, (v : Int) / 4, s.extract nx s.size⟩]) (s.size)) := (linv_r HI2.out hlt HV.out hq9 h4).2 h5 _ _
          have hlo2 := lo_snoc hlo (lo_mk v hv2 (s.extract nx s.size))
          clear HI2
          go_wp2_with (first
            | (at_builtin; refine wpList_append_own _ rfl _ _ 22 rfl (w.heap.size + 2) 57 i0 (.agg #[.int .i64 0, .int .i64 0, .string ⟨#[]⟩]) 3 32 Try.underlying22 hi hz0 hz1 hz2 rfl (by decide) _ _ _ rfl ((hown.alloc _).alloc _) ⟨wr.heap.size + 1, 0, none⟩ 1 1 (recC ⟨(v : Int) % 4, (v : Int) / 4, s.extract nx s.size⟩) rfl rfl ?k1 ?k2 ?k3 ?k4 ?k5 ?_)
            | go_in)
          case k1 => exact recC_at2 _ _ _ _
          case k2 => exact recC_one _
          case k3 => unfold maxLen; omega
          case k4 => omega
          case k5 => simp; omega
          intro v' w3 hown3 hgrow _
          obtain ⟨a', c', hv'⟩ := own_form hown3
          have hne := fun k hk => (hown.lt k hk).1
          have hkk : ∀ k, k < w.heap.size + 2 → w3.heap[k]? = wr.heap[k]? := fun k hk => by
            rw [hgrow.block k (by simp; omega) (fun e => by have := hne k e.symm; omega), Below.heap_alloc _ _ _ (by simp; omega), Below.heap_alloc _ _ _ (by omega)]
          have hb3 : LBox w.heap.size w3 la lb sa sb a L.length c := hbox.keep hkk
          have B3 : Below w.heap.size w w3 := ((B.alloc (by omega) _).alloc (by simp; omega) _).grown hgrow (by simp; omega) (fun k hk => by have := hne k hk; omega)
          have hz3 : w.heap.size + 2 ≤ w3.heap.size := by have := hgrow.size; simp at this; omega
          have hb4 := hb3.set a' (L.length + 1) c'
          obtain ⟨p0, p1, p2, p3, p4, g0, g1, g2, g3, g4, i0', i1', i2', i3', i4', gj⟩ := hb3
          rw [← recsC_snoc] at hown3
          subst hv'
          clear hgrow hkk hne r0 r1 r2 r3 r4 f0 f1 f2 f3 f4 j0 j1 j2 j3 j4 fj
          go_wp2
          go_roundw
          case rel =>
            refine ⟨s.size, L ++ [(⟨(v : Int) % 4, (v : Int) / 4, s.extract nx s.size⟩ : M.Rec)], a', c', by go_num, by omega, by simp; omega, by simp; omega, by simpa using hb4, ?_, B3.setCell (by simp) _, by simp; omega, HJ, hlo2⟩
            simpa using ownsRow_setCell_below hown3 (a := ⟨w.heap.size + 1, 4, none⟩) (by simp) _
          case measure => simp [intOf]; omega
        · have h51 : ¬ (s.size : Int) < (nx : Int) + (v : Int) / 4 := by omega
          have HJ : Hid (LInv s (L ++ [⟨(v : Int) % 4, (v : Int) / 4, s.extract nx (nx + v / 4)⟩]) (nx + v / 4)) := (linv_r HI2.out hlt HV.out hq9 h4).1
          have hlo2 := lo_snoc hlo (lo_mk v hv2 (s.extract nx (nx + v / 4)))
          clear HI2
          go_wp2_with (first
            | (at_builtin; refine wpList_append_own _ rfl _ _ 22 rfl (w.heap.size + 2) 57 i0 (.agg #[.int .i64 0, .int .i64 0, .string ⟨#[]⟩]) 3 32 Try.underlying22 hi hz0 hz1 hz2 rfl (by decide) _ _ _ rfl ((hown.alloc _).alloc _) ⟨wr.heap.size + 1, 0, none⟩ 1 1 (recC ⟨(v : Int) % 4, (v : Int) / 4, s.extract nx (nx + v / 4)⟩) rfl rfl ?k1 ?k2 ?k3 ?k4 ?k5 ?_)
            | go_in)
          case k1 => exact recC_at2 _ _ _ _
          case k2 => exact recC_one _
          case k3 => unfold maxLen; omega
          case k4 => omega
          case k5 => simp; omega
          intro v' w3 hown3 hgrow _
          obtain ⟨a', c', hv'⟩ := own_form hown3
          have hne := fun k hk => (hown.lt k hk).1
          have hkk : ∀ k, k < w.heap.size + 2 → w3.heap[k]? = wr.heap[k]? := fun k hk => by
            rw [hgrow.block k (by simp; omega) (fun e => by have := hne k e.symm; omega), Below.heap_alloc _ _ _ (by simp; omega), Below.heap_alloc _ _ _ (by omega)]
          have hb3 : LBox w.heap.size w3 la lb sa sb a L.length c := hbox.keep hkk
          have B3 : Below w.heap.size w w3 := ((B.alloc (by omega) _).alloc (by simp; omega) _).grown hgrow (by simp; omega) (fun k hk => by have := hne k hk; omega)
          have hz3 : w.heap.size + 2 ≤ w3.heap.size := by have := hgrow.size; simp at this; omega
          have hb4 := hb3.set a' (L.length + 1) c'
          obtain ⟨p0, p1, p2, p3, p4, g0, g1, g2, g3, g4, i0', i1', i2', i3', i4', gj⟩ := hb3
          rw [← recsC_snoc] at hown3
          subst hv'
          clear hgrow hkk hne r0 r1 r2 r3 r4 f0 f1 f2 f3 f4 j0 j1 j2 j3 j4 fj
          go_wp2
          go_roundw
          case rel =>
            refine ⟨nx + v / 4, L ++ [(⟨(v : Int) % 4, (v : Int) / 4, s.extract nx (nx + v / 4)⟩ : M.Rec)], a', c', by go_num, by omega, by simp; omega, by simp; omega, by simpa using hb4, ?_, B3.setCell (by simp) _, by simp; omega, HJ, hlo2⟩
            simpa using ownsRow_setCell_below hown3 (a := ⟨w.heap.size + 1, 4, none⟩) (by simp) _
          case measure => simp [intOf]; omega
      · have h41 : ((v : Int) % 4 == 2) = false := by simp; omega
        have HJ : Hid (LInv s (L ++ [⟨(v : Int) % 4, (v : Int) / 4, ⟨#[]⟩⟩]) (nx)) := linv_k HI2.out hlt HV.out h4
        have hlo2 := lo_snoc hlo (lo_mk v hv2 (⟨#[]⟩))
        clear HI2
        go_wp2_with (first
          | (at_builtin; refine wpList_append_own _ rfl _ _ 22 rfl (w.heap.size + 2) 57 i0 (.agg #[.int .i64 0, .int .i64 0, .string ⟨#[]⟩]) 3 32 Try.underlying22 hi hz0 hz1 hz2 rfl (by decide) _ _ _ rfl ((hown.alloc _).alloc _) ⟨wr.heap.size + 1, 0, none⟩ 1 1 (recC ⟨(v : Int) % 4, (v : Int) / 4, ⟨#[]⟩⟩) rfl rfl ?k1 ?k2 ?k3 ?k4 ?k5 ?_)
          | go_in)
        case k1 => exact recC_at2 _ _ _ _
        case k2 => exact recC_one _
        case k3 => unfold maxLen; omega
        case k4 => omega
        case k5 => simp; omega
        intro v' w3 hown3 hgrow _
        obtain ⟨a', c', hv'⟩ := own_form hown3
        have hne := fun k hk => (hown.lt k hk).1
        have hkk : ∀ k, k < w.heap.size + 2 → w3.heap[k]? = wr.heap[k]? := fun k hk => by
          rw [hgrow.block k (by simp; omega) (fun e => by have := hne k e.symm; omega), Below.heap_alloc _ _ _ (by simp; omega), Below.heap_alloc _ _ _ (by omega)]
        have hb3 : LBox w.heap.size w3 la lb sa sb a L.length c := hbox.keep hkk
        have B3 : Below w.heap.size w w3 := ((B.alloc (by omega) _).alloc (by simp; omega) _).grown hgrow (by simp; omega) (fun k hk => by have := hne k hk; omega)
        have hz3 : w.heap.size + 2 ≤ w3.heap.size := by have := hgrow.size; simp at this; omega
        have hb4 := hb3.set a' (L.length + 1) c'
        obtain ⟨p0, p1, p2, p3, p4, g0, g1, g2, g3, g4, i0', i1', i2', i3', i4', gj⟩ := hb3
        rw [← recsC_snoc] at hown3
        subst hv'
        clear hgrow hkk hne r0 r1 r2 r3 r4 f0 f1 f2 f3 f4 j0 j1 j2 j3 j4 fj
        go_wp2
        go_roundw
        case rel =>
          refine ⟨nx, L ++ [(⟨(v : Int) % 4, (v : Int) / 4, ⟨#[]⟩⟩ : M.Rec)], a', c', by go_num, by omega, by simp; omega, by simp; omega, by simpa using hb4, ?_, B3.setCell (by simp) _, by simp; omega, HJ, hlo2⟩
          simpa using ownsRow_setCell_below hown3 (a := ⟨w.heap.size + 1, 4, none⟩) (by simp) _
        case measure => simp [intOf]; omega
    · have hlt1 : ¬ (q' : Int) < (s.size : Int) - 2 := by omega
      have hbox2 := hbox
      obtain ⟨r0, r1, r2, r3, r4, f0, f1, f2, f3, f4, j0, j1, j2, j3, j4, fj⟩ := hbox2
      have HF : Hid (∀ j', Tells s.data.toList j' → (⟨la, lb, sa, sb, L⟩ : Jn) = j') := by
        intro j hj
        obtain ⟨m, hm, hd⟩ := HI2.out j hj
        obtain ⟨e1, e2, e3, e4, _⟩ := HH.out j hj
        have h1 := len_drop s q'
        rw [hd] at h1
        match m with
        | [] =>
          obtain ⟨la', lb', sa', sb', l'⟩ := j
          simp at e1 e2 e3 e4 hm
          simp [e1, e2, e3, e4, hm]
        | r :: m =>
          have := recE_len r
          simp [recsE_cons, twoE] at h1
          omega
      go_wp2
      refine bodyPost_ret (v := .agg #[.int .i64 la, .int .i64 lb, .int .i64 sa, .int .i64 sb, .slice a L.length c]) (by simp [results, Try.results81, go_sem, r0, r1, r2, r3, r4]) rfl ⟨⟨la, lb, sa, sb, L⟩, a, c, rfl, ?_, ?_, HF.out, hla2, hlb2, hsa, hsb, hl2, hlo⟩
      · exact ownsRow_setCell_below (ownsRow_setCell_below (ownsRow_setCell_below (ownsRow_setCell_below (ownsRow_setCell_below hown (by simp) _) (by simp) _) (by simp) _) (by simp) _) (by simp) _
      · exact ((((B.setCell (by simp) _).setCell (by simp) _).setCell (by simp) _).setCell (by simp) _).setCell (by simp) _
end Go.Proofs.Ytlppphmnegdhoaa
