/-
  The program's join of two lists.
-/
import Derived.Test.YtlppphmnegdhoaaJn1
namespace Go.Proofs.Ytlppphmnegdhoaa
set_option linter.unusedVariables false
open Go.RowKit
open M

/-- the two walks and the list that grows -/
structure JnAt (b : Nat) (w : World) (v1 v2 : Value) (i p j q : Nat) (S : SL) (vo vr : Value) : Prop where
  x : WkAt b w v1 i p
  y : WkAt (b + 1) w v2 j q
  s : SLAt (b + 2) w S vo vr
theorem JnAt.keep {b : Nat} {w w' : World} {v1 v2 : Value} {i p j q : Nat} {S : SL} {vo vr : Value} (h : JnAt b w v1 v2 i p j q S vo vr) (hb : Below w.heap.size w w') : JnAt b w' v1 v2 i p j q S vo vr :=
  ⟨h.x.keep hb h.x.lt, h.y.keep hb h.y.lt, h.s.keep hb⟩
theorem JnAt.alloc {b : Nat} {w : World} {v1 v2 : Value} {i p j q : Nat} {S : SL} {vo vr : Value} (h : JnAt b w v1 v2 i p j q S vo vr) (o : Obj) : JnAt b (w.alloc o) v1 v2 i p j q S vo vr :=
  h.keep ((Below.refl w.heap.size w).alloc (Nat.le_refl _) o)
def natAt (w : World) (a : Addr) : Nat := match w.cell? a with
  | some (.int _ n) => n.toNat
  | _ => 0
theorem natAt_of {w : World} {a : Addr} {n : Nat} (h : w.cell? a = some (.int .i64 n)) : natAt w a = n := by simp [natAt, h]
/-- what holds at each round -/
structure JnInv (w : World) (l m : List M.Rec) (v1 v2 : Value) (wr : World) (i p j q : Nat) (S : SL) (vo vr : Value) (E : List Ev) : Prop where
  at' : JnAt w.heap.size wr v1 v2 i p j q S vo vr
  is : S.Is E
  wx : Wk l i p
  wy : Wk m j q
  eq : joinE (expL l) (expL m) = E ++ joinE (leftE l i p) (leftE m j q)
  ev : evB (leftE l i p) = evA (leftE m j q)
  below : Below w.heap.size w wr

theorem far_of {w : World} {ad : Option Addr} {n : Nat} {l : List M.Rec} (h : RecsAt w ad n l) (hl : l ≠ []) : ∀ a, ad = some a → a.block < w.heap.size := by
  obtain ⟨bk, off, ha', hbw, _⟩ := h.cells.resolve_left hl
  intro a ha
  rw [ha'] at ha
  simp at ha
  subst ha
  exact hbw
theorem mu_of (l m : List M.Rec) {b : Nat} {w : World} {v1 v2 : Value} {i p j q : Nat} {S : SL} {vo vr : Value} (h : JnAt b w v1 v2 i p j q S vo vr) :
    (leftE l (natAt w ⟨b, 1, none⟩) (natAt w ⟨b, 2, none⟩)).length + (leftE m (natAt w ⟨b + 1, 1, none⟩) (natAt w ⟨b + 1, 2, none⟩)).length = (leftE l i p).length + (leftE m j q).length := by
  rw [natAt_of h.x.c1, natAt_of h.x.c2, natAt_of h.y.c1, natAt_of h.y.c2]

set_option maxRecDepth 100000 in
set_option maxHeartbeats 8000000 in
theorem join_calls (n c n' c' : Nat) (ad ad' : Option Addr) (l m : List M.Rec) (w : World) (hat : RecsAt w ad n l) (hat' : RecsAt w ad' n' m) (hok : okAll l) (hok' : okAll m) (hA : lenA l ≤ 4096) (hB : lenB l ≤ 4096) (hA' : lenA m ≤ 4096) (hB' : lenB m ≤ 4096) (hev : evB (expL l) = evA (expL m)) :
    Calls Try.prog 62 #[.slice ad n c, .slice ad' n' c'] w fun e w' => ∃ v, e = .returned v ∧ w'.ownsRow w.heap.size 57 3 v (joinN (expL l) (expL m)).length (recsC (joinN (expL l) (expL m))) ∧ Below w.heap.size w w' := by
  have hn := hat.len
  subst hn
  have hn' := hat'.len
  subst hn'
  have hcl := count_le l hok
  have hcm := count_le m hok'
  have HJA : Hid (evA (joinE (expL l) (expL m)) ≤ 4096 ∧ evB (joinE (expL l) (expL m)) ≤ 4096) := by
    have h1 := j_len _ _ hev
    have h2 := expL_len l hok
    have h3 := expL_len m hok'
    exact ⟨by omega, by omega⟩
  go_enter Try.func62, Try.ntmps62
  go_wp2
  go_loopw [] (fun wr => ∃ (i p j q : Nat) (S : SL) (vo vr : Value) (E : List Ev), JnInv w l m (.slice ad l.length c) (.slice ad' m.length c') wr i p j q S vo vr E) (fun wr => (leftE l (natAt wr ⟨w.heap.size, 1, none⟩) (natAt wr ⟨w.heap.size, 2, none⟩)).length + (leftE m (natAt wr ⟨w.heap.size + 1, 1, none⟩) (natAt wr ⟨w.heap.size + 1, 2, none⟩)).length)
  case atStart =>
    refine ⟨0, 0, 0, 0, ⟨[], 0, 0, []⟩, .slice none 0 0, .slice none 0 0, [], ⟨?_, ?_, ?_⟩, SL.is_nil, ?_, ?_, by rw [leftE_zero, leftE_zero]; rfl, by rw [leftE_zero, leftE_zero]; exact hev, ?_⟩
    · constructor <;> simp [go_sem]
    · constructor <;> simp [go_sem]
    · have := SLAt.new ((w.alloc (Obj.cells #[Value.slice ad l.length c, Value.int IntKind.i64 0, Value.int IntKind.i64 0] 112)).alloc (Obj.cells #[Value.slice ad' m.length c', Value.int IntKind.i64 0, Value.int IntKind.i64 0] 112)) 108
      simpa using this
    · exact ⟨Nat.zero_le _, fun h => by have := ((okRec_iff _).1 (hok _ (List.getElem_mem h))).1; omega⟩
    · exact ⟨Nat.zero_le _, fun h => by have := ((okRec_iff _).1 (hok' _ (List.getElem_mem h))).1; omega⟩
    · exact (((Below.refl _ _).alloc (Nat.le_refl _) _).alloc (by simp) _).alloc (by simp; omega) _
  case round =>
    obtain ⟨i, p, j, q, S, vo, vr, E, hinv⟩ := hrel
    have HMU := mu_of l m hinv.at'
    have hb3 := hinv.at'.s.lt
    have HEV : Hid (evA E ≤ 4096 ∧ evB E ≤ 4096) := by
      have h1 := HJA.out
      rw [hinv.eq, evA_append, evB_append] at h1
      exact ⟨by omega, by omega⟩
    have hB0 := hinv.below.size
    go_upto_region 4 with fail
    go_cut [18] (fun t wx => t = .bool (decide (i < l.length ∨ j < m.length)) ∧ Below wr.heap.size wr wx)
    case first =>
      go_wp2_with fail
      refine (left_calls w.heap.size l.length c i p ad _ hinv.at'.x (by omega) hinv.wx.1).mono ?_
      rintro e w1 ⟨rfl, b1⟩
      by_cases hi : i < l.length
      · rw [decide_eq_true hi]
        have HD : Hid (decide (i < l.length ∨ j < m.length) = true) := decide_eq_true (.inl hi)
        go_wp2
        go_meet
        exact ⟨by rw [HD.out], b1⟩
      · rw [decide_eq_false hi]
        have HD : Hid (decide (i < l.length ∨ j < m.length) = decide (j < m.length)) := by show _ = _; simp [hi]
        go_wp2_with fail
        refine (left_calls (w.heap.size + 1) m.length c' j q ad' _ (hinv.at'.y.keep b1 (by omega)) (by omega) hinv.wy.1).mono ?_
        rintro e w2 ⟨rfl, b2⟩
        generalize decide (j < m.length) = dd at *
        go_wp2
        go_meet
        exact ⟨by rw [HD.out], b1.trans (b2.mono b1.size)⟩
    case rest =>
      obtain ⟨rfl, bc⟩ := hcut
      have hJ := hinv.at'.keep bc
      have hBc : Below w.heap.size w wc := hinv.below.trans (bc.mono hB0)
      have hbc := hJ.s.lt
      obtain ⟨bb1, bb2, bb3, bb4⟩ := SL.bounds hinv.is HEV.out.1 HEV.out.2
      by_cases hor : i < l.length ∨ j < m.length
      · rw [decide_eq_true hor]
        obtain ⟨r, hr⟩ : ∃ r, pcs l i p = r := ⟨_, rfl⟩
        obtain ⟨z, hz⟩ : ∃ z, pcs m j q = z := ⟨_, rfl⟩
        have hrn := pcs_n hok hA hB hinv.wx
        have hzn := pcs_n hok' hA' hB' hinv.wy
        rw [hr] at hrn
        rw [hz] at hzn
        have hatc := hat.below hBc
        have hatc' := hat'.below hBc
        obtain ⟨rk, rN, rs⟩ := r
        obtain ⟨zk, zN, zs⟩ := z
        simp only at hrn hzn
        obtain ⟨rn, rfl⟩ : ∃ k : Nat, rN = k := ⟨rN.toNat, by omega⟩
        obtain ⟨zn, rfl⟩ : ∃ k : Nat, zN = k := ⟨zN.toNat, by omega⟩
        have HR : Hid (pcs l i p = ⟨rk, (rn : Int), rs⟩) := hr
        have HZ : Hid (pcs m j q = ⟨zk, (zn : Int), zs⟩) := hz
        clear hr hz
        go_wp2_with fail
        refine (piece_any w.heap.size c i p ad l _ hJ.x hatc hok hA hB hinv.wx).mono ?_
        rintro e w1 ⟨rfl, b1⟩
        rw [HR.out]
        have hJ1 := (hJ.keep b1).alloc (.cells #[.int .i64 rk, .int .i64 (rn : Int), .string rs] 57)
        have B1 : Below w.heap.size w (w1.alloc (.cells #[.int .i64 rk, .int .i64 (rn : Int), .string rs] 57)) := (hBc.trans (b1.mono (by omega))).alloc (by have := b1.size; omega) _
        have hz1 := b1.size
        go_wp2_with fail
        refine (piece_any (w.heap.size + 1) c' j q ad' m _ hJ1.y (hat'.below B1) hok' hA' hB' hinv.wy).mono ?_
        rintro e w2 ⟨rfl, b2⟩
        rw [HZ.out]
        have hz2 := b2.size
        simp at hz2
        have r0 : w2.cell? ⟨w1.heap.size, 0, none⟩ = some (.int .i64 rk) := (b2.cell (by simp)).trans (by simp)
        have r1 : w2.cell? ⟨w1.heap.size, 1, none⟩ = some (.int .i64 (rn : Int)) := (b2.cell (by simp)).trans (by simp)
        have r2 : w2.cell? ⟨w1.heap.size, 2, none⟩ = some (.string rs) := (b2.cell (by simp)).trans (by simp)
        have hlt2 : w1.heap.size < w2.heap.size := by omega
        have hJ2 := (hJ1.keep b2).alloc (.cells #[.int .i64 zk, .int .i64 (zn : Int), .string zs] 57)
        have B2 : Below w.heap.size w (w2.alloc (.cells #[.int .i64 zk, .int .i64 (zn : Int), .string zs] 57)) := (B1.trans (b2.mono (by simp; omega))).alloc (by omega) _
        have hvo : ∀ k, vo.ownBlock = some k → k < wc.heap.size := fun k hk => (hJ.s.out.lt k hk).2
        have hvr : ∀ k, vr.ownBlock = some k → k < wc.heap.size := fun k hk => (hJ.s.s.lt k hk).2
        clear b1 b2 hJ1 B1 hatc hatc'
        by_cases hk2 : rk = 2
        · have k0 : (rk == 2) = true := by simp [hk2]
          have hi : i < l.length := Classical.byContradiction fun h => by
            have e := pcs_out (p := p) h
            rw [HR.out] at e
            simp at e
            omega
          obtain ⟨ok1, le1, n1⟩ := pcs_ok hok hinv.wx hi
          rw [HR.out] at ok1 le1 n1
          simp only at n1
          have hx4 := hinv.wx.2 hi
          have hn4 := mem_n l hok hA hB l[i] (List.getElem_mem hi)
          have hfar : ∀ a, ad = some a → a.block < w.heap.size := far_of hat (fun h => by rw [h] at hi; simp at hi)
          have eX : expR ⟨rk, (rn : Int), rs⟩ = rs.data.toList.map .r := by simp [expR, hk2]
          have HE : Hid (joinE (expL l) (expL m) = (E ++ expR ⟨rk, (rn : Int), rs⟩) ++ joinE (leftE l (i + 1) 0) (leftE m j q)) := by
            show _ = _
            rw [hinv.eq, le1, eX, j_rs, List.append_assoc]
          have HV : Hid (evB (leftE l (i + 1) 0) = evA (leftE m j q)) := by
            have e := hinv.ev
            rw [le1, eX, evB_append, (ev_map_r _).2] at e
            show _ = _
            omega
          have HL : Hid ((leftE l (i + 1) 0).length < (leftE l i p).length) := by
            have e := expR_size _ ok1
            have e2 := ((okRec_iff _).1 ok1).1
            simp only at e e2
            show _ < _
            rw [le1, List.length_append]
            omega
          clear le1 eX hk2
          go_wp2_with fail
          refine (add_calls (w.heap.size + 2) S vo vr ⟨rk, (rn : Int), rs⟩ _ hJ2.s ok1 (by simp only; omega) bb1 bb2 bb3 bb4).mono ?_
          rintro e w3 ⟨rfl, ⟨vo', vr', hS3⟩, F3, b3⟩
          have r1' : w3.cell? ⟨w1.heap.size, 1, none⟩ = some (.int .i64 (rn : Int)) := by
            rw [World.cell?_of_block (F3 w1.heap.size (by simp; omega) (by omega) (fun e => by have := hvo _ e; omega) (fun e => by have := hvr _ e; omega)), World.cell?_alloc_past _ _ _ hlt2]
            exact r1
          have hz3 := b3.size
          simp at hz3
          have hlt3 : w1.heap.size < w3.heap.size := by omega
          have B3 : Below w.heap.size w w3 := B2.trans (b3.mono (by omega))
          have hy3 := hJ2.y.keep b3 (by omega)
          have hx3 := hJ2.x.keep b3 (by omega)
          go_wp2_with fail
          refine (pass_calls w.heap.size c i p rn ad l _ hx3 (hat.below B3) hfar (by omega) hi (by omega) (by omega)).mono ?_
          rintro e w4 ⟨rfl, g4, ⟨hbad, _⟩ | ⟨_, hx5⟩⟩
          · omega
          have hnew : JnAt w.heap.size w4 (.slice ad l.length c) (.slice ad' m.length c') (i + 1) 0 j q (S.add ⟨rk, (rn : Int), rs⟩) vo' vr' := ⟨hx5, hy3.keepG g4 (by omega), hS3.keepG g4 (by omega)⟩
          have B4 : Below w.heap.size w w4 := B3.grown g4 (by omega) (fun k hk => by simp at hk; omega)
          go_wp2
          go_roundw
          case rel => exact ⟨i + 1, 0, j, q, _, vo', vr', _, hnew, SL.is_add hinv.is ok1, wk_next hok hi, hinv.wy, HE.out, HV.out, B4⟩
          case measure =>
            rw [mu_of l m hnew, HMU]
            have := HL.out
            omega
        · have k0 : (rk == 2) = false := by simp [hk2]
          by_cases hk1 : zk = 1
          · have k1 : (zk == 1) = true := by simp [hk1]
            have hj : j < m.length := Classical.byContradiction fun h => by
              have e := pcs_out (p := q) h
              rw [HZ.out] at e
              simp at e
              omega
            obtain ⟨ok1, le1, n1⟩ := pcs_ok hok' hinv.wy hj
            rw [HZ.out] at ok1 le1 n1
            simp only at n1
            have hx4 := hinv.wy.2 hj
            have hn4 := mem_n m hok' hA' hB' m[j] (List.getElem_mem hj)
            have hfar : ∀ a, ad' = some a → a.block < w.heap.size + 1 := fun a ha => by have := far_of hat' (fun h => by rw [h] at hj; simp at hj) a ha; omega
            have eX : expR ⟨zk, (zn : Int), zs⟩ = List.replicate zn .d := by simp [expR, hk1]
            have hnr := no_r hok hinv.wx (by rw [HR.out]; exact hk2)
            have HE : Hid (joinE (expL l) (expL m) = (E ++ expR ⟨zk, (zn : Int), zs⟩) ++ joinE (leftE l i p) (leftE m (j + 1) 0)) := by
              show _ = _
              rw [hinv.eq, le1, eX, j_ds _ _ _ hnr, List.append_assoc]
            have HV : Hid (evB (leftE l i p) = evA (leftE m (j + 1) 0)) := by
              have e := hinv.ev
              rw [le1, eX, evA_append, (ev_rep_d _).1] at e
              show _ = _
              omega
            have HL : Hid ((leftE m (j + 1) 0).length < (leftE m j q).length) := by
              have e := expR_size _ ok1
              have e2 := ((okRec_iff _).1 ok1).1
              simp only at e e2
              show _ < _
              rw [le1, List.length_append]
              omega
            clear le1 eX hk1 hk2 hnr
            go_wp2_with fail
            refine (add_calls (w.heap.size + 2) S vo vr ⟨zk, (zn : Int), zs⟩ _ hJ2.s ok1 (by simp only; omega) bb1 bb2 bb3 bb4).mono ?_
            rintro e w3 ⟨rfl, ⟨vo', vr', hS3⟩, F3, b3⟩
            have r1' : w3.cell? ⟨w2.heap.size, 1, none⟩ = some (.int .i64 (zn : Int)) := by
              rw [World.cell?_of_block (F3 w2.heap.size (by simp) (by omega) (fun e => by have := hvo _ e; omega) (fun e => by have := hvr _ e; omega))]
              simp
            have hz3 := b3.size
            simp at hz3
            have hlt3 : w2.heap.size < w3.heap.size := by omega
            have B3 : Below w.heap.size w w3 := B2.trans (b3.mono (by omega))
            have hy3 := hJ2.y.keep b3 (by omega)
            have hx3 := hJ2.x.keep b3 (by omega)
            go_wp2_with fail
            refine (pass_calls (w.heap.size + 1) c' j q zn ad' m _ hy3 (hat'.below B3) hfar (by omega) hj (by omega) (by omega)).mono ?_
            rintro e w4 ⟨rfl, g4, ⟨hbad, _⟩ | ⟨_, hx5⟩⟩
            · omega
            have hnew : JnAt w.heap.size w4 (.slice ad l.length c) (.slice ad' m.length c') i p (j + 1) 0 (S.add ⟨zk, (zn : Int), zs⟩) vo' vr' := ⟨hx3.keepG g4 (by omega), hx5, hS3.keepG g4 (by omega)⟩
            have B4 : Below w.heap.size w w4 := B3.grown g4 (by omega) (fun k hk => by simp at hk; omega)
            go_wp2
            go_roundw
            case rel => exact ⟨i, p, j + 1, 0, _, vo', vr', _, hnew, SL.is_add hinv.is ok1, hinv.wx, wk_next hok' hj, HE.out, HV.out, B4⟩
            case measure =>
              rw [mu_of l m hnew, HMU]
              have := HL.out
              omega
          · have k1 : (zk == 1) = false := by simp [hk1]
            obtain ⟨hi, hj⟩ := both_in hok hok' hinv.wx hinv.wy (by rw [HR.out]; exact hk2) (by rw [HZ.out]; exact hk1) hinv.ev hor
            obtain ⟨ok1, le1, n1⟩ := pcs_ok hok hinv.wx hi
            obtain ⟨ok2, le2, n2⟩ := pcs_ok hok' hinv.wy hj
            have o1 := ((okRec_iff _).1 ok1).1
            have o2 := ((okRec_iff _).1 ok2).1
            obtain ⟨n, hnm⟩ : ∃ n : Nat, min rn zn = n := ⟨_, rfl⟩
            have p1 := pcs_take (n := n) hok hinv.wx hi (by rw [HR.out]; simp only; omega)
            have p2 := pcs_take (n := n) hok' hinv.wy hj (by rw [HZ.out]; simp only; omega)
            rw [HR.out] at ok1 o1 n1 p1
            rw [HZ.out] at ok2 o2 n2 p2
            simp only at o1 o2 n1 n2
            have hx4 := hinv.wx.2 hi
            have hy4 := hinv.wy.2 hj
            have hn4 := mem_n l hok hA hB l[i] (List.getElem_mem hi)
            have hm4 := mem_n m hok' hA' hB' m[j] (List.getElem_mem hj)
            have hn0 : 0 < n := by omega
            have hnr : n ≤ rn := by omega
            have hnz : n ≤ zn := by omega
            have hfar : ∀ a, ad = some a → a.block < w.heap.size := far_of hat (fun h => by rw [h] at hi; simp at hi)
            have hfar' : ∀ a, ad' = some a → a.block < w.heap.size + 1 := fun a ha => by have := far_of hat' (fun h => by rw [h] at hj; simp at hj) a ha; omega
            have HN : Hid (min rn zn = n) := hnm
            have P1 : Hid _ := p1
            have P2 : Hid _ := p2
            have hln : ¬ (n : Int) < 1 := by omega
            clear le1 le2 hnm p1 p2
            go_wp2_with fail
            refine (lesser_calls rn zn _ (by omega) (by omega)).mono ?_
            rintro e w' ⟨rfl, hw'⟩
            subst hw'
            rw [HN.out]
            go_wp2_with fail
            refine (addBoth_calls (w.heap.size + 2) S vo vr ⟨rk, (rn : Int), rs⟩ ⟨zk, (zn : Int), zs⟩ n E _ hJ2.s hinv.is HEV.out.1 HEV.out.2 ok1 ok2 hk2 hk1 hn0 (by simp only; omega) (by simp only; omega) (by omega) (by simp only; omega)).mono ?_
            rintro e w3 ⟨rfl, ⟨S', vo', vr', hS3, hI3⟩, b3⟩
            have hz3 := b3.size
            simp at hz3
            have B3 : Below w.heap.size w w3 := B2.trans (b3.mono (by omega))
            have hy3 := hJ2.y.keep b3 (by omega)
            have hx3 := hJ2.x.keep b3 (by omega)
            go_wp2_with fail
            refine (pass_calls w.heap.size c i p n ad l _ hx3 (hat.below B3) hfar (by omega) hi (by omega) (by omega)).mono ?_
            rintro e w4 ⟨rfl, g4, hx5⟩
            have HX : Hid (∃ i' p', Wk l i' p' ∧ WkAt w.heap.size w4 (.slice ad l.length c) i' p' ∧ leftE l i p = (expR ⟨rk, (rn : Int), rs⟩).take n ++ leftE l i' p') := by
              rcases hx5 with ⟨h1, h2⟩ | ⟨h1, h2⟩
              · exact ⟨i, p + n, ⟨hinv.wx.1, fun _ => by omega⟩, h2, P1.out.1 h1⟩
              · exact ⟨i + 1, 0, wk_next hok hi, h2, P1.out.2 h1⟩
            have B4 : Below w.heap.size w w4 := B3.grown g4 (by omega) (fun k hk => by simp at hk; omega)
            have hy4' := hy3.keepG g4 (by omega)
            have hS4 := hS3.keepG g4 (by omega)
            have hz4 := g4.size
            clear hx5 P1
            go_wp2_with fail
            refine (pass_calls (w.heap.size + 1) c' j q n ad' m _ hy4' (hat'.below B4) hfar' (by omega) hj (by omega) (by omega)).mono ?_
            rintro e w5 ⟨rfl, g5, hx5⟩
            have HY : Hid (∃ j' q', Wk m j' q' ∧ WkAt (w.heap.size + 1) w5 (.slice ad' m.length c') j' q' ∧ leftE m j q = (expR ⟨zk, (zn : Int), zs⟩).take n ++ leftE m j' q') := by
              rcases hx5 with ⟨h1, h2⟩ | ⟨h1, h2⟩
              · exact ⟨j, q + n, ⟨hinv.wy.1, fun _ => by omega⟩, h2, P2.out.1 h1⟩
              · exact ⟨j + 1, 0, wk_next hok' hj, h2, P2.out.2 h1⟩
            clear hx5 P2
            have B5 : Below w.heap.size w w5 := B4.grown g5 (by omega) (fun k hk => by simp at hk; omega)
            have hS5 := hS4.keepG g5 (by omega)
            go_wp2
            obtain ⟨i', p', wx', hx', ex⟩ := HX.out
            obtain ⟨j', q', wy', hy', ey⟩ := HY.out
            have hnew : JnAt w.heap.size w5 (.slice ad l.length c) (.slice ad' m.length c') i' p' j' q' S' vo' vr' := ⟨hx'.keepG g5 (by omega), hy', hS5⟩
            obtain ⟨jb1, jb2, jb3⟩ := join_both ok1 ok2 hk2 hk1 (show (n : Int) ≤ (rn : Int) by omega) (show (n : Int) ≤ (zn : Int) by omega) (leftE l i' p') (leftE m j' q')
            have HE : joinE (expL l) (expL m) = (E ++ bothE ⟨rk, (rn : Int), rs⟩ ⟨zk, (zn : Int), zs⟩ n) ++ joinE (leftE l i' p') (leftE m j' q') := by
              rw [hinv.eq, ex, ey, jb1, List.append_assoc]
            have HV : evB (leftE l i' p') = evA (leftE m j' q') := by
              have e := hinv.ev
              rw [ex, ey, evB_append, evA_append, jb2, jb3] at e
              omega
            have hl1 : (leftE l i p).length = n + (leftE l i' p').length := by
              have e := expR_size _ ok1
              simp only at e
              rw [ex, List.length_append, List.length_take]
              omega
            have hl2 : (leftE m j q).length = n + (leftE m j' q').length := by
              have e := expR_size _ ok2
              simp only at e
              rw [ey, List.length_append, List.length_take]
              omega
            go_roundw
            case rel => exact ⟨i', p', j', q', S', vo', vr', _, hnew, hI3, wx', wy', HE, HV, B5⟩
            case measure =>
              rw [mu_of l m hnew, HMU]
              omega
      · rw [decide_eq_false hor]
        have HF : Hid (S.fin = joinN (expL l) (expL m)) := by
          have e := hinv.eq
          rw [left_out (fun h => hor (.inl h)), left_out (fun h => hor (.inr h)), j_nn, List.append_nil] at e
          show _ = _
          unfold joinN
          rw [e]
          exact SL.is_fin hinv.is
        have hs := hJ.s
        clear hinv hor HMU hJ
        go_wp2_with fail
        refine (all_calls (w.heap.size + 2) S vo vr _ hs bb1 bb2 bb3 bb4).mono ?_
        rintro e w1 ⟨v, rfl, own, B1⟩
        rw [HF.out] at own
        obtain ⟨a1, k1, hv⟩ := own_form own
        have own2 := ownsRow_base own (show w.heap.size ≤ w.heap.size + 2 + 1 by omega)
        clear HF own
        generalize hnl : joinN (expL l) (expL m) = nl at own2 hv
        have HN : Hid (joinN (expL l) (expL m) = nl) := hnl
        clear hnl
        subst hv
        go_wp2
        go_ret
        exact ⟨_, rfl, by rw [HN.out]; exact own2, hBc.trans (B1.mono (by omega))⟩
end Go.Proofs.Ytlppphmnegdhoaa
