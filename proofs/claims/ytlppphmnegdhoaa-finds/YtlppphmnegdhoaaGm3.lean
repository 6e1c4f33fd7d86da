/-
  The program's matches: ends.
-/
import Derived.Test.YtlppphmnegdhoaaGm2
namespace Go.Proofs.Ytlppphmnegdhoaa
set_option linter.unusedVariables false
set_option maxRecDepth 100000
open Go.RowKit
open M

/-- the box of matches, to be written into -/
structure MX (w : World) (b : Nat) (s : ByteArray) (v : Value) : Prop where
  lt : b < w.heap.size
  c0 : w.cell? ⟨b, 0, none⟩ = some (.string s)
  c1 : w.cell? ⟨b, 1, none⟩ = some v
  f1 : w.frozen? ⟨b, 1, none⟩ = false
theorem MX.keep {w w' : World} {b : Nat} {s : ByteArray} {v : Value} (h : MX w b s v) (hk : w'.heap[b]? = w.heap[b]?) (hs : w.heap.size ≤ w'.heap.size) : MX w' b s v :=
  ⟨by have := h.lt; omega, (World.cell?_of_block hk).trans h.c0, (World.cell?_of_block hk).trans h.c1, (World.frozen?_of_block hk).trans h.f1⟩
theorem MX.set {w : World} {b : Nat} {s : ByteArray} {v : Value} (h : MX w b s v) (u : Value) : MX (w.setCell ⟨b, 1, none⟩ u) b s u := by
  obtain ⟨l, c0, c1, f1⟩ := h
  refine ⟨by simpa using l, ?_, World.cell?_setCell_same' _ _ _ (by rw [c1]; rfl), by simpa using f1⟩
  rw [World.cell?_setCell_other _ _ _ _ (by simp)]; exact c0
/-- while the row of ends grows -/
structure KInv (h0 : Nat) (w wr : World) (hd tl : Bool) (vi : Value) (s : ByteArray) (v : Value) (es : List Value) : Prop where
  eb : ExBox h0 wr hd tl vi
  mx : MX wr (h0 + 1) s v
  own : wr.ownsRow (h0 + 2) 3 1 v es.length es
  below : Below h0 w wr
  size : h0 + 2 ≤ wr.heap.size
theorem KInv.grow {h0 : Nat} {w wr w3 : World} {hd tl : Bool} {vi : Value} {s : ByteArray} {v v' : Value} {es : List Value} {o : Obj} {x : Value} (h : KInv h0 w wr hd tl vi s v es)
    (hown : w3.ownsRow (h0 + 2) 3 1 v' (es.length + 1) (es ++ [x])) (hg : (wr.alloc o).grownBy w3 v.ownBlock) :
    MX w3 (h0 + 1) s v ∧ KInv h0 w (w3.setCell ⟨h0 + 1, 1, none⟩ v') hd tl vi s v' (es ++ [x]) := by
  have hs := h.size
  have hs3 := hg.size
  simp at hs3
  have hk : ∀ k, k < h0 + 2 → w3.heap[k]? = wr.heap[k]? := fun k hk => by
    rw [hg.block k (by simp; omega) (fun e => by have := (h.own.lt k e.symm).1; omega), Below.heap_alloc _ _ _ (by omega)]
  have hb := h.mx.keep (hk _ (by omega)) (by omega)
  refine ⟨hb, (h.eb.keep (hk _ (by omega))).keep (heap_setCell_other _ _ _ _ (by simp)), hb.set _, ?_, ?_, by simp; omega⟩
  · rw [List.length_append]; exact ownsRow_setCell_below hown (by simp) _
  · exact ((h.below.alloc (by omega) _).grown hg (by simp; omega) (fun k hk => by have := (h.own.lt k hk).1; omega)).setCell (by simp) _
def e0 (tl : Bool) (n p : Nat) : Int := if tl = true ∧ p < n then -1 else (p : Int)
def e0C (tl : Bool) (n k : Nat) : List Value := (List.range k).map (fun p => .int .i64 (e0 tl n p))
theorem e0C_len (tl : Bool) (n k : Nat) : (e0C tl n k).length = k := by simp [e0C]
theorem e0C_snoc (tl : Bool) (n k : Nat) : e0C tl n (k + 1) = e0C tl n k ++ [.int .i64 (e0 tl n k)] := by simp [e0C, List.range_succ]
theorem IR_own {w : World} {B n : Nat} {v : Value} {e : Nat → Int} (h : w.ownsRow B 3 1 v (n + 1) ((List.range (n + 1)).map (fun p => .int .i64 (e p)))) : ∃ g c, v = .slice (some ⟨g, 0, none⟩) (n + 1) c ∧ B ≤ g ∧ g < w.heap.size ∧ IR w g (n + 1) e := by
  obtain ⟨h1, ⟨_, h2⟩ | ⟨g, cap, cur, e1, e2, e3, e4, e5, e6, e7⟩⟩ := h
  · omega
  · have hlt : g < w.heap.size := by
      rcases Nat.lt_or_ge g w.heap.size with h | h
      · exact h
      · rw [Array.getElem?_eq_none h] at e3; cases e3
    refine ⟨g, cap, e1, e2, hlt, hlt, fun i hi => ?_, fun i hi => ?_⟩
    · rw [cell_of_row _ _ _ _ _ _ e3]
      have h9 : (cur.toList.take ((n + 1) * 1))[i]? = some (.int .i64 (e i)) := by rw [e7]; simp [hi]
      rw [List.getElem?_take] at h9
      split at h9
      · simpa using h9
      · cases h9
    · simp [World.frozen?, e3]
/-- one more number at the end of a row -/
theorem in_append {ops : Array Oper} {rest : List Oper} {o : Oper} {a : Act} {w : World} {Q : Exit → Act → World → Prop} {B : Nat} {v : Value} {n : Nat} {xs : List Value} (hown : w.ownsRow B 3 1 v n xs) (g : Nat) (q : Int) (hg : w.heap[g]? = some (.cells #[.int .i64 q] 3)) (hn : n ≤ 8192) (hB : B ≤ w.heap.size) (hgd : o.guard = none) (s x : Operand)
    (ho : o.op = .call { callee := .builtin .append, args := #[s, x], argTypes := #[72, 72] }) (hs : a.eval s = v) (hx : a.eval x = .slice (some ⟨g, 0, none⟩) 1 1)
    (h : ∀ v' w', w'.ownsRow B 3 1 v' (n + 1) (xs ++ [.int .i64 q]) → w.grownBy w' v.ownBlock → wpList Try.prog ops Q rest (a.put o.dst v') w') : wpList Try.prog ops Q (o :: rest) a w := by
  obtain ⟨i0, hi, hz0, hz1, hz2⟩ := info_parts infoInt
  refine wpList_append_own w hgd s x _ ho B _ i0 _ 1 8 Try.underlying72 hi hz0 hz1 hz2 rfl (by decide) v n xs hs hown ⟨g, 0, none⟩ 1 1 [.int .i64 q] hx rfl ?_ (fun u hu => by simp at hu; rw [hu]; rfl) (by unfold maxLen; omega) (by omega) hB (fun v' w' h1 h2 _ => h v' w' h1 h2)
  intro j u hu
  rw [Addr.add_mid, cell_of_row _ _ _ _ _ _ hg]
  simpa using hu
theorem its_range {w : World} {B : Nat} {a : Option Addr} {c : Nat} {L : List It} (h : w.ownsRow B 119 257 (.slice a L.length c) L.length (itsC L)) (k : Nat) (hk : k < L.length) : ∃ g, a = some ⟨g, 0, none⟩ ∧ g < w.heap.size ∧ w.rangeAt g (k * 257) (bC 257 (itF L[k])) := by
  have hit : ∀ (L : List It) (k : Nat) (hk : k < L.length) (j : Nat), j < 257 → (itsC L)[k * 257 + j]? = some (.bool (itF L[k] j)) := by
    intro L
    induction L with
    | nil => intro k hk; simp at hk
    | cons x L ih =>
      intro k hk j hj
      have e : itsC (x :: L) = bC 257 (itF x) ++ itsC L := by simp [itsC]
      rw [e]
      cases k with
      | zero => rw [List.getElem?_append_left (by rw [bC_len]; omega)]; rw [Nat.zero_mul, Nat.zero_add]; exact bC_get 257 _ j hj
      | succ k =>
        rw [List.getElem?_append_right (by rw [bC_len]; omega), bC_len]
        have e2 : (k + 1) * 257 + j - 257 = k * 257 + j := by omega
        rw [e2]
        exact ih k (by simpa using hk) j hj
  obtain ⟨g, hg⟩ : ∃ g, a = some ⟨g, 0, none⟩ := by
    rcases h.2 with ⟨_, hz⟩ | ⟨g, cap, cur, hv, _⟩
    · omega
    · simp at hv; exact ⟨g, hv.1⟩
  subst hg
  refine ⟨g, rfl, (h.lt g rfl).2, fun j v hv => ?_⟩
  have hj : j < 257 := by have := (List.getElem?_eq_some_iff.1 hv).1; rwa [bC_len] at this
  rw [bC_get 257 _ j hj] at hv
  have := h.cells rfl (k * 257 + j) _ (hit L k hk j hj)
  rw [Addr.add_mid, Nat.zero_add] at this
  rw [this, ← hv]
theorem it_load_mid {ops : Array Oper} {rest : List Oper} {op : Oper} {a : Act} {w : World} {Q : Exit → Act → World → Prop} {g o : Nat} {f : Nat → Bool} (hb : w.rangeAt g o (bC 257 f)) (hgd : op.guard = none) (x : Operand) (ho : op.op = .load 119 x) (hx : a.eval x = .pointer (some ⟨g, o, none⟩))
    (h : wpList Try.prog ops Q rest (a.put op.dst (itV f)) w) : wpList Try.prog ops Q (op :: rest) a w := by
  obtain ⟨fs, hu⟩ := undIt
  exact wpList_load_mid hgd _ x ho g o hx (bC 257 f) _ hb hu rfl (by rw [bC_len]; exact (zero_of_info infoIt).2) h
theorem range_below {w w' : World} {B g o : Nat} {cs : List Value} (h : w.rangeAt g o cs) (hb : Below B w w') (hg : g < B) : w'.rangeAt g o cs := fun j v hv => (hb.cell (by exact hg)).trans (h j v hv)

def EndsPost (hd tl : Bool) (L : List It) (s : ByteArray) (w : World) (x : Ending) (w' : World) : Prop :=
  (∃ g c' E, x = .returned (.slice (some ⟨g, 0, none⟩) (s.size + 1) c') ∧ IR w' g (s.size + 1) E ∧ ∀ p, p ≤ s.size → EndAt ⟨hd, tl, L⟩ s.data.toList p (E p)) ∧ Below w.heap.size w w'
set_option maxRecDepth 100000 in
set_option maxHeartbeats 4000000 in
theorem ends_calls (hd tl : Bool) (a : Option Addr) (c : Nat) (L : List It) (s : ByteArray) (w : World) (hs : s.size ≤ 256) (hL : L.length ≤ 8192) (hit : ∀ k (h : k < L.length), ∃ g, a = some ⟨g, 0, none⟩ ∧ g < w.heap.size ∧ w.rangeAt g (k * 257) (bC 257 (itF L[k]))) :
    Calls Try.prog 92 #[.agg #[.bool hd, .bool tl, .slice a L.length c], .string s] w fun x w' => EndsPost hd tl L s w x w' := by
  have hl := ba_len s
  have HL : Hid (s.data.toList.length = s.size) := hl
  clear hl
  obtain ⟨i0, hi, hz0, hz1, hz2⟩ := info_parts infoInt
  go_enter Try.func92, Try.ntmps92
  go_upto_region 2 with fail
  have hK0 : KInv w.heap.size w ((w.alloc (.cells #[.bool hd, .bool tl, .slice a L.length c] 82)).alloc (.cells #[.string s, .slice none 0 0] 140)) hd tl (.slice a L.length c) s (.slice none 0 0) [] := by
    refine ⟨?_, ?_, World.ownsRow_nil _ _ _ _, ((Below.refl _ _).alloc (Nat.le_refl _) _).alloc (by simp) _, by simp⟩
    · constructor <;> simp [go_sem]
    · constructor <;> simp [go_sem]
  generalize ((w.alloc (.cells #[.bool hd, .bool tl, .slice a L.length c] 82)).alloc (.cells #[.string s, .slice none 0 0] 140)) = W at *
  have HIT : Hid (∀ k (h : k < L.length), ∃ g, a = some ⟨g, 0, none⟩ ∧ g < w.heap.size ∧ w.rangeAt g (k * 257) (bC 257 (itF L[k]))) := hit
  clear hit
  obtain ⟨h0, hh0⟩ : ∃ h0, w.heap.size = h0 := ⟨_, rfl⟩
  rw [hh0] at hK0
  try rw [hh0]
  obtain ⟨nL, hnL⟩ : ∃ nL, L.length = nL := ⟨_, rfl⟩
  have HNL : Hid (L.length = nL) := hnL
  rw [hnL] at hK0 hL ⊢
  have HH0 : Hid (w.heap.size = h0) := hh0
  clear hh0 hnL
  go_wp2_with fail
  go_loopw [6] (fun v6 wr => ∃ (p : Nat) (v : Value), p ≤ s.size + 1 ∧ v6 = .int .i64 p ∧ KInv h0 w wr hd tl (.slice a nL c) s v (e0C tl s.size p)) (fun v6 _ => s.size + 1 - (intOf v6).toNat)
  case atStart => exact ⟨0, _, Nat.zero_le _, rfl, hK0⟩
  case round =>
    clear hK0
    obtain ⟨p, v, hps, rfl, hK⟩ := hrel
    obtain ⟨av, cv, hvv⟩ := own_form hK.own
    rw [e0C_len] at hvv
    subst hvv
    have hsz := hK.size
    by_cases hlt : p ≤ s.size
    · have hlt1 : (p : Int) ≤ (s.size : Int) := by omega
      have hown := hK.own
      rw [e0C_len] at hown
      obtain ⟨x0, x1, x2, p0, p1, p2⟩ := hK.eb
      obtain ⟨m0, m1, m2, m3⟩ := hK.mx
      by_cases hcase : tl = true ∧ p < s.size
      · have HE : Hid (e0 tl s.size p = -1) := by show _ = _; unfold e0; rw [if_pos hcase]
        obtain ⟨htl, hp2⟩ := hcase
        subst htl
        have hp3 : (p : Int) < (s.size : Int) := by omega
        go_wp2_with (refine in_append (hown.alloc _) wr.heap.size (-1) (heap_alloc_new wr _) (by omega) (by simp; omega) rfl _ _ rfl rfl rfl ?_
                     intro v' w3 hown3 hgrow3
                     have hg3 := hK.grow (by rw [e0C_len]; exact hown3) hgrow3
                     obtain ⟨⟨y0, y1, y2, y3⟩, hK3⟩ := hg3
                     obtain ⟨av', cv', hvv⟩ := own_form hown3
                     subst hvv
                     clear m0 m1 m2 m3 hown3 hgrow3)
        go_roundw
        case rel => exact ⟨p + 1, _, by omega, by go_num, by rw [e0C_snoc, HE.out]; exact hK3⟩
        case measure => first | (simp [intOf]; done) | (simp [intOf]; omega)
      · have HE : Hid (e0 tl s.size p = p) := by show _ = _; unfold e0; rw [if_neg hcase]
        cases htl : tl
        · subst htl
          go_wp2_with (refine in_append (hown.alloc _) wr.heap.size p (heap_alloc_new wr _) (by omega) (by simp; omega) rfl _ _ rfl rfl rfl ?_
                       intro v' w3 hown3 hgrow3
                       have hg3 := hK.grow (by rw [e0C_len]; exact hown3) hgrow3
                       obtain ⟨⟨y0, y1, y2, y3⟩, hK3⟩ := hg3
                       obtain ⟨av', cv', hvv⟩ := own_form hown3
                       subst hvv
                       clear m0 m1 m2 m3 hown3 hgrow3)
          go_roundw
          case rel => exact ⟨p + 1, _, by omega, by go_num, by rw [e0C_snoc, HE.out]; exact hK3⟩
          case measure => first | (simp [intOf]; done) | (simp [intOf]; omega)
        · subst htl
          obtain rfl : p = s.size := by
            by_cases hh : p < s.size
            · exact absurd ⟨rfl, hh⟩ hcase
            · omega
          clear hcase
          go_wp2_with (refine in_append (hown.alloc _) wr.heap.size s.size (heap_alloc_new wr _) (by omega) (by simp; omega) rfl _ _ rfl rfl rfl ?_
                       intro v' w3 hown3 hgrow3
                       have hg3 := hK.grow (by rw [e0C_len]; exact hown3) hgrow3
                       obtain ⟨⟨y0, y1, y2, y3⟩, hK3⟩ := hg3
                       obtain ⟨av', cv', hvv⟩ := own_form hown3
                       subst hvv
                       clear m0 m1 m2 m3 hown3 hgrow3)
          go_roundw
          case rel => exact ⟨s.size + 1, _, by omega, by go_num, by rw [e0C_snoc, HE.out]; exact hK3⟩
          case measure => first | (simp [intOf]; done) | (simp [intOf]; omega)
    · obtain rfl : p = s.size + 1 := by omega
      have hlt1 : ¬ ((s.size : Int) + 1) ≤ (s.size : Int) := by omega
      obtain ⟨g, cg, hv, hgB, hgl, hIR⟩ := IR_own (e := e0 tl s.size) (B := h0 + 2) (n := s.size) (v := .slice av (s.size + 1) cv) (by have h9 := hK.own; rw [e0C_len] at h9; exact h9)
      simp only [Value.slice.injEq] at hv
      obtain ⟨rfl, _, rfl⟩ := hv
      have HJ0 : Hid (ExBox h0 wr hd tl (.slice a nL c) ∧ MB wr (h0 + 1) s (.slice (some ⟨g, 0, none⟩) (s.size + 1) cv) ∧ IR wr g (s.size + 1) (e0 tl s.size) ∧ Below h0 w wr ∧ g < wr.heap.size) := ⟨hK.eb, ⟨hK.mx.lt, hK.mx.c0, hK.mx.c1⟩, hIR, hK.below, hgl⟩
      obtain ⟨x0, x1, x2, p0, p1, p2⟩ := hK.eb
      clear hK hIR
      go_wp2_with fail
      go_loopw [7] (fun v7 wr => ∃ (k : Nat) (E : Nat → Int), k ≤ nL ∧ v7 = .int .i64 ((k : Int) - 1) ∧ Hid (∀ p, p ≤ s.data.toList.length → Gre tl L s.data.toList k p (E p)) ∧ Hid (ExBox h0 wr hd tl (.slice a nL c) ∧ MB wr (h0 + 1) s (.slice (some ⟨g, 0, none⟩) (s.size + 1) cv) ∧ IR wr g (s.size + 1) E ∧ Below h0 w wr ∧ g < wr.heap.size)) (fun v7 _ => (intOf v7 + 1).toNat)
      case atStart =>
        refine ⟨nL, e0 tl s.size, Nat.le_refl _, by first | rfl | go_num, fun p hp => ?_, HJ0.out⟩
        have := gre_end tl L s.data.toList p hp
        rw [HNL.out, HL.out] at this
        exact this
      case round =>
        clear HJ0 x0 x1 x2 p0 p1 p2 hsz hgl
        obtain ⟨kk, E, hkn, rfl, HG, HJ⟩ := hrel
        obtain ⟨x0, x1, x2, p0, p1, p2⟩ := HJ.out.1
        obtain ⟨m0, m1, m2⟩ := HJ.out.2.1
        by_cases hpos : 0 < kk
        · obtain ⟨k, rfl⟩ : ∃ k, kk = k + 1 := ⟨kk - 1, by omega⟩
          have ep : (((k + 1 : Nat) : Int) - 1) = (k : Int) := by omega
          rw [ep]
          clear ep
          have hk0 : (0 : Int) ≤ (k : Int) := by omega
          have hk1 : (k : Int) < (nL : Int) := by omega
          have hkL : k < L.length := by rw [HNL.out]; omega
          obtain ⟨gi, rfl, hgi, hrg⟩ := HIT.out k hkL
          rw [HH0.out] at hgi
          have hrg2 := range_below hrg HJ.out.2.2.2.1 hgi
          have HG2 : Hid (∀ p, p ≤ s.data.toList.length → Gre tl L s.data.toList k p (layE L[k] s.data.toList E p)) := gre_lay tl L s.data.toList k hkL E HG.out
          generalize L[k] = xk at *
          clear hrg HG
          go_wp2_with (refine it_load_mid hrg2 rfl _ rfl rfl ?_)
          refine (layAhead_calls (h0 + 1) g cv s xk E wr hs HJ.out.2.1 HJ.out.2.2.1 (by omega)).mono ?_
          rintro y w4 ⟨rfl, hr4, hA4⟩
          have hgl4 := HJ.out.2.2.2.2
          have HJ4 : Hid (ExBox h0 w4 hd tl (.slice (some ⟨gi, 0, none⟩) nL c) ∧ MB w4 (h0 + 1) s (.slice (some ⟨g, 0, none⟩) (s.size + 1) cv) ∧ IR w4 g (s.size + 1) (layE xk s.data.toList E) ∧ Below h0 w w4 ∧ g < w4.heap.size) :=
            ⟨HJ.out.1.keep (hA4.block _ (by omega) (by omega)), HJ.out.2.1.keep (hA4.block _ (by omega) (by omega)) hA4.size, hr4, HJ.out.2.2.2.1.trans (hA4.below (by omega) (by omega)), hr4.lt⟩
          clear HJ hr4 hA4 hgl4 x0 x1 x2 p0 p1 p2 m0 m1 m2 hrg2
          go_wp2
          go_roundw
          case rel => exact ⟨k, layE xk s.data.toList E, by omega, by first | rfl | go_num, HG2.out, HJ4.out⟩
          case measure => first | (simp [intOf]; done) | (simp [intOf]; omega)
        · obtain rfl : kk = 0 := by omega
          have HJ1 : Hid (ExBox h0 wr hd tl (.slice a nL c) ∧ MB wr (h0 + 1) s (.slice (some ⟨g, 0, none⟩) (s.size + 1) cv) ∧ IR wr g (s.size + 1) (fun q => if 1 ≤ q ∧ q < 1 then -1 else E q) ∧ Below h0 w wr ∧ g < wr.heap.size) := ⟨HJ.out.1, HJ.out.2.1, HJ.out.2.2.1.congr (fun i _ => by rw [if_neg (by omega)]), HJ.out.2.2.2⟩
          clear HJ x0 x1 x2 p0 p1 p2 m0 m1 m2
          go_wp2_with fail
          go_loopw [8] (fun v8 wr => ∃ p : Nat, 1 ≤ p ∧ p ≤ s.size + 1 ∧ v8 = .int .i64 p ∧ (hd = false → p = 1) ∧ Hid (ExBox h0 wr hd tl (.slice a nL c) ∧ MB wr (h0 + 1) s (.slice (some ⟨g, 0, none⟩) (s.size + 1) cv) ∧ IR wr g (s.size + 1) (fun q => if 1 ≤ q ∧ q < p then -1 else E q) ∧ Below h0 w wr ∧ g < wr.heap.size)) (fun v8 _ => s.size + 1 - (intOf v8).toNat)
          case atStart => exact ⟨1, Nat.le_refl _, by omega, rfl, fun _ => rfl, HJ1.out⟩
          case round =>
            clear HJ1
            obtain ⟨p, hp1, hps, rfl, hp2, HJ⟩ := hrel
            obtain ⟨x0, x1, x2, p0, p1, p2⟩ := HJ.out.1
            obtain ⟨m0, m1, m2⟩ := HJ.out.2.1
            cases hd
            · obtain rfl : p = 1 := hp2 rfl
              clear hp2
              go_wp2
              go_ret
              refine ⟨⟨g, cv, _, rfl, HJ.out.2.2.1, fun q hq => ?_⟩, by rw [HH0.out]; exact HJ.out.2.2.2.1⟩
              rw [if_neg (by omega)]
              exact end_of _ _ _ _ (.inl rfl) (HG.out q (by rw [HL.out]; exact hq))
            · by_cases hlt : p ≤ s.size
              · have hlt1 : (p : Int) ≤ (s.size : Int) := by omega
                have hlt2 : (p : Int) < (s.size : Int) + 1 := by omega
                have hlt3 : (0 : Int) ≤ (p : Int) := by omega
                have z1 := HJ.out.2.2.1.fz p (by omega)
                have z0 := HJ.out.2.2.1.c p (by omega)
                have hgl4 := HJ.out.2.2.2.2
                clear hp2
                go_wp2
                go_roundw
                case rel =>
                  refine ⟨p + 1, by omega, by omega, by go_num, fun h => Bool.noConfusion h, HJ.out.1.keep (heap_setCell_other _ _ _ _ (by simp; omega)), HJ.out.2.1.keep (heap_setCell_other _ _ _ _ (by simp; omega)) (by simp), (HJ.out.2.2.1.set p (by omega) (-1)).congr (fun i _ => ?_), HJ.out.2.2.2.1.setCell (by simp; omega) _, by simpa using hgl4⟩
                  by_cases e1 : i = p
                  · rw [if_pos e1, if_pos (by omega)]
                  · rw [if_neg e1]
                    by_cases e2 : 1 ≤ i ∧ i < p
                    · rw [if_pos e2, if_pos (by omega)]
                    · rw [if_neg e2, if_neg (by omega)]
                case measure => first | (simp [intOf]; done) | (simp [intOf]; omega)
              · obtain rfl : p = s.size + 1 := by omega
                have hlt1 : ¬ ((s.size : Int) + 1) ≤ (s.size : Int) := by omega
                clear hp2
                go_wp2
                go_ret
                refine ⟨⟨g, cv, _, rfl, HJ.out.2.2.1, fun q hq => ?_⟩, by rw [HH0.out]; exact HJ.out.2.2.2.1⟩
                by_cases h1 : 1 ≤ q
                · rw [if_pos (by omega)]
                  exact end_head _ _ _ rfl (by omega)
                · rw [if_neg (by omega)]
                  exact end_of _ _ _ _ (.inr (by omega)) (HG.out q (by rw [HL.out]; exact hq))
end Go.Proofs.Ytlppphmnegdhoaa
