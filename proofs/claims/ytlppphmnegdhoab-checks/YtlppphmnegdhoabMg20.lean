import Derived.Test.YtlppphmnegdhoabMg18
import Derived.Test.YtlppphmnegdhoabMg19
import Derived.Test.YtlppphmnegdhoabMg15
import Derived.Test.YtlppphmnegdhoabRows
import Derived.ProofKit
import Derived.OpenShut
import Derived.ShutString
import Derived.ChangeOld
import Derived.Below
/-
  The program's scripts: Read.
-/
namespace Go.Proofs.Ytlppphmnegdhoab
set_option linter.unusedVariables false
set_option maxRecDepth 100000
open Go.RowKit
open M

theorem elPCmd : ElT 26 63 25 248 (.agg zPC.toArray) := ⟨by kernel_rfl, by kernel_rfl, rfl, by decide, by decide, by decide⟩
theorem rtScr : RowT 28 1 := ⟨⟨_, Try.underlying28, rfl⟩, by kernel_rfl⟩
/-- commands that are read, and their cells -/
def PsOk (L : List (Nat × List UInt8)) (CS : List (List Value)) : Prop := CS.length = L.length ∧ ∀ j (h : j < L.length) (h' : j < CS.length), PCmdC CS[j] L[j]
theorem PsOk.snoc {L : List (Nat × List UInt8)} {CS : List (List Value)} {c : Nat × List UInt8} {cs : List Value} (h : PsOk L CS) (hc : PCmdC cs c) : PsOk (L ++ [c]) (CS ++ [cs]) := by
  have hlen := h.1
  refine ⟨by simp [hlen], fun j hj hj' => ?_⟩
  by_cases e : j < L.length
  · rw [List.getElem_append_left (by omega), List.getElem_append_left e]
    exact h.2 j e (by omega)
  · have e2 : j = L.length := by simp at hj; omega
    subst e2
    rw [List.getElem_append_right (by omega), List.getElem_append_right (Nat.le_refl _)]
    simp [hlen]
    exact hc
theorem prow_own {w : World} {B : Nat} {a : Option Addr} {c n : Nat} {L : List (Nat × List UInt8)} {CS : List (List Value)} (h : w.ownsRow B 63 25 (.slice a n c) n CS.flatten) (hn : L.length = n) (ho : PsOk L CS) : toP L = [] ∨ ∃ g, a = some ⟨g, 0, none⟩ ∧ PRow w g (toP L) ∧ B ≤ g := by
  subst hn
  by_cases h0 : L.length = 0
  · left
    rw [List.length_eq_zero_iff] at h0
    rw [h0]; rfl
  · right
    obtain ⟨g, rfl⟩ : ∃ g, a = some ⟨g, 0, none⟩ := by
      rcases h.2 with ⟨_, hz⟩ | ⟨g, cap, cur, hv, _⟩
      · omega
      · simp at hv; exact ⟨g, hv.1⟩
    have hN : ∀ c ∈ CS, c.length = 25 := fun c hc => by
      obtain ⟨j, hj, rfl⟩ := List.getElem_of_mem hc
      exact (ho.2 j (by rw [← ho.1]; exact hj) hj).1
    have hlen : (toP L).length = L.length := by simp [toP]
    have hget : ∀ i (h : i < (toP L).length), (toP L)[i] = (L[i].1, labB L[i].2) := fun i h => by simp [toP]
    have hcell : ∀ i (hi : i < (toP L).length) j, j < 25 → ∃ (hi' : i < CS.length), w.cell? ⟨g, i * 25 + j, none⟩ = (CS[i]'hi')[j]? := fun i hi j hj => by
      have hi' : i < CS.length := by rw [ho.1, ← hlen]; exact hi
      refine ⟨hi', ?_⟩
      rw [h.cellAt (i * 25 + j) (by rw [hlen] at hi; omega)]
      exact flat_at 25 CS hN i hi' j hj
    refine ⟨g, rfl, ⟨(h.lt g rfl).2, fun i hi => ?_, fun i hi => ?_, fun i hi => ?_, fun i hi => h.frozenAt _, fun i hi => ?_, fun i hi => ?_⟩, (h.lt g rfl).1⟩
    · obtain ⟨hi', hc⟩ := hcell i hi 12 (by decide)
      rw [hc, hget i hi]
      exact (ho.2 i (by rw [← hlen]; exact hi) hi').2.2.1
    · obtain ⟨hi', hc⟩ := hcell i hi 13 (by decide)
      rw [hc, hget i hi]
      exact (ho.2 i (by rw [← hlen]; exact hi) hi').2.2.2.2
    · obtain ⟨hi', hc⟩ := hcell i hi 14 (by decide)
      have hl := (ho.2 i (by rw [← hlen]; exact hi) hi').1
      exact ⟨_, hc.trans (List.getElem?_eq_getElem (by omega))⟩
    · rw [hget i hi]
      have hi' : i < CS.length := by rw [ho.1, ← hlen]; exact hi
      exact (ho.2 i (by rw [← hlen]; exact hi) hi').2.2.2.1
    · rw [hget i hi]
      exact labB_lt _
def RsPost (s : ByteArray) (w : World) (e : Ending) (w' : World) : Prop :=
  Below w.heap.size w w' ∧ ((e = .returned (.tuple #[.agg #[.slice none 0 0], .bool false]) ∧ ∀ l, cmdsM (linesM [] s.data.toList) = some l → ¬ Linked l) ∨ ∃ (a : Option Addr) (c : Nat) (l : List (Nat × List UInt8)), e = .returned (.tuple #[.agg #[.slice a l.length c], .bool true]) ∧ cmdsM (linesM [] s.data.toList) = some l ∧ Linked l ∧ l.length ≤ 400)
theorem le_seg (s : ByteArray) (k n : Nat) (h : LeAt s k n) : (∀ c ∈ (s.extract k n).data.toList, c.toNat ≠ 10) ∧ (s.extract k n).size = n - k := by
  obtain ⟨h1, h2, h3, h4⟩ := h
  refine ⟨fun c hc => ?_, by rw [ByteArray.size_extract, Nat.min_eq_left h2]⟩
  rw [ext_seg] at hc
  obtain ⟨j, hj, rfl⟩ := List.getElem_of_mem hc
  rw [List.length_take, List.length_drop, ba_len] at hj
  rw [List.getElem_take, List.getElem_drop]
  exact h3 (k + j) (by omega) (by omega) (by omega)
/-- a line, and what is behind it -/
theorem on_line (s : ByteArray) (k n : Nat) (h : LeAt s k n) (L : List (Nat × List UInt8)) : cmdsOn L (s.data.toList.drop k) = if n = k then cmdsOn L (s.data.toList.drop (n + 1)) else (cmdM (s.extract k n).data.toList).bind (fun c => cmdsOn (L ++ [c]) (s.data.toList.drop (n + 1))) := by
  obtain ⟨hno, hsz⟩ := le_seg s k n h
  have hx := ext_seg s k n
  obtain ⟨h1, h2, h3, h4⟩ := h
  have hlen : (s.extract k n).data.toList.length = n - k := by rw [ba_len]; exact hsz
  have hemp : (s.extract k n).data.toList = [] ↔ n = k := by
    rw [← List.length_eq_zero_iff, hlen, Nat.sub_eq_zero_iff_le]
    exact ⟨fun h => Nat.le_antisymm h h1, fun h => Nat.le_of_eq h⟩
  have hlines : linesM [] (s.data.toList.drop k) = if (s.extract k n).data.toList = [] then linesM [] (s.data.toList.drop (n + 1)) else (s.extract k n).data.toList :: linesM [] (s.data.toList.drop (n + 1)) := by
    rcases h4 with h4 | ⟨h4, h5⟩
    · have e : s.data.toList.drop k = (s.extract k n).data.toList := by
        rw [hx, List.take_of_length_le (by rw [List.length_drop, ba_len]; omega)]
      have e2 : s.data.toList.drop (n + 1) = [] := List.drop_of_length_le (by rw [ba_len]; omega)
      rw [e, lines_free _ [] hno, e2, List.nil_append]
      have e3 : linesM [] [] = [] := by rw [linesM, if_pos rfl]
      rw [e3]
    · have e : s.data.toList.drop k = (s.extract k n).data.toList ++ s[n] :: s.data.toList.drop (n + 1) := by
        rw [hx, ← get_drop s n h4]
        have e9 : s.data.toList.drop n = (s.data.toList.drop k).drop (n - k) := by rw [List.drop_drop]; congr 1; omega
        rw [e9, List.take_append_drop]
      rw [e, lines_nl _ _ h5 _ [] hno, List.nil_append]
  unfold cmdsOn
  rw [hlines]
  by_cases e : n = k
  · rw [if_pos e, if_pos (hemp.2 e)]
  · rw [if_neg e, if_neg (fun h => e (hemp.1 h)), cmdsOn_step]
end Go.Proofs.Ytlppphmnegdhoab

/-
  The program's scripts: the walk of Read.
-/
namespace Go.Proofs.Ytlppphmnegdhoab
set_option linter.unusedVariables false
set_option maxRecDepth 100000
open Go.RowKit
open M

theorem led_below {a : Option Addr} {w w' : World} {B : Nat} (h : Led a w w') (hB : B ≤ w.heap.size) (hg : ∀ g, a = some ⟨g, 0, none⟩ → B ≤ g) : Below B w w' :=
  ⟨h.os, h.tape, h.output, h.size, fun k hk => h.block k (by omega) (fun g e => by have := hg g e; omega)⟩
set_option maxRecDepth 100000 in
set_option maxHeartbeats 4000000 in
theorem psread_calls (s : ByteArray) (w : World) (hs : s.size ≤ 400) :
    Calls Try.prog 8 #[.string s] w fun e w' => RsPost s w e w' := by
  have HLN : Hid (s.data.toList.length = s.size) := ba_len s
  have hr0 : CB ((w.alloc (.cells #[.slice none 0 0] 28)).alloc (.cells #[.slice none 0 0] 28)) w.heap.size [.slice none 0 0] := (CB.new w 28 #[.slice none 0 0] (by simp [Value.oneCell'])).below (B := w.heap.size + 1) ((Below.refl _ _).alloc (by simp) _) (by omega)
  have hx0 : CB ((w.alloc (.cells #[.slice none 0 0] 28)).alloc (.cells #[.slice none 0 0] 28)) (w.heap.size + 1) [.slice none 0 0] := by
    have := CB.new (w.alloc (.cells #[.slice none 0 0] 28)) 28 #[.slice none 0 0] (by simp [Value.oneCell'])
    simpa using this
  have B0 : Below w.heap.size w ((w.alloc (.cells #[.slice none 0 0] 28)).alloc (.cells #[.slice none 0 0] 28)) := ((Below.refl _ _).alloc (Nat.le_refl _) _).alloc (by simp) _
  have hsz0 : ((w.alloc (.cells #[.slice none 0 0] 28)).alloc (.cells #[.slice none 0 0] 28)).heap.size = w.heap.size + 2 := by simp
  go_enter Try.func8, Try.ntmps8
  go_wp2_with fail
  generalize ((w.alloc (.cells #[.slice none 0 0] 28)).alloc (.cells #[.slice none 0 0] 28)) = W at *
  go_loopw [5] (fun v5 wr => ∃ (k : Nat) (L : List (Nat × List UInt8)) (CS : List (List Value)) (v : Value), v5 = .int .i64 k ∧ k ≤ s.size + 1 ∧ 2 * L.length ≤ k ∧ Hid (PsOk L CS) ∧ Hid (cmdsM (linesM [] s.data.toList) = cmdsOn L (s.data.toList.drop k)) ∧ CB wr w.heap.size [.slice none 0 0] ∧ CB wr (w.heap.size + 1) [v] ∧ wr.ownsRow (w.heap.size + 2) 63 25 v L.length CS.flatten ∧ Below w.heap.size w wr ∧ w.heap.size + 2 ≤ wr.heap.size) (fun v5 _ => s.size + 1 - (intOf v5).toNat)
  case atStart =>
    refine ⟨0, [], [], .slice none 0 0, rfl, Nat.zero_le _, Nat.zero_le _, ⟨rfl, fun j h => by simp at h⟩, ?_, hr0, hx0, World.ownsRow_nil _ _ _ _, B0, by omega⟩
    show _ = _
    rw [List.drop_zero, cmdsOn_all]
  case round =>
    clear hr0 hx0 B0 hsz0
    obtain ⟨k, L, CS, v, rfl, hks, hLk, HPS, HCM, hr, hx, hown, hB, hsz⟩ := hrel
    obtain ⟨av, cv, hvv⟩ := own_form hown
    subst hvv
    obtain ⟨nL, hnL⟩ : ∃ n, L.length = n := ⟨_, rfl⟩
    have HNL : Hid (L.length = nL) := hnL
    rw [hnL] at hLk hown hx
    clear hnL
    by_cases hlt : k < s.size
    · have hlt1 : (k : Int) < (s.size : Int) := by omega
      have hk0 : (0 : Int) ≤ (k : Int) := by omega
      go_wp2_with fail
      refine (lineEnd_calls s k wr hs (by omega)).mono ?_
      rintro e w1 ⟨⟨n, rfl, hle⟩, rfl⟩
      have HSTEP : Hid (cmdsM (linesM [] s.data.toList) = if n = k then cmdsOn L (s.data.toList.drop (n + 1)) else (cmdM (s.extract k n).data.toList).bind (fun c => cmdsOn (L ++ [c]) (s.data.toList.drop (n + 1)))) := by
        show _ = _
        rw [HCM.out, on_line s k n hle L]
      obtain ⟨hno, hxs⟩ := le_seg s k n hle
      have HNO : Hid (NoNL (s.extract k n)) := hno
      have HXS : Hid ((s.extract k n).size ≤ 400) := by show _ ≤ _; rw [hxs]; have := hle.2.1; omega
      have hkn := hle.1
      have hns := hle.2.1
      clear hle HCM hno hxs
      by_cases hnk : n = k
      · have HC : Hid (cmdsM (linesM [] s.data.toList) = cmdsOn L (s.data.toList.drop (k + 1))) := by show _ = _; rw [HSTEP.out, if_pos hnk, hnk]
        subst hnk
        have hgt : ¬ (n : Int) < (n : Int) := by omega
        clear HSTEP
        go_wp2
        go_roundw
        case rel => exact ⟨n + 1, L, CS, _, by go_num, by omega, by rw [HNL.out]; omega, HPS, HC, hr, hx, by rw [HNL.out]; exact hown, hB, hsz⟩
        case measure => first | (simp [intOf]; done) | (simp [intOf]; omega)
      · have hgt : (k : Int) < (n : Int) := by omega
        have hkn1 : (k : Int) ≤ (n : Int) := by omega
        have hns1 : (n : Int) ≤ (s.size : Int) := by omega
        have HC : Hid (cmdsM (linesM [] s.data.toList) = (cmdM (s.extract k n).data.toList).bind (fun c => cmdsOn (L ++ [c]) (s.data.toList.drop (n + 1)))) := by show _ = _; rw [HSTEP.out, if_neg hnk]
        clear HSTEP
        go_wp2_with fail
        refine (readCommand_calls (s.extract k n) _ HXS.out HNO.out).mono ?_
        rintro e w2 ⟨B2, cs, hcl, hc1, hor⟩
        have hs2 := B2.size
        have hr2 := hr.below B2 hr.lt
        have hx2 := hx.below B2 hx.lt
        have hown2 := ownsRow_below hown B2
        have hB2 : Below w.heap.size w w2 := hB.trans (B2.mono (by omega))
        have hbn : CB (w2.alloc (.cells zPC.toArray 63)) w2.heap.size zPC := CB.new w2 _ _ zPC_one
        have BA : Below w2.heap.size w2 (w2.alloc (.cells zPC.toArray 63)) := (Below.refl _ _).alloc (Nat.le_refl _) _
        have hr3 := hr2.below BA hr2.lt
        have hx3 := hx2.below BA hx2.lt
        have hown3 := ownsRow_below hown2 BA
        have hB3 := hB2.trans (BA.mono (by omega))
        have hsz3 : (w2.alloc (.cells zPC.toArray 63)).heap.size = w2.heap.size + 1 := by simp
        have hne : (Value.slice av nL cv).ownBlock ≠ some w2.heap.size := fun e => by have := (hown2.lt _ e).2; omega
        clear hr hx hown hB B2 hr2 hx2 hown2 hB2 BA
        rcases hor with ⟨hno, rfl⟩ | ⟨cm, hsome, hcc, rfl⟩
        · have HF : Hid (cmdsM (linesM [] s.data.toList) = none) := by show _ = _; rw [HC.out, hno]; rfl
          clear hno HC
          go_wp2_with (first
            | (refine cb_store0 rtPCmd hbn rfl rfl _ _ rfl rfl rfl hcl hc1 ?_; intro w5 hb5 O5; have hr5 := hr3.keep (O5.block _ (by omega)) (by rw [O5.size]; exact Nat.le_refl _))
            | (refine cb_store0 rtScr hr5 rfl rfl _ _ rfl rfl (vs := [.slice none 0 0]) rfl rfl (by simp [Value.oneCell']) ?_; intro w8 hb8 O8))
          refine bodyPost_ret (results_cb rfl _ _ _ _ rfl rtScr hb8 rfl) rfl ?_
          exact ⟨(hB3.trans (O5.below (by omega))).trans (O8.below (Nat.le_refl _)), .inl ⟨rfl, fun l hl => by rw [HF.out] at hl; cases hl⟩⟩
        · have HC3 : Hid (cmdsM (linesM [] s.data.toList) = cmdsOn (L ++ [cm]) (s.data.toList.drop (n + 1))) := by show _ = _; rw [HC.out, hsome]; rfl
          have HPS2 : Hid (PsOk (L ++ [cm]) (CS ++ [cs])) := HPS.out.snoc hcc
          clear hsome hcc HC HPS
          go_wp2_with (first
            | (refine cb_store0 rtPCmd hbn rfl rfl _ _ rfl rfl rfl hcl hc1 ?_
               intro w5 hb5 O5
               have hr5 := hr3.keep (O5.block _ (by omega)) (by rw [O5.size]; exact Nat.le_refl _)
               have hx5 := hx3.keep (O5.block _ (by omega)) (by rw [O5.size]; exact Nat.le_refl _)
               have hown5 := ownsRow_only hown3 O5 hne
               have hB5 := hB3.trans (O5.below (B := w.heap.size) (by omega))
               have hs5 : w5.heap.size = w2.heap.size + 1 := by rw [O5.size]; exact hsz3
               have c5 := hx5.c 0 _ rfl
               have l5 := hx5.lt)
            | refine cb_load0 rtPCmd hb5 hcl rfl _ rfl rfl ?_
            | refine gb_build elPCmd rfl _ rfl cs rfl hcl ?_
            | (refine gb_append elPCmd (hown5.alloc _) w5.heap.size cs (heap_alloc_new w5 _) hcl hc1 (by omega) (by simp; omega) rfl _ _ rfl rfl rfl ?_
               intro v' w6 hown6 hgrow6
               have hB6 : Below (w.heap.size + 2) w5 w6 := ((Below.refl _ _).alloc (by omega) _).grown hgrow6 (by simp; omega) (fun k hk => (hown5.lt k hk).1)
               have hr6 := hr5.below hB6 (by omega)
               have hx6 := hx5.below hB6 (by omega)
               have hB7 := hB5.trans (hB6.mono (by omega))
               have hs6 := hB6.size
               obtain ⟨av', cv', hvv⟩ := own_form hown6
               subst hvv
               have f6 := hx6.fz 0 (by simp)
               have c6 := hx6.c 0 _ rfl
               have l6 := hx6.lt
               clear hgrow6))
          have hx8 := hx6.set 0 (by simp) (.slice av' (nL + 1) cv') rfl
          have hr8 := hr6.keep (heap_setCell_other w6 ⟨w.heap.size + 1, 0, none⟩ w.heap.size (.slice av' (nL + 1) cv') (by simp)) (by simp)
          have hown8 := ownsRow_setCell_below hown6 (a := ⟨w.heap.size + 1, 0, none⟩) (by simp) (.slice av' (nL + 1) cv')
          have hB8 := hB7.setCell (p := ⟨w.heap.size + 1, 0, none⟩) (by simp) (.slice av' (nL + 1) cv')
          go_roundw
          case rel =>
            refine ⟨n + 1, L ++ [cm], CS ++ [cs], _, by go_num, by omega, by rw [List.length_append, HNL.out]; simp; omega, HPS2, HC3, hr8, hx8, ?_, hB8, by simp; omega⟩
            rw [List.length_append, HNL.out, List.flatten_append]
            simpa using hown8
          case measure => first | (simp [intOf]; done) | (simp [intOf]; omega)
    · have hlt1 : ¬ (k : Int) < (s.size : Int) := by omega
      have HF : Hid (cmdsM (linesM [] s.data.toList) = some L) := by
        show _ = _
        rw [HCM.out, List.drop_of_length_le (by rw [HLN.out]; omega), cmdsOn_nil]
      have HLV : Hid (Linked L ↔ (brkN (toP L) 0 = true ∧ ∀ i (h : i < (toP L).length), LabN1 (toP L) i h)) := linked_same L (cmds_labV _ L HF.out)
      have hlenP : (toP L).length = nL := by rw [← HNL.out]; simp [toP]
      have HSC : Hid (ScrAt wr (w.heap.size + 1) av cv (toP L)) := by
        refine ⟨hx.lt, by rw [hlenP]; exact hx.c 0 _ rfl, ?_, by rw [hlenP]; omega⟩
        rcases prow_own hown HNL.out HPS.out with h | ⟨g, h1, h2, h3⟩
        · exact .inl h
        · exact .inr ⟨g, h1, h2, by omega⟩
      have HAV : Hid (∀ g, av = some ⟨g, 0, none⟩ → w.heap.size + 2 ≤ g) := fun g e => by
        subst e
        exact (hown.lt g rfl).1
      clear HCM hlenP
      go_wp2_with fail
      refine (pairBrackets_calls (w.heap.size + 1) av cv (toP L) wr HSC.out).mono ?_
      rintro e w2 ⟨rfl, hsc2, led2⟩
      go_wp2_with fail
      refine (leadToLabels_calls (w.heap.size + 1) av cv (toP L) w2 hsc2).mono ?_
      rintro e w3 ⟨r, rfl, hr3, hsc3, led3⟩
      have hB3 : Below (w.heap.size + 2) wr w3 := (led_below led2 hsz HAV.out).trans (led_below led3 (by have := led2.size; omega) HAV.out)
      have hr4 := hr.below hB3 (by omega)
      have hx4 := hx.below hB3 (by omega)
      have hB4 := hB.trans (hB3.mono (by omega))
      have HLK : Hid (Linked L ↔ brkN (toP L) 0 = true ∧ r = true) := by
        show _ ↔ _
        rw [HLV.out, hr3]
      clear hsc2 hsc3 led2 led3 hr3 HSC HLV hr hx hB
      generalize hpb : brkN (toP L) 0 = pb at *
      clear hpb
      by_cases hok : pb = true ∧ r = true
      · obtain ⟨rfl, rfl⟩ := hok
        have HL2 : Hid (Linked L) := HLK.out.2 ⟨rfl, rfl⟩
        clear HLK
        go_wp2_with (first
          | refine cb_load0 rtScr hx4 rfl rfl _ rfl rfl ?_
          | (refine cb_store0 rtScr hr4 rfl rfl _ _ rfl rfl (vs := [.slice av nL cv]) rfl rfl (by simp [Value.oneCell']) ?_; intro w8 hb8 O8))
        refine bodyPost_ret (results_cb rfl _ _ _ _ rfl rtScr hb8 rfl) rfl ?_
        exact ⟨hB4.trans (O8.below (Nat.le_refl _)), .inr ⟨av, cv, L, by rw [HNL.out]; rfl, HF.out, HL2.out, by rw [HNL.out]; omega⟩⟩
      · have HL2 : Hid (¬ Linked L) := fun h => hok (HLK.out.1 h)
        clear HLK
        have hcase : pb = false ∨ (pb = true ∧ r = false) := by cases pb <;> cases r <;> simp_all
        clear hok
        rcases hcase with rfl | ⟨rfl, rfl⟩
        · go_wp2_with (refine cb_store0 rtScr hr4 rfl rfl _ _ rfl rfl (vs := [.slice none 0 0]) rfl rfl (by simp [Value.oneCell']) ?_; intro w8 hb8 O8)
          refine bodyPost_ret (results_cb rfl _ _ _ _ rfl rtScr hb8 rfl) rfl ?_
          exact ⟨hB4.trans (O8.below (Nat.le_refl _)), .inl ⟨rfl, fun l hl hk => by rw [HF.out] at hl; cases hl; exact HL2.out hk⟩⟩
        · go_wp2_with (refine cb_store0 rtScr hr4 rfl rfl _ _ rfl rfl (vs := [.slice none 0 0]) rfl rfl (by simp [Value.oneCell']) ?_; intro w8 hb8 O8)
          refine bodyPost_ret (results_cb rfl _ _ _ _ rfl rtScr hb8 rfl) rfl ?_
          exact ⟨hB4.trans (O8.below (Nat.le_refl _)), .inl ⟨rfl, fun l hl hk => by rw [HF.out] at hl; cases hl; exact HL2.out hk⟩⟩
end Go.Proofs.Ytlppphmnegdhoab

/-
  The program's scripts: readScript, Check; Checks.
-/
namespace Go.Proofs.Ytlppphmnegdhoab
set_option linter.unusedVariables false
set_option maxRecDepth 100000
open Go.RowKit
open M

def SrPost (s : ByteArray) (w : World) (e : Ending) (w' : World) : Prop :=
  Below w.heap.size w w' ∧ ∃ (a : Option Addr) (n c : Nat) (x : Int), e = .returned (.tuple #[.agg #[.slice a n c], .int .i64 x]) ∧
    ((400 < s.size ∧ x = 1) ∨ (s.size ≤ 400 ∧ ((x = 2 ∧ ∀ l, cmdsM (linesM [] s.data.toList) = some l → ¬ Linked l) ∨ ∃ l : List (Nat × List UInt8), x = 0 ∧ n = l.length ∧ cmdsM (linesM [] s.data.toList) = some l ∧ Linked l ∧ l.length ≤ 400)))
set_option maxRecDepth 100000 in
set_option maxHeartbeats 1000000 in
theorem readScript_calls (s : ByteArray) (w : World) (hs : s.size ≤ maxLen) :
    Calls Try.prog 6 #[.string s] w fun e w' => SrPost s w e w' := by
  unfold maxLen at hs
  have hr0 : CB (w.alloc (.cells #[.slice none 0 0] 28)) w.heap.size [.slice none 0 0] := CB.new w 28 #[.slice none 0 0] (by simp [Value.oneCell'])
  have B0 : Below w.heap.size w (w.alloc (.cells #[.slice none 0 0] 28)) := (Below.refl _ _).alloc (Nat.le_refl _) _
  by_cases h1 : 400 < s.size
  · have h11 : (400 : Int) < (s.size : Int) := by omega
    go_enter Try.func6, Try.ntmps6
    go_wp2_with (refine cb_store0 rtScr hr0 rfl rfl _ _ rfl rfl (vs := [.slice none 0 0]) rfl rfl (by simp [Value.oneCell']) ?_; intro w8 hb8 O8)
    refine bodyPost_ret (results_cb rfl _ _ _ _ rfl rtScr hb8 rfl) rfl ?_
    exact ⟨B0.trans (O8.below (Nat.le_refl _)), none, 0, 0, 1, rfl, .inl ⟨h1, rfl⟩⟩
  · have h11 : ¬ (400 : Int) < (s.size : Int) := by omega
    have h12 : s.size ≤ 400 := by omega
    have hsz0 : (w.alloc (.cells #[.slice none 0 0] 28)).heap.size = w.heap.size + 1 := by simp
    go_enter Try.func6, Try.ntmps6
    go_wp2_with fail
    generalize w.alloc (.cells #[.slice none 0 0] 28) = W at *
    refine (psread_calls s W h12).mono ?_
    rintro e w2 ⟨B2, hor⟩
    have hs2 := B2.size
    have hr2 := hr0.below B2 hr0.lt
    have hB2 := B0.trans (B2.mono (by omega))
    have hbn : CB (w2.alloc (.cells #[.slice none 0 0] 28)) w2.heap.size [.slice none 0 0] := CB.new w2 28 #[.slice none 0 0] (by simp [Value.oneCell'])
    have hr3 := hr2.below ((Below.refl w2.heap.size w2).alloc (Nat.le_refl _) (.cells #[.slice none 0 0] 28)) hr2.lt
    have hB3 := hB2.alloc (o := .cells #[.slice none 0 0] 28) (by omega)
    rcases hor with ⟨rfl, hno⟩ | ⟨a, c, l, rfl, hsome, hlk, hl⟩
    · have HNO : Hid (∀ l, cmdsM (linesM [] s.data.toList) = some l → ¬ Linked l) := hno
      clear hno
      go_wp2_with (first
        | (refine cb_store0 rtScr hbn rfl rfl _ _ rfl rfl (vs := [.slice none 0 0]) rfl rfl (by simp [Value.oneCell']) ?_; intro w5 hb5 O5; have hr5 := hr3.keep (O5.block _ (by omega)) (by rw [O5.size]; exact Nat.le_refl _))
        | (refine cb_store0 rtScr hr5 rfl rfl _ _ rfl rfl (vs := [.slice none 0 0]) rfl rfl (by simp [Value.oneCell']) ?_; intro w8 hb8 O8))
      refine bodyPost_ret (results_cb rfl _ _ _ _ rfl rtScr hb8 rfl) rfl ?_
      exact ⟨(hB3.trans (O5.below (by omega))).trans (O8.below (Nat.le_refl _)), none, 0, 0, 2, rfl, .inr ⟨h12, .inl ⟨rfl, HNO.out⟩⟩⟩
    · have HS : Hid (cmdsM (linesM [] s.data.toList) = some l ∧ Linked l ∧ l.length ≤ 400) := ⟨hsome, hlk, hl⟩
      clear hsome hlk hl
      go_wp2_with (first
        | (refine cb_store0 rtScr hbn rfl rfl _ _ rfl rfl (vs := [.slice a l.length c]) rfl rfl (by simp [Value.oneCell']) ?_; intro w5 hb5 O5; have hr5 := hr3.keep (O5.block _ (by omega)) (by rw [O5.size]; exact Nat.le_refl _))
        | refine cb_load0 rtScr hb5 rfl rfl _ rfl rfl ?_
        | (refine cb_store0 rtScr hr5 rfl rfl _ _ rfl rfl (vs := [.slice a l.length c]) rfl rfl (by simp [Value.oneCell']) ?_; intro w8 hb8 O8))
      refine bodyPost_ret (results_cb rfl _ _ _ _ rfl rtScr hb8 rfl) rfl ?_
      exact ⟨(hB3.trans (O5.below (by omega))).trans (O8.below (Nat.le_refl _)), a, l.length, c, 0, rfl, .inr ⟨h12, .inr ⟨l, rfl, rfl, HS.out⟩⟩⟩
set_option maxRecDepth 100000 in
set_option maxHeartbeats 1000000 in
theorem pcheck_calls (s : ByteArray) (w : World) (hs : s.size ≤ maxLen) :
    Calls Try.prog 4 #[.string s] w fun e w' => CkPost s w e w' := by
  go_enter Try.func4, Try.ntmps4
  go_wp2_with fail
  refine (readScript_calls s w hs).mono ?_
  rintro e w2 ⟨B2, a, n, c, x, rfl, hor⟩
  have hbn : CB (w2.alloc (.cells #[.slice none 0 0] 28)) w2.heap.size [.slice none 0 0] := CB.new w2 28 #[.slice none 0 0] (by simp [Value.oneCell'])
  have hB3 := B2.alloc (o := .cells #[.slice none 0 0] 28) B2.size
  have hs2 := B2.size
  have HS : Hid (CheckSpec s (if x = 0 then (n : Int) else 0) x) := by
    rcases hor with ⟨h1, rfl⟩ | ⟨h1, ⟨rfl, hno⟩ | ⟨l, rfl, rfl, h2, h3, h4⟩⟩
    · exact .inl ⟨h1, rfl, rfl⟩
    · exact .inr ⟨h1, .inl ⟨hno, rfl, rfl⟩⟩
    · exact .inr ⟨h1, .inr ⟨l, h2, h3, rfl, rfl⟩⟩
  have hx : x = 1 ∨ x = 2 ∨ x = 0 := by
    rcases hor with ⟨_, h⟩ | ⟨_, ⟨h, _⟩ | ⟨l, h, _⟩⟩
    · exact .inl h
    · exact .inr (.inl h)
    · exact .inr (.inr h)
  clear hor
  rcases hx with rfl | rfl | rfl
  · go_wp2_with (refine cb_store0 rtScr hbn rfl rfl _ _ rfl rfl (vs := [.slice a n c]) rfl rfl (by simp [Value.oneCell']) ?_; intro w5 hb5 O5)
    go_ret2
    exact ⟨⟨0, 1, rfl, HS.out⟩, hB3.trans (O5.below (by omega))⟩
  · go_wp2_with (refine cb_store0 rtScr hbn rfl rfl _ _ rfl rfl (vs := [.slice a n c]) rfl rfl (by simp [Value.oneCell']) ?_; intro w5 hb5 O5)
    go_ret2
    exact ⟨⟨0, 2, rfl, HS.out⟩, hB3.trans (O5.below (by omega))⟩
  · go_wp2_with (refine cb_store0 rtScr hbn rfl rfl _ _ rfl rfl (vs := [.slice a n c]) rfl rfl (by simp [Value.oneCell']) ?_; intro w5 hb5 O5; have c5 := hb5.c 0 _ rfl; have l5 := hb5.lt)
    go_ret2
    exact ⟨⟨n, 0, rfl, HS.out⟩, hB3.trans (O5.below (by omega))⟩
end Go.Proofs.Ytlppphmnegdhoab

/-
  The statement on Check.
-/
namespace Go.Proofs.Ytlppphmnegdhoab
set_option linter.unusedVariables false
set_option maxRecDepth 100000
open Go.ChangeShapes Go.WideShapes Go.ChangeAt Go.RowKit
open Go.ChangeMaps (open_string shut_string)
open M

theorem own_nil : ownKnob Try.prog.godebug = none := by kernel_rfl
set_option maxRecDepth 100000 in
set_option maxHeartbeats 1000000 in
theorem checks_walk (s : ByteArray) (hs : s.size ≤ maxLen) (w : World) :
    Calls Try.prog 3 #[.string s] w fun e w' => e = .returned (.bool true) ∧ Below w.heap.size w w' := by
  go_enter Try.func3, Try.ntmps3
  go_wp2_with fail
  refine (pcheck_calls s _ hs).mono ?_
  rintro e w1 ⟨⟨x, y, rfl, h1⟩, b1⟩
  go_wp2_with fail
  refine (dcheck_calls s _ hs).mono ?_
  rintro e w2 ⟨⟨x', y', rfl, h2⟩, b2⟩
  obtain ⟨e1, e2⟩ := checkSpec_same h1 h2
  subst e1 e2
  clear h1 h2
  go_wp2
  go_ret
  exact ⟨rfl, b1.trans (b2.mono b1.size)⟩

set_option maxRecDepth 100000 in
theorem checks_lifted (os : Os) (started : os.Started) (H : Type) (enc : TypeId × Value → H) :
    ReturnsInHanded {} Try.checked os 3 .any (Rows.checksSpec.pre6 enc Try.prog Try.f3 Rows.checksRow.domain false) (Rows.checksSpec.post enc Try.prog Try.f3 false true false false) := by
  refine returnsInHanded_of_change (C := Try.checked) own_nil started (by kernel_rfl) Try.func3
    (ChangeSpec.witness6 (enc := enc) (C := Try.checked) false ⟨#[], #[.string ByteArray.empty], []⟩ 8 (by kernel_rfl) (by kernel_rfl) (by kernel_rfl) (by kernel_rfl)) ?_
  intro W base args ds gs before hval0 hW hcnd _
  have hval : ∀ (j : Nat) t v, Try.f3.params[j]? = some t → args[j]? = some v → Value.okWide Try.prog W .any base t v := hval0
  have hW' := hW
  obtain ⟨p, q, hA0, hV, rfl, hfz, hnd⟩ := hW
  have hA : DataW.TrodAll enc Try.prog W 0 (fun _ => true) true Try.f3.params.toList args.toList ds p := hA0
  rw [Try.params3] at hA hval
  obtain ⟨v0, vs0, d0, ds0, p0, q0, hargs, rfl, rfl, h0, r0⟩ := trodAll_cons hA
  obtain ⟨rfl, rfl, rfl⟩ := trodAll_nil r0
  obtain rfl : args = #[v0] := by cases args; simp_all
  obtain ⟨rfl, rfl⟩ := trodVars_none hV
  obtain ⟨a0, rfl, rfl, rfl, w0⟩ := open_string Try.underlying9 (hval 0 9 v0 rfl rfl) h0
  clear hA0 hval0
  refine (checks_walk a0 w0 W).mono fun e W' ⟨he, bel⟩ => ?_
  subst he
  exact ⟨_, rfl, _, _, _, [], _, [], hW', trodAll_mk1 (shut_bool Try.underlying4 _), (trodAll_cons_mk (shut_string Try.underlying9 w0) trodAll_mk0), rfl, bel.frame _, fun h => by cases h⟩

theorem checks_holds : Rows.ChecksSaid :=
  OpenClaim.holds_of_wide 3 Try.f3 rfl rfl rfl rfl rfl rfl rfl ⟨rfl, rfl, rfl, rfl, rfl⟩ rfl rfl rfl rfl rfl (by kernel_rfl) Try.func3 (by kernel_rfl)
    (of_decide_eq_true (by kernel_rfl)) (by unfold Func.isWrapper; first | (rw [if_pos (by decide +kernel)]; kernel_rfl) | (rw [if_neg (by decide +kernel)]; exact ⟨rfl, rfl⟩))
    (fun os started H enc _ => checks_lifted os started H enc)
#print axioms checks_holds
end Go.Proofs.Ytlppphmnegdhoab
