import Derived.Test.YtlppphmnegdhoabGreatDoorRows
import Derived.WalkKit
import Derived.WalkSpells
import Derived.WalkLawsBesides
import Derived.Laws.BitsLemmas
import Derived.Deep.QuietTactic
import Derived.BigQuiet
import Derived.Lib.Strings
import Derived.Laws.BytesArg
import Derived.Deep.MidRow
import Derived.Deep.WholeRow
import Derived.Laws.ResultCell
import Derived.Deep.CutBlock
import Derived.Deep.DeepCutAuto
import Derived.Deep.RegionHeld3
import Derived.Deep.DrawnRows
import Derived.Deep.AppendLies
import Derived.Deep.RegionLaw
import Derived.Great.BuildSlice
import Derived.Lib.ItoaNum
import Derived.Laws.AppendOwnNone
import Derived.Laws.OwnMore
import Derived.Lib.AppendStr
import Derived.Deep.RegionWith
import Derived.Shelf.LaysM
import Derived.Shelf.Strconv.Itoa3
import Derived.Test.YtlppphmnegdhoabGreatDoorProg
import Derived.RegionTactic
import Derived.Test.YtlppphmnegdhoabGreatDoorMa8
namespace Go.Proofs.YtlppphmnegdhoabGreatDoor
set_option linter.unusedVariables false
set_option maxRecDepth 100000
open Go.RowKit
open M

theorem brk_push {L : List (Nat × Nat)} {S : List Nat} {i : Nat} (h : Opn' L S i) : ∀ k, brkF L S i k = brkF L (S ++ [i]) (i + 1) k := fun k => by
  unfold brkF
  by_cases e : k < i ∧ nmA L k = 123 ∧ ¬ k ∈ S
  · rw [if_pos e, if_pos ⟨by omega, e.2.1, fun hm => by
      rcases List.mem_append.1 hm with hm | hm
      · exact e.2.2 hm
      · simp at hm; omega⟩]
  · rw [if_neg e, if_neg (fun g => e ⟨by
      have h1 : k ≠ i := fun e1 => g.2.2 (by rw [e1]; simp)
      omega, g.2.1, fun hm => g.2.2 (by simp [hm])⟩)]
theorem brk_pop {L : List (Nat × Nat)} {S : List Nat} {x i : Nat} (h : Opn' L (S ++ [x]) i) (hi : i < L.length) (hn : nmA L i = 125) : ∀ k, (if k = x then i + 1 else brkF L (S ++ [x]) i k) = brkF L S (i + 1) k := fun k => by
  obtain ⟨h1, h2, h3, h4, h5⟩ := h.pop hi hn
  unfold brkF
  by_cases e : k = x
  · subst e
    rw [if_pos rfl, if_pos ⟨by omega, h5, h3⟩, h2]
  · rw [if_neg e]
    by_cases e2 : k < i ∧ nmA L k = 123 ∧ ¬ k ∈ S ++ [x]
    · rw [if_pos e2, if_pos ⟨by omega, e2.2.1, fun hm => e2.2.2 (by simp [hm])⟩]
    · rw [if_neg e2, if_neg (fun g => e2 ⟨by
        have h9 : k ≠ i := fun e1 => by have := g.2.1; rw [e1, hn] at this; omega
        omega, g.2.1, fun hm => by
        rcases List.mem_append.1 hm with hm | hm
        · exact g.2.2 hm
        · simp at hm; exact e hm⟩)]
theorem brk_skip (L : List (Nat × Nat)) (S : List Nat) (i k : Nat) (h : nmA L i ≠ 123) : brkF L S i k = brkF L S (i + 1) k := by
  unfold brkF
  by_cases e : k < i ∧ nmA L k = 123 ∧ ¬ k ∈ S
  · rw [if_pos e, if_pos ⟨by omega, e.2⟩]
  · rw [if_neg e, if_neg (fun g => e ⟨by
      have h1 : k ≠ i := fun e1 => h (by rw [← e1]; exact g.2.1)
      omega, g.2⟩)]
def PbvPost (b : Nat) (a : Option Addr) (c : Nat) (CS : List (List Value)) (L : List (Nat × Nat)) (w : World) (e : Ending) (w' : World) : Prop :=
  e = .returned (.bool (brkN L 0)) ∧ (brkN L 0 = true → VScr w' b a c CS L (fun k => if nmA L k = 123 then behN L k else 0)) ∧ ScrAt w' b a c L ∧ Led a w w'
set_option maxRecDepth 100000 in
set_option maxHeartbeats 1000000 in
theorem vBrackets_calls (b : Nat) (a : Option Addr) (c : Nat) (CS : List (List Value)) (L : List (Nat × Nat)) (w : World) (hS : VScr w b a c CS L (fun _ => 0)) :
    Calls Tryz.prog 91 #[.pointer (some ⟨b, 0, none⟩)] w fun e w' => PbvPost b a c CS L w e w' := by
  have hfew := hS.few
  have hc0 := hS.c0
  have hbl := hS.lt
  have HG : Hid (L = [] ∨ ∃ g, a = some ⟨g, 0, none⟩ ∧ g < w.heap.size) := by
    rcases hS.vrow with h | ⟨g, h1, h2, _⟩
    · exact .inl h
    · exact .inr ⟨g, h1, h2.lt⟩
  obtain ⟨n, hn⟩ : ∃ n, L.length = n := ⟨_, rfl⟩
  have HN : Hid (L.length = n) := hn
  rw [hn] at hc0 hfew
  have HS : Hid (VScr w b a c CS L (fun _ => 0)) := hS
  clear hn hS
  go_enter Tryz.func91, Tryz.ntmps91
  go_wp2_with fail
  go_loopw [3, 4, 5, 11] (fun v3 _ _ v11 wr => ∃ (i : Nat) (S : List Nat), i ≤ n ∧ v11 = .int .i64 i ∧ S.length ≤ i ∧ Hid (∀ k ∈ S, k < n) ∧ Hid (Opn' L S i) ∧ Hid (VScr wr b a c CS L (brkF L S i) ∧ Led a w wr) ∧ Hid (brkN L 0 = brkN (L.drop i) S.length) ∧ wr.ownsRow w.heap.size 3 1 v3 S.length (natC S)) (fun _ _ _ v11 _ => n - (intOf v11).toNat)
  case atStart => exact ⟨0, [], Nat.zero_le _, rfl, Nat.zero_le _, fun k h => by simp at h, Opn'.nil L, ⟨HS.out.congr (fun k _ => (if_neg (fun h => by omega)).symm), Led.refl _ _⟩, by show _ = _; rw [List.drop_zero]; rfl, World.ownsRow_nil _ _ _ _⟩
  case round =>
    clear hc0 HS
    obtain ⟨i, S, hi, rfl, hSi, HSK, HOP, HW, HB, hown⟩ := hrel
    obtain ⟨av, cv, hvv⟩ := own_form hown
    subst hvv
    have hc0 := HW.out.1.c0
    rw [HN.out] at hc0
    have hbl2 := HW.out.1.lt
    have hsz := HW.out.2.size
    by_cases hlt : i < n
    · have hlt1 : (i : Int) < (n : Int) := by omega
      have h0 : (0 : Int) ≤ (i : Int) := by omega
      have hiL : i < L.length := by rw [HN.out]; exact hlt
      obtain ⟨g, rfl, hpr, hgb⟩ : ∃ g, a = some ⟨g, 0, none⟩ ∧ PRow wr g L ∧ g ≠ b := by
        rcases HW.out.1.toScr.row with h | h
        · rw [h] at hiL; simp at hiL
        · exact h
      have hgw : g < w.heap.size := by
        rcases HG.out with h | ⟨g', h, h2⟩
        · rw [h] at hiL; simp at hiL
        · simp at h; omega
      have d1 := hpr.nm i hiL
      have hgl := hpr.lt
      have e1 := hpr.b1 i hiL
      have HB2 : Hid (brkN L 0 = if L[i].1 = 123 then brkN (L.drop (i + 1)) (S.length + 1) else if L[i].1 = 125 then (if S.length = 0 then false else brkN (L.drop (i + 1)) (S.length - 1)) else brkN (L.drop (i + 1)) S.length) := by
        show _ = _
        rw [HB.out, List.drop_eq_getElem_cons hiL, brkN_cons]
      have HYA : Hid (nmA L i = L[i].1) := nmA_eq L i hiL
      generalize L[i].1 = y at *
      clear HB
      by_cases h123 : y = 123
      · have h1231 : ((y : Int) == 123) = true := by simp [h123]
        have HB3 : Hid (brkN L 0 = brkN (L.drop (i + 1)) (S ++ [i]).length) := by show _ = _; rw [HB2.out, if_pos h123, List.length_append]; rfl
        have HOP2 : Hid (Opn' L (S ++ [i]) (i + 1)) := HOP.out.push hiL (by rw [HYA.out]; exact h123)
        have HBF : Hid (∀ k, brkF L S i k = brkF L (S ++ [i]) (i + 1) k) := brk_push HOP.out
        have HSK2 : Hid (∀ k ∈ S ++ [i], k < n) := fun k hk => by
          rcases List.mem_append.1 hk with hk | hk
          · exact HSK.out k hk
          · simp at hk; omega
        clear h123 HB2 hpr
        go_wp2_with (refine gb_append elInt (hown.alloc _) wr.heap.size [.int .i64 (i : Int)] (heap_alloc_new wr _) rfl (by simp [Value.oneCell']) (by omega) (by simp; omega) rfl _ _ rfl rfl rfl ?_
                     intro v' w6 hown6 hgrow6
                     have hs6 := hgrow6.size
                     have hB6 : Below w.heap.size wr w6 := ((Below.refl _ _).alloc (by omega) _).grown hgrow6 (by simp; omega) (fun k hk => (hown.lt k hk).1)
                     have hW6 : VScr w6 b (some ⟨g, 0, none⟩) c CS L (brkF L (S ++ [i]) (i + 1)) := by
                       refine VScr.congr (N := brkF L S i) ⟨by simp at hs6; omega, (hB6.cell (by exact hbl)).trans HW.out.1.c0, ?_, HW.out.1.few, HW.out.1.ok⟩ (fun k _ => HBF.out k)
                       rcases HW.out.1.vrow with h | ⟨g', ha, hp, hg'⟩
                       · exact .inl h
                       · simp at ha; subst ha
                         exact .inr ⟨g, rfl, hp.keep (hB6.block g hgw) hB6.size, hg'⟩
                     have hL6 : Led (some ⟨g, 0, none⟩) w w6 := ⟨hB6.os.trans HW.out.2.os, hB6.tape.trans HW.out.2.tape, hB6.output.trans HW.out.2.output, Nat.le_trans HW.out.2.size hB6.size, fun k hk hg => (hB6.block k hk).trans (HW.out.2.block k hk hg)⟩
                     obtain ⟨av', cv', hvv⟩ := own_form hown6
                     subst hvv
                     clear hgrow6)
        go_roundw
        case rel =>
          refine ⟨i + 1, S ++ [i], by omega, by go_num, by rw [List.length_append]; simp; omega, HSK2.out, HOP2.out, ⟨hW6, hL6⟩, HB3.out, ?_⟩
          rw [List.length_append]
          have : natC (S ++ [i]) = natC S ++ [.int .i64 (i : Int)] := by simp [natC]
          rw [this]; exact hown6
        case measure => first | (simp [intOf]; done) | (simp [intOf]; omega)
      have h1231 : ((y : Int) == 123) = false := by simp; omega
      by_cases h125 : y = 125
      · have h1251 : ((y : Int) == 125) = true := by simp [h125]
        by_cases hS0 : S.length = 0
        · have HF : Hid (brkN L 0 = false) := by show _ = _; rw [HB2.out, if_neg h123, if_pos h125, if_pos hS0]
          have hS1 : ((S.length : Int) - 1 < 0) := by omega
          clear h123 h125 HB2 hpr
          go_wp2
          go_ret
          exact ⟨ret_bool (by rw [HF.out]), fun h => by (rw [HF.out] at h; cases h), HW.out.1.toScr, HW.out.2⟩
        · obtain ⟨S', x, rfl⟩ : ∃ S' x, S = S' ++ [x] := by
            have hne : S ≠ [] := fun e => hS0 (by rw [e]; rfl)
            exact ⟨S.dropLast, S.getLast hne, (List.dropLast_concat_getLast hne).symm⟩
          have hxn : x < n := HSK.out x (by simp)
          have hxL : x < L.length := by rw [HN.out]; exact hxn
          have HB3 : Hid (brkN L 0 = brkN (L.drop (i + 1)) S'.length) := by
            show _ = _
            rw [HB2.out, if_neg h123, if_pos h125, if_neg hS0, List.length_append]; rfl
          have hown' : wr.ownsRow w.heap.size 3 1 (.slice av (S'.length + 1) cv) (S'.length + 1) (natC (S' ++ [x])) := by rw [List.length_append] at hown; exact hown
          obtain ⟨go, rfl, hgo1, hgo2, dx, hcv⟩ := own_last hown'
          have hownS := own_shrink (n := 0) hown'
          obtain ⟨hop1, hop2, hop3, hop4, hop5⟩ := HOP.out.pop hiL (by rw [HYA.out]; exact h125)
          have HOP2 : Hid (Opn' L S' (i + 1)) := hop1
          have HBF : Hid (∀ k, (if k = x then i + 1 else brkF L (S' ++ [x]) i k) = brkF L S' (i + 1) k) := brk_pop HOP.out hiL (by rw [HYA.out]; exact h125)
          clear hop1 hop2 hop3 hop4 hop5
          obtain ⟨v9, d3⟩ := hpr.nx x hxL
          have f3 := hpr.fz x hxL
          have hln : (S' ++ [x]).length = S'.length + 1 := by rw [List.length_append]; rfl
          have HSK2 : Hid (∀ k ∈ S', k < n) := fun k hk => HSK.out k (by simp [hk])
          rw [hln] at hSi ⊢
          obtain ⟨m, hm⟩ : ∃ m, S'.length = m := ⟨_, rfl⟩
          have HMM : Hid (S'.length = m) := hm
          rw [hm] at HB3 dx hcv hownS hSi ⊢
          clear hm hln
          have hm1 : ((m + 1 : Nat) : Int) - 1 = (m : Int) := by omega
          have hm2 : ¬ (m : Int) < 0 := by omega
          have hm3 : (m : Int) < ((m : Nat) : Int) + 1 := by omega
          have hm4 : (0 : Int) ≤ (m : Int) := by omega
          have hm5 : (m : Int) ≤ (cv : Int) := by omega
          have hx1 : (x : Int) < (n : Int) := by omega
          have hx2 : (0 : Int) ≤ (x : Int) := by omega
          have HW2 : Hid (VScr (wr.drew.setCell ⟨g, x * 25 + 14, none⟩ (.int .i64 ((i : Int) + 1))) b (some ⟨g, 0, none⟩) c CS L (brkF L S' (i + 1)) ∧ Led (some ⟨g, 0, none⟩) w (wr.drew.setCell ⟨g, x * 25 + 14, none⟩ (.int .i64 ((i : Int) + 1)))) := by
            have hd : VScr wr.drew b (some ⟨g, 0, none⟩) c CS L (brkF L (S' ++ [x]) i) := HW.out.1.below ((Below.refl _ _).drew)
            have hl : Led (some ⟨g, 0, none⟩) w wr.drew := ⟨HW.out.2.os, HW.out.2.tape, HW.out.2.output, HW.out.2.size, HW.out.2.block⟩
            exact ⟨(hd.set x hxL (i + 1)).congr (fun k _ => HBF.out k), hl.trans (Led.set _ _ _ _)⟩
          have hownS2 : (wr.drew.setCell ⟨g, x * 25 + 14, none⟩ (.int .i64 ((i : Int) + 1))).ownsRow w.heap.size 3 1 (.slice (some ⟨go, 0, none⟩) m cv) m (natC S') := ownsRow_setCell_below (ownsRow_below hownS ((Below.refl _ _).drew)) (by simp; omega) _
          clear h123 h125 HB2 hpr hS0 hown hown' hownS HSK
          go_wp2_with fail
          go_region
          go_wp2
          go_roundw
          case rel => exact ⟨i + 1, S', by omega, by go_num, by rw [HMM.out]; omega, HSK2.out, HOP2.out, HW2.out, by rw [HMM.out]; exact HB3.out, by rw [HMM.out]; exact hownS2⟩
          case measure => first | (simp [intOf]; done) | (simp [intOf]; omega)
      have h1251 : ((y : Int) == 125) = false := by simp; omega
      have HB3 : Hid (brkN L 0 = brkN (L.drop (i + 1)) S.length) := by show _ = _; rw [HB2.out, if_neg h123, if_neg h125]
      have HOP2 : Hid (Opn' L S (i + 1)) := HOP.out.skip hiL (by rw [HYA.out]; exact h123) (by rw [HYA.out]; exact h125)
      have HW2 : Hid (VScr wr b (some ⟨g, 0, none⟩) c CS L (brkF L S (i + 1)) ∧ Led (some ⟨g, 0, none⟩) w wr) := ⟨HW.out.1.congr (fun k _ => brk_skip L S i k (by rw [HYA.out]; exact h123)), HW.out.2⟩
      clear h123 h125 HB2 hpr
      go_wp2
      go_roundw
      case rel => exact ⟨i + 1, S, by omega, by go_num, by omega, HSK.out, HOP2.out, HW2.out, HB3.out, hown⟩
      case measure => first | (simp [intOf]; done) | (simp [intOf]; omega)
    · have hlt1 : ¬ (i : Int) < (n : Int) := by omega
      have HF : Hid (brkN L 0 = (S.length == 0)) := by
        show _ = _
        rw [HB.out, List.drop_of_length_le (by rw [HN.out]; omega)]; rfl
      clear HB
      by_cases hS0 : S.length = 0
      · have hS1 : ((S.length : Int) == 0) = true := by simp [hS0]
        have HF2 : Hid (brkN L 0 = true) := by show _ = _; rw [HF.out, hS0]; rfl
        have HW2 : Hid (VScr wr b a c CS L (fun k => if nmA L k = 123 then behN L k else 0)) := HW.out.1.congr (fun k hk => by
          rw [List.length_eq_zero_iff] at hS0
          unfold brkF
          have h1 : k < i := by have := HN.out; omega
          by_cases h2 : nmA L k = 123
          · rw [if_pos ⟨h1, h2, by rw [hS0]; simp⟩, if_pos h2]
          · rw [if_neg (fun h => h2 h.2.1), if_neg h2])
        clear hS0 HF
        go_wp2
        go_ret
        exact ⟨ret_bool (by rw [HF2.out]), fun _ => HW2.out, HW.out.1.toScr, HW.out.2⟩
      · have hS1 : ((S.length : Int) == 0) = false := by rw [beq_eq_false_iff_ne]; omega
        have HF2 : Hid (brkN L 0 = false) := by show _ = _; rw [HF.out]; simpa using hS0
        clear hS0 HF
        go_wp2
        go_ret
        exact ⟨ret_bool (by rw [HF2.out]), fun h => by (rw [HF2.out] at h; cases h), HW.out.1.toScr, HW.out.2⟩
end Go.Proofs.YtlppphmnegdhoabGreatDoor

namespace Go.Proofs.YtlppphmnegdhoabGreatDoor
set_option linter.unusedVariables false
set_option maxRecDepth 100000
open Go.RowKit
open M

theorem elPCmd : ElT 71 148 25 248 (.agg zPC.toArray) := ⟨by kernel_rfl, by kernel_rfl, rfl, by decide, by decide, by decide⟩
theorem rtScr : RowT 73 1 := ⟨⟨_, Tryz.underlying73, rfl⟩, by kernel_rfl⟩
theorem led_below {a : Option Addr} {w w' : World} {B : Nat} (h : Led a w w') (hB : B ≤ w.heap.size) (hg : ∀ g, a = some ⟨g, 0, none⟩ → B ≤ g) : Below B w w' :=
  ⟨h.os, h.tape, h.output, h.size, fun k hk => h.block k (by omega) (fun g e => by have := hg g e; omega)⟩
theorem gb_append_lies {ops : Array Oper} {rest : List Oper} {o : Oper} {a : Act} {w : World} {Q : Exit → Act → World → Prop} {TS T : TypeId} {N by' : Nat} {z : Value} (hE : ElT TS T N by' z) {B : Nat} {v : Value} {n : Nat} {xs : List Value} (hown : w.ownsRow B T N v n xs) (g : Nat) (vs : List Value) (hg : w.heap[g]? = some (.cells vs.toArray T)) (hl : vs.length = N) (h1 : ∀ u ∈ vs, u.oneCell' = true) (hn : n ≤ 8192) (hB : B ≤ w.heap.size) (hgd : o.guard = none) (s x : Operand)
    (ho : o.op = .call { callee := .builtin .append, args := #[s, x], argTypes := #[TS, TS] }) (hs : a.eval s = v) (hx : a.eval x = .slice (some ⟨g, 0, none⟩) 1 1)
    (h : ∀ g' cap w', w'.ownsRow B T N (.slice (some ⟨g', 0, none⟩) (n + 1) cap) (n + 1) (xs ++ vs) → w.grownBy w' v.ownBlock → (v.ownBlock = some g' ∨ g' = w.heap.size) → wpList Tryz.prog ops Q rest (a.put o.dst (.slice (some ⟨g', 0, none⟩) (n + 1) cap)) w') : wpList Tryz.prog ops Q (o :: rest) a w := by
  obtain ⟨i0, hi, hz0, hz1, hz2⟩ := info_parts hE.info
  have hb := hE.byt
  refine wpList_append_lies w hgd s x TS ho B T i0 z N by' hE.und hi hz0 hz1 hz2 hE.zc hE.pos v n xs hs hown ⟨g, 0, none⟩ 1 1 vs hx (by rw [hl]; omega) ?_ h1 (by decide) (by unfold maxLen; omega) ?_ hB w.heap.size rfl (fun g' cap w' h1 h2 h3 _ => h g' cap w' h1 h2 h3)
  · intro j u hu
    rw [Addr.add_mid, cell_of_row _ _ _ _ _ _ hg]
    simpa using hu
  · exact Nat.le_trans (Nat.mul_le_mul (show n + 1 ≤ 8193 by omega) hb) (by decide)
theorem stab_sub {F G : Nat → Prop} {w : World} {P : World → Prop} (h : Stab G w P) (hs : ∀ k, F k → G k) : Stab F w P := fun w' h1 h2 => h w' h1 (fun k hk hG => h2 k hk (fun hF => hG (hs k hF)))
theorem stab_boxed {F : Nat → Prop} {w w' : World} {P : World → Prop} {o : Obj} (h : Stab F w P) (O : Only w.heap.size (w.alloc o) w') : Stab F w' P := fun w'' h1 h2 => by
  have hs : w'.heap.size = w.heap.size + 1 := by rw [O.size]; simp
  exact h w'' (by omega) (fun k hk hF => ((h2 k (by omega) hF).trans (O.block k (by omega))).trans (Below.heap_alloc w o k hk))
/-- commands that were read, and their cells -/
def rdF (b0 : Nat) (v : Value) (k : Nat) : Prop := v.ownBlock = some k ∨ k < b0 + 2
structure RdOk (b0 : Nat) (w : World) (v : Value) (L : List Cm) (CS : List (List Value)) : Prop where
  len : CS.length = L.length
  c25 : ∀ c ∈ CS, c.length = 25
  bnd : ∀ c ∈ L, c.name < 256 ∧ c.label < 256 ∧ c.next = 0
  at' : Stab (rdF b0 v) w (fun w => ∀ i (h : i < L.length) (h' : i < CS.length), CmAt w CS[i] L[i])
theorem RdOk.nil (b0 : Nat) (w : World) (v : Value) : RdOk b0 w v [] [] := ⟨rfl, fun c h => (List.not_mem_nil h).elim, fun c h => (List.not_mem_nil h).elim, fun _ _ _ i h => by simp at h⟩
theorem RdOk.fr {b0 : Nat} {w w' : World} {v v' : Value} {L : List Cm} {CS : List (List Value)} (h : RdOk b0 w v L CS) (hf : Rf (rdF b0 v) (rdF b0 v') w w') : RdOk b0 w' v' L CS := ⟨h.len, h.c25, h.bnd, h.at'.fr hf⟩
theorem RdOk.below {b0 : Nat} {w w' : World} {v : Value} {L : List Cm} {CS : List (List Value)} (h : RdOk b0 w v L CS) (hb : Below w.heap.size w w') : RdOk b0 w' v L CS := h.fr (.of_below hb)
theorem RdOk.boxed {b0 : Nat} {w w' : World} {v : Value} {L : List Cm} {CS : List (List Value)} {o : Obj} (h : RdOk b0 w v L CS) (O : Only w.heap.size (w.alloc o) w') : RdOk b0 w' v L CS := ⟨h.len, h.c25, h.bnd, stab_boxed h.at' O⟩
theorem RdOk.grown {b0 n c : Nat} {w w' : World} {v : Value} {g' : Nat} {L : List Cm} {CS : List (List Value)} {o : Obj} (h : RdOk b0 w v L CS) (hg : (w.alloc o).grownBy w' v.ownBlock) (hl : v.ownBlock = some g' ∨ g' = (w.alloc o).heap.size) : RdOk b0 w' (.slice (some ⟨g', 0, none⟩) n c) L CS := by
  have hs : (w.alloc o).heap.size = w.heap.size + 1 := by simp
  refine h.fr ⟨hg.os, hg.tape, hg.output, by have := hg.size; omega, fun k hk hF => ?_, fun k hk => ?_⟩
  · exact (hg.block k (by omega) (fun e => hF (.inl e.symm))).trans (Below.heap_alloc w o k hk)
  · rcases hk with e | e
    · have e : some g' = some k := e
      injection e with e
      subst e
      rcases hl with h1 | h1
      · exact .inl (.inl h1)
      · exact .inr (by omega)
    · exact .inl (.inr e)
theorem RdOk.only {b0 g : Nat} {w w' : World} {v : Value} {L : List Cm} {CS : List (List Value)} (h : RdOk b0 w v L CS) (O : Only g w w') (hg : g < b0 + 2) : RdOk b0 w' v L CS :=
  h.fr ⟨O.os, O.tape, O.output, by rw [O.size]; exact Nat.le_refl _, fun k _ hF => O.block k (fun e => hF (.inr (by omega))), fun k hk => .inl hk⟩
theorem RdOk.set {b0 : Nat} {w : World} {v : Value} {L : List Cm} {CS : List (List Value)} (h : RdOk b0 w v L CS) (u : Value) : RdOk b0 (w.setCell ⟨b0 + 1, 0, none⟩ u) v L CS := h.only (Only.set _ _ _ _) (by omega)
theorem RdOk.set8 {b0 : Nat} {w w' : World} {v : Value} {L : List Cm} {CS : List (List Value)} (h : RdOk b0 w v L CS) (O : Only b0 w w') : RdOk b0 w' v L CS := h.only O (by omega)
theorem RdOk.led {b0 n c : Nat} {w w' : World} {a : Option Addr} {L : List Cm} {CS : List (List Value)} (h : RdOk b0 w (.slice a n c) L CS) (hl : Led a w w') : RdOk b0 w' (.slice a n c) L CS :=
  h.fr ⟨hl.os, hl.tape, hl.output, hl.size, fun k hk hF => hl.block k hk (fun g e e' => hF (.inl (by subst e; subst e'; rfl))), fun k hk => .inl hk⟩
theorem RdOk.snoc {b0 : Nat} {w : World} {v : Value} {L : List Cm} {CS : List (List Value)} {c : Cm} {cs : List Value} (h : RdOk b0 w v L CS) (hl : cs.length = 25) (hc : Stab (rdF b0 v) w (fun w => CmAt w cs c)) (hb : c.name < 256 ∧ c.label < 256 ∧ c.next = 0) : RdOk b0 w v (L ++ [c]) (CS ++ [cs]) := by
  have hlen := h.len
  refine ⟨by simp [hlen], fun x hx => ?_, fun x hx => ?_, fun w' h1 h2 j hj hj' => ?_⟩
  · rcases List.mem_append.1 hx with hx | hx
    · exact h.c25 x hx
    · simp at hx; rw [hx]; exact hl
  · rcases List.mem_append.1 hx with hx | hx
    · exact h.bnd x hx
    · simp at hx; rw [hx]; exact hb
  · by_cases e : j < L.length
    · rw [List.getElem_append_left (by omega), List.getElem_append_left e]
      exact h.at' w' h1 h2 j e (by omega)
    · have e2 : j = L.length := by simp at hj; omega
      subst e2
      rw [List.getElem_append_right (by omega), List.getElem_append_right (Nat.le_refl _)]
      simp [hlen]
      exact hc w' h1 h2
theorem cm_set14 (c : Cm) (p1 : Option Addr) (q1 : Nat) (p2 : Option Addr) (q2 : Nat) (p3 : Option Addr) (q3 : Nat) (p4 : Option Addr) (q4 n : Nat) : (cmV c p1 q1 p2 q2 p3 q3 p4 q4).set 14 (.int .i64 (n : Nat)) = cmV { c with next := n } p1 q1 p2 q2 p3 q3 p4 q4 := rfl
theorem CmAt.next {w : World} {vs : List Value} {c : Cm} (h : CmAt w vs c) (n : Nat) : CmAt w (vs.set 14 (.int .i64 (n : Nat))) { c with next := n } := by
  obtain ⟨p1, q1, p2, q2, p3, q3, p4, q4, rfl, h1, h2, h3, h4⟩ := h
  exact ⟨p1, q1, p2, q2, p3, q3, p4, q4, cm_set14 _ _ _ _ _ _ _ _ _ _, h1, h2, h3, h4⟩
theorem CmAt.stay {w : World} {vs : List Value} {c : Cm} (h : CmAt w vs c) (hn : c.next = 0) : vs.set 14 (.int .i64 (0 : Nat)) = vs := by
  obtain ⟨p1, q1, p2, q2, p3, q3, p4, q4, rfl, h1, h2, h3, h4⟩ := h
  refine set_id _ 14 _ ?_
  show some (Value.int .i64 (c.next : Nat)) = _
  rw [hn]
theorem RdOk.nmOk {b0 : Nat} {w : World} {v : Value} {L : List Cm} {CS : List (List Value)} (h : RdOk b0 w v L CS) : NmOk CS (toV L) := by
  have hlen : (toV L).length = L.length := by simp [toV]
  have hget : ∀ i (h : i < (toV L).length), (toV L)[i] = ((L[i]'(by omega)).name, (L[i]'(by omega)).label) := fun i h => by simp [toV]
  refine ⟨by rw [hlen]; exact h.len, h.c25, fun i hi hi' => ?_, fun i hi hi' => ?_, fun i hi => ?_, fun i hi => ?_⟩
  · rw [hget i hi]
    obtain ⟨p1, q1, p2, q2, p3, q3, p4, q4, e, _⟩ := h.at'.out i (by omega) hi'
    rw [e]; rfl
  · rw [hget i hi]
    obtain ⟨p1, q1, p2, q2, p3, q3, p4, q4, e, _⟩ := h.at'.out i (by omega) hi'
    rw [e]; rfl
  · rw [hget i hi]; exact (h.bnd _ (List.getElem_mem _)).1
  · rw [hget i hi]; exact (h.bnd _ (List.getElem_mem _)).2.1
theorem vrow_own {w : World} {b0 B : Nat} {a : Option Addr} {c n : Nat} {L : List Cm} {CS : List (List Value)} (h : w.ownsRow B 148 25 (.slice a n c) n CS.flatten) (hn : L.length = n) (ho : RdOk b0 w (.slice a n c) L CS) : toV L = [] ∨ ∃ g, a = some ⟨g, 0, none⟩ ∧ VRow w g CS (fun _ => 0) ∧ B ≤ g := by
  by_cases h0 : L.length = 0
  · left
    rw [List.length_eq_zero_iff] at h0
    rw [h0]; rfl
  · right
    have hcl : CS.length = n := by rw [ho.len]; exact hn
    obtain ⟨g, h1, h2, h3, h4, h5⟩ := own_rows h hcl ho.c25 0 (by omega)
    refine ⟨g, h1, ⟨h3, fun i hi => ?_, h5⟩, h2⟩
    obtain ⟨g', g1, g2, g3, g4, g5⟩ := own_rows h hcl ho.c25 i hi
    rw [h1] at g1
    simp at g1
    subst g1
    have hi' : i < L.length := by rw [← ho.len]; exact hi
    rw [(ho.at'.out i hi' hi).stay (ho.bnd _ (List.getElem_mem hi')).2.2]
    exact g4
theorem VScr.keep8 {w w' : World} {b0 : Nat} {a : Option Addr} {c : Nat} {CS : List (List Value)} {L : List (Nat × Nat)} {N : Nat → Nat} (h : VScr w (b0 + 1) a c CS L N) (O : Only b0 w w') (hg : ∀ g, a = some ⟨g, 0, none⟩ → b0 + 2 ≤ g) : VScr w' (b0 + 1) a c CS L N := by
  refine ⟨by rw [O.size]; exact h.lt, (World.cell?_of_block (O.block (b0 + 1) (by omega))).trans h.c0, ?_, h.few, h.ok⟩
  rcases h.vrow with h0 | ⟨g, ha, hp, hgb⟩
  · exact .inl h0
  · exact .inr ⟨g, ha, hp.keep (O.block g (by have := hg g ha; omega)) (by rw [O.size]; exact Nat.le_refl _), hgb⟩
/-- the commands with where they lead to, as the run reads them -/
theorem RdOk.csAt {b0 n c : Nat} {w : World} {a : Option Addr} {L : List Cm} {CS : List (List Value)} (h : RdOk b0 w (.slice a n c) L CS) (hv : VScr w (b0 + 1) a c CS (toV L) (nxtV (toV L))) (hn : L.length = n) (hg : ∀ g, a = some ⟨g, 0, none⟩ → b0 + 2 ≤ g) :
    New b0 w (fun w => CsAt (CS.mapIdx (fun i vs => vs.set 14 (.int .i64 (nxtV (toV L) i : Nat)))) w (.slice a n c) (linkV L)) := by
  intro w' h1 h2
  have hlk : (linkV L).length = n := by rw [← hn]; simp [linkV]
  refine ⟨a, c, by rw [hlk], fun k hk => ?_⟩
  have hkL : k < L.length := by omega
  have hkC : k < CS.length := by rw [h.len]; exact hkL
  obtain ⟨g, ha, hp, hgb⟩ : ∃ g, a = some ⟨g, 0, none⟩ ∧ VRow w g CS (nxtV (toV L)) ∧ g ≠ b0 + 1 := by
    rcases hv.vrow with h0 | h0
    · have := congrArg List.length h0
      simp [toV] at this
      rw [this] at hkL; simp at hkL
    · exact h0
  have hgb2 := hg g ha
  have hm := h.at' w' h1 (fun k hk hF => h2 k hk (fun h9 => hF (.inr (by omega)))) k hkL hkC
  refine ⟨g, ha, by have := hp.lt; omega, by simp; exact hkC, ?_, ?_⟩
  · rw [List.getElem_mapIdx]
    exact fun j u hu => (World.cell?_of_block (h2 g hp.lt (by omega))).trans (hp.at' k hkC j u hu)
  · rw [List.getElem_mapIdx]
    have e : (linkV L)[k] = { L[k] with next := nxtV (toV L) k } := by simp [linkV]
    rw [e]
    exact hm.next _
def LwPost (b : Nat) (a : Option Addr) (c : Nat) (CS : List (List Value)) (L : List (Nat × Nat)) (w : World) (e : Ending) (w' : World) : Prop :=
  ∃ r : Bool, e = .returned (.bool r) ∧ (r = true ↔ ∀ i (h : i < L.length), LabN1 L i h) ∧ (brkN L 0 = true → r = true → VScr w' b a c CS L (nxtV L)) ∧ Led a w w'
theorem vLabels_any (b : Nat) (a : Option Addr) (c : Nat) (CS : List (List Value)) (L : List (Nat × Nat)) (w : World) (hS : brkN L 0 = true → VScr w b a c CS L (fun k => if nmA L k = 123 then behN L k else 0)) (hW : ScrAt w b a c L) :
    Calls Tryz.prog 92 #[.pointer (some ⟨b, 0, none⟩)] w fun e w' => LwPost b a c CS L w e w' := by
  cases hb : brkN L 0
  · refine (leadToLabels_calls b a c L w hW).mono ?_
    rintro e w' ⟨r, h1, h2, h3, h4⟩
    exact ⟨r, h1, h2, fun h => by (rw [hb] at h; cases h), h4⟩
  · refine (vLabels_calls b a c CS L _ w (hS hb)).mono ?_
    rintro e w' ⟨r, h1, h2, h3, h4⟩
    refine ⟨r, h1, h2, fun _ hr => (h3 hr).congr (fun k hk => ?_), h4⟩
    unfold lnkN nxtV
    by_cases h9 : isBT L k = true
    · rw [if_pos ⟨hk, h9⟩, if_pos h9]
    · rw [if_neg (fun h => h9 h.2), if_neg h9]
theorem cmdV_b (t : List UInt8) (c : Cm) (h : cmdV t = some c) : c.name < 256 ∧ c.label < 256 ∧ c.next = 0 := by
  unfold cmdV at h
  match hr : (behV t).2 with
  | [] => rw [hr] at h; cases h
  | d :: r =>
    rw [hr, namV] at h
    split at h
    · injection h with h
      subst h
      refine ⟨d.toNat_lt, ?_, rfl⟩
      show (if labelled d.toNat then labB r else 0) < 256
      split
      · exact labB_lt r
      · decide
    · cases h
theorem ext_seg' (s : ByteArray) (k n : Nat) : (s.extract k n).data.toList = (s.data.toList.drop k).take (n - k) := Lib.extract_data s k n
theorem le_seg (s : ByteArray) (k n : Nat) (h : LeAt s k n) : (∀ c ∈ (s.extract k n).data.toList, c.toNat ≠ 10) ∧ (s.extract k n).size = n - k := by
  obtain ⟨h1, h2, h3, h4⟩ := h
  refine ⟨fun c hc => ?_, by rw [ByteArray.size_extract, Nat.min_eq_left h2]⟩
  rw [ext_seg'] at hc
  obtain ⟨j, hj, rfl⟩ := List.getElem_of_mem hc
  rw [List.length_take, List.length_drop, ba_len] at hj
  rw [List.getElem_take, List.getElem_drop]
  exact h3 (k + j) (by omega) (by omega) (by omega)
/-- a line, and what is behind it -/
theorem onW_line (s : ByteArray) (k n : Nat) (h : LeAt s k n) (L : List Cm) : cmdsW L (s.data.toList.drop k) = if n = k then cmdsW L (s.data.toList.drop (n + 1)) else (cmdV (s.extract k n).data.toList).bind (fun c => cmdsW (L ++ [c]) (s.data.toList.drop (n + 1))) := by
  obtain ⟨hno, hsz⟩ := le_seg s k n h
  have hx := ext_seg' s k n
  obtain ⟨h1, h2, h3, h4⟩ := h
  have hlen : (s.extract k n).data.toList.length = n - k := by rw [ba_len]; exact hsz
  have hemp : (s.extract k n).data.toList = [] ↔ n = k := by
    rw [← List.length_eq_zero_iff, hlen, Nat.sub_eq_zero_iff_le]
    exact ⟨fun h => Nat.le_antisymm h h1, fun h => Nat.le_of_eq h⟩
  have hlines : linesM [] (s.data.toList.drop k) = if (s.extract k n).data.toList = [] then linesM [] (s.data.toList.drop (n + 1)) else (s.extract k n).data.toList :: linesM [] (s.data.toList.drop (n + 1)) := by
    rcases h4 with h4 | ⟨h4, h5⟩
    · have e : s.data.toList.drop k = (s.extract k n).data.toList := by
        rw [hx, List.take_of_length_le (by rw [List.length_drop, ba_len]; omega)]
      have e2 : s.data.toList.drop (n + 1) = [] := List.drop_of_length_le (by rw [ba_len]; omega)
      rw [e, lines_free _ [] hno, e2, List.nil_append]
      have e3 : linesM [] [] = [] := by rw [linesM, if_pos rfl]
      rw [e3]
    · have e : s.data.toList.drop k = (s.extract k n).data.toList ++ s[n] :: s.data.toList.drop (n + 1) := by
        rw [hx, ← get_drop s n h4]
        have e9 : s.data.toList.drop n = (s.data.toList.drop k).drop (n - k) := by rw [List.drop_drop]; congr 1; omega
        rw [e9, List.take_append_drop]
      rw [e, lines_nl _ _ h5 _ [] hno, List.nil_append]
  unfold cmdsW
  rw [hlines]
  by_cases e : n = k
  · rw [if_pos e, if_pos (hemp.2 e)]
  · rw [if_neg e, if_neg (fun h => e (hemp.1 h)), cmdsW_step]
theorem ownsRow_only2 {w w' : World} {base g : Nat} {e : TypeId} {size : Nat} {v : Value} {n : Nat} {xs : List Value} (h : w.ownsRow base e size v n xs) (ho : Only g w w') (hne : v.ownBlock ≠ some g) : w'.ownsRow base e size v n xs := by
  obtain ⟨h1, h2⟩ := h
  refine ⟨h1, ?_⟩
  rcases h2 with h2 | ⟨q, cap, cur, e1, e2, e3, e4⟩
  · exact .inl h2
  · refine .inr ⟨q, cap, cur, e1, e2, ?_, e4⟩
    rw [ho.block q (fun e => hne (by rw [e1, ← e]; rfl))]; exact e3
/-- commands and their cells -/
def RvsPost (s : ByteArray) (w : World) (e : Ending) (w' : World) : Prop :=
  Below w.heap.size w w' ∧ ((e = .returned (.tuple #[.agg #[.slice none 0 0], .bool false]) ∧ ∀ cs, ¬ ScrV s.data.toList cs) ∨ ∃ (a : Option Addr) (c : Nat) (cs : List Cm) (VSS : List (List Value)), e = .returned (.tuple #[.agg #[.slice a cs.length c], .bool true]) ∧ ScrV s.data.toList cs ∧ New w.heap.size w' (fun w => CsAt VSS w (.slice a cs.length c) cs))
end Go.Proofs.YtlppphmnegdhoabGreatDoor

namespace Go.Proofs.YtlppphmnegdhoabGreatDoor
set_option linter.unusedVariables false
set_option maxRecDepth 100000
open Go.RowKit
open M

set_option maxRecDepth 100000 in
set_option maxHeartbeats 4000000 in
theorem vread_calls (s : ByteArray) (w : World) (hs : s.size ≤ 400) :
    Calls Tryz.prog 55 #[.string s] w fun e w' => RvsPost s w e w' := by
  have HLN : Hid (s.data.toList.length = s.size) := ba_len s
  have hr0 : CB ((w.alloc (.cells #[.slice none 0 0] 73)).alloc (.cells #[.slice none 0 0] 73)) w.heap.size [.slice none 0 0] := (CB.new w 73 #[.slice none 0 0] (by simp [Value.oneCell'])).below (B := w.heap.size + 1) ((Below.refl _ _).alloc (by simp) _) (by omega)
  have hx0 : CB ((w.alloc (.cells #[.slice none 0 0] 73)).alloc (.cells #[.slice none 0 0] 73)) (w.heap.size + 1) [.slice none 0 0] := by
    have := CB.new (w.alloc (.cells #[.slice none 0 0] 73)) 73 #[.slice none 0 0] (by simp [Value.oneCell'])
    simpa using this
  have B0 : Below w.heap.size w ((w.alloc (.cells #[.slice none 0 0] 73)).alloc (.cells #[.slice none 0 0] 73)) := ((Below.refl _ _).alloc (Nat.le_refl _) _).alloc (by simp) _
  have hsz0 : ((w.alloc (.cells #[.slice none 0 0] 73)).alloc (.cells #[.slice none 0 0] 73)).heap.size = w.heap.size + 2 := by simp
  go_enter Tryz.func55, Tryz.ntmps55
  go_wp2_with fail
  generalize ((w.alloc (.cells #[.slice none 0 0] 73)).alloc (.cells #[.slice none 0 0] 73)) = W at *
  go_loopw [5] (fun v5 wr => ∃ (k : Nat) (L : List Cm) (CS : List (List Value)) (v : Value), v5 = .int .i64 k ∧ k ≤ s.size + 1 ∧ 2 * L.length ≤ k ∧ Hid (RdOk w.heap.size wr v L CS) ∧ Hid (cmdsV (linesM [] s.data.toList) = cmdsW L (s.data.toList.drop k)) ∧ CB wr w.heap.size [.slice none 0 0] ∧ CB wr (w.heap.size + 1) [v] ∧ wr.ownsRow (w.heap.size + 2) 148 25 v L.length CS.flatten ∧ Below w.heap.size w wr ∧ w.heap.size + 2 ≤ wr.heap.size) (fun v5 _ => s.size + 1 - (intOf v5).toNat)
  case atStart =>
    refine ⟨0, [], [], .slice none 0 0, rfl, Nat.zero_le _, Nat.zero_le _, RdOk.nil _ _ _, ?_, hr0, hx0, World.ownsRow_nil _ _ _ _, B0, by omega⟩
    show _ = _
    rw [List.drop_zero, cmdsW_all]
  case round =>
    clear hr0 hx0 B0 hsz0
    obtain ⟨k, L, CS, v, rfl, hks, hLk, HPS, HCM, hr, hx, hown, hB, hsz⟩ := hrel
    obtain ⟨av, cv, hvv⟩ := own_form hown
    subst hvv
    obtain ⟨nL, hnL⟩ : ∃ n, L.length = n := ⟨_, rfl⟩
    have HNL : Hid (L.length = nL) := hnL
    rw [hnL] at hLk hown hx HPS
    clear hnL
    by_cases hlt : k < s.size
    · have hlt1 : (k : Int) < (s.size : Int) := by omega
      have hk0 : (0 : Int) ≤ (k : Int) := by omega
      go_wp2_with fail
      refine (lineEnd_calls s k wr hs (by omega)).mono ?_
      rintro e w1 ⟨⟨n, rfl, hle⟩, rfl⟩
      have HSTEP : Hid (cmdsV (linesM [] s.data.toList) = if n = k then cmdsW L (s.data.toList.drop (n + 1)) else (cmdV (s.extract k n).data.toList).bind (fun c => cmdsW (L ++ [c]) (s.data.toList.drop (n + 1)))) := by
        show _ = _
        rw [HCM.out, onW_line s k n hle L]
      obtain ⟨hno, hxs⟩ := le_seg s k n hle
      have HNO : Hid (NoNL (s.extract k n)) := hno
      have HXS : Hid ((s.extract k n).size ≤ 400) := by show _ ≤ _; rw [hxs]; have := hle.2.1; omega
      have hkn := hle.1
      have hns := hle.2.1
      clear hle HCM hno hxs
      by_cases hnk : n = k
      · have HC : Hid (cmdsV (linesM [] s.data.toList) = cmdsW L (s.data.toList.drop (k + 1))) := by show _ = _; rw [HSTEP.out, if_pos hnk, hnk]
        subst hnk
        have hgt : ¬ (n : Int) < (n : Int) := by omega
        clear HSTEP
        go_wp2
        go_roundw
        case rel => exact ⟨n + 1, L, CS, _, by go_num, by omega, by rw [HNL.out]; omega, HPS, HC, hr, hx, by rw [HNL.out]; exact hown, hB, hsz⟩
        case measure => first | (simp [intOf]; done) | (simp [intOf]; omega)
      · have hgt : (k : Int) < (n : Int) := by omega
        have hkn1 : (k : Int) ≤ (n : Int) := by omega
        have hns1 : (n : Int) ≤ (s.size : Int) := by omega
        have HC : Hid (cmdsV (linesM [] s.data.toList) = (cmdV (s.extract k n).data.toList).bind (fun c => cmdsW (L ++ [c]) (s.data.toList.drop (n + 1)))) := by show _ = _; rw [HSTEP.out, if_neg hnk]
        clear HSTEP
        go_wp2_with fail
        refine (vCommand_calls (s.extract k n) _ HXS.out HNO.out).mono ?_
        rintro e w2 ⟨B2, cs, hcl, hc1, hor⟩
        have hs2 := B2.size
        have hr2 := hr.below B2 hr.lt
        have hx2 := hx.below B2 hx.lt
        have hown2 := ownsRow_below hown B2
        have hB2 : Below w.heap.size w w2 := hB.trans (B2.mono (by omega))
        have hbn : CB (w2.alloc (.cells zPC.toArray 148)) w2.heap.size zPC := CB.new w2 _ _ zPC_one
        have BA : Below w2.heap.size w2 (w2.alloc (.cells zPC.toArray 148)) := (Below.refl _ _).alloc (Nat.le_refl _) _
        have hr3 := hr2.below BA hr2.lt
        have hx3 := hx2.below BA hx2.lt
        have hown3 := ownsRow_below hown2 BA
        have hB3 := hB2.trans (BA.mono (by omega))
        have hsz3 : (w2.alloc (.cells zPC.toArray 148)).heap.size = w2.heap.size + 1 := by simp
        have HPS3 : Hid (RdOk w.heap.size w2 (.slice av nL cv) L CS) := HPS.out.below B2
        have HLO : Hid (∀ k, (Value.slice av nL cv).ownBlock = some k → k < w1.heap.size) := fun k e => (hown.lt k e).2
        have hlo2 : w.heap.size + 2 ≤ w1.heap.size := hsz
        have hne : (Value.slice av nL cv).ownBlock ≠ some w2.heap.size := fun e => by have := (hown2.lt _ e).2; omega
        clear hr hx hown hB B2 hr2 hx2 hown2 hB2 BA
        rcases hor with ⟨hno, rfl⟩ | ⟨cm, hsome, hcc, rfl⟩
        · have HF : Hid (cmdsV (linesM [] s.data.toList) = none) := by show _ = _; rw [HC.out, hno]; rfl
          clear hno HC
          go_wp2_with (first
            | (refine cb_store0 rtPCmd hbn rfl rfl _ _ rfl rfl rfl hcl hc1 ?_; intro w5 hb5 O5; have hr5 := hr3.keep (O5.block _ (by omega)) (by rw [O5.size]; exact Nat.le_refl _))
            | (refine cb_store0 rtScr hr5 rfl rfl _ _ rfl rfl (vs := [.slice none 0 0]) rfl rfl (by simp [Value.oneCell']) ?_; intro w8 hb8 O8))
          refine bodyPost_ret (results_cb rfl _ _ _ _ rfl rtScr hb8 rfl) rfl ?_
          exact ⟨(hB3.trans (O5.below (by omega))).trans (O8.below (Nat.le_refl _)), .inl ⟨rfl, fun cs ⟨l, hl, _⟩ => by rw [HF.out] at hl; cases hl⟩⟩
        · have HC3 : Hid (cmdsV (linesM [] s.data.toList) = cmdsW (L ++ [cm]) (s.data.toList.drop (n + 1))) := by show _ = _; rw [HC.out, hsome]; rfl
          have HPS2 : Hid (RdOk w.heap.size w2 (.slice av nL cv) (L ++ [cm]) (CS ++ [cs])) := HPS3.out.snoc hcl (stab_sub hcc (fun k hk => by
            rcases hk with e | e
            · exact HLO.out k e
            · omega)) (cmdV_b _ _ hsome)
          clear hsome hcc HC HPS HPS3
          go_wp2_with (first
            | (refine cb_store0 rtPCmd hbn rfl rfl _ _ rfl rfl rfl hcl hc1 ?_
               intro w5 hb5 O5
               have hr5 := hr3.keep (O5.block _ (by omega)) (by rw [O5.size]; exact Nat.le_refl _)
               have hx5 := hx3.keep (O5.block _ (by omega)) (by rw [O5.size]; exact Nat.le_refl _)
               have hown5 := ownsRow_only2 hown3 O5 hne
               have hB5 := hB3.trans (O5.below (B := w.heap.size) (by omega))
               have hs5 : w5.heap.size = w2.heap.size + 1 := by rw [O5.size]; exact hsz3
               have HPS5 : Hid (RdOk w.heap.size w5 (.slice av nL cv) (L ++ [cm]) (CS ++ [cs])) := HPS2.out.boxed O5
               have c5 := hx5.c 0 _ rfl
               have l5 := hx5.lt)
            | refine cb_load0 rtPCmd hb5 hcl rfl _ rfl rfl ?_
            | refine gb_build elPCmd rfl _ rfl cs rfl hcl ?_
            | (refine gb_append_lies elPCmd (hown5.alloc _) w5.heap.size cs (heap_alloc_new w5 _) hcl hc1 (by omega) (by simp; omega) rfl _ _ rfl rfl rfl ?_
               intro g' cv' w6 hown6 hgrow6 hlies6
               have HPS6 : Hid (RdOk w.heap.size w6 (.slice (some ⟨g', 0, none⟩) (nL + 1) cv') (L ++ [cm]) (CS ++ [cs])) := HPS5.out.grown hgrow6 hlies6
               have hB6 : Below (w.heap.size + 2) w5 w6 := ((Below.refl _ _).alloc (by omega) _).grown hgrow6 (by simp; omega) (fun k hk => (hown5.lt k hk).1)
               have hr6 := hr5.below hB6 (by omega)
               have hx6 := hx5.below hB6 (by omega)
               have hB7 := hB5.trans (hB6.mono (by omega))
               have hs6 := hB6.size
               have f6 := hx6.fz 0 (by simp)
               have c6 := hx6.c 0 _ rfl
               have l6 := hx6.lt
               clear hgrow6))
          have hx8 := hx6.set 0 (by simp) (.slice (some ⟨g', 0, none⟩) (nL + 1) cv') rfl
          have hr8 := hr6.keep (heap_setCell_other w6 ⟨w.heap.size + 1, 0, none⟩ w.heap.size (.slice (some ⟨g', 0, none⟩) (nL + 1) cv') (by simp)) (by simp)
          have hown8 := ownsRow_setCell_below hown6 (a := ⟨w.heap.size + 1, 0, none⟩) (by simp) (.slice (some ⟨g', 0, none⟩) (nL + 1) cv')
          have HPS8 : Hid (RdOk w.heap.size (w6.setCell ⟨w.heap.size + 1, 0, none⟩ (.slice (some ⟨g', 0, none⟩) (nL + 1) cv')) (.slice (some ⟨g', 0, none⟩) (nL + 1) cv') (L ++ [cm]) (CS ++ [cs])) := HPS6.out.set _
          have hB8 := hB7.setCell (p := ⟨w.heap.size + 1, 0, none⟩) (by simp) (.slice (some ⟨g', 0, none⟩) (nL + 1) cv')
          go_roundw
          case rel =>
            refine ⟨n + 1, L ++ [cm], CS ++ [cs], _, by go_num, by omega, by rw [List.length_append, HNL.out]; simp; omega, HPS8, HC3, hr8, hx8, ?_, hB8, by simp; omega⟩
            rw [List.length_append, HNL.out, List.flatten_append]
            simpa using hown8
          case measure => first | (simp [intOf]; done) | (simp [intOf]; omega)
    · have hlt1 : ¬ (k : Int) < (s.size : Int) := by omega
      have HF : Hid (cmdsV (linesM [] s.data.toList) = some L) := by
        show _ = _
        rw [HCM.out, List.drop_of_length_le (by rw [HLN.out]; omega), cmdsW_nil]
      have HLV : Hid (LinkedV L ↔ (brkN (toV L) 0 = true ∧ ∀ i (h : i < (toV L).length), LabN1 (toV L) i h)) := Iff.rfl
      have hlenP : (toV L).length = nL := by rw [← HNL.out]; simp [toV]
      have HSC : Hid (VScr wr (w.heap.size + 1) av cv CS (toV L) (fun _ => 0)) := by
        refine ⟨hx.lt, by rw [hlenP]; exact hx.c 0 _ rfl, ?_, by rw [hlenP]; omega, HPS.out.nmOk⟩
        rcases vrow_own hown HNL.out HPS.out with h | ⟨g, h1, h2, h3⟩
        · exact .inl h
        · exact .inr ⟨g, h1, h2, by omega⟩
      have HAV : Hid (∀ g, av = some ⟨g, 0, none⟩ → w.heap.size + 2 ≤ g) := fun g e => by
        subst e
        exact (hown.lt g rfl).1
      clear HCM hlenP
      go_wp2_with fail
      refine (vBrackets_calls (w.heap.size + 1) av cv CS (toV L) wr HSC.out).mono ?_
      rintro e w2 ⟨rfl, hsc2, hsw2, led2⟩
      go_wp2_with fail
      refine (show Calls Tryz.prog 92 #[.pointer (some ⟨w.heap.size + 1, 0, none⟩)] w2 (fun e w' => LwPost (w.heap.size + 1) av cv CS (toV L) w2 e w') from ?_).mono ?_
      · exact vLabels_any (w.heap.size + 1) av cv CS (toV L) w2 hsc2 hsw2
      rintro e w3 ⟨r, rfl, hr3, hsc3, led3⟩
      have HPS3 : Hid (RdOk w.heap.size w3 (.slice av nL cv) L CS) := (HPS.out.led led2).led led3
      have HVS : Hid (brkN (toV L) 0 = true → r = true → VScr w3 (w.heap.size + 1) av cv CS (toV L) (nxtV (toV L))) := hsc3
      have hB3 : Below (w.heap.size + 2) wr w3 := (led_below led2 hsz HAV.out).trans (led_below led3 (by have := led2.size; omega) HAV.out)
      have hr4 := hr.below hB3 (by omega)
      have hx4 := hx.below hB3 (by omega)
      have hB4 := hB.trans (hB3.mono (by omega))
      have HLK : Hid (LinkedV L ↔ brkN (toV L) 0 = true ∧ r = true) := by
        show _ ↔ _
        rw [HLV.out, hr3]
      clear hsc2 hsc3 led2 led3 hr3 HSC HLV hr hx hB
      generalize hpb : brkN (toV L) 0 = pb at HLK HVS ⊢
      clear hpb
      by_cases hok : pb = true ∧ r = true
      · obtain ⟨rfl, rfl⟩ := hok
        have HL2 : Hid (LinkedV L) := HLK.out.2 ⟨rfl, rfl⟩
        clear HLK
        go_wp2_with (first
          | refine cb_load0 rtScr hx4 rfl rfl _ rfl rfl ?_
          | (refine cb_store0 rtScr hr4 rfl rfl _ _ rfl rfl (vs := [.slice av nL cv]) rfl rfl (by simp [Value.oneCell']) ?_; intro w8 hb8 O8))
        refine bodyPost_ret (results_cb rfl _ _ _ _ rfl rtScr hb8 rfl) rfl ?_
        refine ⟨hB4.trans (O8.below (Nat.le_refl _)), .inr ⟨av, cv, linkV L, CS.mapIdx (fun i vs => vs.set 14 (.int .i64 (nxtV (toV L) i : Nat))), by rw [show (linkV L).length = nL by rw [← HNL.out]; simp [linkV]]; rfl, ⟨L, HF.out, HL2.out, rfl⟩, ?_⟩⟩
        rw [show (linkV L).length = nL by rw [← HNL.out]; simp [linkV]]
        exact (HPS3.out.set8 O8).csAt ((HVS.out (by first | trivial | rfl) (by first | trivial | rfl)).keep8 O8 HAV.out) HNL.out HAV.out
      · have HL2 : Hid (¬ LinkedV L) := fun h => hok (HLK.out.1 h)
        clear HLK
        have hcase : pb = false ∨ (pb = true ∧ r = false) := by cases pb <;> cases r <;> simp_all
        clear hok
        rcases hcase with rfl | ⟨rfl, rfl⟩
        · go_wp2_with (refine cb_store0 rtScr hr4 rfl rfl _ _ rfl rfl (vs := [.slice none 0 0]) rfl rfl (by simp [Value.oneCell']) ?_; intro w8 hb8 O8)
          refine bodyPost_ret (results_cb rfl _ _ _ _ rfl rtScr hb8 rfl) rfl ?_
          exact ⟨hB4.trans (O8.below (Nat.le_refl _)), .inl ⟨rfl, fun cs ⟨l, hl, hk, _⟩ => by rw [HF.out] at hl; cases hl; exact HL2.out hk⟩⟩
        · go_wp2_with (refine cb_store0 rtScr hr4 rfl rfl _ _ rfl rfl (vs := [.slice none 0 0]) rfl rfl (by simp [Value.oneCell']) ?_; intro w8 hb8 O8)
          refine bodyPost_ret (results_cb rfl _ _ _ _ rfl rtScr hb8 rfl) rfl ?_
          exact ⟨hB4.trans (O8.below (Nat.le_refl _)), .inl ⟨rfl, fun cs ⟨l, hl, hk, _⟩ => by rw [HF.out] at hl; cases hl; exact HL2.out hk⟩⟩
end Go.Proofs.YtlppphmnegdhoabGreatDoor

namespace Go.Proofs.YtlppphmnegdhoabGreatDoor
set_option linter.unusedVariables false
set_option maxRecDepth 100000
open Go.RowKit
open M

def SrvPost (s : ByteArray) (w : World) (e : Ending) (w' : World) : Prop :=
  Below w.heap.size w w' ∧ ∃ (a : Option Addr) (n c : Nat) (x : Int), e = .returned (.tuple #[.agg #[.slice a n c], .int .i64 x]) ∧
    ((400 < s.size ∧ x = 1) ∨ (s.size ≤ 400 ∧ ((x = 2 ∧ ∀ cs, ¬ ScrV s.data.toList cs) ∨ ∃ (cs : List Cm) (VSS : List (List Value)), x = 0 ∧ n = cs.length ∧ ScrV s.data.toList cs ∧ New w.heap.size w' (fun w => CsAt VSS w (.slice a n c) cs))))
set_option maxRecDepth 100000 in
set_option maxHeartbeats 1000000 in
theorem vScript_calls (s : ByteArray) (w : World) (hs : s.size ≤ maxLen) :
    Calls Tryz.prog 34 #[.string s] w fun e w' => SrvPost s w e w' := by
  unfold maxLen at hs
  have hr0 : CB (w.alloc (.cells #[.slice none 0 0] 73)) w.heap.size [.slice none 0 0] := CB.new w 73 #[.slice none 0 0] (by simp [Value.oneCell'])
  have B0 : Below w.heap.size w (w.alloc (.cells #[.slice none 0 0] 73)) := (Below.refl _ _).alloc (Nat.le_refl _) _
  by_cases h1 : 400 < s.size
  · have h11 : (400 : Int) < (s.size : Int) := by omega
    go_enter Tryz.func34, Tryz.ntmps34
    go_wp2_with (refine cb_store0 rtScr hr0 rfl rfl _ _ rfl rfl (vs := [.slice none 0 0]) rfl rfl (by simp [Value.oneCell']) ?_; intro w8 hb8 O8)
    refine bodyPost_ret (results_cb rfl _ _ _ _ rfl rtScr hb8 rfl) rfl ?_
    exact ⟨B0.trans (O8.below (Nat.le_refl _)), none, 0, 0, 1, rfl, .inl ⟨h1, rfl⟩⟩
  · have h11 : ¬ (400 : Int) < (s.size : Int) := by omega
    have h12 : s.size ≤ 400 := by omega
    have hsz0 : (w.alloc (.cells #[.slice none 0 0] 73)).heap.size = w.heap.size + 1 := by simp
    go_enter Tryz.func34, Tryz.ntmps34
    go_wp2_with fail
    generalize w.alloc (.cells #[.slice none 0 0] 73) = W at *
    refine (vread_calls s W h12).mono ?_
    rintro e w2 ⟨B2, hor⟩
    have hs2 := B2.size
    have hr2 := hr0.below B2 hr0.lt
    have hB2 := B0.trans (B2.mono (by omega))
    have hbn : CB (w2.alloc (.cells #[.slice none 0 0] 73)) w2.heap.size [.slice none 0 0] := CB.new w2 73 #[.slice none 0 0] (by simp [Value.oneCell'])
    have hr3 := hr2.below ((Below.refl w2.heap.size w2).alloc (Nat.le_refl _) (.cells #[.slice none 0 0] 73)) hr2.lt
    have hB3 := hB2.alloc (o := .cells #[.slice none 0 0] 73) (by omega)
    rcases hor with ⟨rfl, hno⟩ | ⟨a, c, l, VSS, rfl, hsome, hcs⟩
    · have HNO : Hid (∀ cs, ¬ ScrV s.data.toList cs) := hno
      clear hno
      go_wp2_with (first
        | (refine cb_store0 rtScr hbn rfl rfl _ _ rfl rfl (vs := [.slice none 0 0]) rfl rfl (by simp [Value.oneCell']) ?_; intro w5 hb5 O5; have hr5 := hr3.keep (O5.block _ (by omega)) (by rw [O5.size]; exact Nat.le_refl _))
        | (refine cb_store0 rtScr hr5 rfl rfl _ _ rfl rfl (vs := [.slice none 0 0]) rfl rfl (by simp [Value.oneCell']) ?_; intro w8 hb8 O8))
      refine bodyPost_ret (results_cb rfl _ _ _ _ rfl rtScr hb8 rfl) rfl ?_
      exact ⟨(hB3.trans (O5.below (by omega))).trans (O8.below (Nat.le_refl _)), none, 0, 0, 2, rfl, .inr ⟨h12, .inl ⟨rfl, HNO.out⟩⟩⟩
    · have HS : Hid (ScrV s.data.toList l) := hsome
      have HCS : Hid (New W.heap.size w2 (fun w => CsAt VSS w (.slice a l.length c) l)) := hcs
      have hwW := hr0.lt
      clear hsome hcs
      go_wp2_with (first
        | (refine cb_store0 rtScr hbn rfl rfl _ _ rfl rfl (vs := [.slice a l.length c]) rfl rfl (by simp [Value.oneCell']) ?_; intro w5 hb5 O5; have hr5 := hr3.keep (O5.block _ (by omega)) (by rw [O5.size]; exact Nat.le_refl _))
        | refine cb_load0 rtScr hb5 rfl rfl _ rfl rfl ?_
        | (refine cb_store0 rtScr hr5 rfl rfl _ _ rfl rfl (vs := [.slice a l.length c]) rfl rfl (by simp [Value.oneCell']) ?_; intro w8 hb8 O8))
      refine bodyPost_ret (results_cb rfl _ _ _ _ rfl rtScr hb8 rfl) rfl ?_
      exact ⟨(hB3.trans (O5.below (by omega))).trans (O8.below (Nat.le_refl _)), a, l.length, c, 0, rfl, .inr ⟨h12, .inr ⟨l, VSS, rfl, rfl, HS.out, ((HCS.out.boxed O5).only O8 hwW).mono (Nat.le_of_lt hwW)⟩⟩⟩
/-- what Check answers -/
def CkV (s : ByteArray) (n x : Int) : Prop := (400 < s.size ∧ n = 0 ∧ x = 1) ∨ (s.size ≤ 400 ∧ ((n = 0 ∧ x = 2 ∧ ∀ cs, ¬ ScrV s.data.toList cs) ∨ ∃ cs : List Cm, n = cs.length ∧ x = 0 ∧ ScrV s.data.toList cs))
theorem CkV.same {s : ByteArray} {n x n' x' : Int} (h : CkV s n x) (g : CkV s n' x') : n = n' ∧ x = x' := by
  rcases h with ⟨h1, rfl, rfl⟩ | ⟨h1, ⟨rfl, rfl, h2⟩ | ⟨cs, rfl, rfl, h2⟩⟩ <;> rcases g with ⟨g1, rfl, rfl⟩ | ⟨g1, ⟨rfl, rfl, g2⟩ | ⟨ds, rfl, rfl, g2⟩⟩
  · exact ⟨rfl, rfl⟩
  · omega
  · omega
  · omega
  · exact ⟨rfl, rfl⟩
  · exact absurd g2 (h2 ds)
  · omega
  · exact absurd h2 (g2 cs)
  · exact ⟨by rw [h2.unique g2], rfl⟩
theorem CkV.x {s : ByteArray} {n x : Int} (h : CkV s n x) : x = 1 ∨ x = 2 ∨ x = 0 := by
  rcases h with ⟨_, _, h⟩ | ⟨_, ⟨_, h, _⟩ | ⟨cs, _, h, _⟩⟩
  · exact .inl h
  · exact .inr (.inl h)
  · exact .inr (.inr h)
def CkvPost (s : ByteArray) (w : World) (e : Ending) (w' : World) : Prop := (∃ n x : Int, e = .returned (.tuple #[.int .i64 n, .int .i64 x]) ∧ CkV s n x) ∧ Below w.heap.size w w'
set_option maxRecDepth 100000 in
set_option maxHeartbeats 1000000 in
theorem vcheck_calls (s : ByteArray) (w : World) (hs : s.size ≤ maxLen) :
    Calls Tryz.prog 17 #[.string s] w fun e w' => CkvPost s w e w' := by
  go_enter Tryz.func17, Tryz.ntmps17
  go_wp2_with fail
  refine (vScript_calls s w hs).mono ?_
  rintro e w2 ⟨B2, a, n, c, x, rfl, hor⟩
  have hbn : CB (w2.alloc (.cells #[.slice none 0 0] 73)) w2.heap.size [.slice none 0 0] := CB.new w2 73 #[.slice none 0 0] (by simp [Value.oneCell'])
  have hB3 := B2.alloc (o := .cells #[.slice none 0 0] 73) B2.size
  have hs2 := B2.size
  have HS : Hid (CkV s (if x = 0 then (n : Int) else 0) x) := by
    rcases hor with ⟨h1, rfl⟩ | ⟨h1, ⟨rfl, hno⟩ | ⟨l, VSS, rfl, rfl, h2, h3⟩⟩
    · exact .inl ⟨h1, rfl, rfl⟩
    · exact .inr ⟨h1, .inl ⟨rfl, rfl, hno⟩⟩
    · exact .inr ⟨h1, .inr ⟨l, rfl, rfl, h2⟩⟩
  have hx : x = 1 ∨ x = 2 ∨ x = 0 := by
    rcases hor with ⟨_, h⟩ | ⟨_, ⟨h, _⟩ | ⟨l, _, h, _⟩⟩
    · exact .inl h
    · exact .inr (.inl h)
    · exact .inr (.inr h)
  clear hor
  rcases hx with rfl | rfl | rfl
  · go_wp2_with (refine cb_store0 rtScr hbn rfl rfl _ _ rfl rfl (vs := [.slice a n c]) rfl rfl (by simp [Value.oneCell']) ?_; intro w5 hb5 O5)
    go_ret2
    exact ⟨⟨0, 1, rfl, HS.out⟩, hB3.trans (O5.below (by omega))⟩
  · go_wp2_with (refine cb_store0 rtScr hbn rfl rfl _ _ rfl rfl (vs := [.slice a n c]) rfl rfl (by simp [Value.oneCell']) ?_; intro w5 hb5 O5)
    go_ret2
    exact ⟨⟨0, 2, rfl, HS.out⟩, hB3.trans (O5.below (by omega))⟩
  · go_wp2_with (refine cb_store0 rtScr hbn rfl rfl _ _ rfl rfl (vs := [.slice a n c]) rfl rfl (by simp [Value.oneCell']) ?_; intro w5 hb5 O5; have c5 := hb5.c 0 _ rfl; have l5 := hb5.lt)
    go_ret2
    exact ⟨⟨n, 0, rfl, HS.out⟩, hB3.trans (O5.below (by omega))⟩
end Go.Proofs.YtlppphmnegdhoabGreatDoor

namespace Go.Proofs.YtlppphmnegdhoabGreatDoor
open Go.Shelf
def itoa_ren : Go.Shelf.Ren := ⟨fun | 171 => 239 | 243 => 246 | 246 => 250 | 283 => 252 | 284 => 253 | 285 => 254 | 286 => 255 | 129 => 257 | 317 => 256 | 318 => 258 | 319 => 259 | 320 => 260 | 337 => 261 | 338 => 262 | n => n, fun | 3 => 3 | 9 => 9 | 2 => 2 | 4 => 4 | 171 => 296 | 0 => 0 | 53 => 297 | 37 => 151 | 5 => 5 | 173 => 300 | 212 => 303 | 51 => 304 | 20 => 20 | 213 => 305 | 46 => 153 | 232 => 308 | 233 => 309 | n => n, fun | 17 => 0 | 18 => 1 | 19 => 2 | n => n⟩
theorem itoa_lays : Go.Proofs.LaysM.n171 Tryz.prog itoa_ren := {
  mixed := by kernel_rfl
  f129 := Tryz.func257.trans (congrArg some (by kernel_rfl))
  f171 := Tryz.func239.trans (congrArg some (by kernel_rfl))
  f243 := Tryz.func246.trans (congrArg some (by kernel_rfl))
  f246 := Tryz.func250.trans (congrArg some (by kernel_rfl))
  f283 := Tryz.func252.trans (congrArg some (by kernel_rfl))
  f284 := Tryz.func253.trans (congrArg some (by kernel_rfl))
  f285 := Tryz.func254.trans (congrArg some (by kernel_rfl))
  f286 := Tryz.func255.trans (congrArg some (by kernel_rfl))
  f317 := Tryz.func256.trans (congrArg some (by kernel_rfl))
  f318 := Tryz.func258.trans (congrArg some (by kernel_rfl))
  f319 := Tryz.func259.trans (congrArg some (by kernel_rfl))
  f320 := Tryz.func260.trans (congrArg some (by kernel_rfl))
  f337 := Tryz.func261.trans (congrArg some (by kernel_rfl))
  f338 := Tryz.func262.trans (congrArg some (by kernel_rfl))
  t0 := Tryz.underlying0
  a0 := Tryz.isAgg0
  z0 := Tryz.sizeOf0
  v0 := Tryz.zeroValue0
  t2 := Tryz.underlying2
  a2 := Tryz.isAgg2
  z2 := Tryz.sizeOf2
  v2 := Tryz.zeroValue2
  t3 := Tryz.underlying3
  a3 := Tryz.isAgg3
  z3 := Tryz.sizeOf3
  v3 := Tryz.zeroValue3
  t4 := Tryz.underlying4
  a4 := Tryz.isAgg4
  z4 := Tryz.sizeOf4
  v4 := Tryz.zeroValue4
  t5 := Tryz.underlying5
  a5 := Tryz.isAgg5
  z5 := Tryz.sizeOf5
  v5 := Tryz.zeroValue5
  t9 := Tryz.underlying9
  a9 := Tryz.isAgg9
  z9 := Tryz.sizeOf9
  v9 := Tryz.zeroValue9
  t20 := Tryz.underlying20
  a20 := Tryz.isAgg20
  z20 := Tryz.sizeOf20
  v20 := Tryz.zeroValue20
  t37 := Tryz.underlying151
  a37 := Tryz.isAgg151
  z37 := Tryz.sizeOf151
  v37 := Tryz.zeroValue151
  t46 := Tryz.underlying153
  a46 := Tryz.isAgg153
  z46 := Tryz.sizeOf153
  v46 := Tryz.zeroValue153
  t51 := Tryz.underlying304
  a51 := Tryz.isAgg304
  z51 := Tryz.sizeOf304
  v51 := Tryz.zeroValue304
  t53 := Tryz.underlying297
  a53 := Tryz.isAgg297
  z53 := Tryz.sizeOf297
  v53 := Tryz.zeroValue297
  t171 := Tryz.underlying296
  a171 := Tryz.isAgg296
  z171 := Tryz.sizeOf296
  v171 := Tryz.zeroValue296
  t173 := Tryz.underlying300
  a173 := Tryz.isAgg300
  z173 := Tryz.sizeOf300
  v173 := Tryz.zeroValue300
  t212 := Tryz.underlying303
  a212 := Tryz.isAgg303
  z212 := Tryz.sizeOf303
  v212 := Tryz.zeroValue303
  t213 := Tryz.underlying305
  a213 := Tryz.isAgg305
  z213 := Tryz.sizeOf305
  t232 := Tryz.underlying308
  a232 := Tryz.isAgg308
  z232 := Tryz.sizeOf308
  v232 := Tryz.zeroValue308
  t233 := Tryz.underlying309
  a233 := Tryz.isAgg309
  z233 := Tryz.sizeOf309
  v233 := Tryz.zeroValue309
  g17 := by kernel_rfl
  g18 := by kernel_rfl
  g19 := by kernel_rfl
  i0 := by kernel_rfl
  i2 := by kernel_rfl
  i3 := by kernel_rfl
  i4 := by kernel_rfl
  i5 := by kernel_rfl
  i9 := by kernel_rfl
  i20 := by kernel_rfl
  i37 := by kernel_rfl
  i46 := by kernel_rfl
  i51 := by kernel_rfl
  i53 := by kernel_rfl
  i171 := by kernel_rfl
  i173 := by kernel_rfl
  i212 := by kernel_rfl
  i232 := by kernel_rfl
  i233 := by kernel_rfl
  m17 := by kernel_rfl
  m18 := by kernel_rfl
  m19 := by kernel_rfl }
open Go.RowKit Go.Sort Go.Lib in
/-- strconv.Itoa, as the shelf has it -/
theorem itoa_lib (n : Int) (h0 : -9223372036854775808 ≤ n) (h1 : n ≤ 9223372036854775807) (w : World) (htab : Lib.TabIs Tryz.prog w "internal/strconv.uint64pow10" .u64 Lib.pow10Tab) :
    Calls Tryz.prog 239 #[.int .i64 n] w fun e w' => e = .returned (.string ⟨(Lib.itoa n).toArray⟩) ∧ ∃ k os, w' = grow (w.drewN k) os := Any.strconv_Itoa itoa_lays n h0 h1 w htab
end Go.Proofs.YtlppphmnegdhoabGreatDoor

namespace Go.Proofs.YtlppphmnegdhoabGreatDoor
set_option linter.unusedVariables false
set_option maxRecDepth 100000
open Go.RowKit
open M

set_option maxRecDepth 100000 in
set_option maxHeartbeats 8000000 in
theorem rchange_calls (P : Value → World → Prop) (b : Nat) (tl : List Value) (V : RV) (S : St) (vs : List Value) (c : Cm) (w : World) (h : RunAt P b tl V S w) (hw : WF S) (hc : CmAt w vs c) (hk : CmOk c) (hn : c.name = 104 ∨ c.name = 103 ∨ c.name = 120 ∨ c.name = 72 ∨ c.name = 71 ∨ c.name = 115 ∨ c.name = 121) :
    Calls Tryz.prog 219 #[.pointer (some ⟨b, 0, none⟩), .agg vs.toArray] w fun e w' => VPost P b tl V (S.change c) w e w' := by
  have HC : Hid (CmAt w vs c) := hc
  have HONE : Hid (∀ v ∈ vs, v.oneCell' = true) := hc.one
  have HLEN : Hid (vs.length = 25) := hc.len
  obtain ⟨hnm, _, _, hfr, hto, _⟩ := hc.cells
  have HNM : Hid (vs[12]? = some (.int .u8 (c.name : Nat))) := hnm
  have HFT : Hid ((vs.drop 23).take 2 = [.string c.frm, .string c.toF]) := by
    obtain ⟨p1, q1, p2, q2, p3, q3, p4, q4, rfl, _⟩ := hc
    rfl
  have HSL7 : Hid (((vs.drop 16).take 7).length = 7) := by show _ = _; rw [List.length_take, List.length_drop, HLEN.out]; rfl
  have HH : Hid (RunAt P b tl V S w) := h
  have hbl := h.box.lt
  have hnb := hk.nm
  have hpa := hw.pa
  have hho := hw.ho
  have HK : Hid (CmOk c) := hk
  obtain ⟨ap, cp, hvp, _⟩ := h.pat.out.form
  obtain ⟨ah, ch, hvh, _⟩ := h.hold.out.form
  have HVP : Hid (V.pat = .slice ap S.pat.length cp) := hvp
  have HVH : Hid (V.hold = .slice ah S.hold.length ch) := hvh
  have HL : Hid (S.change c = if c.name = 104 then { S with hold := S.pat } else if c.name = 103 then { S with pat := S.hold } else if c.name = 120 then { S with pat := S.hold, hold := S.pat }
    else if c.name = 72 then (if S.fits (joinC S.hold (nlC (-1)) S.pat).length then { S with hold := joinC S.hold (nlC (-1)) S.pat } else S.die 5)
    else if c.name = 71 then (if S.fits (joinC S.pat (nlC (-1)) S.hold).length then { S with pat := joinC S.pat (nlC (-1)) S.hold } else S.die 5)
    else if c.name = 115 then S.subst c.sub else { S with pat := S.pat.map (exchC c.frm.data.toList c.toF.data.toList) }) := rfl
  obtain ⟨nm, hnn⟩ : ∃ k, c.name = k := ⟨_, rfl⟩
  rw [hnn] at hn HNM HL hnb
  clear h hc hnm hfr hto hnn hvp hvh hk
  rcases hn with rfl | rfl | rfl | rfl | rfl | rfl | rfl
  · have HL : Hid (S.change c = { S with hold := S.pat }) := HL.out
    go_enter Tryz.func219, Tryz.ntmps219
    go_wp2_with (refine cb_box rfl _ rfl vs rfl HONE.out ?_
                 intro w1 hb1 B1 hs1
                 have h1 := HH.out.below B1
                 have HR1 : Hid (RunAt P b tl V S w1) := h1
                 have bl1 := h1.box.lt
                 have c10 := h1.cell 10 _ rfl
                 have c11 := h1.cell 11 _ rfl
                 have c10' : w1.cell? ⟨b, 10, none⟩ = some (.slice ap S.pat.length cp) := by rw [c10]; show some V.pat = _; rw [HVP.out]
                 have c11' : w1.cell? ⟨b, 11, none⟩ = some (.slice ah S.hold.length ch) := by rw [c11]; show some V.hold = _; rw [HVH.out]
                 clear h1 c10 c11)
    refine (rnewline_calls (-1) w1).mono ?_
    rintro e w2 ⟨rfl, B2⟩
    have B3 : Below w1.heap.size w1 (w2.alloc (.cells #[.int .u8 10, .int .i64 (-1)] 230)) := B2.alloc B2.size _
    have hb3 : CB (w2.alloc (.cells #[.int .u8 10, .int .i64 (-1)] 230)) w2.heap.size [.int .u8 10, .int .i64 (-1)] := CB.new w2 _ #[.int .u8 10, .int .i64 (-1)] (by simp [Value.oneCell'])
    have h3 := HR1.out.below B3
    have HR3 : Hid (RunAt P b tl V S (w2.alloc (.cells #[.int .u8 10, .int .i64 (-1)] 230))) := h3
    have HF3 : Hid (Rf (foot b V) (foot b V) w (w2.alloc (.cells #[.int .u8 10, .int .i64 (-1)] 230))) := (Rf.of_below B1).trans (.of_below B3)
    have hcb := hb1.below B3 hb1.lt
    have d12 := hcb.c 12 _ HNM.out
    have lcb := hcb.lt
    have bl3 := h3.box.lt
    have HC3 : Hid (CmAt (w2.alloc (.cells #[.int .u8 10, .int .i64 (-1)] 230)) vs c) := HC.out.below (below2 B1 B3)
    have f10 := h3.fz 10 (by decide)
    have f11 := h3.fz 11 (by decide)
    have c10 := h3.cell 10 _ rfl
    have c11 := h3.cell 11 _ rfl
    have hstp := h3.pat
    have hsth := h3.hold
    rw [HVP.out] at hstp
    rw [HVH.out] at hsth
    have HSP : Hid (Stab (foot b V) (w2.alloc (.cells #[.int .u8 10, .int .i64 (-1)] 230)) (fun w => SlAt w (.slice ap S.pat.length cp) S.pat)) := hstp
    have HSH : Hid (Stab (foot b V) (w2.alloc (.cells #[.int .u8 10, .int .i64 (-1)] 230)) (fun w => SlAt w (.slice ah S.hold.length ch) S.hold)) := hsth
    clear h3 hstp hsth c10' c11' hb1
    have hA := HR3.out.setHold _ _ HSP.out
    go_wp2
    go_end0
    exact ⟨rfl, by rw [HL.out]; exact RPost.trans rfl HF3.out hA⟩
  · have HL : Hid (S.change c = { S with pat := S.hold }) := HL.out
    go_enter Tryz.func219, Tryz.ntmps219
    go_wp2_with (refine cb_box rfl _ rfl vs rfl HONE.out ?_
                 intro w1 hb1 B1 hs1
                 have h1 := HH.out.below B1
                 have HR1 : Hid (RunAt P b tl V S w1) := h1
                 have bl1 := h1.box.lt
                 have c10 := h1.cell 10 _ rfl
                 have c11 := h1.cell 11 _ rfl
                 have c10' : w1.cell? ⟨b, 10, none⟩ = some (.slice ap S.pat.length cp) := by rw [c10]; show some V.pat = _; rw [HVP.out]
                 have c11' : w1.cell? ⟨b, 11, none⟩ = some (.slice ah S.hold.length ch) := by rw [c11]; show some V.hold = _; rw [HVH.out]
                 clear h1 c10 c11)
    refine (rnewline_calls (-1) w1).mono ?_
    rintro e w2 ⟨rfl, B2⟩
    have B3 : Below w1.heap.size w1 (w2.alloc (.cells #[.int .u8 10, .int .i64 (-1)] 230)) := B2.alloc B2.size _
    have hb3 : CB (w2.alloc (.cells #[.int .u8 10, .int .i64 (-1)] 230)) w2.heap.size [.int .u8 10, .int .i64 (-1)] := CB.new w2 _ #[.int .u8 10, .int .i64 (-1)] (by simp [Value.oneCell'])
    have h3 := HR1.out.below B3
    have HR3 : Hid (RunAt P b tl V S (w2.alloc (.cells #[.int .u8 10, .int .i64 (-1)] 230))) := h3
    have HF3 : Hid (Rf (foot b V) (foot b V) w (w2.alloc (.cells #[.int .u8 10, .int .i64 (-1)] 230))) := (Rf.of_below B1).trans (.of_below B3)
    have hcb := hb1.below B3 hb1.lt
    have d12 := hcb.c 12 _ HNM.out
    have lcb := hcb.lt
    have bl3 := h3.box.lt
    have HC3 : Hid (CmAt (w2.alloc (.cells #[.int .u8 10, .int .i64 (-1)] 230)) vs c) := HC.out.below (below2 B1 B3)
    have f10 := h3.fz 10 (by decide)
    have f11 := h3.fz 11 (by decide)
    have c10 := h3.cell 10 _ rfl
    have c11 := h3.cell 11 _ rfl
    have hstp := h3.pat
    have hsth := h3.hold
    rw [HVP.out] at hstp
    rw [HVH.out] at hsth
    have HSP : Hid (Stab (foot b V) (w2.alloc (.cells #[.int .u8 10, .int .i64 (-1)] 230)) (fun w => SlAt w (.slice ap S.pat.length cp) S.pat)) := hstp
    have HSH : Hid (Stab (foot b V) (w2.alloc (.cells #[.int .u8 10, .int .i64 (-1)] 230)) (fun w => SlAt w (.slice ah S.hold.length ch) S.hold)) := hsth
    clear h3 hstp hsth c10' c11' hb1
    have hA := HR3.out.setPat _ _ HSH.out
    go_wp2
    go_end0
    exact ⟨rfl, by rw [HL.out]; exact RPost.trans rfl HF3.out hA⟩
  · have HL : Hid (S.change c = { S with pat := S.hold, hold := S.pat }) := HL.out
    go_enter Tryz.func219, Tryz.ntmps219
    go_wp2_with (refine cb_box rfl _ rfl vs rfl HONE.out ?_
                 intro w1 hb1 B1 hs1
                 have h1 := HH.out.below B1
                 have HR1 : Hid (RunAt P b tl V S w1) := h1
                 have bl1 := h1.box.lt
                 have c10 := h1.cell 10 _ rfl
                 have c11 := h1.cell 11 _ rfl
                 have c10' : w1.cell? ⟨b, 10, none⟩ = some (.slice ap S.pat.length cp) := by rw [c10]; show some V.pat = _; rw [HVP.out]
                 have c11' : w1.cell? ⟨b, 11, none⟩ = some (.slice ah S.hold.length ch) := by rw [c11]; show some V.hold = _; rw [HVH.out]
                 clear h1 c10 c11)
    refine (rnewline_calls (-1) w1).mono ?_
    rintro e w2 ⟨rfl, B2⟩
    have B3 : Below w1.heap.size w1 (w2.alloc (.cells #[.int .u8 10, .int .i64 (-1)] 230)) := B2.alloc B2.size _
    have hb3 : CB (w2.alloc (.cells #[.int .u8 10, .int .i64 (-1)] 230)) w2.heap.size [.int .u8 10, .int .i64 (-1)] := CB.new w2 _ #[.int .u8 10, .int .i64 (-1)] (by simp [Value.oneCell'])
    have h3 := HR1.out.below B3
    have HR3 : Hid (RunAt P b tl V S (w2.alloc (.cells #[.int .u8 10, .int .i64 (-1)] 230))) := h3
    have HF3 : Hid (Rf (foot b V) (foot b V) w (w2.alloc (.cells #[.int .u8 10, .int .i64 (-1)] 230))) := (Rf.of_below B1).trans (.of_below B3)
    have hcb := hb1.below B3 hb1.lt
    have d12 := hcb.c 12 _ HNM.out
    have lcb := hcb.lt
    have bl3 := h3.box.lt
    have HC3 : Hid (CmAt (w2.alloc (.cells #[.int .u8 10, .int .i64 (-1)] 230)) vs c) := HC.out.below (below2 B1 B3)
    have f10 := h3.fz 10 (by decide)
    have f11 := h3.fz 11 (by decide)
    have c10 := h3.cell 10 _ rfl
    have c11 := h3.cell 11 _ rfl
    have hstp := h3.pat
    have hsth := h3.hold
    rw [HVP.out] at hstp
    rw [HVH.out] at hsth
    have HSP : Hid (Stab (foot b V) (w2.alloc (.cells #[.int .u8 10, .int .i64 (-1)] 230)) (fun w => SlAt w (.slice ap S.pat.length cp) S.pat)) := hstp
    have HSH : Hid (Stab (foot b V) (w2.alloc (.cells #[.int .u8 10, .int .i64 (-1)] 230)) (fun w => SlAt w (.slice ah S.hold.length ch) S.hold)) := hsth
    clear h3 hstp hsth c10' c11' hb1
    obtain ⟨V4, hs4, hR4, hF4⟩ := HR3.out.setPat _ _ HSH.out
    have hB := hR4.setHold _ _ (HSP.out.fr hF4)
    have HR : Hid (RPost P b tl V (S.change c) w (((w2.alloc (.cells #[.int .u8 10, .int .i64 (-1)] 230)).setCell ⟨b, 10, none⟩ (.slice ah S.hold.length ch)).setCell ⟨b, 11, none⟩ (.slice ap S.pat.length cp))) := by
      show RPost _ _ _ _ _ _ _
      rw [HL.out]
      exact RPost.trans hs4 (HF3.out.trans hF4) hB
    clear hR4 hF4 hB hs4
    go_wp2
    go_end0
    exact ⟨rfl, HR.out⟩
  · have HL : Hid (S.change c = if S.fits (joinC S.hold (nlC (-1)) S.pat).length then { S with hold := (joinC S.hold (nlC (-1)) S.pat) } else S.die 5) := HL.out
    go_enter Tryz.func219, Tryz.ntmps219
    go_wp2_with (refine cb_box rfl _ rfl vs rfl HONE.out ?_
                 intro w1 hb1 B1 hs1
                 have h1 := HH.out.below B1
                 have HR1 : Hid (RunAt P b tl V S w1) := h1
                 have bl1 := h1.box.lt
                 have c10 := h1.cell 10 _ rfl
                 have c11 := h1.cell 11 _ rfl
                 have c10' : w1.cell? ⟨b, 10, none⟩ = some (.slice ap S.pat.length cp) := by rw [c10]; show some V.pat = _; rw [HVP.out]
                 have c11' : w1.cell? ⟨b, 11, none⟩ = some (.slice ah S.hold.length ch) := by rw [c11]; show some V.hold = _; rw [HVH.out]
                 clear h1 c10 c11)
    refine (rnewline_calls (-1) w1).mono ?_
    rintro e w2 ⟨rfl, B2⟩
    have B3 : Below w1.heap.size w1 (w2.alloc (.cells #[.int .u8 10, .int .i64 (-1)] 230)) := B2.alloc B2.size _
    have hb3 : CB (w2.alloc (.cells #[.int .u8 10, .int .i64 (-1)] 230)) w2.heap.size [.int .u8 10, .int .i64 (-1)] := CB.new w2 _ #[.int .u8 10, .int .i64 (-1)] (by simp [Value.oneCell'])
    have h3 := HR1.out.below B3
    have HR3 : Hid (RunAt P b tl V S (w2.alloc (.cells #[.int .u8 10, .int .i64 (-1)] 230))) := h3
    have HF3 : Hid (Rf (foot b V) (foot b V) w (w2.alloc (.cells #[.int .u8 10, .int .i64 (-1)] 230))) := (Rf.of_below B1).trans (.of_below B3)
    have hcb := hb1.below B3 hb1.lt
    have d12 := hcb.c 12 _ HNM.out
    have lcb := hcb.lt
    have bl3 := h3.box.lt
    have HC3 : Hid (CmAt (w2.alloc (.cells #[.int .u8 10, .int .i64 (-1)] 230)) vs c) := HC.out.below (below2 B1 B3)
    have f10 := h3.fz 10 (by decide)
    have f11 := h3.fz 11 (by decide)
    have c10 := h3.cell 10 _ rfl
    have c11 := h3.cell 11 _ rfl
    have hstp := h3.pat
    have hsth := h3.hold
    rw [HVP.out] at hstp
    rw [HVH.out] at hsth
    have HSP : Hid (Stab (foot b V) (w2.alloc (.cells #[.int .u8 10, .int .i64 (-1)] 230)) (fun w => SlAt w (.slice ap S.pat.length cp) S.pat)) := hstp
    have HSH : Hid (Stab (foot b V) (w2.alloc (.cells #[.int .u8 10, .int .i64 (-1)] 230)) (fun w => SlAt w (.slice ah S.hold.length ch) S.hold)) := hsth
    clear h3 hstp hsth c10' c11' hb1
    go_wp2_with (refine cb_load0 rtCl hb3 rfl rfl _ rfl rfl ?_)
    refine (rjoined_calls _ _ S.hold S.pat 10 (-1) 10 _ rfl HSH.out.out HSP.out.out (by omega)).mono ?_
    rintro e w4 ⟨v4, rfl, hown4, B4⟩
    have hown4' : w4.ownsRow (w2.alloc (.cells #[.int .u8 10, .int .i64 (-1)] 230)).heap.size 230 2 v4 (joinC S.hold (nlC (-1)) S.pat).length (clC (joinC S.hold (nlC (-1)) S.pat)) := hown4
    have hst4 : Stab (foot b V) w4 (fun w => SlAt w v4 (joinC S.hold (nlC (-1)) S.pat)) := stab_new hown4' (fun k hk => foot_lt HR3.out k hk)
    have hR4 := HR3.out.below B4
    have HF4 : Hid (Rf (foot b V) (foot b V) w w4) := HF3.out.trans (.of_below B4)
    obtain ⟨J, hJ⟩ : ∃ J, (joinC S.hold (nlC (-1)) S.pat) = J := ⟨_, rfl⟩
    have HJL : Hid (J.length ≤ 1000) := by
      show _ ≤ _
      rw [← hJ]; unfold joinC
      rw [List.length_append, List.length_append]
      simp; omega
    rw [hJ] at hst4 HL hown4'
    obtain ⟨jl, hjl⟩ : ∃ k, J.length = k := ⟨_, rfl⟩
    rw [hjl] at hown4' HL HJL
    obtain ⟨a4, c4, hv4⟩ := own_form hown4'
    subst hv4
    clear hown4 hown4' hJ hjl
    go_wp2_with fail
    refine (rfits_calls P b tl V S jl w4 hR4 hw.rm (by have := HJL.out; omega)).mono ?_
    rintro e w9 ⟨rfl, V9, hs9, hR9, hF9⟩
    have hst9 := hst4.fr hF9
    cases hft : S.fits jl
    · rw [hft, if_neg (by decide)] at hR9
      have HR : Hid (RPost P b tl V (S.change c) w w9) := by
        show RPost _ _ _ _ _ _ _
        rw [HL.out, hft, if_neg (by decide)]
        exact ⟨V9, hs9, hR9, HF4.out.trans hF9⟩
      clear hft hR9 hF9 hst9 hst4
      go_wp2
      go_end0
      exact ⟨rfl, HR.out⟩
    · rw [hft, if_pos rfl] at hR9
      have l9 := hR9.box.lt
      have f9 := hR9.fz 11 (by decide)
      have c9 := hR9.cell 11 _ rfl
      have hB := hR9.setHold _ _ hst9
      have HR : Hid (RPost P b tl V (S.change c) w (w9.setCell ⟨b, 11, none⟩ (.slice a4 jl c4))) := by
        show RPost _ _ _ _ _ _ _
        rw [HL.out, hft, if_pos rfl]
        exact RPost.trans hs9 (HF4.out.trans hF9) hB
      clear hft hR9 hF9 hst9 hst4 hB hs9
      go_wp2
      go_end0
      exact ⟨rfl, HR.out⟩
  · have HL : Hid (S.change c = if S.fits (joinC S.pat (nlC (-1)) S.hold).length then { S with pat := (joinC S.pat (nlC (-1)) S.hold) } else S.die 5) := HL.out
    go_enter Tryz.func219, Tryz.ntmps219
    go_wp2_with (refine cb_box rfl _ rfl vs rfl HONE.out ?_
                 intro w1 hb1 B1 hs1
                 have h1 := HH.out.below B1
                 have HR1 : Hid (RunAt P b tl V S w1) := h1
                 have bl1 := h1.box.lt
                 have c10 := h1.cell 10 _ rfl
                 have c11 := h1.cell 11 _ rfl
                 have c10' : w1.cell? ⟨b, 10, none⟩ = some (.slice ap S.pat.length cp) := by rw [c10]; show some V.pat = _; rw [HVP.out]
                 have c11' : w1.cell? ⟨b, 11, none⟩ = some (.slice ah S.hold.length ch) := by rw [c11]; show some V.hold = _; rw [HVH.out]
                 clear h1 c10 c11)
    refine (rnewline_calls (-1) w1).mono ?_
    rintro e w2 ⟨rfl, B2⟩
    have B3 : Below w1.heap.size w1 (w2.alloc (.cells #[.int .u8 10, .int .i64 (-1)] 230)) := B2.alloc B2.size _
    have hb3 : CB (w2.alloc (.cells #[.int .u8 10, .int .i64 (-1)] 230)) w2.heap.size [.int .u8 10, .int .i64 (-1)] := CB.new w2 _ #[.int .u8 10, .int .i64 (-1)] (by simp [Value.oneCell'])
    have h3 := HR1.out.below B3
    have HR3 : Hid (RunAt P b tl V S (w2.alloc (.cells #[.int .u8 10, .int .i64 (-1)] 230))) := h3
    have HF3 : Hid (Rf (foot b V) (foot b V) w (w2.alloc (.cells #[.int .u8 10, .int .i64 (-1)] 230))) := (Rf.of_below B1).trans (.of_below B3)
    have hcb := hb1.below B3 hb1.lt
    have d12 := hcb.c 12 _ HNM.out
    have lcb := hcb.lt
    have bl3 := h3.box.lt
    have HC3 : Hid (CmAt (w2.alloc (.cells #[.int .u8 10, .int .i64 (-1)] 230)) vs c) := HC.out.below (below2 B1 B3)
    have f10 := h3.fz 10 (by decide)
    have f11 := h3.fz 11 (by decide)
    have c10 := h3.cell 10 _ rfl
    have c11 := h3.cell 11 _ rfl
    have hstp := h3.pat
    have hsth := h3.hold
    rw [HVP.out] at hstp
    rw [HVH.out] at hsth
    have HSP : Hid (Stab (foot b V) (w2.alloc (.cells #[.int .u8 10, .int .i64 (-1)] 230)) (fun w => SlAt w (.slice ap S.pat.length cp) S.pat)) := hstp
    have HSH : Hid (Stab (foot b V) (w2.alloc (.cells #[.int .u8 10, .int .i64 (-1)] 230)) (fun w => SlAt w (.slice ah S.hold.length ch) S.hold)) := hsth
    clear h3 hstp hsth c10' c11' hb1
    go_wp2_with (refine cb_load0 rtCl hb3 rfl rfl _ rfl rfl ?_)
    refine (rjoined_calls _ _ S.pat S.hold 10 (-1) 10 _ rfl HSP.out.out HSH.out.out (by omega)).mono ?_
    rintro e w4 ⟨v4, rfl, hown4, B4⟩
    have hown4' : w4.ownsRow (w2.alloc (.cells #[.int .u8 10, .int .i64 (-1)] 230)).heap.size 230 2 v4 (joinC S.pat (nlC (-1)) S.hold).length (clC (joinC S.pat (nlC (-1)) S.hold)) := hown4
    have hst4 : Stab (foot b V) w4 (fun w => SlAt w v4 (joinC S.pat (nlC (-1)) S.hold)) := stab_new hown4' (fun k hk => foot_lt HR3.out k hk)
    have hR4 := HR3.out.below B4
    have HF4 : Hid (Rf (foot b V) (foot b V) w w4) := HF3.out.trans (.of_below B4)
    obtain ⟨J, hJ⟩ : ∃ J, (joinC S.pat (nlC (-1)) S.hold) = J := ⟨_, rfl⟩
    have HJL : Hid (J.length ≤ 1000) := by
      show _ ≤ _
      rw [← hJ]; unfold joinC
      rw [List.length_append, List.length_append]
      simp; omega
    rw [hJ] at hst4 HL hown4'
    obtain ⟨jl, hjl⟩ : ∃ k, J.length = k := ⟨_, rfl⟩
    rw [hjl] at hown4' HL HJL
    obtain ⟨a4, c4, hv4⟩ := own_form hown4'
    subst hv4
    clear hown4 hown4' hJ hjl
    go_wp2_with fail
    refine (rfits_calls P b tl V S jl w4 hR4 hw.rm (by have := HJL.out; omega)).mono ?_
    rintro e w9 ⟨rfl, V9, hs9, hR9, hF9⟩
    have hst9 := hst4.fr hF9
    cases hft : S.fits jl
    · rw [hft, if_neg (by decide)] at hR9
      have HR : Hid (RPost P b tl V (S.change c) w w9) := by
        show RPost _ _ _ _ _ _ _
        rw [HL.out, hft, if_neg (by decide)]
        exact ⟨V9, hs9, hR9, HF4.out.trans hF9⟩
      clear hft hR9 hF9 hst9 hst4
      go_wp2
      go_end0
      exact ⟨rfl, HR.out⟩
    · rw [hft, if_pos rfl] at hR9
      have l9 := hR9.box.lt
      have f9 := hR9.fz 10 (by decide)
      have c9 := hR9.cell 10 _ rfl
      have hB := hR9.setPat _ _ hst9
      have HR : Hid (RPost P b tl V (S.change c) w (w9.setCell ⟨b, 10, none⟩ (.slice a4 jl c4))) := by
        show RPost _ _ _ _ _ _ _
        rw [HL.out, hft, if_pos rfl]
        exact RPost.trans hs9 (HF4.out.trans hF9) hB
      clear hft hR9 hF9 hst9 hst4 hB hs9
      go_wp2
      go_end0
      exact ⟨rfl, HR.out⟩
  · have HL : Hid (S.change c = S.subst c.sub) := HL.out
    go_enter Tryz.func219, Tryz.ntmps219
    go_wp2_with (refine cb_box rfl _ rfl vs rfl HONE.out ?_
                 intro w1 hb1 B1 hs1
                 have h1 := HH.out.below B1
                 have HR1 : Hid (RunAt P b tl V S w1) := h1
                 have bl1 := h1.box.lt
                 have c10 := h1.cell 10 _ rfl
                 have c11 := h1.cell 11 _ rfl
                 have c10' : w1.cell? ⟨b, 10, none⟩ = some (.slice ap S.pat.length cp) := by rw [c10]; show some V.pat = _; rw [HVP.out]
                 have c11' : w1.cell? ⟨b, 11, none⟩ = some (.slice ah S.hold.length ch) := by rw [c11]; show some V.hold = _; rw [HVH.out]
                 clear h1 c10 c11)
    refine (rnewline_calls (-1) w1).mono ?_
    rintro e w2 ⟨rfl, B2⟩
    have B3 : Below w1.heap.size w1 (w2.alloc (.cells #[.int .u8 10, .int .i64 (-1)] 230)) := B2.alloc B2.size _
    have hb3 : CB (w2.alloc (.cells #[.int .u8 10, .int .i64 (-1)] 230)) w2.heap.size [.int .u8 10, .int .i64 (-1)] := CB.new w2 _ #[.int .u8 10, .int .i64 (-1)] (by simp [Value.oneCell'])
    have h3 := HR1.out.below B3
    have HR3 : Hid (RunAt P b tl V S (w2.alloc (.cells #[.int .u8 10, .int .i64 (-1)] 230))) := h3
    have HF3 : Hid (Rf (foot b V) (foot b V) w (w2.alloc (.cells #[.int .u8 10, .int .i64 (-1)] 230))) := (Rf.of_below B1).trans (.of_below B3)
    have hcb := hb1.below B3 hb1.lt
    have d12 := hcb.c 12 _ HNM.out
    have lcb := hcb.lt
    have bl3 := h3.box.lt
    have HC3 : Hid (CmAt (w2.alloc (.cells #[.int .u8 10, .int .i64 (-1)] 230)) vs c) := HC.out.below (below2 B1 B3)
    have f10 := h3.fz 10 (by decide)
    have f11 := h3.fz 11 (by decide)
    have c10 := h3.cell 10 _ rfl
    have c11 := h3.cell 11 _ rfl
    have hstp := h3.pat
    have hsth := h3.hold
    rw [HVP.out] at hstp
    rw [HVH.out] at hsth
    have HSP : Hid (Stab (foot b V) (w2.alloc (.cells #[.int .u8 10, .int .i64 (-1)] 230)) (fun w => SlAt w (.slice ap S.pat.length cp) S.pat)) := hstp
    have HSH : Hid (Stab (foot b V) (w2.alloc (.cells #[.int .u8 10, .int .i64 (-1)] 230)) (fun w => SlAt w (.slice ah S.hold.length ch) S.hold)) := hsth
    clear h3 hstp hsth c10' c11' hb1
    have hkk := HK.out
    go_wp2_with (refine cb_load rtSb7 hcb (o := 16) rfl HSL7.out rfl _ rfl rfl ?_)
    refine (substitute_calls P b tl V S _ c.sub _ HR3.out hw HC3.out.cells.2.2.2.2.2 hkk.i3 hkk.rp hkk.ct).mono ?_
    rintro e w5 ⟨rfl, hr⟩
    have HR : Hid (RPost P b tl V (S.change c) w w5) := by show RPost _ _ _ _ _ _ _; rw [HL.out]; exact RPost.trans rfl HF3.out hr
    clear hr
    go_wp2
    go_end0
    exact ⟨rfl, HR.out⟩
  · have HL : Hid (S.change c = { S with pat := S.pat.map (exchC c.frm.data.toList c.toF.data.toList) }) := HL.out
    go_enter Tryz.func219, Tryz.ntmps219
    go_wp2_with (refine cb_box rfl _ rfl vs rfl HONE.out ?_
                 intro w1 hb1 B1 hs1
                 have h1 := HH.out.below B1
                 have HR1 : Hid (RunAt P b tl V S w1) := h1
                 have bl1 := h1.box.lt
                 have c10 := h1.cell 10 _ rfl
                 have c11 := h1.cell 11 _ rfl
                 have c10' : w1.cell? ⟨b, 10, none⟩ = some (.slice ap S.pat.length cp) := by rw [c10]; show some V.pat = _; rw [HVP.out]
                 have c11' : w1.cell? ⟨b, 11, none⟩ = some (.slice ah S.hold.length ch) := by rw [c11]; show some V.hold = _; rw [HVH.out]
                 clear h1 c10 c11)
    refine (rnewline_calls (-1) w1).mono ?_
    rintro e w2 ⟨rfl, B2⟩
    have B3 : Below w1.heap.size w1 (w2.alloc (.cells #[.int .u8 10, .int .i64 (-1)] 230)) := B2.alloc B2.size _
    have hb3 : CB (w2.alloc (.cells #[.int .u8 10, .int .i64 (-1)] 230)) w2.heap.size [.int .u8 10, .int .i64 (-1)] := CB.new w2 _ #[.int .u8 10, .int .i64 (-1)] (by simp [Value.oneCell'])
    have h3 := HR1.out.below B3
    have HR3 : Hid (RunAt P b tl V S (w2.alloc (.cells #[.int .u8 10, .int .i64 (-1)] 230))) := h3
    have HF3 : Hid (Rf (foot b V) (foot b V) w (w2.alloc (.cells #[.int .u8 10, .int .i64 (-1)] 230))) := (Rf.of_below B1).trans (.of_below B3)
    have hcb := hb1.below B3 hb1.lt
    have d12 := hcb.c 12 _ HNM.out
    have lcb := hcb.lt
    have bl3 := h3.box.lt
    have HC3 : Hid (CmAt (w2.alloc (.cells #[.int .u8 10, .int .i64 (-1)] 230)) vs c) := HC.out.below (below2 B1 B3)
    have f10 := h3.fz 10 (by decide)
    have f11 := h3.fz 11 (by decide)
    have c10 := h3.cell 10 _ rfl
    have c11 := h3.cell 11 _ rfl
    have hstp := h3.pat
    have hsth := h3.hold
    rw [HVP.out] at hstp
    rw [HVH.out] at hsth
    have HSP : Hid (Stab (foot b V) (w2.alloc (.cells #[.int .u8 10, .int .i64 (-1)] 230)) (fun w => SlAt w (.slice ap S.pat.length cp) S.pat)) := hstp
    have HSH : Hid (Stab (foot b V) (w2.alloc (.cells #[.int .u8 10, .int .i64 (-1)] 230)) (fun w => SlAt w (.slice ah S.hold.length ch) S.hold)) := hsth
    clear h3 hstp hsth c10' c11' hb1
    have hkk := HK.out
    go_wp2_with (refine cb_load rtEc hcb (o := 23) HFT.out rfl rfl _ rfl rfl ?_)
    refine (exchanged_calls _ S.pat c.frm c.toF _ HSP.out.out (by omega) hkk.fr hkk.toF).mono ?_
    rintro e w5 ⟨v5, rfl, hown5, B5⟩
    have hst5 : Stab (foot b V) w5 (fun w => SlAt w v5 (S.pat.map (exchC c.frm.data.toList c.toF.data.toList))) := stab_new hown5 (fun k hk => foot_lt HR3.out k hk)
    have hR5 := HR3.out.below B5
    have l5 := hR5.box.lt
    have g10 := hR5.fz 10 (by decide)
    have e10 := hR5.cell 10 _ rfl
    have hB := hR5.setPat _ _ hst5
    have HR : Hid (RPost P b tl V (S.change c) w (w5.setCell ⟨b, 10, none⟩ v5)) := by
      show RPost _ _ _ _ _ _ _
      rw [HL.out]
      exact RPost.trans rfl (HF3.out.trans (.of_below B5)) hB
    rw [List.length_map] at hown5
    obtain ⟨a5, c5, hv5⟩ := own_form hown5
    subst hv5
    clear hB hst5 hR5 hown5
    go_wp2
    go_end0
    exact ⟨rfl, HR.out⟩
end Go.Proofs.YtlppphmnegdhoabGreatDoor

namespace Go.Proofs.YtlppphmnegdhoabGreatDoor
set_option linter.unusedVariables false
set_option maxRecDepth 100000
open Go.RowKit
open M

/-- what Itoa answers -/
def ItoaOk (P : Value → World → Prop) (v : Value) : Prop := ∀ (n : Nat) (w : World), n ≤ 4096 → P v w → Calls Tryz.prog 239 #[.int .i64 (n : Nat)] w fun e w' => e = .returned (.string (St.itoa n)) ∧ Below w.heap.size w w'
theorem dec_len (n : Nat) : ∀ k, n < 10 ^ (k + 1) → (Lib.decDigits n).length ≤ k + 1 := by
  intro k
  induction k generalizing n with
  | zero => intro h; rw [Lib.decDigits, dif_pos (by omega)]; simp
  | succ k ih =>
    intro h
    rw [Lib.decDigits]
    split
    · simp
    · rw [List.length_append]
      have := ih (n / 10) (by rw [Nat.div_lt_iff_lt_mul (by decide)]; rw [Nat.pow_succ] at h; exact h)
      simp; omega
theorem itoa_size (n : Nat) (h : n ≤ 4096) : (St.itoa n).size ≤ 4 := by
  have h1 := dec_len n 3 (by omega)
  have h2 : (St.itoa n).size = (Lib.decDigits n).length := by
    rw [← ba_len]; rfl
  omega
section
variable {P : Value → World → Prop} {b : Nat} {tl : List Value} {V : RV} {S : St} {w w' : World}
/-- one text more in the queue -/
theorem RunAt.growQue (h : RunAt P b tl V S w) {v' : Value} {t : ByteArray} (hown : w'.ownsRow 0 9 1 v' (S.queue.length + 1) (S.queue.map .string ++ [.string t])) (hg : w.grownBy w' V.que.ownBlock) (hat : v'.ownBlock = V.que.ownBlock ∨ v'.ownBlock = some w.heap.size) :
    CB w' b (runC V S ++ tl) ∧ RPost P b tl V { S with queue := S.queue ++ [t] } w (w'.setCell ⟨b, 13, none⟩ v') := by
  have hbl := h.box.lt
  have hk : ∀ k, k < w.heap.size → V.que.ownBlock ≠ some k → w'.heap[k]? = w.heap[k]? := fun k hk hne => hg.block k hk (fun e => hne e.symm)
  have hbx := h.box.keep (hk b hbl h.sq) hg.size
  refine ⟨hbx, ⟨V.scr, V.rng, V.out, V.pat, V.hold, v'⟩, rfl, ?_⟩
  have hvb : v'.ownBlock ≠ some b := by
    rcases hat with e | e <;> rw [e]
    · exact h.sq
    · intro e'; simp at e'; omega
  have f1 : Rf (foot b V) (foot b ⟨V.scr, V.rng, V.out, V.pat, V.hold, v'⟩) w w' := by
    refine ⟨hg.os, hg.tape, hg.output, hg.size, fun k hk' hF => hk k hk' (fun e => hF (.inr (.inr (.inr e)))), fun k hF => ?_⟩
    rcases hF with e | e | e | e
    · exact .inl (.inl e)
    · exact .inl (.inr (.inl e))
    · exact .inl (.inr (.inr (.inl e)))
    · rcases hat with e' | e'
      · exact .inl (.inr (.inr (.inr (by rw [← e']; exact e))))
      · have e : v'.ownBlock = some k := e
        rw [e'] at e
        simp at e
        exact .inr (by omega)
  have f2 := f1.trans (Rf.set ⟨V.scr, V.rng, V.out, V.pat, V.hold, v'⟩ b 13 v' w')
  have hk2 : ∀ k, k ≠ b → (w'.setCell ⟨b, 13, none⟩ v').heap[k]? = w'.heap[k]? := fun k hk => heap_setCell_other w' _ k v' hk
  refine ⟨⟨?_, ?_, ?_, ?_, h.so, h.sr, hvb, h.scr.fr f2, h.pat.fr f2, h.hold.fr f2, h.one⟩, f2⟩
  · have h1 := hbx.set 13 (by rw [List.length_append, runC_len]; omega) v' (own_one hown)
    rw [List.set_append_left _ _ (by rw [runC_len]; omega)] at h1
    exact h1
  · refine ownsRow_fr (F := foot b V) (G := foot b V) h.out (fun k e => ?_)
    have e : V.out.ownBlock = some k := e
    have hlt := (h.out.lt k e).2
    rw [hk2 k (fun e' => h.so (by rw [e, e'])), hk k hlt (rows_far h.out h.que (by decide) k e)]
  · refine ownsRow_fr (F := foot b V) (G := foot b V) h.rng (fun k e => ?_)
    have e : V.rng.ownBlock = some k := e
    have hlt := (h.rng.lt k e).2
    rw [hk2 k (fun e' => h.sr (by rw [e, e'])), hk k hlt (rows_far h.rng h.que (by decide) k e)]
  · show World.ownsRow _ 0 _ 1 v' (S.queue ++ [t]).length ((S.queue ++ [t]).map .string)
    rw [List.length_append, List.map_append]
    exact ownsRow_fr (F := foot b V) (G := foot b V) hown (fun k e => hk2 k (fun e' => hvb (by rw [e, e'])))
end
theorem infoStrB : (Tryz.prog.info? 9).map (fun i => (i.zero, i.size, i.bytes)) = some (some (.string ⟨#[]⟩), 1, 16) := by kernel_rfl
set_option maxRecDepth 100000 in
set_option maxHeartbeats 4000000 in
theorem show_calls (P : Value → World → Prop) (b : Nat) (tl : List Value) (V : RV) (S : St) (vs : List Value) (c : Cm) (w : World) (h : RunAt P b tl V S w) (hw : WF S) (hc : CmAt w vs c) (hk : CmOk c) (hit : ItoaOk P V.scr) (hn : c.name = 112 ∨ c.name = 80 ∨ c.name = 61 ∨ c.name = 105 ∨ c.name = 97) :
    Calls Tryz.prog 218 #[.pointer (some ⟨b, 0, none⟩), .agg vs.toArray] w fun e w' => VPost P b tl V (S.show' c) w e w' := by
  have HC : Hid (CmAt w vs c) := hc
  have HONE : Hid (∀ v ∈ vs, v.oneCell' = true) := hc.one
  have HLEN : Hid (vs.length = 25) := hc.len
  obtain ⟨hnm, hnx, htx, _, _, _⟩ := hc.cells
  have HNM : Hid (vs[12]? = some (.int .u8 (c.name : Nat))) := hnm
  have HTX : Hid (vs[15]? = some (.string c.text)) := htx
  have HH : Hid (RunAt P b tl V S w) := h
  have hbl := h.box.lt
  have hnb := hk.nm
  have htb := hk.tx
  have HL : Hid (S.show' c = if c.name = 112 then S.putPat else if c.name = 80 then S.putFirst else if c.name = 61 then S.putText (St.itoa S.line) else if c.name = 105 then S.putText c.text else { S with queue := S.queue ++ [c.text] }) := rfl
  obtain ⟨nm, hnn⟩ : ∃ k, c.name = k := ⟨_, rfl⟩
  have hli : S.line ≤ 4096 := by have := hw.li; have := hw.bh; have := hw.tx; omega
  rw [hnn] at hn HNM HL hnb
  clear h hc hnm hnx htx hnn
  rcases hn with rfl | rfl | rfl | rfl | rfl
  · have HL : Hid (S.show' c = S.putPat) := HL.out
    go_enter Tryz.func218, Tryz.ntmps218
    go_wp2_with (refine cb_box rfl _ rfl vs rfl HONE.out ?_
                 intro w1 hb1 B1 hs1
                 have h1 := HH.out.below B1
                 have HR1 : Hid (RunAt P b tl V S w1) := h1
                 have HF1 : Hid (Rf (foot b V) (foot b V) w w1) := .of_below B1
                 have HC1 : Hid (CmAt w1 vs c) := HC.out.below B1
                 have HB1 : Hid (CB w1 w.heap.size vs) := hb1
                 have d12 := hb1.c 12 _ HNM.out
                 have d15 := hb1.c 15 _ HTX.out
                 have l1 := hb1.lt
                 have bl1 := h1.box.lt
                 have c12 := h1.cell 12 _ rfl
                 clear hb1 h1)
    refine (putPattern_calls P b tl V S w1 HR1.out hw).mono ?_
    rintro e w2 ⟨rfl, hr⟩
    have HR : Hid (RPost P b tl V (S.show' c) w w2) := by show RPost _ _ _ _ _ _ _; rw [HL.out]; exact RPost.trans rfl HF1.out hr.toR
    clear hr
    go_wp2
    go_end0
    exact ⟨rfl, HR.out⟩
  · have HL : Hid (S.show' c = S.putFirst) := HL.out
    go_enter Tryz.func218, Tryz.ntmps218
    go_wp2_with (refine cb_box rfl _ rfl vs rfl HONE.out ?_
                 intro w1 hb1 B1 hs1
                 have h1 := HH.out.below B1
                 have HR1 : Hid (RunAt P b tl V S w1) := h1
                 have HF1 : Hid (Rf (foot b V) (foot b V) w w1) := .of_below B1
                 have HC1 : Hid (CmAt w1 vs c) := HC.out.below B1
                 have HB1 : Hid (CB w1 w.heap.size vs) := hb1
                 have d12 := hb1.c 12 _ HNM.out
                 have d15 := hb1.c 15 _ HTX.out
                 have l1 := hb1.lt
                 have bl1 := h1.box.lt
                 have c12 := h1.cell 12 _ rfl
                 clear hb1 h1)
    refine (putFirst_calls P b tl V S w1 HR1.out hw).mono ?_
    rintro e w2 ⟨rfl, hr⟩
    have HR : Hid (RPost P b tl V (S.show' c) w w2) := by show RPost _ _ _ _ _ _ _; rw [HL.out]; exact RPost.trans rfl HF1.out hr.toR
    clear hr
    go_wp2
    go_end0
    exact ⟨rfl, HR.out⟩
  · have HL : Hid (S.show' c = S.putText (St.itoa S.line)) := HL.out
    go_enter Tryz.func218, Tryz.ntmps218
    go_wp2_with (refine cb_box rfl _ rfl vs rfl HONE.out ?_
                 intro w1 hb1 B1 hs1
                 have h1 := HH.out.below B1
                 have HR1 : Hid (RunAt P b tl V S w1) := h1
                 have HF1 : Hid (Rf (foot b V) (foot b V) w w1) := .of_below B1
                 have HC1 : Hid (CmAt w1 vs c) := HC.out.below B1
                 have HB1 : Hid (CB w1 w.heap.size vs) := hb1
                 have d12 := hb1.c 12 _ HNM.out
                 have d15 := hb1.c 15 _ HTX.out
                 have l1 := hb1.lt
                 have bl1 := h1.box.lt
                 have c12 := h1.cell 12 _ rfl
                 clear hb1 h1)
    refine (hit S.line w1 hli HR1.out.scr.out).mono ?_
    rintro e w2 ⟨rfl, B2⟩
    have hR2 := HR1.out.below B2
    have HF2 : Hid (Rf (foot b V) (foot b V) w w2) := HF1.out.trans (.of_below B2)
    have hsz := itoa_size S.line hli
    go_wp2_with fail
    refine (putText_calls P b tl V S (St.itoa S.line) w2 hR2 hw (by omega)).mono ?_
    rintro e w3 ⟨rfl, hr⟩
    have HR : Hid (RPost P b tl V (S.show' c) w w3) := by show RPost _ _ _ _ _ _ _; rw [HL.out]; exact RPost.trans rfl HF2.out hr.toR
    clear hr
    go_wp2
    go_end0
    exact ⟨rfl, HR.out⟩
  · have HL : Hid (S.show' c = S.putText c.text) := HL.out
    go_enter Tryz.func218, Tryz.ntmps218
    go_wp2_with (refine cb_box rfl _ rfl vs rfl HONE.out ?_
                 intro w1 hb1 B1 hs1
                 have h1 := HH.out.below B1
                 have HR1 : Hid (RunAt P b tl V S w1) := h1
                 have HF1 : Hid (Rf (foot b V) (foot b V) w w1) := .of_below B1
                 have HC1 : Hid (CmAt w1 vs c) := HC.out.below B1
                 have HB1 : Hid (CB w1 w.heap.size vs) := hb1
                 have d12 := hb1.c 12 _ HNM.out
                 have d15 := hb1.c 15 _ HTX.out
                 have l1 := hb1.lt
                 have bl1 := h1.box.lt
                 have c12 := h1.cell 12 _ rfl
                 clear hb1 h1)
    refine (putText_calls P b tl V S c.text w1 HR1.out hw (by omega)).mono ?_
    rintro e w2 ⟨rfl, hr⟩
    have HR : Hid (RPost P b tl V (S.show' c) w w2) := by show RPost _ _ _ _ _ _ _; rw [HL.out]; exact RPost.trans rfl HF1.out hr.toR
    clear hr
    go_wp2
    go_end0
    exact ⟨rfl, HR.out⟩
  · have HL : Hid (S.show' c = { S with queue := S.queue ++ [c.text] }) := HL.out
    obtain ⟨i0, hi, hz0, hz1, hz2⟩ := info_parts infoStrB
    obtain ⟨aq, cq, hvq⟩ := own_form HH.out.que
    have HVQ : Hid (V.que = .slice aq S.queue.length cq) := hvq
    have hqu := hw.qu
    clear hvq
    go_enter Tryz.func218, Tryz.ntmps218
    go_wp2_with (refine cb_box rfl _ rfl vs rfl HONE.out ?_
                 intro w1 hb1 B1 hs1
                 have h1 := HH.out.below B1
                 have HR1 : Hid (RunAt P b tl V S w1) := h1
                 have HF1 : Hid (Rf (foot b V) (foot b V) w w1) := .of_below B1
                 have HC1 : Hid (CmAt w1 vs c) := HC.out.below B1
                 have HB1 : Hid (CB w1 w.heap.size vs) := hb1
                 have d12 := hb1.c 12 _ HNM.out
                 have d15 := hb1.c 15 _ HTX.out
                 have l1 := hb1.lt
                 have bl1 := h1.box.lt
                 have c13 := h1.cell 13 _ rfl
                 have c13' : w1.cell? ⟨b, 13, none⟩ = some (.slice aq S.queue.length cq) := by rw [c13]; show some V.que = _; rw [HVQ.out]
                 have f13 := h1.fz 13 (by decide)
                 clear c13
                 clear hb1 h1)
    have BA : Below w1.heap.size w1 (w1.alloc (.cells #[.string c.text] 9)).drew := ((Below.refl _ _).alloc (Nat.le_refl _) _).drew
    have hRA := HR1.out.below BA
    have HRA : Hid (RunAt P b tl V S (w1.alloc (.cells #[.string c.text] 9)).drew) := hRA
    have hqA := hRA.que
    rw [HVQ.out] at hqA
    have hgx : (w1.alloc (.cells #[.string c.text] 9)).drew.heap[w1.heap.size]? = some (.cells #[.string c.text] 9) := heap_alloc_new w1 _
    have hcx : ∀ j u, ([.string c.text] : List Value)[j]? = some u → (w1.alloc (.cells #[.string c.text] 9)).drew.cell? ((⟨w1.heap.size, 0, none⟩ : Addr).add j) = some u := fun j u hu => by
      rw [Addr.add_mid, cell_of_row _ _ _ _ _ _ hgx]
      simpa using hu
    have HF2 : Hid (Rf (foot b V) (foot b V) w (w1.alloc (.cells #[.string c.text] 9)).drew) := HF1.out.trans (.of_below BA)
    clear hRA
    go_region_law (first
      | (refine step_append_lies _ rfl (.tmp 37) (.tmp 40) 22 rfl 0 9 i0 (.string ⟨#[]⟩) 1 16 Tryz.underlying22 hi hz0 hz1 hz2 rfl (by decide) (.slice aq S.queue.length cq) S.queue.length (S.queue.map .string) (by simp [Act.eval]) hqA ⟨w1.heap.size, 0, none⟩ 1 1 [.string c.text] (by simp [Act.eval]) rfl hcx (by simp [Value.oneCell']) (by decide) (by unfold maxLen; omega) (by omega) (Nat.zero_le _) (w1.heap.size + 1) (by simp) ?_
         intro g cap w3 hown3 hgrow hat3 _
         have hgr := HRA.out.growQue hown3 (by rw [HVQ.out]; exact hgrow) (by rw [HVQ.out]; rcases hat3 with e | e; exact .inl (by rw [e]; rfl); exact .inr (by rw [e]; simp [Value.ownBlock]))
         obtain ⟨hcb, hrp⟩ := hgr
         have HRP : Hid (RPost P b tl V { S with queue := S.queue ++ [c.text] } (w1.alloc (.cells #[.string c.text] 9)).drew (w3.setCell ⟨b, 13, none⟩ (.slice (some ⟨g, 0, none⟩) (S.queue.length + 1) cap))) := hrp
         have g13 := hcb.fz 13 (by simp [runC])
         have e13 := hcb.c 13 V.que (by simp [runC])
         have l3 := hcb.lt
         clear hrp hcb hgrow hat3 hown3))
    all_goals
      go_wp2
      go_end0
      exact ⟨rfl, by rw [HL.out]; exact RPost.trans rfl HF2.out HRP.out⟩
end Go.Proofs.YtlppphmnegdhoabGreatDoor

namespace Go.Proofs.YtlppphmnegdhoabGreatDoor
set_option linter.unusedVariables false
set_option maxRecDepth 100000
open Go.RowKit
open M

/-- the library's table of powers of ten lies as it was laid -/
def Tab (w : World) : Prop := Lib.TabIs Tryz.prog w "internal/strconv.uint64pow10" .u64 Lib.pow10Tab
theorem Tab.keep {w w' : World} (h : Tab w) (hk : ∀ k, k < w.heap.size → w'.heap[k]? = w.heap[k]?) : Tab w' := by
  unfold Tab Lib.TabIs World.var? at *
  cases hg : (Tryz.prog).globalNamed "internal/strconv.uint64pow10" with
  | none => simp [hg] at h
  | some g =>
    simp only [hg, Option.bind_some] at h ⊢
    have hlt : g < w.heap.size := by
      rcases Nat.lt_or_ge g w.heap.size with h' | h'
      · exact h'
      · rw [Array.getElem?_eq_none h'] at h; simp at h
    rw [hk g hlt]
    exact h
theorem Tab.below {w w' : World} (h : Tab w) (hb : Below w.heap.size w w') : Tab w' := h.keep (fun k hk => hb.block k hk)
/-- it hangs on the blocks below a place alone -/
def TabB (B : Nat) (w : World) : Prop := B ≤ w.heap.size ∧ ∀ w' : World, (∀ k, k < B → w'.heap[k]? = w.heap[k]?) → Tab w'
theorem Tab.toB {w : World} (h : Tab w) : TabB w.heap.size w := ⟨Nat.le_refl _, fun w' hk => h.keep hk⟩
theorem TabB.out {B : Nat} {w : World} (h : TabB B w) : Tab w := h.2 w (fun _ _ => rfl)
theorem TabB.keep {B : Nat} {w w' : World} (h : TabB B w) (hs : w.heap.size ≤ w'.heap.size) (hk : ∀ k, k < B → w'.heap[k]? = w.heap[k]?) : TabB B w' := ⟨Nat.le_trans h.1 hs, fun w'' h2 => h.2 w'' (fun k h3 => (h2 k h3).trans (hk k h3))⟩
theorem TabB.below {B : Nat} {w w' : World} (h : TabB B w) (hb : Below B w w') : TabB B w' := h.keep hb.size (fun k hk => hb.block k hk)
theorem itoa_ok (P : Value → World → Prop) (v : Value) (hP : ∀ w, P v w → Tab w) : ItoaOk P v := fun n w hn hp => by
  refine (itoa_lib (n : Int) (by omega) (by omega) w (hP w hp)).mono ?_
  rintro e w' ⟨rfl, k, os, rfl⟩
  refine ⟨?_, rfl, rfl, rfl, by simp, fun i hi => Sort.heap_grow_old _ os (by exact hi)⟩
  rw [Lib.itoa_nonneg]; rfl
end Go.Proofs.YtlppphmnegdhoabGreatDoor

namespace Go.Proofs.YtlppphmnegdhoabGreatDoor
set_option linter.unusedVariables false
namespace M
namespace St
/-- what is put out stays, and the steps -/
structure Gr (S T : St) : Prop where
  steps : T.steps = S.steps
  out : S.out <+: T.out
theorem Gr.refl (S : St) : Gr S S := ⟨rfl, List.prefix_refl _⟩
theorem Gr.trans {S T U : St} (h : Gr S T) (k : Gr T U) : Gr S U := ⟨k.steps.trans h.steps, h.out.trans k.out⟩
theorem Gr.ite {S T U : St} {p : Prop} [Decidable p] (h : p → Gr S T) (k : ¬ p → Gr S U) : Gr S (if p then T else U) := by
  split
  · exact h ‹_›
  · exact k ‹_›
theorem gr_die (S : St) (e : Nat) : Gr S (S.die e) := ⟨rfl, List.prefix_refl _⟩
theorem gr_put (S : St) (l : List Cl) : Gr S (S.put l) := by
  unfold put
  exact .ite (fun _ => .refl S) (fun _ => .ite (fun _ => gr_die S 6) (fun _ => ⟨rfl, List.prefix_append _ _⟩))
theorem gr_fold (l : List ByteArray) : ∀ S : St, Gr S (l.foldl putText S) := by
  induction l with
  | nil => intro S; exact .refl S
  | cons x l ih => intro S; exact (gr_put S _).trans (ih _)
theorem gr_putQueue (S : St) : Gr S S.putQueue := (gr_fold S.queue S).trans ⟨rfl, List.prefix_refl _⟩
theorem gr_putUQ (S : St) : Gr S S.putUQ := by unfold putUQ; exact .ite (fun _ => .refl S) (fun _ => gr_put S _)
theorem gr_putFirst (S : St) : Gr S S.putFirst := by unfold putFirst; exact .ite (fun _ => gr_put S _) (fun _ => gr_put S _)
theorem gr_endCycle (S : St) : Gr S S.endCycle := (gr_putQueue S).trans ⟨rfl, List.prefix_refl _⟩
theorem gr_endEarly (S : St) : Gr S S.endEarly := ((gr_putUQ S).trans (gr_putQueue _)).trans ⟨rfl, List.prefix_refl _⟩
theorem gr_dropFirst (S : St) : Gr S S.dropFirst := by
  unfold dropFirst
  refine .ite (fun _ => gr_endCycle S) (fun _ => ?_)
  have h1 : Gr S { S with pat := partC S.pat (behNL S.pat) S.pat.length } := ⟨rfl, List.prefix_refl _⟩
  have h2 := h1.trans (gr_putQueue _)
  exact ⟨h2.steps, h2.out⟩
theorem gr_show (S : St) (c : Cm) : Gr S (S.show' c) := by
  unfold show'
  exact .ite (fun _ => gr_put S _) (fun _ => .ite (fun _ => gr_putFirst S) (fun _ => .ite (fun _ => gr_put S _) (fun _ => .ite (fun _ => gr_put S _) (fun _ => ⟨rfl, List.prefix_refl _⟩))))
theorem gr_subst (S : St) (s : Sbs) : Gr S (S.subst s) := by
  unfold subst
  simp only
  refine .ite (fun _ => .refl S) (fun _ => .ite (fun _ => .ite (fun _ => ?_) (fun _ => ⟨rfl, List.prefix_refl _⟩)) (fun _ => gr_die S 5))
  have h1 : Gr S { S with pat := replC S.pat s (mtsX s.ex (textC S.pat)) 1 0, mark := true } := ⟨rfl, List.prefix_refl _⟩
  exact h1.trans (gr_put _ _)
theorem gr_change (S : St) (c : Cm) : Gr S (S.change c) := by
  unfold change
  simp only
  refine .ite (fun _ => ⟨rfl, List.prefix_refl _⟩) (fun _ => .ite (fun _ => ⟨rfl, List.prefix_refl _⟩) (fun _ => .ite (fun _ => ⟨rfl, List.prefix_refl _⟩) (fun _ => .ite (fun _ => .ite (fun _ => ⟨rfl, List.prefix_refl _⟩) (fun _ => gr_die S 5)) (fun _ => .ite (fun _ => .ite (fun _ => ⟨rfl, List.prefix_refl _⟩) (fun _ => gr_die S 5)) (fun _ => .ite (fun _ => gr_subst S _) (fun _ => ⟨rfl, List.prefix_refl _⟩))))))
theorem gr_lead (S : St) (c : Cm) : Gr S (S.lead c) := by
  unfold lead
  refine .ite (fun _ => gr_endCycle S) (fun _ => .ite (fun _ => gr_dropFirst S) (fun _ => .ite (fun _ => (gr_put S _).trans (gr_endCycle _)) (fun _ => .ite (fun _ => ⟨rfl, List.prefix_refl _⟩) (fun _ => .ite (fun _ => ⟨rfl, List.prefix_refl _⟩) (fun _ => .ite (fun _ => gr_endEarly S) (fun _ => .ite (fun _ => ⟨rfl, List.prefix_refl _⟩) (fun _ => .ite (fun _ => ⟨rfl, List.prefix_refl _⟩) (fun _ => .refl S))))))))
theorem gr_does (S : St) (c : Cm) : Gr S (S.does c) := by
  unfold does
  exact .ite (fun _ => gr_show S c) (fun _ => .ite (fun _ => gr_change S c) (fun _ => .ite (fun _ => gr_lead S c) (fun _ => .refl S)))
theorem gr_ranged (S : St) (k : Nat) (c : Cm) : Gr S (S.ranged k c).2 := by
  unfold ranged
  split <;> exact ⟨rfl, List.prefix_refl _⟩
theorem gr_selects (S : St) (k : Nat) (c : Cm) : Gr S (S.selects k c).2 := by
  unfold selects
  split
  · exact .refl S
  split
  · exact .refl S
  · exact gr_ranged S k c
theorem pre_reach (S : St) : S.out <+: S.reach.out ∧ (S.reach.steps = S.steps ∨ S.reach.steps + 1 = S.steps) ∧ ((S.cs[S.next]? = none ∧ S.reach.asks = 1) ∨ (S.reach.over = true ∧ S.reach.asks = S.asks ∧ S.reach.steps = S.steps) ∨ S.reach.steps + 1 = S.steps) := by
  unfold reach
  cases S.cs[S.next]? with
  | none =>
    have h := (gr_putUQ S).trans (gr_endCycle _)
    exact ⟨h.out, .inl h.steps, .inl ⟨rfl, rfl⟩⟩
  | some c =>
    simp only
    split
    · exact ⟨List.prefix_refl _, .inl rfl, .inr (.inl ⟨rfl, rfl, rfl⟩)⟩
    · rename_i h0
      have h1 := gr_selects { S with steps := S.steps - 1, next := S.next + 1 } S.next c
      have e1 : (({ S with steps := S.steps - 1, next := S.next + 1 } : St).selects S.next c).2.steps + 1 = S.steps := by
        rw [h1.steps]; show S.steps - 1 + 1 = S.steps; omega
      split
      · have h2 := gr_does (({ S with steps := S.steps - 1, next := S.next + 1 } : St).selects S.next c).2 c
        have h3 : ((({ S with steps := S.steps - 1, next := S.next + 1 } : St).selects S.next c).2.does c).steps + 1 = S.steps := by rw [h2.steps]; exact e1
        exact ⟨h1.out.trans h2.out, .inr h3, .inr (.inr h3)⟩
      split
      · exact ⟨h1.out, .inr e1, .inr (.inr e1)⟩
      · exact ⟨h1.out, .inr e1, .inr (.inr e1)⟩
theorem gr_takePre (S : St) : Gr S S.takePre := by
  unfold takePre
  have h0 : Gr S { S with asks := 0 } := ⟨rfl, List.prefix_refl _⟩
  exact Gr.trans (.ite (fun _ => h0.trans (gr_putUQ _)) (fun _ => h0)) (gr_putQueue _)
theorem takePre_asks (S : St) : S.takePre.asks = 0 := by
  unfold takePre
  have hq : ∀ T : St, T.putQueue.asks = T.asks := fun T => (fold_keep T.queue T).2.2.2.2.2.2.2.2.2.2.2.1
  split
  · rw [hq]
    unfold putUQ
    split
    · rfl
    · exact (put_keep _ _).2.2.2.2.2.2.2.2.2.2.2.1
  · rw [hq]
theorem gr_take (S : St) : Gr S S.take ∧ S.take.asks = 0 := by
  rw [take_eq]
  have h := gr_takePre S
  have ha := takePre_asks S
  split
  · exact ⟨⟨h.steps, h.out⟩, ha⟩
  · exact ⟨⟨h.steps, h.out⟩, ha⟩
theorem gr_doWithout (S : St) : Gr S S.doWithout := by
  unfold doWithout
  split
  · exact ⟨rfl, List.prefix_refl _⟩
  · exact gr_endEarly S
theorem pre_move (S : St) : S.out <+: S.move.out := by
  unfold move
  split
  · exact (pre_reach S).1
  split
  · exact List.prefix_refl _
  split
  · exact (gr_doWithout S).out
  · exact (gr_take S).1.out
/-- how far a run is from its end -/
def mz (S : St) : Nat := 3 * S.steps + 2 * (S.text.size - S.behind) + (if S.asks = 0 then 1 else 0) + (if S.over then 0 else 1)
theorem doWithout_over (S : St) : S.doWithout.over = true ∧ S.doWithout.asks = S.asks := by
  unfold doWithout
  split
  · exact ⟨rfl, rfl⟩
  · refine ⟨rfl, ?_⟩
    have hq : ∀ T : St, T.putQueue.asks = T.asks := fun T => (fold_keep T.queue T).2.2.2.2.2.2.2.2.2.2.2.1
    show S.putUQ.putQueue.asks = S.asks
    rw [hq]
    unfold putUQ
    split
    · rfl
    · exact (put_keep _ _).2.2.2.2.2.2.2.2.2.2.2.1
theorem move_less (S : St) (h : WF S) (ho : S.over = false) (hs : S.stuck = false) : S.move.mz < S.mz := by
  have key : ∀ T : St, T.text = S.text → (if T.asks = 0 then 1 else 0) ≤ 1 ∧ (if T.over then 0 else 1) ≤ 1 := fun T _ => ⟨by split <;> omega, by split <;> omega⟩
  unfold move
  split
  · rename_i ha
    have hr := same_reach S
    obtain ⟨_, hst, hor⟩ := pre_reach S
    have hk := key S.reach hr.text
    unfold mz
    rw [hr.text, hr.behind, ho, if_pos ha]
    rcases hor with ⟨_, h1⟩ | ⟨h1, h2, h3⟩ | h1
    · have e1 : (if S.reach.asks = 0 then 1 else 0) = 0 := by rw [h1]; rfl
      rw [e1]
      have := hk.2
      rcases hst with h | h <;> (generalize (if S.reach.over = true then 0 else 1) = u at *; simp only [Bool.false_eq_true, if_false]; omega)
    · rw [h1, h2, h3, if_pos ha]; simp
    · generalize (if S.reach.over = true then 0 else 1) = u at *
      generalize (if S.reach.asks = 0 then 1 else 0) = v at *
      simp only [Bool.false_eq_true, if_false]
      omega
  · rename_i ha
    have h2 : S.ask ≠ 2 := fun e => by
      unfold stuck at hs
      rw [e, decide_eq_true ha] at hs
      cases hs
    rw [if_neg h2]
    split
    · have hd := gr_doWithout S
      obtain ⟨d1, d2⟩ := doWithout_over S
      have hsame : Same S S.doWithout := by
        unfold doWithout
        split
        · exact ⟨rfl, rfl, rfl, rfl, rfl, rfl, rfl, rfl⟩
        · exact same_endEarly S
      unfold mz
      rw [hd.steps, hsame.text, hsame.behind, d1, d2, ho]
      simp
    · rename_i h3
      have hb : S.behind < S.text.size := by
        by_cases hb : S.text.size ≤ S.behind
        · unfold ask at h2 h3
          split at h3
          · rw [if_pos ‹_›] at h2; exact absurd rfl h2
          · exact absurd rfl h3
        · omega
      obtain ⟨ht, hta⟩ := gr_take S
      have hk := take_keep S
      have hl := lend_le S h.bh
      unfold mz
      rw [ht.steps, hk.1, hk.2.2.1, hta, ho, if_neg ha, if_pos rfl]
      have h9 : (if S.take.over then 0 else 1) ≤ 1 := by split <;> omega
      generalize (if S.take.over = true then 0 else 1) = u at *
      have h8 : S.behind + 1 ≤ (if S.lend < S.text.size then S.lend + 1 else S.lend) := by split <;> omega
      generalize (if S.lend < S.text.size then S.lend + 1 else S.lend) = q at *
      simp only [Bool.false_eq_true, if_false]
      omega
end St
theorem Goes.out {S T : St} (h : Goes S T) : S.out <+: T.out := by
  induction h with
  | stop _ => exact List.prefix_refl _
  | step _ _ ih => exact (St.pre_move _).trans ih
end M
end Go.Proofs.YtlppphmnegdhoabGreatDoor

