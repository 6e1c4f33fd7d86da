import Derived.Test.YtlppphmnegdhoabGreatDoorRows
import Derived.WalkKit
import Derived.WalkSpells
import Derived.WalkLawsBesides
import Derived.Laws.BitsLemmas
import Derived.Deep.QuietTactic
import Derived.BigQuiet
import Derived.Lib.Strings
import Derived.Laws.BytesArg
import Derived.Deep.MidRow
import Derived.Deep.WholeRow
import Derived.Laws.ResultCell
import Derived.Deep.CutBlock
import Derived.Deep.DeepCutAuto
import Derived.Deep.RegionHeld3
import Derived.Deep.DrawnRows
import Derived.Deep.AppendLies
import Derived.Deep.RegionLaw
import Derived.Great.BuildSlice
import Derived.Lib.ItoaNum
import Derived.Laws.AppendOwnNone
import Derived.Laws.OwnMore
import Derived.Lib.AppendStr
import Derived.Deep.RegionWith
import Derived.Shelf.LaysM
import Derived.Shelf.Strconv.Itoa3
import Derived.Test.YtlppphmnegdhoabGreatDoorProg
import Derived.RegionTactic
import Derived.Laws.CopyOwn
import Derived.ProofKit
import Derived.OpenShut
import Derived.ShutString
import Derived.ChangeOld
import Derived.Below
import Derived.SizedLaws
import Derived.Deep.Slices
import Derived.Deep.Strs
import Derived.Test.YtlppphmnegdhoabGreatDoorCards
import Derived.Test.YtlppphmnegdhoabGreatDoorTie
import Derived.SliceStrings
import Derived.Deep.DeepHandedRow
import Derived.Lib.LaidTab
import Derived.Stop.LaidErr
import Derived.Test.YtlppphmnegdhoabGreatDoorMa12
namespace Go.Proofs.YtlppphmnegdhoabGreatDoor
set_option linter.unusedVariables false
set_option maxRecDepth 100000
open Go.RowKit
open M

set_option maxRecDepth 100000 in
set_option maxHeartbeats 1000000 in
theorem total_calls (ap : Option Addr) (cp : Nat) (L : List ByteArray) (w : World) (hL : StrsAt w ap L) (hLn : L.length ≤ 1099511627776) (hsum : (catB L).size ≤ 4611686018427387904) :
    Calls Tryz.prog 12 #[.slice ap L.length cp] w fun e w' => e = .returned (.string (catB L)) ∧ w' = w := by
  obtain ⟨n, hn⟩ : ∃ n, L.length = n := ⟨_, rfl⟩
  have HN : Hid (L.length = n) := hn
  rw [hn] at hLn ⊢
  have HL : Hid (StrsAt w ap L) := hL
  have HSM : Hid ((catB L).size ≤ 4611686018427387904) := hsum
  clear hn hL hsum
  go_enter Tryz.func12, Tryz.ntmps12
  go_wp2_with fail
  go_loop [3, 4] (fun v3 v4 => ∃ (i : Nat) (t : ByteArray), v3 = .string t ∧ v4 = .int .i64 i ∧ i ≤ n ∧ Hid (t = catB (L.take i))) (fun _ v4 => n - (intOf v4).toNat)
  case atStart => exact ⟨0, ⟨#[]⟩, rfl, rfl, Nat.zero_le _, rfl⟩
  case round =>
    obtain ⟨i, t, rfl, rfl, hi, HT⟩ := hrel
    by_cases hlt : i < n
    · have hlt1 : (i : Int) < (n : Int) := by omega
      have hi0 : (0 : Int) ≤ (i : Int) := by omega
      have hiL : i < L.length := by rw [HN.out]; exact hlt
      obtain ⟨g, o, hap, hgl, hcell⟩ : ∃ g o, ap = some ⟨g, o, none⟩ ∧ g < w.heap.size ∧ ∀ i (h : i < L.length), w.cell? ⟨g, o + i, none⟩ = some (.string L[i]) := by
        rcases HL.out.at' with h | h
        · rw [h] at hiL; simp at hiL
        · exact h
      subst hap
      have d0 := hcell i hiL
      have HSN : Hid (catB (L.take (i + 1)) = t ++ L[i]) := by show _ = _; rw [catB_snoc L i hiL, HT.out]
      have hsz : ¬ 9223372036854775807 < t.size + L[i].size := by
        have h9 := catB_le L (i + 1)
        have h8 := HSM.out
        rw [HSN.out] at h9
        simp at h9
        omega
      generalize L[i] = pc at *
      clear hcell HT
      go_wp2
      go_round
      case rel => exact ⟨i + 1, t ++ pc, rfl, by go_num, by omega, HSN.out.symm⟩
      case measure => first | (simp [intOf]; done) | (simp [intOf]; omega)
    · obtain rfl : i = n := by omega
      have hlt1 : ¬ (i : Int) < (i : Int) := by omega
      have HTA : Hid (t = catB L) := by
        show _ = _
        rw [HT.out, ← HN.out, List.take_length]
      clear HT
      go_wp2
      go_ret
      exact ⟨by rw [HTA.out]; rfl, rfl⟩
theorem last_at (t : ByteArray) (h : 0 < t.size) : t.data.toList.getLast?.map (·.toNat) = some (t[t.size - 1]'(by omega)).toNat := by
  have hl := ba_len t
  rw [List.getLast?_eq_getElem?, hl, List.getElem?_eq_getElem (by omega)]
  rfl
set_option maxRecDepth 100000 in
theorem copied_calls (t : ByteArray) (w : World) (ht : t.size ≤ 4096) :
    Calls Tryz.prog 31 #[.string t] w fun e w' => e = .returned (.string (ofB (copL t))) ∧ w' = w := by
  by_cases h0 : t.size = 0
  · have hne : t.toList.isEmpty = true := by
      rw [← emp_dat, List.isEmpty_iff, ← List.length_eq_zero_iff, ba_len]; exact h0
    have HC : Hid (ofB (copL t) = t) := by
      show _ = _
      unfold copL
      rw [if_neg (fun h => by omega), List.append_nil]; rfl
    go_enter Tryz.func31, Tryz.ntmps31
    go_wp2
    go_ret
    exact ⟨by rw [HC.out]; rfl, rfl⟩
  · have hne : t.toList.isEmpty = false := by
      rw [← emp_dat]
      cases h9 : t.data.toList.isEmpty
      · rfl
      · rw [List.isEmpty_iff, ← List.length_eq_zero_iff, ba_len] at h9; exact absurd h9 h0
    have hlt : t.size - 1 < t.size := by omega
    have hi : (t.size : Int) - 1 < (t.size : Int) := by omega
    have hi0 : (0 : Int) ≤ (t.size : Int) - 1 := by omega
    have hsub : (t.size : Int) - 1 = ((t.size - 1 : Nat) : Int) := by omega
    have hla := last_at t (by omega)
    obtain ⟨x, hx⟩ : ∃ x, t[t.size - 1].toNat = x := ⟨_, rfl⟩
    rw [hx] at hla
    by_cases h10 : x = 10
    · have HC : Hid (ofB (copL t) = t) := by
        show _ = _
        unfold copL
        rw [if_neg (fun h => h.2 (by rw [hla, h10])), List.append_nil]; rfl
      have hx1 : ((x : Int) != 10) = false := by simp [h10]
      clear hla h10
      go_enter Tryz.func31, Tryz.ntmps31
      go_wp2
      go_ret
      exact ⟨by rw [HC.out]; rfl, rfl⟩
    · have HC : Hid (ofB (copL t) = t ++ ⟨#[10]⟩) := by
        show _ = _
        unfold copL
        rw [if_pos ⟨by omega, by rw [hla]; simpa using h10⟩]
        apply ByteArray.ext
        rw [← Array.toList_inj]
        simp [ofB]
      have hx1 : ((x : Int) != 10) = true := by simp; omega
      have hcc : ¬ 9223372036854775807 < t.size + 1 := by omega
      clear hla h10
      go_enter Tryz.func31, Tryz.ntmps31
      go_wp2
      go_ret
      exact ⟨by rw [HC.out]; rfl, rfl⟩
set_option maxRecDepth 100000 in
theorem narrow_calls (t : ByteArray) (w : World) (ht : t.size ≤ 4096) :
    Calls Tryz.prog 32 #[.string t] w fun e w' => e = .returned (.bool (nrw 0 t.data.toList)) ∧ w' = w := by
  go_enter Tryz.func32, Tryz.ntmps32
  go_wp2_with fail
  go_loop [3, 4] (fun v3 v4 => ∃ (i k : Nat), v3 = .int .i64 k ∧ v4 = .int .i64 i ∧ i ≤ t.size ∧ k ≤ 256 ∧ Hid (nrw 0 t.data.toList = nrw k (t.data.toList.drop i))) (fun _ v4 => t.size - (intOf v4).toNat)
  case atStart => exact ⟨0, 0, rfl, rfl, Nat.zero_le _, by omega, by show _ = _; rw [List.drop_zero]⟩
  case round =>
    obtain ⟨i, k, rfl, rfl, hi, hk, HP⟩ := hrel
    by_cases hlt : i < t.size
    · have hlt1 : (i : Int) < (t.size : Int) := by omega
      have hi0 : (0 : Int) ≤ (i : Int) := by omega
      obtain ⟨x, hx⟩ : ∃ x, t[i].toNat = x := ⟨_, rfl⟩
      have HP2 : Hid (nrw 0 t.data.toList = if x = 10 then nrw 0 (t.data.toList.drop (i + 1)) else if 256 < k + 1 then false else nrw (k + 1) (t.data.toList.drop (i + 1))) := by
        show _ = _
        rw [HP.out, get_drop t i hlt, nrw, hx]
      clear HP
      by_cases h10 : x = 10
      · have h101 : ((x : Int) == 10) = true := by simp [h10]
        have HP3 : Hid (nrw 0 t.data.toList = nrw 0 (t.data.toList.drop (i + 1))) := by show _ = _; rw [HP2.out, if_pos h10]
        clear h10 HP2
        go_wp2
        go_round
        case rel => exact ⟨i + 1, 0, rfl, by go_num, by omega, by omega, HP3.out⟩
        case measure => first | (simp [intOf]; done) | (simp [intOf]; omega)
      · have h101 : ((x : Int) == 10) = false := by simp; omega
        by_cases hk2 : 256 < k + 1
        · have hk3 : (256 : Int) < (k : Int) + 1 := by omega
          have HP3 : Hid (nrw 0 t.data.toList = false) := by show _ = _; rw [HP2.out, if_neg h10, if_pos hk2]
          clear h10 HP2
          go_wp2
          go_ret
          exact ⟨ret_bool (by rw [HP3.out]), rfl⟩
        · have hk3 : ¬ (256 : Int) < (k : Int) + 1 := by omega
          have HP3 : Hid (nrw 0 t.data.toList = nrw (k + 1) (t.data.toList.drop (i + 1))) := by show _ = _; rw [HP2.out, if_neg h10, if_neg hk2]
          clear h10 HP2
          go_wp2
          go_round
          case rel => exact ⟨i + 1, k + 1, by go_num, by go_num, by omega, by omega, HP3.out⟩
          case measure => first | (simp [intOf]; done) | (simp [intOf]; omega)
    · obtain rfl : i = t.size := by omega
      have hlt1 : ¬ (t.size : Int) < (t.size : Int) := by omega
      have HP3 : Hid (nrw 0 t.data.toList = true) := by
        show _ = _
        rw [HP.out, List.drop_of_length_le (by rw [ba_len]; omega)]; rfl
      clear HP
      go_wp2
      go_ret
      exact ⟨ret_bool (by rw [HP3.out]), rfl⟩
theorem leads_exp' (l : List M.Rec) : ∀ a b, okAll l → (leadsL l a b = true ↔ leadsE (expL l) a b) := by
  induction l with
  | nil => intro a b _; simp [leadsL, expL, leadsE]
  | cons r l ih =>
    intro a b ho
    have hk := (okRec_iff r).1 (okAll_cons ho).1
    have hl := ba_len r.s
    simp only [leadsL, expL, expR]
    by_cases h0 : r.kind = 0
    · rw [if_pos h0, if_pos h0, leadsE_k]
      simp only [Bool.and_eq_true, decide_eq_true_eq, beq_iff_eq, ih _ _ (okAll_cons ho).2]
    · rw [if_neg h0, if_neg h0]
      by_cases h1 : r.kind = 1
      · rw [if_pos h1, if_pos h1, leadsE_d]
        simp only [Bool.and_eq_true, decide_eq_true_eq, ih _ _ (okAll_cons ho).2]
      · rw [if_neg h1, if_neg h1, leadsE_r]
        have e : r.n.toNat = r.s.data.toList.length := by omega
        simp only [Bool.and_eq_true, decide_eq_true_eq, beq_iff_eq, ih _ _ (okAll_cons ho).2, e]
theorem leads_norm' {es : List Ev} {a b : List UInt8} (h : leadsE es a b) : leadsL (norm es) a b = true :=
  (leads_exp' _ a b (norm_ok es)).2 ((leadsE_eqv (exp_norm es) a b).1 h)
/-- the journal of a run, as Undo takes it -/
theorem ran_tells {cs : List Cm} {quiet : Bool} {steps room : Nat} {t j : ByteArray} {R : St} (h : Ran cs quiet steps room t R) (ht : t.size ≤ 4096) (ho : R.out.length ≤ 4096) (hj : j.data.toList = jourS R) :
    j.data.toList = writE ⟨t.size, (baC R.out).size, sum t.data.toList, sum (baC R.out).data.toList, norm (expL (recsA t R.out))⟩ ∧ leadsL (norm (expL (recsA t R.out))) t.data.toList (baC R.out).data.toList = true := by
  refine ⟨?_, ?_⟩
  · rw [hj]
    unfold jourS
    rw [h.text, baC_size, baC_list]
  · rw [baC_list]
    exact leads_norm' h.leads
/-- what goes back -/
def BackOk (t out j : ByteArray) : Prop := t.size ≤ 4096 ∧ out.size ≤ 4096 ∧ ∃ l, okAll l ∧ j.data.toList = writE ⟨t.size, out.size, sum t.data.toList, sum out.data.toList, l⟩ ∧ leadsL l t.data.toList out.data.toList = true
theorem PlSpec.back {s : ByteArray} {quiet : Bool} {steps room : Int} {t out j : ByteArray} {x : Int} (h : PlSpec s quiet steps room t out j x) (ht : t.size ≤ 4096) (hx : x = 0) : BackOk t out j := by
  rcases h with ⟨n, _, h1, _⟩ | ⟨cs, _, _, _, _, _, h1⟩ | ⟨cs, R, _, _, _, h1, rfl, h2, _, h3, _, h4⟩
  · exact absurd hx h1
  · rw [h1] at hx; cases hx
  · have hd : R.death = 0 := by omega
    obtain ⟨g1, g2⟩ := ran_tells h1 ht h3 (h4 hd)
    exact ⟨ht, by rw [baC_size]; exact h3, _, norm_ok _, g1, g2⟩
set_option maxRecDepth 100000 in
set_option maxHeartbeats 1000000 in
theorem backs_calls (out j t : ByteArray) (x : Int) (w : World) (hb : x = 0 → BackOk t out j) :
    Calls Tryz.prog 15 #[.agg (plL out j x).toArray, .string t] w fun e w' => e = .returned (.bool true) ∧ Below w.heap.size w w' := by
  have HB : Hid (x = 0 → BackOk t out j) := hb
  clear hb
  by_cases hx : x = 0
  · subst hx
    obtain ⟨h1, h2, l, h3, h4, h5⟩ := HB.out rfl
    obtain ⟨eA, eB⟩ := leads_len l _ _ h3 h5
    rw [ba_len] at eA eB
    obtain ⟨h10, h12⟩ := writE_len t out l h1 h2 h3 eA eB j h4
    have HT : Hid (Tells j.data.toList ⟨t.size, out.size, sum t.data.toList, sum out.data.toList, l⟩) := tells_of t out l h1 h2 h3 eA eB j h4
    have HL : Hid (leadsL l t.data.toList out.data.toList = true) := h5
    have g1 : (10 : Int) ≤ (j.size : Int) := by omega
    clear h3 h4 h5 eA eB HB
    go_enter Tryz.func15, Tryz.ntmps15
    go_wp2_with (refine cb_box rfl _ rfl (plL out j 0) rfl (plL_one _ _ _) ?_
                 intro w1 hb1 B1 hs1
                 have c0 := hb1.c 0 _ rfl
                 have c1 := hb1.c 1 _ rfl
                 have c2 := hb1.c 2 _ rfl
                 have l1 := hb1.lt)
    refine (undone_calls out j t l w1 h1 h2 h12 HT.out HL.out).mono ?_
    rintro e w2 ⟨rfl, B2⟩
    have hb2 := hb1.below B2 hb1.lt
    have d1 := hb2.c 1 _ rfl
    have l2 := hb2.lt
    go_wp2
    go_ret
    exact ⟨rfl, B1.trans (B2.mono (by omega))⟩
  · have hx1 : (x != 0) = true := by simpa using hx
    clear hx HB
    go_enter Tryz.func15, Tryz.ntmps15
    go_wp2_with (refine cb_box rfl _ rfl (plL out j x) rfl (plL_one _ _ _) ?_
                 intro w1 hb1 B1 hs1
                 have c2 := hb1.c 2 _ rfl
                 have l1 := hb1.lt)
    go_ret
    exact ⟨rfl, B1⟩
/-- the empty script -/
theorem scr_nil : ScrV [] [] := ⟨[], rfl, ⟨rfl, fun i h => absurd h (Nat.not_lt_zero _)⟩, rfl⟩
theorem copied_run {t out j : ByteArray} {x : Int} (h : PlSpec ⟨#[]⟩ false 0 256 t out j x) (hn : nrw 0 t.data.toList = true) (ho : (copL t).length ≤ 4096) (jj : ByteArray) (hj : jj.data.toList = writE ⟨t.size, (ofB (copL t)).size, sum t.data.toList, sum (ofB (copL t)).data.toList, copR t⟩) : x = 0 ∧ out = ofB (copL t) ∧ j = jj := by
  rcases h with ⟨n, h1, h2, _⟩ | ⟨cs, _, _, h1, _⟩ | ⟨cs, R, _, h0, _, h1, rfl, h2, _, h3, _, h4⟩
  · have h9 := ckv_scr (cs := []) h1 (Nat.zero_le _) scr_nil
    exact absurd h9 h2
  · unfold OpenBad at h1; omega
  · obtain rfl : cs = [] := h0.unique scr_nil
    obtain ⟨g1, g2⟩ := ran_copy t hn ho R h1
    have g3 := h4 g1
    refine ⟨by rw [h2, g1]; rfl, ?_, ba_ext ?_⟩
    · apply ba_ext
      rw [baC_list, g2, restC_text]
      simp [ofB]
    · rw [g3, hj]
      unfold jourS
      rw [h1.text, g2, norm_copy, restC_text]
      congr 2
      · have h9 : (textC (restC t 0)).length = (restC t 0).length := by simp [textC]
        rw [← h9, restC_text, ofB_size]
theorem copR_ok (t : ByteArray) : okAll (copR t) ∧ leadsL (copR t) t.data.toList (ofB (copL t)).data.toList = true := by
  have h0 : copR t = norm (expL (recsA t (restC t 0))) := (norm_copy t).symm
  have h1 : Origs t.data.toList (restC t 0) := fun c hc => by
    unfold restC at hc
    rcases List.mem_append.1 hc with hc | hc
    · unfold cellsP at hc
      obtain ⟨p, hp, rfl⟩ := List.mem_map.1 hc
      obtain ⟨i, hi, e⟩ := List.getElem_of_mem hp
      rw [List.getElem_zipIdx] at e
      rw [List.length_zipIdx, List.length_take, List.length_drop] at hi
      subst e
      refine .inr ⟨i, by omega, by simp, ?_⟩
      simp
    · split at hc
      · simp at hc; rw [hc]; exact .inl rfl
      · cases hc
  rw [h0]
  refine ⟨norm_ok _, ?_⟩
  have h2 := leads_norm' (recsA_leads t (restC t 0) h1)
  rw [restC_text] at h2
  simpa [ofB] using h2
end Go.Proofs.YtlppphmnegdhoabGreatDoor

namespace Go.Proofs.YtlppphmnegdhoabGreatDoor
set_option linter.unusedVariables false
set_option maxRecDepth 100000
open Go.RowKit
open M

theorem rKeep_eq (m : Nat) (h : m ≠ 0) : rKeep m = [⟨0, (m : Nat), ⟨#[]⟩⟩] := by unfold rKeep; rw [if_neg h]
theorem copL_len (t : ByteArray) : (copL t).length ≤ t.size + 1 := by
  unfold copL
  rw [List.length_append, ba_len]
  split <;> simp
theorem copR_eq (t : ByteArray) : (t.size < (copL t).length ∧ copR t = rKeep t.size ++ [⟨1, 1, ⟨#[]⟩⟩] ∧ 0 < t.size) ∨ ((copL t).length = t.size ∧ copR t = rKeep t.size) := by
  unfold copL copR
  by_cases hc : 0 < t.size ∧ (t.data.toList.getLast?.map (·.toNat)) ≠ some 10
  · rw [if_pos hc, if_pos hc, List.length_append, ba_len]
    exact .inl ⟨by simp, rfl, hc.1⟩
  · rw [if_neg hc, if_neg hc, List.length_append, ba_len]
    exact .inr ⟨by simp, List.append_nil _⟩
set_option maxRecDepth 100000 in
set_option maxHeartbeats 4000000 in
theorem copies_calls (B : Nat) (ap : Option Addr) (cp : Nat) (L : List ByteArray) (w : World) (hT : TabB B w) (hL : StrsAt w ap L) (hLn : L.length ≤ 1099511627776) (hsum : (catB L).size ≤ 4096) :
    Calls Tryz.prog 16 #[.slice ap L.length cp] w fun e w' => e = .returned (.bool true) ∧ Below w.heap.size w w' := by
  have HT : Hid (TabB B w) := hT
  have HL : Hid (StrsAt w ap L) := hL
  clear hT hL
  go_enter Tryz.func16, Tryz.ntmps16
  go_wp2_with fail
  refine (total_calls ap cp L w HL.out hLn (by omega)).mono ?_
  rintro e wq ⟨rfl, hwq⟩
  rw [hwq]
  clear hwq
  obtain ⟨t, ht⟩ : ∃ t, catB L = t := ⟨_, rfl⟩
  have HTT : Hid (catB L = t) := ht
  rw [ht] at hsum ⊢
  clear ht
  go_wp2_with fail
  refine (copied_calls t w hsum).mono ?_
  rintro e wq ⟨rfl, hwq⟩
  rw [hwq]
  clear hwq
  have hol := copL_len t
  have HOZ : Hid ((ofB (copL t)).size = (copL t).length) := ofB_size _
  have hoz : (ofB (copL t)).size ≤ 4097 := by rw [ofB_size]; omega
  have HCR := copR_eq t
  have HCRH : Hid ((t.size < (ofB (copL t)).size ∧ copR t = rKeep t.size ++ [⟨1, 1, ⟨#[]⟩⟩] ∧ 0 < t.size) ∨ ((ofB (copL t)).size = t.size ∧ copR t = rKeep t.size)) := by rw [HOZ.out]; exact HCR
  obtain ⟨o, hoo⟩ : ∃ o, ofB (copL t) = o := ⟨_, rfl⟩
  have HO : Hid (ofB (copL t) = o) := hoo
  rw [hoo] at HOZ HCRH hoz ⊢
  clear hoo HCR
  go_wp2_with fail
  refine (narrow_calls t w hsum).mono ?_
  rintro e wq ⟨rfl, hwq⟩
  rw [hwq]
  clear hwq
  cases hnr : nrw 0 t.data.toList
  · clear hnr
    go_wp2
    go_ret
    exact ⟨rfl, Below.refl _ _⟩
  have HNR : Hid (nrw 0 t.data.toList = true) := hnr
  clear hnr
  go_wp2_with fail
  refine (fits_calls o w (by unfold maxLen; omega)).mono ?_
  rintro e wq ⟨rfl, hwq⟩
  rw [hwq]
  clear hwq
  by_cases hfo : o.size ≤ 4096
  · rw [decide_eq_true hfo]
    go_upto_if 25 with fail
    go_cut [6] (fun v wx => ∃ a c, v = .slice a (rKeep t.size).length c ∧ wx.ownsRow w.heap.size 69 3 v (rKeep t.size).length (recsC (rKeep t.size)) ∧ Below w.heap.size w wx)
    case first =>
      cases hse : t.toList.isEmpty
      rotate_left
      · have h0 : t.size = 0 := by
          rw [← emp_dat, List.isEmpty_iff, ← List.length_eq_zero_iff, ba_len] at hse; exact hse
        have HR0 : Hid (rKeep t.size = []) := by show _ = _; unfold rKeep; rw [if_pos h0]
        clear h0 hse
        go_wp2
        go_meet
        rw [HR0.out]
        exact ⟨none, 0, rfl, World.ownsRow_nil _ _ _ _, Below.refl _ _⟩
      · have h0 : t.size ≠ 0 := fun h9 => by
          rw [← emp_dat] at hse
          have h8 : t.data.toList.isEmpty = true := by rw [List.isEmpty_iff, ← List.length_eq_zero_iff, ba_len]; exact h9
          rw [h8] at hse; cases hse
        have HR0 : Hid (rKeep t.size = [⟨0, (t.size : Nat), ⟨#[]⟩⟩]) := rKeep_eq _ h0
        clear h0 hse
        go_wp2_with (refine gb_append elRec (B := w.heap.size) (World.ownsRow_nil _ _ _ _) w.heap.size [.int .i64 0, .int .i64 (t.size : Nat), .string ⟨#[]⟩] (heap_alloc_new w _) rfl (by simp [Value.oneCell']) (by omega) (by simp) rfl _ _ rfl rfl rfl ?_
                     intro v' w6 hown6 hgrow6
                     have hB6 : Below w.heap.size w w6 := ((Below.refl _ _).alloc (Nat.le_refl _) _).grown hgrow6 (by simp) (fun k hk => by cases hk)
                     obtain ⟨av', cv', hvv⟩ := own_form hown6
                     subst hvv
                     clear hgrow6)
        go_meet
        rw [HR0.out]
        exact ⟨av', cv', rfl, hown6, hB6⟩
    case rest =>
    obtain ⟨a1, c1, rfl, hown1, hB1⟩ := hcut
    obtain ⟨n1, hn1⟩ : ∃ n, (rKeep t.size).length = n := ⟨_, rfl⟩
    have hn2 : n1 ≤ 1 := by
      rw [← hn1]; unfold rKeep
      split <;> simp
    have HN1 : Hid ((rKeep t.size).length = n1) := hn1
    rw [hn1] at hown1 ⊢
    clear hn1
    go_upto_if 36 with fail
    go_cut [6] (fun v wx => ∃ a c, v = .slice a (copR t).length c ∧ wx.ownsRow w.heap.size 69 3 v (copR t).length (recsC (copR t)) ∧ Below w.heap.size w wx)
    case first =>
      rcases HCRH.out with ⟨h1, h2, h3⟩ | ⟨h1, h2⟩
      · have h11 : (t.size : Int) < (o.size : Int) := by omega
        have HC2 : Hid (copR t = rKeep t.size ++ [⟨1, 1, ⟨#[]⟩⟩]) := h2
        have hs1 := hB1.size
        clear h1 h2 HCRH
        go_wp2_with (refine gb_append elRec (hown1.alloc _) wc.heap.size [.int .i64 1, .int .i64 1, .string ⟨#[]⟩] (heap_alloc_new wc _) rfl (by simp [Value.oneCell']) (by omega) (by simp; omega) rfl _ _ rfl rfl rfl ?_
                     intro v' w6 hown6 hgrow6
                     have hB6 : Below w.heap.size w w6 := (hB1.alloc hs1 _).grown hgrow6 (by simp; omega) (fun k hk => (hown1.lt k hk).1)
                     obtain ⟨av', cv', hvv⟩ := own_form hown6
                     subst hvv
                     clear hgrow6)
        go_meet
        rw [HC2.out, recsC_app, List.length_append, HN1.out]
        exact ⟨av', cv', rfl, hown6, hB6⟩
      · have h11 : ¬ (t.size : Int) < (o.size : Int) := by omega
        have HC2 : Hid (copR t = rKeep t.size) := h2
        clear h1 h2 HCRH
        go_wp2
        go_meet
        rw [HC2.out, HN1.out]
        exact ⟨a1, c1, rfl, hown1, hB1⟩
    case rest =>
    clear hown1 hB1
    obtain ⟨a2, c2, rfl, hown2, hB2⟩ := hcut
    have hok := copR_ok t
    rw [HO.out] at hok
    have HOK : Hid (okAll (copR t) ∧ leadsL (copR t) t.data.toList o.data.toList = true) := hok
    have HRA : Hid (RecsAt wc a2 (copR t).length (copR t)) := recsAt_own hown2
    have hlc : (copR t).length ≤ 2 := by
      unfold copR rKeep
      rw [List.length_append]
      split <;> split <;> simp
    clear hok hown2
    go_wp2_with fail
    refine (kwritten_calls (copR t).length c2 a2 (copR t) t o wc HRA.out (by omega) hsum hfo HOK.out.1 HOK.out.2).mono ?_
    rintro e w4 ⟨⟨j, rfl, hj, _, _⟩, B4⟩
    have HJ : Hid (j.data.toList = writE ⟨t.size, o.size, sum t.data.toList, sum o.data.toList, copR t⟩) := hj
    have hB4 := hB2.trans (B4.mono hB2.size)
    have HL4 : Hid (StrsAt w4 ap L) := HL.out.below hB4 (Nat.le_refl _)
    have HT4 : Hid (TabB B w4) := HT.out.below (hB4.mono HT.out.1)
    clear hj B4 hB2 HRA
    go_wp2_with fail
    have HC := played_calls B ⟨#[]⟩ false 0 256 ap cp L w4 (by unfold maxLen; decide) HT4.out (by decide) (by decide) (by decide) (by decide) HL4.out hLn (by rw [HTT.out]; exact hsum)
    refine HC.mono ?_
    clear HC
    rintro e w5 ⟨B5, out', j', x, rfl, hpl⟩
    rw [HTT.out] at hpl
    obtain ⟨rfl, h8, h9⟩ := copied_run hpl HNR.out (by rw [← HOZ.out]; exact hfo) j (by rw [HO.out]; exact HJ.out)
    rw [HO.out] at h8
    subst h8
    subst h9
    have hB5 := hB4.trans (B5.mono hB4.size)
    have hbn : CB (w5.alloc (.cells #[.string ⟨#[]⟩, .string ⟨#[]⟩, .int .i64 0] 33)) w5.heap.size (plL ⟨#[]⟩ ⟨#[]⟩ 0) := CB.new w5 33 #[.string ⟨#[]⟩, .string ⟨#[]⟩, .int .i64 0] (plL_one _ _ _)
    have hB6 := hB5.alloc (o := .cells #[.string ⟨#[]⟩, .string ⟨#[]⟩, .int .i64 0] 33) hB5.size
    have hs5 := hB5.size
    clear hpl B5 hB5
    go_wp2_with (refine cb_store0 rtPl hbn rfl rfl _ _ rfl rfl (vs := plL out' j' 0) rfl rfl (plL_one _ _ _) ?_
                 intro w9 hb9 O9
                 have e0 := hb9.c 0 _ rfl
                 have e1 := hb9.c 1 _ rfl
                 have e2 := hb9.c 2 _ rfl
                 have l9 := hb9.lt)
    go_ret
    exact ⟨rfl, hB6.trans (O9.below (by omega))⟩
  · rw [decide_eq_false hfo]
    go_wp2
    go_ret
    exact ⟨rfl, Below.refl _ _⟩
end Go.Proofs.YtlppphmnegdhoabGreatDoor

namespace Go.Proofs.YtlppphmnegdhoabGreatDoor
set_option linter.unusedVariables false
set_option maxRecDepth 100000
open Go.RowKit
open M

theorem PlSpec.same {s : ByteArray} {quiet : Bool} {steps room : Int} {t o j o' j' : ByteArray} {x x' : Int} (h : PlSpec s quiet steps room t o j x) (g : PlSpec s quiet steps room t o' j' x') : o = o' ∧ j = j' ∧ x = x' := by
  rcases h with ⟨n, h1, h2, rfl, rfl⟩ | ⟨cs, h0, h1, h2, rfl, rfl, rfl⟩ | ⟨cs, R, h0, h1, h2, h3, rfl, rfl, _, _, h4, h5⟩ <;> rcases g with ⟨n', g1, g2, rfl, rfl⟩ | ⟨cs', g0, g1, g2, rfl, rfl, rfl⟩ | ⟨cs', R', g0, g1, g2, g3, rfl, rfl, _, _, g4, g5⟩
  · exact ⟨rfl, rfl, (h1.same g1).2⟩
  · exact absurd (ckv_scr h1 g0 g1) h2
  · exact absurd (ckv_scr h1 g0 g1) h2
  · exact absurd (ckv_scr g1 h0 h1) g2
  · exact ⟨rfl, rfl, rfl⟩
  · exact absurd h2 g2
  · exact absurd (ckv_scr g1 h0 h1) g2
  · exact absurd g2 h2
  · obtain rfl := h1.unique g1
    obtain rfl := h3.unique g3
    refine ⟨rfl, ?_, rfl⟩
    by_cases hd : R.death = 0
    · exact ba_ext ((h5 hd).trans (g5 hd).symm)
    · rw [h4 hd, g4 hd]
theorem PlSpec.bad {s : ByteArray} {quiet : Bool} {steps room : Int} {t o j : ByteArray} {x n y : Int} (h : PlSpec s quiet steps room t o j x) (hc : CkV s n y) (hy : y ≠ 0) : x = y := by
  rcases h with ⟨n', h1, h2, _⟩ | ⟨cs, h0, h1, _⟩ | ⟨cs, R, h0, h1, _⟩
  · exact (h1.same hc).2
  · exact absurd (ckv_scr hc h0 h1) hy
  · exact absurd (ckv_scr hc h0 h1) hy
set_option maxRecDepth 100000 in
set_option maxHeartbeats 4000000 in
theorem restored_walk (B : Nat) (s : ByteArray) (quiet : Bool) (steps room : Int) (ap : Option Addr) (cp : Nat) (L : List ByteArray) (w : World) (hs : s.size ≤ maxLen) (hT : TabB B w) (hr1 : -9223372036854775808 ≤ steps) (hr2 : steps ≤ 9223372036854775807) (hr3 : -9223372036854775808 ≤ room) (hr4 : room ≤ 9223372036854775807) (hL : StrsAt w ap L) (hLn : L.length ≤ 1099511627776) (hsum : (catB L).size ≤ 4611686018427387904) :
    Calls Tryz.prog 4 #[.string s, .bool quiet, .int .i64 steps, .int .i64 room, .slice ap L.length cp] w fun e w' => e = .returned (.bool true) ∧ Below w.heap.size w w' := by
  have HT : Hid (TabB B w) := hT
  have HL : Hid (StrsAt w ap L) := hL
  have HLN : Hid (L.length ≤ 1099511627776) := hLn
  clear hT hL
  go_enter Tryz.func4, Tryz.ntmps4
  go_wp2_with fail
  refine (total_calls ap cp L w HL.out hLn hsum).mono ?_
  rintro e wq ⟨rfl, hwq⟩
  rw [hwq]
  clear hwq
  obtain ⟨t, ht⟩ : ∃ t, catB L = t := ⟨_, rfl⟩
  have HTT : Hid (catB L = t) := ht
  rw [ht] at hsum ⊢
  clear ht
  go_wp2_with fail
  refine (fits_calls t w (by unfold maxLen; omega)).mono ?_
  rintro e wq ⟨rfl, hwq⟩
  rw [hwq]
  clear hwq
  by_cases hft : t.size ≤ 4096
  · rw [decide_eq_true hft]
    go_wp2_with fail
    refine (played_calls B s quiet steps room ap cp L w hs HT.out hr1 hr2 hr3 hr4 HL.out HLN.out (by rw [HTT.out]; exact hft)).mono ?_
    rintro e w2 ⟨B2, out, j, x, rfl, hpl⟩
    rw [HTT.out] at hpl
    have HPL : Hid (PlSpec s quiet steps room t out j x) := hpl
    have hs2 := B2.size
    have hbn : CB (w2.alloc (.cells #[.string ⟨#[]⟩, .string ⟨#[]⟩, .int .i64 0] 33)) w2.heap.size (plL ⟨#[]⟩ ⟨#[]⟩ 0) := CB.new w2 33 #[.string ⟨#[]⟩, .string ⟨#[]⟩, .int .i64 0] (plL_one _ _ _)
    have hB3 := B2.alloc (o := .cells #[.string ⟨#[]⟩, .string ⟨#[]⟩, .int .i64 0] 33) hs2
    clear hpl
    go_wp2_with (first
      | (refine cb_store0 rtPl hbn rfl rfl _ _ rfl rfl (vs := plL out j x) rfl rfl (plL_one _ _ _) ?_
         intro w4 hb4 O4
         have l4 := hb4.lt
         have hB4 := hB3.trans (O4.below (B := w.heap.size) (by omega)))
      | refine cb_load0 rtPl hb4 rfl rfl _ rfl rfl ?_)
    refine (backs_calls out j t x w4 (fun hx => HPL.out.back hft hx)).mono ?_
    rintro e w5 ⟨rfl, B5⟩
    have hb5 := hb4.below B5 hb4.lt
    have hB5 := hB4.trans (B5.mono hB4.size)
    have HL5 : Hid (StrsAt w5 ap L) := HL.out.below hB5 (Nat.le_refl _)
    have HT5 : Hid (TabB B w5) := HT.out.below (hB5.mono HT.out.1)
    clear hb4 hB4 hB3 hbn O4
    go_wp2_with fail
    refine (copies_calls B ap cp L w5 HT5.out HL5.out HLN.out (by rw [HTT.out]; exact hft)).mono ?_
    rintro e w6 ⟨rfl, B6⟩
    have hb6 := hb5.below B6 hb5.lt
    have hB6 := hB5.trans (B6.mono hB5.size)
    clear hb5 hB5
    go_wp2_with fail
    refine (vcheck_calls s w6 hs).mono ?_
    rintro e w7 ⟨⟨n0, y, rfl, hck⟩, B7⟩
    have hb7 := hb6.below B7 hb6.lt
    have hB7 := hB6.trans (B7.mono hB6.size)
    have d2 := hb7.c 2 _ rfl
    have l7 := hb7.lt
    have hy := hck.x
    by_cases hy0 : y = 0
    · subst hy0
      clear hck hy
      go_wp2
      go_ret
      exact ⟨rfl, hB7⟩
    · obtain rfl : x = y := HPL.out.bad hck hy0
      have hy1 : (x != 0) = true := by simpa using hy0
      clear hck hy hy0
      go_wp2
      go_ret
      exact ⟨rfl, hB7⟩
  · rw [decide_eq_false hft]
    go_wp2
    go_ret
    exact ⟨rfl, Below.refl _ _⟩
end Go.Proofs.YtlppphmnegdhoabGreatDoor

namespace Go.Proofs.YtlppphmnegdhoabGreatDoor
set_option linter.unusedVariables false
set_option maxRecDepth 100000
open Go.ChangeShapes Go.WideShapes Go.ChangeAt Go.RowKit
open Go.ChangeMaps (open_string shut_string)
open M

theorem gPow : Tryz.prog.globalNamed "internal/strconv.uint64pow10" = some 0 := by kernel_rfl
theorem gPowT : (Tryz.prog.globals[0]?).map (·.type) = some 303 := by kernel_rfl
theorem cellsPow : Tryz.prog.cellsOf 303 = 20 := by kernel_rfl
theorem cellsU64 : Tryz.prog.cellsOf 297 = 1 := by kernel_rfl
theorem cellsStr : Tryz.prog.cellsOf 9 = 1 := by kernel_rfl
/-- the three variables, as every row lists them -/
def laid3 : List (String × DataW Unit) := Rows.restoredRow.laid
theorem tab_of_laid {W : World} (h : laidMetH Tryz.prog laid3 W) : Tab W :=
  Lib.tabIs_of_head (k := .u64) (zs := Lib.pow10Tab) (rest := []) gPow gPowT Tryz.underlying303 Tryz.underlying297 cellsU64 cellsPow (laidMet.tail (laidMet.tail h))
/-- a world for the witness: the tables hold what their initialisers lay -/
def obC (C : Array Value) : Obj → Obj
  | .cells _ t frozen => .cells C t frozen
  | o => o
noncomputable def laidWorld (os : Os) : World :=
  { World.holding Tryz.prog os ⟨#[], #[], []⟩ with heap := (((World.holding Tryz.prog os ⟨#[], #[], []⟩).heap.modify 0 (obC #[.int .u64 1, .int .u64 10, .int .u64 100, .int .u64 1000, .int .u64 10000, .int .u64 100000, .int .u64 1000000, .int .u64 10000000, .int .u64 100000000, .int .u64 1000000000, .int .u64 10000000000, .int .u64 100000000000, .int .u64 1000000000000, .int .u64 10000000000000, .int .u64 100000000000000, .int .u64 1000000000000000, .int .u64 10000000000000000, .int .u64 100000000000000000, .int .u64 1000000000000000000, .int .u64 10000000000000000000])).modify 1 (obC #[.int .u8 0, .int .u8 1, .int .u8 28, .int .u8 2, .int .u8 29, .int .u8 14, .int .u8 24, .int .u8 3, .int .u8 30, .int .u8 22, .int .u8 20, .int .u8 15, .int .u8 25, .int .u8 17, .int .u8 4, .int .u8 8, .int .u8 31, .int .u8 27, .int .u8 13, .int .u8 23, .int .u8 21, .int .u8 19, .int .u8 16, .int .u8 7, .int .u8 26, .int .u8 12, .int .u8 18, .int .u8 6, .int .u8 11, .int .u8 5, .int .u8 10, .int .u8 9])).modify 2 (obC #[.int .u8 0, .int .u8 1, .int .u8 56, .int .u8 2, .int .u8 57, .int .u8 49, .int .u8 28, .int .u8 3, .int .u8 61, .int .u8 58, .int .u8 42, .int .u8 50, .int .u8 38, .int .u8 29, .int .u8 17, .int .u8 4, .int .u8 62, .int .u8 47, .int .u8 59, .int .u8 36, .int .u8 45, .int .u8 43, .int .u8 51, .int .u8 22, .int .u8 53, .int .u8 39, .int .u8 33, .int .u8 30, .int .u8 24, .int .u8 18, .int .u8 12, .int .u8 5, .int .u8 63, .int .u8 55, .int .u8 48, .int .u8 27, .int .u8 60, .int .u8 41, .int .u8 37, .int .u8 16, .int .u8 46, .int .u8 35, .int .u8 44, .int .u8 21, .int .u8 52, .int .u8 32, .int .u8 23, .int .u8 11, .int .u8 54, .int .u8 26, .int .u8 40, .int .u8 15, .int .u8 34, .int .u8 20, .int .u8 31, .int .u8 10, .int .u8 25, .int .u8 14, .int .u8 19, .int .u8 9, .int .u8 13, .int .u8 8, .int .u8 7, .int .u8 6]) }
theorem wfi_bounds {k : Int} (h : (Lit.int .i64 k).wf = true) : -9223372036854775808 ≤ k ∧ k ≤ 9223372036854775807 := by
  simpa [Lit.wf, IntKind.min, IntKind.max, IntKind.signed, IntKind.bits] using h
/-- a slice of strings among the arguments -/
theorem bulkS {H : Type} : ∀ (L : List ByteArray), (catB L).size + L.length ≤ Rows.uptoBulkAll (strs (H := H) L)
  | [] => by simp [catB, strs, Rows.uptoBulkAll, ByteArray.size]
  | x :: l => by
    have ih := bulkS (H := H) l
    have hl := ba_len x
    show (x ++ catB l).size + (l.length + 1) ≤ Rows.uptoBulk (.lit (.string x.data.toList)) + Rows.uptoBulkAll (strs l)
    simp only [Rows.uptoBulk, ByteArray.size_append]
    omega
theorem open_strs2 {H : Type} {enc : TypeId × Value → H} {W : World} {v : Value} {d : DataW H} {p : List MemPlace} {base : Nat} (hok : Value.okWide Tryz.prog W .any base 22 v) (h : DataW.Trod enc Tryz.prog W 0 (fun _ => true) true 22 v d p) :
    ∃ (a : Option Addr) (cap : Nat) (L : List ByteArray), v = .slice a L.length cap ∧ StrsAt W a L ∧ (catB L).size + L.length ≤ Rows.uptoBulk d := by
  obtain ⟨a, len, cap, rfl⟩ := okWide_slice Tryz.underlying22 hok
  obtain ⟨fuel, hf⟩ := h
  rcases open_strings Tryz.underlying22 Tryz.underlying9 cellsStr hf with ⟨hcs, hx⟩ | ⟨x, len', cap', ss, hcs, _, hl, hm, hz, hx, hcell, hws⟩
  · simp [Value.cells] at hcs
    obtain ⟨rfl, rfl, rfl⟩ := hcs
    exact ⟨none, 0, [], rfl, ⟨.inl rfl⟩, by simp [catB, ByteArray.size]⟩
  · simp [Value.cells] at hcs
    obtain ⟨rfl, rfl, rfl⟩ := hcs
    have hd : d = .slice (strs (ss.take len)) (strs (ss.drop len)) := by simp at hx; exact hx.1
    have hzl : len ≤ ss.length := by rw [hz]; split <;> omega
    have htl : (ss.take len).length = len := by rw [List.length_take]; omega
    refine ⟨some x, cap, ss.take len, by rw [htl], ⟨?_⟩, ?_⟩
    · by_cases h0 : len = 0
      · subst h0; exact .inl (by simp)
      · right
        obtain ⟨b, off, spot⟩ := x
        have hc0 := hcell 0 (by omega)
        have hspot : spot = none := by
          have := World.cell?_spot hc0
          simpa [Addr.add] using this
        subst hspot
        have e : ∀ j, (⟨b, off, none⟩ : Addr).add j = ⟨b, off + j, none⟩ := fun j => by unfold Addr.add; split <;> simp_all
        refine ⟨b, off, rfl, ?_, fun i hi => ?_⟩
        · have := World.block_lt_of_cell? W _ hc0
          rw [e] at this
          exact this
        · have hi' : i < ss.length := by omega
          have h1 := hcell i hi'
          rw [e] at h1
          rw [h1, List.getElem_take, List.getD_eq_getElem?_getD, List.getElem?_eq_getElem hi']
          rfl
    · have h1 := bulkS (H := H) (ss.take len)
      rw [hd]
      simp only [Rows.uptoBulk]
      omega
end Go.Proofs.YtlppphmnegdhoabGreatDoor

namespace Go.Proofs.YtlppphmnegdhoabGreatDoor
set_option linter.unusedVariables false
set_option maxRecDepth 100000
open Go.ChangeShapes Go.WideShapes Go.ChangeAt Go.RowKit
open Go.ChangeMaps (open_string shut_string)
open M

theorem restored_contract (H : Type) (enc : TypeId × Value → H) (W : World) (base : Nat) (args : Array Value) (ds gs : List (DataW H)) (before : List MemPlace)
    (hval : ∀ (j : Nat) t v, Tryz.f4.params[j]? = some t → args[j]? = some v → Value.okWide Tryz.prog W .any base t v)
    (hW : DataW.Whole enc Tryz.prog Tryz.f4.params.toList Rows.restoredSpec.vars false W args.toList ds gs before) (hL : laidMetH Tryz.prog laid3 W) (hk : Rows.uptoSmall H (ds ++ gs) = true) :
    Calls Tryz.prog 4 args W fun e W' => ∃ v, e = .returned v ∧ Rows.restoredSpec.post enc Tryz.prog Tryz.f4 false true false false W args v W' := by
  have hW' := hW
  obtain ⟨p, q, hA0, hV, rfl, hfz, hnd⟩ := hW
  have hA : DataW.TrodAll enc Tryz.prog W 0 (fun _ => true) true Tryz.f4.params.toList args.toList ds p := hA0
  rw [Tryz.params4] at hA hval
  obtain ⟨v0, vs0, d0, ds0, p0, q0, hargs, rfl, rfl, h0, r0⟩ := trodAll_cons hA
  obtain ⟨v1, vs1, d1, ds1, p1, q1, rfl, rfl, rfl, h1, r1⟩ := trodAll_cons r0
  obtain ⟨v2, vs2, d2, ds2, p2, q2, rfl, rfl, rfl, h2, r2⟩ := trodAll_cons r1
  obtain ⟨v3, vs3, d3, ds3, p3, q3, rfl, rfl, rfl, h3, r3⟩ := trodAll_cons r2
  obtain ⟨v4, vs4, d4, ds4, p4, q4, rfl, rfl, rfl, h4, r4⟩ := trodAll_cons r3
  obtain ⟨rfl, rfl, rfl⟩ := trodAll_nil r4
  obtain rfl : args = #[v0, v1, v2, v3, v4] := by cases args; simp_all
  obtain ⟨rfl, rfl⟩ := trodVars_none hV
  have k4 := h4
  have lt4 : ∀ x ∈ p4, x.block < W.heap.size := by obtain ⟨m, hm⟩ := k4; exact DataW.trod_lt m _ _ _ hm
  obtain ⟨a0, rfl, rfl, rfl, w0⟩ := open_string Tryz.underlying9 (hval 0 9 v0 rfl rfl) h0
  obtain ⟨a1, rfl, rfl, rfl⟩ := Go.RowKit.open_bool Tryz.underlying4 (hval 1 4 v1 rfl rfl) h1
  obtain ⟨a2, rfl, rfl, rfl, w2⟩ := open_int Tryz.underlying3 (hval 2 3 v2 rfl rfl) h2
  obtain ⟨a3, rfl, rfl, rfl, w3⟩ := open_int Tryz.underlying3 (hval 3 3 v3 rfl rfl) h3
  obtain ⟨ad4, cap4, L4, rfl, at4, hb4⟩ := open_strs2 (hval 4 22 v4 rfl rfl) h4
  have hk2 : Rows.uptoSmall H [.lit (.string a0.data.toList), .lit (.bool a1), .lit (.int .i64 a2), .lit (.int .i64 a3), d4] = true := by simpa using hk
  have hb : Rows.uptoBulkAll ([.lit (.string a0.data.toList), .lit (.bool a1), .lit (.int .i64 a2), .lit (.int .i64 a3), d4] : List (DataW H)) ≤ 1048576 := of_decide_eq_true hk2
  simp only [Rows.uptoBulkAll, Rows.uptoBulk, ba_len] at hb
  have hT : TabB W.heap.size W := (tab_of_laid hL).toB
  clear hA0
  refine (restored_walk W.heap.size a0 a1 a2 a3 ad4 cap4 L4 W w0 hT (wfi_bounds w2).1 (wfi_bounds w2).2 (wfi_bounds w3).1 (wfi_bounds w3).2 at4 (by omega) (by omega)).mono fun e W' ⟨he, bel⟩ => ?_
  subst he
  exact ⟨_, rfl, _, _, _, [], _, [], hW', trodAll_mk1 (shut_bool Tryz.underlying4 _), (trodAll_cons_mk (shut_string Tryz.underlying9 w0) (trodAll_cons_mk (shut_bool Tryz.underlying4 _) (trodAll_cons_mk (shut_int Tryz.underlying3 w2) (trodAll_cons_mk (shut_int Tryz.underlying3 w3) (trodAll_cons_mk (Below.trod laidOut (by kernel_rfl) (of_decide_eq_true (by kernel_rfl)) k4 bel lt4) trodAll_mk0))))), rfl, bel.frame _, fun h => by cases h⟩
theorem restored_met (os : Os) : laidMet Tryz.prog Rows.restoredUptoRow.laid ((laidWorld os).forCall (fun _ _ => 0) ⟨#[], #[.string ByteArray.empty, .bool false, .int .i64 0, .int .i64 0, .slice none 0 0], []⟩).memory :=
  laidMet_of_run' 8 (by kernel_rfl) (by kernel_rfl)
theorem restored_reads (os : Os) {H : Type} (enc : TypeId × Value → H) : ∃ places, DataW.whole enc Tryz.prog ((laidWorld os).forCall (fun _ _ => 0) ⟨#[], #[.string ByteArray.empty, .bool false, .int .i64 0, .int .i64 0, .slice none 0 0], []⟩).memory Tryz.f4.params.toList Rows.restoredSpec.vars false (#[.string ByteArray.empty, .bool false, .int .i64 0, .int .i64 0, .slice none 0 0] : Array Value).toList 8 = some ([.lit (.string []), .lit (.bool false), .lit (.int .i64 0), .lit (.int .i64 0), .nil], [], places) :=
  ⟨[], by kernel_rfl⟩
set_option maxRecDepth 100000 in
theorem restored_lifted (os : Os) (started : os.Started) (H : Type) (enc : TypeId × Value → H) (F : Stop.Interp) :
    ReturnsInHanded {} Tryz.checked os 4 .any ((Rows.OpenSpec.upto Rows.restoredSpec).preRow enc Tryz.prog Tryz.f4 Rows.restoredUptoRow.domain false Rows.restoredUptoRow.laid) (((Rows.OpenSpec.upto Rows.restoredSpec).at F).post enc Tryz.prog Tryz.f4 false true false false) := by
  obtain ⟨places, hx⟩ := restored_reads os enc
  refine returnsInHanded_of_row (C := Tryz.checked) (s := Rows.OpenSpec.upto Rows.restoredSpec) own_no started (by kernel_rfl) Tryz.func4
    (witness_row_at (enc := enc) (C := Tryz.checked) false (laidWorld os) #[.string ByteArray.empty, .bool false, .int .i64 0, .int .i64 0, .slice none 0 0] rfl (by kernel_rfl) (by kernel_rfl) (by kernel_rfl)
      (OpenSpec.preRow_of_cond 8 hx (by kernel_rfl) (fun k hk => by cases hk; kernel_rfl) (by kernel_rfl) (restored_met os))) ?_
  intro W base args ds gs before hval hW _ hcond _ hL _ _
  exact restored_contract H enc W base args ds gs before hval hW hL (hcond _ rfl)
theorem restored_said : Rows.RestoredUptoSaid :=
  OpenClaim.holds_of_cond 4 Tryz.f4 rfl rfl rfl rfl rfl rfl rfl ⟨rfl, rfl, rfl, rfl, rfl⟩ rfl rfl rfl rfl rfl (by kernel_rfl) Tryz.func4 (by kernel_rfl)
    (of_decide_eq_true (by kernel_rfl)) (by unfold Func.isWrapper; first | (rw [if_pos (by decide +kernel)]; kernel_rfl) | (rw [if_neg (by decide +kernel)]; exact ⟨rfl, rfl⟩))
    (fun os started H enc _ F => by rw [OpenClaim.pre_eq_preRow]; exact restored_lifted os started H enc F)
theorem restored_plain (f : FuncId) (fn : Func) (hf : Tryz.pinned.checked.prog.funcNamed "retrace/retracekeep.Restored" = some f) (hfn : Tryz.pinned.checked.prog.funcs[f]? = some fn) :
    false = Tryz.pinned.checked.prog.looks [] ∧ ∀ (j : Nat) t, fn.params[j]? = some t → Tryz.pinned.checked.prog.wantsStandIn t = false := by
  obtain rfl : f = 4 := Option.some.inj ((show Tryz.prog.funcNamed "retrace/retracekeep.Restored" = some 4 by kernel_rfl).symm.trans hf) |>.symm
  obtain rfl : fn = Tryz.f4 := (Option.some.inj (Tryz.func4.symm.trans hfn)).symm
  refine ⟨by kernel_rfl, fun j t ht => ?_⟩
  rw [Tryz.params4] at ht
  have hm := Array.mem_of_getElem? ht
  have hall : (Tryz.f4.params.all fun t => !Tryz.prog.wantsStandIn t) = true := by kernel_rfl
  rw [Tryz.params4] at hall
  have h9 := Array.all_eq_true_iff_forall_mem.1 hall t hm
  have h8 : Tryz.prog.wantsStandIn t = false := by simpa using h9
  exact h8
theorem restored_card : Rows.RestoredUptoCardSaid :=
  Claim7.holds_tied_plain_at .later [] _ _ _ _ restored_said (fun _ h => by cases h) (by kernel_rfl) (fun _ h => by cases h) restoredUpto_row_tie rfl ⟨rfl, rfl⟩ (by kernel_rfl) rfl restored_plain (by kernel_rfl)
end Go.Proofs.YtlppphmnegdhoabGreatDoor

