import Derived.Test.YtlppphmnegdhoabMg16
import Derived.Lib.AppendStr
/-
  The program's scripts: readSubstitution.
-/
namespace Go.Proofs.Ytlppphmnegdhoab
set_option linter.unusedVariables false
set_option maxRecDepth 100000
open Go.RowKit
open M

theorem rtSub : RowT 59 7 := ⟨⟨_, Try.underlying59, rfl⟩, by kernel_rfl⟩
theorem bet_some (o : Option (List Mk × List UInt8)) (t : List UInt8) (h : betM o = some (3, t)) : ∃ m, o = some (m, t) ∧ (expM m).isSome = true := by
  cases o with
  | none => cases h
  | some p =>
    rw [betM] at h
    split at h
    · rename_i hx
      simp at h
      exact ⟨p.1, by rw [← h], hx⟩
    · cases h
theorem bet_none (o : Option (List Mk × List UInt8)) (h : betM o = none) : chgA 115 o = false := by
  cases o with
  | none => rfl
  | some p =>
    rw [betM] at h
    split at h
    · cases h
    · rename_i hx
      show chgB 115 p.1 (uptoM p.2) = false
      cases uptoM p.2 with
      | none => rfl
      | some q =>
        rw [chgB, if_pos rfl]
        simp at hx
        simp [hx]
theorem change_by (nm : Nat) (t : List UInt8) : changeM nm t = if stB t 47 then chgA nm (uptoM (t.drop 1)) else false := by
  match t with
  | [] => rfl
  | c :: r =>
    show (if c.toNat = 47 then _ else false) = if (c.toNat == 47) = true then _ else false
    by_cases h : c.toNat = 47
    · rw [if_pos h, if_pos (by simpa using h)]; rfl
    · rw [if_neg h, if_neg (by simpa using h)]
def SbPost (b nm : Nat) (cs : List Value) (s : ByteArray) (w : World) (e : Ending) (w' : World) : Prop := e = .returned (.bool (changeM nm s.data.toList)) ∧ ∃ cs', PCmd w' b cs' ∧ Sp cs cs' ∧ Apt b w w'
set_option maxRecDepth 100000 in
set_option maxHeartbeats 1000000 in
theorem readSubstitution_calls (b : Nat) (cs : List Value) (s : ByteArray) (w : World) (hs : s.size ≤ 400) (hnl : NoNL s) (hb : PCmd w b cs) :
    Calls Try.prog 31 #[.pointer (some ⟨b, 0, none⟩), .string s] w fun e w' => SbPost b 115 cs s w e w' := by
  have hsm : s.size ≤ maxLen := by unfold maxLen; omega
  have HNL : Hid (NoNL s) := hnl
  have HCH : Hid (changeM 115 s.data.toList = if stB s.data.toList 47 then chgA 115 (uptoM (s.data.toList.drop 1)) else false) := change_by 115 _
  clear hnl
  go_enter Try.func31, Try.ntmps31
  go_wp2_with fail
  have HC := readBetween_calls s 0 w hs (Nat.zero_le _) HNL.out
  rw [show ((0 : Nat) : Int) = 0 from rfl] at HC
  refine HC.mono ?_
  clear HC
  rintro e w1 ⟨B1, vs, hE, hor⟩
  have hvl := hE.len
  have hv1 := hE.one
  rw [List.drop_zero] at hor
  have hb1 := hb.keep B1
  have A1 : Apt b w w1 := Apt.of_below B1
  have hbn : CB (w1.alloc (.cells #[.bool false, .bool false, .slice none 0 0] 52)) w1.heap.size [.bool false, .bool false, .slice none 0 0] := CB.new w1 _ _ (by simp [Value.oneCell'])
  have hb2 := hb1.keep ((Below.refl w1.heap.size w1).alloc (Nat.le_refl _) (.cells #[.bool false, .bool false, .slice none 0 0] 52))
  have A2 : Apt b w (w1.alloc (.cells #[.bool false, .bool false, .slice none 0 0] 52)) := A1.trans (Apt.of_below ((Below.refl _ _).alloc (Nat.le_refl _) _))
  have hlt1 := hb1.1.lt
  have hww := B1.size
  obtain ⟨g1, hg1⟩ : ∃ g, w1.heap.size = g := ⟨_, rfl⟩
  rw [hg1] at hbn hlt1 hww
  rcases hor with ⟨h47, q, hbt, h0q, hqs, rfl⟩ | ⟨hno, rfl⟩
  · obtain ⟨m, hup, hex⟩ := bet_some _ _ hbt
    obtain ⟨m2, r2, hm2⟩ : ∃ m2 r2, mksM (s.data.toList.drop q) = (m2, r2) := ⟨_, _, rfl⟩
    obtain ⟨p1, p2⟩ := upto_mk _ m2 r2 (HNL.out.drop q) hm2
    have HM2 : Hid (mksM (s.data.toList.drop q) = (m2, r2)) := hm2
    have HY : Hid (∀ r', r2 = 47 :: r' → changeM 115 s.data.toList = flagsM r') := fun r' e => by
      rw [HCH.out, h47, if_pos rfl, hup]
      show chgB 115 m (uptoM (s.data.toList.drop q)) = _
      rw [p1 r' e]
      rw [chgB, if_pos rfl, hex]; rfl
    have HN : Hid ((∀ r', r2 ≠ 47 :: r') → changeM 115 s.data.toList = false) := fun e => by
      rw [HCH.out, h47, if_pos rfl, hup]
      show chgB 115 m (uptoM (s.data.toList.drop q)) = _
      rw [p2 e]; rfl
    clear hup hex hm2 p1 p2 hbt h47 HCH
    obtain ⟨v0, v1, v2, hvs⟩ : ∃ a b c, vs = [a, b, c] := by
      match vs, hvl with
      | [a, b, c], _ => exact ⟨a, b, c, rfl⟩
    subst hvs
    go_wp2_with (refine cb_store0 rtPExp hbn rfl rfl _ _ rfl rfl rfl rfl hv1 ?_
                 intro w3 hb3 O3
                 have hc3 : PCmd w3 b cs := ⟨hb2.1.keep (O3.block _ (by omega)) (by rw [O3.size]; exact Nat.le_refl _), hb2.2⟩
                 have A3 := A2.only_new O3 hww)
    refine (readReplacement_calls s q m2 r2 w3 hs hqs HM2.out).mono ?_
    rintro e w4 ⟨B4, a4, l4, c4, n, rfl, hqn, hns, hmn⟩
    have hc4 := hc3.keep B4
    have hb4 := hb3.below B4 hb3.lt
    have A4 := A3.trans (Apt.of_below B4)
    have HST : Hid (stB (s.data.toList.drop n) 47 = true ↔ (([] : List Mk) = [] ∧ ∃ r', r2 = 47 :: r' ∧ s.data.toList.drop n = 47 :: r')) := stB_slash _ _ _ hmn
    have HR2 : Hid (r2 = s.data.toList.drop n) := mks_nil _ _ hmn
    clear hmn hc3 hb3 A3 B4
    go_wp2_with fail
    refine (stands_calls s n 47 _ hsm hns (by decide)).mono ?_
    rintro e wq ⟨rfl, hwq⟩
    rw [hwq]
    clear hwq
    cases hst : stB (s.data.toList.drop n) 47
    · have HF : Hid (changeM 115 s.data.toList = false) := HN.out (fun r' e => by
        rw [HR2.out] at e
        rw [e] at hst
        cases hst)
      clear hst HY HN HST
      go_wp2
      go_ret
      exact ⟨ret_bool (by rw [HF.out]), cs, hc4, Sp.refl hc4.2, A4⟩
    · have hn1 := stB_size s n 47 hst
      obtain ⟨_, r', hr', hdn⟩ := HST.out.1 hst
      have HF : Hid (changeM 115 s.data.toList = flagsM (s.data.toList.drop (n + 1))) := by
        show _ = _
        rw [HY.out r' hr', ← List.drop_drop, hdn]; rfl
      have hc41 := hc4.1
      have hc42 := hc4.2
      clear hst HY HN HST hr' hdn
      go_wp2_with (first
        | refine cb_load0 rtPExp hb4 rfl rfl _ rfl rfl ?_
        | (refine cb_storeAt rtSub hc41 16 rfl _ _ rfl rfl rfl rfl (by omega) (ones_app hv1 (m := [.slice a4 l4 c4, .int .i64 1, .bool false, .bool false]) (by simp [Value.oneCell'])) ?_
           intro w5 hb5 O5))
      have hS5 : Sp cs (cs.take 16 ++ [v0, v1, v2, .slice a4 l4 c4, .int .i64 1, .bool false, .bool false] ++ cs.drop (16 + 7)) := Sp.part hc42 16 [v0, v1, v2, .slice a4 l4 c4, .int .i64 1, .bool false, .bool false] (by omega) (by simp)
      have hb5' : CB w5 b (cs.take 16 ++ [v0, v1, v2, .slice a4 l4 c4, .int .i64 1, .bool false, .bool false] ++ cs.drop (16 + 7)) := hb5
      generalize cs.take 16 ++ [v0, v1, v2, .slice a4 l4 c4, .int .i64 1, .bool false, .bool false] ++ cs.drop (16 + 7) = cs5 at *
      have HC := readFlags_calls b cs5 s (n + 1) w5 hs hn1 ⟨hb5', hS5.1⟩
      rw [show ((n + 1 : Nat) : Int) = (n : Int) + 1 from rfl] at HC
      refine HC.mono ?_
      clear HC hb5
      rintro e w6 ⟨rfl, cs6, hc6, hs6, O6⟩
      generalize flagsM (s.data.toList.drop (n + 1)) = fl at *
      go_wp2
      go_ret
      exact ⟨ret_bool (by rw [HF.out]), cs6, hc6, hS5.trans hs6, A4.trans ((Apt.of_only O5).trans (Apt.of_only O6))⟩
  · have HF : Hid (changeM 115 s.data.toList = false) := by
      show _ = _
      rw [HCH.out]
      rcases hno with h | h
      · rw [h]; rfl
      · rw [bet_none _ h]; split <;> rfl
    clear hno HCH
    go_wp2_with (refine cb_store0 rtPExp hbn rfl rfl _ _ rfl rfl rfl hvl hv1 ?_
                 intro w3 hb3 O3
                 have hc3 : PCmd w3 b cs := ⟨hb2.1.keep (O3.block _ (by omega)) (by rw [O3.size]; exact Nat.le_refl _), hb2.2⟩
                 have A3 := A2.only_new O3 hww)
    go_ret
    exact ⟨ret_bool (by rw [HF.out]), cs, hc3, Sp.refl hc3.2, A3⟩
end Go.Proofs.Ytlppphmnegdhoab

/-
  The program's scripts: readRow, hasTwice, readExchange.
-/
namespace Go.Proofs.Ytlppphmnegdhoab
set_option linter.unusedVariables false
set_option maxRecDepth 100000
open Go.RowKit
open M

theorem elByte : ElT 109 5 1 1 (.int .u8 0) := ⟨by kernel_rfl, by kernel_rfl, rfl, by decide, by decide, by decide⟩
theorem pconv_own {w : World} {base : Nat} {v : Value} {n : Nat} {A : List UInt8} (h : w.ownsRow base 5 1 v n (A.map fun b => .int .u8 (b.toNat : Int))) : ∃ t : ByteArray, t.data.toList = A ∧ (convert 109 9 v).run Try.prog w = .ok (.string t) w := by
  obtain ⟨h1, ⟨rfl, rfl⟩ | ⟨g, cap, cur, rfl, hrest⟩⟩ := id h
  · refine ⟨ByteArray.empty, ?_, ?_⟩
    · simp at h1
      rw [h1]; rfl
    · exact run_convert_bytes_nil w 109 5 Try.underlying109 Try.underlying5 0 0 9 Try.underlying9
  · have hl : n = A.length := by simpa using h1.symm
    subst hl
    refine ⟨⟨A.toArray⟩, by simp, ?_⟩
    refine run_convert_bytes_back w 109 9 5 ⟨g, 0, none⟩ cap A Try.underlying109 Try.underlying5 Try.underlying9 (fun j hj => ?_)
    exact h.cells rfl j _ (by simp [List.getElem?_eq_getElem hj])
/-- the marks' bytes -/
def mkB (m : List Mk) : List UInt8 := m.map (fun q => UInt8.ofNat q.b)
def BtAt (s : ByteArray) (k : Nat) (m : List Mk) (r : List UInt8) (v1 v2 v3 : Value) : Prop :=
  (∃ (q : Mk) (m' : List Mk) (n : Nat), m = q :: m' ∧ q.b < 256 ∧ k < n ∧ n ≤ s.size ∧ mksM (s.data.toList.drop n) = (m', r) ∧ v1 = .int .u8 q.b ∧ v2 = .int .i64 n ∧ v3 = .bool true) ∨ (m = [] ∧ v1 = .int .u8 0 ∧ ∃ n : Nat, v2 = .int .i64 n ∧ v3 = .bool false)
theorem bt_at {s : ByteArray} {k : Nat} {m : List Mk} {r : List UInt8} {e : Ending} (hm : mksM (s.data.toList.drop k) = (m, r)) (h : ByteP s k [47] m r e) : ∃ v1 v2 v3, e = .returned (.tuple #[v1, v2, v3]) ∧ BtAt s k m r v1 v2 v3 := by
  rcases h with ⟨q, m', n, h1, h2, h3, h4, h5, h6, rfl⟩ | ⟨hno, n, rfl, _, _⟩
  · exact ⟨_, _, _, rfl, .inl ⟨q, m', n, h1, h3, h4, h5, h6, rfl, rfl, rfl⟩⟩
  · refine ⟨_, _, _, rfl, .inr ⟨?_, rfl, n, rfl, rfl⟩⟩
    rcases hno with h | ⟨q, v, h, h2⟩
    · exact h
    · rw [bar_slash q (no47 (s.data.toList.drop k) q (by rw [hm, h]; simp))] at h2
      exact Bool.noConfusion h2
def RwPost (s : ByteArray) (k : Nat) (m : List Mk) (r : List UInt8) (w : World) (e : Ending) (w' : World) : Prop :=
  Below w.heap.size w w' ∧ ∃ (t : ByteArray) (n : Nat), e = .returned (.tuple #[.string t, .int .i64 n]) ∧ t.data.toList = mkB m ∧ k ≤ n ∧ n ≤ s.size ∧ mksM (s.data.toList.drop n) = ([], r) ∧ t.size ≤ n
set_option maxRecDepth 100000 in
set_option maxHeartbeats 1000000 in
theorem readRow_calls (s : ByteArray) (k : Nat) (m : List Mk) (r : List UInt8) (w : World) (hs : s.size ≤ 400) (hk : k ≤ s.size) (hm : mksM (s.data.toList.drop k) = (m, r)) :
    Calls Try.prog 40 #[.string s, .int .i64 k] w fun e w' => RwPost s k m r w e w' := by
  have hsm : s.size ≤ maxLen := by unfold maxLen; omega
  have HM : Hid (mksM (s.data.toList.drop k) = (m, r)) := hm
  clear hm
  go_enter Try.func40, Try.ntmps40
  go_wp2_with fail
  refine (byte_calls s k _ m r _ hsm hk (by unfold maxLen; decide) (by decide) HM.out).mono ?_
  rintro e w1 ⟨hpost, rfl⟩
  obtain ⟨v1, v2, v3, rfl, hat⟩ := bt_at HM.out (show ByteP s k [47] m r e from hpost)
  have HAT : Hid (BtAt s k m r v1 v2 v3) := hat
  clear hpost hat
  go_wp2_with fail
  go_loopw [1, 6, 7, 8, 9] (fun x1 x6 x7 x8 x9 wr => ∃ (n : Nat) (m1 : List Mk) (A : List UInt8), x1 = .int .i64 n ∧ k ≤ n ∧ n ≤ s.size ∧ A.length ≤ n ∧ Hid (mksM (s.data.toList.drop n) = (m1, r)) ∧ Hid (mkB m = A ++ mkB m1) ∧ Hid (BtAt s n m1 r x7 x8 x9) ∧ wr.ownsRow w1.heap.size 5 1 x6 A.length (A.map fun b => .int .u8 (b.toNat : Int)) ∧ Below w1.heap.size w1 wr) (fun x1 _ _ _ _ _ => s.size - (intOf x1).toNat)
  case atStart => exact ⟨k, m, [], rfl, Nat.le_refl _, hk, Nat.zero_le _, HM, rfl, HAT, World.ownsRow_nil _ _ _ _, Below.refl _ _⟩
  case round =>
    obtain ⟨n, m1, A, rfl, hkn, hns, hAn, HM1, HA, HB1, hown, hB⟩ := hrel
    obtain ⟨av, cv, hvv⟩ := own_form hown
    subst hvv
    obtain ⟨nA, hnA⟩ : ∃ n, A.length = n := ⟨_, rfl⟩
    have HNA : Hid (A.length = nA) := hnA
    rw [hnA] at hown hAn ⊢
    clear hnA
    have hwb := hB.size
    rcases HB1.out with ⟨q, m', n', rfl, hq, hnn, hn's, hm', rfl, rfl, rfl⟩ | ⟨rfl, rfl, n', rfl, rfl⟩
    · have HM2 : Hid (mksM (s.data.toList.drop n') = (m', r)) := hm'
      have HA2 : Hid (mkB m = (A ++ [UInt8.ofNat q.b]) ++ mkB m') := by show _ = _; rw [HA.out, List.append_assoc]; rfl
      have hqn : ((UInt8.ofNat q.b).toNat : Int) = (q.b : Int) := by
        have : (UInt8.ofNat q.b).toNat = q.b := by simp; omega
        omega
      have HQN : Hid (((UInt8.ofNat q.b).toNat : Int) = (q.b : Int)) := hqn
      obtain ⟨y, hy⟩ : ∃ y, q.b = y := ⟨_, rfl⟩
      have HY : Hid (q.b = y) := hy
      rw [hy] at hq ⊢
      clear hm' HB1 HM1 HA hqn hy
      go_wp2_with (refine gb_append elByte (hown.alloc _) wr.heap.size [.int .u8 y] (heap_alloc_new wr _) rfl (by simp [Value.oneCell']) (by omega) (by simp; omega) rfl _ _ rfl rfl rfl ?_
                   intro v' w6 hown6 hgrow6
                   have hB6 : Below w1.heap.size w1 w6 := (hB.alloc (by omega) _).grown hgrow6 (by simp; omega) (fun k hk => (hown.lt k hk).1)
                   obtain ⟨av', cv', hvv⟩ := own_form hown6
                   subst hvv
                   clear hgrow6)
      refine (byte_calls s n' _ m' r _ hsm hn's (by unfold maxLen; decide) (by decide) HM2.out).mono ?_
      rintro e w7 ⟨hpost, rfl⟩
      obtain ⟨u1, u2, u3, rfl, hat⟩ := bt_at HM2.out (show ByteP s n' [47] m' r e from hpost)
      have HAT2 : Hid (BtAt s n' m' r u1 u2 u3) := hat
      clear hpost hat
      go_wp2_with fail
      go_roundw
      case rel =>
        refine ⟨n', m', A ++ [UInt8.ofNat q.b], rfl, by omega, hn's, by rw [List.length_append, HNA.out]; simp; omega, HM2, HA2.out, HAT2, ?_, hB6⟩
        rw [List.length_append, HNA.out, List.map_append]
        show w7.ownsRow _ _ _ _ (nA + 1) (_ ++ [.int .u8 ((UInt8.ofNat q.b).toNat : Int)])
        rw [HQN.out, HY.out]; exact hown6
      case measure => first | (simp [intOf]; done) | (simp [intOf]; omega)
    · obtain ⟨t, ht, hcv⟩ := pconv_own hown
      have HT : Hid (t.data.toList = mkB m) := by show _ = _; rw [ht, HA.out]; simp [mkB]
      have hts : t.size ≤ n := by rw [← ba_len, ht, HNA.out]; exact hAn
      clear HB1 HA ht
      go_wp2
      go_ret2
      exact ⟨hB, t, n, rfl, HT.out, hkn, hns, HM1.out, hts⟩
end Go.Proofs.Ytlppphmnegdhoab

/-
  The program's scripts: hasTwice, readExchange.
-/
namespace Go.Proofs.Ytlppphmnegdhoab
set_option linter.unusedVariables false
set_option maxRecDepth 100000
open Go.RowKit
open M

theorem infoSeen : (Try.prog.info? 112).map (fun i => (i.zero, i.size)) = some (some (.agg (Array.replicate 256 (.bool false))), 256) := by kernel_rfl
def inT (l : List UInt8) (i c : Nat) : Bool := (l.take i).any (fun d => d.toNat == c)
theorem inT_succ (l : List UInt8) (i c : Nat) (h : i < l.length) : inT l (i + 1) c = (inT l i c || l[i].toNat == c) := by
  unfold inT
  rw [List.take_add_one, List.getElem?_eq_getElem h, List.any_append]
  simp only [Option.toList, List.any_cons, List.any_nil, Bool.or_false]
def TwPost (s : ByteArray) (w : World) (e : Ending) (w' : World) : Prop :=
  Below w.heap.size w w' ∧ ∃ r : Bool, e = .returned (.bool r) ∧ (r = true ↔ ∃ i k, ∃ (h : i < s.data.toList.length) (h' : k < i), s.data.toList[i] = (s.data.toList[k]'(by omega)))
theorem inT_iff (l : List UInt8) (i c : Nat) (hi : i ≤ l.length) : inT l i c = true ↔ ∃ k, ∃ (h : k < i), (l[k]'(by omega)).toNat = c := by
  unfold inT
  rw [List.any_eq_true]
  constructor
  · rintro ⟨d, hd, e⟩
    obtain ⟨k, hk, rfl⟩ := List.getElem_of_mem hd
    rw [List.length_take] at hk
    exact ⟨k, by omega, by simpa using e⟩
  · rintro ⟨k, hk, e⟩
    refine ⟨l[k]'(by omega), ?_, by simpa using e⟩
    have : (l.take i)[k]'(by rw [List.length_take]; omega) = l[k]'(by omega) := List.getElem_take
    rw [← this]; exact List.getElem_mem _
set_option maxRecDepth 100000 in
set_option maxHeartbeats 1000000 in
theorem hasTwice_calls (s : ByteArray) (w : World) (hs : s.size ≤ 8192) :
    Calls Try.prog 41 #[.string s] w fun e w' => TwPost s w e w' := by
  have HL : Hid (s.data.toList.length = s.size) := ba_len s
  have hzv := (zero_of_info infoSeen).1
  have hb0 : BR (w.alloc (.cells (Array.replicate 256 (.bool false)) 112)) w.heap.size 256 (fun _ => false) := BR.new w _ 256
  have B0 : Below w.heap.size w (w.alloc (.cells (Array.replicate 256 (.bool false)) 112)) := (Below.refl _ _).alloc (Nat.le_refl _) _
  go_enter Try.func41, Try.ntmps41
  go_wp2_with fail
  go_loopw [4] (fun v4 wr => ∃ i : Nat, i ≤ s.size ∧ v4 = .int .i64 i ∧ BR wr w.heap.size 256 (inT s.data.toList i) ∧ Below w.heap.size w wr ∧ Hid (∀ i' k' (h : i' < s.data.toList.length) (h2 : k' < i'), i' < i → s.data.toList[i'] ≠ (s.data.toList[k']'(by omega)))) (fun v4 _ => s.size - (intOf v4).toNat)
  case atStart => exact ⟨0, Nat.zero_le _, rfl, hb0.congr (fun i _ => rfl), B0, fun _ _ _ _ h => by omega⟩
  case round =>
    clear hb0 B0
    obtain ⟨i, hi, rfl, hbr, hB, HP⟩ := hrel
    by_cases hlt : i < s.size
    · have hlt1 : (i : Int) < (s.size : Int) := by omega
      obtain ⟨x, hx⟩ : ∃ x : Nat, s[i].toNat = x := ⟨_, rfl⟩
      have hxc : x < 256 := by rw [← hx]; exact s[i].toNat_lt
      have hxc1 : (x : Int) < 256 := by omega
      have hiL : i < s.data.toList.length := by rw [HL.out]; exact hlt
      have HGI : Hid (s.data.toList[i].toNat = x) := hx
      have z0 := hbr.c x hxc
      have z1 := hbr.fz x hxc
      have hII := inT_iff s.data.toList i x (by omega)
      cases hin : inT s.data.toList i x
      · rw [hin] at z0
        have HP2 : Hid (∀ i' k' (h : i' < s.data.toList.length) (h2 : k' < i'), i' < i + 1 → s.data.toList[i'] ≠ (s.data.toList[k']'(by omega))) := fun i' k' h h2 h3 e => by
          by_cases e1 : i' = i
          · subst e1
            have : inT s.data.toList i' x = true := hII.2 ⟨k', h2, by rw [← e]; exact HGI.out⟩
            rw [hin] at this; cases this
          · exact HP.out i' k' h h2 (by omega) e
        have hb2 : BR (wr.setCell ⟨w.heap.size, x, none⟩ (.bool true)) w.heap.size 256 (inT s.data.toList (i + 1)) := (hbr.set x hxc true).congr (fun c _ => by
          rw [inT_succ _ _ _ hiL, HGI.out]
          by_cases e : c = x
          · rw [if_pos e, e]; simp
          · rw [if_neg e]
            have : (x == c) = false := by simp; omega
            rw [this, Bool.or_false])
        have hB2 := hB.setCell (p := ⟨w.heap.size, x, none⟩) (Nat.le_refl _) (.bool true)
        clear hin hII HP
        go_wp2
        go_roundw
        case rel => exact ⟨i + 1, by omega, by go_num, hb2, hB2, HP2.out⟩
        case measure => first | (simp [intOf]; done) | (simp [intOf]; omega)
      · rw [hin] at z0
        have HF : Hid (∃ i k, ∃ (h : i < s.data.toList.length) (h' : k < i), s.data.toList[i] = (s.data.toList[k]'(by omega))) := by
          obtain ⟨k, hk, e⟩ := hII.1 hin
          exact ⟨i, k, hiL, hk, UInt8.toNat_inj.1 (by rw [HGI.out]; exact e.symm)⟩
        clear hin hII HP
        go_wp2
        go_ret
        exact ⟨hB, true, rfl, ⟨fun _ => HF.out, fun _ => rfl⟩⟩
    · obtain rfl : i = s.size := by omega
      have hlt1 : ¬ (s.size : Int) < (s.size : Int) := by omega
      go_wp2
      go_ret
      exact ⟨hB, false, rfl, ⟨fun h => Bool.noConfusion h, fun ⟨i, k, h, h', e⟩ => absurd e (HP.out i k h h' (by rw [HL.out] at h; exact h))⟩⟩
theorem twice_bytes (m : List Mk) (t : ByteArray) (hm : ∀ q ∈ m, q.b < 256) (ht : t.data.toList = mkB m) : twice m = true ↔ ∃ i k, ∃ (h : i < t.data.toList.length) (h' : k < i), t.data.toList[i] = (t.data.toList[k]'(by omega)) := by
  have hlen : (mkB m).length = m.length := by simp [mkB]
  have hget : ∀ i (h : i < m.length), (mkB m)[i]'(by rw [hlen]; exact h) = UInt8.ofNat m[i].b := fun i h => by simp [mkB]
  have hinj : ∀ i k (h : i < m.length) (h' : k < m.length), UInt8.ofNat m[i].b = UInt8.ofNat m[k].b ↔ m[i].b = m[k].b := fun i k h h' => by
    have h1 := hm m[i] (List.getElem_mem _)
    have h2 := hm m[k] (List.getElem_mem _)
    constructor
    · intro e
      have := congrArg UInt8.toNat e
      simp at this
      omega
    · intro e; rw [e]
  rw [twice_iff]
  simp only [ht]
  constructor
  · rintro ⟨i, k, h, h', e⟩
    exact ⟨i, k, by rw [hlen]; exact h, h', by rw [hget i h, hget k (by omega)]; exact (hinj i k h (by omega)).2 e⟩
  · rintro ⟨i, k, h, h', e⟩
    have h9 : i < m.length := by rw [hlen] at h; exact h
    exact ⟨i, k, h9, h', by rw [hget i h9, hget k (by omega)] at e; exact (hinj i k h9 (by omega)).1 e⟩
theorem rtExc : RowT 61 2 := ⟨⟨_, Try.underlying61, rfl⟩, by kernel_rfl⟩
set_option maxRecDepth 100000 in
set_option maxHeartbeats 1000000 in
theorem readExchange_calls (b : Nat) (cs : List Value) (s : ByteArray) (w : World) (hs : s.size ≤ 400) (hnl : NoNL s) (hb : PCmd w b cs) :
    Calls Try.prog 32 #[.pointer (some ⟨b, 0, none⟩), .string s] w fun e w' => SbPost b 121 cs s w e w' := by
  have hsm : s.size ≤ maxLen := by unfold maxLen; omega
  have HNL : Hid (NoNL s) := hnl
  have HCH : Hid (changeM 121 s.data.toList = if stB s.data.toList 47 then chgA 121 (uptoM (s.data.toList.drop 1)) else false) := change_by 121 _
  clear hnl
  go_enter Try.func32, Try.ntmps32
  go_wp2_with fail
  have HC := stands_calls s 0 47 w hsm (Nat.zero_le _) (by decide)
  rw [show ((0 : Nat) : Int) = 0 from rfl, List.drop_zero] at HC
  refine HC.mono ?_
  clear HC
  rintro e wq ⟨rfl, hwq⟩
  rw [hwq]
  clear hwq
  cases h47 : stB s.data.toList 47
  · have HF : Hid (changeM 121 s.data.toList = false) := by show _ = _; rw [HCH.out, h47]; rfl
    clear h47 HCH
    go_wp2
    go_ret
    exact ⟨ret_bool (by rw [HF.out]), cs, hb, Sp.refl hb.2, Apt.refl _ _⟩
  have h1s : 1 ≤ s.size := stB_size s 0 47 (by rw [List.drop_zero]; exact h47)
  obtain ⟨m, r, hmr⟩ : ∃ m r, mksM (s.data.toList.drop 1) = (m, r) := ⟨_, _, rfl⟩
  have HM : Hid (mksM (s.data.toList.drop 1) = (m, r)) := hmr
  obtain ⟨p1, p2⟩ := upto_mk _ m r (HNL.out.drop 1) hmr
  have HC1 : Hid ((∀ r', r ≠ 47 :: r') → changeM 121 s.data.toList = false) := fun e => by rw [HCH.out, h47, if_pos rfl, p2 e]; rfl
  have HC2 : Hid (∀ r', r = 47 :: r' → changeM 121 s.data.toList = chgB 121 m (uptoM r')) := fun r' e => by rw [HCH.out, h47, if_pos rfl, p1 r' e]; rfl
  have HLT : Hid (∀ q ∈ m, q.b < 256) := fun q hq => mk_lt (s.data.toList.drop 1) q (by rw [hmr]; exact hq)
  clear hmr p1 p2 h47 HCH
  go_wp2_with fail
  have HC := readRow_calls s 1 m r w hs h1s HM.out
  rw [show ((1 : Nat) : Int) = 1 from rfl] at HC
  refine HC.mono ?_
  clear HC
  rintro e w1 ⟨B1, t, n, rfl, ht, h1n, hns, hmn, htn⟩
  have HT : Hid (t.data.toList = mkB m) := ht
  have HST : Hid (stB (s.data.toList.drop n) 47 = true ↔ (([] : List Mk) = [] ∧ ∃ r', r = 47 :: r' ∧ s.data.toList.drop n = 47 :: r')) := stB_slash _ _ _ hmn
  have HR : Hid (r = s.data.toList.drop n) := mks_nil _ _ hmn
  have hb1 := hb.keep B1
  have A1 : Apt b w w1 := Apt.of_below B1
  clear ht hmn B1 hb
  go_wp2_with fail
  refine (stands_calls s n 47 _ hsm hns (by decide)).mono ?_
  rintro e wq ⟨rfl, hwq⟩
  rw [hwq]
  clear hwq
  cases hst : stB (s.data.toList.drop n) 47
  · have HF : Hid (changeM 121 s.data.toList = false) := HC1.out (fun r' e => by rw [HR.out] at e; rw [e] at hst; cases hst)
    clear hst HC1 HC2 HST
    go_wp2
    go_ret
    exact ⟨ret_bool (by rw [HF.out]), cs, hb1, Sp.refl hb1.2, A1⟩
  have hn1 := stB_size s n 47 hst
  obtain ⟨_, r', hr', hdn⟩ := HST.out.1 hst
  have HC3 : Hid (changeM 121 s.data.toList = chgB 121 m (uptoM (s.data.toList.drop (n + 1)))) := by
    show _ = _
    rw [HC2.out r' hr', ← List.drop_drop, hdn]; rfl
  obtain ⟨m2, r2, hm2⟩ : ∃ m2 r2, mksM (s.data.toList.drop (n + 1)) = (m2, r2) := ⟨_, _, rfl⟩
  have HM2 : Hid (mksM (s.data.toList.drop (n + 1)) = (m2, r2)) := hm2
  obtain ⟨p1, p2⟩ := upto_mk _ m2 r2 (HNL.out.drop (n + 1)) hm2
  have HC4 : Hid ((∀ r', r2 ≠ 47 :: r') → changeM 121 s.data.toList = false) := fun e => by rw [HC3.out, p2 e]; rfl
  have HC5 : Hid (∀ r', r2 = 47 :: r' → changeM 121 s.data.toList = (!twice m && (!m.isEmpty && (m.length == m2.length && r'.isEmpty)))) := fun r' e => by
    rw [HC3.out, p1 r' e, chgB, if_neg (by decide)]
  clear hm2 p1 p2 hst HC1 HC2 HST hr' hdn HC3
  go_wp2_with fail
  have HC := readRow_calls s (n + 1) m2 r2 w1 hs hn1 HM2.out
  rw [show ((n + 1 : Nat) : Int) = (n : Int) + 1 from rfl] at HC
  refine HC.mono ?_
  clear HC
  rintro e w2 ⟨B2, t2, q, rfl, ht2, hnq, hqs, hmq, ht2n⟩
  have HT2 : Hid (t2.data.toList = mkB m2) := ht2
  have HST : Hid (stB (s.data.toList.drop q) 47 = true ↔ (([] : List Mk) = [] ∧ ∃ r', r2 = 47 :: r' ∧ s.data.toList.drop q = 47 :: r')) := stB_slash _ _ _ hmq
  have HR2 : Hid (r2 = s.data.toList.drop q) := mks_nil _ _ hmq
  have hb2 := hb1.keep B2
  have A2 : Apt b w w2 := A1.trans (Apt.of_below B2)
  clear ht2 hmq B2 hb1 A1
  go_wp2_with fail
  refine (stands_calls s q 47 _ hsm hqs (by decide)).mono ?_
  rintro e wq ⟨rfl, hwq⟩
  rw [hwq]
  clear hwq
  cases hst : stB (s.data.toList.drop q) 47
  · have HF : Hid (changeM 121 s.data.toList = false) := HC4.out (fun r' e => by rw [HR2.out] at e; rw [e] at hst; cases hst)
    clear hst HC4 HC5 HST
    go_wp2
    go_ret
    exact ⟨ret_bool (by rw [HF.out]), cs, hb2, Sp.refl hb2.2, A2⟩
  have hq1 := stB_size s q 47 hst
  obtain ⟨_, r', hr', hdq⟩ := HST.out.1 hst
  have hr'l : r'.isEmpty = decide (q + 1 = s.size) := by
    have h9 := congrArg List.length hdq
    rw [List.length_drop, ba_len] at h9
    simp at h9
    cases r' with
    | nil => simp at h9 ⊢; omega
    | cons a b => simp at h9 ⊢; omega
  have hlm : m.length = t.size := by rw [← ba_len, HT.out]; simp [mkB]
  have hlm2 : m2.length = t2.size := by rw [← ba_len, HT2.out]; simp [mkB]
  have HV : Hid (changeM 121 s.data.toList = (!twice m && (!decide (t.size = 0) && (decide (t.size = t2.size) && decide (q + 1 = s.size))))) := by
    show _ = _
    rw [HC5.out r' hr', hr'l, hlm, hlm2]
    have e1 : m.isEmpty = decide (t.size = 0) := by
      rw [← hlm]; cases m <;> simp
    rw [e1]; rfl
  have hts : t.size ≤ 8192 := by omega
  have HTW := twice_bytes m t HLT.out HT.out
  have HTW2 : Hid (twice m = true ↔ ∃ i k, ∃ (h : i < t.data.toList.length) (h' : k < i), t.data.toList[i] = (t.data.toList[k]'(by omega))) := HTW
  clear HTW
  clear hst HC4 HC5 HST hr' hdq hr'l hlm hlm2
  by_cases hend : q + 1 = s.size
  · have he1 : ((q : Int) + 1 != (s.size : Int)) = false := by simp; omega
    have hb21 := hb2.1
    have hb22 := hb2.2
    have HV2 : Hid (changeM 121 s.data.toList = (!twice m && (!decide (t.size = 0) && decide (t.size = t2.size)))) := by show _ = _; rw [HV.out, decide_eq_true hend, Bool.and_true]
    have hSn : Sp cs (cs.take 23 ++ [.string t, .string t2] ++ cs.drop (23 + 2)) := Sp.part hb22 23 [.string t, .string t2] (by omega) (by simp)
    clear HV hend
    by_cases z1 : t.size = 0
    · have z11 : ¬ (0 : Int) < (t.size : Int) := by omega
      have HF : Hid (changeM 121 s.data.toList = false) := by show _ = _; rw [HV2.out, decide_eq_true z1]; simp
      clear HV2 z1
      go_wp2_with (refine cb_storeAt rtExc hb21 23 rfl _ _ rfl rfl rfl rfl (by omega) (by simp [Value.oneCell']) ?_; intro w5 hb5 O5)
      go_ret
      exact ⟨ret_bool (by rw [HF.out]), _, ⟨hb5, hSn.1⟩, hSn, A2.trans (Apt.of_only O5)⟩
    · have z11 : (0 : Int) < (t.size : Int) := by omega
      by_cases z2 : t.size = t2.size
      · have z21 : ((t.size : Int) == (t2.size : Int)) = true := by simp [z2]
        have HV3 : Hid (changeM 121 s.data.toList = !twice m) := by show _ = _; rw [HV2.out, decide_eq_false z1, decide_eq_true z2]; simp
        clear HV2 z1 z2
        go_wp2_with (refine cb_storeAt rtExc hb21 23 rfl _ _ rfl rfl rfl rfl (by omega) (by simp [Value.oneCell']) ?_; intro w5 hb5 O5)
        refine (hasTwice_calls t w5 hts).mono ?_
        rintro e w6 ⟨B6, tw, rfl, htw⟩
        have HF : Hid (changeM 121 s.data.toList = !tw) := by
          show _ = _
          have : twice m = tw := by
            rw [Bool.eq_iff_iff]
            exact HTW2.out.trans htw.symm
          rw [HV3.out, this]
        have hc6 : PCmd w6 b (cs.take 23 ++ [.string t, .string t2] ++ cs.drop (23 + 2)) := PCmd.keep ⟨hb5, hSn.1⟩ B6
        clear htw HV3
        cases tw
        · go_wp2
          go_ret
          exact ⟨ret_bool (by rw [HF.out]; rfl), _, hc6, hSn, (A2.trans (Apt.of_only O5)).trans (Apt.of_below B6)⟩
        · go_wp2
          go_ret
          exact ⟨ret_bool (by rw [HF.out]; rfl), _, hc6, hSn, (A2.trans (Apt.of_only O5)).trans (Apt.of_below B6)⟩
      · have z21 : ((t.size : Int) == (t2.size : Int)) = false := by simp; omega
        have HF : Hid (changeM 121 s.data.toList = false) := by show _ = _; rw [HV2.out, decide_eq_false z2]; simp
        clear HV2 z1 z2
        go_wp2_with (refine cb_storeAt rtExc hb21 23 rfl _ _ rfl rfl rfl rfl (by omega) (by simp [Value.oneCell']) ?_; intro w5 hb5 O5)
        go_ret
        exact ⟨ret_bool (by rw [HF.out]), _, ⟨hb5, hSn.1⟩, hSn, A2.trans (Apt.of_only O5)⟩
  · have he1 : ((q : Int) + 1 != (s.size : Int)) = true := by simp; omega
    have HF : Hid (changeM 121 s.data.toList = false) := by show _ = _; rw [HV.out, decide_eq_false hend]; simp
    clear HV hend
    go_wp2
    go_ret
    exact ⟨ret_bool (by rw [HF.out]), cs, hb2, Sp.refl hb2.2, A2⟩
end Go.Proofs.Ytlppphmnegdhoab
