import Derived.Test.YtlppphmnegdhoabMg10
import Derived.Test.YtlppphmnegdhoabMg11
import Derived.Test.YtlppphmnegdhoabMg13
/-
  The document's scripts: behind, label.
-/
namespace Go.Proofs.Ytlppphmnegdhoab
set_option linter.unusedVariables false
set_option maxRecDepth 100000
open Go.RowKit
open M

/-- commands in memory, to be read: their names and labels -/
structure CmdsD (w : World) (a : Option Addr) (L : List (Nat × List UInt8)) : Prop where
  small : L.length ≤ 8192
  cells : ∀ i (h : i < L.length), ∃ g, a = some ⟨g, 0, none⟩ ∧ g < w.heap.size ∧ w.cell? ⟨g, i * 23 + 11, none⟩ = some (.int .u8 L[i].1) ∧ L[i].1 < 256 ∧ ∃ t : ByteArray, w.cell? ⟨g, i * 23 + 13, none⟩ = some (.string t) ∧ t.data.toList = L[i].2
def labI : Option Nat → Int
  | none => -1
  | some r => (r : Int)
theorem clo_cons (x : Nat × List UInt8) (t : List (Nat × List UInt8)) (d : Nat) : clo (x :: t) d = if x.1 = 123 then clo t (d + 1) else if x.1 = 125 then (if d = 1 then true else clo t (d - 1)) else clo t d := by
  obtain ⟨n, s⟩ := x
  rw [clo]
def BehPost (R : Bool) (w : World) (e : Ending) (w' : World) : Prop := (∃ r : Int, e = .returned (.int .i64 r) ∧ (R = true → 0 ≤ r) ∧ (R = false → r = -1)) ∧ w' = w
theorem str_eq (t s : ByteArray) : (t.toList == s.toList) = (t.data.toList == s.data.toList) := by rw [ByteArray.toList_eq, ByteArray.toList_eq]
set_option maxRecDepth 100000 in
set_option maxHeartbeats 1000000 in
theorem label_calls (a : Option Addr) (c : Nat) (L : List (Nat × List UInt8)) (s : ByteArray) (w : World) (hL : CmdsD w a L) :
    Calls Try.prog 19 #[.slice a L.length c, .string s] w fun e w' => e = .returned (.int .i64 (labI (labAt L s.data.toList))) ∧ w' = w := by
  have hsm := hL.small
  obtain ⟨n, hn⟩ : ∃ n, L.length = n := ⟨_, rfl⟩
  have HN : Hid (L.length = n) := hn
  rw [hn] at hsm ⊢
  clear hn
  have HC : Hid (∀ i (h : i < L.length), ∃ g, a = some ⟨g, 0, none⟩ ∧ g < w.heap.size ∧ w.cell? ⟨g, i * 23 + 11, none⟩ = some (.int .u8 L[i].1) ∧ L[i].1 < 256 ∧ ∃ t : ByteArray, w.cell? ⟨g, i * 23 + 13, none⟩ = some (.string t) ∧ t.data.toList = L[i].2) := hL.cells
  clear hL
  go_enter Try.func19, Try.ntmps19
  go_wp2
  go_loop [5] (fun v => ∃ i : Nat, i ≤ n ∧ v = .int .i64 i ∧ Hid (labAt L s.data.toList = (labAt (L.drop i) s.data.toList).map (· + i))) (fun v => n - (intOf v).toNat)
  case atStart =>
    refine ⟨0, Nat.zero_le _, rfl, ?_⟩
    show _ = _
    rw [List.drop_zero]
    cases labAt L s.data.toList <;> rfl
  case round =>
    obtain ⟨i, hi, rfl, HLA⟩ := hrel
    by_cases hlt : i < n
    · have hlt1 : (i : Int) < (n : Int) := by omega
      have h0 : (0 : Int) ≤ (i : Int) := by omega
      have hiL : i < L.length := by rw [HN.out]; exact hlt
      obtain ⟨g, rfl, hg, c11, hnm, t, c13, ht⟩ := HC.out i hiL
      have HD : Hid (L.drop i = L[i] :: L.drop (i + 1)) := by show _ = _; exact List.drop_eq_getElem_cons hiL
      obtain ⟨nm, hnm2⟩ : ∃ x, L[i].1 = x := ⟨_, rfl⟩
      rw [hnm2] at c11 hnm
      by_cases h58 : nm = 58
      · have h581 : ((nm : Int) == 58) = true := by simp [h58]
        by_cases hs : t.data.toList = s.data.toList
        · have hs1 : (t.toList == s.toList) = true := by rw [str_eq]; simpa using hs
          have HF : Hid (labAt L s.data.toList = some (1 + i)) := by
            show _ = _
            rw [HLA.out, HD.out]
            show ((if L[i].1 = 58 ∧ L[i].2 = s.data.toList then some 1 else (labAt (L.drop (i + 1)) s.data.toList).map (· + 1))).map (· + i) = _
            rw [if_pos ⟨by rw [hnm2]; exact h58, by rw [← ht]; exact hs⟩]; rfl
          clear h58 hs HLA hnm2 ht
          go_wp2
          go_ret
          refine ⟨?_, rfl⟩
          rw [HF.out]
          show _ = Ending.returned (.int .i64 (((1 + i : Nat)) : Int))
          simp; omega
        · have hs1 : (t.toList == s.toList) = false := by rw [str_eq]; simpa using hs
          have HF : Hid (labAt L s.data.toList = (labAt (L.drop (i + 1)) s.data.toList).map (· + (i + 1))) := by
            show _ = _
            rw [HLA.out, HD.out]
            show ((if L[i].1 = 58 ∧ L[i].2 = s.data.toList then some 1 else (labAt (L.drop (i + 1)) s.data.toList).map (· + 1))).map (· + i) = _
            rw [if_neg (fun h => hs (by rw [ht]; exact h.2))]
            cases labAt (L.drop (i + 1)) s.data.toList with
            | none => rfl
            | some r => simp; omega
          clear h58 hs HLA hnm2 ht
          go_wp2
          go_round
          case rel => exact ⟨i + 1, by omega, by go_num, HF.out⟩
          case measure => first | (simp [intOf]; done) | (simp [intOf]; omega)
      · have h581 : ((nm : Int) == 58) = false := by simp; omega
        have HF : Hid (labAt L s.data.toList = (labAt (L.drop (i + 1)) s.data.toList).map (· + (i + 1))) := by
          show _ = _
          rw [HLA.out, HD.out]
          show ((if L[i].1 = 58 ∧ L[i].2 = s.data.toList then some 1 else (labAt (L.drop (i + 1)) s.data.toList).map (· + 1))).map (· + i) = _
          rw [if_neg (fun h => h58 (by rw [← hnm2]; exact h.1))]
          cases labAt (L.drop (i + 1)) s.data.toList with
          | none => rfl
          | some r => simp; omega
        clear h58 HLA hnm2 ht
        go_wp2
        go_round
        case rel => exact ⟨i + 1, by omega, by go_num, HF.out⟩
        case measure => first | (simp [intOf]; done) | (simp [intOf]; omega)
    · obtain rfl : i = n := by omega
      have HF : Hid (labAt L s.data.toList = none) := by
        show _ = _
        rw [HLA.out, List.drop_of_length_le (by rw [HN.out]; exact Nat.le_refl _)]; rfl
      clear HLA
      go_wp2
      go_ret
      refine ⟨?_, rfl⟩
      rw [HF.out]; rfl
set_option maxRecDepth 100000 in
set_option maxHeartbeats 1000000 in
theorem behind_calls (a : Option Addr) (c p : Nat) (L : List (Nat × List UInt8)) (w : World) (hL : CmdsD w a L) (hp : p < L.length) (hp2 : L[p].1 = 123) :
    Calls Try.prog 18 #[.slice a L.length c, .int .i64 p] w fun e w' => BehPost (clo (L.drop (p + 1)) 1) w e w' := by
  have hsm := hL.small
  obtain ⟨n, hn⟩ : ∃ n, L.length = n := ⟨_, rfl⟩
  have HN : Hid (L.length = n) := hn
  have HP : Hid (L[p].1 = 123) := hp2
  have hpn : p < n := by omega
  rw [hn] at hsm ⊢
  clear hn hp2
  have HC : Hid (∀ i (h : i < L.length), ∃ g, a = some ⟨g, 0, none⟩ ∧ g < w.heap.size ∧ w.cell? ⟨g, i * 23 + 11, none⟩ = some (.int .u8 L[i].1) ∧ L[i].1 < 256 ∧ ∃ t : ByteArray, w.cell? ⟨g, i * 23 + 13, none⟩ = some (.string t) ∧ t.data.toList = L[i].2) := hL.cells
  clear hL
  obtain ⟨R, hR⟩ : ∃ R, clo (L.drop (p + 1)) 1 = R := ⟨_, rfl⟩
  rw [hR]
  have HR : Hid (clo (L.drop (p + 1)) 1 = R) := hR
  clear hR
  go_enter Try.func18, Try.ntmps18
  go_wp2
  go_loop [5, 6] (fun v5 v6 => ∃ i d : Nat, i ≤ n ∧ v6 = .int .i64 i ∧ v5 = .int .i64 d ∧ d ≤ i ∧ Hid ((i = p ∧ d = 0) ∨ (p < i ∧ 1 ≤ d ∧ clo (L.drop i) d = R))) (fun _ v6 => n - (intOf v6).toNat)
  case atStart => exact ⟨p, 0, by omega, rfl, rfl, by omega, .inl ⟨rfl, rfl⟩⟩
  case round =>
    obtain ⟨i, d, hi, rfl, rfl, hdi, HS⟩ := hrel
    by_cases hlt : i < n
    · have hlt1 : (i : Int) < (n : Int) := by omega
      have h0 : (0 : Int) ≤ (i : Int) := by omega
      have hiL : i < L.length := by rw [HN.out]; exact hlt
      obtain ⟨g, rfl, hg, c11, hnm, t, c13, ht⟩ := HC.out i hiL
      have HD : Hid (L.drop i = L[i] :: L.drop (i + 1)) := by show _ = _; exact List.drop_eq_getElem_cons hiL
      obtain ⟨nm, hnm2⟩ : ∃ x, L[i].1 = x := ⟨_, rfl⟩
      rw [hnm2] at c11 hnm
      have HST : Hid (1 ≤ d → clo (L.drop i) d = R → (if nm = 123 then clo (L.drop (i + 1)) (d + 1) else if nm = 125 then (if d = 1 then true else clo (L.drop (i + 1)) (d - 1)) else clo (L.drop (i + 1)) d) = R) := fun _ h => by
        rw [HD.out, clo_cons, hnm2] at h
        exact h
      have HP0 : Hid (i = p → nm = 123) := fun h => by rw [← hnm2]; subst h; exact HP.out
      clear ht c13 hnm2
      by_cases h123 : nm = 123
      · have h1231 : ((nm : Int) == 123) = true := by simp [h123]
        have h1251 : ((nm : Int) == 125) = false := by simp [h123]
        have h3 : ((d : Int) + 1 == 0) = false := by simp; omega
        have HS2 : Hid (p < i + 1 ∧ 1 ≤ d + 1 ∧ clo (L.drop (i + 1)) (d + 1) = R) := by
          rcases HS.out with ⟨rfl, rfl⟩ | ⟨e1, e2, e3⟩
          · exact ⟨by omega, by omega, HR.out⟩
          · have := HST.out e2 e3
            rw [if_pos h123] at this
            exact ⟨by omega, by omega, this⟩
        clear h123 HS HST HP0
        go_wp2
        go_round
        case rel => exact ⟨i + 1, d + 1, by omega, by go_num, by go_num, by omega, .inr HS2.out⟩
        case measure => first | (simp [intOf]; done) | (simp [intOf]; omega)
      · have h1231 : ((nm : Int) == 123) = false := by simp; omega
        have HS1 : Hid (p < i ∧ 1 ≤ d ∧ clo (L.drop i) d = R) := by
          rcases HS.out with ⟨e, _⟩ | h
          · exact absurd (HP0.out e) h123
          · exact h
        by_cases h125 : nm = 125
        · have h1251 : ((nm : Int) == 125) = true := by simp [h125]
          by_cases hd1 : d = 1
          · have HR2 : Hid (R = true) := by
              have := HST.out HS1.out.2.1 HS1.out.2.2
              rw [if_neg h123, if_pos h125, if_pos hd1] at this
              exact this.symm
            subst hd1
            clear h123 h125 HS HST HP0 HS1
            go_wp2
            go_ret
            exact ⟨⟨_, rfl, fun _ => by omega, fun h => by rw [HR2.out] at h; cases h⟩, rfl⟩
          · have HS2 : Hid (p < i + 1 ∧ 1 ≤ d - 1 ∧ clo (L.drop (i + 1)) (d - 1) = R) := by
              have := HST.out HS1.out.2.1 HS1.out.2.2
              rw [if_neg h123, if_pos h125, if_neg hd1] at this
              exact ⟨by have := HS1.out.1; omega, by have := HS1.out.2.1; omega, this⟩
            obtain ⟨d', rfl⟩ : ∃ d', d = d' + 2 := ⟨d - 2, by have := HS1.out.2.1; omega⟩
            have e9 : ((d' + 2 : Nat) : Int) - 1 = ((d' + 1 : Nat) : Int) := by omega
            have h3 : (((d' + 1 : Nat) : Int) == 0) = false := by simp; omega
            clear h123 h125 HS HST HP0 HS1 hd1
            go_wp2
            go_round
            case rel => exact ⟨i + 1, d' + 1, by omega, by go_num, by first | go_num | (congr 1; omega) | (simp; omega), by omega, .inr HS2.out⟩
            case measure => first | (simp [intOf]; done) | (simp [intOf]; omega)
        · have h1251 : ((nm : Int) == 125) = false := by simp; omega
          have HS2 : Hid (p < i + 1 ∧ 1 ≤ d ∧ clo (L.drop (i + 1)) d = R) := by
            have := HST.out HS1.out.2.1 HS1.out.2.2
            rw [if_neg h123, if_neg h125] at this
            exact ⟨by have := HS1.out.1; omega, HS1.out.2.1, this⟩
          have h3 : ((d : Int) == 0) = false := by have := HS1.out.2.1; simp; omega
          clear h123 h125 HS HST HP0 HS1
          go_wp2
          go_round
          case rel => exact ⟨i + 1, d, by omega, by go_num, rfl, by omega, .inr HS2.out⟩
          case measure => first | (simp [intOf]; done) | (simp [intOf]; omega)
    · obtain rfl : i = n := by omega
      have HR2 : Hid (R = false) := by
        show _ = _
        rcases HS.out with ⟨e, _⟩ | ⟨_, _, h⟩
        · omega
        · rw [List.drop_of_length_le (by rw [HN.out]; exact Nat.le_refl _)] at h
          exact h.symm
      clear HS
      go_wp2
      go_ret
      exact ⟨⟨-1, rfl, fun h => (by rw [HR2.out] at h; cases h), fun _ => rfl⟩, rfl⟩
end Go.Proofs.Ytlppphmnegdhoab

/-
  The document's scripts: linked.
-/
namespace Go.Proofs.Ytlppphmnegdhoab
set_option linter.unusedVariables false
set_option maxRecDepth 100000
open Go.RowKit
open M

theorem brkD_cons (x : Nat × List UInt8) (t : List (Nat × List UInt8)) (d : Nat) : brkD (x :: t) d = if x.1 = 123 then clo t 1 && brkD t (d + 1) else if x.1 = 125 then (if d = 0 then false else brkD t (d - 1)) else brkD t d := by
  obtain ⟨n, s⟩ := x
  rw [brkD]
/-- a command's label is as it must be -/
def labI1 (L : List (Nat × List UInt8)) (i : Nat) (h : i < L.length) : Prop := (L[i].1 = 58 → labAt L L[i].2 = some (i + 1)) ∧ (L[i].1 = 98 ∨ L[i].1 = 116 → L[i].2 ≠ [] → labAt L L[i].2 ≠ none)
theorem linked_iff (L : List (Nat × List UInt8)) : Linked L ↔ brkD L 0 = true ∧ ∀ i (h : i < L.length), labI1 L i h := by
  unfold Linked
  rw [brk_same]
  simp only [beq_self_eq_true, Bool.true_or, Bool.and_true]
  rfl
def LkPost (L : List (Nat × List UInt8)) (w : World) (e : Ending) (w' : World) : Prop := (∃ r : Bool, e = .returned (.bool r) ∧ (r = true ↔ Linked L)) ∧ w' = w
theorem labI_lt (o : Option Nat) : labI o < 0 ↔ o = none := by
  cases o with
  | none => simp [labI]
  | some r => simp [labI]
theorem labI_eq (o : Option Nat) (i : Nat) : labI o = (i : Int) + 1 ↔ o = some (i + 1) := by
  cases o with
  | none => simp [labI]; omega
  | some r => simp [labI]; omega
set_option maxRecDepth 100000 in
set_option maxHeartbeats 2000000 in
theorem linked_calls (a : Option Addr) (c : Nat) (L : List (Nat × List UInt8)) (w : World) (hL : CmdsD w a L) :
    Calls Try.prog 11 #[.slice a L.length c] w fun e w' => LkPost L w e w' := by
  have hsm := hL.small
  obtain ⟨n, hn⟩ : ∃ n, L.length = n := ⟨_, rfl⟩
  have HN : Hid (L.length = n) := hn
  have HL : Hid (CmdsD w a L) := hL
  rw [hn] at hsm ⊢
  clear hn
  have HC : Hid (∀ i (h : i < L.length), ∃ g, a = some ⟨g, 0, none⟩ ∧ g < w.heap.size ∧ w.cell? ⟨g, i * 23 + 11, none⟩ = some (.int .u8 L[i].1) ∧ L[i].1 < 256 ∧ ∃ t : ByteArray, w.cell? ⟨g, i * 23 + 13, none⟩ = some (.string t) ∧ t.data.toList = L[i].2) := hL.cells
  clear hL
  go_enter Try.func11, Try.ntmps11
  go_wp2
  go_loop [3, 4] (fun v3 v4 => ∃ i d : Nat, i ≤ n ∧ d ≤ i ∧ v4 = .int .i64 i ∧ v3 = .int .i64 d ∧ Hid (brkD L 0 = brkD (L.drop i) d) ∧ Hid (∀ j (h : j < L.length), j < i → labI1 L j h)) (fun _ v4 => n - (intOf v4).toNat)
  case atStart => exact ⟨0, 0, Nat.zero_le _, Nat.zero_le _, rfl, rfl, by show _ = _; rw [List.drop_zero], fun _ _ h => by omega⟩
  case round =>
    obtain ⟨i, d, hi, hdi, rfl, rfl, HB, HJ⟩ := hrel
    by_cases hlt : i < n
    · have hlt1 : (i : Int) < (n : Int) := by omega
      have h0 : (0 : Int) ≤ (i : Int) := by omega
      have hiL : i < L.length := by rw [HN.out]; exact hlt
      obtain ⟨g, rfl, hg, c11, hnm, t, c13, ht⟩ := HC.out i hiL
      obtain ⟨nm, hnm2⟩ : ∃ x, L[i].1 = x := ⟨_, rfl⟩
      rw [hnm2] at c11 hnm
      have HB2 : Hid (brkD L 0 = if nm = 123 then clo (L.drop (i + 1)) 1 && brkD (L.drop (i + 1)) (d + 1) else if nm = 125 then (if d = 0 then false else brkD (L.drop (i + 1)) (d - 1)) else brkD (L.drop (i + 1)) d) := by
        show _ = _
        rw [HB.out, List.drop_eq_getElem_cons hiL, brkD_cons, hnm2]
      have HT : Hid (t.data.toList = L[i].2) := ht
      have HNM : Hid (L[i].1 = nm) := hnm2
      have HJ2 : Hid (labI1 L i hiL → ∀ j (h : j < L.length), j < i + 1 → labI1 L j h) := fun hl j h hj => by
        by_cases e : j = i
        · subst e; exact hl
        · exact HJ.out j h (by omega)
      have HNO : Hid (¬ labI1 L i hiL → ¬ Linked L) := fun h hk => h (((linked_iff L).1 hk).2 i hiL)
      have HNB : Hid (brkD L 0 = false → ¬ Linked L) := fun h hk => by rw [((linked_iff L).1 hk).1] at h; cases h
      clear ht hnm2 HB HJ
      by_cases h123 : nm = 123
      · have h1231 : ((nm : Int) == 123) = true := by simp [h123]
        have HB3 : Hid (brkD L 0 = (clo (L.drop (i + 1)) 1 && brkD (L.drop (i + 1)) (d + 1))) := by show _ = _; rw [HB2.out, if_pos h123]
        have HL1 : Hid (labI1 L i hiL) := ⟨fun h => by have := HNM.out; omega, fun h => by have := HNM.out; omega⟩
        have HP : Hid (L[i].1 = 123) := by show _ = _; rw [HNM.out]; exact h123
        clear h123 HB2
        go_wp2_with fail
        have HCB := behind_calls _ c i L w HL.out hiL HP.out
        rw [HN.out] at HCB
        refine HCB.mono ?_
        clear HCB
        rintro e w2 ⟨⟨r, rfl, hr1, hr2⟩, rfl⟩
        cases hcl : clo (L.drop (i + 1)) 1
        · have hr := hr2 hcl
          subst hr
          have HF : Hid (¬ Linked L) := HNB.out (by rw [HB3.out, hcl]; rfl)
          clear hr1 hr2 hcl
          go_wp2
          go_ret
          exact ⟨⟨false, rfl, ⟨fun h => Bool.noConfusion h, fun h => absurd h HF.out⟩⟩, rfl⟩
        · have hr := hr1 hcl
          have hr3 : ¬ r < 0 := by omega
          have HB4 : Hid (brkD L 0 = brkD (L.drop (i + 1)) (d + 1)) := by show _ = _; rw [HB3.out, hcl]; rfl
          clear hr1 hr2 hcl HB3
          go_wp2
          go_round
          case rel => exact ⟨i + 1, d + 1, by omega, by omega, by go_num, by go_num, HB4.out, HJ2.out HL1.out⟩
          case measure => first | (simp [intOf]; done) | (simp [intOf]; omega)
      have h1231 : ((nm : Int) == 123) = false := by simp; omega
      by_cases h125 : nm = 125
      · have h1251 : ((nm : Int) == 125) = true := by simp [h125]
        have HL1 : Hid (labI1 L i hiL) := ⟨fun h => by have := HNM.out; omega, fun h => by have := HNM.out; omega⟩
        by_cases hd : d = 0
        · have HF : Hid (¬ Linked L) := HNB.out (by rw [HB2.out, if_neg h123, if_pos h125, if_pos hd])
          subst hd
          clear h123 h125 HB2
          go_wp2
          go_ret
          exact ⟨⟨false, rfl, ⟨fun h => Bool.noConfusion h, fun h => absurd h HF.out⟩⟩, rfl⟩
        · have HB4 : Hid (brkD L 0 = brkD (L.drop (i + 1)) (d - 1)) := by show _ = _; rw [HB2.out, if_neg h123, if_pos h125, if_neg hd]
          obtain ⟨d', rfl⟩ : ∃ d', d = d' + 1 := ⟨d - 1, by omega⟩
          have hd3 : ¬ (d' : Int) < 0 := by omega
          clear h123 h125 HB2 hd
          go_wp2
          go_round
          case rel => exact ⟨i + 1, d', by omega, by omega, by go_num, by first | go_num | (congr 1; omega) | (simp; omega), HB4.out, HJ2.out HL1.out⟩
          case measure => first | (simp [intOf]; done) | (simp [intOf]; omega)
      have h1251 : ((nm : Int) == 125) = false := by simp; omega
      have HB4 : Hid (brkD L 0 = brkD (L.drop (i + 1)) d) := by show _ = _; rw [HB2.out, if_neg h123, if_neg h125]
      clear HB2
      by_cases h58 : nm = 58
      · have h581 : ((nm : Int) == 58) = true := by simp [h58]
        have HLE : Hid (labI1 L i hiL ↔ labAt L t.data.toList = some (i + 1)) := by
          rw [HT.out]
          refine ⟨fun h => h.1 (by rw [HNM.out]; exact h58), fun h => ⟨fun _ => h, fun h2 => by have := HNM.out; omega⟩⟩
        clear h58 h123 h125
        go_wp2_with fail
        have HCL := label_calls _ c L t w HL.out
        rw [HN.out] at HCL
        refine HCL.mono ?_
        clear HCL
        rintro e w2 ⟨rfl, rfl⟩
        have HQ := labI_eq (labAt L t.data.toList) i
        generalize labI (labAt L t.data.toList) = r at *
        by_cases hr : r = (i : Int) + 1
        · have hr1 : (r != (i : Int) + 1) = false := by simp [hr]
          have HL1 : Hid (labI1 L i hiL) := HLE.out.2 (HQ.1 hr)
          clear hr HQ HLE
          go_wp2
          go_round
          case rel => exact ⟨i + 1, d, by omega, by omega, by go_num, rfl, HB4.out, HJ2.out HL1.out⟩
          case measure => first | (simp [intOf]; done) | (simp [intOf]; omega)
        · have hr1 : (r != (i : Int) + 1) = true := by simp; omega
          have HF : Hid (¬ Linked L) := HNO.out (fun h => hr (HQ.2 (HLE.out.1 h)))
          clear hr HQ HLE
          go_wp2
          go_ret
          exact ⟨⟨false, rfl, ⟨fun h => Bool.noConfusion h, fun h => absurd h HF.out⟩⟩, rfl⟩
      have h581 : ((nm : Int) == 58) = false := by simp; omega
      by_cases hbt : nm = 98 ∨ nm = 116
      · have HLE : Hid (labI1 L i hiL ↔ (t.data.toList ≠ [] → labAt L t.data.toList ≠ none)) := by
          rw [HT.out]
          refine ⟨fun h => h.2 (by rw [HNM.out]; exact hbt), fun h => ⟨fun h2 => by have := HNM.out; omega, fun _ => h⟩⟩
        have hor : (((nm : Int) == 98) = true) ∨ (((nm : Int) == 98) = false ∧ ((nm : Int) == 116) = true) := by
          rcases hbt with h | h
          · exact .inl (by simp [h])
          · exact .inr (by simp [h])
        clear hbt h58 h123 h125
        cases hte : t.toList.isEmpty
        · have HTE : Hid (t.data.toList ≠ []) := fun h => by rw [ByteArray.toList_eq, h] at hte; cases hte
          rcases hor with ho | ⟨ho1, ho2⟩
          · go_wp2_with fail
            have HCL := label_calls _ c L t w HL.out
            rw [HN.out] at HCL
            refine HCL.mono ?_
            clear HCL
            rintro e w2 ⟨rfl, rfl⟩
            have HQ := labI_lt (labAt L t.data.toList)
            generalize labI (labAt L t.data.toList) = r at *
            by_cases hr : r < 0
            · have HF : Hid (¬ Linked L) := HNO.out (fun h => HLE.out.1 h HTE.out (HQ.1 hr))
              clear HQ HLE
              go_wp2
              go_ret
              exact ⟨⟨false, rfl, ⟨fun h => Bool.noConfusion h, fun h => absurd h HF.out⟩⟩, rfl⟩
            · have HL1 : Hid (labI1 L i hiL) := HLE.out.2 (fun _ h => hr (HQ.2 h))
              clear HQ HLE
              go_wp2
              go_round
              case rel => exact ⟨i + 1, d, by omega, by omega, by go_num, rfl, HB4.out, HJ2.out HL1.out⟩
              case measure => first | (simp [intOf]; done) | (simp [intOf]; omega)
          · go_wp2_with fail
            have HCL := label_calls _ c L t w HL.out
            rw [HN.out] at HCL
            refine HCL.mono ?_
            clear HCL
            rintro e w2 ⟨rfl, rfl⟩
            have HQ := labI_lt (labAt L t.data.toList)
            generalize labI (labAt L t.data.toList) = r at *
            by_cases hr : r < 0
            · have HF : Hid (¬ Linked L) := HNO.out (fun h => HLE.out.1 h HTE.out (HQ.1 hr))
              clear HQ HLE
              go_wp2
              go_ret
              exact ⟨⟨false, rfl, ⟨fun h => Bool.noConfusion h, fun h => absurd h HF.out⟩⟩, rfl⟩
            · have HL1 : Hid (labI1 L i hiL) := HLE.out.2 (fun _ h => hr (HQ.2 h))
              clear HQ HLE
              go_wp2
              go_round
              case rel => exact ⟨i + 1, d, by omega, by omega, by go_num, rfl, HB4.out, HJ2.out HL1.out⟩
              case measure => first | (simp [intOf]; done) | (simp [intOf]; omega)
        · have HL1 : Hid (labI1 L i hiL) := HLE.out.2 (fun h => absurd (by rw [ByteArray.toList_eq, List.isEmpty_iff] at hte; exact hte) h)
          clear HLE
          rcases hor with ho | ⟨ho1, ho2⟩
          · go_wp2
            go_round
            case rel => exact ⟨i + 1, d, by omega, by omega, by go_num, rfl, HB4.out, HJ2.out HL1.out⟩
            case measure => first | (simp [intOf]; done) | (simp [intOf]; omega)
          · go_wp2
            go_round
            case rel => exact ⟨i + 1, d, by omega, by omega, by go_num, rfl, HB4.out, HJ2.out HL1.out⟩
            case measure => first | (simp [intOf]; done) | (simp [intOf]; omega)
      have h98 : ((nm : Int) == 98) = false := by simp; omega
      have h116 : ((nm : Int) == 116) = false := by simp; omega
      have HL1 : Hid (labI1 L i hiL) := ⟨fun h => by have := HNM.out; omega, fun h => by have := HNM.out; omega⟩
      clear hbt h58 h123 h125
      go_wp2
      go_round
      case rel => exact ⟨i + 1, d, by omega, by omega, by go_num, rfl, HB4.out, HJ2.out HL1.out⟩
      case measure => first | (simp [intOf]; done) | (simp [intOf]; omega)
    · obtain rfl : i = n := by omega
      have HF : Hid (Linked L) := (linked_iff L).2 ⟨by rw [HB.out, List.drop_of_length_le (by rw [HN.out]; exact Nat.le_refl _)]; rfl, fun j h => HJ.out j h (by rw [HN.out] at h; exact h)⟩
      clear HB HJ
      go_wp2
      go_ret
      exact ⟨⟨true, rfl, ⟨fun _ => HF.out, fun _ => rfl⟩⟩, rfl⟩
end Go.Proofs.Ytlppphmnegdhoab

/-
  Rows of values of many cells: one more at the end.
-/
namespace Go.Proofs.Ytlppphmnegdhoab
set_option linter.unusedVariables false
set_option maxRecDepth 100000
open Go.RowKit
open M

theorem gb_fill (N : Nat) (hN : 0 < N) (vs : List Value) (hl : vs.length = N) (Z : Array Value) (hZ : Z.size = N) : Instr.fill (fun i => some (i * N, N)) Z [(0, .agg vs.toArray)] = some vs.toArray := by
  have hc : (Value.agg vs.toArray).cells = vs.toArray := rfl
  have hcs : (Value.agg vs.toArray).cells.size = N := by rw [hc, List.size_toArray]; exact hl
  obtain ⟨r, h1, h2, h3⟩ := Great.fill_dense (s := N) hN [.agg vs.toArray] 0 Z (fun v hv => by simp at hv; rw [hv]; exact hcs) (by rw [hZ]; simp)
  have h1' : Instr.fill (fun i => some (i * N, N)) Z [(0, .agg vs.toArray)] = some r := h1
  rw [h1']
  congr 1
  apply Array.ext_getElem?
  intro k
  rw [h3 k]
  by_cases hk : k < N
  · rw [if_pos (by simp; omega)]
    have e1 : k / N = 0 := Nat.div_eq_of_lt hk
    have e2 : k % N = k := Nat.mod_eq_of_lt hk
    rw [e1, e2]
    show (Value.agg vs.toArray).cells[k]? = _
    rw [hc]
  · rw [if_neg (by simp; omega)]
    rw [Array.getElem?_eq_none (by omega), Array.getElem?_eq_none (by rw [List.size_toArray]; omega)]
/-- what is known of a row's element type -/
structure ElT (TS T : TypeId) (N by' : Nat) (z : Value) : Prop where
  und : Try.prog.underlying TS = some (.slice T)
  info : (Try.prog.info? T).map (fun i => (i.zero, i.size, i.bytes)) = some (some z, N, by')
  zc : z.cells.size = N
  pos : 0 < N
  few : N ≤ 65536
  byt : by' ≤ 65536
theorem gb_build {ops : Array Oper} {rest : List Oper} {op : Oper} {a : Act} {w : World} {Q : Exit → Act → World → Prop} {TS T : TypeId} {N by' : Nat} {z : Value} (hE : ElT TS T N by' z) (hgd : op.guard = none) (x : Operand) (ho : op.op = .buildSlice TS 1 #[(0, x)]) (vs : List Value) (hx : a.eval x = .agg vs.toArray) (hl : vs.length = N)
    (h : wpList Try.prog ops Q rest (a.put op.dst (.slice (some ⟨w.heap.size, 0, none⟩) 1 1)) (w.alloc (.cells vs.toArray T))) : wpList Try.prog ops Q (op :: rest) a w := by
  obtain ⟨i0, hi, hz0, hz1, hz2⟩ := info_parts hE.info
  have hp := hE.pos
  have hf := hE.few
  refine wpList_buildSlice hgd _ _ 1 _ ho vs.toArray i0 _ hE.und hi hz0 (by rw [hz1]; omega) (by rw [hz1]; omega) ?_ h
  rw [hz1]
  have e : (#[((0 : Nat), x)].map fun (p : Nat × Operand) => (p.1, a.eval p.2)).toList = [(0, .agg vs.toArray)] := by simp [hx]
  have e' : (#[((0 : Nat), x)].map fun ((i, x) : Nat × Operand) => (i, a.eval x)).toList = [(0, .agg vs.toArray)] := e
  rw [e']
  exact gb_fill N hp vs hl _ (by simp)
theorem gb_append {ops : Array Oper} {rest : List Oper} {o : Oper} {a : Act} {w : World} {Q : Exit → Act → World → Prop} {TS T : TypeId} {N by' : Nat} {z : Value} (hE : ElT TS T N by' z) {B : Nat} {v : Value} {n : Nat} {xs : List Value} (hown : w.ownsRow B T N v n xs) (g : Nat) (vs : List Value) (hg : w.heap[g]? = some (.cells vs.toArray T)) (hl : vs.length = N) (h1 : ∀ u ∈ vs, u.oneCell' = true) (hn : n ≤ 8192) (hB : B ≤ w.heap.size) (hgd : o.guard = none) (s x : Operand)
    (ho : o.op = .call { callee := .builtin .append, args := #[s, x], argTypes := #[TS, TS] }) (hs : a.eval s = v) (hx : a.eval x = .slice (some ⟨g, 0, none⟩) 1 1)
    (h : ∀ v' w', w'.ownsRow B T N v' (n + 1) (xs ++ vs) → w.grownBy w' v.ownBlock → wpList Try.prog ops Q rest (a.put o.dst v') w') : wpList Try.prog ops Q (o :: rest) a w := by
  obtain ⟨i0, hi, hz0, hz1, hz2⟩ := info_parts hE.info
  have hb := hE.byt
  refine wpList_append_own w hgd s x _ ho B _ i0 _ N by' hE.und hi hz0 hz1 hz2 hE.zc hE.pos v n xs hs hown ⟨g, 0, none⟩ 1 1 vs hx (by rw [hl]; omega) ?_ h1 (by unfold maxLen; omega) ?_ hB (fun v' w' h1 h2 _ => h v' w' h1 h2)
  · intro j u hu
    rw [Addr.add_mid, cell_of_row _ _ _ _ _ _ hg]
    simpa using hu
  · exact Nat.le_trans (Nat.mul_le_mul (show n + 1 ≤ 8193 by omega) hb) (by decide)
end Go.Proofs.Ytlppphmnegdhoab

/-
  The document's scripts: lines.
-/
namespace Go.Proofs.Ytlppphmnegdhoab
set_option linter.unusedVariables false
set_option maxRecDepth 100000
open Go.RowKit
open M

theorem elStr : ElT 36 9 1 16 (.string ⟨#[]⟩) := ⟨by kernel_rfl, by kernel_rfl, rfl, by decide, by decide, by decide⟩
def strsC (T : List ByteArray) : List Value := T.map .string
/-- a text's lines, as they are held -/
def LnOk (s : ByteArray) (T : List ByteArray) : Prop := ∀ t ∈ T, t.size ≤ s.size ∧ t.data.toList ≠ [] ∧ ∀ c ∈ t.data.toList, c.toNat ≠ 10
def LinPost (s : ByteArray) (w : World) (e : Ending) (w' : World) : Prop :=
  Below w.heap.size w w' ∧ ∃ (T : List ByteArray) (a : Option Addr) (c : Nat), e = .returned (.slice a T.length c) ∧ linesM [] s.data.toList = T.map (fun t => t.data.toList) ∧ w'.ownsRow w.heap.size 9 1 (.slice a T.length c) T.length (strsC T) ∧ LnOk s T ∧ T.length ≤ s.size
theorem seg_snoc (l : List UInt8) (f i : Nat) (h : i < l.length) (hf : f ≤ i) : (l.drop f).take (i + 1 - f) = (l.drop f).take (i - f) ++ [l[i]] := by
  have e : i + 1 - f = (i - f) + 1 := by omega
  have hl : i - f < (l.drop f).length := by rw [List.length_drop]; omega
  rw [e, List.take_add_one, List.getElem?_eq_getElem hl, List.getElem_drop]
  simp [show f + (i - f) = i by omega]
theorem ext_seg (s : ByteArray) (f i : Nat) : (s.extract f i).data.toList = (s.data.toList.drop f).take (i - f) := Lib.extract_data s f i
set_option maxRecDepth 100000 in
set_option maxHeartbeats 2000000 in
theorem lines_calls (s : ByteArray) (w : World) (hs : s.size ≤ 400) :
    Calls Try.prog 9 #[.string s] w fun e w' => LinPost s w e w' := by
  have hl := ba_len s
  have HLN : Hid (s.data.toList.length = s.size) := hl
  clear hl
  go_enter Try.func9, Try.ntmps9
  go_wp2
  go_loopw [3, 4, 5] (fun v3 v4 v5 wr => ∃ (f i : Nat) (T : List ByteArray), v4 = .int .i64 f ∧ v5 = .int .i64 i ∧ f ≤ i ∧ i ≤ s.size + 1 ∧ T.length ≤ f ∧ (i ≤ s.size ∨ (f = i ∧ i = s.size + 1)) ∧ T.length ≤ s.size ∧ Hid (LnOk s T) ∧ Hid ((∀ c ∈ (s.data.toList.drop f).take (i - f), c.toNat ≠ 10) ∧ linesM [] s.data.toList = T.map (fun t => t.data.toList) ++ (if i ≤ s.size then linesM ((s.data.toList.drop f).take (i - f)) (s.data.toList.drop i) else [])) ∧ wr.ownsRow w.heap.size 9 1 v3 T.length (strsC T) ∧ Below w.heap.size w wr) (fun _ _ v5 _ => s.size + 1 - (intOf v5).toNat)
  case atStart =>
    refine ⟨0, 0, [], rfl, rfl, Nat.le_refl _, by omega, Nat.zero_le _, .inl (Nat.zero_le _), Nat.zero_le _, fun t h => by simp at h, ⟨fun c h => by simp at h, ?_⟩, World.ownsRow_nil _ _ _ _, Below.refl _ _⟩
    rw [if_pos (Nat.zero_le _)]; simp
  case round =>
    obtain ⟨f, i, T, rfl, rfl, hfi, his, hTf, hor, hTs, HOK, HL, hown, hB⟩ := hrel
    obtain ⟨av, cv, hvv⟩ := own_form hown
    subst hvv
    obtain ⟨nT, hnT⟩ : ∃ n, T.length = n := ⟨_, rfl⟩
    have HNT : Hid (T.length = nT) := hnT
    rw [hnT] at hTf hTs hown ⊢
    clear hnT
    have hwb := hB.size
    by_cases hle : i ≤ s.size
    · have hle1 : (i : Int) ≤ (s.size : Int) := by omega
      have HL2 : Hid (linesM [] s.data.toList = T.map (fun t => t.data.toList) ++ linesM ((s.data.toList.drop f).take (i - f)) (s.data.toList.drop i)) := by
        show _ = _
        have := HL.out.2
        rw [if_pos hle] at this; exact this
      have HNN : Hid (∀ c ∈ (s.data.toList.drop f).take (i - f), c.toNat ≠ 10) := HL.out.1
      have HEX : Hid ((s.extract f i).data.toList = (s.data.toList.drop f).take (i - f)) := ext_seg s f i
      have HXS : Hid ((s.extract f i).size ≤ s.size) := by show _ ≤ _; rw [ByteArray.size_extract]; omega
      clear HL
      by_cases hend : i = s.size ∨ ∃ h : i < s.size, s[i].toNat = 10
      · -- a line ends here
        have hd0 : (f : Int) ≤ (i : Int) := by omega
        have HTAIL : Hid (∀ X : List (List UInt8), linesM ((s.data.toList.drop f).take (i - f)) (s.data.toList.drop i) = (if (s.data.toList.drop f).take (i - f) = [] then [] else [(s.data.toList.drop f).take (i - f)]) ++ (if i + 1 ≤ s.size then linesM ((s.data.toList.drop (i + 1)).take (i + 1 - (i + 1))) (s.data.toList.drop (i + 1)) else [])) := fun _ => by
          rcases hend with rfl | ⟨h, hx⟩
          · rw [if_neg (show ¬ s.size + 1 ≤ s.size by omega), List.drop_of_length_le (show s.data.toList.length ≤ s.size by rw [HLN.out]; exact Nat.le_refl _), linesM, List.append_nil]
          · rw [if_pos (show i + 1 ≤ s.size by omega), get_drop s i h, linesM, if_pos hx, Nat.sub_self, List.take_zero]
            split <;> rfl
        have hcond : ((i : Int) == (s.size : Int)) = true ∨ (((i : Int) == (s.size : Int)) = false ∧ ∃ x : Nat, ∃ h : i < s.size, s[i].toNat = x ∧ x < 256 ∧ ((x : Int) == 10) = true ∧ (i : Int) < (s.size : Int)) := by
          by_cases h : i = s.size
          · exact .inl (by simp [h])
          · rcases hend with e | ⟨h1, h2⟩
            · exact absurd e h
            · exact .inr ⟨by simp; omega, 10, h1, h2, by decide, by decide, by omega⟩
        by_cases hgt : f < i
        · have hgt1 : (f : Int) < (i : Int) := by omega
          have HNE : Hid ((s.data.toList.drop f).take (i - f) ≠ []) := fun e => by
            have := congrArg List.length e
            rw [List.length_take, List.length_drop, HLN.out] at this
            simp at this; omega
          have HL3 : Hid (linesM [] s.data.toList = (T ++ [s.extract f i]).map (fun t => t.data.toList) ++ (if i + 1 ≤ s.size then linesM ((s.data.toList.drop (i + 1)).take (i + 1 - (i + 1))) (s.data.toList.drop (i + 1)) else [])) := by
            show _ = _
            rw [HL2.out, HTAIL.out [], if_neg HNE.out, List.map_append, List.append_assoc]
            simp
          have HOK2 : Hid (LnOk s (T ++ [s.extract f i])) := fun t ht => by
            rcases List.mem_append.1 ht with ht | ht
            · exact HOK.out t ht
            · simp at ht; subst ht
              exact ⟨HXS.out, by rw [HEX.out]; exact HNE.out, by rw [HEX.out]; exact HNN.out⟩
          clear HTAIL HL2 HOK hend HNN
          rcases hcond with hc1 | ⟨hc1, x, hix, hx, hxc, hx10, hi3⟩
          · go_wp2_with (refine gb_append elStr (hown.alloc _) wr.heap.size [.string (s.extract f i)] (heap_alloc_new wr _) rfl (by simp [Value.oneCell']) (by omega) (by simp; omega) rfl _ _ rfl rfl rfl ?_
                         intro v' w3 hown3 hgrow3
                         have hB3 : Below w.heap.size w w3 := (hB.alloc hwb _).grown hgrow3 (by simp; omega) (fun k hk => (hown.lt k hk).1)
                         obtain ⟨av', cv', hvv⟩ := own_form hown3
                         subst hvv
                         clear hgrow3)
            go_roundw
            case rel =>
              refine ⟨i + 1, i + 1, T ++ [s.extract f i], by go_num, by go_num, Nat.le_refl _, by omega, by rw [List.length_append, HNT.out]; simp; omega, by omega, by rw [List.length_append, HNT.out]; simp; omega, HOK2.out, ⟨fun c h => by simp at h, HL3.out⟩, ?_, hB3⟩
              have e9 : strsC (T ++ [s.extract f i]) = strsC T ++ [.string (s.extract f i)] := by simp [strsC]
              rw [List.length_append, HNT.out, e9]; exact hown3
            case measure => first | (simp [intOf]; done) | (simp [intOf]; omega)
          · go_wp2_with (refine gb_append elStr (hown.alloc _) wr.heap.size [.string (s.extract f i)] (heap_alloc_new wr _) rfl (by simp [Value.oneCell']) (by omega) (by simp; omega) rfl _ _ rfl rfl rfl ?_
                         intro v' w3 hown3 hgrow3
                         have hB3 : Below w.heap.size w w3 := (hB.alloc hwb _).grown hgrow3 (by simp; omega) (fun k hk => (hown.lt k hk).1)
                         obtain ⟨av', cv', hvv⟩ := own_form hown3
                         subst hvv
                         clear hgrow3)
            go_roundw
            case rel =>
              refine ⟨i + 1, i + 1, T ++ [s.extract f i], by go_num, by go_num, Nat.le_refl _, by omega, by rw [List.length_append, HNT.out]; simp; omega, by omega, by rw [List.length_append, HNT.out]; simp; omega, HOK2.out, ⟨fun c h => by simp at h, HL3.out⟩, ?_, hB3⟩
              have e9 : strsC (T ++ [s.extract f i]) = strsC T ++ [.string (s.extract f i)] := by simp [strsC]
              rw [List.length_append, HNT.out, e9]; exact hown3
            case measure => first | (simp [intOf]; done) | (simp [intOf]; omega)
        · obtain rfl : f = i := by omega
          have hgt1 : ¬ (f : Int) < (f : Int) := by omega
          have HL3 : Hid (linesM [] s.data.toList = T.map (fun t => t.data.toList) ++ (if f + 1 ≤ s.size then linesM ((s.data.toList.drop (f + 1)).take (f + 1 - (f + 1))) (s.data.toList.drop (f + 1)) else [])) := by
            show _ = _
            rw [HL2.out, HTAIL.out [], if_pos (by rw [Nat.sub_self]; rfl)]; rfl
          clear HTAIL HL2 hend HNN
          rcases hcond with hc1 | ⟨hc1, x, hix, hx, hxc, hx10, hi3⟩
          · go_wp2
            go_roundw
            case rel => exact ⟨f + 1, f + 1, T, by go_num, by go_num, Nat.le_refl _, by omega, by rw [HNT.out]; omega, by omega, by rw [HNT.out]; omega, HOK.out, ⟨fun c h => by simp at h, HL3.out⟩, by rw [HNT.out]; exact hown, hB⟩
            case measure => first | (simp [intOf]; done) | (simp [intOf]; omega)
          · go_wp2
            go_roundw
            case rel => exact ⟨f + 1, f + 1, T, by go_num, by go_num, Nat.le_refl _, by omega, by rw [HNT.out]; omega, by omega, by rw [HNT.out]; omega, HOK.out, ⟨fun c h => by simp at h, HL3.out⟩, by rw [HNT.out]; exact hown, hB⟩
            case measure => first | (simp [intOf]; done) | (simp [intOf]; omega)
      · have hlt : i < s.size := by
          refine Nat.lt_of_le_of_ne hle (fun e => hend (.inl e))
        have hlt1 : (i : Int) < (s.size : Int) := by omega
        have hc1 : ((i : Int) == (s.size : Int)) = false := by simp; omega
        obtain ⟨x, hx⟩ : ∃ x : Nat, s[i].toNat = x := ⟨_, rfl⟩
        have hxc : x < 256 := by rw [← hx]; exact s[i].toNat_lt
        have hx9 : x ≠ 10 := fun e => hend (.inr ⟨hlt, by rw [hx]; exact e⟩)
        have hx10 : ((x : Int) == 10) = false := by simp; omega
        have hlL : i < s.data.toList.length := by rw [HLN.out]; exact hlt
        have hgi : s.data.toList[i] = s[i] := rfl
        have HL3 : Hid (linesM [] s.data.toList = T.map (fun t => t.data.toList) ++ (if i + 1 ≤ s.size then linesM ((s.data.toList.drop f).take (i + 1 - f)) (s.data.toList.drop (i + 1)) else [])) := by
          show _ = _
          rw [HL2.out, if_pos (show i + 1 ≤ s.size by omega), get_drop s i hlt, linesM, if_neg (by rw [hx]; exact hx9), seg_snoc s.data.toList f i hlL hfi, hgi]
        have HNN2 : Hid (∀ c ∈ (s.data.toList.drop f).take (i + 1 - f), c.toNat ≠ 10) := fun c hc => by
          rw [seg_snoc s.data.toList f i hlL hfi] at hc
          rcases List.mem_append.1 hc with hc | hc
          · exact HNN.out c hc
          · rw [List.mem_singleton] at hc; rw [hc, hgi, hx]; exact hx9
        clear HL2 hend HNN hx9 hgi hlL
        go_wp2
        go_roundw
        case rel => exact ⟨f, i + 1, T, rfl, by go_num, by omega, by omega, by rw [HNT.out]; exact hTf, .inl (by omega), by rw [HNT.out]; omega, HOK.out, ⟨HNN2.out, HL3.out⟩, by rw [HNT.out]; exact hown, hB⟩
        case measure => first | (simp [intOf]; done) | (simp [intOf]; omega)
    · obtain rfl : i = s.size + 1 := by omega
      have hle1 : ¬ ((s.size : Int) + 1) ≤ (s.size : Int) := by omega
      have HL3 : Hid (linesM [] s.data.toList = T.map (fun t => t.data.toList)) := by
        show _ = _
        have := HL.out.2
        rw [if_neg hle, List.append_nil] at this; exact this
      clear HL
      go_wp2
      go_ret
      exact ⟨hB, T, av, cv, by rw [HNT.out]; rfl, HL3.out, by rw [HNT.out]; exact hown, HOK.out, by rw [HNT.out]; exact hTs⟩
end Go.Proofs.Ytlppphmnegdhoab
