import Derived.Test.YtlppphmnegdhoabMg16
import Derived.Test.YtlppphmnegdhoabMg18
/-
  The program's scripts: lineEnd, behindLabel.
-/
namespace Go.Proofs.Ytlppphmnegdhoab
set_option linter.unusedVariables false
set_option maxRecDepth 100000
open Go.RowKit
open M

/-- where the line from k on ends -/
def LeAt (s : ByteArray) (k n : Nat) : Prop := k ≤ n ∧ n ≤ s.size ∧ (∀ i (h : i < s.size), k ≤ i → i < n → s[i].toNat ≠ 10) ∧ (n = s.size ∨ ∃ h : n < s.size, s[n].toNat = 10)
def LePost (s : ByteArray) (k : Nat) (w : World) (e : Ending) (w' : World) : Prop := (∃ n : Nat, e = .returned (.int .i64 n) ∧ LeAt s k n) ∧ w' = w
set_option maxRecDepth 100000 in
theorem lineEnd_calls (s : ByteArray) (k : Nat) (w : World) (hs : s.size ≤ 400) (hk : k ≤ s.size) :
    Calls Try.prog 12 #[.string s, .int .i64 k] w fun e w' => LePost s k w e w' := by
  have hsm : s.size ≤ maxLen := by unfold maxLen; omega
  go_enter Try.func12, Try.ntmps12
  go_wp2_with fail
  go_loop [1] (fun v1 => ∃ n : Nat, v1 = .int .i64 n ∧ k ≤ n ∧ n ≤ s.size ∧ Hid (∀ i (h : i < s.size), k ≤ i → i < n → s[i].toNat ≠ 10)) (fun v1 => s.size - (intOf v1).toNat)
  case atStart => exact ⟨k, rfl, Nat.le_refl _, hk, fun i h h1 h2 => by omega⟩
  case round =>
    obtain ⟨n, rfl, hkn, hns, HP⟩ := hrel
    by_cases hlt : n < s.size
    · have hlt1 : (n : Int) < (s.size : Int) := by omega
      go_wp2_with fail
      refine (stands_calls s n 10 _ hsm hns (by decide)).mono ?_
      rintro e wq ⟨rfl, hwq⟩
      rw [hwq]
      clear hwq
      have HE : Hid (stB (s.data.toList.drop n) 10 = (s[n].toNat == 10)) := by show _ = _; rw [get_drop s n hlt]; rfl
      cases hst : stB (s.data.toList.drop n) 10
      · have HP2 : Hid (∀ i (h : i < s.size), k ≤ i → i < n + 1 → s[i].toNat ≠ 10) := fun i h h1 h2 => by
          by_cases e : i = n
          · subst e
            have := HE.out
            rw [hst] at this
            simpa using this.symm
          · exact HP.out i h h1 (by omega)
        clear hst HE HP
        go_wp2
        go_round
        case rel => exact ⟨n + 1, by go_num, by omega, by omega, HP2.out⟩
        case measure => first | (simp [intOf]; done) | (simp [intOf]; omega)
      · have HF : Hid (LeAt s k n) := ⟨hkn, hns, HP.out, .inr ⟨hlt, by have := HE.out; rw [hst] at this; simpa using this.symm⟩⟩
        clear hst HE HP
        go_wp2
        go_ret
        exact ⟨⟨n, rfl, HF.out⟩, rfl⟩
    · have hlt1 : ¬ (n : Int) < (s.size : Int) := by omega
      have HF : Hid (LeAt s k n) := ⟨hkn, hns, HP.out, .inl (by omega)⟩
      clear HP
      go_wp2
      go_ret
      exact ⟨⟨n, rfl, HF.out⟩, rfl⟩
/-- commands in memory: their names and labels; where they lead to may be written -/
structure PRow (w : World) (g : Nat) (L : List (Nat × Nat)) : Prop where
  lt : g < w.heap.size
  nm : ∀ i (h : i < L.length), w.cell? ⟨g, i * 25 + 12, none⟩ = some (.int .u8 L[i].1)
  lb : ∀ i (h : i < L.length), w.cell? ⟨g, i * 25 + 13, none⟩ = some (.int .u8 L[i].2)
  nx : ∀ i (h : i < L.length), ∃ v, w.cell? ⟨g, i * 25 + 14, none⟩ = some v
  fz : ∀ i (h : i < L.length), w.frozen? ⟨g, i * 25 + 14, none⟩ = false
  b1 : ∀ i (h : i < L.length), L[i].1 < 256
  b2 : ∀ i (h : i < L.length), L[i].2 < 256
theorem PRow.keep {w w' : World} {g : Nat} {L : List (Nat × Nat)} (h : PRow w g L) (hk : w'.heap[g]? = w.heap[g]?) (hs : w.heap.size ≤ w'.heap.size) : PRow w' g L := by
  have hc : ∀ o, w'.cell? ⟨g, o, none⟩ = w.cell? ⟨g, o, none⟩ := fun o => World.cell?_of_block hk
  have hf : ∀ o, w'.frozen? ⟨g, o, none⟩ = w.frozen? ⟨g, o, none⟩ := fun o => World.frozen?_of_block hk
  exact ⟨by have := h.lt; omega, fun i hi => (hc _).trans (h.nm i hi), fun i hi => (hc _).trans (h.lb i hi), fun i hi => by obtain ⟨v, hv⟩ := h.nx i hi; exact ⟨v, (hc _).trans hv⟩, fun i hi => (hf _).trans (h.fz i hi), h.b1, h.b2⟩
theorem PRow.set {w : World} {g : Nat} {L : List (Nat × Nat)} (h : PRow w g L) (j : Nat) (hj : j < L.length) (u : Value) : PRow (w.setCell ⟨g, j * 25 + 14, none⟩ u) g L := by
  refine ⟨by simpa using h.lt, fun i hi => ?_, fun i hi => ?_, fun i hi => ?_, fun i hi => by simpa using h.fz i hi, h.b1, h.b2⟩
  · rw [World.cell?_setCell_other _ _ _ _ (fun e => by have := congrArg Addr.off e; simp at this; omega)]; exact h.nm i hi
  · rw [World.cell?_setCell_other _ _ _ _ (fun e => by have := congrArg Addr.off e; simp at this; omega)]; exact h.lb i hi
  · by_cases e : j = i
    · subst e
      obtain ⟨v, hv⟩ := h.nx j hj
      exact ⟨u, World.cell?_setCell_same' _ _ _ (by rw [hv]; rfl)⟩
    · obtain ⟨v, hv⟩ := h.nx i hi
      exact ⟨v, by rw [World.cell?_setCell_other _ _ _ _ (fun e' => by have := congrArg Addr.off e'; simp at this; omega)]; exact hv⟩
/-- a script in memory -/
structure ScrAt (w : World) (b : Nat) (a : Option Addr) (c : Nat) (L : List (Nat × Nat)) : Prop where
  lt : b < w.heap.size
  c0 : w.cell? ⟨b, 0, none⟩ = some (.slice a L.length c)
  row : L = [] ∨ ∃ g, a = some ⟨g, 0, none⟩ ∧ PRow w g L ∧ g ≠ b
  few : L.length ≤ 8192
def labP : List (Nat × Nat) → Nat → Nat
  | [], _ => 0
  | (n, l) :: t, x => if n = 58 ∧ l = x then 1 else if labP t x = 0 then 0 else labP t x + 1
theorem labP_cons (q : Nat × Nat) (t : List (Nat × Nat)) (x : Nat) : labP (q :: t) x = if q.1 = 58 ∧ q.2 = x then 1 else if labP t x = 0 then 0 else labP t x + 1 := by
  obtain ⟨n, l⟩ := q
  rw [labP]
/-- from a place on -/
def labF (L : List (Nat × Nat)) (i x : Nat) : Nat := if labP (L.drop i) x = 0 then 0 else labP (L.drop i) x + i
theorem labF_step (L : List (Nat × Nat)) (i x : Nat) (h : i < L.length) : labF L i x = if L[i].1 = 58 ∧ L[i].2 = x then i + 1 else labF L (i + 1) x := by
  unfold labF
  rw [List.drop_eq_getElem_cons h, labP_cons]
  by_cases hc : L[i].1 = 58 ∧ L[i].2 = x
  · rw [if_pos hc, if_pos hc]; simp; omega
  · rw [if_neg hc, if_neg hc]
    by_cases h0 : labP (L.drop (i + 1)) x = 0
    · rw [if_pos h0]; simp [h0]
    · rw [if_neg h0, if_neg h0, if_neg (by omega)]; omega
set_option maxRecDepth 100000 in
set_option maxHeartbeats 1000000 in
theorem behindLabel_calls (b : Nat) (a : Option Addr) (c x : Nat) (L : List (Nat × Nat)) (w : World) (hS : ScrAt w b a c L) (hx : x < 256) :
    Calls Try.prog 23 #[.pointer (some ⟨b, 0, none⟩), .int .u8 x] w fun e w' => e = .returned (.int .i64 ((labP L x : Nat) : Int)) ∧ w' = w := by
  obtain ⟨hlt0, hc0, hrow, hfew⟩ := hS
  obtain ⟨n, hn⟩ : ∃ n, L.length = n := ⟨_, rfl⟩
  have HN : Hid (L.length = n) := hn
  rw [hn] at hc0 hfew
  clear hn
  have HR : Hid (L = [] ∨ ∃ g, a = some ⟨g, 0, none⟩ ∧ PRow w g L ∧ g ≠ b) := hrow
  clear hrow
  have H0 : Hid (labP L x = labF L 0 x) := by
    show _ = _
    unfold labF
    rw [List.drop_zero]
    split <;> omega
  go_enter Try.func23, Try.ntmps23
  go_wp2_with fail
  go_loop [5, 11] (fun _ v11 => ∃ i : Nat, i ≤ n ∧ v11 = .int .i64 i ∧ Hid (labP L x = labF L i x)) (fun _ v11 => n - (intOf v11).toNat)
  case atStart => exact ⟨0, Nat.zero_le _, rfl, H0⟩
  case round =>
    clear H0
    obtain ⟨i, hi, rfl, HI⟩ := hrel
    by_cases hlt : i < n
    · have hlt1 : (i : Int) < (n : Int) := by omega
      have h0 : (0 : Int) ≤ (i : Int) := by omega
      have hiL : i < L.length := by rw [HN.out]; exact hlt
      obtain ⟨g, rfl, hpr, hgb⟩ : ∃ g, a = some ⟨g, 0, none⟩ ∧ PRow w g L ∧ g ≠ b := by
        rcases HR.out with h | h
        · rw [h] at hiL; simp at hiL
        · exact h
      have d1 := hpr.nm i hiL
      have d2 := hpr.lb i hiL
      have hgl := hpr.lt
      have e1 := hpr.b1 i hiL
      have e2 := hpr.b2 i hiL
      have HI2 : Hid (labP L x = if L[i].1 = 58 ∧ L[i].2 = x then i + 1 else labF L (i + 1) x) := by show _ = _; rw [HI.out, labF_step L i x hiL]
      generalize L[i].1 = y at *
      generalize L[i].2 = z at *
      clear HI hpr
      by_cases h58 : y = 58
      · have h581 : ((y : Int) == 58) = true := by simp [h58]
        by_cases hzx : z = x
        · have hzx1 : ((z : Int) == (x : Int)) = true := by simp [hzx]
          have HF : Hid (labP L x = i + 1) := by show _ = _; rw [HI2.out, if_pos ⟨h58, hzx⟩]
          clear h58 hzx HI2
          go_wp2
          go_ret
          exact ⟨by rw [HF.out]; rfl, rfl⟩
        · have hzx1 : ((z : Int) == (x : Int)) = false := by simp; omega
          have HF : Hid (labP L x = labF L (i + 1) x) := by show _ = _; rw [HI2.out, if_neg (fun h => hzx h.2)]
          clear h58 hzx HI2
          go_wp2
          go_round
          case rel => exact ⟨i + 1, by omega, by go_num, HF.out⟩
          case measure => first | (simp [intOf]; done) | (simp [intOf]; omega)
      · have h581 : ((y : Int) == 58) = false := by simp; omega
        have HF : Hid (labP L x = labF L (i + 1) x) := by show _ = _; rw [HI2.out, if_neg (fun h => h58 h.1)]
        clear h58 HI2
        go_wp2
        go_round
        case rel => exact ⟨i + 1, by omega, by go_num, HF.out⟩
        case measure => first | (simp [intOf]; done) | (simp [intOf]; omega)
    · have hlt1 : ¬ (i : Int) < (n : Int) := by omega
      have HF : Hid (labP L x = 0) := by
        show _ = _
        rw [HI.out]
        unfold labF
        rw [List.drop_of_length_le (by rw [HN.out]; omega)]; rfl
      clear HI
      go_wp2
      go_ret
      exact ⟨by rw [HF.out]; rfl, rfl⟩
end Go.Proofs.Ytlppphmnegdhoab

/-
  The program's scripts: pairBrackets.
-/
namespace Go.Proofs.Ytlppphmnegdhoab
set_option linter.unusedVariables false
set_option maxRecDepth 100000
open Go.RowKit
open M

/-- brackets, by names alone -/
def brkN : List (Nat × Nat) → Nat → Bool
  | [], d => d == 0
  | (n, _) :: t, d => if n = 123 then brkN t (d + 1) else if n = 125 then (if d = 0 then false else brkN t (d - 1)) else brkN t d
theorem brkN_cons (q : Nat × Nat) (t : List (Nat × Nat)) (d : Nat) : brkN (q :: t) d = if q.1 = 123 then brkN t (d + 1) else if q.1 = 125 then (if d = 0 then false else brkN t (d - 1)) else brkN t d := by
  obtain ⟨n, l⟩ := q
  rw [brkN]
theorem brkN_same (L : List (Nat × List UInt8)) : ∀ d, brkN (L.map (fun c => (c.1, labB c.2))) d = brk L d := by
  induction L with
  | nil => intro d; rfl
  | cons x L ih =>
    obtain ⟨n, s⟩ := x
    intro d
    rw [List.map_cons, brkN_cons, brk]
    show (if n = 123 then _ else if n = 125 then _ else _) = _
    rw [ih, ih, ih]
theorem elInt : ElT 77 3 1 8 (.int .i64 0) := ⟨by kernel_rfl, by kernel_rfl, rfl, by decide, by decide, by decide⟩
theorem ScrAt.below {w w' : World} {b : Nat} {a : Option Addr} {c : Nat} {L : List (Nat × Nat)} (h : ScrAt w b a c L) (hb : Below w.heap.size w w') : ScrAt w' b a c L := by
  refine ⟨by have := hb.size; have := h.lt; omega, (hb.cell (by exact h.lt)).trans h.c0, ?_, h.few⟩
  rcases h.row with h0 | ⟨g, ha, hp, hg⟩
  · exact .inl h0
  · exact .inr ⟨g, ha, hp.keep (hb.block g hp.lt) hb.size, hg⟩
/-- what is written lies in the row of commands, and nowhere else -/
structure Led (a : Option Addr) (w w' : World) : Prop where
  os : w'.os = w.os
  tape : w'.tape = w.tape
  output : w'.output = w.output
  size : w.heap.size ≤ w'.heap.size
  block : ∀ k, k < w.heap.size → (∀ g, a = some ⟨g, 0, none⟩ → k ≠ g) → w'.heap[k]? = w.heap[k]?
theorem Led.refl (a : Option Addr) (w : World) : Led a w w := ⟨rfl, rfl, rfl, Nat.le_refl _, fun _ _ _ => rfl⟩
theorem Led.trans {a : Option Addr} {x y z : World} (h : Led a x y) (k : Led a y z) : Led a x z :=
  ⟨k.os.trans h.os, k.tape.trans h.tape, k.output.trans h.output, Nat.le_trans h.size k.size, fun i hi hg => (k.block i (Nat.lt_of_lt_of_le hi h.size) hg).trans (h.block i hi hg)⟩
theorem Led.of_below {a : Option Addr} {w w' : World} (h : Below w.heap.size w w') : Led a w w' := ⟨h.os, h.tape, h.output, h.size, fun k hk _ => h.block k hk⟩
theorem Led.set (g o : Nat) (u : Value) (w : World) : Led (some ⟨g, 0, none⟩) w (w.setCell ⟨g, o, none⟩ u) := ⟨rfl, rfl, rfl, by simp, fun k _ hk => heap_setCell_other w _ k u (hk g rfl)⟩
theorem Led.drewN {a : Option Addr} {w w' : World} (h : Led a w w') (n : Nat) : Led a w (w'.drewN n) := ⟨h.os, h.tape, h.output, h.size, h.block⟩
theorem ScrAt.set {w : World} {b g : Nat} {c : Nat} {L : List (Nat × Nat)} (h : ScrAt w b (some ⟨g, 0, none⟩) c L) (j : Nat) (hj : j < L.length) (u : Value) : ScrAt (w.setCell ⟨g, j * 25 + 14, none⟩ u) b (some ⟨g, 0, none⟩) c L := by
  obtain ⟨g', e, hp, hg⟩ : ∃ g', (some ⟨g, 0, none⟩ : Option Addr) = some ⟨g', 0, none⟩ ∧ PRow w g' L ∧ g' ≠ b := by
    rcases h.row with h0 | h0
    · rw [h0] at hj; simp at hj
    · exact h0
  simp at e
  subst e
  exact ⟨by simpa using h.lt, by rw [World.cell?_setCell_other _ _ _ _ (fun e => hg (congrArg Addr.block e))]; exact h.c0, .inr ⟨g, rfl, hp.set j hj u, hg⟩, h.few⟩
/-- a command's label is as it must be, by bytes -/
def LabN1 (L : List (Nat × Nat)) (i : Nat) (h : i < L.length) : Prop := (L[i].1 = 58 → labP L L[i].2 = i + 1) ∧ (L[i].1 = 98 ∨ L[i].1 = 116 → L[i].2 ≠ 0 → labP L L[i].2 ≠ 0)
def LdPost (b : Nat) (a : Option Addr) (c : Nat) (L : List (Nat × Nat)) (w : World) (e : Ending) (w' : World) : Prop :=
  ∃ r : Bool, e = .returned (.bool r) ∧ (r = true ↔ ∀ i (h : i < L.length), LabN1 L i h) ∧ ScrAt w' b a c L ∧ Led a w w'
set_option maxRecDepth 100000 in
set_option maxHeartbeats 1000000 in
theorem leadToLabels_calls (b : Nat) (a : Option Addr) (c : Nat) (L : List (Nat × Nat)) (w : World) (hS : ScrAt w b a c L) :
    Calls Try.prog 15 #[.pointer (some ⟨b, 0, none⟩)] w fun e w' => LdPost b a c L w e w' := by
  have hfew := hS.few
  have hc0 := hS.c0
  have hbl := hS.lt
  obtain ⟨n, hn⟩ : ∃ n, L.length = n := ⟨_, rfl⟩
  have HN : Hid (L.length = n) := hn
  rw [hn] at hc0 hfew
  have HS : Hid (ScrAt w b a c L) := hS
  clear hn hS
  go_enter Try.func15, Try.ntmps15
  go_wp2_with fail
  go_loopw [3, 4, 5, 11] (fun _ _ _ v11 wr => ∃ i : Nat, i ≤ n ∧ v11 = .int .i64 i ∧ Hid (ScrAt wr b a c L ∧ Led a w wr) ∧ Hid (∀ j (h : j < L.length), j < i → LabN1 L j h)) (fun _ _ _ v11 _ => n - (intOf v11).toNat)
  case atStart => exact ⟨0, Nat.zero_le _, rfl, ⟨HS.out, Led.refl _ _⟩, fun _ _ h => by omega⟩
  case round =>
    clear hc0 hbl HS
    obtain ⟨i, hi, rfl, HW, HJ⟩ := hrel
    have hc0 := HW.out.1.c0
    rw [HN.out] at hc0
    have hbl := HW.out.1.lt
    by_cases hlt : i < n
    · have hlt1 : (i : Int) < (n : Int) := by omega
      have h0 : (0 : Int) ≤ (i : Int) := by omega
      have hiL : i < L.length := by rw [HN.out]; exact hlt
      obtain ⟨g, rfl, hpr, hgb⟩ : ∃ g, a = some ⟨g, 0, none⟩ ∧ PRow wr g L ∧ g ≠ b := by
        rcases HW.out.1.row with h | h
        · rw [h] at hiL; simp at hiL
        · exact h
      have d1 := hpr.nm i hiL
      have d2 := hpr.lb i hiL
      obtain ⟨v9, d3⟩ := hpr.nx i hiL
      have f3 := hpr.fz i hiL
      have hgl := hpr.lt
      have e1 := hpr.b1 i hiL
      have e2 := hpr.b2 i hiL
      obtain ⟨y, hy⟩ : ∃ y, L[i].1 = y := ⟨_, rfl⟩
      obtain ⟨z, hz⟩ : ∃ z, L[i].2 = z := ⟨_, rfl⟩
      rw [hy] at d1 e1
      rw [hz] at d2 e2
      have HY : Hid (L[i].1 = y ∧ L[i].2 = z) := ⟨hy, hz⟩
      have HJ2 : Hid (LabN1 L i hiL → ∀ j (h : j < L.length), j < i + 1 → LabN1 L j h) := fun hl j h hj => by
        by_cases e : j = i
        · subst e; exact hl
        · exact HJ.out j h (by omega)
      have HNO : Hid (¬ LabN1 L i hiL → ¬ ∀ j (h : j < L.length), LabN1 L j h) := fun h hk => h (hk i hiL)
      clear hy hz HJ hpr
      go_wp2_with fail
      refine (behindLabel_calls b _ c z L _ HW.out.1 e2).mono ?_
      rintro e wq ⟨rfl, hwq⟩
      rw [hwq]
      clear hwq
      obtain ⟨q, hq⟩ : ∃ q, labP L z = q := ⟨_, rfl⟩
      have HQ : Hid (labP L z = q) := hq
      rw [hq]
      clear hq
      by_cases h58 : y = 58
      · have h581 : ((y : Int) == 58) = true := by simp [h58]
        by_cases hqi : q = i + 1
        · have hqi1 : ((q : Int) != (i : Int) + 1) = false := by simp; omega
          have HL : Hid (LabN1 L i hiL) := ⟨fun _ => by rw [HY.out.2, HQ.out]; exact hqi, fun h => by have := HY.out.1; omega⟩
          clear h58 hqi
          go_wp2
          go_roundw
          case rel => exact ⟨i + 1, by omega, by go_num, HW.out, HJ2.out HL.out⟩
          case measure => first | (simp [intOf]; done) | (simp [intOf]; omega)
        · have hqi1 : ((q : Int) != (i : Int) + 1) = true := by simp; omega
          have HF : Hid (¬ ∀ j (h : j < L.length), LabN1 L j h) := HNO.out (fun h => hqi (by rw [← HQ.out, ← HY.out.2]; exact h.1 (by rw [HY.out.1]; exact h58)))
          clear h58 hqi
          go_wp2
          go_ret
          exact ⟨false, rfl, ⟨fun h => Bool.noConfusion h, fun h => absurd h HF.out⟩, HW.out⟩
      have h581 : ((y : Int) == 58) = false := by simp; omega
      by_cases hbt : y = 98 ∨ y = 116
      · have hor : (((y : Int) == 98) = true) ∨ (((y : Int) == 98) = false ∧ ((y : Int) == 116) = true) := by
          rcases hbt with h | h
          · exact .inl (by simp [h])
          · exact .inr (by simp [h])
        have HBT : Hid (y = 98 ∨ y = 116) := hbt
        clear hbt h58
        by_cases hz0 : z = 0
        · have hz1 : ((z : Int) != 0) = false := by simp [hz0]
          have hz2 : ((z : Int) == 0) = true := by simp [hz0]
          have HL : Hid (LabN1 L i hiL) := ⟨fun h => by have := HY.out.1; have := HBT.out; omega, fun _ h => absurd (by rw [HY.out.2]; exact hz0) h⟩
          have HW2 : Hid (ScrAt (wr.setCell ⟨g, i * 25 + 14, none⟩ (.int .i64 n)) b (some ⟨g, 0, none⟩) c L ∧ Led (some ⟨g, 0, none⟩) w (wr.setCell ⟨g, i * 25 + 14, none⟩ (.int .i64 n))) := ⟨HW.out.1.set i hiL _, HW.out.2.trans (Led.set _ _ _ _)⟩
          clear hz0
          rcases hor with ho | ⟨ho1, ho2⟩
          · go_wp2
            go_roundw
            case rel => exact ⟨i + 1, by omega, by go_num, HW2.out, HJ2.out HL.out⟩
            case measure => first | (simp [intOf]; done) | (simp [intOf]; omega)
          · go_wp2
            go_roundw
            case rel => exact ⟨i + 1, by omega, by go_num, HW2.out, HJ2.out HL.out⟩
            case measure => first | (simp [intOf]; done) | (simp [intOf]; omega)
        · have hz1 : ((z : Int) != 0) = true := by simp; omega
          have hz2 : ((z : Int) == 0) = false := by simp; omega
          by_cases hq0 : q = 0
          · have hq1 : ((q : Int) == 0) = true := by simp [hq0]
            have HF : Hid (¬ ∀ j (h : j < L.length), LabN1 L j h) := HNO.out (fun h => h.2 (by rw [HY.out.1]; exact HBT.out) (by rw [HY.out.2]; exact hz0) (by rw [HY.out.2, HQ.out]; exact hq0))
            clear hz0 hq0
            rcases hor with ho | ⟨ho1, ho2⟩
            · go_wp2
              go_ret
              exact ⟨false, rfl, ⟨fun h => Bool.noConfusion h, fun h => absurd h HF.out⟩, HW.out⟩
            · go_wp2
              go_ret
              exact ⟨false, rfl, ⟨fun h => Bool.noConfusion h, fun h => absurd h HF.out⟩, HW.out⟩
          · have hq1 : ((q : Int) == 0) = false := by simp; omega
            have HL : Hid (LabN1 L i hiL) := ⟨fun h => by have := HY.out.1; have := HBT.out; omega, fun _ _ => by rw [HY.out.2, HQ.out]; exact hq0⟩
            have HW2 : Hid (ScrAt (wr.setCell ⟨g, i * 25 + 14, none⟩ (.int .i64 q)) b (some ⟨g, 0, none⟩) c L ∧ Led (some ⟨g, 0, none⟩) w (wr.setCell ⟨g, i * 25 + 14, none⟩ (.int .i64 q))) := ⟨HW.out.1.set i hiL _, HW.out.2.trans (Led.set _ _ _ _)⟩
            clear hz0 hq0
            rcases hor with ho | ⟨ho1, ho2⟩
            · go_wp2
              go_roundw
              case rel => exact ⟨i + 1, by omega, by go_num, HW2.out, HJ2.out HL.out⟩
              case measure => first | (simp [intOf]; done) | (simp [intOf]; omega)
            · go_wp2
              go_roundw
              case rel => exact ⟨i + 1, by omega, by go_num, HW2.out, HJ2.out HL.out⟩
              case measure => first | (simp [intOf]; done) | (simp [intOf]; omega)
      have h98 : ((y : Int) == 98) = false := by simp; omega
      have h116 : ((y : Int) == 116) = false := by simp; omega
      have HL : Hid (LabN1 L i hiL) := ⟨fun h => by have := HY.out.1; omega, fun h => by have := HY.out.1; omega⟩
      clear hbt h58
      go_wp2
      go_roundw
      case rel => exact ⟨i + 1, by omega, by go_num, HW.out, HJ2.out HL.out⟩
      case measure => first | (simp [intOf]; done) | (simp [intOf]; omega)
    · have hlt1 : ¬ (i : Int) < (n : Int) := by omega
      have HF : Hid (∀ j (h : j < L.length), LabN1 L j h) := fun j h => HJ.out j h (by rw [HN.out] at h; omega)
      clear HJ
      go_wp2
      go_ret
      exact ⟨true, rfl, ⟨fun _ => HF.out, fun _ => rfl⟩, HW.out⟩
end Go.Proofs.Ytlppphmnegdhoab

/-
  The program's scripts: pairBrackets.
-/
namespace Go.Proofs.Ytlppphmnegdhoab
set_option linter.unusedVariables false
set_option maxRecDepth 100000
open Go.RowKit
open M

def natC (S : List Nat) : List Value := S.map (fun (k : Nat) => .int .i64 (k : Int))
theorem own_shrink {w : World} {B : Nat} {e : TypeId} {a : Option Addr} {n c : Nat} {S : List Nat} {x : Nat} (h : w.ownsRow B e 1 (.slice a (S.length + 1) c) (S.length + 1) (natC (S ++ [x]))) : w.ownsRow B e 1 (.slice a S.length c) S.length (natC S) := by
  obtain ⟨h1, ⟨h2, h3⟩ | ⟨g, cap, cur, e1, e2, e3, e4, e5, e6, e7⟩⟩ := h
  · omega
  · simp at e1
    obtain ⟨rfl, rfl⟩ := e1
    refine ⟨by simp [natC], .inr ⟨g, c, cur, rfl, e2, e3, by omega, e5, e6, ?_⟩⟩
    have h9 := congrArg (List.take S.length) e7
    rw [List.take_take] at h9
    rw [show S.length * 1 = min S.length ((S.length + 1) * 1) by omega, h9]
    simp [natC]
theorem own_last {w : World} {B : Nat} {e : TypeId} {a : Option Addr} {c : Nat} {S : List Nat} {x : Nat} (h : w.ownsRow B e 1 (.slice a (S.length + 1) c) (S.length + 1) (natC (S ++ [x]))) : ∃ g, a = some ⟨g, 0, none⟩ ∧ B ≤ g ∧ g < w.heap.size ∧ w.cell? ⟨g, S.length, none⟩ = some (.int .i64 x) ∧ S.length + 1 ≤ c := by
  have hh := h
  obtain ⟨h1, ⟨h2, h3⟩ | ⟨g, cap, cur, e1, e2, e3, e4, e5, e6, e7⟩⟩ := h
  · omega
  · simp at e1
    obtain ⟨rfl, rfl⟩ := e1
    have c1 := hh.cells rfl S.length (.int .i64 x) (by simp [natC])
    rw [Addr.add_mid, Nat.zero_add] at c1
    exact ⟨g, rfl, e2, (hh.lt g rfl).2, c1, e4⟩
def PbPost (b : Nat) (a : Option Addr) (c : Nat) (L : List (Nat × Nat)) (w : World) (e : Ending) (w' : World) : Prop :=
  e = .returned (.bool (brkN L 0)) ∧ ScrAt w' b a c L ∧ Led a w w'
set_option maxRecDepth 100000 in
set_option maxHeartbeats 1000000 in
theorem pairBrackets_calls (b : Nat) (a : Option Addr) (c : Nat) (L : List (Nat × Nat)) (w : World) (hS : ScrAt w b a c L) :
    Calls Try.prog 14 #[.pointer (some ⟨b, 0, none⟩)] w fun e w' => PbPost b a c L w e w' := by
  have hfew := hS.few
  have hc0 := hS.c0
  have hbl := hS.lt
  have HG : Hid (L = [] ∨ ∃ g, a = some ⟨g, 0, none⟩ ∧ g < w.heap.size) := by
    rcases hS.row with h | ⟨g, h1, h2, _⟩
    · exact .inl h
    · exact .inr ⟨g, h1, h2.lt⟩
  obtain ⟨n, hn⟩ : ∃ n, L.length = n := ⟨_, rfl⟩
  have HN : Hid (L.length = n) := hn
  rw [hn] at hc0 hfew
  have HS : Hid (ScrAt w b a c L) := hS
  clear hn hS
  go_enter Try.func14, Try.ntmps14
  go_wp2_with fail
  go_loopw [3, 4, 5, 11] (fun v3 _ _ v11 wr => ∃ (i : Nat) (S : List Nat), i ≤ n ∧ v11 = .int .i64 i ∧ S.length ≤ i ∧ Hid (∀ k ∈ S, k < n) ∧ Hid (ScrAt wr b a c L ∧ Led a w wr) ∧ Hid (brkN L 0 = brkN (L.drop i) S.length) ∧ wr.ownsRow w.heap.size 3 1 v3 S.length (natC S)) (fun _ _ _ v11 _ => n - (intOf v11).toNat)
  case atStart => exact ⟨0, [], Nat.zero_le _, rfl, Nat.zero_le _, fun k h => by simp at h, ⟨HS.out, Led.refl _ _⟩, by show _ = _; rw [List.drop_zero]; rfl, World.ownsRow_nil _ _ _ _⟩
  case round =>
    clear hc0 HS
    obtain ⟨i, S, hi, rfl, hSi, HSK, HW, HB, hown⟩ := hrel
    obtain ⟨av, cv, hvv⟩ := own_form hown
    subst hvv
    have hc0 := HW.out.1.c0
    rw [HN.out] at hc0
    have hbl2 := HW.out.1.lt
    have hsz := HW.out.2.size
    by_cases hlt : i < n
    · have hlt1 : (i : Int) < (n : Int) := by omega
      have h0 : (0 : Int) ≤ (i : Int) := by omega
      have hiL : i < L.length := by rw [HN.out]; exact hlt
      obtain ⟨g, rfl, hpr, hgb⟩ : ∃ g, a = some ⟨g, 0, none⟩ ∧ PRow wr g L ∧ g ≠ b := by
        rcases HW.out.1.row with h | h
        · rw [h] at hiL; simp at hiL
        · exact h
      have hgw : g < w.heap.size := by
        rcases HG.out with h | ⟨g', h, h2⟩
        · rw [h] at hiL; simp at hiL
        · simp at h; omega
      have d1 := hpr.nm i hiL
      have hgl := hpr.lt
      have e1 := hpr.b1 i hiL
      have HB2 : Hid (brkN L 0 = if L[i].1 = 123 then brkN (L.drop (i + 1)) (S.length + 1) else if L[i].1 = 125 then (if S.length = 0 then false else brkN (L.drop (i + 1)) (S.length - 1)) else brkN (L.drop (i + 1)) S.length) := by
        show _ = _
        rw [HB.out, List.drop_eq_getElem_cons hiL, brkN_cons]
      generalize L[i].1 = y at *
      clear HB
      by_cases h123 : y = 123
      · have h1231 : ((y : Int) == 123) = true := by simp [h123]
        have HB3 : Hid (brkN L 0 = brkN (L.drop (i + 1)) (S ++ [i]).length) := by show _ = _; rw [HB2.out, if_pos h123, List.length_append]; rfl
        have HSK2 : Hid (∀ k ∈ S ++ [i], k < n) := fun k hk => by
          rcases List.mem_append.1 hk with hk | hk
          · exact HSK.out k hk
          · simp at hk; omega
        clear h123 HB2 hpr
        go_wp2_with (refine gb_append elInt (hown.alloc _) wr.heap.size [.int .i64 (i : Int)] (heap_alloc_new wr _) rfl (by simp [Value.oneCell']) (by omega) (by simp; omega) rfl _ _ rfl rfl rfl ?_
                     intro v' w6 hown6 hgrow6
                     have hs6 := hgrow6.size
                     have hB6 : Below w.heap.size wr w6 := ((Below.refl _ _).alloc (by omega) _).grown hgrow6 (by simp; omega) (fun k hk => (hown.lt k hk).1)
                     have hW6 : ScrAt w6 b (some ⟨g, 0, none⟩) c L := by
                       refine ⟨by simp at hs6; omega, (hB6.cell (by exact hbl)).trans HW.out.1.c0, ?_, HW.out.1.few⟩
                       rcases HW.out.1.row with h | ⟨g', ha, hp, hg'⟩
                       · exact .inl h
                       · simp at ha; subst ha
                         exact .inr ⟨g, rfl, hp.keep (hB6.block g hgw) hB6.size, hg'⟩
                     have hL6 : Led (some ⟨g, 0, none⟩) w w6 := ⟨hB6.os.trans HW.out.2.os, hB6.tape.trans HW.out.2.tape, hB6.output.trans HW.out.2.output, Nat.le_trans HW.out.2.size hB6.size, fun k hk hg => (hB6.block k hk).trans (HW.out.2.block k hk hg)⟩
                     obtain ⟨av', cv', hvv⟩ := own_form hown6
                     subst hvv
                     clear hgrow6)
        go_roundw
        case rel =>
          refine ⟨i + 1, S ++ [i], by omega, by go_num, by rw [List.length_append]; simp; omega, HSK2.out, ⟨hW6, hL6⟩, HB3.out, ?_⟩
          rw [List.length_append]
          have : natC (S ++ [i]) = natC S ++ [.int .i64 (i : Int)] := by simp [natC]
          rw [this]; exact hown6
        case measure => first | (simp [intOf]; done) | (simp [intOf]; omega)
      have h1231 : ((y : Int) == 123) = false := by simp; omega
      by_cases h125 : y = 125
      · have h1251 : ((y : Int) == 125) = true := by simp [h125]
        by_cases hS0 : S.length = 0
        · have HF : Hid (brkN L 0 = false) := by show _ = _; rw [HB2.out, if_neg h123, if_pos h125, if_pos hS0]
          have hS1 : ((S.length : Int) - 1 < 0) := by omega
          clear h123 h125 HB2 hpr
          go_wp2
          go_ret
          exact ⟨ret_bool (by rw [HF.out]), HW.out.1, HW.out.2⟩
        · obtain ⟨S', x, rfl⟩ : ∃ S' x, S = S' ++ [x] := by
            have hne : S ≠ [] := fun e => hS0 (by rw [e]; rfl)
            exact ⟨S.dropLast, S.getLast hne, (List.dropLast_concat_getLast hne).symm⟩
          have hxn : x < n := HSK.out x (by simp)
          have hxL : x < L.length := by rw [HN.out]; exact hxn
          have HB3 : Hid (brkN L 0 = brkN (L.drop (i + 1)) S'.length) := by
            show _ = _
            rw [HB2.out, if_neg h123, if_pos h125, if_neg hS0, List.length_append]; rfl
          have hown' : wr.ownsRow w.heap.size 3 1 (.slice av (S'.length + 1) cv) (S'.length + 1) (natC (S' ++ [x])) := by rw [List.length_append] at hown; exact hown
          obtain ⟨go, rfl, hgo1, hgo2, dx, hcv⟩ := own_last hown'
          have hownS := own_shrink (n := 0) hown'
          obtain ⟨v9, d3⟩ := hpr.nx x hxL
          have f3 := hpr.fz x hxL
          have hln : (S' ++ [x]).length = S'.length + 1 := by rw [List.length_append]; rfl
          have HSK2 : Hid (∀ k ∈ S', k < n) := fun k hk => HSK.out k (by simp [hk])
          rw [hln] at hSi ⊢
          obtain ⟨m, hm⟩ : ∃ m, S'.length = m := ⟨_, rfl⟩
          have HMM : Hid (S'.length = m) := hm
          rw [hm] at HB3 dx hcv hownS hSi ⊢
          clear hm hln
          have hm1 : ((m + 1 : Nat) : Int) - 1 = (m : Int) := by omega
          have hm2 : ¬ (m : Int) < 0 := by omega
          have hm3 : (m : Int) < ((m : Nat) : Int) + 1 := by omega
          have hm4 : (0 : Int) ≤ (m : Int) := by omega
          have hm5 : (m : Int) ≤ (cv : Int) := by omega
          have hx1 : (x : Int) < (n : Int) := by omega
          have hx2 : (0 : Int) ≤ (x : Int) := by omega
          have HW2 : Hid (ScrAt (wr.drew.setCell ⟨g, x * 25 + 14, none⟩ (.int .i64 ((i : Int) + 1))) b (some ⟨g, 0, none⟩) c L ∧ Led (some ⟨g, 0, none⟩) w (wr.drew.setCell ⟨g, x * 25 + 14, none⟩ (.int .i64 ((i : Int) + 1)))) := by
            have hd : ScrAt wr.drew b (some ⟨g, 0, none⟩) c L := HW.out.1.below ((Below.refl _ _).drew)
            have hl : Led (some ⟨g, 0, none⟩) w wr.drew := ⟨HW.out.2.os, HW.out.2.tape, HW.out.2.output, HW.out.2.size, HW.out.2.block⟩
            exact ⟨hd.set x hxL _, hl.trans (Led.set _ _ _ _)⟩
          have hownS2 : (wr.drew.setCell ⟨g, x * 25 + 14, none⟩ (.int .i64 ((i : Int) + 1))).ownsRow w.heap.size 3 1 (.slice (some ⟨go, 0, none⟩) m cv) m (natC S') := ownsRow_setCell_below (ownsRow_below hownS ((Below.refl _ _).drew)) (by simp; omega) _
          clear h123 h125 HB2 hpr hS0 hown hown' hownS HSK
          go_wp2_with fail
          go_region
          go_wp2
          go_roundw
          case rel => exact ⟨i + 1, S', by omega, by go_num, by rw [HMM.out]; omega, HSK2.out, HW2.out, by rw [HMM.out]; exact HB3.out, by rw [HMM.out]; exact hownS2⟩
          case measure => first | (simp [intOf]; done) | (simp [intOf]; omega)
      have h1251 : ((y : Int) == 125) = false := by simp; omega
      have HB3 : Hid (brkN L 0 = brkN (L.drop (i + 1)) S.length) := by show _ = _; rw [HB2.out, if_neg h123, if_neg h125]
      clear h123 h125 HB2 hpr
      go_wp2
      go_roundw
      case rel => exact ⟨i + 1, S, by omega, by go_num, by omega, HSK.out, HW.out, HB3.out, hown⟩
      case measure => first | (simp [intOf]; done) | (simp [intOf]; omega)
    · have hlt1 : ¬ (i : Int) < (n : Int) := by omega
      have HF : Hid (brkN L 0 = (S.length == 0)) := by
        show _ = _
        rw [HB.out, List.drop_of_length_le (by rw [HN.out]; omega)]; rfl
      clear HB
      by_cases hS0 : S.length = 0
      · have hS1 : ((S.length : Int) == 0) = true := by simp [hS0]
        have HF2 : Hid (brkN L 0 = true) := by show _ = _; rw [HF.out, hS0]; rfl
        clear hS0 HF
        go_wp2
        go_ret
        exact ⟨ret_bool (by rw [HF2.out]), HW.out.1, HW.out.2⟩
      · have hS1 : ((S.length : Int) == 0) = false := by rw [beq_eq_false_iff_ne]; omega
        have HF2 : Hid (brkN L 0 = false) := by show _ = _; rw [HF.out]; simpa using hS0
        clear hS0 HF
        go_wp2
        go_ret
        exact ⟨ret_bool (by rw [HF2.out]), HW.out.1, HW.out.2⟩
end Go.Proofs.Ytlppphmnegdhoab

/-
  Scripts: labels by bytes and by texts: plain mathematics.
-/
namespace Go.Proofs.Ytlppphmnegdhoab
set_option linter.unusedVariables false
open M

/-- labels as they may be -/
def LabV (L : List (Nat × List UInt8)) : Prop := ∀ c ∈ L, (c.1 = 58 → letM c.2 = true) ∧ (c.1 = 98 ∨ c.1 = 116 → c.2 = [] ∨ letM c.2 = true)
def toP (L : List (Nat × List UInt8)) : List (Nat × Nat) := L.map (fun c => (c.1, labB c.2))
theorem labB_let (t : List UInt8) (h : letM t = true) : ∃ c, t = [c] ∧ labB t = c.toNat ∧ 97 ≤ c.toNat := by
  match t, h with
  | [c], h =>
    refine ⟨c, rfl, by simp [labB, h], ?_⟩
    simp [letM] at h
    omega
theorem labB_inj (s t : List UInt8) (hs : letM s = true) (ht : letM t = true) : labB s = labB t ↔ s = t := by
  obtain ⟨c, rfl, h1, _⟩ := labB_let s hs
  obtain ⟨d, rfl, h2, _⟩ := labB_let t ht
  rw [h1, h2]
  constructor
  · intro e; rw [UInt8.toNat_inj.1 e]
  · intro e; simp at e; rw [e]
theorem labAt_pos (s : List UInt8) : ∀ (M : List (Nat × List UInt8)), labAt M s ≠ some 0
  | [] => fun h => by cases h
  | (n2, l2) :: M => fun h => by
    rw [labAt] at h
    split at h
    · simp at h
    · cases hm : labAt M s with
      | none => rw [hm] at h; simp at h
      | some r => rw [hm] at h; simp at h
theorem getD_zero (s : List UInt8) (L : List (Nat × List UInt8)) : (labAt L s).getD 0 = 0 ↔ labAt L s = none := by
  cases hla : labAt L s with
  | none => simp
  | some r =>
    have hr : r ≠ 0 := fun e => labAt_pos s L (by rw [hla, e])
    constructor
    · intro h; exact absurd h hr
    · intro h; cases h
theorem lab_same (L : List (Nat × List UInt8)) (hv : LabV L) (s : List UInt8) (hs : letM s = true) : labP (toP L) (labB s) = (labAt L s).getD 0 := by
  induction L with
  | nil => rfl
  | cons x L ih =>
    obtain ⟨n, l⟩ := x
    have ih := ih (fun c hc => hv c (by simp [hc]))
    have hx := hv (n, l) (by simp)
    show labP ((n, labB l) :: toP L) (labB s) = _
    rw [labP_cons, labAt]
    have hcc : (n = 58 ∧ labB l = labB s) ↔ (n = 58 ∧ l = s) :=
      and_congr_right fun h58 => labB_inj l s (hx.1 h58) hs
    show (if n = 58 ∧ labB l = labB s then 1 else if labP (toP L) (labB s) = 0 then 0 else labP (toP L) (labB s) + 1) = _
    rw [ih]
    by_cases hc : n = 58 ∧ l = s
    · have hc2 := hcc.2 hc
      rw [if_pos hc2, if_pos hc]; rfl
    · have hc2 : ¬ (n = 58 ∧ labB l = labB s) := fun h => hc (hcc.1 h)
      rw [if_neg hc2, if_neg hc]
      by_cases h0 : (labAt L s).getD 0 = 0
      · rw [if_pos h0, (getD_zero s L).1 h0]; rfl
      · rw [if_neg h0]
        cases hla : labAt L s with
        | none => exact absurd ((getD_zero s L).2 hla) h0
        | some r => rfl
theorem labs_same (L : List (Nat × List UInt8)) (hv : LabV L) : (∀ i (h : i < (toP L).length), LabN1 (toP L) i h) ↔ labOk L := by
  have hlen : (toP L).length = L.length := by simp [toP]
  have hget : ∀ i (h : i < (toP L).length), (toP L)[i] = (L[i].1, labB L[i].2) := fun i h => by simp [toP]
  have key : ∀ i (h : i < (toP L).length), LabN1 (toP L) i h ↔ ((L[i].1 = 58 → labAt L L[i].2 = some (i + 1)) ∧ (L[i].1 = 98 ∨ L[i].1 = 116 → L[i].2 ≠ [] → labAt L L[i].2 ≠ none)) := fun i h => by
    have hiL : i < L.length := by rw [hlen] at h; exact h
    have hx := hv L[i] (List.getElem_mem _)
    unfold LabN1
    rw [hget i h]
    refine and_congr ?_ ?_
    · refine imp_congr_right fun h58 => ?_
      rw [lab_same L hv _ (hx.1 h58)]
      cases labAt L L[i].2 with
      | none => simp
      | some r => simp
    · refine imp_congr_right fun hbt => ?_
      rcases hx.2 hbt with he | hl
      · have h0 : labB L[i].2 = 0 := by rw [he]; rfl
        exact ⟨fun _ h => absurd he h, fun _ h => absurd h0 h⟩
      · obtain ⟨c, hc, hb, h97⟩ := labB_let _ hl
        have h1 : labB L[i].2 ≠ 0 := by omega
        have h2 : L[i].2 ≠ [] := by rw [hc]; simp
        rw [lab_same L hv _ hl]
        have h3 : (labAt L L[i].2).getD 0 ≠ 0 ↔ labAt L L[i].2 ≠ none := by
          exact not_congr (getD_zero _ L)
        constructor
        · intro h _; exact h3.1 (h h1)
        · intro h _; exact h3.2 (h h2)
  unfold labOk
  constructor
  · intro h i hi
    exact (key i (by rw [hlen]; exact hi)).1 (h i (by rw [hlen]; exact hi))
  · intro h i hi
    exact (key i hi).2 (h i (by rw [hlen] at hi; exact hi))
theorem cmd_labV (t : List UInt8) (c : Nat × List UInt8) (h : cmdM t = some c) : (c.1 = 58 → letM c.2 = true) ∧ (c.1 = 98 ∨ c.1 = 116 → c.2 = [] ∨ letM c.2 = true) := by
  have main : ∀ k u, nameM k u = some c → (c.1 = 58 → letM c.2 = true) ∧ (c.1 = 98 ∨ c.1 = 116 → c.2 = [] ∨ letM c.2 = true) := fun k u hn => by
    match u with
    | [] => cases hn
    | d :: r =>
      rw [nameM] at hn
      split at hn
      · rename_i ha
        simp only [Option.some.injEq] at hn
        subst hn
        simp only
        refine ⟨fun h58 => ?_, fun hbt => ?_⟩
        · rw [h58] at ha
          have hl : labelled d.toNat = true := by rw [h58]; rfl
          rw [hl]
          have : (decide (k = 0) && letM r) = true := ha
          simp only [if_true]
          rw [Bool.and_eq_true] at this
          exact this.2
        · have hl : labelled d.toNat = true := by rcases hbt with h | h <;> rw [h] <;> rfl
          rw [hl]
          simp only [if_true]
          have : (r.isEmpty || letM r) = true := by
            rcases hbt with h | h <;> rw [h] at ha <;> exact ha
          rw [Bool.or_eq_true, List.isEmpty_iff] at this
          exact this
      · cases hn
  unfold cmdM at h
  cases ha : addrM t with
  | none => rw [ha] at h; cases h
  | some p =>
    rw [ha] at h
    cases hs : secM p.1 p.2 with
    | none =>
      have h9 : cmdB p.1 (secM p.1 p.2) = some c := h
      rw [hs] at h9; cases h9
    | some u =>
      have h9 : cmdB p.1 (secM p.1 p.2) = some c := h
      rw [hs] at h9
      exact main p.1 _ h9
end Go.Proofs.Ytlppphmnegdhoab

/-
  Scripts: lines, commands and links as the program's reader meets them: plain mathematics.
-/
namespace Go.Proofs.Ytlppphmnegdhoab
set_option linter.unusedVariables false
open M

theorem linked_same (L : List (Nat × List UInt8)) (hv : LabV L) : Linked L ↔ (brkN (toP L) 0 = true ∧ ∀ i (h : i < (toP L).length), LabN1 (toP L) i h) := by
  unfold Linked
  rw [labs_same L hv]
  have : brkN (toP L) 0 = brk L 0 := brkN_same L 0
  rw [this]
theorem lines_free (u : List UInt8) : ∀ acc, (∀ c ∈ u, c.toNat ≠ 10) → linesM acc u = if acc ++ u = [] then [] else [acc ++ u] := by
  induction u with
  | nil => intro acc _; rw [linesM, List.append_nil]
  | cons c u ih =>
    intro acc h
    have hc := h c (by simp)
    rw [linesM, if_neg hc, ih (acc ++ [c]) (fun d hd => h d (by simp [hd]))]
    rw [List.append_assoc, List.singleton_append]
theorem lines_nl (u : List UInt8) (d : UInt8) (hd : d.toNat = 10) (r : List UInt8) : ∀ acc, (∀ c ∈ u, c.toNat ≠ 10) → linesM acc (u ++ d :: r) = if acc ++ u = [] then linesM [] r else (acc ++ u) :: linesM [] r := by
  induction u with
  | nil => intro acc _; rw [List.nil_append, linesM, if_pos hd, List.append_nil]
  | cons c u ih =>
    intro acc h
    have hc := h c (by simp)
    rw [List.cons_append, linesM, if_neg hc, ih (acc ++ [c]) (fun d hd => h d (by simp [hd]))]
    rw [List.append_assoc, List.singleton_append]
/-- what is read so far, with what is left -/
def cmdsOn (L : List (Nat × List UInt8)) (t : List UInt8) : Option (List (Nat × List UInt8)) := (cmdsM (linesM [] t)).map (L ++ ·)
theorem cmdsOn_nil (L : List (Nat × List UInt8)) : cmdsOn L [] = some L := by
  unfold cmdsOn
  rw [linesM, if_pos rfl, cmdsM]
  simp
theorem cmdsOn_all (t : List UInt8) : cmdsOn [] t = cmdsM (linesM [] t) := by
  unfold cmdsOn
  cases cmdsM (linesM [] t) <;> simp
theorem cmdsOn_step (L : List (Nat × List UInt8)) (u : List UInt8) (M : List (List UInt8)) : (cmdsM (u :: M)).map (L ++ ·) = (cmdM u).bind (fun c => (cmdsM M).map ((L ++ [c]) ++ ·)) := by
  rw [cmdsM]
  cases cmdM u with
  | none => rfl
  | some c =>
    cases cmdsM M with
    | none => rfl
    | some l => simp
theorem cmds_labV : ∀ (M : List (List UInt8)) (L : List (Nat × List UInt8)), cmdsM M = some L → LabV L
  | [], L, h => by
    rw [cmdsM] at h
    cases h
    intro c hc
    cases hc
  | u :: M, L, h => by
    rw [cmdsM] at h
    cases hu : cmdM u with
    | none => rw [hu] at h; cases h
    | some c =>
      cases hm : cmdsM M with
      | none => rw [hu, hm] at h; cases h
      | some l =>
        rw [hu, hm] at h
        have h : c :: l = L := by simpa using h
        subst h
        intro x hx
        rcases List.mem_cons.1 hx with rfl | hx
        · exact cmd_labV u x hu
        · exact cmds_labV M l hm x hx
end Go.Proofs.Ytlppphmnegdhoab
