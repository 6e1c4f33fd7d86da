/-
  A text in which bits are turned.
-/
import Derived.Test.YtlppphmnegdhoaaKc1
import Derived.Test.YtlppphmnegdhoaaKb0
import Derived.Lib.ConvBytes
namespace Go.Proofs.Ytlppphmnegdhoaa
set_option linter.unusedVariables false
set_option maxRecDepth 100000
open Go.RowKit
open M

/-- a row of bytes that may be written into -/
structure RowB (w : World) (g : Nat) (A : List UInt8) : Prop where
  lt : g < w.heap.size
  c : ∀ i, (h : i < A.length) → w.cell? ⟨g, i, none⟩ = some (.int .u8 (A[i].toNat : Int))
  f : ∀ i, i < A.length → w.frozen? ⟨g, i, none⟩ = false

theorem add0 (g j : Nat) : (⟨g, 0, none⟩ : Addr).add j = ⟨g, j, none⟩ := by unfold Addr.add; split <;> simp_all
theorem xor_u8 (a b : Nat) (ha : a < 256) (hb : b < 256) : bits .xor .u8 (a : Int) (b : Int) = ((a ^^^ b : Nat) : Int) := by
  have ea : (BitVec.ofInt 8 (a : Int)).toNat = a := by simp; omega
  have eb : (BitVec.ofInt 8 (b : Int)).toNat = b := by simp; omega
  have hx : a ^^^ b < 2 ^ 8 := Nat.xor_lt_two_pow (n := 8) (by omega) (by omega)
  show IntKind.u8.wrap ((BitVec.ofInt 8 (a : Int) ^^^ BitVec.ofInt 8 (b : Int)).toNat : Int) = _
  rw [BitVec.toNat_xor, ea, eb, IntKind.wrap_u8]
  omega
theorem turn_byte (A : List UInt8) (q r : Nat) (hq : q < A.length) (hr : r < 8) (d : Nat) (hd : d = 2 ^ (7 - r)) :
    (UInt8.ofNat (A[q].toNat ^^^ d)).toNat = A[q].toNat ^^^ d ∧ bits .xor .u8 (A[q].toNat : Int) (d : Int) = ((A[q].toNat ^^^ d : Nat) : Int) ∧ ∀ b, b < 8 → (UInt8.ofNat (A[q].toNat ^^^ d)).toNat.testBit b = ((A.getD q 0).toNat.testBit b ^^ decide (b = 7 - r)) := by
  have ha : A[q].toNat < 256 := A[q].toNat_lt
  have hd8 : d < 2 ^ 8 := by rw [hd]; exact Nat.pow_lt_pow_right (by omega) (by omega)
  have hx : A[q].toNat ^^^ d < 2 ^ 8 := Nat.xor_lt_two_pow (n := 8) (by omega) hd8
  have e1 : (UInt8.ofNat (A[q].toNat ^^^ d)).toNat = A[q].toNat ^^^ d := u8 _ (by omega)
  refine ⟨e1, xor_u8 _ _ ha (by omega), fun b hb => ?_⟩
  have e2 : A.getD q 0 = A[q] := by rw [List.getD_eq_getElem?_getD, List.getElem?_eq_getElem hq]; rfl
  rw [e1, e2, Nat.testBit_xor, hd, Nat.testBit_two_pow]
  congr 1
  rw [decide_eq_decide]
  omega
theorem RowB.set {w : World} {g : Nat} {A : List UInt8} (h : RowB w g A) (q : Nat) (hq : q < A.length) (c : UInt8) : RowB (w.setCell ⟨g, q, none⟩ (.int .u8 (c.toNat : Int))) g (A.set q c) := by
  refine ⟨by simpa using h.lt, fun i hi => ?_, fun i hi => ?_⟩
  · have hi' : i < A.length := by simpa using hi
    rw [List.getElem_set]
    by_cases hqi : q = i
    · subst hqi
      rw [if_pos rfl]
      exact set_same _ _ _ _ (h.c q hq)
    · rw [if_neg hqi]
      rw [set_far _ _ _ _ _ hqi]
      exact h.c i hi'
  · simp only [List.length_set] at hi
    simpa using h.f i hi
theorem and_test (m kk : Nat) (hm : m < 65536) : bits .and .i64 ((m : Int) / 2 ^ kk) 1 = 1 ↔ m.testBit kk = true := by
  have e : (m : Int) / 2 ^ kk = ((m / 2 ^ kk : Nat) : Int) := by simp
  have hle : m / 2 ^ kk ≤ m := Nat.div_le_self _ _
  have h := and_i64 (m / 2 ^ kk) 1 (by omega) (by decide)
  rw [Nat.and_one_is_mod] at h
  have h2 : bits .and .i64 ((m : Int) / 2 ^ kk) 1 = ((m / 2 ^ kk % 2 : Nat) : Int) := by rw [e]; exact h
  rw [h2, Nat.testBit_eq_decide_div_mod_eq, decide_eq_true_eq]
  omega
theorem rowB_new (w : World) (s : ByteArray) : RowB (Lib.bytesWorld w 5 s) w.heap.size s.data.toList := by
  have hl := ba_len s
  refine ⟨by rw [Lib.bytesWorld_size]; omega, fun i hi => ?_, fun i hi => ?_⟩
  · rw [Lib.bytesWorld_cell w _ s i (by omega)]
    congr 3
    rw [List.getD_eq_getElem?_getD, List.getElem?_eq_getElem hi]
    rfl
  · have hc : s.size ≤ (Lib.bytesCells w 5 s).size := by simp [Lib.bytesCells]
    simp only [World.frozen?, Lib.bytesWorld_at_new]
    simp
    omega
theorem below_bytes (w : World) (s : ByteArray) : Below w.heap.size w (Lib.bytesWorld w 5 s) :=
  ⟨rfl, rfl, rfl, by rw [Lib.bytesWorld_size]; omega, fun k hk => Lib.bytesWorld_at_old w _ s k hk⟩

set_option maxRecDepth 100000 in
set_option maxHeartbeats 8000000 in
theorem burst_calls (s : ByteArray) (at' mask : Int) (w : World) (hs0 : 0 < s.size) (hs : s.size ≤ 12352) (h0 : -9223372036854775808 ≤ at') (h00 : at' ≤ 9223372036854775807) (h1 : -9223372036854775808 ≤ mask) (h11 : mask ≤ 9223372036854775807) :
    Calls Try.prog 37 #[.string s, .int .i64 at', .int .i64 mask] w fun e w' => (∃ (t : ByteArray) (p y : Nat), e = .returned (.string t) ∧ t.size = s.size ∧ p < 8 * s.size ∧ Turned s.data.toList t.data.toList p (y * 2 + 1) 16) ∧ Below w.heap.size w w' := by
  have hconv := Lib.run_convert_string_bytes (P := Try.prog) w 9 79 5 s Try.underlying9 Try.underlying79 Try.underlying5
  go_enter Try.func37, Try.ntmps37
  go_wp2_with fail
  refine (pick_calls at' (8 * (s.size : Int)) _ h0 h00 (by omega) (by omega)).mono ?_
  rintro e w1 ⟨⟨p, rfl, hp⟩, hw⟩
  have hrow := rowB_new w s
  have BW : Below w.heap.size w (Lib.bytesWorld w 5 s) := below_bytes w s
  rw [← hw] at hrow BW
  clear hw hconv
  generalize grownCap w s.size 0 5 = cap
  go_wp2_with fail
  refine (pick_calls mask 32768 _ h1 h11 (by omega) (by omega)).mono ?_
  rintro e w2 ⟨⟨y, rfl, hy⟩, hw⟩
  obtain rfl : w1 = w2 := hw.symm
  clear hw
  obtain ⟨m, hm⟩ : ∃ m : Nat, y * 2 + 1 = m := ⟨_, rfl⟩
  have hm1 : (y : Int) * 2 + 1 = (m : Int) := by omega
  have hm2 : m < 65536 := by omega
  have HM : Hid (y * 2 + 1 = m) := hm
  go_wp2
  clear hm hm1
  go_loopw [10] (fun k wr => ∃ (kk : Nat) (A : List UInt8), k = .int .i64 kk ∧ kk ≤ 16 ∧ RowB wr w.heap.size A ∧ Hid (Turned s.data.toList A p m kk) ∧ A.length = s.size ∧ Below w.heap.size w wr) (fun k _ => 16 - (intOf k).toNat)
  case atStart => exact ⟨0, s.data.toList, rfl, by omega, hrow, turned_zero _ _ _, ba_len s, BW⟩
  case round =>
    clear hrow BW
    obtain ⟨kk, A, rfl, hk, hrow, HT, hAl, B⟩ := hrel
    by_cases hlt : kk < 16
    · have hlt1 : (kk : Int) < 16 := by omega
      go_upto_region 8 with fail
      go_cut [41] (fun t wx => t = .bool (m.testBit kk && decide (p + kk < 8 * s.size)) ∧ wx = wr)
      case first =>
        clear HT
        have hk0 : (0 : Int) ≤ (kk : Int) := by omega
        have hk1 : ¬ (kk : Int) < 0 := by omega
        have HB : Hid (bits .and .i64 ((m : Int) / 2 ^ kk) 1 = 1 ↔ m.testBit kk = true) := and_test m kk hm2
        have HD : Hid (decide ((p : Int) + kk < 8 * s.size) = decide (p + kk < 8 * s.size)) := by show _ = _; rw [decide_eq_decide]; omega
        clear hrow B hs0 h0 h00 h1 h11 hm2 hy hp
        go_wp2
        · rename_i hb
          go_meet
          refine ⟨?_, rfl⟩
          rw [HB.out.1 hb, HD.out]
          rfl
        · rename_i hb
          go_meet
          refine ⟨?_, rfl⟩
          have hb2 : m.testBit kk = false := by
            cases h : m.testBit kk
            · rfl
            · exact absurd (HB.out.2 h) hb
          rw [hb2]
          rfl
      case rest =>
        obtain ⟨rfl, rfl⟩ := hcut
        cases hcb : (m.testBit kk && decide (p + kk < 8 * s.size))
        · have HT2 : Hid (Turned s.data.toList A p m (kk + 1)) := by
            refine turned_no HT.out ?_
            rw [ba_len]
            simp at hcb
            by_cases h : m.testBit kk = true
            · exact .inr (hcb h)
            · exact .inl (by simpa using h)
          clear hcb HT
          go_wp2
          go_roundw
          case rel => exact ⟨kk + 1, A, by go_num, by omega, hrow, HT2.out, hAl, B⟩
          case measure => simp [intOf]; omega
        · simp only [Bool.and_eq_true, decide_eq_true_eq] at hcb
          obtain ⟨i, hi⟩ : ∃ i, p + kk = i := ⟨_, rfl⟩
          have hi1 : (p : Int) + kk = (i : Int) := by omega
          obtain ⟨q, hq⟩ : ∃ q, i / 8 = q := ⟨_, rfl⟩
          obtain ⟨r, hr⟩ : ∃ r, i % 8 = r := ⟨_, rfl⟩
          have hq1 : (i : Int) / 8 = (q : Int) := by omega
          have hr1 : (i : Int) % 8 = (r : Int) := by omega
          have hqA : q < A.length := by omega
          have hqs : (q : Int) < (s.size : Int) := by omega
          have c0 := hrow.c q hqA
          have f0 := hrow.f q hqA
          have hgw := hrow.lt
          have hr8 : r = 0 ∨ r = 1 ∨ r = 2 ∨ r = 3 ∨ r = 4 ∨ r = 5 ∨ r = 6 ∨ r = 7 := by omega
          have HI : Hid (p + kk = i ∧ i / 8 = q ∧ i % 8 = r) := ⟨hi, hq, hr⟩
          have HCB : Hid _ := hcb
          clear hi hq hr hcb
          have HF : Hid (∀ d : Nat, d = 2 ^ (7 - r) → RowB (wc.setCell ⟨w.heap.size, q, none⟩ (.int .u8 (bits .xor .u8 (A[q].toNat : Int) (d : Int)))).drew w.heap.size (A.set q (UInt8.ofNat (A[q].toNat ^^^ d))) ∧ Turned s.data.toList (A.set q (UInt8.ofNat (A[q].toNat ^^^ d))) p m (kk + 1)) := fun d hd => by
            obtain ⟨e1, e2, e3⟩ := turn_byte A q r hqA (by omega) d hd
            obtain ⟨g1, g2, g3⟩ := HI.out
            refine ⟨?_, ?_⟩
            · have := hrow.set q hqA (UInt8.ofNat (A[q].toNat ^^^ d))
              rw [e1, ← e2] at this
              exact ⟨this.lt, this.c, this.f⟩
            · have := turned_yes HT.out HCB.out.1 (by rw [ba_len]; exact HCB.out.2) (UInt8.ofNat (A[q].toNat ^^^ d)) (by rw [g1, g2, g3]; exact e3)
              rw [g1, g2] at this
              exact this
          clear HT HI HCB hrow
          rcases hr8 with rfl | rfl | rfl | rfl | rfl | rfl | rfl | rfl
          · go_wp2
            go_region
            all_goals go_wp2
            all_goals go_roundw
            all_goals first
              | exact ⟨kk + 1, A.set q (UInt8.ofNat (A[q].toNat ^^^ 128)), by go_num, by omega, (HF.out 128 rfl).1, (HF.out 128 rfl).2, by simpa using hAl, (B.setCell (Nat.le_refl _) _).drew⟩
              | (simp [intOf]; omega)
          · go_wp2
            go_region
            all_goals go_wp2
            all_goals go_roundw
            all_goals first
              | exact ⟨kk + 1, A.set q (UInt8.ofNat (A[q].toNat ^^^ 64)), by go_num, by omega, (HF.out 64 rfl).1, (HF.out 64 rfl).2, by simpa using hAl, (B.setCell (Nat.le_refl _) _).drew⟩
              | (simp [intOf]; omega)
          · go_wp2
            go_region
            all_goals go_wp2
            all_goals go_roundw
            all_goals first
              | exact ⟨kk + 1, A.set q (UInt8.ofNat (A[q].toNat ^^^ 32)), by go_num, by omega, (HF.out 32 rfl).1, (HF.out 32 rfl).2, by simpa using hAl, (B.setCell (Nat.le_refl _) _).drew⟩
              | (simp [intOf]; omega)
          · go_wp2
            go_region
            all_goals go_wp2
            all_goals go_roundw
            all_goals first
              | exact ⟨kk + 1, A.set q (UInt8.ofNat (A[q].toNat ^^^ 16)), by go_num, by omega, (HF.out 16 rfl).1, (HF.out 16 rfl).2, by simpa using hAl, (B.setCell (Nat.le_refl _) _).drew⟩
              | (simp [intOf]; omega)
          · go_wp2
            go_region
            all_goals go_wp2
            all_goals go_roundw
            all_goals first
              | exact ⟨kk + 1, A.set q (UInt8.ofNat (A[q].toNat ^^^ 8)), by go_num, by omega, (HF.out 8 rfl).1, (HF.out 8 rfl).2, by simpa using hAl, (B.setCell (Nat.le_refl _) _).drew⟩
              | (simp [intOf]; omega)
          · go_wp2
            go_region
            all_goals go_wp2
            all_goals go_roundw
            all_goals first
              | exact ⟨kk + 1, A.set q (UInt8.ofNat (A[q].toNat ^^^ 4)), by go_num, by omega, (HF.out 4 rfl).1, (HF.out 4 rfl).2, by simpa using hAl, (B.setCell (Nat.le_refl _) _).drew⟩
              | (simp [intOf]; omega)
          · go_wp2
            go_region
            all_goals go_wp2
            all_goals go_roundw
            all_goals first
              | exact ⟨kk + 1, A.set q (UInt8.ofNat (A[q].toNat ^^^ 2)), by go_num, by omega, (HF.out 2 rfl).1, (HF.out 2 rfl).2, by simpa using hAl, (B.setCell (Nat.le_refl _) _).drew⟩
              | (simp [intOf]; omega)
          · go_wp2
            go_region
            all_goals go_wp2
            all_goals go_roundw
            all_goals first
              | exact ⟨kk + 1, A.set q (UInt8.ofNat (A[q].toNat ^^^ 1)), by go_num, by omega, (HF.out 1 rfl).1, (HF.out 1 rfl).2, by simpa using hAl, (B.setCell (Nat.le_refl _) _).drew⟩
              | (simp [intOf]; omega)
    · obtain rfl : kk = 16 := by omega
      have hcv := run_convert_bytes_back (P := Try.prog) wr 79 9 5 ⟨w.heap.size, 0, none⟩ cap A Try.underlying79 Try.underlying5 Try.underlying9 (fun j hj => by rw [add0]; exact hrow.c j hj)
      rw [hAl] at hcv
      have HZ : Hid ((⟨A.toArray⟩ : ByteArray).size = s.size ∧ Turned s.data.toList (⟨A.toArray⟩ : ByteArray).data.toList p (y * 2 + 1) 16) := ⟨by show A.toArray.size = s.size; rw [List.size_toArray]; exact hAl, by rw [HM.out]; exact HT.out⟩
      generalize (⟨A.toArray⟩ : ByteArray) = t at *
      clear HT hrow
      go_wp2
      go_ret
      exact ⟨⟨t, p, y, rfl, HZ.out.1, by omega, HZ.out.2⟩, B⟩
end Go.Proofs.Ytlppphmnegdhoaa
