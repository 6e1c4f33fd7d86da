/-
  The document's answer: numbers and sums as bytes, and what it writes.
-/
import Derived.Test.YtlppphmnegdhoaaReadD
import Derived.Laws.BytesArg

namespace Go.Proofs.Ytlppphmnegdhoaa
set_option linter.unusedVariables false
open Go.RowKit
open M

theorem ba_append (a b : ByteArray) : (a ++ b).data.toList = a.data.toList ++ b.data.toList := by simp [ByteArray.data_append]
theorem numE_step (x : Nat) (h : 128 ≤ x) (hx : x < 2097152) : numE x = [UInt8.ofNat (128 + x % 128)] ++ numE (x / 128) := by
  unfold numE
  rw [if_neg (by omega)]
  by_cases h2 : x < 16384
  · rw [if_pos h2, if_pos (by omega)]; rfl
  · rw [if_neg h2, if_neg (by omega), if_pos (by omega)]
    have e : x / 16384 = x / 128 / 128 := by omega
    rw [e]; rfl
theorem u8_ofNat_int (a : Nat) : UInt8.ofNat (a : Int).toNat = UInt8.ofNat a := by simp
/-- a new row of bytes becomes a text -/
theorem conv_one (a : Int) : ∃ t : ByteArray, t.data.toList = [UInt8.ofNat a.toNat] ∧ ∀ u : World, (convert 79 9 (.slice (some ⟨u.heap.size, 0, none⟩) 1 1)).run Try.prog (u.alloc (.cells #[.int .u8 a] 5)) = .ok (.string t) (u.alloc (.cells #[.int .u8 a] 5)) := by
  refine ⟨strOfNums [a], rfl, fun u => ?_⟩
  refine run_convert_bytes_arg _ 79 5 Try.underlying79 Try.underlying5 _ 0 1 1 [a] rfl (fun i hi => ?_) 9 Try.underlying9
  obtain rfl : i = 0 := by omega
  simp
theorem conv_two (a b : Int) : ∃ t : ByteArray, t.data.toList = [UInt8.ofNat a.toNat, UInt8.ofNat b.toNat] ∧ ∀ u : World, (convert 79 9 (.slice (some ⟨u.heap.size, 0, none⟩) 2 2)).run Try.prog (u.alloc (.cells #[.int .u8 a, .int .u8 b] 5)) = .ok (.string t) (u.alloc (.cells #[.int .u8 a, .int .u8 b] 5)) := by
  refine ⟨strOfNums [a, b], rfl, fun u => ?_⟩
  refine run_convert_bytes_arg _ 79 5 Try.underlying79 Try.underlying5 _ 0 2 2 [a, b] rfl (fun i hi => ?_) 9 Try.underlying9
  obtain rfl | rfl : i = 0 ∨ i = 1 := by omega
  · simp
  · simp

set_option maxRecDepth 100000 in
set_option maxHeartbeats 400000 in
theorem dtwo_calls (v : Nat) (w : World) (hv : v < 65536) :
    Calls Try.prog 77 #[.int .i64 v] w fun e w' => (∃ t : ByteArray, e = .returned (.string t) ∧ t.data.toList = twoE v) ∧ Below w.heap.size w w' := by
  obtain ⟨t, ht, hr⟩ := conv_two ((v : Int) / 256) ((v : Int) % 256)
  have HT : Hid (t.data.toList = twoE v) := by
    show t.data.toList = twoE v
    have e1 : ((v : Int) / 256).toNat = v / 256 := by omega
    have e2 : ((v : Int) % 256).toNat = v % 256 := by omega
    rw [ht, twoE, e1, e2]
  clear ht
  go_enter Try.func77, Try.ntmps77
  go_wp2
  go_ret
  exact ⟨⟨t, rfl, HT.out⟩, (Below.refl _ _).alloc (Nat.le_refl _) _⟩

set_option maxRecDepth 100000 in
set_option maxHeartbeats 400000 in
theorem two_calls (v : Nat) (w : World) (hv : v < 65536) :
    Calls Try.prog 75 #[.int .i64 v] w fun e w' => (∃ t : ByteArray, e = .returned (.string t) ∧ t.data.toList = twoE v) ∧ Below w.heap.size w w' := by
  obtain ⟨t, ht, hr⟩ := conv_two ((v : Int) / 256) ((v : Int) % 256)
  have HT : Hid (t.data.toList = twoE v) := by
    show t.data.toList = twoE v
    have e1 : ((v : Int) / 256).toNat = v / 256 := by omega
    have e2 : ((v : Int) % 256).toNat = v % 256 := by omega
    rw [ht, twoE, e1, e2]
  clear ht
  go_enter Try.func75, Try.ntmps75
  go_wp2
  go_ret
  exact ⟨⟨t, rfl, HT.out⟩, (Below.refl _ _).alloc (Nat.le_refl _) _⟩

set_option maxRecDepth 100000 in
set_option maxHeartbeats 400000 in
theorem numeral_calls (v : Nat) (w : World) (hv : v < 2097152) :
    Calls Try.prog 76 #[.int .i64 v] w fun e w' => (∃ t : ByteArray, e = .returned (.string t) ∧ t.data.toList = numE v) ∧ Below w.heap.size w w' := by
  go_enter Try.func76, Try.ntmps76
  go_wp2
  go_loopw [0, 3] (fun vv t wr => ∃ (x : Nat) (s : ByteArray), vv = .int .i64 x ∧ t = .string s ∧ x < 2097152 ∧ Hid (s.data.toList ++ numE x = numE v) ∧ (s.size = 0 ∨ s.size = 1 ∧ x < 16384 ∨ s.size = 2 ∧ x < 128) ∧ Below w.heap.size w wr) (fun vv _ _ => (intOf vv).toNat)
  case atStart => exact ⟨v, ⟨#[]⟩, rfl, rfl, hv, rfl, .inl rfl, Below.refl _ _⟩
  case round =>
    obtain ⟨x, s, rfl, rfl, hx, H, hsz, hb⟩ := hrel
    by_cases hlt : x < 128
    · obtain ⟨t, ht, hr⟩ := conv_one (x : Int)
      have hr2 := hr wr
      clear hr
      have hts : t.size = 1 := by rw [← ba_len, ht]; rfl
      have hss : s.size + t.size ≤ 9223372036854775807 := by omega
      have HT : Hid ((s ++ t).data.toList = numE v) := by
        show (s ++ t).data.toList = numE v
        rw [ba_append, ht, ← H.out]
        simp [numE, hlt]
      clear ht hts
      go_wp2
      go_ret
      exact ⟨⟨_, rfl, HT.out⟩, hb.alloc hb.size _⟩
    · obtain ⟨t, ht, hr⟩ := conv_one (128 + (x : Int) % 128)
      have hr2 := hr wr
      clear hr
      have hts : t.size = 1 := by rw [← ba_len, ht]; rfl
      have hss : s.size + t.size ≤ 9223372036854775807 := by omega
      have HT : Hid ((s ++ t).data.toList ++ numE (x / 128) = numE v) := by
        show (s ++ t).data.toList ++ numE (x / 128) = numE v
        have e1 : (128 + (x : Int) % 128).toNat = 128 + x % 128 := by omega
        rw [ba_append, ht, ← H.out, e1, List.append_assoc]
        congr 1
        exact (numE_step x (by omega) hx).symm
      have HS : Hid ((s ++ t).size = s.size + 1) := by
        show (s ++ t).size = s.size + 1
        rw [← ba_len, ba_append, List.length_append, ba_len, ba_len, hts]
      clear ht hts
      go_wp2
      go_roundw
      case rel => exact ⟨x / 128, s ++ t, by go_num, rfl, by omega, HT.out, by rw [HS.out]; omega, hb.alloc hb.size _⟩
      case measure => simp [intOf]; omega
end Go.Proofs.Ytlppphmnegdhoaa
