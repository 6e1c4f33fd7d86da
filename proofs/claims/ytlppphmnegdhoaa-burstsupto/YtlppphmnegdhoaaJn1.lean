/-
  The program's join: what becomes of some bytes of the text between; the walks' pieces.
-/
import Derived.Test.YtlppphmnegdhoaaJn0
import Derived.Test.YtlppphmnegdhoaaJw2
import Derived.Test.YtlppphmnegdhoaaPl3
namespace Go.Proofs.Ytlppphmnegdhoaa
set_option linter.unusedVariables false
open Go.RowKit
open M

theorem SLAt.keepG {b a : Nat} {w w' : World} {S : SL} {vo vr : Value} (h : SLAt b w S vo vr) (hg : w.grownBy w' (some a)) (ha : a < b) : SLAt b w' S vo vr := by
  have h1 := h.out.lt
  have h2 := h.s.lt
  refine ⟨h.box.keep (hg.block b h.lt (by simp; omega)), h.out.kept hg ?_, h.s.kept hg ?_, by have := hg.size; have := h.lt; omega⟩
  · right; intro e; have := (h1 a e).1; omega
  · right; intro e; have := (h2 a e).1; omega

theorem piece_any (b c i p : Nat) (ad : Option Addr) (l : List M.Rec) (w : World) (h : WkAt b w (.slice ad l.length c) i p) (hat : RecsAt w ad l.length l) (hok : okAll l) (hA : lenA l ≤ 4096) (hB : lenB l ≤ 4096) (hw : Wk l i p) :
    Calls Try.prog 86 #[.pointer (some ⟨b, 0, none⟩)] w fun e w' => e = .returned (.agg #[.int .i64 (pcs l i p).kind, .int .i64 (pcs l i p).n, .string (pcs l i p).s]) ∧ Below w.heap.size w w' := by
  have hn := count_le l hok
  by_cases hi : i < l.length
  · rw [pcs_in hi]
    have h3 := mem_n l hok hA hB l[i] (List.getElem_mem hi)
    exact piece_calls b c i p ad l w h hat hok (by omega) hi (hw.2 hi) (by omega)
  · rw [pcs_out hi]
    obtain rfl : i = l.length := by have := hw.1; omega
    exact piece_end b l.length c p ad w h (by omega)

set_option maxRecDepth 100000 in
set_option maxHeartbeats 4000000 in
theorem addBoth_calls (b : Nat) (S : SL) (vo vr : Value) (r q : M.Rec) (n : Nat) (E : List Ev) (w : World) (h : SLAt b w S vo vr) (hI : S.Is E) (hA : evA E ≤ 4096) (hB : evB E ≤ 4096) (hr : okRec r = true) (hq : okRec q = true) (h2 : r.kind ≠ 2) (h1 : q.kind ≠ 1) (hn0 : 0 < n) (hn : (n : Int) ≤ r.n) (hm : (n : Int) ≤ q.n) (hn4 : n ≤ 4096) (hq4 : q.n ≤ 4096) :
    Calls Try.prog 89 #[.pointer (some ⟨b, 0, none⟩), .agg #[.int .i64 r.kind, .int .i64 r.n, .string r.s], .agg #[.int .i64 q.kind, .int .i64 q.n, .string q.s], .int .i64 n] w fun e w' => e = .returned (.tuple #[]) ∧ (∃ S' vo' vr', SLAt b w' S' vo' vr' ∧ S'.Is (E ++ bothE r q n)) ∧ Below b w w' := by
  obtain ⟨b1, b2, b3, b4⟩ := SL.bounds hI hA hB
  have kr := (okRec_iff _).1 hr
  have kq := (okRec_iff _).1 hq
  have hlt := h.lt
  obtain ⟨rk, rn, rs⟩ := r
  obtain ⟨qk, qn, qs⟩ := q
  simp only at kr kq h2 h1 hn hm hq4
  have er : rk = 0 ∨ rk = 1 := by omega
  have eq : qk = 0 ∨ (qk = 2 ∧ n ≤ qs.size) := by omega
  have hqs : qs.size ≤ 4096 := by omega
  have BA : Below b w ((w.alloc (.cells #[.int .i64 rk, .int .i64 rn, .string rs] 57)).alloc (.cells #[.int .i64 qk, .int .i64 qn, .string qs] 57)) := ((Below.refl b w).alloc (by omega) _).alloc (by simp; omega) _
  have hS := (h.alloc (.cells #[.int .i64 rk, .int .i64 rn, .string rs] 57)).alloc (.cells #[.int .i64 qk, .int .i64 qn, .string qs] 57)
  have HI : Hid (S.Is E) := hI
  clear hI kr kq h2 h1
  rcases er with rfl | rfl <;> rcases eq with rfl | ⟨rfl, hns⟩
  · have hk1 : okRec ⟨0, (n : Int), ⟨#[]⟩⟩ = true := (okRec_iff _).2 ⟨by simp only; omega, .inl ⟨.inl rfl, rfl⟩⟩
    have HE : Hid (bothE ⟨0, rn, rs⟩ ⟨0, qn, qs⟩ n = expR ⟨0, (n : Int), ⟨#[]⟩⟩) := by show _ = _; simp [bothE, expR]
    go_enter Try.func89, Try.ntmps89
    go_wp2_with fail
    refine (add_calls b S vo vr ⟨0, (n : Int), ⟨#[]⟩⟩ _ hS hk1 (by simp only; omega) b1 b2 b3 b4).mono ?_
    rintro e w1 ⟨rfl, ⟨vo', vr', h1⟩, F1, B1⟩
    go_wp2
    go_end0
    exact ⟨rfl, ⟨_, vo', vr', h1, by rw [HE.out]; exact SL.is_add HI.out hk1⟩, BA.trans B1⟩
  · have hk1 : okRec ⟨2, (n : Int), qs.extract 0 n⟩ = true := (okRec_iff _).2 ⟨by simp only; omega, .inr ⟨rfl, by simp only [ByteArray.size_extract]; omega⟩⟩
    have HE : Hid (bothE ⟨0, rn, rs⟩ ⟨2, qn, qs⟩ n = expR ⟨2, (n : Int), qs.extract 0 n⟩) := by
      show _ = _
      simp only [bothE, expR, Lib.extract_data]
      simp
    have g1 : (n : Int) ≤ (qs.size : Int) := by omega
    go_enter Try.func89, Try.ntmps89
    go_wp2_with fail
    refine (add_calls b S vo vr ⟨2, (n : Int), qs.extract 0 n⟩ _ hS hk1 (by simp only; omega) b1 b2 b3 b4).mono ?_
    rintro e w1 ⟨rfl, ⟨vo', vr', h1⟩, F1, B1⟩
    go_wp2
    go_end0
    exact ⟨rfl, ⟨_, vo', vr', h1, by rw [HE.out]; exact SL.is_add HI.out hk1⟩, BA.trans B1⟩
  · have hk1 : okRec ⟨1, (n : Int), ⟨#[]⟩⟩ = true := (okRec_iff _).2 ⟨by simp only; omega, .inl ⟨.inr rfl, rfl⟩⟩
    have HE : Hid (bothE ⟨1, rn, rs⟩ ⟨0, qn, qs⟩ n = expR ⟨1, (n : Int), ⟨#[]⟩⟩) := by show _ = _; simp [bothE, expR]
    go_enter Try.func89, Try.ntmps89
    go_wp2_with fail
    refine (add_calls b S vo vr ⟨1, (n : Int), ⟨#[]⟩⟩ _ hS hk1 (by simp only; omega) b1 b2 b3 b4).mono ?_
    rintro e w1 ⟨rfl, ⟨vo', vr', h1⟩, F1, B1⟩
    go_wp2
    go_end0
    exact ⟨rfl, ⟨_, vo', vr', h1, by rw [HE.out]; exact SL.is_add HI.out hk1⟩, BA.trans B1⟩
  · have HE : Hid (bothE ⟨1, rn, rs⟩ ⟨2, qn, qs⟩ n = []) := by show _ = _; simp [bothE]
    go_enter Try.func89, Try.ntmps89
    go_wp2
    go_end0
    exact ⟨rfl, ⟨S, vo, vr, hS, by rw [HE.out, List.append_nil]; exact HI.out⟩, BA⟩
end Go.Proofs.Ytlppphmnegdhoaa
