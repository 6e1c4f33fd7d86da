/-
  The list that is handed in, with a mark in its spare room.
-/
import Derived.Test.YtlppphmnegdhoaaWri4
import Derived.Test.YtlppphmnegdhoaaMark
import Derived.Laws.CopyOwn
namespace Go.Proofs.Ytlppphmnegdhoaa
set_option linter.unusedVariables false
open Go.RowKit
open M
attribute [local go_sem ↓] Go.wp_at_zero Go.wp_at_succ

theorem recsC_len (l : List M.Rec) : (recsC l).length = l.length * 3 := by
  induction l with
  | nil => rfl
  | cons r l ih =>
    have e : recsC (r :: l) = .int .i64 r.kind :: .int .i64 r.n :: .string r.s :: recsC l := by simp [recsC, recC]
    rw [e]; simp [ih]; omega
theorem recsC_one (l : List M.Rec) : ∀ v ∈ recsC l, v.oneCell' = true := by
  intro v hv
  simp only [recsC, List.mem_flatten, List.mem_map] at hv
  obtain ⟨x, ⟨r, _, rfl⟩, hx⟩ := hv
  exact recC_one r v hx
/-- the cells of a list, one by one -/
theorem recsAt_cells {w : World} {b off : Nat} {l : List M.Rec} (h : ∀ i (h : i < l.length), w.cell? ⟨b, off + i * 3, none⟩ = some (.int .i64 l[i].kind) ∧ w.cell? ⟨b, off + i * 3 + 1, none⟩ = some (.int .i64 l[i].n) ∧ w.cell? ⟨b, off + i * 3 + 2, none⟩ = some (.string l[i].s)) :
    ∀ j v, (recsC l)[j]? = some v → w.cell? ⟨b, off + j, none⟩ = some v := by
  intro j v hj
  have hl : j < l.length * 3 := by
    have := (List.getElem?_eq_some_iff.1 hj).1
    rwa [recsC_len] at this
  have hi : j / 3 < l.length := by omega
  obtain ⟨c0, c1, c2⟩ := h (j / 3) hi
  obtain ⟨r0, r1, r2⟩ := recsC_at l (j / 3) hi
  obtain h0 | h0 | h0 : j = j / 3 * 3 ∨ j = j / 3 * 3 + 1 ∨ j = j / 3 * 3 + 2 := by omega
  · rw [h0, r0] at hj; rw [h0, c0]; exact hj
  · rw [h0, r1] at hj; rw [h0, ← Nat.add_assoc, c1]; exact hj
  · rw [h0, r2] at hj; rw [h0, ← Nat.add_assoc, c2]; exact hj

theorem info3 : (Try.prog.info? 57).map (·.size) = some 3 := by kernel_rfl
theorem copy_recs (w : World) (l : List M.Rec) (a : Option Addr) (c : Nat) (hat : RecsAt w a l.length l) (cur : Array Value) (hcur : cur.size = (l.length + 1) * 3) :
    ∃ (new : Array Value) (w2 : World), new.size = (l.length + 1) * 3 ∧ (∀ (j : Nat) (v : Value), (recsC l)[j]? = some v → new[j]? = some v) ∧ w2.heap[w.heap.size]? = some (.cells new 57 (0, 0)) ∧ w2.heap.size = w.heap.size + 1 ∧ Below w.heap.size w w2 ∧
      ∀ ty, (Builtin.copy_ #[22, 22] ty #[.slice (some ⟨w.heap.size, 0, none⟩) (l.length + 1) (l.length + 1), .slice a l.length c]).run Try.prog (w.alloc (.cells cur 57)) = .ok (goInt l.length) w2 := by
  obtain ⟨i, hq⟩ : ∃ i, Try.prog.info? 57 = some i := by
    cases h : Try.prog.info? 57 with
    | none => have := info3; rw [h] at this; simp at this
    | some i => exact ⟨i, rfl⟩
  have hi : i.size = 3 := by have := info3; rw [hq] at this; simpa using this
  have hmin : Nat.min l.length (l.length + 1) = l.length := Nat.min_eq_left (by omega)
  have hheap : (w.alloc (.cells cur 57)).heap[w.heap.size]? = some (.cells cur 57 (0, 0)) := heap_alloc_new w _
  have hb : Below w.heap.size w (w.alloc (.cells cur 57)) := (Below.refl _ _).alloc (Nat.le_refl _) _
  have hsz : (w.alloc (.cells cur 57)).heap.size = w.heap.size + 1 := by simp
  rcases hat.cells with rfl | ⟨b, off, rfl, hbw, hcells⟩
  · refine ⟨cur, _, hcur, fun j v h => by simp [recsC] at h, hheap, hsz, hb, fun ty => ?_⟩
    have hl : ∀ (x : Addr), (loadCells x 0).run Try.prog (w.alloc (.cells cur 57)) = .ok #[] (w.alloc (.cells cur 57)) := fun x => by simpa using run_loadCells_list (P := Try.prog) (w.alloc (.cells cur 57)) x [] (by simp)
    cases a <;> simp [Builtin.copy_, run_underlying Try.underlying22, Builtin.lenOf, Builtin.firstCells, sizeOf, typeInfo, hq, storeCells, hl]
  · have hc := recsAt_cells hcells
    have hlen := recsC_len l
    have hsrc : ∀ j v, (recsC l)[j]? = some v → (w.alloc (.cells cur 57)).cell? ((⟨b, off, none⟩ : Addr).add j) = some v := fun j v h => by
      have e : (⟨b, off, none⟩ : Addr).add j = ⟨b, off + j, none⟩ := by unfold Addr.add; split <;> simp_all
      rw [e, World.cell?_alloc_past _ _ _ hbw]
      exact hc j v h
    have hl := run_loadCells_list (P := Try.prog) (w.alloc (.cells cur 57)) ⟨b, off, none⟩ (recsC l) hsrc
    have hst := run_storeCells_at Try.prog w.heap.size 0 57 (recsC l) 0 cur (w.alloc (.cells cur 57)) hheap (by rw [hlen]; omega) (recsC_one l)
    rw [hlen] at hl
    refine ⟨(recsC l ++ cur.toList.drop (recsC l).length).toArray, (w.alloc (.cells cur 57)).setRow w.heap.size (recsC l ++ cur.toList.drop (recsC l).length).toArray, ?_, fun j v h => ?_, setRow_heap _ _ _ _ _ _ hheap, by rw [setRow_size, hsz], below_setRow hb (Nat.le_refl _) _, fun ty => ?_⟩
    · simp [hlen, hcur]; omega
    · have hj := (List.getElem?_eq_some_iff.1 h).1
      simp only [List.getElem?_toArray]
      rw [List.getElem?_append_left hj]; exact h
    · simp [Builtin.copy_, run_underlying Try.underlying22, Builtin.lenOf, Builtin.firstCells, sizeOf, typeInfo, hq, hi, hmin, hl, hst]

theorem room_row {w : World} {g cap : Nat} {cur : Array Value} (h : w.heap[g]? = some (.cells cur 57 (0, 0))) (hc : cur.size = cap * 3) : Room w g cap := by
  intro o ho
  have h1 : w.cell? ⟨g, o, none⟩ = cur[o]? := by simp [World.cell?, h]
  have h2 : w.frozen? ⟨g, o, none⟩ = false := by simp [World.frozen?, h]
  refine ⟨?_, h2⟩
  rw [h1, Array.getElem?_eq_getElem (by omega)]; rfl
theorem roomy_world (w2 : World) (g : Nat) (l : List M.Rec) (u0 u1 u2 : Value) (t : Obj) (hg : g < w2.heap.size) (hc : ∀ (j : Nat) (v : Value), (recsC l)[j]? = some v → w2.cell? ⟨g, j, none⟩ = some v)
    (c0 : w2.cell? ⟨g, l.length * 3, none⟩ = some u0) (c1 : w2.cell? ⟨g, l.length * 3 + 1, none⟩ = some u1) (c2 : w2.cell? ⟨g, l.length * 3 + 2, none⟩ = some u2) :
    RecsAt (stored3 w2 g (l.length * 3) (.int .i64 7) (.int .i64 (-7)) (.string ⟨#[109, 97, 114, 107]⟩) t) (some ⟨g, 0, none⟩) l.length l ∧ RecsAt (stored3 w2 g (l.length * 3) (.int .i64 7) (.int .i64 (-7)) (.string ⟨#[109, 97, 114, 107]⟩) t) (some ⟨g, l.length * 3, none⟩) 1 [markR] ∧ g < (stored3 w2 g (l.length * 3) (.int .i64 7) (.int .i64 (-7)) (.string ⟨#[109, 97, 114, 107]⟩) t).heap.size := by
  have hz : g < (stored3 w2 g (l.length * 3) (.int .i64 7) (.int .i64 (-7)) (.string ⟨#[109, 97, 114, 107]⟩) t).heap.size := by
    unfold stored3; simp; omega
  refine ⟨⟨rfl, .inr ⟨g, 0, rfl, hz, fun i hi => ?_⟩⟩, ⟨rfl, .inr ⟨g, l.length * 3, rfl, hz, fun i hi => ?_⟩⟩, hz⟩
  · obtain ⟨r0, r1, r2⟩ := recsC_at l i hi
    rw [Nat.zero_add]
    exact ⟨(stored3_other w2 g _ _ _ _ t hg _ (by omega)).trans (hc _ _ r0), (stored3_other w2 g _ _ _ _ t hg _ (by omega)).trans (hc _ _ r1), (stored3_other w2 g _ _ _ _ t hg _ (by omega)).trans (hc _ _ r2)⟩
  · obtain rfl : i = 0 := by simpa using hi
    exact stored3_at w2 g (l.length * 3) _ _ _ u0 u1 u2 t hg c0 c1 c2

/-- what roomy makes: the same records, and a mark behind them -/
def RoomyPost (l : List M.Rec) (w w' : World) (e : Ending) : Prop :=
  ∃ g : Nat, e = .returned (.slice (some ⟨g, 0, none⟩) l.length (l.length + 1)) ∧ g < w'.heap.size ∧ w.heap.size ≤ g ∧ RecsAt w' (some ⟨g, 0, none⟩) l.length l ∧ RecsAt w' (some ⟨g, l.length * 3, none⟩) 1 [markR] ∧ Below w.heap.size w w'

set_option maxRecDepth 100000 in
set_option maxHeartbeats 1000000 in
theorem roomy_calls (n c : Nat) (a : Option Addr) (l : List M.Rec) (w : World) (hat : RecsAt w a n l) (hln : (l.length + 1) * 32 ≤ 281474976710656) :
    Calls Try.prog 15 #[.slice a n c] w fun e w' => RoomyPost l w w' e := by
  have hn := hat.len
  subst hn
  obtain ⟨i0, hi, hz0, hz1, hz2⟩ := info_parts Try.info57
  have hmk : ∀ u : World, (Instr.makeSlice 22 (.int .i64 ((l.length : Int) + 1)) (.int .i64 ((l.length : Int) + 1))).run Try.prog u =
      .ok (.slice (some ⟨u.heap.size, 0, none⟩) (l.length + 1) (l.length + 1)) (u.alloc (.cells (madeCells (Value.agg #[.int .i64 0, .int .i64 0, .string ⟨#[]⟩]).cells ((l.length + 1) * 3)) 57)) := fun u => by
    have h := run_make (P := Try.prog) u 22 57 i0 (.agg #[.int .i64 0, .int .i64 0, .string ⟨#[]⟩]) Try.underlying22 hi hz0 .i64 .i64 ((l.length : Int) + 1) ((l.length : Int) + 1) (by omega) (Int.le_refl _) (by rw [hz2]; omega) (by omega)
    have e : ((l.length : Int) + 1).toNat = l.length + 1 := by omega
    rw [e, hz1] at h
    exact h
  have hcs := size_madeCells (Value.agg #[.int .i64 0, .int .i64 0, .string ⟨#[]⟩]).cells ((l.length + 1) * 3)
  generalize madeCells (Value.agg #[.int .i64 0, .int .i64 0, .string ⟨#[]⟩]).cells ((l.length + 1) * 3) = cur at *
  obtain ⟨new, w2, hnew, hcells, hheap, hsz2, b2, hcopy⟩ := copy_recs w l a c hat cur hcs
  have hroom : Room w2 w.heap.size (l.length + 1) := room_row hheap hnew
  have HC : Hid (∀ (j : Nat) (v : Value), (recsC l)[j]? = some v → w2.cell? ⟨w.heap.size, j, none⟩ = some v) := fun j v h => by
    have h1 : w2.cell? ⟨w.heap.size, j, none⟩ = new[j]? := by simp [World.cell?, hheap]
    rw [h1]; exact hcells j v h
  obtain ⟨p0, f0⟩ := hroom (l.length * 3) (by omega)
  obtain ⟨p1, f1⟩ := hroom (l.length * 3 + 1) (by omega)
  obtain ⟨p2, f2⟩ := hroom (l.length * 3 + 2) (by omega)
  obtain ⟨u0, c0⟩ := Option.isSome_iff_exists.1 p0
  obtain ⟨u1, c1⟩ := Option.isSome_iff_exists.1 p1
  obtain ⟨u2, c2⟩ := Option.isSome_iff_exists.1 p2
  have hz2' : w.heap.size < w2.heap.size := by omega
  have HR : Hid (w2.heap.size = w.heap.size + 1) := hsz2
  clear hcells hheap hnew hroom hcs p0 p1 p2 hsz2 hz1 hz2 hi hz0
  go_enter Try.func15, Try.ntmps15
  go_wp2_with fail
  refine (mark_calls _).mono ?_
  rintro e w3 ⟨rfl, hw3⟩
  subst hw3
  go_wp2
  go_ret
  obtain ⟨q1, q2, q3⟩ := roomy_world w2 w.heap.size l u0 u1 u2 (Obj.cells #[.int .i64 7, .int .i64 (-7), .string ⟨#[109, 97, 114, 107]⟩] 57) hz2' HC.out c0 c1 c2
  exact ⟨w.heap.size, rfl, q3, Nat.le_refl _, q1, q2, (((b2.setCell (by simp) _).setCell (by simp) _).setCell (by simp) _).alloc (by simp; omega) _⟩

set_option maxRecDepth 100000 in
set_option maxHeartbeats 2000000 in
theorem still_calls (g n c : Nat) (a : Option Addr) (l : List M.Rec) (w : World) (hat : RecsAt w a n l) (h1 : RecsAt w (some ⟨g, 0, none⟩) l.length l) (h2 : RecsAt w (some ⟨g, l.length * 3, none⟩) 1 [markR]) (hln : l.length ≤ 140737488351232) (hg : g < w.heap.size) :
    Calls Try.prog 17 #[.slice (some ⟨g, 0, none⟩) l.length (l.length + 1), .slice a n c] w fun e w' => e = .returned (.bool true) ∧ Below w.heap.size w w' := by
  have hn := hat.len
  subst hn
  have hk2 : IntKind.i64.wrap ((l.length : Int) + 1) = (l.length : Int) + 1 := by rw [IntKind.wrap_i64]; omega
  have hk0 : (0 : Int) ≤ (l.length : Int) := by omega
  have hk1 : (l.length : Int) + 1 ≤ ((l.length + 1 : Nat) : Int) := by omega
  go_enter Try.func17, Try.ntmps17
  go_wp2_with fail
  refine (same_calls _ _ _ _ _ _ l _ h1 hat (by unfold maxLen; omega)).mono ?_
  rintro e w1 ⟨rfl, q1, rfl⟩
  have HS : Hid (∀ q, Calls Try.prog 22 #[.slice (some ⟨g, l.length * 3, none⟩) 1 1, .slice (some ⟨w.heap.size + 1, 0, none⟩) 1 1] (((w.alloc (.cells #[.int .i64 7, .int .i64 (-7), .string ⟨#[109, 97, 114, 107]⟩] 57)).alloc (.cells #[.int .i64 7, .int .i64 (-7), .string ⟨#[109, 97, 114, 107]⟩] 57)).drewN q)
      fun e w' => e = .returned (.bool true) ∧ Below w.heap.size w w') := fun q => by
    have hb1 : Below w.heap.size w (((w.alloc (.cells #[.int .i64 7, .int .i64 (-7), .string ⟨#[109, 97, 114, 107]⟩] 57)).alloc (.cells #[.int .i64 7, .int .i64 (-7), .string ⟨#[109, 97, 114, 107]⟩] 57)).drewN q) := below_drewN (((Below.refl _ _).alloc (Nat.le_refl _) _).alloc (by simp) _) _
    refine (same_calls _ _ _ _ _ _ [markR] _ (h2.below hb1) ⟨rfl, .inr ⟨_, 0, rfl, ?_, fun i hi => ?_⟩⟩ (by unfold maxLen; simp)).mono ?_
    · simp
    · obtain rfl : i = 0 := by simpa using hi
      simp [go_sem, markR]
    · rintro e w2 ⟨rfl, q2, rfl⟩
      exact ⟨rfl, below_drewN hb1 _⟩
  clear h1 h2 hat
  go_wp2_with fail
  go_region_with (first
    | (go_at_call 46; refine (mark_calls _).mono ?_; rintro e w1 ⟨rfl, rfl⟩)
    | (go_at_call 22; refine (HS.out (q1 + 1)).mono ?_; rintro e w2 ⟨rfl, hb2⟩))
  all_goals
    go_wp2
    go_ret
    exact ⟨rfl, hb2⟩

set_option maxHeartbeats 400000 in
theorem sums_calls (s : ByteArray) (w : World) (hs : s.size ≤ maxLen) :
    Calls Try.prog 19 #[.string s] w fun e w' => e = .returned (.bool true) ∧ w' = w := by
  go_enter Try.func19, Try.ntmps19
  go_wp2_with fail
  refine (rsum_calls s _ hs).mono ?_
  rintro e w1 ⟨rfl, rfl⟩
  go_wp2_with fail
  refine (dsum_calls s _ hs).mono ?_
  rintro e w1 ⟨rfl, rfl⟩
  go_wp2
  go_ret
  exact ⟨by simp, rfl⟩

set_option maxRecDepth 100000 in
set_option maxHeartbeats 1000000 in
theorem writes_walk (n c : Nat) (ad : Option Addr) (l : List M.Rec) (a b : ByteArray) (w : World) (hat : RecsAt w ad n l) (hln : l.length * 32 ≤ 140737488351232) (ham : a.size ≤ maxLen) (hbm : b.size ≤ maxLen) :
    Calls Try.prog 3 #[.slice ad n c, .string a, .string b] w fun e w' => e = .returned (.bool true) ∧ Below w.heap.size w w' := by
  go_enter Try.func3, Try.ntmps3
  go_wp2_with fail
  refine (roomy_calls n c ad l _ hat (by omega)).mono ?_
  rintro e w1 ⟨g, rfl, hg, hwg, q1, q2, b1⟩
  go_wp2_with fail
  refine (write_calls _ _ _ l a b _ q1 (by omega) ham hbm).mono ?_
  rintro e w2 ⟨⟨t, er, rfl, h1⟩, b2⟩
  have B2 := b1.trans (b2.mono b1.size)
  go_wp2_with fail
  refine (still_calls g n c ad l _ (hat.below B2) (q1.below b2) (q2.below b2) (by omega) (by have := b2.size; omega)).mono ?_
  rintro e w3 ⟨rfl, b3⟩
  have B3 := B2.trans (b3.mono B2.size)
  go_wp2_with fail
  refine (dwrite_calls n c ad l a b _ (hat.below B3) (by omega) ham hbm).mono ?_
  rintro e w4 ⟨⟨t', er', rfl, h2⟩, b4⟩
  have B4 := B3.trans (b4.mono B3.size)
  obtain ⟨e1, e2⟩ := writeSpec_same h1 h2
  obtain rfl : t = t' := ba_ext e1
  subst e2
  clear h1 h2 e1 q1 q2 hat
  go_wp2_with fail
  refine (sums_calls a _ ham).mono ?_
  rintro e w5 ⟨rfl, rfl⟩
  go_wp2_with fail
  refine (sums_calls b _ hbm).mono ?_
  rintro e w6 ⟨rfl, rfl⟩
  go_wp2
  go_ret
  exact ⟨rfl, B4⟩
end Go.Proofs.Ytlppphmnegdhoaa
