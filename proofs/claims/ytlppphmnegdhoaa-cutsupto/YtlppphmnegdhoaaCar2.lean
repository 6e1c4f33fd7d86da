/-
  A text that is turned by raw records: what the statement's own functions answer.
-/
import Derived.Test.YtlppphmnegdhoaaCar1
namespace Go.Proofs.Ytlppphmnegdhoaa
set_option linter.unusedVariables false
open Go.RowKit
open M

set_option maxRecDepth 100000 in
set_option maxHeartbeats 400000 in
theorem pick_calls (c n : Int) (w : World) (h0 : -9223372036854775808 ≤ c) (h1 : c ≤ 9223372036854775807) (hn : 1 ≤ n) (hn2 : n ≤ 9223372036854775807) :
    Calls Try.prog 38 #[.int .i64 c, .int .i64 n] w fun e w' => (∃ x : Nat, e = .returned (.int .i64 x) ∧ (x : Int) < n) ∧ w' = w := by
  by_cases hc : c < 0
  · have hw1 : 0 ≤ -(c + 1) := by omega
    have hw2 : -(c + 1) ≤ 9223372036854775807 := by omega
    go_enter Try.func38, Try.ntmps38
    go_wp2
    go_ret
    have h2 : (-(c + 1)) % n < n := Int.emod_lt_of_pos _ (by omega)
    have h3 : 0 ≤ (-(c + 1)) % n := Int.emod_nonneg _ (by omega)
    exact ⟨⟨((-(c + 1)) % n).toNat, ret_int (by rw [← Int.neg_tmod, Int.tmod_eq_emod_of_nonneg hw1]; omega), by omega⟩, rfl⟩
  · have hc1 : 0 ≤ c := by omega
    go_enter Try.func38, Try.ntmps38
    go_wp2
    go_ret
    have h2 : c % n < n := Int.emod_lt_of_pos _ (by omega)
    have h3 : 0 ≤ c % n := Int.emod_nonneg _ (by omega)
    exact ⟨⟨(c % n).toNat, ret_int (by omega), by omega⟩, rfl⟩

set_option maxHeartbeats 400000 in
theorem fits_calls (a : ByteArray) (w : World) (ha : a.size ≤ maxLen) :
    Calls Try.prog 28 #[.string a] w fun e w' => e = .returned (.bool (decide (a.size ≤ 4096))) ∧ w' = w := by
  unfold maxLen at ha
  by_cases h : a.size ≤ 4096
  · have h1 : (a.size : Int) ≤ 4096 := by omega
    go_enter Try.func28, Try.ntmps28
    go_wp2
    go_ret
    exact ⟨ret_bool (by simp [h]), rfl⟩
  · have h1 : ¬ (a.size : Int) ≤ 4096 := by omega
    go_enter Try.func28, Try.ntmps28
    go_wp2
    go_ret
    exact ⟨ret_bool (by simp), rfl⟩

set_option maxRecDepth 100000 in
set_option maxHeartbeats 1000000 in
theorem kwritten_calls (n c : Nat) (ad : Option Addr) (l : List M.Rec) (a b : ByteArray) (w : World) (hat : RecsAt w ad n l) (hln : l.length ≤ 140737488351232) (ha : a.size ≤ 4096) (hb : b.size ≤ 4096) (ho : okAll l) (hl : leadsL l a.data.toList b.data.toList = true) :
    Calls Try.prog 29 #[.slice ad n c, .string a, .string b] w fun e w' => (∃ t : ByteArray, e = .returned (.tuple #[.string t, .bool true]) ∧ t.data.toList = writE ⟨a.size, b.size, sum a.data.toList, sum b.data.toList, l⟩ ∧ t.size ≤ 12352 ∧ 10 ≤ t.size) ∧ Below w.heap.size w w' := by
  go_enter Try.func29, Try.ntmps29
  go_wp2_with fail
  refine (write_calls n c ad l a b _ hat hln (by unfold maxLen; omega) (by unfold maxLen; omega)).mono ?_
  rintro e w1 ⟨⟨t, er, rfl, h1⟩, b1⟩
  obtain ⟨rfl, ht⟩ := write_ok ha hb ho hl h1
  obtain ⟨eA, eB⟩ := leads_len l _ _ ho hl
  rw [ba_len] at eA eB
  obtain ⟨h10, h12⟩ := writE_len a b l ha hb ho eA eB t ht
  have HT : Hid (t.data.toList = writE ⟨a.size, b.size, sum a.data.toList, sum b.data.toList, l⟩) := ht
  have g1 : (10 : Int) ≤ (t.size : Int) := by omega
  have g2 : (t.size : Int) ≤ 12352 := by omega
  clear h1 ht eA eB hl
  go_wp2
  go_ret2
  exact ⟨⟨t, rfl, HT.out, h12, h10⟩, b1⟩

set_option maxRecDepth 100000 in
set_option maxHeartbeats 1000000 in
theorem undone_calls (b t a : ByteArray) (l : List M.Rec) (w : World) (ha : a.size ≤ 4096) (hb : b.size ≤ 4096) (hs : t.size ≤ 12352) (ht : Tells t.data.toList ⟨a.size, b.size, sum a.data.toList, sum b.data.toList, l⟩) (hl : leadsL l a.data.toList b.data.toList = true) :
    Calls Try.prog 31 #[.string b, .string t, .string a] w fun e w' => e = .returned (.bool true) ∧ Below w.heap.size w w' := by
  go_enter Try.func31, Try.ntmps31
  go_wp2_with fail
  refine (undo_calls b t _ (by unfold maxLen; omega) (by unfold maxLen; omega)).mono ?_
  rintro e w1 ⟨⟨x, er, rfl, h1⟩, b1⟩
  obtain ⟨rfl, hx⟩ := undo_ok hb hs ht hl h1
  obtain rfl : x = a := ba_ext hx
  clear h1 hx ht hl
  go_wp2
  go_ret
  exact ⟨rfl, b1⟩

/-- how long the texts of raw records are together -/
def sumS : List M.Rec → Nat
  | [] => 0
  | r :: l => r.s.size + sumS l
theorem sumS_append (l m : List M.Rec) : sumS (l ++ m) = sumS l + sumS m := by
  induction l with
  | nil => simp [sumS]
  | cons r l ih => simp only [List.cons_append, sumS, ih]; omega
theorem sumS_take (l : List M.Rec) (k : Nat) (h : k < l.length) : sumS (l.take (k + 1)) = sumS (l.take k) + l[k].s.size ∧ sumS (l.take (k + 1)) ≤ sumS l := by
  have e := List.take_append_drop (k + 1) l
  have h1 := sumS_append (l.take (k + 1)) (l.drop (k + 1))
  rw [e] at h1
  refine ⟨?_, by omega⟩
  rw [List.take_succ_eq_append_getElem h, sumS_append]; simp [sumS]
def wfRec (r : M.Rec) : Prop := (-9223372036854775808 ≤ r.kind ∧ r.kind ≤ 9223372036854775807) ∧ (-9223372036854775808 ≤ r.n ∧ r.n ≤ 9223372036854775807)

/-- what moved answers: records that lead to the text that is made -/
def MovedPost (a : ByteArray) (raw : List M.Rec) (w w' : World) (e : Ending) : Prop :=
  ∃ (l : List M.Rec) (v : Value) (b : ByteArray), e = .returned (.tuple #[v, .string b]) ∧ okAll l ∧ leadsL l a.data.toList b.data.toList = true ∧ w'.ownsRow w.heap.size 57 3 v l.length (recsC l) ∧ l.length ≤ raw.length + 1 ∧ b.size ≤ a.size + sumS raw ∧ Below w.heap.size w w'
/-- how far it has come: what is behind, what was made, what is ahead -/
def Going (a : List UInt8) (L : List M.Rec) (bb aa : List UInt8) : Prop := okAll L ∧ ∃ pre, a = pre ++ aa ∧ leadsL L pre bb = true
theorem going_keep {a : List UInt8} {L : List M.Rec} {bb aa : List UInt8} (h : Going a L bb aa) (m : Nat) (hm : 0 < m) (hl : m ≤ aa.length) : Going a (L ++ [⟨0, (m : Int), ⟨#[]⟩⟩]) (bb ++ aa.take m) (aa.drop m) := by
  obtain ⟨ho, pre, e, hld⟩ := h
  have hx : (aa.take m).length = m := by rw [List.length_take]; omega
  obtain ⟨k1, k2⟩ := keep_leads (aa.take m) (fun h => by rw [h] at hx; simp at hx; omega)
  rw [hx] at k1 k2
  exact ⟨okAll_append ho (fun x hx => by simp at hx; rw [hx]; exact k1), pre ++ aa.take m, by rw [e, List.append_assoc, List.take_append_drop], leads_append L _ _ _ _ _ hld k2⟩
theorem going_drop {a : List UInt8} {L : List M.Rec} {bb aa : List UInt8} (h : Going a L bb aa) (s : ByteArray) (hs : 0 < s.size) : Going a (L ++ [⟨1, (s.size : Int), ⟨#[]⟩⟩]) (bb ++ s.data.toList) aa := by
  obtain ⟨ho, pre, e, hld⟩ := h
  have hx := ba_len s
  obtain ⟨k1, k2⟩ := drop_leads s.data.toList (fun h => by rw [h] at hx; simp at hx; omega)
  rw [hx] at k1 k2
  refine ⟨okAll_append ho (fun x hx => by simp at hx; rw [hx]; exact k1), pre, e, ?_⟩
  have := leads_append L _ _ _ _ _ hld k2
  rwa [List.append_nil] at this
theorem going_rest {a : List UInt8} {L : List M.Rec} {bb aa : List UInt8} (h : Going a L bb aa) (s : ByteArray) (m : Nat) (hm : 0 < m) (hl : m ≤ aa.length) (hs : s.data.toList = aa.take m) : Going a (L ++ [⟨2, (m : Int), s⟩]) bb (aa.drop m) := by
  obtain ⟨ho, pre, e, hld⟩ := h
  have hx : s.size = m := by rw [← ba_len, hs, List.length_take]; omega
  obtain ⟨k1, k2⟩ := rest_leads s (fun h => by have := ba_len s; rw [h] at this; simp at this; omega)
  rw [hx] at k1 k2
  refine ⟨okAll_append ho (fun x hx => by simp at hx; rw [hx]; exact k1), pre ++ aa.take m, by rw [e, List.append_assoc, List.take_append_drop], ?_⟩
  have := leads_append L _ _ _ _ _ hld k2
  rwa [List.append_nil, hs] at this
theorem going_end {a : List UInt8} {L : List M.Rec} {bb : List UInt8} (h : Going a L bb []) : okAll L ∧ leadsL L a bb = true := by
  obtain ⟨ho, pre, e, hld⟩ := h
  rw [List.append_nil] at e
  exact ⟨ho, by rw [e]; exact hld⟩

set_option maxRecDepth 100000 in
set_option maxHeartbeats 4000000 in
theorem moved_calls (n c : Nat) (ad : Option Addr) (raw : List M.Rec) (a : ByteArray) (w : World) (hat : RecsAt w ad n raw) (hwf : ∀ r ∈ raw, wfRec r) (hln : raw.length ≤ 1048576) (ha : a.size ≤ 1048576) (hS : sumS raw ≤ 1048576) :
    Calls Try.prog 27 #[.string a, .slice ad n c] w fun e w' => MovedPost a raw w w' e := by
  have hn := hat.len
  subst hn
  obtain ⟨i0, hi, hz0, hz1, hz2⟩ := info_parts Try.info57
  go_enter Try.func27, Try.ntmps27
  go_wp2
  go_loopw [0, 6, 7, 8] (fun x v y i wr => ∃ (k : Nat) (aa bb : ByteArray) (L : List M.Rec), k ≤ raw.length ∧ i = .int .i64 k ∧ x = .string aa ∧ y = .string bb ∧ wr.ownsRow w.heap.size 57 3 v L.length (recsC L) ∧ L.length ≤ k ∧ aa.size ≤ a.size ∧ bb.size + aa.size ≤ a.size + sumS (raw.take k) ∧ Hid (Going a.data.toList L bb.data.toList aa.data.toList) ∧ Below w.heap.size w wr) (fun _ _ _ i _ => raw.length - (intOf i).toNat)
  case atStart => exact ⟨0, a, ⟨#[]⟩, [], Nat.zero_le _, rfl, rfl, rfl, World.ownsRow_nil _ _ _ _, Nat.le_refl _, Nat.le_refl _, (by have h : (⟨#[]⟩ : ByteArray).size = 0 := rfl; simp only [h, sumS, List.take_zero]; omega), ⟨fun x hx => by simp at hx, [], rfl, rfl⟩, Below.refl _ _⟩
  case round =>
    obtain ⟨k, aa, bb, L, hk, rfl, rfl, rfl, hown, hLk, haz, hbz, HG, B⟩ := hrel
    have hz := B.size
    have hbz2 : bb.size ≤ 2097152 := by
      have e := sumS_append (raw.take k) (raw.drop k)
      rw [List.take_append_drop] at e
      omega
    by_cases hlt : k < raw.length
    · have hlt1 : (k : Int) < (raw.length : Int) := by omega
      have hno : raw ≠ [] := fun h => by rw [h] at hlt; simp at hlt
      obtain ⟨bk, off, ha', hbw, hcells⟩ := hat.cells.resolve_left hno
      obtain ⟨c0, c1, c2⟩ := hcells k hlt
      have d0 := (B.cell (by exact hbw)).trans c0
      have d1 := (B.cell (by exact hbw)).trans c1
      have d2 := (B.cell (by exact hbw)).trans c2
      have hwr := hwf raw[k] (List.getElem_mem hlt)
      obtain ⟨hS1, hS2⟩ := sumS_take raw k hlt
      unfold wfRec at hwr
      have HS1 : Hid (sumS (raw.take (k + 1)) = sumS (raw.take k) + raw[k].s.size) := hS1
      have hrs : raw[k].s.size ≤ 1048576 := by omega
      clear hcells c0 c1 c2 hno hS1 hS2
      subst ha'
      generalize raw[k] = r at *
      have hbw2 : bk < wr.heap.size := by omega
      go_wp2_with fail
      refine (pick_calls r.n ((aa.size : Int) + 1) _ hwr.2.1 hwr.2.2 (by omega) (by omega)).mono ?_
      rintro e w1 ⟨⟨m, rfl, hm⟩, hw⟩
      obtain rfl : wr = w1 := hw.symm
      clear hw
      go_wp2_with fail
      refine (pick_calls r.kind 3 _ hwr.1.1 hwr.1.2 (by omega) (by omega)).mono ?_
      rintro e w1 ⟨⟨kd, rfl, hkd⟩, hw⟩
      obtain rfl : wr = w1 := hw.symm
      clear hw hwr
      have hma : m ≤ aa.size := by omega
      have hkd3 : kd = 0 ∨ kd = 1 ∨ kd = 2 := by omega
      clear hkd hm
      rcases hkd3 with rfl | rfl | rfl
      · by_cases hm0 : 0 < m
        · have hm1 : (0 : Int) < (m : Int) := by omega
          have HX : Hid ((bb ++ aa.extract 0 m).size = bb.size + m) := by
            show _ = _
            rw [ByteArray.size_append', ByteArray.size_extract]; omega
          have hx : (aa.extract 0 m).size = m := by rw [ByteArray.size_extract]; omega
          have hcat : bb.size + (aa.extract 0 m).size ≤ 9223372036854775807 := by omega
          have HY : Hid ((aa.extract m aa.size).size = aa.size - m) := by show _ = _; rw [ByteArray.size_extract]; omega
          have HG2 : Hid (Going a.data.toList (L ++ [(⟨0, (m : Int), ⟨#[]⟩⟩ : M.Rec)]) (bb ++ aa.extract 0 m).data.toList (aa.extract m aa.size).data.toList) := by
            have h := going_keep HG.out m hm0 (by rw [ba_len]; omega)
            show Going _ _ _ _
            rw [ba_append, drop_ext, Lib.extract_data]
            simpa using h
          clear hx
          go_wp2_with (first
            | (at_builtin; refine wpList_append_own _ rfl (.tmp 67) (.tmp 70) 22 rfl w.heap.size 57 i0 (.agg #[.int .i64 0, .int .i64 0, .string ⟨#[]⟩]) 3 32 Try.underlying22 hi hz0 hz1 hz2 rfl (by decide) _ _ _ rfl (hown.alloc _) ⟨wr.heap.size, 0, none⟩ 1 1 (recC ⟨0, (m : Int), ⟨#[]⟩⟩) rfl rfl ?k1 ?k2 ?k3 ?k4 ?k5 ?_)
            | go_in)
          case k1 => exact recC_at wr ⟨0, (m : Int), ⟨#[]⟩⟩ _
          case k2 => exact recC_one _
          case k3 => unfold maxLen; omega
          case k4 => omega
          case k5 => simp; omega
          intro v' w3 hown3 hgrow _
          have B3 : Below w.heap.size w w3 := (B.alloc hz _).grown hgrow (by simp; omega) (fun k hk => (hown.lt k hk).1)
          rw [← recsC_snoc] at hown3
          have own4 : w3.ownsRow w.heap.size 57 3 v' (L ++ [(⟨0, (m : Int), ⟨#[]⟩⟩ : M.Rec)]).length (recsC (L ++ [(⟨0, (m : Int), ⟨#[]⟩⟩ : M.Rec)])) := by rw [List.length_append]; exact hown3
          have e0 := hown.lt
          have x0 : w3.cell? ⟨bk, off + k * 3, none⟩ = some (.int .i64 r.kind) := hgrow.cell (by rw [World.cell?_alloc_past _ _ _ hbw2]; exact d0) (fun e => by have := (e0 _ e.symm).1; simp at this; omega)
          have x1 : w3.cell? ⟨bk, off + k * 3 + 1, none⟩ = some (.int .i64 r.n) := hgrow.cell (by rw [World.cell?_alloc_past _ _ _ hbw2]; exact d1) (fun e => by have := (e0 _ e.symm).1; simp at this; omega)
          have x2 : w3.cell? ⟨bk, off + k * 3 + 2, none⟩ = some (.string r.s) := hgrow.cell (by rw [World.cell?_alloc_past _ _ _ hbw2]; exact d2) (fun e => by have := (e0 _ e.symm).1; simp at this; omega)
          clear hgrow hown hown3 d0 d1 d2 e0
          go_wp2
          go_roundw
          case rel => exact ⟨k + 1, aa.extract m aa.size, bb ++ aa.extract 0 m, _, by omega, by go_num, rfl, rfl, own4, by simp; omega, by rw [HY.out]; omega, by rw [HS1.out, HX.out, HY.out]; omega, HG2, B3⟩
          case measure => simp [intOf]; omega
        · have hm1 : ¬ (0 : Int) < (m : Int) := by omega
          go_wp2
          go_roundw
          case rel => exact ⟨k + 1, aa, bb, L, by omega, by go_num, rfl, rfl, hown, by omega, haz, by rw [HS1.out]; omega, HG.out, B⟩
          case measure => simp [intOf]; omega
      · cases hse : r.s.toList.isEmpty
        · have hsp : 0 < r.s.size := by
            rw [empty_iff] at hse
            exact Nat.pos_of_ne_zero (of_decide_eq_false hse)
          have hse2 : (r.s.toList == []) = false := by cases h : r.s.toList with
            | nil => rw [h] at hse; simp at hse
            | cons x y => rfl
          have HX : Hid ((bb ++ r.s).size = bb.size + r.s.size) := ByteArray.size_append' _ _
          have hcat : bb.size + r.s.size ≤ 9223372036854775807 := by omega
          have HG2 : Hid (Going a.data.toList (L ++ [(⟨1, (r.s.size : Int), ⟨#[]⟩⟩ : M.Rec)]) (bb ++ r.s).data.toList aa.data.toList) := by
            have h := going_drop HG.out r.s hsp
            show Going _ _ _ _
            rw [ba_append]
            exact h
          go_wp2_with (first
            | (at_builtin; refine wpList_append_own _ rfl (.tmp 43) (.tmp 51) 22 rfl w.heap.size 57 i0 (.agg #[.int .i64 0, .int .i64 0, .string ⟨#[]⟩]) 3 32 Try.underlying22 hi hz0 hz1 hz2 rfl (by decide) _ _ _ rfl (hown.alloc _) ⟨wr.heap.size, 0, none⟩ 1 1 (recC ⟨1, (r.s.size : Int), ⟨#[]⟩⟩) rfl rfl ?k1 ?k2 ?k3 ?k4 ?k5 ?_)
            | go_in)
          case k1 => exact recC_at wr ⟨1, (r.s.size : Int), ⟨#[]⟩⟩ _
          case k2 => exact recC_one _
          case k3 => unfold maxLen; omega
          case k4 => omega
          case k5 => simp; omega
          intro v' w3 hown3 hgrow _
          have B3 : Below w.heap.size w w3 := (B.alloc hz _).grown hgrow (by simp; omega) (fun k hk => (hown.lt k hk).1)
          rw [← recsC_snoc] at hown3
          have own4 : w3.ownsRow w.heap.size 57 3 v' (L ++ [(⟨1, (r.s.size : Int), ⟨#[]⟩⟩ : M.Rec)]).length (recsC (L ++ [(⟨1, (r.s.size : Int), ⟨#[]⟩⟩ : M.Rec)])) := by rw [List.length_append]; exact hown3
          have e0 := hown.lt
          have x0 : w3.cell? ⟨bk, off + k * 3, none⟩ = some (.int .i64 r.kind) := hgrow.cell (by rw [World.cell?_alloc_past _ _ _ hbw2]; exact d0) (fun e => by have := (e0 _ e.symm).1; simp at this; omega)
          have x1 : w3.cell? ⟨bk, off + k * 3 + 1, none⟩ = some (.int .i64 r.n) := hgrow.cell (by rw [World.cell?_alloc_past _ _ _ hbw2]; exact d1) (fun e => by have := (e0 _ e.symm).1; simp at this; omega)
          have x2 : w3.cell? ⟨bk, off + k * 3 + 2, none⟩ = some (.string r.s) := hgrow.cell (by rw [World.cell?_alloc_past _ _ _ hbw2]; exact d2) (fun e => by have := (e0 _ e.symm).1; simp at this; omega)
          clear hgrow hown hown3 d0 d1 d2 e0
          go_wp2
          go_roundw
          case rel => exact ⟨k + 1, aa, bb ++ r.s, _, by omega, by go_num, rfl, rfl, own4, by simp; omega, haz, by rw [HS1.out, HX.out]; omega, HG2, B3⟩
          case measure => simp [intOf]; omega
        · have hse2 : (r.s.toList == []) = true := by simpa using hse
          go_wp2
          go_roundw
          case rel => exact ⟨k + 1, aa, bb, L, by omega, by go_num, rfl, rfl, hown, by omega, haz, by rw [HS1.out]; omega, HG.out, B⟩
          case measure => simp [intOf]; omega
      · by_cases hm0 : 0 < m
        · have hm1 : (0 : Int) < (m : Int) := by omega
          have HY : Hid ((aa.extract m aa.size).size = aa.size - m) := by show _ = _; rw [ByteArray.size_extract]; omega
          have HG2 : Hid (Going a.data.toList (L ++ [(⟨2, (m : Int), aa.extract 0 m⟩ : M.Rec)]) bb.data.toList (aa.extract m aa.size).data.toList) := by
            have h := going_rest HG.out (aa.extract 0 m) m hm0 (by rw [ba_len]; omega) (by rw [Lib.extract_data]; simp)
            show Going _ _ _ _
            rw [drop_ext]
            exact h
          go_wp2_with (first
            | (at_builtin; refine wpList_append_own _ rfl (.tmp 87) (.tmp 93) 22 rfl w.heap.size 57 i0 (.agg #[.int .i64 0, .int .i64 0, .string ⟨#[]⟩]) 3 32 Try.underlying22 hi hz0 hz1 hz2 rfl (by decide) _ _ _ rfl (hown.alloc _) ⟨wr.heap.size, 0, none⟩ 1 1 (recC ⟨2, (m : Int), aa.extract 0 m⟩) rfl rfl ?k1 ?k2 ?k3 ?k4 ?k5 ?_)
            | go_in)
          case k1 => exact recC_at wr ⟨2, (m : Int), aa.extract 0 m⟩ _
          case k2 => exact recC_one _
          case k3 => unfold maxLen; omega
          case k4 => omega
          case k5 => simp; omega
          intro v' w3 hown3 hgrow _
          have B3 : Below w.heap.size w w3 := (B.alloc hz _).grown hgrow (by simp; omega) (fun k hk => (hown.lt k hk).1)
          rw [← recsC_snoc] at hown3
          have own4 : w3.ownsRow w.heap.size 57 3 v' (L ++ [(⟨2, (m : Int), aa.extract 0 m⟩ : M.Rec)]).length (recsC (L ++ [(⟨2, (m : Int), aa.extract 0 m⟩ : M.Rec)])) := by rw [List.length_append]; exact hown3
          have e0 := hown.lt
          have x0 : w3.cell? ⟨bk, off + k * 3, none⟩ = some (.int .i64 r.kind) := hgrow.cell (by rw [World.cell?_alloc_past _ _ _ hbw2]; exact d0) (fun e => by have := (e0 _ e.symm).1; simp at this; omega)
          have x1 : w3.cell? ⟨bk, off + k * 3 + 1, none⟩ = some (.int .i64 r.n) := hgrow.cell (by rw [World.cell?_alloc_past _ _ _ hbw2]; exact d1) (fun e => by have := (e0 _ e.symm).1; simp at this; omega)
          have x2 : w3.cell? ⟨bk, off + k * 3 + 2, none⟩ = some (.string r.s) := hgrow.cell (by rw [World.cell?_alloc_past _ _ _ hbw2]; exact d2) (fun e => by have := (e0 _ e.symm).1; simp at this; omega)
          clear hgrow hown hown3 d0 d1 d2 e0
          go_wp2
          go_roundw
          case rel => exact ⟨k + 1, aa.extract m aa.size, bb, _, by omega, by go_num, rfl, rfl, own4, by simp; omega, by rw [HY.out]; omega, by rw [HS1.out, HY.out]; omega, HG2, B3⟩
          case measure => simp [intOf]; omega
        · have hm1 : ¬ (0 : Int) < (m : Int) := by omega
          go_wp2
          go_roundw
          case rel => exact ⟨k + 1, aa, bb, L, by omega, by go_num, rfl, rfl, hown, by omega, haz, by rw [HS1.out]; omega, HG.out, B⟩
          case measure => simp [intOf]; omega
    · obtain rfl : k = raw.length := by omega
      cases hae : aa.toList.isEmpty
      · have hap : 0 < aa.size := by
          rw [empty_iff] at hae
          exact Nat.pos_of_ne_zero (of_decide_eq_false hae)
        have hae2 : (aa.toList == []) = false := by cases h : aa.toList with
          | nil => rw [h] at hae; simp at hae
          | cons x y => rfl
        have hcat : bb.size + aa.size ≤ 9223372036854775807 := by omega
        have HX : Hid ((bb ++ aa).size ≤ a.size + sumS raw) := by
          show _ ≤ _
          rw [ByteArray.size_append', List.take_length] at *
          omega
        have HG2 : Hid (okAll (L ++ [(⟨0, (aa.size : Int), ⟨#[]⟩⟩ : M.Rec)]) ∧ leadsL (L ++ [(⟨0, (aa.size : Int), ⟨#[]⟩⟩ : M.Rec)]) a.data.toList (bb ++ aa).data.toList = true) := by
          have h := going_keep HG.out aa.size hap (by rw [ba_len]; omega)
          rw [← ba_len, List.drop_length, List.take_length, ba_len] at h
          rw [ba_append]
          exact going_end h
        go_wp2_with (first
          | (at_builtin; refine wpList_append_own _ rfl (.tmp 100) (.tmp 104) 22 rfl w.heap.size 57 i0 (.agg #[.int .i64 0, .int .i64 0, .string ⟨#[]⟩]) 3 32 Try.underlying22 hi hz0 hz1 hz2 rfl (by decide) _ _ _ rfl (hown.alloc _) ⟨wr.heap.size, 0, none⟩ 1 1 (recC ⟨0, (aa.size : Int), ⟨#[]⟩⟩) rfl rfl ?k1 ?k2 ?k3 ?k4 ?k5 ?_)
          | go_in)
        case k1 => exact recC_at wr ⟨0, (aa.size : Int), ⟨#[]⟩⟩ _
        case k2 => exact recC_one _
        case k3 => unfold maxLen; omega
        case k4 => omega
        case k5 => simp; omega
        intro v' w3 hown3 hgrow _
        have B3 : Below w.heap.size w w3 := (B.alloc hz _).grown hgrow (by simp; omega) (fun k hk => (hown.lt k hk).1)
        rw [← recsC_snoc] at hown3
        have own4 : w3.ownsRow w.heap.size 57 3 v' (L ++ [(⟨0, (aa.size : Int), ⟨#[]⟩⟩ : M.Rec)]).length (recsC (L ++ [(⟨0, (aa.size : Int), ⟨#[]⟩⟩ : M.Rec)])) := by rw [List.length_append]; exact hown3
        clear hgrow hown hown3
        go_wp2
        go_ret2
        exact ⟨_, _, _, rfl, HG2.out.1, HG2.out.2, own4, by simp; omega, HX.out, B3⟩
      · have hae2 : (aa.toList == []) = true := by simpa using hae
        have HG2 : Hid (okAll L ∧ leadsL L a.data.toList bb.data.toList = true) := by
          have h := HG.out
          rw [ByteArray.toList_eq, List.isEmpty_iff] at hae
          rw [hae] at h
          exact going_end h
        have HX : Hid (bb.size ≤ a.size + sumS raw) := by
          show _ ≤ _
          rw [List.take_length] at hbz
          omega
        go_wp2
        go_ret2
        exact ⟨_, _, _, rfl, HG2.out.1, HG2.out.2, hown, by omega, HX.out, B⟩
end Go.Proofs.Ytlppphmnegdhoaa
