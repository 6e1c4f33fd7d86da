/-
  Going back by a journal: plain mathematics, and what the program's maker of A answers.
-/
import Derived.Test.YtlppphmnegdhoaaDoc6
import Derived.Lib.AppendStr
namespace Go.Proofs.Ytlppphmnegdhoaa
set_option linter.unusedVariables false
open Go.RowKit
open M

/-- A, of B and the records that lead from A to B -/
def undoL : List M.Rec → List UInt8 → List UInt8
  | [], _ => []
  | r :: l, b => if r.kind = 0 then b.take r.n.toNat ++ undoL l (b.drop r.n.toNat) else if r.kind = 1 then undoL l (b.drop r.n.toNat) else r.s.data.toList ++ undoL l b
theorem undoL_len (l : List M.Rec) : ∀ b, okAll l → ((undoL l b).length : Int) ≤ lenA l := by
  induction l with
  | nil => intro b _; simp [undoL, lenA]
  | cons r l ih =>
    intro b ho
    have h1 := (okRec_iff r).1 (okAll_cons ho).1
    simp only [undoL, lenA]
    by_cases h0 : r.kind = 0
    · rw [if_pos h0, List.length_append, List.length_take]
      have := ih (b.drop r.n.toNat) (okAll_cons ho).2
      have e : inA r = r.n := by simp [inA, h0]
      omega
    · rw [if_neg h0]
      by_cases h2 : r.kind = 1
      · rw [if_pos h2]
        have := ih (b.drop r.n.toNat) (okAll_cons ho).2
        have e : inA r = 0 := by simp [inA, h2]
        omega
      · rw [if_neg h2, List.length_append, ba_len]
        have := ih b (okAll_cons ho).2
        have e : inA r = r.n := by simp [inA, h2]
        omega
theorem lenB_drop (l : List M.Rec) (k : Nat) (h : k < l.length) : lenB (l.drop k) = inB l[k] + lenB (l.drop (k + 1)) := by
  rw [List.drop_eq_getElem_cons h]; rfl
theorem undoL_drop (l : List M.Rec) (k : Nat) (h : k < l.length) (b : List UInt8) : undoL (l.drop k) b = if l[k].kind = 0 then b.take l[k].n.toNat ++ undoL (l.drop (k + 1)) (b.drop l[k].n.toNat) else if l[k].kind = 1 then undoL (l.drop (k + 1)) (b.drop l[k].n.toNat) else l[k].s.data.toList ++ undoL (l.drop (k + 1)) b := by
  rw [List.drop_eq_getElem_cons h]; rfl
theorem okAll_drop {l : List M.Rec} (h : okAll l) (k : Nat) : okAll (l.drop k) := fun r hr => h r (List.mem_of_mem_drop hr)

theorem Try.info5 : (Try.prog.info? 5).map (fun i => (i.zero, i.size, i.bytes)) = some (some (.int .u8 0), 1, 1) := by kernel_rfl

/-- a row of bytes that the call owns, as a text -/
theorem conv_own {w : World} {base : Nat} {v : Value} {n : Nat} {A : List UInt8} (h : w.ownsRow base 5 1 v n (A.map fun b => .int .u8 (b.toNat : Int))) : ∃ t : ByteArray, t.data.toList = A ∧ (convert 79 9 v).run Try.prog w = .ok (.string t) w := by
  obtain ⟨h1, ⟨rfl, rfl⟩ | ⟨g, cap, cur, rfl, hrest⟩⟩ := id h
  · refine ⟨ByteArray.empty, ?_, ?_⟩
    · simp at h1
      rw [h1]; rfl
    · exact run_convert_bytes_nil w 79 5 Try.underlying79 Try.underlying5 0 0 9 Try.underlying9
  · have hl : n = A.length := by simpa using h1.symm
    subst hl
    refine ⟨⟨A.toArray⟩, by simp, ?_⟩
    refine run_convert_bytes_back w 79 9 5 ⟨g, 0, none⟩ cap A Try.underlying79 Try.underlying5 Try.underlying9 (fun j hj => ?_)
    exact h.cells rfl j _ (by simp [List.getElem?_eq_getElem hj])
theorem strCells_eq (s : ByteArray) : Lib.strCells s = s.data.toList.map fun b => .int .u8 (b.toNat : Int) := by
  unfold Lib.strCells; rfl

set_option maxRecDepth 100000 in
set_option maxHeartbeats 4000000 in
theorem undoJ_calls (n c : Nat) (a : Option Addr) (l : List M.Rec) (b : ByteArray) (w : World) (hat : RecsAt w a n l) (hok : okAll l) (ha : lenA l ≤ 4096) (hb : lenB l ≤ 4096) (hfit : lenB l = b.size) :
    Calls Try.prog 58 #[.slice a n c, .string b] w fun e w' => (∃ t : ByteArray, e = .returned (.tuple #[.string t, .bool true]) ∧ t.data.toList = undoL l b.data.toList) ∧ Below w.heap.size w w' := by
  have hn := hat.len
  subst hn
  have hl4 : l.length ≤ 8192 := by have := okAll_len l hok; omega
  obtain ⟨i0, hi, hz0, hz1, hz2⟩ := info_parts Try.info5
  go_enter Try.func58, Try.ntmps58
  go_wp2
  go_loopw [1, 6, 13] (fun x v i wr => ∃ (k : Nat) (bb : ByteArray) (A : List UInt8), k ≤ l.length ∧ i = .int .i64 k ∧ x = .string bb ∧ (bb.size : Int) = lenB (l.drop k) ∧ wr.ownsRow w.heap.size 5 1 v A.length (A.map fun b => .int .u8 (b.toNat : Int)) ∧ Hid (undoL l b.data.toList = A ++ undoL (l.drop k) bb.data.toList) ∧ Below w.heap.size w wr) (fun _ _ i _ => l.length - (intOf i).toNat)
  case atStart => exact ⟨0, b, [], Nat.zero_le _, rfl, rfl, by rw [List.drop_zero]; exact hfit.symm, World.ownsRow_nil _ _ _ _, rfl, Below.refl _ _⟩
  case round =>
    obtain ⟨k, bb, A, hk, rfl, rfl, hbb, hown, HU, B⟩ := hrel
    have hAl : A.length ≤ 4096 := by
      have h1 := undoL_len l b.data.toList hok
      rw [HU.out, List.length_append] at h1
      omega
    have HB : Hid ((bb.size : Int) = lenB (l.drop k)) := hbb
    clear hbb
    by_cases hlt : k < l.length
    · have hlt1 : (k : Int) < (l.length : Int) := by omega
      have hno : l ≠ [] := fun h => by rw [h] at hlt; simp at hlt
      obtain ⟨bk, off, ha', hbw, hcells⟩ := hat.cells.resolve_left hno
      obtain ⟨c0, c1, c2⟩ := hcells k hlt
      have d0 := (B.cell (by exact hbw)).trans c0
      have d1 := (B.cell (by exact hbw)).trans c1
      have d2 := (B.cell (by exact hbw)).trans c2
      have hokr := hok l[k] (List.getElem_mem hlt)
      have hn4 := mem_n l hok ha hb l[k] (List.getElem_mem hlt)
      have hLB := lenB_drop l k hlt
      have hLn := lenB_nn (l.drop (k + 1)) (okAll_drop hok _)
      have HUD := undoL_drop l k hlt bb.data.toList
      rw [HUD] at HU
      rw [hLB] at HB
      clear hcells c0 c1 c2 hno HUD hLB
      subst ha'
      generalize l[k] = r at *
      have hk2 := (okRec_iff r).1 hokr
      obtain ⟨m, hm⟩ : ∃ m : Nat, r.n = m := ⟨r.n.toNat, by omega⟩
      have hm2 : r.n.toNat = m := by omega
      rw [hm2] at HU
      have hm3 : 1 ≤ m ∧ m ≤ 4096 := by omega
      have hsz := B.size
      have hkk : r.kind = 0 ∨ r.kind = 1 ∨ (r.kind = 2 ∧ r.s.size = m) := by omega
      have HM : Hid (r.n = m) := hm
      clear hk2 hn4 hm2 hokr
      rcases hkk with hkd | hkd | ⟨hkd, hrs⟩
      · have eA : inA r = m := by simp [inA, hkd, hm]
        have eB : inB r = m := by simp [inB, hkd, hm]
        have hbm : m ≤ bb.size := by have h := HB.out; rw [eB] at h; omega
        have HB2 : Hid ((bb.size : Int) - m = lenB (l.drop (k + 1))) := by have h := HB.out; rw [eB] at h; show _ = _; omega
        have HU2 : Hid (undoL l b.data.toList = A ++ (bb.extract 0 m).data.toList ++ undoL (l.drop (k + 1)) (bb.extract m bb.size).data.toList) := by
          show _ = _
          have e : bb.size - m = (bb.data.toList.drop m).length := by rw [len_drop]
          rw [HU.out, if_pos hkd, Lib.extract_data, Lib.extract_data, e, List.take_length]; simp
        have HX : Hid ((bb.extract 0 m).size = m) := by show _ = _; rw [ByteArray.size_extract]; omega
        have HY : Hid ((bb.extract m bb.size).size = bb.size - m) := by show _ = _; rw [ByteArray.size_extract]; omega
        have hxs : (bb.extract 0 m).size ≤ 4096 := by rw [HX.out]; omega
        have k0 : (r.kind == 0) = true := by simp [hkd]
        have k1 : ¬ (m : Int) < 0 := by omega
        have k2 : ¬ (bb.size : Int) < (m : Int) := by omega
        clear HB HU hkd hm
        (
          go_wp2_with fail
          refine (spans_calls r _).mono ?_
          rintro e w2 ⟨rfl, hb1⟩
          rw [show inA r = m from eA, show inB r = m from eB]
          have hown2 := ownsRow_below (hown.alloc _) hb1
          have B3 : Below w.heap.size w w2 := (B.alloc B.size _).trans (hb1.mono (by have := B.size; simp; omega))
          have e0 : w2.cell? ⟨wr.heap.size, 0, none⟩ = some (.int .i64 r.kind) := by rw [(bcell hb1).1 _ _ (by simp)]; simp [go_sem]
          have e1 : w2.cell? ⟨wr.heap.size, 1, none⟩ = some (.int .i64 (m : Int)) := by rw [(bcell hb1).1 _ _ (by simp)]; simp [go_sem, HM.out]
          have e2 : w2.cell? ⟨wr.heap.size, 2, none⟩ = some (.string r.s) := by rw [(bcell hb1).1 _ _ (by simp)]; simp [go_sem]
          have hsz2 := B3.size
          clear hb1 hown d0 d1 d2 eA eB
          go_wp2_with (first
            | (at_builtin; refine Lib.wpList_append_own_string _ rfl _ _ 79 9 rfl w.heap.size 5 i0 Try.underlying79 Try.underlying9 hi hz0 hz1 hz2 _ _ _ rfl hown2 (bb.extract 0 m) rfl ?k3 ?k4 ?k5 ?_)
            | go_in)
          case k3 => unfold maxLen; omega
          case k4 => omega
          case k5 => omega
          intro v' w3 hown3 hgrow _
          have B4 : Below w.heap.size w w3 := B3.grown hgrow hsz2 (fun k hk => (hown2.lt k hk).1)
          rw [strCells_eq, ← List.map_append] at hown3
          clear hgrow hown2 B3
          go_wp2
          go_roundw
          case rel => exact ⟨k + 1, bb.extract m bb.size, A ++ (bb.extract 0 m).data.toList, by omega, by go_num, rfl, by rw [HY.out, ← HB2.out]; omega, by rw [List.length_append, ba_len, HX.out]; exact hown3, HU2.out, B4⟩
          case measure => simp [intOf]; omega)
      · have eA : inA r = 0 := by simp [inA, hkd]
        have eB : inB r = m := by simp [inB, hkd, hm]
        have hbm : m ≤ bb.size := by have h := HB.out; rw [eB] at h; omega
        have HB2 : Hid ((bb.size : Int) - m = lenB (l.drop (k + 1))) := by have h := HB.out; rw [eB] at h; show _ = _; omega
        have HU2 : Hid (undoL l b.data.toList = A ++ undoL (l.drop (k + 1)) (bb.extract m bb.size).data.toList) := by
          show _ = _
          have e : bb.size - m = (bb.data.toList.drop m).length := by rw [len_drop]
          rw [HU.out, if_neg (by omega), if_pos hkd, Lib.extract_data, e, List.take_length]
        have HY : Hid ((bb.extract m bb.size).size = bb.size - m) := by show _ = _; rw [ByteArray.size_extract]; omega
        have k0 : (r.kind == 0) = false := by simp [hkd]
        have k3 : (r.kind == 2) = false := by simp [hkd]
        have k1 : ¬ (m : Int) < 0 := by omega
        have k2 : ¬ (bb.size : Int) < (m : Int) := by omega
        clear HB HU hkd hm
        (
          go_wp2_with fail
          refine (spans_calls r _).mono ?_
          rintro e w2 ⟨rfl, hb1⟩
          rw [show inA r = 0 from eA, show inB r = m from eB]
          have hown2 := ownsRow_below (hown.alloc _) hb1
          have B3 : Below w.heap.size w w2 := (B.alloc B.size _).trans (hb1.mono (by have := B.size; simp; omega))
          have e0 : w2.cell? ⟨wr.heap.size, 0, none⟩ = some (.int .i64 r.kind) := by rw [(bcell hb1).1 _ _ (by simp)]; simp [go_sem]
          have e1 : w2.cell? ⟨wr.heap.size, 1, none⟩ = some (.int .i64 (m : Int)) := by rw [(bcell hb1).1 _ _ (by simp)]; simp [go_sem, HM.out]
          have e2 : w2.cell? ⟨wr.heap.size, 2, none⟩ = some (.string r.s) := by rw [(bcell hb1).1 _ _ (by simp)]; simp [go_sem]
          have hsz2 := B3.size
          clear hb1 hown d0 d1 d2 eA eB
          go_wp2
          go_roundw
          case rel => exact ⟨k + 1, bb.extract m bb.size, A, by omega, by go_num, rfl, by rw [HY.out, ← HB2.out]; omega, hown2, HU2.out, B3⟩
          case measure => simp [intOf]; omega)
      · have eA : inA r = m := by simp [inA, hkd, hm]
        have eB : inB r = 0 := by simp [inB, hkd]
        have HB2 : Hid ((bb.size : Int) = lenB (l.drop (k + 1))) := by have h := HB.out; rw [eB] at h; show _ = _; omega
        have HU2 : Hid (undoL l b.data.toList = A ++ r.s.data.toList ++ undoL (l.drop (k + 1)) bb.data.toList) := by
          show _ = _
          rw [HU.out, if_neg (by omega), if_neg (by omega)]; simp
        have HE : Hid (bb.extract 0 bb.size = bb) := by
          show _ = _
          apply ba_ext
          rw [Lib.extract_data, List.drop_zero, Nat.sub_zero, ← ba_len, List.take_length]
        have k0 : (r.kind == 0) = false := by simp [hkd]
        have k3 : (r.kind == 2) = true := by simp [hkd]
        have k2 : ¬ (bb.size : Int) < 0 := by omega
        clear HB HU hkd hm
        (
          go_wp2_with fail
          refine (spans_calls r _).mono ?_
          rintro e w2 ⟨rfl, hb1⟩
          rw [show inA r = m from eA, show inB r = 0 from eB]
          have hown2 := ownsRow_below (hown.alloc _) hb1
          have B3 : Below w.heap.size w w2 := (B.alloc B.size _).trans (hb1.mono (by have := B.size; simp; omega))
          have e0 : w2.cell? ⟨wr.heap.size, 0, none⟩ = some (.int .i64 r.kind) := by rw [(bcell hb1).1 _ _ (by simp)]; simp [go_sem]
          have e1 : w2.cell? ⟨wr.heap.size, 1, none⟩ = some (.int .i64 (m : Int)) := by rw [(bcell hb1).1 _ _ (by simp)]; simp [go_sem, HM.out]
          have e2 : w2.cell? ⟨wr.heap.size, 2, none⟩ = some (.string r.s) := by rw [(bcell hb1).1 _ _ (by simp)]; simp [go_sem]
          have hsz2 := B3.size
          clear hb1 hown d0 d1 d2 eA eB
          go_wp2_with (first
            | (at_builtin; refine Lib.wpList_append_own_string _ rfl _ _ 79 9 rfl w.heap.size 5 i0 Try.underlying79 Try.underlying9 hi hz0 hz1 hz2 _ _ _ rfl hown2 r.s rfl ?k3 ?k4 ?k5 ?_)
            | go_in)
          case k3 => unfold maxLen; omega
          case k4 => omega
          case k5 => omega
          intro v' w3 hown3 hgrow _
          have B4 : Below w.heap.size w w3 := B3.grown hgrow hsz2 (fun k hk => (hown2.lt k hk).1)
          rw [strCells_eq, ← List.map_append] at hown3
          clear hgrow hown2 B3
          go_wp2
          go_roundw
          case rel => exact ⟨k + 1, bb, A ++ r.s.data.toList, by omega, by go_num, by first | rfl | rw [HE.out], HB2.out, by rw [List.length_append, ba_len, hrs]; exact hown3, HU2.out, B4⟩
          case measure => simp [intOf]; omega)
    · obtain rfl : k = l.length := by omega
      obtain ⟨t, ht, hr⟩ := conv_own hown
      have HT : Hid (t.data.toList = undoL l b.data.toList) := by
        show _ = _
        rw [ht, HU.out, List.drop_length, undoL, List.append_nil]
      clear ht
      go_wp2
      go_ret2
      exact ⟨⟨t, rfl, HT.out⟩, B⟩
end Go.Proofs.Ytlppphmnegdhoaa
