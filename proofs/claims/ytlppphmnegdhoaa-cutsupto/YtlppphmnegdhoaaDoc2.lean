/-
  The document's answer: what it writes.
-/
import Derived.Test.YtlppphmnegdhoaaDoc1
import Derived.Deep.RegionHeld3
import Derived.Deep.DrawnRows
namespace Go.Proofs.Ytlppphmnegdhoaa
set_option linter.unusedVariables false
open Go.RowKit
open M
theorem numE_size {t : ByteArray} {v : Nat} (h : t.data.toList = numE v) : t.size ≤ 3 := by
  rw [← ba_len, h]; exact (numE_len v).2
theorem twoE_size {t : ByteArray} {v : Nat} (h : t.data.toList = twoE v) : t.size ≤ 3 := by
  rw [← ba_len, h]; simp [twoE]
/-- the cells of a list of records, as a slice leads to them -/
structure RecsAt (w : World) (a : Option Addr) (n : Nat) (l : List M.Rec) : Prop where
  len : n = l.length
  cells : l = [] ∨ ∃ b off, a = some ⟨b, off, none⟩ ∧ b < w.heap.size ∧ ∀ i (h : i < l.length), w.cell? ⟨b, off + i * 3, none⟩ = some (.int .i64 l[i].kind) ∧ w.cell? ⟨b, off + i * 3 + 1, none⟩ = some (.int .i64 l[i].n) ∧ w.cell? ⟨b, off + i * 3 + 2, none⟩ = some (.string l[i].s)
theorem RecsAt.below {w w' : World} {a : Option Addr} {n : Nat} {l : List M.Rec} (h : RecsAt w a n l) (hb : Below w.heap.size w w') : RecsAt w' a n l := by
  refine ⟨h.len, ?_⟩
  rcases h.cells with h1 | ⟨b, off, h1, h2, h3⟩
  · exact .inl h1
  · refine .inr ⟨b, off, h1, Nat.lt_of_lt_of_le h2 hb.size, fun i hi => ?_⟩
    obtain ⟨c0, c1, c2⟩ := h3 i hi
    exact ⟨(hb.cell (by exact h2)).trans c0, (hb.cell (by exact h2)).trans c1, (hb.cell (by exact h2)).trans c2⟩
theorem recE_le (r : M.Rec) (h : okRec r = true) : ((recE r).length : Int) ≤ 4 * (inA r + inB r) := by
  have h1 := (numE_len (4 * r.n + r.kind).toNat).2
  have h2 := (okRec_iff r).1 h
  have h3 := ba_len r.s
  unfold recE
  rw [List.length_append, h3]
  have h4 := inAB r h
  have h5 : (r.s.size : Int) ≤ inA r := by unfold inA; split <;> omega
  have h6 := inB_nn r h
  omega
theorem recsE_le (l : List M.Rec) (h : okAll l) : ((recsE l).length : Int) ≤ 4 * (lenA l + lenB l) := by
  induction l with
  | nil => simp [recsE, lenA, lenB]
  | cons r l ih =>
    have h1 := recE_le r (okAll_cons h).1
    have h2 := ih (okAll_cons h).2
    rw [recsE_cons, List.length_append]
    simp only [lenA, lenB]
    omega
theorem okAll_take {l : List M.Rec} (h : okAll l) (k : Nat) : okAll (l.take k) := fun r hr => h r (List.mem_of_mem_take hr)
theorem len_take (l : List M.Rec) (h : okAll l) (k : Nat) : lenA (l.take k) ≤ lenA l ∧ lenB (l.take k) ≤ lenB l := by
  have e := List.take_append_drop k l
  have h1 := lenA_append (l.take k) (l.drop k)
  have h2 := lenB_append (l.take k) (l.drop k)
  rw [e] at h1 h2
  have ho : okAll (l.drop k) := fun r hr => h r (List.mem_of_mem_drop hr)
  have := lenA_nn _ ho
  have := lenB_nn _ ho
  omega
theorem take_rec (l : List M.Rec) (k : Nat) (h : k < l.length) : recsE (l.take (k + 1)) = recsE (l.take k) ++ recE l[k] := by
  rw [List.take_succ_eq_append_getElem h, recsE_append]; simp [recsE]
attribute [local go_sem ↓] Go.wp_at_zero Go.wp_at_succ


theorem numeral_int (x : Int) (w : World) (h0 : 0 ≤ x) (hv : x < 2097152) :
    Calls Try.prog 76 #[.int .i64 x] w fun e w' => (∃ t : ByteArray, e = .returned (.string t) ∧ t.data.toList = numE x.toNat) ∧ Below w.heap.size w w' := by
  obtain ⟨n, rfl⟩ := Int.eq_ofNat_of_zero_le h0
  exact numeral_calls n w (by omega)
theorem okAll_len (l : List M.Rec) (h : okAll l) : (l.length : Int) ≤ lenA l + lenB l := by
  induction l with
  | nil => simp [lenA, lenB]
  | cons r l ih =>
    have h1 := ih (okAll_cons h).2
    have h2 := inAB r (okAll_cons h).1
    have h3 := (okRec_iff r).1 (okAll_cons h).1
    simp only [lenA, lenB, List.length_cons]
    omega
theorem headE_len (la lb sa sb : Nat) (l : List M.Rec) : (headE ⟨la, lb, sa, sb, l⟩).length ≤ 12 := by
  have := numE_len la
  have := numE_len lb
  simp [headE, twoE]
  omega
/-- the head's bytes, before the records -/
theorem headE_eq (la lb sa sb : Nat) (l : List M.Rec) {t1 t2 t3 t4 : ByteArray} (h1 : t1.data.toList = numE la) (h2 : t2.data.toList = numE lb) (h3 : t3.data.toList = twoE sa) (h4 : t4.data.toList = twoE sb) :
    ((⟨#[82, 84]⟩ : ByteArray) ++ t1 ++ t2 ++ t3 ++ t4).data.toList = headE ⟨la, lb, sa, sb, l⟩ := by
  rw [ba_append, ba_append, ba_append, ba_append, h1, h2, h3, h4, headE]
  simp

set_option maxRecDepth 100000 in
set_option maxHeartbeats 4000000 in
theorem written_calls (la lb sa sb n cp : Nat) (a : Option Addr) (l : List M.Rec) (w : World) (hla : la ≤ 4096) (hlb : lb ≤ 4096) (hsa : sa < 65536) (hsb : sb < 65536) (hat : RecsAt w a n l) (hok : okAll l) (ha : lenA l ≤ 4096) (hb : lenB l ≤ 4096) :
    Calls Try.prog 53 #[.agg #[.int .i64 la, .int .i64 lb, .int .i64 sa, .int .i64 sb, .slice a n cp]] w fun e w' => (∃ t : ByteArray, e = .returned (.string t) ∧ t.data.toList = writE ⟨la, lb, sa, sb, l⟩) ∧ Below w.heap.size w w' := by
  have hn := hat.len
  have hl4 : l.length ≤ 8192 := by have := okAll_len l hok; omega
  have HC : Hid (l = [] ∨ ∃ b off, a = some ⟨b, off, none⟩ ∧ b < w.heap.size ∧ ∀ i (h : i < l.length), w.cell? ⟨b, off + i * 3, none⟩ = some (.int .i64 l[i].kind) ∧ w.cell? ⟨b, off + i * 3 + 1, none⟩ = some (.int .i64 l[i].n) ∧ w.cell? ⟨b, off + i * 3 + 2, none⟩ = some (.string l[i].s)) := hat.cells
  clear hat
  subst hn
  go_enter Try.func53, Try.ntmps53
  go_wp2_with fail
  go_region_held3 (fun w' => w'.cell? ⟨w.heap.size, 0, none⟩ = some (.int .i64 la) ∧ w'.cell? ⟨w.heap.size, 1, none⟩ = some (.int .i64 lb) ∧ w'.cell? ⟨w.heap.size, 2, none⟩ = some (.int .i64 sa) ∧ w'.cell? ⟨w.heap.size, 3, none⟩ = some (.int .i64 sb) ∧ w'.cell? ⟨w.heap.size, 4, none⟩ = some (.slice a l.length cp) ∧ w.heap.size < w'.heap.size)
    (first
      | go_keep
      | (go_split_ands
         refine ⟨?_, ?_, ?_, ?_, ?_, ?_⟩
         · (rw [hb1.cell (by assumption)]; assumption)
         · (rw [hb1.cell (by assumption)]; assumption)
         · (rw [hb1.cell (by assumption)]; assumption)
         · (rw [hb1.cell (by assumption)]; assumption)
         · (rw [hb1.cell (by assumption)]; assumption)
         · (have := hb1.size; omega)))
    (first
      | (go_at_call_of 76 (Value.int .i64 (la : Int)); refine (numeral_calls la _ (by omega)).mono ?_; rintro e w1 ⟨⟨t1, rfl, ht1⟩, hb1⟩; have g1 := hb1; have hs1 := numE_size ht1; have hq1 : ¬ 9223372036854775807 < 2 + t1.size := by omega)
      | (go_at_call_of 76 (Value.int .i64 (lb : Int)); refine (numeral_calls lb _ (by omega)).mono ?_; rintro e w1 ⟨⟨t2, rfl, ht2⟩, hb1⟩; have g2 := hb1; have hs2 := numE_size ht2; have hq2 : ¬ 9223372036854775807 < 2 + t1.size + t2.size := by omega)
      | (go_at_call_of 77 (Value.int .i64 (sa : Int)); refine (dtwo_calls sa _ (by omega)).mono ?_; rintro e w1 ⟨⟨t3, rfl, ht3⟩, hb1⟩; have g3 := hb1; have hs3 := twoE_size ht3; have hq3 : ¬ 9223372036854775807 < 2 + t1.size + t2.size + t3.size := by omega)
      | (go_at_call_of 77 (Value.int .i64 (sb : Int)); refine (dtwo_calls sb _ (by omega)).mono ?_; rintro e w1 ⟨⟨t4, rfl, ht4⟩, hb1⟩; have g4 := hb1; have hs4 := twoE_size ht4; have hq4 : ¬ 9223372036854775807 < 2 + t1.size + t2.size + t3.size + t4.size := by omega))
  rename_i hheld
  obtain ⟨_, _, _, _, hc4, hz⟩ := hheld
  have z1 := g1.size
  have z2 := g2.size
  have z3 := g3.size
  have z4 := g4.size
  simp at z1
  have B1 := (((Below.refl w.heap.size w).alloc (Nat.le_refl _) _).drew.trans (g1.mono (by simp))).trans ((g2.mono (by omega)).trans ((g3.mono (by omega)).trans (g4.mono (by omega))))
  have HH : Hid (((⟨#[82, 84]⟩ : ByteArray) ++ t1 ++ t2 ++ t3 ++ t4).data.toList = headE ⟨la, lb, sa, sb, l⟩) := headE_eq la lb sa sb l ht1 ht2 ht3 ht4
  have HZ : Hid (((⟨#[82, 84]⟩ : ByteArray) ++ t1 ++ t2 ++ t3 ++ t4).size ≤ 14) := by
    show _ ≤ _
    simp only [ByteArray.size_append']
    have : (⟨#[82, 84]⟩ : ByteArray).size = 2 := rfl
    omega
  clear hb1 g1 g2 g3 g4 ht1 ht2 ht3 ht4 hq1 hq2 hq3 hq4 z1 z2 z3 z4
  generalize (⟨#[82, 84]⟩ : ByteArray) ++ t1 ++ t2 ++ t3 ++ t4 = hd at *
  go_wp2
  go_loopw [3, 4] (fun t i wr => ∃ (k : Nat) (s : ByteArray), k ≤ l.length ∧ i = .int .i64 k ∧ t = .string s ∧ Hid (s.data.toList = headE ⟨la, lb, sa, sb, l⟩ ++ recsE (l.take k)) ∧ wr.cell? ⟨w.heap.size, 4, none⟩ = some (.slice a l.length cp) ∧ w.heap.size < wr.heap.size ∧ Below w.heap.size w wr) (fun _ i _ => l.length - (intOf i).toNat)
  case atStart => exact ⟨0, hd, Nat.zero_le _, rfl, rfl, by simpa [Hid, recsE] using HH.out, hc4, hz, B1⟩
  case round =>
    obtain ⟨k, s, hk, rfl, rfl, HS, hc, hz, B⟩ := hrel
    have hlt2 := len_take l hok k
    have hrl := recsE_le (l.take k) (okAll_take hok k)
    have hhl := headE_len la lb sa sb l
    have hss : s.size ≤ 40000 := by
      rw [← ba_len, HS.out, List.length_append]
      omega
    clear hrl hhl hlt2
    by_cases hlt : k < l.length
    · have hno : l ≠ [] := fun h => by rw [h] at hlt; simp at hlt
      obtain ⟨b, off, ha', hbw, hcells⟩ := HC.out.resolve_left hno
      subst ha'
      obtain ⟨c0, c1, c2⟩ := hcells k hlt
      have d0 := (B.cell (by exact hbw)).trans c0
      have d1 := (B.cell (by exact hbw)).trans c1
      have d2 := (B.cell (by exact hbw)).trans c2
      have hokr := hok l[k] (List.getElem_mem hlt)
      have hn4 := mem_n l hok ha hb l[k] (List.getElem_mem hlt)
      have HT : Hid (recsE (l.take (k + 1)) = recsE (l.take k) ++ recE l[k]) := take_rec l k hlt
      clear hcells c0 c1 c2 hno
      generalize l[k] = r at *
      have ho := (okRec_iff r).1 hokr
      have w1' : IntKind.i64.wrap (4 * r.n) = 4 * r.n := by rw [IntKind.wrap_i64]; omega
      have w2' : IntKind.i64.wrap (4 * r.n + r.kind) = 4 * r.n + r.kind := by rw [IntKind.wrap_i64]; omega
      have hk0 : (0 : Int) ≤ (k : Int) := by omega
      have hk1 : (k : Int) < (l.length : Int) := by omega
      have hbs : b < wr.heap.size := by omega
      have hrs : r.s.size ≤ 4096 := by omega
      have hv0 : 0 ≤ 4 * r.n + r.kind := by omega
      have hv1 : 4 * r.n + r.kind < 2097152 := by omega
      have HO : Hid (okRec r = true) := hokr
      clear ho hokr
      go_wp2_with fail
      go_region_held3 (fun w' => w'.cell? ⟨w.heap.size, 4, none⟩ = some (.slice (some ⟨b, off, none⟩) l.length cp) ∧ w'.cell? ⟨b, off + k * 3, none⟩ = some (.int .i64 r.kind) ∧ w'.cell? ⟨b, off + k * 3 + 1, none⟩ = some (.int .i64 r.n) ∧ w'.cell? ⟨b, off + k * 3 + 2, none⟩ = some (.string r.s) ∧ w.heap.size < w'.heap.size ∧ b < w'.heap.size)
        (first
          | go_keep
          | (go_split_ands
             refine ⟨?_, ?_, ?_, ?_, ?_, ?_⟩
             · (rw [hb1.cell (by assumption)]; assumption)
             · (rw [hb1.cell (by assumption)]; assumption)
             · (rw [hb1.cell (by assumption)]; assumption)
             · (rw [hb1.cell (by assumption)]; assumption)
             · (have := hb1.size; omega)
             · (have := hb1.size; omega)))
        (first
          | (go_at_call 76; refine (numeral_int (4 * r.n + r.kind) _ hv0 hv1).mono ?_; rintro e w2 ⟨⟨t, rfl, ht⟩, hb1⟩; have g1 := hb1; have hs1 := numE_size ht; have hq1 : ¬ 9223372036854775807 < s.size + t.size := (by omega); have hq2 : ¬ 9223372036854775807 < s.size + t.size + r.s.size := by omega))
      rename_i hheld
      obtain ⟨hc', _, _, _, hz', _⟩ := hheld
      have B2 : Below w.heap.size w w2 := B.drew.trans (g1.mono (by simp; omega))
      have HS2 : Hid ((s ++ t ++ r.s).data.toList = headE ⟨la, lb, sa, sb, l⟩ ++ recsE (l.take (k + 1))) := by
        show _ = _
        rw [ba_append, ba_append, ht, HS.out, HT.out, recE, List.append_assoc, List.append_assoc]
      clear hb1 g1 ht hq1 hq2 w1' w2' d0 d1 d2 hc
      go_wp2
      go_roundw
      case rel => exact ⟨k + 1, s ++ t ++ r.s, by omega, by go_num, rfl, HS2.out, hc', hz', B2⟩
      case measure => simp [intOf]; omega
    · obtain rfl : k = l.length := by omega
      have hsm : s.size ≤ maxLen := by unfold maxLen; omega
      go_wp2_with fail
      refine (dsum_calls s _ hsm).mono ?_
      rintro e w2 ⟨rfl, rfl⟩
      have hsl := sum_lt s.data.toList
      have HW : Hid (sum s.data.toList = sum (bodyE ⟨la, lb, sa, sb, l⟩)) := by
        show _ = _
        rw [HS.out, List.take_length]; rfl
      go_wp2_with fail
      refine (dtwo_calls _ _ hsl).mono ?_
      rintro e w3 ⟨⟨t, rfl, ht⟩, hb1⟩
      have hs1 := twoE_size ht
      have hq1 : s.size + t.size ≤ 9223372036854775807 := by omega
      have HT : Hid ((s ++ t).data.toList = writE ⟨la, lb, sa, sb, l⟩) := by
        show _ = _
        rw [ba_append, ht, HW.out, HS.out, List.take_length]; rfl
      clear ht
      go_wp2
      go_ret
      exact ⟨⟨_, rfl, HT.out⟩, B.trans (hb1.mono B.size)⟩
end Go.Proofs.Ytlppphmnegdhoaa
