import Derived.Test.YtlppphmnegdhoabGreatDoorRows
import Derived.WalkKit
import Derived.WalkSpells
import Derived.WalkLawsBesides
import Derived.Laws.BitsLemmas
import Derived.Deep.QuietTactic
import Derived.BigQuiet
import Derived.Lib.Strings
import Derived.Laws.BytesArg
import Derived.Deep.RegionHeld3
import Derived.Deep.DrawnRows
import Derived.Lib.AppendStr
import Derived.Lib.ItoaNum
import Derived.Deep.MidRow
import Derived.Deep.WholeRow
import Derived.Laws.ResultCell
import Derived.Deep.CutBlock
import Derived.Deep.DeepCutAuto
import Derived.Deep.AppendLies
import Derived.Deep.RegionLaw
import Derived.Great.BuildSlice
import Derived.Laws.AppendOwnNone
import Derived.Laws.OwnMore
import Derived.Deep.RegionWith
import Derived.RegionTactic
import Derived.Shelf.LaysM
import Derived.Shelf.Strconv.Itoa3
import Derived.Test.YtlppphmnegdhoabGreatDoorProg
import Derived.Test.YtlppphmnegdhoabGreatDoorMa10
namespace Go.Proofs.YtlppphmnegdhoabGreatDoor
set_option linter.unusedVariables false
open Go.RowKit
open M

/-- bytes as cells -/
def byteC (A : List UInt8) : List Value := A.map fun b => .int .u8 (b.toNat : Int)
theorem byteC_snoc (A : List UInt8) (n : Nat) (h : n < 256) : byteC A ++ [.int .u8 (n : Int)] = byteC (A ++ [UInt8.ofNat n]) := by
  simp [byteC, u8 n h]
theorem byteC_str (A : List UInt8) (s : ByteArray) : byteC A ++ Lib.strCells s = byteC (A ++ s.data.toList) := by
  rw [strCells_eq]; simp [byteC]
theorem one_at (w : World) (x : Value) (t : TypeId) : ∀ j u, [x][j]? = some u → (w.alloc (.cells #[x] t)).cell? ((⟨w.heap.size, 0, none⟩ : Addr).add j) = some u := by
  intro j u h
  match j, h with
  | 0, h => simp at h; subst h; simp [Addr.add]
  | n + 1, h => simp at h

set_option maxRecDepth 100000 in
set_option maxHeartbeats 1000000 in
theorem jnumber_calls (v : Nat) (w : World) (hv : v < 2097152) :
    Calls Tryz.prog 128 #[.int .i64 v] w fun e w' => (∃ t : ByteArray, e = .returned (.string t) ∧ t.data.toList = numE v) ∧ Below w.heap.size w w' := by
  obtain ⟨i0, hi, hz0, hz1, hz2⟩ := info_parts Tryz.info5
  go_enter Tryz.func128, Tryz.ntmps128
  go_wp2
  go_loopw [0, 3] (fun vv o wr => ∃ (x : Nat) (A : List UInt8), vv = .int .i64 x ∧ wr.ownsRow w.heap.size 5 1 o A.length (byteC A) ∧ x < 2097152 ∧ Hid (A ++ numE x = numE v) ∧ (A.length = 0 ∨ A.length = 1 ∧ x < 16384 ∨ A.length = 2 ∧ x < 128) ∧ Below w.heap.size w wr) (fun vv _ _ => (intOf vv).toNat)
  case atStart => exact ⟨v, [], rfl, World.ownsRow_nil _ _ _ _, hv, rfl, .inl rfl, Below.refl _ _⟩
  case round =>
    obtain ⟨x, A, rfl, hown, hx, H, hsz, B⟩ := hrel
    have hA : A.length ≤ 2 := by omega
    have hz := B.size
    by_cases hlt : x < 128
    · have hlt1 : (x : Int) < 128 := by omega
      have HT : Hid (A ++ [UInt8.ofNat x] = numE v) := by
        show _ = _
        rw [← H.out]; simp [numE, hlt]
      go_wp2_with (first
        | (at_builtin; refine wpList_append_own _ rfl _ _ 151 rfl w.heap.size 5 i0 (.int .u8 0) 1 1 Tryz.underlying151 hi hz0 hz1 hz2 rfl (by decide) _ _ _ rfl (hown.alloc _) ⟨wr.heap.size, 0, none⟩ 1 1 [.int .u8 (x : Int)] rfl rfl ?k1 ?k2 ?k3 ?k4 ?k5 ?_)
        | go_in)
      case k1 => exact one_at _ _ _
      case k2 => intro u hu; simp at hu; subst hu; rfl
      case k3 => unfold maxLen; omega
      case k4 => omega
      case k5 => simp; omega
      intro v' w3 hown3 hgrow _
      have B3 : Below w.heap.size w w3 := (B.alloc hz _).grown hgrow (by simp; omega) (fun k hk => (hown.lt k hk).1)
      rw [byteC_snoc A x (by omega)] at hown3
      clear hgrow hown
      have hown4 : w3.ownsRow w.heap.size 5 1 v' (A ++ [UInt8.ofNat x]).length (byteC (A ++ [UInt8.ofNat x])) := by simpa using hown3
      obtain ⟨t, ht, hr⟩ := conv_own hown4
      rw [HT.out] at ht
      clear hown3 hown4
      have HT2 : Hid (t.data.toList = numE v) := ht
      clear ht
      go_wp2
      go_ret
      exact ⟨⟨t, rfl, HT2.out⟩, B3⟩
    · have hlt1 : ¬ (x : Int) < 128 := by omega
      have HT : Hid (A ++ [UInt8.ofNat (128 + x % 128)] ++ numE (x / 128) = numE v) := by
        show _ = _
        rw [← H.out, List.append_assoc]
        congr 1
        exact (numE_step x (by omega) hx).symm
      go_wp2_with (first
        | (at_builtin; refine wpList_append_own _ rfl _ _ 151 rfl w.heap.size 5 i0 (.int .u8 0) 1 1 Tryz.underlying151 hi hz0 hz1 hz2 rfl (by decide) _ _ _ rfl (hown.alloc _) ⟨wr.heap.size, 0, none⟩ 1 1 [.int .u8 (128 + (x : Int) % 128)] rfl rfl ?k1 ?k2 ?k3 ?k4 ?k5 ?_)
        | go_in)
      case k2 => rfl
      case k3 => unfold maxLen; omega
      case k4 => omega
      case k5 => omega
      intro v' w3 hown3 hgrow _
      have B3 : Below w.heap.size w w3 := (B.alloc hz _).grown hgrow (by simp; omega) (fun k hk => (hown.lt k hk).1)
      have e1 : (128 + (x : Int) % 128) = ((128 + x % 128 : Nat) : Int) := by omega
      rw [e1, byteC_snoc A (128 + x % 128) (by omega)] at hown3
      clear hgrow hown e1
      go_wp2
      go_roundw
      case rel => exact ⟨x / 128, A ++ [UInt8.ofNat (128 + x % 128)], by go_num, by simpa using hown3, by omega, HT.out, by rw [List.length_append]; simp only [List.length_singleton]; omega, B3⟩
      case measure => simp [intOf]; omega
theorem jnumber_int (x : Int) (w : World) (h0 : 0 ≤ x) (hv : x < 2097152) :
    Calls Tryz.prog 128 #[.int .i64 x] w fun e w' => (∃ t : ByteArray, e = .returned (.string t) ∧ t.data.toList = numE x.toNat) ∧ Below w.heap.size w w' := by
  obtain ⟨n, rfl⟩ := Int.eq_ofNat_of_zero_le h0
  exact jnumber_calls n w (by omega)

set_option maxRecDepth 100000 in
set_option maxHeartbeats 1000000 in
theorem headText_calls (la lb sa sb : Nat) (l : List M.Rec) (w : World) (hla : la ≤ 4096) (hlb : lb ≤ 4096) (hsa : sa < 65536) (hsb : sb < 65536) :
    Calls Tryz.prog 127 #[.agg #[.int .i64 la, .int .i64 lb, .int .i64 sa, .int .i64 sb]] w fun e w' => (∃ t : ByteArray, e = .returned (.string t) ∧ t.data.toList = headE ⟨la, lb, sa, sb, l⟩) ∧ Below w.heap.size w w' := by
  go_enter Tryz.func127, Tryz.ntmps127
  go_wp2_with fail
  refine (jnumber_calls la _ (by omega)).mono ?_
  rintro e w1 ⟨⟨t1, rfl, ht1⟩, b1⟩
  have d1 : w1.cell? ⟨w.heap.size, 1, none⟩ = some (.int .i64 lb) := by rw [(bcell b1).1 _ _ (by simp)]; simp [go_sem]
  have d2 : w1.cell? ⟨w.heap.size, 2, none⟩ = some (.int .i64 sa) := by rw [(bcell b1).1 _ _ (by simp)]; simp [go_sem]
  have d3 : w1.cell? ⟨w.heap.size, 3, none⟩ = some (.int .i64 sb) := by rw [(bcell b1).1 _ _ (by simp)]; simp [go_sem]
  have z1 : w.heap.size < w1.heap.size := by have := b1.size; simp at this; omega
  have B1 : Below w.heap.size w w1 := ((Below.refl w.heap.size w).alloc (Nat.le_refl _) _).trans (b1.mono (by simp))
  clear b1
  go_wp2_with fail
  refine (jnumber_calls lb _ (by omega)).mono ?_
  rintro e w2 ⟨⟨t2, rfl, ht2⟩, b2⟩
  have e2 := ((bcell b2).1 _ 2 z1).trans d2
  have e3 := ((bcell b2).1 _ 3 z1).trans d3
  have z2 : w.heap.size < w2.heap.size := by have := b2.size; omega
  have B2 : Below w.heap.size w w2 := B1.trans (b2.mono (by omega))
  clear b2 d1 d2 d3 B1
  go_wp2_with fail
  refine (two_calls sa _ (by omega)).mono ?_
  rintro e w3 ⟨⟨t3, rfl, ht3⟩, b3⟩
  have f3 := ((bcell b3).1 _ 3 z2).trans e3
  have z3 : w.heap.size < w3.heap.size := by have := b3.size; omega
  have B3 : Below w.heap.size w w3 := B2.trans (b3.mono (by omega))
  clear b3 e2 e3 B2
  go_wp2_with fail
  refine (two_calls sb _ (by omega)).mono ?_
  rintro e w4 ⟨⟨t4, rfl, ht4⟩, b4⟩
  have B4 : Below w.heap.size w w4 := B3.trans (b4.mono (by omega))
  clear b4 f3 B3
  have hs1 := numE_size ht1
  have hs2 := numE_size ht2
  have hs3 := twoE_size ht3
  have hs4 := twoE_size ht4
  have hq1 : 2 + t1.size ≤ 9223372036854775807 := by omega
  have hq2 : 2 + t1.size + t2.size ≤ 9223372036854775807 := by omega
  have hq3 : 2 + t1.size + t2.size + t3.size ≤ 9223372036854775807 := by omega
  have hq4 : 2 + t1.size + t2.size + t3.size + t4.size ≤ 9223372036854775807 := by omega
  have HH : Hid (((⟨#[82, 84]⟩ : ByteArray) ++ t1 ++ t2 ++ t3 ++ t4).data.toList = headE ⟨la, lb, sa, sb, l⟩) := headE_eq la lb sa sb l ht1 ht2 ht3 ht4
  clear ht1 ht2 ht3 ht4
  go_wp2
  go_ret
  exact ⟨⟨_, rfl, HH.out⟩, B4⟩

set_option maxRecDepth 100000 in
set_option maxHeartbeats 400000 in
theorem headOf_calls (a b : ByteArray) (w : World) (ha : a.size ≤ 4096) (hb : b.size ≤ 4096) :
    Calls Tryz.prog 87 #[.string a, .string b] w fun e w' => e = .returned (.agg #[.int .i64 a.size, .int .i64 b.size, .int .i64 (sum a.data.toList : Nat), .int .i64 (sum b.data.toList : Nat)]) ∧ Below w.heap.size w w' := by
  go_enter Tryz.func87, Tryz.ntmps87
  go_wp2_with fail
  refine (sum_calls a _ (by unfold maxLen; omega)).mono ?_
  rintro e w1 ⟨rfl, rfl⟩
  go_wp2_with fail
  refine (sum_calls b _ (by unfold maxLen; omega)).mono ?_
  rintro e w1 ⟨rfl, rfl⟩
  go_wp2
  exact bodyPost_ret (v := .agg #[.int .i64 a.size, .int .i64 b.size, .int .i64 (sum a.data.toList : Nat), .int .i64 (sum b.data.toList : Nat)]) (by simp [results, Tryz.results87, go_sem]) rfl ⟨rfl, (Below.refl _ _).alloc (Nat.le_refl _) _⟩

theorem conv_all {w : World} {base : Nat} {v : Value} {A : List UInt8} (h : w.ownsRow base 5 1 v A.length (byteC A)) : ∃ t : ByteArray, t.data.toList = A ∧ (convert 151 9 v).run Tryz.prog w = .ok (.string t) w := conv_own h

set_option maxRecDepth 100000 in
set_option maxHeartbeats 4000000 in
theorem jwrite_calls (la lb sa sb n c : Nat) (a : Option Addr) (l : List M.Rec) (w : World) (hla : la ≤ 4096) (hlb : lb ≤ 4096) (hsa : sa < 65536) (hsb : sb < 65536) (hat : RecsAt w a n l) (hok : okAll l) (ha : lenA l ≤ 4096) (hb : lenB l ≤ 4096) :
    Calls Tryz.prog 88 #[.agg #[.int .i64 la, .int .i64 lb, .int .i64 sa, .int .i64 sb], .slice a n c] w fun e w' => (∃ t : ByteArray, e = .returned (.string t) ∧ t.data.toList = writE ⟨la, lb, sa, sb, l⟩) ∧ Below w.heap.size w w' := by
  have hn := hat.len
  subst hn
  have hl4 : l.length ≤ 8192 := by have := okAll_len l hok; omega
  obtain ⟨i0, hi, hz0, hz1, hz2⟩ := info_parts Tryz.info5
  go_enter Tryz.func88, Tryz.ntmps88
  go_wp2_with fail
  refine (headText_calls la lb sa sb l _ hla hlb hsa hsb).mono ?_
  rintro e w1 ⟨⟨t, rfl, ht⟩, b1⟩
  have B1 : Below w.heap.size w w1 := ((Below.refl w.heap.size w).alloc (Nat.le_refl _) _).trans (b1.mono (by simp))
  have hts : t.size ≤ 12 := by rw [← ba_len, ht]; exact headE_len la lb sa sb l
  have HT : Hid (t.data.toList = headE ⟨la, lb, sa, sb, l⟩) := ht
  have z1 := B1.size
  clear b1 ht
  have own1 := World.ownsRow_nil w1 w.heap.size 5 1
  go_wp2_with (first
    | (at_builtin; refine Lib.wpList_append_own_string _ rfl _ _ 151 9 rfl w.heap.size 5 i0 Tryz.underlying151 Tryz.underlying9 hi hz0 hz1 hz2 _ _ _ rfl own1 t rfl ?k3 ?k4 ?k5 ?_)
    | go_in)
  case k3 => unfold maxLen; omega
  case k4 => omega
  case k5 => omega
  intro v2 w2 own2 hgrow _
  have B2 : Below w.heap.size w w2 := B1.grown hgrow z1 (fun k hk => (own1.lt k hk).1)
  have own3 : w2.ownsRow w.heap.size 5 1 v2 (headE ⟨la, lb, sa, sb, l⟩).length (byteC (headE ⟨la, lb, sa, sb, l⟩)) := by
    rw [← HT.out, ba_len]
    have h := own2
    rw [strCells_eq] at h
    exact h
  clear hgrow own1 own2
  go_wp2
  go_loopw [5, 19] (fun v i wr => ∃ (k : Nat) (A : List UInt8), k ≤ l.length ∧ i = .int .i64 k ∧ wr.ownsRow w.heap.size 5 1 v A.length (byteC A) ∧ Hid (A = headE ⟨la, lb, sa, sb, l⟩ ++ recsE (l.take k)) ∧ Below w.heap.size w wr) (fun _ i _ => l.length - (intOf i).toNat)
  case atStart => exact ⟨0, headE ⟨la, lb, sa, sb, l⟩, Nat.zero_le _, rfl, own3, by simp [Hid, recsE], B2⟩
  case round =>
    obtain ⟨k, A, hk, rfl, hown, HS, B⟩ := hrel
    have hlt2 := len_take l hok k
    have hrl := recsE_le (l.take k) (okAll_take hok k)
    have hhl := headE_len la lb sa sb l
    have hss : A.length ≤ 40000 := by
      rw [HS.out, List.length_append]
      omega
    have hz := B.size
    clear hrl hhl hlt2 own3 B2 HT
    by_cases hlt : k < l.length
    · have hlt1 : (k : Int) < (l.length : Int) := by omega
      have hno : l ≠ [] := fun h => by rw [h] at hlt; simp at hlt
      obtain ⟨bk, off, ha', hbw, hcells⟩ := hat.cells.resolve_left hno
      subst ha'
      obtain ⟨c0, c1, c2⟩ := hcells k hlt
      have d0 := (B.cell (by exact hbw)).trans c0
      have d1 := (B.cell (by exact hbw)).trans c1
      have d2 := (B.cell (by exact hbw)).trans c2
      have hokr := hok l[k] (List.getElem_mem hlt)
      have hn4 := mem_n l hok ha hb l[k] (List.getElem_mem hlt)
      have HR : Hid (recsE (l.take (k + 1)) = recsE (l.take k) ++ recE l[k]) := take_rec l k hlt
      clear hcells c0 c1 c2 hno
      generalize l[k] = r at *
      have ho := (okRec_iff r).1 hokr
      have hrs : r.s.size ≤ 4096 := by omega
      have hv0 : 0 ≤ 4 * r.n + r.kind := by omega
      have hv1 : 4 * r.n + r.kind < 2097152 := by omega
      have hk0 : 0 ≤ r.kind ∧ r.kind ≤ 2 := by omega
      have hr1 : 1 ≤ r.n := by omega
      clear ho hokr
      go_wp2_with fail
      refine (jnumber_int (4 * r.n + r.kind) _ hv0 hv1).mono ?_
      rintro e w3 ⟨⟨t, rfl, ht⟩, b3⟩
      have hs1 := numE_size ht
      have e2 : w3.cell? ⟨wr.heap.size, 2, none⟩ = some (.string r.s) := by rw [(bcell b3).1 _ _ (by simp)]; simp [go_sem]
      have own3 := ownsRow_below (hown.alloc _) b3
      have B3 : Below w.heap.size w w3 := (B.alloc hz _).trans (b3.mono (by simp; omega))
      have z3 := B3.size
      have zz : wr.heap.size < w3.heap.size := by have := b3.size; simp at this; omega
      have hne := fun k hk => (hown.lt k hk).2
      clear b3 hown d0 d1 d2
      go_wp2_with (first
        | (at_builtin; refine Lib.wpList_append_own_string _ rfl (.tmp 30) (.tmp 31) 151 9 rfl w.heap.size 5 i0 Tryz.underlying151 Tryz.underlying9 hi hz0 hz1 hz2 _ _ _ rfl own3 t rfl ?k3 ?k4 ?k5 ?_)
        | go_in)
      case k3 => unfold maxLen; omega
      case k4 => omega
      case k5 => omega
      intro v4 w4 own4 hgrow _
      have e4 : w4.cell? ⟨wr.heap.size, 2, none⟩ = some (.string r.s) := hgrow.cell e2 (fun e => by have := hne _ e.symm; simp at this)
      have B4 : Below w.heap.size w w4 := B3.grown hgrow z3 (fun k hk => (own3.lt k hk).1)
      have z4 := B4.size
      rw [byteC_str] at own4
      clear hgrow own3 e2 B3 hne
      go_wp2_with (first
        | (at_builtin; refine Lib.wpList_append_own_string _ rfl (.tmp 33) (.tmp 35) 151 9 rfl w.heap.size 5 i0 Tryz.underlying151 Tryz.underlying9 hi hz0 hz1 hz2 _ _ _ rfl own4 r.s rfl ?k3 ?k4 ?k5 ?_)
        | go_in)
      case k3 => unfold maxLen; omega
      case k4 => omega
      case k5 => omega
      intro v5 w5 own5 hgrow _
      have B5 : Below w.heap.size w w5 := B4.grown hgrow z4 (fun k hk => (own4.lt k hk).1)
      rw [byteC_str] at own5
      have HS2 : Hid (A ++ t.data.toList ++ r.s.data.toList = headE ⟨la, lb, sa, sb, l⟩ ++ recsE (l.take (k + 1))) := by
        show _ = _
        rw [ht, HS.out, HR.out, recE]; simp
      have own6 : w5.ownsRow w.heap.size 5 1 v5 (A ++ t.data.toList ++ r.s.data.toList).length (byteC (A ++ t.data.toList ++ r.s.data.toList)) := by
        rw [List.length_append, List.length_append, ba_len, ba_len, ht]; simpa using own5
      clear hgrow own4 own5 e4 B4 ht
      go_wp2
      go_roundw
      case rel => exact ⟨k + 1, _, by omega, by go_num, own6, HS2.out, B5⟩
      case measure => simp [intOf]; omega
    · obtain rfl : k = l.length := by omega
      obtain ⟨t, ht, hr⟩ := conv_all hown
      have hts : t.size ≤ 40000 := by rw [← ba_len, ht]; exact hss
      have HB : Hid (t.data.toList = bodyE ⟨la, lb, sa, sb, l⟩) := by
        show _ = _
        rw [ht, HS.out, List.take_length]; rfl
      have HA : Hid (A = t.data.toList) := ht.symm
      have hsl := sum_lt t.data.toList
      clear ht
      go_wp2_with fail
      refine (sum_calls t _ (by unfold maxLen; omega)).mono ?_
      rintro e w3 ⟨rfl, rfl⟩
      clear hr
      go_wp2_with fail
      refine (two_calls _ _ hsl).mono ?_
      rintro e w4 ⟨⟨u, rfl, hu⟩, b4⟩
      have hus := twoE_size hu
      have own4 := ownsRow_below hown b4
      have B4 : Below w.heap.size w w4 := B.trans (b4.mono hz)
      have z4 := B4.size
      clear b4 hown
      go_wp2_with (first
        | (at_builtin; refine Lib.wpList_append_own_string _ rfl (.tmp 43) (.tmp 44) 151 9 rfl w.heap.size 5 i0 Tryz.underlying151 Tryz.underlying9 hi hz0 hz1 hz2 _ _ _ rfl own4 u rfl ?k3 ?k4 ?k5 ?_)
        | go_in)
      case k3 => unfold maxLen; omega
      case k4 => omega
      case k5 => omega
      intro v5 w5 own5 hgrow _
      have B5 : Below w.heap.size w w5 := B4.grown hgrow z4 (fun k hk => (own4.lt k hk).1)
      rw [byteC_str] at own5
      have own6 : w5.ownsRow w.heap.size 5 1 v5 (A ++ u.data.toList).length (byteC (A ++ u.data.toList)) := by
        rw [List.length_append, ba_len]; exact own5
      obtain ⟨x, hx, hr⟩ := conv_all own6
      have HX : Hid (x.data.toList = writE ⟨la, lb, sa, sb, l⟩) := by
        show _ = _
        rw [hx, hu, HA.out, HB.out]; rfl
      clear hgrow own4 own5 own6 hx hu
      go_wp2
      go_ret
      exact ⟨⟨x, rfl, HX.out⟩, B5⟩
end Go.Proofs.YtlppphmnegdhoabGreatDoor

namespace Go.Proofs.YtlppphmnegdhoabGreatDoor
set_option linter.unusedVariables false
set_option maxRecDepth 100000
open Go.RowKit
open M

theorem rtRec : RowT 69 3 := ⟨⟨_, Tryz.underlying69, rfl⟩, by kernel_rfl⟩
theorem elRec : ElT 46 69 3 32 (.agg #[.int .i64 0, .int .i64 0, .string ⟨#[]⟩]) := ⟨by kernel_rfl, by kernel_rfl, rfl, by decide, by decide, by decide⟩
theorem own_not {w : World} {B : Nat} {e e' : TypeId} {s : Nat} {v : Value} {n : Nat} {xs : List Value} {g : Nat} {C : Array Value} (h : w.ownsRow B e s v n xs) (hg : w.heap[g]? = some (.cells C e')) (hne : e ≠ e') : v.ownBlock ≠ some g := fun hk => by
  rcases h.2 with ⟨rfl, _⟩ | ⟨g', cap, cur, rfl, _, hg', _⟩
  · cases hk
  have e1 : g' = g := by simpa [Value.ownBlock] using hk
  subst e1
  rw [hg'] at hg
  simp only [Option.some.injEq, Obj.cells.injEq] at hg
  exact hne hg.2.1
theorem recsC_app (l m : List M.Rec) : recsC (l ++ m) = recsC l ++ recsC m := by simp [recsC]
set_option maxRecDepth 100000 in
set_option maxHeartbeats 1000000 in
theorem restored_calls (s : ByteArray) (w : World) (hs : s.size ≤ 4096) :
    Calls Tryz.prog 161 #[.string s] w fun e w' => e = .returned (.agg #[.int .i64 2, .int .i64 (s.size : Nat), .string s]) ∧ Below w.heap.size w w' := by
  have hbn : CB (w.alloc (.cells #[.int .i64 0, .int .i64 0, .string ⟨#[]⟩] 69)) w.heap.size [.int .i64 0, .int .i64 0, .string ⟨#[]⟩] := CB.new w _ #[.int .i64 0, .int .i64 0, .string ⟨#[]⟩] (by simp [Value.oneCell'])
  have B0 : Below w.heap.size w (w.alloc (.cells #[.int .i64 0, .int .i64 0, .string ⟨#[]⟩] 69)) := (Below.refl _ _).alloc (Nat.le_refl _) _
  go_enter Tryz.func161, Tryz.ntmps161
  go_wp2_with (refine cb_store0 rtRec hbn rfl rfl _ _ rfl rfl (vs := [.int .i64 2, .int .i64 (s.size : Nat), .string s]) rfl rfl (by simp [Value.oneCell']) ?_; intro w8 hb8 O8)
  refine bodyPost_ret (results_cb1 rfl _ _ _ _ rfl rtRec hb8 rfl) rfl ?_
  exact ⟨rfl, B0.trans (O8.below (Nat.le_refl _))⟩
def RcsPost (t : ByteArray) (l : List Cl) (w : World) (e : Ending) (w' : World) : Prop := ∃ v, e = .returned v ∧ w'.ownsRow w.heap.size 69 3 v (recsA t l).length (recsC (recsA t l)) ∧ Below w.heap.size w w'
set_option maxRecDepth 100000 in
set_option maxHeartbeats 4000000 in
theorem records_calls (t : ByteArray) (vl : Value) (l : List Cl) (w : World) (hsl : SlAt w vl l) (hl : l.length ≤ 4096) (ht : t.size ≤ 4096) (ho : Bnds l) :
    Calls Tryz.prog 118 #[.string t, vl] w fun e w' => RcsPost t l w e w' := by
  obtain ⟨a, c, rfl, _⟩ := hsl.form
  have HO : Hid (Bnds l) := ho
  obtain ⟨n, hn⟩ : ∃ n, l.length = n := ⟨_, rfl⟩
  have HN : Hid (l.length = n) := hn
  have HS : Hid (SlAt w (.slice a n c) l) := by show SlAt _ _ _; rw [← hn]; exact hsl
  have HA : Hid (recsA t l = (recsP t 0 l).1 ++ (if (recsP t 0 l).2 < t.size then [rRes t (recsP t 0 l).2 t.size] else [])) := rfl
  rw [hn] at hl ⊢
  clear hsl ho hn
  go_enter Tryz.func118, Tryz.ntmps118
  go_wp2_with fail
  go_loopw [5, 6, 11] (fun v5 v6 v11 wr => ∃ (i p q : Nat), v11 = .int .i64 i ∧ v6 = .int .i64 p ∧ i ≤ n ∧ p ≤ t.size ∧ Hid ((recsP t 0 (l.take i)).2 = p) ∧ Hid ((recsP t 0 (l.take i)).1.length = q) ∧ q ≤ 2 * i ∧ wr.ownsRow w.heap.size 69 3 v5 q (recsC (recsP t 0 (l.take i)).1) ∧ Below w.heap.size w wr) (fun _ _ v11 _ => n - (intOf v11).toNat)
  case atStart => exact ⟨0, 0, 0, rfl, rfl, Nat.zero_le _, Nat.zero_le _, rfl, rfl, Nat.zero_le _, World.ownsRow_nil _ _ _ _, Below.refl _ _⟩
  case round =>
    obtain ⟨i, p, q, rfl, rfl, hi, hpt, HP, HQ, hq, hown, hB⟩ := hrel
    obtain ⟨av, cv, hvv⟩ := own_form hown
    subst hvv
    have hwb := hB.size
    by_cases hlt : i < n
    · have hlt1 : (i : Int) < (n : Int) := by omega
      have h0 : (0 : Int) ≤ (i : Int) := by omega
      have hiL : i < l.length := by rw [HN.out]; exact hlt
      obtain ⟨-, g, o, rfl, hg, hr⟩ := (HS.out.below hB).at' i hiL
      have hT : l.take (i + 1) = l.take i ++ [l[i]] := by rw [List.take_add_one, List.getElem?_eq_getElem hiL]; rfl
      have hSN := recsP_snoc t (l.take i) l[i] 0
      rw [← hT, HP.out] at hSN
      obtain ⟨x, hx⟩ : ∃ x : Nat, l[i].1.toNat = x := ⟨_, rfl⟩
      have hxc : x < 256 := by rw [← hx]; exact l[i].1.toNat_lt
      rw [hx] at hr
      have HR1 : recs1 t p l[i] = if l[i].2 < (p : Int) ∨ (t.size : Int) ≤ l[i].2 then ([rDrop1], p) else ((if (p : Int) < l[i].2 then [rRes t p l[i].2.toNat] else []) ++ [rKeep1], l[i].2.toNat + 1) := rfl
      rw [HR1] at hSN
      have hyb : -1 ≤ l[i].2 ∧ l[i].2 < 4096 := by
        exact HO.out l[i] (List.getElem_mem _)
      obtain ⟨y, hy⟩ : ∃ y : Int, l[i].2 = y := ⟨_, rfl⟩
      rw [hy] at hr hSN hyb
      have HSN : Hid (recsP t 0 (l.take (i + 1)) = ((recsP t 0 (l.take i)).1 ++ (if y < (p : Int) ∨ (t.size : Int) ≤ y then ([rDrop1], p) else ((if (p : Int) < y then [rRes t p y.toNat] else []) ++ [rKeep1], y.toNat + 1)).1, (if y < (p : Int) ∨ (t.size : Int) ≤ y then ([rDrop1], p) else ((if (p : Int) < y then [rRes t p y.toNat] else []) ++ [rKeep1], y.toNat + 1)).2)) := hSN
      clear hx hy HR1 hSN hT
      generalize (recsP t 0 (l.take i)).1 = R at *
      have hgx : ∀ (r : M.Rec), ((wr.alloc (.cells #[.int .u8 x, .int .i64 y] 230)).alloc (.cells (recC r).toArray 69)).heap[wr.heap.size + 1]? = some (.cells (recC r).toArray 69) := fun r => by
        have := heap_alloc_new (wr.alloc (.cells #[.int .u8 x, .int .i64 y] 230)) (.cells (recC r).toArray 69)
        simpa using this
      by_cases hdr : y < (p : Int) ∨ (t.size : Int) ≤ y
      · rw [if_pos hdr] at HSN
        have hor : y < (p : Int) ∨ (¬ y < (p : Int) ∧ (t.size : Int) ≤ y) := by omega
        clear hdr
        have hg1 := hgx rDrop1
        have hg1' : ((wr.alloc (.cells #[.int .u8 x, .int .i64 y] 230)).alloc (.cells #[.int .i64 1, .int .i64 1, .string ⟨#[]⟩] 69)).heap[wr.heap.size + 1]? = some (.cells [.int .i64 1, .int .i64 1, .string ⟨#[]⟩].toArray 69) := hg1
        clear hg1 hgx
        rcases hor with h1 | ⟨h1, h2⟩
        all_goals
          go_wp2_with (first
            | refine rg_load rtCl hr rfl rfl _ rfl rfl ?_
            | (refine gb_append' elRec ((hown.alloc _).alloc _) (wr.heap.size + 1) [.int .i64 1, .int .i64 1, .string ⟨#[]⟩] hg1' rfl (by simp [Value.oneCell']) (by omega) (by simp; omega) rfl (.tmp 26) (.tmp 28) rfl rfl rfl ?_
               intro v' w6 hown6 hgrow6
               have hB6 : Below w.heap.size w w6 := ((hB.alloc (by omega) _).alloc (by simp; omega) _).grown hgrow6 (by simp; omega) (fun k hk => (hown.lt k hk).1)
               obtain ⟨av', cv', hvv⟩ := own_form hown6
               subst hvv
               clear hgrow6))
          go_roundw
          case rel =>
            refine ⟨i + 1, p, q + 1, by go_num, rfl, by omega, hpt, ?_, ?_, by omega, ?_, hB6⟩
            · show _ = _; rw [HSN.out]
            · show _ = _; rw [HSN.out, List.length_append, HQ.out]; rfl
            · rw [HSN.out, recsC_app]; exact hown6
          case measure => first | (simp [intOf]; done) | (simp [intOf]; omega)
      · rw [if_neg hdr] at HSN
        obtain ⟨k, hk⟩ : ∃ k : Nat, y = (k : Int) := ⟨y.toNat, by omega⟩
        subst hk
        have hk1 : ¬ (k : Int) < (p : Int) := by omega
        have hk2 : ¬ (t.size : Int) ≤ (k : Int) := by omega
        have hkt : k < t.size := by omega
        have ekk : ((k : Int)).toNat = k := by simp
        rw [ekk] at HSN
        clear hdr ekk
        have hh1 : (wr.alloc (.cells #[.int .u8 x, .int .i64 (k : Int)] 230)).heap[wr.heap.size]? = some (.cells #[.int .u8 x, .int .i64 (k : Int)] 230) := heap_alloc_new wr _
        have BA : Below wr.heap.size wr (wr.alloc (.cells #[.int .u8 x, .int .i64 (k : Int)] 230)) := (Below.refl _ _).alloc (Nat.le_refl _) _
        have hownA := ownsRow_below hown BA
        have hBA := hB.trans (BA.mono hwb)
        have hszA : wr.heap.size + 1 ≤ (wr.alloc (.cells #[.int .u8 x, .int .i64 (k : Int)] 230)).heap.size := by simp
        by_cases hpk : p < k
        · have hpk1 : (p : Int) < (k : Int) := by omega
          have hpk2 : (p : Int) ≤ (k : Int) := by omega
          have hkt1 : (k : Int) ≤ (t.size : Int) := by omega
          have hp0 : (0 : Int) ≤ (p : Int) := by omega
          rw [if_pos hpk1] at HSN
          have HX : Hid ((t.extract p k).size = k - p) := by show _ = _; rw [ByteArray.size_extract, Nat.min_eq_left (by omega)]
          clear hgx
          go_wp2_with (refine rg_load rtCl hr rfl rfl _ rfl rfl ?_)
          generalize wr.alloc (.cells #[.int .u8 x, .int .i64 (k : Int)] 230) = W1 at *
          refine (restored_calls (t.extract p k) W1 (by rw [HX.out]; omega)).mono ?_
          rintro e w2 ⟨rfl, B2⟩
          rw [HX.out]
          have hown2 := ownsRow_below hownA B2
          have hB2 := hBA.trans (B2.mono (by omega))
          have hh2 : w2.heap[wr.heap.size]? = some (.cells #[.int .u8 x, .int .i64 (k : Int)] 230) := by rw [B2.block _ (by omega)]; exact hh1
          have hs2 := B2.size
          have hn2 := own_not hown2 hh2 (by decide)
          go_wp2_with (first
            | refine gb_build elRec rfl _ rfl [.int .i64 2, .int .i64 ((k - p : Nat) : Int), .string (t.extract p k)] rfl rfl ?_
            | (refine gb_append' elRec (hown2.alloc _) w2.heap.size [.int .i64 2, .int .i64 ((k - p : Nat) : Int), .string (t.extract p k)] (heap_alloc_new w2 _) rfl (by simp [Value.oneCell']) (by omega) (by simp; omega) rfl (.tmp 34) (.tmp 41) rfl rfl rfl ?_
               intro v6 w6 hown6 hg6
               have hB6 : Below w.heap.size w w6 := (hB2.alloc (by omega) _).grown hg6 (by simp; omega) (fun k hk => (hown2.lt k hk).1)
               have hs6 : w2.heap.size + 1 ≤ w6.heap.size := by have := hg6.size; simp at this; exact this
               have hh6 : w6.heap[wr.heap.size]? = some (.cells #[.int .u8 x, .int .i64 (k : Int)] 230) := by rw [hg6.block _ (by simp; omega) (fun e => hn2 e.symm), Below.heap_alloc _ _ _ (by omega)]; exact hh2
               have hn6 := own_not hown6 hh6 (by decide)
               obtain ⟨a6, c6, hv6⟩ := own_form hown6
               subst hv6
               clear hg6)
            | refine gb_build elRec rfl _ rfl [.int .i64 0, .int .i64 1, .string ⟨#[]⟩] rfl rfl ?_
            | (refine gb_append' elRec (hown6.alloc _) w6.heap.size [.int .i64 0, .int .i64 1, .string ⟨#[]⟩] (heap_alloc_new w6 _) rfl (by simp [Value.oneCell']) (by omega) (by simp; omega) rfl (.tmp 43) (.tmp 45) rfl rfl rfl ?_
               intro v7 w7 hown7 hg7
               have hB7 : Below w.heap.size w w7 := (hB6.alloc (by omega) _).grown hg7 (by simp; omega) (fun k hk => (hown6.lt k hk).1)
               have hs7 : w6.heap.size + 1 ≤ w7.heap.size := by have := hg7.size; simp at this; exact this
               have hh7 : w7.heap[wr.heap.size]? = some (.cells #[.int .u8 x, .int .i64 (k : Int)] 230) := by rw [hg7.block _ (by simp; omega) (fun e => hn6 e.symm), Below.heap_alloc _ _ _ (by omega)]; exact hh6
               have e7 : w7.cell? ⟨wr.heap.size, 1, none⟩ = some (.int .i64 (k : Int)) := by rw [cell_of_row _ _ _ _ _ _ hh7]; rfl
               have l7 : wr.heap.size < w7.heap.size := by omega
               obtain ⟨a7, c7, hv7⟩ := own_form hown7
               subst hv7
               clear hg7))
          go_roundw
          case rel =>
            refine ⟨i + 1, k + 1, q + 1 + 1, by go_num, by go_num, by omega, by omega, ?_, ?_, by omega, ?_, hB7⟩
            · show _ = _; rw [HSN.out]
            · show _ = _; rw [HSN.out, List.length_append, HQ.out]; rfl
            · rw [HSN.out, recsC_app, recsC_app, ← List.append_assoc]; exact hown7
          case measure => first | (simp [intOf]; done) | (simp [intOf]; omega)
        · have hpk1 : ¬ (p : Int) < (k : Int) := by omega
          rw [if_neg hpk1] at HSN
          clear hgx
          have hgx : ((wr.alloc (.cells #[.int .u8 x, .int .i64 (k : Int)] 230)).alloc (.cells #[.int .i64 0, .int .i64 1, .string ⟨#[]⟩] 69)).heap[wr.heap.size + 1]? = some (.cells [.int .i64 0, .int .i64 1, .string ⟨#[]⟩].toArray 69) := by
            have := heap_alloc_new (wr.alloc (.cells #[.int .u8 x, .int .i64 (k : Int)] 230)) (.cells #[.int .i64 0, .int .i64 1, .string ⟨#[]⟩] 69)
            simpa using this
          have hnA := own_not hownA hh1 (by decide)
          go_wp2_with (first
            | refine rg_load rtCl hr rfl rfl _ rfl rfl ?_
            | (refine gb_append' elRec (hownA.alloc _) (wr.heap.size + 1) [.int .i64 0, .int .i64 1, .string ⟨#[]⟩] hgx rfl (by simp [Value.oneCell']) (by omega) (by simp; omega) rfl (.tmp 43) (.tmp 45) rfl rfl rfl ?_
               intro v7 w7 hown7 hg7
               have hB7 : Below w.heap.size w w7 := (hBA.alloc (by omega) _).grown hg7 (by simp; omega) (fun k hk => (hownA.lt k hk).1)
               have hs7 : wr.heap.size + 2 ≤ w7.heap.size := by have := hg7.size; simp at this; exact this
               have hh7 : w7.heap[wr.heap.size]? = some (.cells #[.int .u8 x, .int .i64 (k : Int)] 230) := by rw [hg7.block _ (by simp; omega) (fun e => hnA e.symm), Below.heap_alloc _ _ _ (by omega)]; exact hh1
               have e7 : w7.cell? ⟨wr.heap.size, 1, none⟩ = some (.int .i64 (k : Int)) := by rw [cell_of_row _ _ _ _ _ _ hh7]; rfl
               have l7 : wr.heap.size < w7.heap.size := by omega
               obtain ⟨a7, c7, hv7⟩ := own_form hown7
               subst hv7
               clear hg7))
          go_roundw
          case rel =>
            refine ⟨i + 1, k + 1, q + 1, by go_num, by go_num, by omega, by omega, ?_, ?_, by omega, ?_, hB7⟩
            · show _ = _; rw [HSN.out]
            · show _ = _; rw [HSN.out, List.length_append, HQ.out]; rfl
            · rw [HSN.out, recsC_app]; exact hown7
          case measure => first | (simp [intOf]; done) | (simp [intOf]; omega)
    · obtain rfl : i = n := by omega
      have hlt1 : ¬ (i : Int) < (i : Int) := by omega
      rw [List.take_of_length_le (by rw [HN.out]; exact Nat.le_refl _)] at HP HQ hown
      rw [HP.out] at HA
      generalize (recsP t 0 l).1 = R at *
      by_cases hps : p < t.size
      · have hps1 : (p : Int) < (t.size : Int) := by omega
        have hps2 : (p : Int) ≤ (t.size : Int) := by omega
        have hp0 : (0 : Int) ≤ (p : Int) := by omega
        rw [if_pos hps] at HA
        have HX : Hid ((t.extract p t.size).size = t.size - p) := by show _ = _; rw [ByteArray.size_extract, Nat.min_eq_left (Nat.le_refl _)]
        go_wp2_with fail
        refine (restored_calls (t.extract p t.size) wr (by rw [HX.out]; omega)).mono ?_
        rintro e w2 ⟨rfl, B2⟩
        rw [HX.out]
        have hown2 := ownsRow_below hown B2
        have hB2 := hB.trans (B2.mono hwb)
        have hs2 := B2.size
        go_wp2_with (first
          | refine gb_build elRec rfl _ rfl [.int .i64 2, .int .i64 ((t.size - p : Nat) : Int), .string (t.extract p t.size)] rfl rfl ?_
          | (refine gb_append' elRec (hown2.alloc _) w2.heap.size [.int .i64 2, .int .i64 ((t.size - p : Nat) : Int), .string (t.extract p t.size)] (heap_alloc_new w2 _) rfl (by simp [Value.oneCell']) (by omega) (by simp; omega) rfl (.tmp 55) (.tmp 60) rfl rfl rfl ?_
             intro v6 w6 hown6 hg6
             have hB6 : Below w.heap.size w w6 := (hB2.alloc (by omega) _).grown hg6 (by simp; omega) (fun k hk => (hown2.lt k hk).1)
             obtain ⟨a6, c6, hv6⟩ := own_form hown6
             subst hv6
             clear hg6))
        go_ret
        refine ⟨_, rfl, ?_, hB6⟩
        rw [HA.out, List.length_append, HQ.out, recsC_app]
        exact hown6
      · have hps1 : ¬ (p : Int) < (t.size : Int) := by omega
        rw [if_neg hps, List.append_nil] at HA
        go_wp2
        go_ret
        refine ⟨_, rfl, ?_, hB⟩
        rw [HA.out, HQ.out]
        exact hown
end Go.Proofs.YtlppphmnegdhoabGreatDoor

namespace Go.Proofs.YtlppphmnegdhoabGreatDoor
set_option linter.unusedVariables false
open Go.RowKit
open M

def bytC (A : List UInt8) : List Value := A.map fun b => .int .u8 (b.toNat : Int)
structure SLBox (b : Nat) (w : World) (vo : Value) (m d : Nat) (vr : Value) : Prop where
  c0 : w.cell? ⟨b, 0, none⟩ = some vo
  c1 : w.cell? ⟨b, 1, none⟩ = some (.int .i64 m)
  c2 : w.cell? ⟨b, 2, none⟩ = some (.int .i64 d)
  c3 : w.cell? ⟨b, 3, none⟩ = some vr
  f0 : w.frozen? ⟨b, 0, none⟩ = false
  f1 : w.frozen? ⟨b, 1, none⟩ = false
  f2 : w.frozen? ⟨b, 2, none⟩ = false
  f3 : w.frozen? ⟨b, 3, none⟩ = false
theorem SLBox.keep {b : Nat} {w w' : World} {vo vr : Value} {m d : Nat} (h : SLBox b w vo m d vr) (hk : w'.heap[b]? = w.heap[b]?) : SLBox b w' vo m d vr := by
  have hc : ∀ o, w'.cell? ⟨b, o, none⟩ = w.cell? ⟨b, o, none⟩ := fun o => World.cell?_of_block hk
  have hf : ∀ o, w'.frozen? ⟨b, o, none⟩ = w.frozen? ⟨b, o, none⟩ := fun o => World.frozen?_of_block hk
  exact ⟨(hc _).trans h.c0, (hc _).trans h.c1, (hc _).trans h.c2, (hc _).trans h.c3, (hf _).trans h.f0, (hf _).trans h.f1, (hf _).trans h.f2, (hf _).trans h.f3⟩
theorem SLBox.set0 {b : Nat} {w : World} {vo vr : Value} {m d : Nat} (h : SLBox b w vo m d vr) (u : Value) : SLBox b (w.setCell ⟨b, 0, none⟩ u) u m d vr := by
  obtain ⟨c0, c1, c2, c3, f0, f1, f2, f3⟩ := h
  refine ⟨?_, ?_, ?_, ?_, ?_, ?_, ?_, ?_⟩
  all_goals first | (simp [go_sem, *]; done) | (rw [World.cell?_setCell_other (by simp)]; assumption) | exact World.cell?_setCell_same c0
theorem SLBox.set1 {b : Nat} {w : World} {vo vr : Value} {m d : Nat} (h : SLBox b w vo m d vr) (u : Nat) : SLBox b (w.setCell ⟨b, 1, none⟩ (.int .i64 u)) vo u d vr := by
  obtain ⟨c0, c1, c2, c3, f0, f1, f2, f3⟩ := h
  refine ⟨?_, ?_, ?_, ?_, ?_, ?_, ?_, ?_⟩
  all_goals first | (simp [go_sem, *]; done) | (rw [World.cell?_setCell_other (by simp)]; assumption) | exact World.cell?_setCell_same c1
theorem SLBox.set2 {b : Nat} {w : World} {vo vr : Value} {m d : Nat} (h : SLBox b w vo m d vr) (u : Nat) : SLBox b (w.setCell ⟨b, 2, none⟩ (.int .i64 u)) vo m u vr := by
  obtain ⟨c0, c1, c2, c3, f0, f1, f2, f3⟩ := h
  refine ⟨?_, ?_, ?_, ?_, ?_, ?_, ?_, ?_⟩
  all_goals first | (simp [go_sem, *]; done) | (rw [World.cell?_setCell_other (by simp)]; assumption) | exact World.cell?_setCell_same c2
theorem SLBox.set3 {b : Nat} {w : World} {vo vr : Value} {m d : Nat} (h : SLBox b w vo m d vr) (u : Value) : SLBox b (w.setCell ⟨b, 3, none⟩ u) vo m d u := by
  obtain ⟨c0, c1, c2, c3, f0, f1, f2, f3⟩ := h
  refine ⟨?_, ?_, ?_, ?_, ?_, ?_, ?_, ?_⟩
  all_goals first | (simp [go_sem, *]; done) | (rw [World.cell?_setCell_other (by simp)]; assumption) | exact World.cell?_setCell_same c3

/-- a growing short list in memory -/
structure SLAt (b : Nat) (w : World) (S : SL) (vo vr : Value) : Prop where
  box : SLBox b w vo S.m S.d vr
  out : w.ownsRow (b + 1) 69 3 vo S.out.length (recsC S.out)
  s : w.ownsRow (b + 1) 5 1 vr S.s.length (bytC S.s)
  lt : b < w.heap.size
theorem rows_apart {w : World} {B1 B2 : Nat} {e1 e2 : TypeId} {s1 s2 : Nat} {v1 v2 : Value} {n1 n2 : Nat} {x1 x2 : List Value} (h1 : w.ownsRow B1 e1 s1 v1 n1 x1) (h2 : w.ownsRow B2 e2 s2 v2 n2 x2) (hne : e1 ≠ e2) : v1.ownBlock = none ∨ v1.ownBlock ≠ v2.ownBlock := by
  rcases h1.2 with ⟨rfl, _⟩ | ⟨g, cap, cur, rfl, hb, hg, _⟩
  · exact .inl rfl
  · right
    rcases h2.2 with ⟨rfl, _⟩ | ⟨g', cap', cur', rfl, hb', hg', _⟩
    · simp [Value.ownBlock]
    · intro e
      simp [Value.ownBlock] at e
      subst e
      rw [hg] at hg'
      simp at hg'
      exact hne hg'.2
theorem SLAt.keep {b : Nat} {w w' : World} {S : SL} {vo vr : Value} (h : SLAt b w S vo vr) (hb : Below w.heap.size w w') : SLAt b w' S vo vr :=
  ⟨h.box.keep (hb.block b h.lt), ownsRow_below h.out hb, ownsRow_below h.s hb, by have := hb.size; have := h.lt; omega⟩
theorem SLAt.alloc {b : Nat} {w : World} {S : SL} {vo vr : Value} (h : SLAt b w S vo vr) (o : Obj) : SLAt b (w.alloc o) S vo vr :=
  h.keep ((Below.refl w.heap.size w).alloc (Nat.le_refl _) o)
/-- what else is as it was: all but the box and the row of records; where that row lies now -/
def Fr (b : Nat) (vo : Value) (w w' : World) (vo' : Value) : Prop :=
  (∀ k, k < w.heap.size → k ≠ b → vo.ownBlock ≠ some k → w'.heap[k]? = w.heap[k]?) ∧ (vo'.ownBlock = vo.ownBlock ∨ ∃ g, vo'.ownBlock = some g ∧ w.heap.size ≤ g)
theorem Fr.refl (b : Nat) (vo : Value) (w : World) : Fr b vo w w vo := ⟨fun _ _ _ _ => rfl, .inl rfl⟩
theorem Fr.trans {b : Nat} {v0 v1 v2 : Value} {w0 w1 w2 : World} (h : Fr b v0 w0 w1 v1) (hs : w0.heap.size ≤ w1.heap.size) (g : Fr b v1 w1 w2 v2) : Fr b v0 w0 w2 v2 := by
  refine ⟨fun k hk hb hv => ?_, ?_⟩
  · rw [g.1 k (by omega) hb (fun e => ?_), h.1 k hk hb hv]
    rcases h.2 with h2 | ⟨q, h2, h3⟩
    · exact hv (h2.symm.trans e)
    · rw [h2] at e; simp at e; omega
  · rcases g.2 with g2 | ⟨q, g2, g3⟩
    · rcases h.2 with h2 | ⟨q, h2, h3⟩
      · exact .inl (g2.trans h2)
      · exact .inr ⟨q, g2.trans h2, h3⟩
    · exact .inr ⟨q, g2, by omega⟩
theorem Fr.set {b : Nat} {v0 v1 : Value} {w0 w1 : World} (h : Fr b v0 w0 w1 v1) (o : Nat) (u : Value) : Fr b v0 w0 (w1.setCell ⟨b, o, none⟩ u) v1 :=
  ⟨fun k hk hb hv => (heap_setCell_other w1 _ k u hb).trans (h.1 k hk hb hv), h.2⟩
theorem SLAt.growOut {b : Nat} {w w3 : World} {S : SL} {vo vr v' : Value} {o : Obj} {r : M.Rec} (h : SLAt b w S vo vr) (hown : w3.ownsRow (b + 1) 69 3 v' (S.out.length + 1) (recsC S.out ++ recC r)) (hg : (w.alloc o).grownBy w3 vo.ownBlock) {g : Nat} (hv : v'.ownBlock = some g) (hat : vo.ownBlock = some g ∨ g = w.heap.size + 1) :
    SLBox b w3 vo S.m S.d vr ∧ SLAt b (w3.setCell ⟨b, 0, none⟩ v') ⟨S.out ++ [r], S.m, S.d, S.s⟩ v' vr ∧ Below b w (w3.setCell ⟨b, 0, none⟩ v') ∧ Fr b vo w (w3.setCell ⟨b, 0, none⟩ v') v' := by
  have hlt := h.lt
  have hb := (h.alloc o).box.keep (hg.block b (by simp; omega) (fun e => by have := (h.out.lt b e.symm).1; omega))
  have hs := hg.size
  simp at hs
  have h3 : w3.ownsRow (b + 1) 5 1 vr S.s.length (bytC S.s) := (h.s.alloc o).kept hg (rows_apart h.s h.out (by decide))
  rw [← recsC_snoc] at hown
  refine ⟨hb, ⟨hb.set0 _, ?_, ownsRow_setCell_below h3 (by simp) _, by simp; omega⟩, ?_, Fr.set ⟨?_, ?_⟩ _ _⟩
  · rw [List.length_append]; exact ownsRow_setCell_below hown (by simp) _
  · exact (((Below.refl b w).alloc (by omega) o).grown hg (by simp; omega) (fun k hk => by have := (h.out.lt k hk).1; omega)).setCell (by simp) _
  · intro k hk hkb hkv
    rw [hg.block k (by simp; omega) (fun e => hkv e.symm), Below.heap_alloc _ _ _ hk]
  · rcases hat with hat | hat
    · exact .inl (hv.trans hat.symm)
    · exact .inr ⟨g, hv, by omega⟩
theorem SLAt.growS {b : Nat} {w w3 : World} {S : SL} {vo vr v' : Value} {t : ByteArray} (h : SLAt b w S vo vr) (hown : w3.ownsRow (b + 1) 5 1 v' (S.s.length + t.size) (bytC S.s ++ Lib.strCells t)) (hg : w.grownBy w3 vr.ownBlock) :
    SLBox b w3 vo S.m S.d vr ∧ SLAt b (w3.setCell ⟨b, 3, none⟩ v') ⟨S.out, S.m, S.d, S.s ++ t.data.toList⟩ vo v' ∧ Below b w (w3.setCell ⟨b, 3, none⟩ v') ∧ (∀ k, k < w.heap.size → k ≠ b → vr.ownBlock ≠ some k → (w3.setCell ⟨b, 3, none⟩ v').heap[k]? = w.heap[k]?) := by
  have hlt := h.lt
  have hb := h.box.keep (hg.block b (by omega) (fun e => by have := (h.s.lt b e.symm).1; omega))
  have hs := hg.size
  have h3 : w3.ownsRow (b + 1) 69 3 vo S.out.length (recsC S.out) := h.out.kept hg (rows_apart h.out h.s (by decide))
  refine ⟨hb, ⟨hb.set3 _, ownsRow_setCell_below h3 (by simp) _, ?_, by simp; omega⟩, ?_, ?_⟩
  · rw [List.length_append, ba_len]
    have e : bytC (S.s ++ t.data.toList) = bytC S.s ++ Lib.strCells t := by rw [strCells_eq]; simp [bytC]
    rw [e]
    exact ownsRow_setCell_below hown (by simp) _
  · exact ((Below.refl b w).grown hg (by omega) (fun k hk => by have := (h.s.lt k hk).1; omega)).setCell (by simp) _
  · intro k hk hkb hkv
    rw [heap_setCell_other w3 _ k _ hkb, hg.block k hk (fun e => hkv e.symm)]
theorem SLAt.setM {b : Nat} {w : World} {S : SL} {vo vr : Value} (h : SLAt b w S vo vr) (u : Nat) : SLAt b (w.setCell ⟨b, 1, none⟩ (.int .i64 u)) ⟨S.out, u, S.d, S.s⟩ vo vr :=
  ⟨h.box.set1 u, ownsRow_setCell_below h.out (by simp) _, ownsRow_setCell_below h.s (by simp) _, by simpa using h.lt⟩
theorem SLAt.setD {b : Nat} {w : World} {S : SL} {vo vr : Value} (h : SLAt b w S vo vr) (u : Nat) : SLAt b (w.setCell ⟨b, 2, none⟩ (.int .i64 u)) ⟨S.out, S.m, u, S.s⟩ vo vr :=
  ⟨h.box.set2 u, ownsRow_setCell_below h.out (by simp) _, ownsRow_setCell_below h.s (by simp) _, by simpa using h.lt⟩
theorem SLAt.setNil {b : Nat} {w : World} {S : SL} {vo vr : Value} (h : SLAt b w S vo vr) : SLAt b (w.setCell ⟨b, 3, none⟩ (.slice none 0 0)) ⟨S.out, S.m, S.d, []⟩ vo (.slice none 0 0) :=
  ⟨h.box.set3 _, ownsRow_setCell_below h.out (by simp) _, World.ownsRow_nil _ _ _ _, by simpa using h.lt⟩
end Go.Proofs.YtlppphmnegdhoabGreatDoor

namespace Go.Proofs.YtlppphmnegdhoabGreatDoor
set_option linter.unusedVariables false
open Go.RowKit
open M

theorem slK_pos {m : Nat} (h : ¬ m = 0) : rKeep m = [⟨0, (m : Int), ⟨#[]⟩⟩] := if_neg h
theorem slD_pos {m : Nat} (h : ¬ m = 0) : rDrop m = [⟨1, (m : Int), ⟨#[]⟩⟩] := if_neg h
theorem slR_pos {s : List UInt8} {t : ByteArray} (h : t.data.toList = s) (hs : ¬ s.length = 0) : rRest s = [⟨2, (s.length : Int), t⟩] := by
  have h1 : ¬ s = [] := fun e => hs (by rw [e]; rfl)
  have h2 : (⟨⟨s⟩⟩ : ByteArray) = t := ba_ext h.symm
  unfold rRest
  rw [if_neg h1, h2]

set_option maxRecDepth 100000 in
set_option maxHeartbeats 4000000 in
theorem settle_calls (b : Nat) (S : SL) (vo vr : Value) (w : World) (h : SLAt b w S vo vr) (hm : S.m ≤ 65536) (hd : S.d ≤ 65536) (hs : S.s.length ≤ 65536) (ho : S.out.length ≤ 1048576) :
    Calls Tryz.prog 171 #[.pointer (some ⟨b, 0, none⟩)] w fun e w' => e = .returned (.tuple #[]) ∧ (∃ vo', SLAt b w' ⟨S.fin, 0, 0, []⟩ vo' (.slice none 0 0) ∧ Fr b vo w w' vo') ∧ Below b w w' := by
  obtain ⟨i0, hi, hz0, hz1, hz2⟩ := info_parts Tryz.info69
  obtain ⟨L, m, d, s⟩ := S
  simp only at hm hd hs ho
  obtain ⟨ar, cr, hvr⟩ := own_form h.s
  simp only at hvr
  subst hvr
  go_enter Tryz.func171, Tryz.ntmps171
  have hlt := h.lt
  obtain ⟨c0, c1, c2, c3, f0, f1, f2, f3⟩ := h.box
  simp only at c0 c1 c2 c3
  go_upto_if 6 with fail
  go_cut [] (fun wx => ∃ v1, SLAt b wx ⟨L ++ rKeep m, m, d, s⟩ v1 (.slice ar s.length cr) ∧ Fr b vo w wx v1 ∧ Below b w wx)
  case first =>
    by_cases hm0 : m = 0
    · have hm1 : ¬ (0 : Int) < (m : Int) := by omega
      have HM : Hid (m = 0) := hm0
      clear hm0
      go_wp2
      go_meet
      exact ⟨vo, by simpa [rKeep, HM.out] using h, Fr.refl _ _ _, Below.refl _ _⟩
    · have hm1 : (0 : Int) < (m : Int) := by omega
      go_wp2
      go_region_law (first
        | (refine step_append_lies _ rfl (.tmp 11) (.tmp 17) 46 rfl (b + 1) 69 i0 (.agg #[.int .i64 0, .int .i64 0, .string ⟨#[]⟩]) 3 32 Tryz.underlying46 hi hz0 hz1 hz2 rfl (by decide) vo L.length (recsC L) (by simp [Act.eval]) (World.ownsRow.drew (World.ownsRow.alloc h.out _)) ⟨w.heap.size, 0, none⟩ 1 1 (recC ⟨0, (m : Int), ⟨#[]⟩⟩) (by simp [Act.eval]) rfl (fun j u h => recC_at w _ _ j u h) (recC_one _) (by decide) (by unfold maxLen; omega) (by omega) (by simp; omega) (w.heap.size + 1) (by simp) ?_
           intro g cap w3 hown3 hgrow hat3 _
           have hgrow2 : (w.alloc (.cells #[.int .i64 0, .int .i64 (m : Int), .string ⟨#[]⟩] 69)).grownBy w3 vo.ownBlock := ⟨hgrow.os, hgrow.tape, hgrow.output, hgrow.size, hgrow.block⟩
           obtain ⟨hb3, hi3, hB3, hF3⟩ := h.growOut hown3 hgrow2 rfl hat3
           obtain ⟨y0, y1, y2, y3, e0, e1, e2, e3⟩ := hb3
           clear hown3 hgrow hgrow2 hat3 c0 c1 c2 c3 f0 f1 f2 f3))
      all_goals (go_wp2; go_meet)
      all_goals exact ⟨_, by rw [slK_pos hm0]; exact hi3, hF3, hB3⟩
  case rest =>
    clear c0 c1 c2 c3 f0 f1 f2 f3 h hlt
    obtain ⟨v1, h, F1, B1⟩ := hcut
    have hl1 : (L ++ rKeep m).length ≤ 1048577 := by rw [List.length_append]; unfold rKeep; split <;> simp <;> omega
    have HF : Hid ((L ++ rKeep m) ++ (rDrop d ++ rRest s) = SL.fin ⟨L, m, d, s⟩) := by show _ = _; simp [SL.fin]
    generalize L ++ rKeep m = L1 at *
    have hlt := h.lt
    obtain ⟨c0, c1, c2, c3, f0, f1, f2, f3⟩ := h.box
    simp only at c0 c1 c2 c3
    go_upto_if 25 with fail
    go_cut [] (fun wx => ∃ v1, SLAt b wx ⟨L1 ++ rDrop d, m, d, s⟩ v1 (.slice ar s.length cr) ∧ Fr b vo w wx v1 ∧ Below b w wx)
    case first =>
      by_cases hm0 : d = 0
      · have hm1 : ¬ (0 : Int) < (d : Int) := by omega
        have HM : Hid (d = 0) := hm0
        clear hm0
        go_wp2
        go_meet
        exact ⟨v1, by simpa [rDrop, HM.out] using h, F1, B1⟩
      · have hm1 : (0 : Int) < (d : Int) := by omega
        go_wp2
        go_region_law (first
          | (refine step_append_lies _ rfl (.tmp 30) (.tmp 36) 46 rfl (b + 1) 69 i0 (.agg #[.int .i64 0, .int .i64 0, .string ⟨#[]⟩]) 3 32 Tryz.underlying46 hi hz0 hz1 hz2 rfl (by decide) v1 L1.length (recsC L1) (by simp [Act.eval]) (World.ownsRow.drew (World.ownsRow.alloc h.out _)) ⟨wc.heap.size, 0, none⟩ 1 1 (recC ⟨1, (d : Int), ⟨#[]⟩⟩) (by simp [Act.eval]) rfl (fun j u h => recC_at wc _ _ j u h) (recC_one _) (by decide) (by unfold maxLen; omega) (by omega) (by simp; omega) (wc.heap.size + 1) (by simp) ?_
             intro g cap w3 hown3 hgrow hat3 _
             have hgrow2 : (wc.alloc (.cells #[.int .i64 1, .int .i64 (d : Int), .string ⟨#[]⟩] 69)).grownBy w3 v1.ownBlock := ⟨hgrow.os, hgrow.tape, hgrow.output, hgrow.size, hgrow.block⟩
             obtain ⟨hb3, hi3, hB3, hF3⟩ := h.growOut hown3 hgrow2 rfl hat3
             obtain ⟨y0, y1, y2, y3, e0, e1, e2, e3⟩ := hb3
             clear hown3 hgrow hgrow2 hat3 c0 c1 c2 c3 f0 f1 f2 f3))
        all_goals (go_wp2; go_meet)
        all_goals exact ⟨_, by rw [slD_pos hm0]; exact hi3, F1.trans B1.size hF3, B1.trans hB3⟩
    case rest =>
      clear c0 c1 c2 c3 f0 f1 f2 f3 h hlt B1 F1
      obtain ⟨v2, h, F1, B1⟩ := hcut
      have hl2 : (L1 ++ rDrop d).length ≤ 1048578 := by rw [List.length_append]; unfold rDrop; split <;> simp <;> omega
      rw [← List.append_assoc] at HF
      generalize L1 ++ rDrop d = L2 at *
      have hlt := h.lt
      obtain ⟨c0, c1, c2, c3, f0, f1, f2, f3⟩ := h.box
      simp only at c0 c1 c2 c3
      go_upto_if 45 with fail
      go_cut [] (fun wx => ∃ v1, SLAt b wx ⟨L2 ++ rRest s, m, d, s⟩ v1 (.slice ar s.length cr) ∧ Fr b vo w wx v1 ∧ Below b w wx)
      case first =>
        by_cases hm0 : s.length = 0
        · have hm1 : ¬ (0 : Int) < (s.length : Int) := by omega
          have HM : Hid (s = []) := List.length_eq_zero_iff.1 hm0
          clear hm0
          go_wp2
          go_meet
          exact ⟨v2, by simpa [rRest, HM.out] using h, F1, B1⟩
        · have hm1 : (0 : Int) < (s.length : Int) := by omega
          obtain ⟨t, ht, hr⟩ := conv_own (A := s) h.s
          obtain ⟨t', ht', hr'⟩ := conv_own (A := s) (World.ownsRow.drew h.s)
          obtain rfl : t = t' := ba_ext (ht.trans ht'.symm)
          have HR : Hid (rRest s = [⟨2, (s.length : Int), t⟩]) := slR_pos ht hm0
          clear ht ht'
          go_wp2
          go_region_law (first
            | (refine step_append_lies _ rfl (.tmp 50) (.tmp 62) 46 rfl (b + 1) 69 i0 (.agg #[.int .i64 0, .int .i64 0, .string ⟨#[]⟩]) 3 32 Tryz.underlying46 hi hz0 hz1 hz2 rfl (by decide) v2 L2.length (recsC L2) (by simp [Act.eval]) (World.ownsRow.drew (World.ownsRow.alloc h.out _)) ⟨wc.heap.size, 0, none⟩ 1 1 (recC ⟨2, (s.length : Int), t⟩) (by simp [Act.eval]) rfl (fun j u h => recC_at wc _ _ j u h) (recC_one _) (by decide) (by unfold maxLen; omega) (by omega) (by simp; omega) (wc.heap.size + 1) (by simp) ?_
               intro g cap w3 hown3 hgrow hat3 _
               have hgrow2 : (wc.alloc (.cells #[.int .i64 2, .int .i64 (s.length : Int), .string t] 69)).grownBy w3 v2.ownBlock := ⟨hgrow.os, hgrow.tape, hgrow.output, hgrow.size, hgrow.block⟩
               obtain ⟨hb3, hi3, hB3, hF3⟩ := h.growOut hown3 hgrow2 rfl hat3
               obtain ⟨y0, y1, y2, y3, e0, e1, e2, e3⟩ := hb3
               clear hown3 hgrow hgrow2 hat3 c0 c1 c2 c3 f0 f1 f2 f3))
          all_goals (go_wp2; go_meet)
          all_goals exact ⟨_, by rw [HR.out]; exact hi3, F1.trans B1.size hF3, B1.trans hB3⟩
      case rest =>
        clear c0 c1 c2 c3 f0 f1 f2 f3 h hlt B1 F1
        obtain ⟨v3, h, F1, B1⟩ := hcut
        rw [HF.out] at h
        have hlt := h.lt
        obtain ⟨c0, c1, c2, c3, f0, f1, f2, f3⟩ := h.box
        simp only at c0 c1 c2 c3
        go_wp2
        go_end0
        refine ⟨rfl, ⟨v3, ?_, ((F1.set _ _).set _ _).set _ _⟩, ?_⟩
        · exact ((h.setM 0).setD 0).setNil
        · exact ((B1.setCell (by simp) _).setCell (by simp) _).setCell (by simp) _
end Go.Proofs.YtlppphmnegdhoabGreatDoor

namespace Go.Proofs.YtlppphmnegdhoabGreatDoor
set_option linter.unusedVariables false
open Go.RowKit
open M

theorem step_append_own_string {P : Program} {w : World} {ops : Array Oper} {o : Oper} {a : Act} {K : Act → World → Prop} {Q : Exit → Act → World → Prop} {E : Prop} (hgd : o.guard = none) (sl x : Operand) (t u : TypeId)
    (ho : o.op = .call { callee := .builtin .append, args := #[sl, x], argTypes := #[t, u] })
    (base : Nat) (e : TypeId) (i : TypeInfo) (ht : P.underlying t = some (.slice e)) (hu : P.underlying u = some .string) (hi : P.info? e = some i) (hz : i.zero = some (.int .u8 0))
    (hsize : i.size = 1) (hby : i.bytes = 1)
    (v : Value) (n : Nat) (xs : List Value) (hs : a.eval sl = v) (hown : w.ownsRow base e 1 v n xs) (s : ByteArray) (hx : a.eval x = .string s)
    (h63 : n + s.size ≤ maxLen) (hbytes : n + s.size ≤ 140737488355328) (hbase : base ≤ w.heap.size)
    (h : ∀ v' w', w'.ownsRow base e 1 v' (n + s.size) (xs ++ Lib.strCells s) → w.grownBy w' v.ownBlock → K (a.put o.dst v') w') :
    if Region.wanted o (yielded ops a.tmps) = true then Oper.wp P o a w K Q else E := by
  have hw : Region.wanted o (yielded ops a.tmps) = true := by simp [Region.wanted, hgd]
  rw [if_pos hw]
  obtain ⟨v', w', hr, h2, h3, h4⟩ := Lib.run_append_own_string (P := P) w base t u o.type e i ht hu hi hz hsize hby v n xs hown s h63 hbytes hbase
  unfold Oper.wp execOp
  simp only [ho, resolve, invoke, builtin, Sem.run_bind, Sem.run_pure, Result.andThen_ok, List.map_toArray, List.map_cons, List.map_nil, hs, hx, hr]
  exact h v' w' h2 h3
theorem SLAt.drew {b : Nat} {w : World} {S : SL} {vo vr : Value} (h : SLAt b w S vo vr) : SLAt b w.drew S vo vr :=
  ⟨h.box.keep rfl, h.out.drew, h.s.drew, h.lt⟩
/-- all but the box and the two rows is as it was -/
def Far (b : Nat) (vo vr : Value) (w w' : World) : Prop := ∀ k, k < w.heap.size → k ≠ b → vo.ownBlock ≠ some k → vr.ownBlock ≠ some k → w'.heap[k]? = w.heap[k]?

set_option maxRecDepth 100000 in
set_option maxHeartbeats 4000000 in
theorem add_calls (b : Nat) (S : SL) (vo vr : Value) (r : M.Rec) (w : World) (h : SLAt b w S vo vr) (hr : okRec r = true) (hn : r.n ≤ 65536) (hm : S.m ≤ 65536) (hd : S.d ≤ 65536) (hs : S.s.length ≤ 65536) (ho : S.out.length ≤ 1048576) :
    Calls Tryz.prog 135 #[.pointer (some ⟨b, 0, none⟩), .agg #[.int .i64 r.kind, .int .i64 r.n, .string r.s]] w fun e w' => e = .returned (.tuple #[]) ∧ (∃ vo' vr', SLAt b w' (S.add r) vo' vr') ∧ Far b vo vr w w' ∧ Below b w w' := by
  obtain ⟨i0, hi, hz0, hz1, hz2⟩ := info_parts Tryz.info5
  obtain ⟨L, m, d, s⟩ := S
  simp only at hm hd hs ho
  obtain ⟨ar, cr, hvr⟩ := own_form h.s
  simp only at hvr
  subst hvr
  have hk := (okRec_iff r).1 hr
  obtain ⟨kind, rn, rs⟩ := r
  simp only at hk hn
  obtain ⟨n, rfl⟩ : ∃ n : Nat, rn = n := ⟨rn.toNat, by omega⟩
  have hlt := h.lt
  have hro := h.out.lt
  have hrs := h.s.lt
  obtain ⟨c0, c1, c2, c3, f0, f1, f2, f3⟩ := h.box
  simp only at c0 c1 c2 c3
  rcases hk.2 with ⟨rfl | rfl, hs0⟩ | ⟨rfl, hsn⟩
  · by_cases hp : 0 < d ∨ s ≠ []
    · have HA : Hid (SL.add ⟨L, m, d, s⟩ ⟨0, (n : Int), rs⟩ = ⟨SL.fin ⟨L, m, d, s⟩, n, 0, []⟩) := (if_pos rfl).trans (if_pos hp)
      have hp2 : ¬ (0 : Int) < (d : Int) → (0 : Int) < (s.length : Int) := fun h1 => by
        rcases hp with hp | hp
        · omega
        · have := List.length_pos_iff.2 hp; omega
      clear hp
      by_cases hd0 : 0 < d
      · have hd1 : (0 : Int) < (d : Int) := by omega
        clear hp2
        go_enter Tryz.func135, Tryz.ntmps135
        go_wp2_with fail
        refine (settle_calls b ⟨L, m, d, s⟩ vo (.slice ar s.length cr) _ (h.alloc _) hm hd hs ho).mono ?_
        rintro e w1 ⟨rfl, ⟨vo', h1, F1⟩, B1⟩
        have hfar : ∀ k, k < w.heap.size + 1 → k ≠ b → vo.ownBlock ≠ some k → w1.heap[k]? = (w.alloc (.cells #[.int .i64 0, .int .i64 (n : Int), .string rs] 69)).heap[k]? := fun k hk1 hk2 hk3 => F1.1 k (by simp; omega) hk2 hk3
        have x1 : w1.cell? ⟨w.heap.size, 1, none⟩ = some (.int .i64 (n : Int)) := by
          rw [World.cell?_of_block (hfar w.heap.size (by omega) (by omega) (fun e => by have := (hro _ e).2; omega))]
          simp [go_sem]
        have hlt1 := h1.lt
        have hsz := B1.size
        simp at hsz
        clear c0 c1 c2 c3 f0 f1 f2 f3
        obtain ⟨c0, c1, c2, c3, f0, f1, f2, f3⟩ := h1.box
        simp only at c0 c1 c2 c3
        go_wp2
        go_region
        all_goals go_wp2
        all_goals go_end0
        all_goals refine ⟨rfl, ⟨vo', .slice none 0 0, ?_⟩, ?_, ?_⟩
        · rw [HA.out]
          exact (h1.setM n).drew
        · intro k hk1 hk2 hk3 hk4
          refine (heap_setCell_other w1 ⟨b, 1, none⟩ k _ hk2).trans ?_
          exact (hfar k (by omega) hk2 hk3).trans (Below.heap_alloc _ _ _ hk1)
        · exact ((((Below.refl b w).alloc (by omega) _).trans B1).setCell (by simp) _).drew
      · have hd1 : ¬ (0 : Int) < (d : Int) := by omega
        have hl1 := hp2 hd1
        clear hp2
        go_enter Tryz.func135, Tryz.ntmps135
        go_wp2_with fail
        refine (settle_calls b ⟨L, m, d, s⟩ vo (.slice ar s.length cr) _ (h.alloc _) hm hd hs ho).mono ?_
        rintro e w1 ⟨rfl, ⟨vo', h1, F1⟩, B1⟩
        have hfar : ∀ k, k < w.heap.size + 1 → k ≠ b → vo.ownBlock ≠ some k → w1.heap[k]? = (w.alloc (.cells #[.int .i64 0, .int .i64 (n : Int), .string rs] 69)).heap[k]? := fun k hk1 hk2 hk3 => F1.1 k (by simp; omega) hk2 hk3
        have x1 : w1.cell? ⟨w.heap.size, 1, none⟩ = some (.int .i64 (n : Int)) := by
          rw [World.cell?_of_block (hfar w.heap.size (by omega) (by omega) (fun e => by have := (hro _ e).2; omega))]
          simp [go_sem]
        have hlt1 := h1.lt
        have hsz := B1.size
        simp at hsz
        clear c0 c1 c2 c3 f0 f1 f2 f3
        obtain ⟨c0, c1, c2, c3, f0, f1, f2, f3⟩ := h1.box
        simp only at c0 c1 c2 c3
        go_wp2
        go_region
        all_goals go_wp2
        all_goals go_end0
        all_goals refine ⟨rfl, ⟨vo', .slice none 0 0, ?_⟩, ?_, ?_⟩
        · rw [HA.out]
          exact (h1.setM n).drew
        · intro k hk1 hk2 hk3 hk4
          refine (heap_setCell_other w1 ⟨b, 1, none⟩ k _ hk2).trans ?_
          exact (hfar k (by omega) hk2 hk3).trans (Below.heap_alloc _ _ _ hk1)
        · exact ((((Below.refl b w).alloc (by omega) _).trans B1).setCell (by simp) _).drew
    · have hd1 : ¬ (0 : Int) < (d : Int) := by omega
      have hl1 : ¬ (0 : Int) < (s.length : Int) := fun h1 => hp (.inr (fun e => by rw [e] at h1; simp at h1))
      have HA : Hid (SL.add ⟨L, m, d, s⟩ ⟨0, (n : Int), rs⟩ = ⟨L, m + n, d, s⟩) := (if_pos rfl).trans (if_neg hp)
      clear hp
      go_enter Tryz.func135, Tryz.ntmps135
      go_wp2
      go_region
      all_goals go_wp2
      all_goals go_end0
      all_goals refine ⟨rfl, ⟨vo, .slice ar s.length cr, ?_⟩, ?_, ?_⟩
      · rw [HA.out]
        have e : (m : Int) + n = ((m + n : Nat) : Int) := by omega
        rw [e]
        exact ((h.setM (m + n)).alloc _).drew
      · intro k hk1 hk2 hk3 hk4
        exact (Below.heap_alloc _ _ _ (by simpa using hk1)).trans (heap_setCell_other w ⟨b, 1, none⟩ k _ hk2)
      · exact (((Below.refl b w).setCell (by simp) _).alloc (by simp; omega) _).drew
  · have HA : Hid (SL.add ⟨L, m, d, s⟩ ⟨1, (n : Int), rs⟩ = ⟨L, m, d + n, s⟩) := rfl
    go_enter Tryz.func135, Tryz.ntmps135
    go_wp2
    go_region
    all_goals go_wp2
    all_goals go_end0
    all_goals refine ⟨rfl, ⟨vo, .slice ar s.length cr, ?_⟩, ?_, ?_⟩
    · rw [HA.out]
      have e : (d : Int) + n = ((d + n : Nat) : Int) := by omega
      rw [e]
      exact ((h.setD (d + n)).alloc _).drew
    · intro k hk1 hk2 hk3 hk4
      exact (Below.heap_alloc _ _ _ (by simpa using hk1)).trans (heap_setCell_other w ⟨b, 2, none⟩ k _ hk2)
    · exact (((Below.refl b w).setCell (by simp) _).alloc (by simp; omega) _).drew
  · have HA : Hid (SL.add ⟨L, m, d, s⟩ ⟨2, (n : Int), rs⟩ = ⟨L, m, d, s ++ rs.data.toList⟩) := rfl
    go_enter Tryz.func135, Tryz.ntmps135
    go_wp2
    go_region_law (first
      | (refine step_append_own_string rfl (.tmp 49) (.tmp 51) 151 9 rfl (b + 1) 5 i0 Tryz.underlying151 Tryz.underlying9 hi hz0 hz1 hz2 (.slice ar s.length cr) s.length (bytC s) (by simp [Act.eval]) (h.alloc _).drew.s rs (by simp [Act.eval]) (by unfold maxLen; omega) (by omega) (by simp; omega) ?_
         intro v' w3 hown3 hgrow
         obtain ⟨a', c', hv'⟩ := own_form hown3
         subst hv'
         obtain ⟨hb3, hi3, hB3, hF3⟩ := (h.alloc _).drew.growS hown3 hgrow
         obtain ⟨y0, y1, y2, y3, e0, e1, e2, e3⟩ := hb3
         clear hown3 hgrow c0 c1 c2 c3 f0 f1 f2 f3))
    all_goals go_wp2
    all_goals go_end0
    all_goals refine ⟨rfl, ⟨vo, .slice a' (s.length + rs.size) c', ?_⟩, ?_, ?_⟩
    all_goals first
      | (rw [HA.out]; exact hi3)
      | (intro k hk1 hk2 hk3 hk4; exact (hF3 k (by simp; omega) hk2 hk4).trans (Below.heap_alloc _ _ _ hk1))
      | exact ((Below.refl b w).alloc (by omega) _).drew.trans hB3

set_option maxRecDepth 100000 in
set_option maxHeartbeats 1000000 in
theorem all_calls (b : Nat) (S : SL) (vo vr : Value) (w : World) (h : SLAt b w S vo vr) (hm : S.m ≤ 65536) (hd : S.d ≤ 65536) (hs : S.s.length ≤ 65536) (ho : S.out.length ≤ 1048576) :
    Calls Tryz.prog 136 #[.pointer (some ⟨b, 0, none⟩)] w fun e w' => ∃ v, e = .returned v ∧ w'.ownsRow (b + 1) 69 3 v S.fin.length (recsC S.fin) ∧ Below b w w' := by
  go_enter Tryz.func136, Tryz.ntmps136
  go_wp2_with fail
  refine (settle_calls b S vo vr _ h hm hd hs ho).mono ?_
  rintro e w1 ⟨rfl, ⟨vo', h1, F1⟩, B1⟩
  obtain ⟨c0, c1, c2, c3, f0, f1, f2, f3⟩ := h1.box
  obtain ⟨a1, k1, hv⟩ := own_form h1.out
  simp only at hv
  have hlt := h1.lt
  have hown := h1.out
  simp only at hown
  subst hv
  go_wp2
  go_ret
  exact ⟨_, rfl, hown, B1⟩

/-- what the growing list's bounds are -/
theorem SL.bounds {S : SL} {es : List Ev} (h : S.Is es) (hA : evA es ≤ 4096) (hB : evB es ≤ 4096) : S.m ≤ 65536 ∧ S.d ≤ 65536 ∧ S.s.length ≤ 65536 ∧ S.out.length ≤ 1048576 := by
  have h1 := S.lens
  have h2 := norm_len es
  have h3 := norm_ok es
  rw [← SL.is_fin h] at h2 h3
  have h4 : okAll S.out := fun r hr => h3 r (List.mem_append_left _ hr)
  have h5 := count_le S.out h4
  have h6 := lenA_nn S.out h4
  have h7 := lenB_nn S.out h4
  omega
theorem SLAt.new (w : World) (t : TypeId) : SLAt w.heap.size (w.alloc (.cells #[.slice none 0 0, .int .i64 0, .int .i64 0, .slice none 0 0] t)) ⟨[], 0, 0, []⟩ (.slice none 0 0) (.slice none 0 0) := by
  refine ⟨?_, World.ownsRow_nil _ _ _ _, World.ownsRow_nil _ _ _ _, by simp⟩
  constructor <;> simp [go_sem]

set_option maxRecDepth 100000 in
set_option maxHeartbeats 2000000 in
theorem short_of_calls (n c : Nat) (ad : Option Addr) (l : List M.Rec) (w : World) (hat : RecsAt w ad n l) (hok : okAll l) (hA : lenA l ≤ 4096) (hB : lenB l ≤ 4096) :
    Calls Tryz.prog 97 #[.slice ad n c] w fun e w' => ∃ v, e = .returned v ∧ w'.ownsRow w.heap.size 69 3 v (norm (expL l)).length (recsC (norm (expL l))) ∧ Below w.heap.size w w' := by
  have hn := hat.len
  subst hn
  have hcl := count_le l hok
  go_enter Tryz.func97, Tryz.ntmps97
  go_wp2
  go_loopw [8] (fun i wr => ∃ (k : Nat) (S : SL) (vo vr : Value), k ≤ l.length ∧ i = .int .i64 k ∧ SLAt w.heap.size wr S vo vr ∧ S.Is (expL (l.take k)) ∧ Below w.heap.size w wr) (fun i _ => l.length - (intOf i).toNat)
  case atStart => exact ⟨0, ⟨[], 0, 0, []⟩, _, _, Nat.zero_le _, rfl, SLAt.new w _, SL.is_nil, (Below.refl _ _).alloc (Nat.le_refl _) _⟩
  case round =>
    obtain ⟨k, S, vo, vr, hk, rfl, hS, hI, B⟩ := hrel
    have hz := B.size
    have hex := expL_len l hok
    have htk : evA (expL (l.take k)) ≤ 4096 ∧ evB (expL (l.take k)) ≤ 4096 := by
      have e := expL_append (l.take k) (l.drop k)
      rw [List.take_append_drop] at e
      rw [e, evA_append, evB_append] at hex
      omega
    obtain ⟨b1, b2, b3, b4⟩ := SL.bounds hI htk.1 htk.2
    by_cases hlt : k < l.length
    · have hlt1 : (k : Int) < (l.length : Int) := by omega
      have hno : l ≠ [] := fun h => by rw [h] at hlt; simp at hlt
      obtain ⟨bk, off, ha', hbw, hcells⟩ := hat.cells.resolve_left hno
      obtain ⟨c0, c1, c2⟩ := hcells k hlt
      have d0 := (B.cell (by exact hbw)).trans c0
      have d1 := (B.cell (by exact hbw)).trans c1
      have d2 := (B.cell (by exact hbw)).trans c2
      have hokr := hok l[k] (List.getElem_mem hlt)
      have hn4 := mem_n l hok hA hB l[k] (List.getElem_mem hlt)
      have HI : Hid ((S.add l[k]).Is (expL (l.take (k + 1)))) := by
        show SL.Is _ _
        rw [exp_take l k hlt]
        exact SL.is_add hI hokr
      clear hcells c0 c1 c2 hno hex htk hI
      subst ha'
      generalize l[k] = r at *
      go_wp2_with fail
      refine (add_calls w.heap.size S vo vr r _ (hS.alloc _) hokr (by omega) b1 b2 b3 b4).mono ?_
      rintro e w1 ⟨rfl, ⟨vo', vr', h1⟩, F1, B1⟩
      have B2 : Below w.heap.size w w1 := (B.alloc (by omega) _).trans B1
      go_wp2
      go_roundw
      case rel => exact ⟨k + 1, S.add r, vo', vr', by omega, by go_num, h1, HI.out, B2⟩
      case measure => simp [intOf]; omega
    · obtain rfl : k = l.length := by omega
      rw [List.take_length] at hI
      have HF : Hid (S.fin = norm (expL l)) := SL.is_fin hI
      clear hI htk hex
      go_wp2_with fail
      refine (all_calls w.heap.size S vo vr _ hS b1 b2 b3 b4).mono ?_
      rintro e w1 ⟨v, rfl, own, B1⟩
      rw [HF.out] at own
      obtain ⟨a1, k1, hv⟩ := own_form own
      have own2 := ownsRow_base own (Nat.le_succ _)
      clear HF own
      generalize hnl : norm (expL l) = nl at own2 hv
      have HN : Hid (norm (expL l) = nl) := hnl
      clear hnl
      subst hv
      go_wp2
      go_ret
      exact ⟨_, rfl, by rw [HN.out]; exact own2, B.trans B1⟩
end Go.Proofs.YtlppphmnegdhoabGreatDoor

namespace Go.Proofs.YtlppphmnegdhoabGreatDoor
set_option linter.unusedVariables false
set_option maxRecDepth 100000
open Go.RowKit
open M

theorem leadsE_len (es : List Ev) : ∀ a b, leadsE es a b → evA es = a.length ∧ evB es = b.length := by
  induction es with
  | nil => rintro a b ⟨rfl, rfl⟩; exact ⟨rfl, rfl⟩
  | cons e es ih =>
    intro a b h
    cases e with
    | k =>
      obtain ⟨c, a', b', rfl, rfl, h⟩ := h
      obtain ⟨h1, h2⟩ := ih _ _ h
      exact ⟨by simp [evA, h1], by simp [evB, h2]⟩
    | d =>
      obtain ⟨c, b', rfl, h⟩ := h
      obtain ⟨h1, h2⟩ := ih _ _ h
      exact ⟨by simp [evA, h1], by simp [evB, h2]⟩
    | r c =>
      obtain ⟨a', rfl, h⟩ := h
      obtain ⟨h1, h2⟩ := ih _ _ h
      exact ⟨by simp [evA, h1], by simp [evB, h2]⟩
/-- a run's journal -/
def jourS (S : St) : List UInt8 := writE ⟨S.text.size, S.out.length, sum S.text.data.toList, sum (textC S.out), norm (expL (recsA S.text S.out))⟩
def JnPost (S : St) (w : World) (e : Ending) (w' : World) : Prop := ∃ t : ByteArray, e = .returned (.string t) ∧ t.data.toList = jourS S ∧ Below w.heap.size w w'
set_option maxRecDepth 100000 in
set_option maxHeartbeats 4000000 in
theorem journal_calls (P : Value → World → Prop) (b : Nat) (tl : List Value) (V : RV) (S : St) (w : World) (h : RunAt P b tl V S w) (hw : WF S) (hog : Origs S.text.data.toList S.out) :
    Calls Tryz.prog 79 #[.pointer (some ⟨b, 0, none⟩)] w fun e w' => JnPost S w e w' := by
  have HH : Hid (RunAt P b tl V S w) := h
  have HJS : Hid (jourS S = writE ⟨S.text.size, S.out.length, sum S.text.data.toList, sum (textC S.out), norm (expL (recsA S.text S.out))⟩) := rfl
  have hbl := h.box.lt
  have hou := hw.ou
  have htx := hw.tx
  have c9 := h.cell 9 _ rfl
  have c5 := h.cell 5 _ rfl
  obtain ⟨ao, co, hvo⟩ := own_form h.out
  have hsl := SlAt.own h.out
  rw [hvo] at c9 hsl
  have HSL : Hid (SlAt w (.slice ao S.out.length co) S.out) := hsl
  have HOR : Hid (Bnds S.out) := hw.oo
  have HBS : Hid ((baC S.out).size = S.out.length) := baC_size _
  have hle := leadsE_len _ _ _ (recsA_leads S.text S.out hog)
  have hel := expL_len _ (recsA_ok S.text S.out)
  have HLA : Hid (lenA (recsA S.text S.out) = (S.text.size : Int) ∧ lenB (recsA S.text S.out) = (S.out.length : Int)) := by
    have e1 : (textC S.out).length = S.out.length := by simp [textC]
    have e2 := ba_len S.text
    constructor <;> omega
  have HNL : Hid (lenA (norm (expL (recsA S.text S.out))) = (S.text.size : Int) ∧ lenB (norm (expL (recsA S.text S.out))) = (S.out.length : Int)) := by
    have e1 : (textC S.out).length = S.out.length := by simp [textC]
    have e2 := ba_len S.text
    have e3 := norm_len (expL (recsA S.text S.out))
    constructor <;> omega
  have HOK : Hid (okAll (recsA S.text S.out)) := recsA_ok _ _
  obtain ⟨n, hn⟩ : ∃ n, S.out.length = n := ⟨_, rfl⟩
  have HN : Hid (S.out.length = n) := hn
  rw [hn] at c9 hou HSL HBS HLA HNL HJS
  clear h hle hel hvo hsl hn hog
  go_enter Tryz.func79, Tryz.ntmps79
  go_wp2_with fail
  refine (textOf_calls _ S.out w HSL.out (by rw [HN.out]; omega)).mono ?_
  rintro e w1 ⟨rfl, B1⟩
  have h1 := HH.out.below B1
  have bl1 := h1.box.lt
  have d9 := (B1.cell (by exact hbl)).trans c9
  have d5 := (B1.cell (by exact hbl)).trans c5
  have HRC := records_calls S.text _ S.out w1.drew (HSL.out.below B1).drew (by rw [HN.out]; exact hou) htx HOR.out
  clear c9 c5 h1
  go_wp2_with fail
  go_region_held3 (fun w' => w'.cell? ⟨b, 9, none⟩ = some (.slice ao n co) ∧ w'.cell? ⟨b, 5, none⟩ = some (.string S.text) ∧ b < w'.heap.size)
    (first
      | go_keep
      | (go_split_ands
         refine ⟨?_, ?_, ?_⟩
         · (rw [hb1.cell (by assumption)]; assumption)
         · (rw [hb1.cell (by assumption)]; assumption)
         · (have := hb1.size; omega)))
    (first
      | (go_at_call 118; refine HRC.mono ?_; rintro e w2 ⟨v2, rfl, hown2, hb1⟩; have B2 := hb1; have g5 := (hb1.cell (by exact bl1)).trans d5; have g9 := (hb1.cell (by exact bl1)).trans d9; have gl : b < w2.heap.size := by have := hb1.size; (have h9 : b < w1.heap.size := bl1); (have h8 : w1.heap.size ≤ w2.heap.size := this); omega))
  have BB2 : Below w.heap.size w w2 := below2 B1 (below2 (Below.refl w1.heap.size w1).drew B2)
  obtain ⟨a2, c2, hv2⟩ := own_form hown2
  subst hv2
  have hrec2 := recsAt_own hown2
  have hla := HLA.out
  have hnl := HNL.out
  have hok := HOK.out
  generalize recsA S.text S.out = RS at *
  clear HRC d9 d5 hb1
  go_wp2_with fail
  refine (short_of_calls _ c2 a2 RS w2 hrec2 hok (by omega) (by omega)).mono ?_
  rintro e w3 ⟨v3, rfl, hown3, B3⟩
  obtain ⟨a3, c3, hv3⟩ := own_form hown3
  subst hv3
  have hrec3 := recsAt_own hown3
  have BB3 := below2 BB2 B3
  have e5 := (B3.cell (by exact gl)).trans g5
  have gl3 : b < w3.heap.size := by have := B3.size; omega
  have hok3 := norm_ok (expL RS)
  generalize norm (expL RS) = NR at *
  go_wp2_with fail
  refine (headOf_calls S.text (baC S.out) w3 htx (by rw [HBS.out]; exact hou)).mono ?_
  rintro e w4 ⟨rfl, B4⟩
  have hrec4 := hrec3.below B4
  have BB4 := below2 BB3 B4
  rw [HBS.out]
  have hs1 := sum_lt S.text.data.toList
  have hs2 := sum_lt (baC S.out).data.toList
  have BA : Below w4.heap.size w4 (w4.alloc (.cells #[.int .i64 (S.text.size : Nat), .int .i64 (n : Nat), .int .i64 (sum S.text.data.toList : Nat), .int .i64 (sum (baC S.out).data.toList : Nat)] 126)) := (Below.refl _ _).alloc (Nat.le_refl _) _
  have hrec5 := hrec4.below BA
  go_wp2_with fail
  refine (jwrite_calls _ _ _ _ _ c3 a3 NR _ htx hou hs1 hs2 hrec5 hok3 (by omega) (by omega)).mono ?_
  rintro e w6 ⟨⟨tj, rfl, htj⟩, B6⟩
  have HTJ : Hid (tj.data.toList = jourS S) := by show _ = _; rw [htj, HJS.out]; rfl
  have BB6 := below2 (below2 BB4 BA) B6
  clear htj
  go_wp2
  go_ret
  exact ⟨tj, rfl, HTJ.out, BB6⟩
end Go.Proofs.YtlppphmnegdhoabGreatDoor

namespace Go.Proofs.YtlppphmnegdhoabGreatDoor
set_option linter.unusedVariables false
set_option maxRecDepth 100000
open Go.RowKit
open M

/-- an editor whose run is gone -/
def zE (d : Nat) (c : Bool) : List Value := [.slice none 0 0, .slice none 0 0, .bool false, .int .i64 0, .int .i64 0, .string ⟨#[]⟩, .bool false, .int .i64 0, .int .i64 0, .slice none 0 0, .slice none 0 0, .slice none 0 0, .int .i64 0, .slice none 0 0, .bool false, .int .i64 0, .int .i64 0, .bool false, .int .i64 0, .int .i64 (d : Nat), .bool c]
theorem zE_one (d : Nat) (c : Bool) : ∀ v ∈ zE d c, v.oneCell' = true := by simp [zE, Value.oneCell']
theorem rtEd : RowT 87 21 := ⟨⟨_, Tryz.underlying87, rfl⟩, by kernel_rfl⟩
/-- what an editor carries behind its run -/
def edT (d : Nat) (c : Bool) : List Value := [.int .i64 (d : Nat), .bool c]
theorem RunAt.tail {P : Value → World → Prop} {b : Nat} {d : Nat} {c : Bool} {V : RV} {S : St} {w : World} (h : RunAt P b (edT d c) V S w) : w.cell? ⟨b, 19, none⟩ = some (.int .i64 (d : Nat)) ∧ w.cell? ⟨b, 20, none⟩ = some (.bool c) := ⟨h.box.c 19 _ rfl, h.box.c 20 _ rfl⟩
set_option maxRecDepth 100000 in
theorem feed_done (b : Nat) (s : ByteArray) (w : World) (h : CB w b (zE 0 true)) :
    Calls Tryz.prog 26 #[.pointer (some ⟨b, 0, none⟩), .string s] w fun e w' => e = .returned (.tuple #[.string ⟨#[]⟩, .int .i64 7]) ∧ Below w.heap.size w w' := by
  have c20 := h.c 20 _ rfl
  have hbl := h.lt
  clear h
  go_enter Tryz.func26, Tryz.ntmps26
  go_wp2
  go_ret2
  exact ⟨rfl, Below.refl _ _⟩
set_option maxRecDepth 100000 in
theorem feed_dead (b d : Nat) (s : ByteArray) (w : World) (h : CB w b (zE d false)) (hd : d ≠ 0) :
    Calls Tryz.prog 26 #[.pointer (some ⟨b, 0, none⟩), .string s] w fun e w' => e = .returned (.tuple #[.string ⟨#[]⟩, .int .i64 (d : Nat)]) ∧ Below w.heap.size w w' := by
  have c20 := h.c 20 _ rfl
  have c19 := h.c 19 _ rfl
  have hbl := h.lt
  have hd1 : ((d : Int) != 0) = true := by simp; omega
  clear h hd
  go_enter Tryz.func26, Tryz.ntmps26
  go_wp2_with fail
  go_region
  go_wp2
  go_ret2
  exact ⟨rfl, (Below.refl _ _).drew⟩
def FdPost (P : Value → World → Prop) (b : Nat) (V : RV) (S : St) (s : ByteArray) (w : World) (e : Ending) (w' : World) : Prop :=
  (4096 < S.text.size + s.size ∧ e = .returned (.tuple #[.string ⟨#[]⟩, .int .i64 1]) ∧ w' = w) ∨
  (S.text.size + s.size ≤ 4096 ∧ ∃ T, Goes (S.ext (S.text ++ s) S.closed) T ∧ WF T ∧ e = .returned (.tuple #[.string (baC (partC T.out S.out.length T.out.length)), .int .i64 (T.death : Nat)]) ∧
    ((T.death = 0 ∧ RPost P b (edT 0 false) V T w w') ∨ (T.death ≠ 0 ∧ CB w' b (zE T.death false) ∧ Rf (foot b V) (fun k => k = b) w w')))
set_option maxRecDepth 100000 in
set_option maxHeartbeats 4000000 in
theorem feed_calls (VSS : List (List Value)) (P : Value → World → Prop) (b : Nat) (V : RV) (S : St) (s : ByteArray) (w : World) (h : RunAt P b (edT 0 false) V S w) (hw : WF S) (hP : ∀ w, P V.scr w → CsAt VSS w V.scr S.cs) (hit : ItoaOk P V.scr) (hsm : s.size ≤ maxLen) :
    Calls Tryz.prog 26 #[.pointer (some ⟨b, 0, none⟩), .string s] w fun e w' => FdPost P b V S s w e w' := by
  obtain ⟨c19, c20⟩ := h.tail
  have hbl := h.box.lt
  have htx := hw.tx
  unfold maxLen at hsm
  have HH : Hid (RunAt P b (edT 0 false) V S w) := h
  clear h
  go_enter Tryz.func26, Tryz.ntmps26
  go_wp2_with fail
  refine (fed_calls P b (edT 0 false) V S w HH.out).mono ?_
  rintro e wx ⟨rfl, hwx⟩
  rw [hwx]
  clear hwx
  by_cases hlong : 4096 < S.text.size + s.size
  · have hl1 : (4096 : Int) - (S.text.size : Int) < (s.size : Int) := by omega
    go_wp2
    go_ret2
    exact .inl ⟨hlong, rfl, rfl⟩
  · have hl1 : ¬ (4096 : Int) - (S.text.size : Int) < (s.size : Int) := by omega
    have hl2 : S.text.size + s.size ≤ 4096 := by omega
    clear hlong
    go_wp2_with fail
    refine (rfeed_calls VSS P b (edT 0 false) V S s w HH.out hw hP hit hl2).mono ?_
    rintro e w2 ⟨T, hg, hwt, rfl, hr⟩
    have HG : Hid (Goes (S.ext (S.text ++ s) S.closed) T ∧ WF T) := ⟨hg, hwt⟩
    have hde := hwt.de
    clear hg hwt
    by_cases h0 : T.death = 0
    · have h01 : (((T.death : Nat) : Int) != 0) = false := by simp [h0]
      have HP : Hid (FdPost P b V S s w (.returned (.tuple #[.string (baC (partC T.out S.out.length T.out.length)), .int .i64 (T.death : Nat)])) w2) := .inr ⟨hl2, T, HG.out.1, HG.out.2, rfl, .inl ⟨h0, hr⟩⟩
      clear h0 hr
      go_wp2
      go_ret2
      exact HP.out
    · have h01 : (((T.death : Nat) : Int) != 0) = true := by simp; omega
      obtain ⟨V2, hs2, hR2, hF2⟩ := hr
      have hbx := hR2.box
      have hbl2 := hbx.lt
      have hlen : (runC V2 T ++ edT 0 false).length = 21 := rfl
      have H0 : Hid (T.death ≠ 0) := h0
      clear h0 hs2
      go_wp2_with (refine cb_store0 rtEd hbx hlen rfl _ _ rfl rfl (vs := zE T.death false) rfl rfl (zE_one _ _) ?_
                   intro w5 hb5 O5
                   have hF5 : Rf (foot b V) (fun k => k = b) w w5 := hF2.trans ⟨O5.os, O5.tape, O5.output, by rw [O5.size]; exact Nat.le_refl _, fun k _ hk => O5.block k (fun e => hk (.inl e)), fun k hk => .inl (.inl hk)⟩)
      go_ret2
      exact .inr ⟨hl2, T, HG.out.1, HG.out.2, rfl, .inr ⟨H0.out, hb5, hF5⟩⟩
set_option maxRecDepth 100000 in
theorem close_done (b : Nat) (w : World) (h : CB w b (zE 0 true)) :
    Calls Tryz.prog 28 #[.pointer (some ⟨b, 0, none⟩)] w fun e w' => e = .returned (.tuple #[.string ⟨#[]⟩, .string ⟨#[]⟩, .int .i64 7]) ∧ Below w.heap.size w w' := by
  have c20 := h.c 20 _ rfl
  have hbl := h.lt
  clear h
  go_enter Tryz.func28, Tryz.ntmps28
  go_wp2
  go_ret3
  exact ⟨rfl, Below.refl _ _⟩
def FiPost (P : Value → World → Prop) (b : Nat) (V : RV) (S : St) (w : World) (e : Ending) (w' : World) : Prop :=
  ∃ T, Goes (S.ext S.text true) T ∧ WF T ∧ RPost P b (edT 0 false) V T w w' ∧ ((T.death ≠ 0 ∧ e = .returned (.tuple #[.string (baC (partC T.out S.out.length T.out.length)), .string ⟨#[]⟩, .int .i64 (T.death : Nat)])) ∨ (T.death = 0 ∧ ∃ t : ByteArray, t.data.toList = jourS T ∧ e = .returned (.tuple #[.string (baC (partC T.out S.out.length T.out.length)), .string t, .int .i64 0])))
set_option maxRecDepth 100000 in
set_option maxHeartbeats 4000000 in
theorem finish_calls (VSS : List (List Value)) (P : Value → World → Prop) (b : Nat) (V : RV) (S : St) (w : World) (h : RunAt P b (edT 0 false) V S w) (hw : WF S) (hP : ∀ w, P V.scr w → CsAt VSS w V.scr S.cs) (hit : ItoaOk P V.scr) (hog : ∀ T, Goes (S.ext S.text true) T → Origs T.text.data.toList T.out) :
    Calls Tryz.prog 51 #[.pointer (some ⟨b, 0, none⟩)] w fun e w' => FiPost P b V S w e w' := by
  obtain ⟨c19, c20⟩ := h.tail
  have hbl := h.box.lt
  have HH : Hid (RunAt P b (edT 0 false) V S w) := h
  clear h
  go_enter Tryz.func51, Tryz.ntmps51
  go_wp2_with fail
  refine (rclose_calls VSS P b (edT 0 false) V S w HH.out hw hP hit).mono ?_
  rintro e w2 ⟨T, hg, hwt, rfl, hr⟩
  have HG : Hid (Goes (S.ext S.text true) T ∧ WF T) := ⟨hg, hwt⟩
  have HR : Hid (RPost P b (edT 0 false) V T w w2) := hr
  have hde := hwt.de
  clear hg hwt hr
  by_cases h0 : T.death = 0
  · have h01 : (((T.death : Nat) : Int) != 0) = false := by simp [h0]
    have H0 : Hid (T.death = 0) := h0
    clear h0
    obtain ⟨V2, hs2, hR2, hF2⟩ := HR.out
    have hbl2 := hR2.box.lt
    go_wp2_with fail
    refine (journal_calls P b (edT 0 false) V2 T w2 hR2 HG.out.2 (hog T HG.out.1)).mono ?_
    rintro e w3 ⟨t, rfl, htj, B3⟩
    have HP : Hid (FiPost P b V S w (.returned (.tuple #[.string (baC (partC T.out S.out.length T.out.length)), .string t, .int .i64 0])) w3) := ⟨T, HG.out.1, HG.out.2, ⟨V2, hs2, hR2.below B3, hF2.trans (.of_below B3)⟩, .inr ⟨H0.out, t, htj, rfl⟩⟩
    clear htj hR2 hF2 hs2
    go_wp2
    go_ret3
    exact HP.out
  · have h01 : (((T.death : Nat) : Int) != 0) = true := by simp; omega
    have HP : Hid (FiPost P b V S w (.returned (.tuple #[.string (baC (partC T.out S.out.length T.out.length)), .string ⟨#[]⟩, .int .i64 (T.death : Nat)])) w2) := ⟨T, HG.out.1, HG.out.2, HR.out, .inl ⟨h0, rfl⟩⟩
    clear h0
    go_wp2
    go_ret3
    exact HP.out
set_option maxRecDepth 100000 in
set_option maxHeartbeats 1000000 in
theorem finish_dead (b d : Nat) (w : World) (h : CB w b (zE d false)) (hd : d ≠ 0) :
    Calls Tryz.prog 51 #[.pointer (some ⟨b, 0, none⟩)] w fun e w' => e = .returned (.tuple #[.string ⟨#[]⟩, .string ⟨#[]⟩, .int .i64 (d : Nat)]) ∧ Below w.heap.size w w' := by
  have c19 := h.c 19 _ rfl
  have hbl := h.lt
  have hd1 : ((d : Int) != 0) = true := by simp; omega
  clear h hd
  go_enter Tryz.func51, Tryz.ntmps51
  go_wp2_with fail
  go_region
  go_wp2
  go_ret3
  exact ⟨rfl, (Below.refl _ _).drew⟩
def ClsPost (b : Nat) (V : RV) (S : St) (w : World) (e : Ending) (w' : World) : Prop :=
  ∃ T, Goes (S.ext S.text true) T ∧ WF T ∧ CB w' b (zE 0 true) ∧ Rf (foot b V) (fun k => k = b) w w' ∧ ((T.death ≠ 0 ∧ e = .returned (.tuple #[.string (baC (partC T.out S.out.length T.out.length)), .string ⟨#[]⟩, .int .i64 (T.death : Nat)])) ∨ (T.death = 0 ∧ ∃ t : ByteArray, t.data.toList = jourS T ∧ e = .returned (.tuple #[.string (baC (partC T.out S.out.length T.out.length)), .string t, .int .i64 0])))
set_option maxRecDepth 100000 in
set_option maxHeartbeats 4000000 in
theorem close_calls (VSS : List (List Value)) (P : Value → World → Prop) (b : Nat) (V : RV) (S : St) (w : World) (h : RunAt P b (edT 0 false) V S w) (hw : WF S) (hP : ∀ w, P V.scr w → CsAt VSS w V.scr S.cs) (hit : ItoaOk P V.scr) (hog : ∀ T, Goes (S.ext S.text true) T → Origs T.text.data.toList T.out) :
    Calls Tryz.prog 28 #[.pointer (some ⟨b, 0, none⟩)] w fun e w' => ClsPost b V S w e w' := by
  obtain ⟨c19, c20⟩ := h.tail
  have hbl := h.box.lt
  have HH : Hid (RunAt P b (edT 0 false) V S w) := h
  clear h
  go_enter Tryz.func28, Tryz.ntmps28
  go_wp2_with fail
  refine (finish_calls VSS P b V S w HH.out hw hP hit hog).mono ?_
  rintro e w2 ⟨T, hg, hwt, ⟨V2, hs2, hR2, hF2⟩, hor⟩
  have HG : Hid (Goes (S.ext S.text true) T ∧ WF T) := ⟨hg, hwt⟩
  have hbx := hR2.box
  have hbl2 := hbx.lt
  have hlen : (runC V2 T ++ edT 0 false).length = 21 := rfl
  clear hg hwt hs2
  rcases hor with ⟨h0, rfl⟩ | ⟨h0, t, htj, rfl⟩
  · have H0 : Hid (T.death ≠ 0) := h0
    clear h0
    go_wp2_with (refine cb_store0 rtEd hbx hlen rfl _ _ rfl rfl (vs := zE 0 true) rfl rfl (zE_one _ _) ?_
                 intro w5 hb5 O5
                 have hF5 : Rf (foot b V) (fun k => k = b) w w5 := hF2.trans ⟨O5.os, O5.tape, O5.output, by rw [O5.size]; exact Nat.le_refl _, fun k _ hk => O5.block k (fun e => hk (.inl e)), fun k hk => .inl (.inl hk)⟩)
    go_ret3
    exact ⟨T, HG.out.1, HG.out.2, hb5, hF5, .inl ⟨H0.out, rfl⟩⟩
  · have H0 : Hid (T.death = 0 ∧ t.data.toList = jourS T) := ⟨h0, htj⟩
    clear h0 htj
    go_wp2_with (refine cb_store0 rtEd hbx hlen rfl _ _ rfl rfl (vs := zE 0 true) rfl rfl (zE_one _ _) ?_
                 intro w5 hb5 O5
                 have hF5 : Rf (foot b V) (fun k => k = b) w w5 := hF2.trans ⟨O5.os, O5.tape, O5.output, by rw [O5.size]; exact Nat.le_refl _, fun k _ hk => O5.block k (fun e => hk (.inl e)), fun k hk => .inl (.inl hk)⟩)
    go_ret3
    exact ⟨T, HG.out.1, HG.out.2, hb5, hF5, .inr ⟨H0.out.1, t, H0.out.2, rfl⟩⟩
set_option maxRecDepth 100000 in
set_option maxHeartbeats 1000000 in
theorem close_dead (b d : Nat) (w : World) (h : CB w b (zE d false)) (hd : d ≠ 0) :
    Calls Tryz.prog 28 #[.pointer (some ⟨b, 0, none⟩)] w fun e w' => e = .returned (.tuple #[.string ⟨#[]⟩, .string ⟨#[]⟩, .int .i64 (d : Nat)]) ∧ CB w' b (zE 0 true) ∧ Rf (fun k => k = b) (fun k => k = b) w w' := by
  have HB : Hid (CB w b (zE d false)) := h
  have c20 := h.c 20 _ rfl
  have hbl := h.lt
  clear h
  go_enter Tryz.func28, Tryz.ntmps28
  go_wp2_with fail
  refine (finish_dead b d w HB.out hd).mono ?_
  rintro e w2 ⟨rfl, B2⟩
  have hbx := HB.out.below B2 hbl
  have hbl2 := hbx.lt
  go_wp2_with (refine cb_store0 rtEd hbx rfl rfl _ _ rfl rfl (vs := zE 0 true) rfl rfl (zE_one _ _) ?_
               intro w5 hb5 O5
               have hF5 : Rf (fun k => k = b) (fun k => k = b) w w5 := (Rf.of_below B2).trans ⟨O5.os, O5.tape, O5.output, by rw [O5.size]; exact Nat.le_refl _, fun k _ hk => O5.block k (fun e => hk e), fun k hk => .inl hk⟩)
  go_ret3
  exact ⟨rfl, hb5, hF5⟩
end Go.Proofs.YtlppphmnegdhoabGreatDoor

namespace Go.Proofs.YtlppphmnegdhoabGreatDoor
set_option linter.unusedVariables false
set_option maxRecDepth 100000
open Go.RowKit
open M

/-- some blocks are as they were in a world -/
def Ag (A : Nat → Prop) (w0 w : World) : Prop := w0.heap.size ≤ w.heap.size ∧ ∀ k, A k → k < w0.heap.size → w.heap[k]? = w0.heap[k]?
theorem Ag.refl (A : Nat → Prop) (w : World) : Ag A w w := ⟨Nat.le_refl _, fun _ _ _ => rfl⟩
theorem Ag.toF {A : Nat → Prop} {w0 w w' : World} (h : Ag A w0 w) (hs : w.heap.size ≤ w'.heap.size) (hk : ∀ k, A k → k < w0.heap.size → w'.heap[k]? = w.heap[k]?) : Ag A w0 w' := ⟨Nat.le_trans h.1 hs, fun k h1 h2 => (hk k h1 h2).trans (h.2 k h1 h2)⟩
theorem Ag.stab {A F : Nat → Prop} {w0 w : World} (h : Ag A w0 w) (hF : ∀ k, F k → ¬ (A k ∧ k < w0.heap.size)) : Stab F w (fun w => Ag A w0 w) := fun w' h1 h2 => h.toF h1 (fun k hk hk2 => h2 k (Nat.lt_of_lt_of_le hk2 h.1) (fun hf => hF k hf ⟨hk, hk2⟩))
/-- no cell of a block is a byte -/
def NoB (w : World) (g : Nat) : Prop := ∀ (o : Nat) (z : Int), w.cell? ⟨g, o, none⟩ ≠ some (.int .u8 z)
theorem NoB.of_cells {w : World} {g : Nat} {C : Array Value} {t : TypeId} (h : w.heap[g]? = some (.cells C t)) (hc : ∀ v ∈ C.toList, ∀ z, v ≠ .int .u8 z) : NoB w g := fun o z e => by
  rw [cell_of_row _ _ _ _ _ _ h] at e
  obtain ⟨h1, h2⟩ := Array.getElem?_eq_some_iff.1 e
  exact hc _ (by rw [← h2]; exact Array.mem_toList_iff.2 (Array.getElem_mem h1)) z rfl
/-- a world with a block put back -/
def putBack (w'' w : World) (g : Nat) : World := match w.heap[g]? with
  | none => w''
  | some o => { w'' with heap := w''.heap.setIfInBounds g o }
theorem putBack_size (w'' w : World) (g : Nat) : (putBack w'' w g).heap.size = w''.heap.size := by
  unfold putBack
  split
  · rfl
  · simp
theorem putBack_at (w'' w : World) (g k : Nat) (hg : g < w''.heap.size) (hw : g < w.heap.size) : (putBack w'' w g).heap[k]? = if k = g then w.heap[g]? else w''.heap[k]? := by
  unfold putBack
  rw [Array.getElem?_eq_getElem hw]
  simp only [Array.getElem?_setIfInBounds]
  by_cases e : g = k
  · subst e; simp [hg]
  · rw [if_neg e, if_neg (fun e' => e e'.symm)]
theorem slat_other {F : Nat → Prop} {w w' : World} {g0 : Nat} {v : Value} {l : List Cl} (h : Stab F w (fun w => SlAt w v l)) (O : Only g0 w w') (hg : g0 < w.heap.size) (hn : NoB w g0) : Stab F w' (fun w => SlAt w v l) := fun w'' h1 h2 => by
  have hs := O.size
  have hp : SlAt (putBack w'' w g0) v l := h _ (by rw [putBack_size]; omega) (fun k hk hF => by
    rw [putBack_at w'' w g0 k (by omega) hg]
    by_cases e : k = g0
    · rw [if_pos e, e]
    · rw [if_neg e, h2 k (by omega) hF, O.block k e])
  have h0 := h.out
  obtain ⟨a, c, rfl, e1, e2, e3⟩ := hp
  refine ⟨a, c, rfl, e1, e2, ?_⟩
  by_cases hl : l = []
  · subst hl
    rcases e3 with e3 | ⟨g, o, rfl, hg2, _⟩
    · exact .inl e3
    · exact .inl ⟨rfl, fun h => by cases h⟩
  · rcases e3 with ⟨e3, _⟩ | ⟨g, o, rfl, hg2, hr⟩
    · exact absurd e3 hl
    · rw [putBack_size] at hg2
      refine .inr ⟨g, o, rfl, hg2, fun j u hu => ?_⟩
      have hne : g ≠ g0 := fun e => by
        subst e
        obtain ⟨a', c', e', _, _, h3⟩ := h0
        rcases h3 with ⟨h3, _⟩ | ⟨g', o', ea, _, hr'⟩
        · exact hl h3
        · injection e' with e1 _ _
          rw [← e1] at ea
          injection ea with ea
          injection ea with ea1 ea2 _
          subst ea1; subst ea2
          match l, hl with
          | x :: t, _ => exact hn (o + 0) _ (hr' 0 (.int .u8 (x.1.toNat : Int)) (by simp [clC, clV]))
      have := hr j u hu
      rw [← this]
      exact (World.cell?_of_block (by rw [putBack_at w'' w g0 g (by omega) hg, if_neg hne])).symm
theorem RunAt.other {P : Value → World → Prop} {b g0 : Nat} {tl : List Value} {V : RV} {S : St} {w w' : World} (h : RunAt P b tl V S w) (O : Only g0 w w') (hg : g0 < w.heap.size) (hf : ∀ k, foot b V k → k ≠ g0) (hn : NoB w g0) (hP : Stab (foot b V) w' (P V.scr)) : RunAt P b tl V S w' := by
  have hs := O.size
  refine ⟨h.box.keep (O.block b (hf b (.inl rfl))) (by omega), ?_, ?_, ?_, h.so, h.sr, h.sq, hP, slat_other h.pat O hg hn, slat_other h.hold O hg hn, h.one⟩
  · exact ownsRow_fr (F := foot b V) (G := foot b V) h.out (fun k e => O.block k (hf k (.inr (.inl e))))
  · exact ownsRow_fr (F := foot b V) (G := foot b V) h.rng (fun k e => O.block k (hf k (.inr (.inr (.inl e)))))
  · exact ownsRow_fr (F := foot b V) (G := foot b V) h.que (fun k e => O.block k (hf k (.inr (.inr (.inr e)))))
theorem elBool : ElT 79 4 1 1 (.bool false) := ⟨by kernel_rfl, by kernel_rfl, rfl, by decide, by decide, by decide⟩
theorem rtRun : RowT 84 19 := ⟨⟨_, Tryz.underlying84, rfl⟩, by kernel_rfl⟩
def nilV (scr rng : Value) : RV := ⟨scr, rng, .slice none 0 0, .slice none 0 0, .slice none 0 0, .slice none 0 0⟩
def zRun : List Value := [.slice none 0 0, .slice none 0 0, .bool false, .int .i64 0, .int .i64 0, .string ⟨#[]⟩, .bool false, .int .i64 0, .int .i64 0, .slice none 0 0, .slice none 0 0, .slice none 0 0, .int .i64 0, .slice none 0 0, .bool false, .int .i64 0, .int .i64 0, .bool false, .int .i64 0]
theorem zRun_one : ∀ v ∈ zRun, v.oneCell' = true := by decide
def BgPost (scr : Value) (cs : List Cm) (quiet : Bool) (steps room : Nat) (w : World) (e : Ending) (w' : World) : Prop :=
  Below w.heap.size w w' ∧ ∃ v, e = .returned (.agg (runC (nilV scr v) (St0 cs quiet steps room)).toArray) ∧ w'.ownsRow w.heap.size 4 1 v cs.length (List.replicate cs.length (.bool false))
set_option maxRecDepth 100000 in
set_option maxHeartbeats 4000000 in
theorem begin_calls (a : Option Addr) (c : Nat) (cs : List Cm) (quiet : Bool) (steps room : Nat) (w : World) (hn : cs.length ≤ 400) (hs : steps ≤ 5000) (hr : room ≤ 256) :
    Calls Tryz.prog 45 #[.agg #[.slice a cs.length c], .bool quiet, .int .i64 (steps : Nat), .int .i64 (room : Nat)] w fun e w' => BgPost (.slice a cs.length c) cs quiet steps room w e w' := by
  obtain ⟨n, hnn⟩ : ∃ n, cs.length = n := ⟨_, rfl⟩
  have HN : Hid (cs.length = n) := hnn
  rw [hnn] at hn ⊢
  clear hnn
  go_enter Tryz.func45, Tryz.ntmps45
  go_wp2_with (first
    | (refine cb_box rfl _ rfl [.slice a n c] rfl (by simp [Value.oneCell']) ?_
       intro w1 hb1 B1 hs1
       have c1 := hb1.c 0 _ rfl
       have l1 := hb1.lt
       have hbr : CB ((w1.alloc (.cells zRun.toArray 84)).alloc (.cells zRun.toArray 84)) w1.heap.size zRun := (CB.new w1 84 zRun.toArray zRun_one).below ((Below.refl (w1.heap.size + 1) _).alloc (by simp) _) (by omega)
       have hbl : CB ((w1.alloc (.cells zRun.toArray 84)).alloc (.cells zRun.toArray 84)) (w1.heap.size + 1) zRun := by
         have h9 := CB.new (w1.alloc (.cells zRun.toArray 84)) 84 zRun.toArray zRun_one
         simpa using h9
       have BB : Below w.heap.size w ((w1.alloc (.cells zRun.toArray 84)).alloc (.cells zRun.toArray 84)) := (B1.alloc (by omega) _).alloc (by simp; omega) _)
    | (refine cb_store0 rtRun hbl rfl rfl _ _ rfl rfl (vs := runC (nilV (.slice a n c) (.slice none 0 0)) (St0 cs quiet steps room)) rfl rfl (by simp [runC, nilV, Value.oneCell']) ?_
       intro w2 hb2 O2
       have hr2 := hbr.keep (O2.block _ (by omega)) (by rw [O2.size]; exact Nat.le_refl _)
       have B2 := BB.trans (O2.below (B := w.heap.size) (by omega))
       have c2 : w2.cell? ⟨w.heap.size, 0, none⟩ = some (.slice a n c) := by
         rw [World.cell?_of_block (O2.block w.heap.size (by omega))]
         rw [World.cell?_of_block (w := w1) (by rw [Below.heap_alloc _ _ _ (by simp; omega), Below.heap_alloc _ _ _ l1])]
         exact c1
       have l2 : w.heap.size < w2.heap.size := by rw [O2.size]; simp; omega))
  have hsz2 : w2.heap.size = w1.heap.size + 2 := by rw [O2.size]; simp
  clear hbr hbl BB O2 c1 hb1
  obtain ⟨g1, hg1⟩ : ∃ g, w1.heap.size = g := ⟨_, rfl⟩
  rw [hg1] at hr2 hb2 hsz2 l1
  try rw [hg1]
  go_loopw [18] (fun v18 wr => ∃ (i : Nat) (v : Value), v18 = .int .i64 i ∧ i ≤ n ∧ CB wr (g1 + 1) (runC (nilV (.slice a n c) v) (St0 cs quiet steps room)) ∧ CB wr g1 zRun ∧ wr.ownsRow (g1 + 2) 4 1 v i (List.replicate i (.bool false)) ∧ Below w.heap.size w wr ∧ g1 + 2 ≤ wr.heap.size) (fun v18 _ => n - (intOf v18).toNat)
  case atStart => exact ⟨0, .slice none 0 0, rfl, Nat.zero_le _, hb2, hr2, World.ownsRow_nil _ _ _ _, B2, by omega⟩
  case round =>
    clear hb2 hr2 B2 c2
    obtain ⟨i, v, rfl, hi, hb, hr', hown, hB, hsz⟩ := hrel
    obtain ⟨av, cv, hvv⟩ := own_form hown
    subst hvv
    have c1 := hb.c 1 _ rfl
    have lb := hb.lt
    have f1 := hb.fz 1 (by rw [runC_len]; decide)
    by_cases hlt : i < n
    · have hlt1 : (i : Int) < (n : Int) := by omega
      go_wp2_with (refine gb_append elBool (hown.alloc _) wr.heap.size [.bool false] (heap_alloc_new wr _) rfl (by simp [Value.oneCell']) (by omega) (by simp; omega) rfl _ _ rfl rfl rfl ?_
                   intro v' w6 hown6 hgrow6
                   have hs6 := hgrow6.size
                   simp at hs6
                   have hB6 : Below (g1 + 2) wr w6 := ((Below.refl _ _).alloc hsz _).grown hgrow6 (by simp; omega) (fun k hk => (hown.lt k hk).1)
                   have hb6 := hb.below hB6 (by omega)
                   have hr6 := hr'.below hB6 (by omega)
                   have B6 := hB.trans (hB6.mono (by omega))
                   obtain ⟨av', cv', hvv⟩ := own_form hown6
                   subst hvv
                   have c6 := hb6.c 1 _ rfl
                   have lb6 := hb6.lt
                   have f6 := hb6.fz 1 (by rw [runC_len]; decide)
                   clear hgrow6)
      have hb8 := hb6.set 1 (by rw [runC_len]; decide) (.slice av' (i + 1) cv') rfl
      have hr8 := hr6.keep (heap_setCell_other w6 ⟨g1 + 1, 1, none⟩ g1 (.slice av' (i + 1) cv') (by simp)) (by simp)
      have hown8 := ownsRow_setCell_below hown6 (a := ⟨g1 + 1, 1, none⟩) (by simp) (.slice av' (i + 1) cv')
      have B8 := B6.setCell (p := ⟨g1 + 1, 1, none⟩) (by simp; omega) (.slice av' (i + 1) cv')
      go_roundw
      case rel =>
        refine ⟨i + 1, .slice av' (i + 1) cv', by go_num, by omega, hb8, hr8, ?_, B8, by simp; omega⟩
        rw [List.replicate_succ']; exact hown8
      case measure => first | (simp [intOf]; done) | (simp [intOf]; omega)
    · obtain rfl : i = n := by omega
      have hlt1 : ¬ (i : Int) < (i : Int) := by omega
      go_wp2_with (first
        | refine cb_load0 rtRun hb rfl rfl _ rfl rfl ?_
        | (refine cb_store0 rtRun hr' rfl rfl _ _ rfl rfl (vs := runC (nilV (.slice a i c) (.slice av i cv)) (St0 cs quiet steps room)) rfl rfl hb.one ?_; intro w9 hb9 O9))
      have hown9 : w9.ownsRow (g1 + 2) 4 1 (.slice av i cv) i (List.replicate i (.bool false)) := ownsRow_only2 hown O9 (fun e => by have := (hown.lt _ e).1; omega)
      refine bodyPost_ret (results_cb1 rfl _ _ _ _ rfl rtRun hb9 rfl) rfl ?_
      exact ⟨hB.trans (O9.below (by omega)), _, rfl, by rw [HN.out]; exact ownsRow_base hown9 (by omega)⟩
end Go.Proofs.YtlppphmnegdhoabGreatDoor

namespace Go.Proofs.YtlppphmnegdhoabGreatDoor
set_option linter.unusedVariables false
set_option maxRecDepth 100000
open Go.RowKit
open M

/-- an editor whose run goes on: below B lies what the library has laid, from lo up to hi its script; F: the blocks that it writes -/
def PA (A : Nat → Prop) (w0 : World) : Value → World → Prop := fun _ w => Ag A w0 w
def aB (B lo : Nat) (k : Nat) : Prop := k < B ∨ lo ≤ k
structure Live (B lo hi : Nat) (cs : List Cm) (b : Nat) (F : Nat → Prop) (T : St) (w : World) : Prop where
  ex : ∃ (V : RV) (VSS : List (List Value)) (w0 : World), RunAt (PA (aB B lo) w0) b (edT 0 false) V T w ∧ F = foot b V ∧ (∀ w, Ag (aB B lo) w0 w → CsAt VSS w V.scr cs) ∧ (∀ w, Ag (aB B lo) w0 w → Tab w) ∧ w0.heap.size = hi ∧ Ag (aB B lo) w0 w
  ft : ∀ k, F k → hi ≤ k
  cs : T.cs = cs
  wf : WF T
  de : T.death = 0
  fb : F b
theorem Live.lt {B lo hi : Nat} {cs : List Cm} {b : Nat} {F : Nat → Prop} {T : St} {w : World} (h : Live B lo hi cs b F T w) : b < w.heap.size ∧ hi ≤ w.heap.size := by
  obtain ⟨V, VSS, w0, h1, _, _, _, h5, h6⟩ := h.ex
  exact ⟨h1.box.lt, by rw [← h5]; exact h6.1⟩
theorem Live.below {B lo hi : Nat} {cs : List Cm} {b : Nat} {F : Nat → Prop} {T : St} {w w' : World} (h : Live B lo hi cs b F T w) (hb : Below w.heap.size w w') : Live B lo hi cs b F T w' := by
  obtain ⟨V, VSS, w0, h1, h2, h3, h4, h5, h6⟩ := h.ex
  exact ⟨⟨V, VSS, w0, h1.below hb, h2, h3, h4, h5, h6.toF hb.size (fun k _ hk => hb.block k (Nat.lt_of_lt_of_le hk h6.1))⟩, h.ft, h.cs, h.wf, h.de, h.fb⟩
/-- what another part writes into a block of its own -/
theorem Live.other {B lo hi : Nat} {cs : List Cm} {b g0 : Nat} {F : Nat → Prop} {T : St} {w w' : World} (h : Live B lo hi cs b F T w) (O : Only g0 w w') (hg : g0 < w.heap.size) (hF : ¬ F g0) (hB : B ≤ g0) (hl : g0 < lo ∨ hi ≤ g0) (hn : NoB w g0) : Live B lo hi cs b F T w' := by
  obtain ⟨V, VSS, w0, h1, h2, h3, h4, h5, h6⟩ := h.ex
  have hA : Ag (aB B lo) w0 w' := h6.toF (by rw [O.size]; exact Nat.le_refl _) (fun k hk hk2 => O.block k (fun e => by
    subst e
    rcases hk with hk | hk
    · omega
    · omega))
  refine ⟨⟨V, VSS, w0, h1.other O hg (fun k hk e => hF (by rw [h2, ← e]; exact hk)) hn ?_, h2, h3, h4, h5, hA⟩, h.ft, h.cs, h.wf, h.de, h.fb⟩
  exact hA.stab (fun k hk h9 => by
    have := h.ft k (by rw [h2]; exact hk)
    omega)
/-- what Open answers -/
def OpenBad (steps room : Int) : Prop := steps < 0 ∨ 5000 < steps ∨ room < 1 ∨ 256 < room
def OpPost (B : Nat) (s : ByteArray) (quiet : Bool) (steps room : Int) (w : World) (e : Ending) (w' : World) : Prop :=
  Below w.heap.size w w' ∧
    ((∃ n x : Int, CkV s n x ∧ x ≠ 0 ∧ e = .returned (.tuple #[.pointer none, .int .i64 x])) ∨
     (∃ cs, s.size ≤ 400 ∧ ScrV s.data.toList cs ∧ OpenBad steps room ∧ e = .returned (.tuple #[.pointer none, .int .i64 3])) ∨
     (∃ (cs : List Cm) (b hi : Nat) (F : Nat → Prop), s.size ≤ 400 ∧ ScrV s.data.toList cs ∧ ¬ OpenBad steps room ∧ e = .returned (.tuple #[.pointer (some ⟨b, 0, none⟩), .int .i64 0]) ∧ w.heap.size ≤ hi ∧ Live B w.heap.size hi cs b F (St0 cs quiet steps.toNat room.toNat) w'))
set_option maxRecDepth 100000 in
set_option maxHeartbeats 4000000 in
theorem open_calls (B : Nat) (s : ByteArray) (quiet : Bool) (steps room : Int) (w : World) (hs : s.size ≤ maxLen) (hT : TabB B w) (hr1 : -9223372036854775808 ≤ steps) (hr2 : steps ≤ 9223372036854775807) (hr3 : -9223372036854775808 ≤ room) (hr4 : room ≤ 9223372036854775807) :
    Calls Tryz.prog 24 #[.string s, .bool quiet, .int .i64 steps, .int .i64 room] w fun e w' => OpPost B s quiet steps room w e w' := by
  go_enter Tryz.func24, Tryz.ntmps24
  go_wp2_with fail
  refine (vScript_calls s w hs).mono ?_
  rintro e w2 ⟨B2, a, n, c, x, rfl, hor⟩
  have hbn : CB (w2.alloc (.cells #[.slice none 0 0] 73)) w2.heap.size [.slice none 0 0] := CB.new w2 73 #[.slice none 0 0] (by simp [Value.oneCell'])
  have hB3 := B2.alloc (o := .cells #[.slice none 0 0] 73) B2.size
  have hs2 := B2.size
  have hcase : (∃ m : Int, CkV s m x ∧ (x = 1 ∨ x = 2)) ∨ (x = 0 ∧ s.size ≤ 400 ∧ ∃ (cs : List Cm) (VSS : List (List Value)), n = cs.length ∧ ScrV s.data.toList cs ∧ New w.heap.size w2 (fun w => CsAt VSS w (.slice a n c) cs)) := by
    rcases hor with ⟨h1, rfl⟩ | ⟨h1, ⟨rfl, hno⟩ | ⟨l, VSS, rfl, rfl, h2, h3⟩⟩
    · exact .inl ⟨0, .inl ⟨h1, rfl, rfl⟩, .inl rfl⟩
    · exact .inl ⟨0, .inr ⟨h1, .inl ⟨rfl, rfl, hno⟩⟩, .inr rfl⟩
    · exact .inr ⟨rfl, h1, l, VSS, rfl, h2, h3⟩
  clear hor
  rcases hcase with ⟨m, hck, hx⟩ | ⟨rfl, h400, cs, VSS, rfl, hscr, hcs⟩
  · have HCK : Hid (CkV s m x) := hck
    clear hck
    rcases hx with rfl | rfl
    · go_wp2_with (refine cb_store0 rtScr hbn rfl rfl _ _ rfl rfl (vs := [.slice a n c]) rfl rfl (by simp [Value.oneCell']) ?_; intro w5 hb5 O5)
      go_ret2
      exact ⟨hB3.trans (O5.below (by omega)), .inl ⟨m, 1, HCK.out, by decide, rfl⟩⟩
    · go_wp2_with (refine cb_store0 rtScr hbn rfl rfl _ _ rfl rfl (vs := [.slice a n c]) rfl rfl (by simp [Value.oneCell']) ?_; intro w5 hb5 O5)
      go_ret2
      exact ⟨hB3.trans (O5.below (by omega)), .inl ⟨m, 2, HCK.out, by decide, rfl⟩⟩
  · have HSC : Hid (s.size ≤ 400 ∧ ScrV s.data.toList cs) := ⟨h400, hscr⟩
    have HCS : Hid (New w.heap.size w2 (fun w => CsAt VSS w (.slice a cs.length c) cs)) := hcs
    have hok := scrV_ok s.data.toList (by rw [ba_len]; exact h400) cs hscr
    have hn400 := hok.1
    have HOK : Hid (∀ c ∈ cs, CmOk c) := hok.2.1
    clear hscr hcs hok
    by_cases hbad : OpenBad steps room
    · have HBAD : Hid (OpenBad steps room) := hbad
      have hc4 : steps < 0 ∨ (¬ steps < 0 ∧ 5000 < steps) ∨ (¬ steps < 0 ∧ ¬ 5000 < steps ∧ room < 1) ∨ (¬ steps < 0 ∧ ¬ 5000 < steps ∧ ¬ room < 1 ∧ 256 < room) := by
        unfold OpenBad at hbad
        omega
      clear hbad
      rcases hc4 with h1 | ⟨h1, h2⟩ | ⟨h1, h2, h3⟩ | ⟨h1, h2, h3, h4⟩
      · go_wp2_with (refine cb_store0 rtScr hbn rfl rfl _ _ rfl rfl (vs := [.slice a cs.length c]) rfl rfl (by simp [Value.oneCell']) ?_; intro w5 hb5 O5)
        go_ret2
        exact ⟨hB3.trans (O5.below (by omega)), .inr (.inl ⟨cs, HSC.out.1, HSC.out.2, HBAD.out, rfl⟩)⟩
      · go_wp2_with (refine cb_store0 rtScr hbn rfl rfl _ _ rfl rfl (vs := [.slice a cs.length c]) rfl rfl (by simp [Value.oneCell']) ?_; intro w5 hb5 O5)
        go_ret2
        exact ⟨hB3.trans (O5.below (by omega)), .inr (.inl ⟨cs, HSC.out.1, HSC.out.2, HBAD.out, rfl⟩)⟩
      · go_wp2_with (refine cb_store0 rtScr hbn rfl rfl _ _ rfl rfl (vs := [.slice a cs.length c]) rfl rfl (by simp [Value.oneCell']) ?_; intro w5 hb5 O5)
        go_ret2
        exact ⟨hB3.trans (O5.below (by omega)), .inr (.inl ⟨cs, HSC.out.1, HSC.out.2, HBAD.out, rfl⟩)⟩
      · go_wp2_with (refine cb_store0 rtScr hbn rfl rfl _ _ rfl rfl (vs := [.slice a cs.length c]) rfl rfl (by simp [Value.oneCell']) ?_; intro w5 hb5 O5)
        go_ret2
        exact ⟨hB3.trans (O5.below (by omega)), .inr (.inl ⟨cs, HSC.out.1, HSC.out.2, HBAD.out, rfl⟩)⟩
    · have HBAD : Hid (¬ OpenBad steps room) := hbad
      obtain ⟨h1, h2, h3, h4⟩ : ¬ steps < 0 ∧ ¬ 5000 < steps ∧ ¬ room < 1 ∧ ¬ 256 < room := by
        unfold OpenBad at hbad
        omega
      obtain ⟨st, hst⟩ : ∃ st : Nat, steps = st := ⟨steps.toNat, by omega⟩
      obtain ⟨rm, hrm⟩ : ∃ rm : Nat, room = rm := ⟨room.toNat, by omega⟩
      subst hst
      subst hrm
      clear hbad
      go_wp2_with (first
        | (refine cb_store0 rtScr hbn rfl rfl _ _ rfl rfl (vs := [.slice a cs.length c]) rfl rfl (by simp [Value.oneCell']) ?_
           intro w5 hb5 O5
           have c5 := hb5.c 0 _ rfl
           have l5 := hb5.lt
           have B5 := hB3.trans (O5.below (B := w.heap.size) (by omega)))
        | refine cb_load0 rtScr hb5 rfl rfl _ rfl rfl ?_)
      refine (begin_calls a c cs quiet st rm w5 hn400 (by omega) (by omega)).mono ?_
      rintro e w6 ⟨B6, v, rfl, hown⟩
      have hbz : CB (w6.alloc (.cells zRun.toArray 84)) w6.heap.size zRun := CB.new w6 84 zRun.toArray zRun_one
      have hs6 := B6.size
      have hs5 : w5.heap.size = w2.heap.size + 1 := by rw [O5.size]; simp
      have KP6 : Hid (Below w2.heap.size w2 w6) := ((((Below.refl w2.heap.size w2).alloc (Nat.le_refl _) _).trans (O5.below (Nat.le_refl _))).trans (B6.mono (by omega)))
      have BB6 := B5.trans (B6.mono (by omega))
      have BA : Below w6.heap.size w6 (w6.alloc (.cells zRun.toArray 84)) := (Below.refl _ _).alloc (Nat.le_refl _) _
      have hownA := ownsRow_below hown BA
      have HN : Hid (∀ u ∈ runC (nilV (.slice a cs.length c) v) (St0 cs quiet st rm), u.oneCell' = true) := by
        have h9 := own_one hown
        intro u hu
        simp [runC, nilV] at hu
        rcases hu with rfl | rfl | rfl | rfl | rfl | rfl | rfl | rfl | rfl | rfl | rfl | rfl | rfl | rfl | rfl | rfl | rfl | rfl | rfl <;> first | rfl | exact h9
      have hE : runC (nilV (.slice a cs.length c) v) (St0 cs quiet st rm) = [.slice a cs.length c, v, .bool quiet, .int .i64 (st : Nat), .int .i64 (rm : Nat), .string ⟨#[]⟩, .bool false, .int .i64 0, .int .i64 0, .slice none 0 0, .slice none 0 0, .slice none 0 0, .int .i64 0, .slice none 0 0, .bool false, .int .i64 0, .int .i64 1, .bool false, .int .i64 0] := rfl
      rw [hE] at HN ⊢
      have HN2 : Hid (∀ u ∈ ([.slice a cs.length c, v, .bool quiet, .int .i64 (st : Nat), .int .i64 (rm : Nat), .string ⟨#[]⟩, .bool false, .int .i64 0, .int .i64 0, .slice none 0 0, .slice none 0 0, .slice none 0 0, .int .i64 0, .slice none 0 0, .bool false, .int .i64 0, .int .i64 1, .bool false, .int .i64 0, .int .i64 0, .bool false] : List Value), u.oneCell' = true) := ones_app HN.out (m := [.int .i64 0, .bool false]) (by simp [Value.oneCell'])
      have HHT : Hid (TabB B w) := hT
      clear hE hT hbn hB3
      go_wp2_with (first
        | (refine cb_store0 rtRun hbz rfl rfl _ _ rfl rfl (vs := [.slice a cs.length c, v, .bool quiet, .int .i64 (st : Nat), .int .i64 (rm : Nat), .string ⟨#[]⟩, .bool false, .int .i64 0, .int .i64 0, .slice none 0 0, .slice none 0 0, .slice none 0 0, .int .i64 0, .slice none 0 0, .bool false, .int .i64 0, .int .i64 1, .bool false, .int .i64 0]) rfl rfl HN.out ?_
           intro w7 hb7 O7
           have hs7 : w6.heap.size + 1 ≤ w7.heap.size := by rw [O7.size]; simp
           have hown7 := ownsRow_only2 hownA O7 (fun e => by have := (hown.lt _ e).2; omega)
           have B7 : Below w6.heap.size w6 w7 := BA.trans (O7.below (Nat.le_refl _)))
        | refine cb_load0 rtRun hb7 rfl rfl _ rfl rfl ?_
        | (refine cb_box rfl _ rfl ([.slice a cs.length c, v, .bool quiet, .int .i64 (st : Nat), .int .i64 (rm : Nat), .string ⟨#[]⟩, .bool false, .int .i64 0, .int .i64 0, .slice none 0 0, .slice none 0 0, .slice none 0 0, .int .i64 0, .slice none 0 0, .bool false, .int .i64 0, .int .i64 1, .bool false, .int .i64 0, .int .i64 0, .bool false] : List Value) rfl HN2.out ?_
           intro w8 hb8 B8 hs8))
      go_ret2
      have hown8 := ownsRow_below hown7 B8
      have BB8 : Below w6.heap.size w6 w8 := B7.trans (B8.mono (by omega))
      refine ⟨BB6.trans (BB8.mono (by omega)), .inr (.inr ⟨cs, w7.heap.size, w2.heap.size, foot w7.heap.size (nilV (.slice a cs.length c) v), HSC.out.1, HSC.out.2, HBAD.out, rfl, hs2, ?_⟩)⟩
      have hA : Ag (aB B w.heap.size) w2 w8 := ⟨by omega, fun k _ hk => (BB8.block k (by omega)).trans (KP6.out.block k hk)⟩
      have hft : ∀ k, foot w7.heap.size (nilV (.slice a cs.length c) v) k → w2.heap.size ≤ k := fun k hk => by
        rcases hk with e | e | e | e
        · omega
        · cases e
        · have e : v.ownBlock = some k := e
          have := (hown.lt k e).1; omega
        · cases e
      refine ⟨⟨nilV (.slice a cs.length c) v, VSS, w2, ?_, rfl, ?_, ?_, rfl, hA⟩, hft, rfl, St0.wf cs quiet _ _ hn400 HOK.out (by omega) (by omega), rfl, .inl rfl⟩
      · refine ⟨hb8, World.ownsRow_nil _ _ _ _, ?_, World.ownsRow_nil _ _ _ _, fun e => (by cases e), fun e => ?_, fun e => (by cases e), hA.stab (fun k hk h9 => by have := hft k hk; omega), fun w' _ _ => SlAt.nil w', fun w' _ _ => SlAt.nil w', rfl⟩
        · have h9 := ownsRow_base hown8 (Nat.zero_le _)
          show World.ownsRow _ 0 _ 1 v (List.replicate cs.length false).length ((List.replicate cs.length false).map .bool)
          rw [List.length_replicate, List.map_replicate]; exact h9
        · have e : v.ownBlock = some w7.heap.size := e
          have := (hown.lt _ e).2; omega
      · exact fun w' hw' => HCS.out w' hw'.1 (fun k hk hk2 => hw'.2 k (.inr (Nat.le_of_not_lt hk2)) hk)
      · exact fun w' hw' => HHT.out.2 w' (fun k hk => by
          have h9 := HHT.out.1
          rw [hw'.2 k (.inl hk) (by omega)]
          exact B2.block k (by omega))
end Go.Proofs.YtlppphmnegdhoabGreatDoor

