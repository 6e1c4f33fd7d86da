/-
  What the program writes: numbers, heads, journals.
-/
import Derived.Test.YtlppphmnegdhoaaUnd1
namespace Go.Proofs.Ytlppphmnegdhoaa
set_option linter.unusedVariables false
open Go.RowKit
open M

/-- bytes as cells -/
def byteC (A : List UInt8) : List Value := A.map fun b => .int .u8 (b.toNat : Int)
theorem byteC_snoc (A : List UInt8) (n : Nat) (h : n < 256) : byteC A ++ [.int .u8 (n : Int)] = byteC (A ++ [UInt8.ofNat n]) := by
  simp [byteC, u8 n h]
theorem byteC_str (A : List UInt8) (s : ByteArray) : byteC A ++ Lib.strCells s = byteC (A ++ s.data.toList) := by
  rw [strCells_eq]; simp [byteC]
theorem one_at (w : World) (x : Value) (t : TypeId) : ∀ j u, [x][j]? = some u → (w.alloc (.cells #[x] t)).cell? ((⟨w.heap.size, 0, none⟩ : Addr).add j) = some u := by
  intro j u h
  match j, h with
  | 0, h => simp at h; subst h; simp [Addr.add]
  | n + 1, h => simp at h

set_option maxRecDepth 100000 in
set_option maxHeartbeats 1000000 in
theorem jnumber_calls (v : Nat) (w : World) (hv : v < 2097152) :
    Calls Try.prog 74 #[.int .i64 v] w fun e w' => (∃ t : ByteArray, e = .returned (.string t) ∧ t.data.toList = numE v) ∧ Below w.heap.size w w' := by
  obtain ⟨i0, hi, hz0, hz1, hz2⟩ := info_parts Try.info5
  go_enter Try.func74, Try.ntmps74
  go_wp2
  go_loopw [0, 3] (fun vv o wr => ∃ (x : Nat) (A : List UInt8), vv = .int .i64 x ∧ wr.ownsRow w.heap.size 5 1 o A.length (byteC A) ∧ x < 2097152 ∧ Hid (A ++ numE x = numE v) ∧ (A.length = 0 ∨ A.length = 1 ∧ x < 16384 ∨ A.length = 2 ∧ x < 128) ∧ Below w.heap.size w wr) (fun vv _ _ => (intOf vv).toNat)
  case atStart => exact ⟨v, [], rfl, World.ownsRow_nil _ _ _ _, hv, rfl, .inl rfl, Below.refl _ _⟩
  case round =>
    obtain ⟨x, A, rfl, hown, hx, H, hsz, B⟩ := hrel
    have hA : A.length ≤ 2 := by omega
    have hz := B.size
    by_cases hlt : x < 128
    · have hlt1 : (x : Int) < 128 := by omega
      have HT : Hid (A ++ [UInt8.ofNat x] = numE v) := by
        show _ = _
        rw [← H.out]; simp [numE, hlt]
      go_wp2_with (first
        | (at_builtin; refine wpList_append_own _ rfl _ _ 79 rfl w.heap.size 5 i0 (.int .u8 0) 1 1 Try.underlying79 hi hz0 hz1 hz2 rfl (by decide) _ _ _ rfl (hown.alloc _) ⟨wr.heap.size, 0, none⟩ 1 1 [.int .u8 (x : Int)] rfl rfl ?k1 ?k2 ?k3 ?k4 ?k5 ?_)
        | go_in)
      case k1 => exact one_at _ _ _
      case k2 => intro u hu; simp at hu; subst hu; rfl
      case k3 => unfold maxLen; omega
      case k4 => omega
      case k5 => simp; omega
      intro v' w3 hown3 hgrow _
      have B3 : Below w.heap.size w w3 := (B.alloc hz _).grown hgrow (by simp; omega) (fun k hk => (hown.lt k hk).1)
      rw [byteC_snoc A x (by omega)] at hown3
      clear hgrow hown
      have hown4 : w3.ownsRow w.heap.size 5 1 v' (A ++ [UInt8.ofNat x]).length (byteC (A ++ [UInt8.ofNat x])) := by simpa using hown3
      obtain ⟨t, ht, hr⟩ := conv_own hown4
      rw [HT.out] at ht
      clear hown3 hown4
      have HT2 : Hid (t.data.toList = numE v) := ht
      clear ht
      go_wp2
      go_ret
      exact ⟨⟨t, rfl, HT2.out⟩, B3⟩
    · have hlt1 : ¬ (x : Int) < 128 := by omega
      have HT : Hid (A ++ [UInt8.ofNat (128 + x % 128)] ++ numE (x / 128) = numE v) := by
        show _ = _
        rw [← H.out, List.append_assoc]
        congr 1
        exact (numE_step x (by omega) hx).symm
      go_wp2_with (first
        | (at_builtin; refine wpList_append_own _ rfl _ _ 79 rfl w.heap.size 5 i0 (.int .u8 0) 1 1 Try.underlying79 hi hz0 hz1 hz2 rfl (by decide) _ _ _ rfl (hown.alloc _) ⟨wr.heap.size, 0, none⟩ 1 1 [.int .u8 (128 + (x : Int) % 128)] rfl rfl ?k1 ?k2 ?k3 ?k4 ?k5 ?_)
        | go_in)
      case k2 => rfl
      case k3 => unfold maxLen; omega
      case k4 => omega
      case k5 => omega
      intro v' w3 hown3 hgrow _
      have B3 : Below w.heap.size w w3 := (B.alloc hz _).grown hgrow (by simp; omega) (fun k hk => (hown.lt k hk).1)
      have e1 : (128 + (x : Int) % 128) = ((128 + x % 128 : Nat) : Int) := by omega
      rw [e1, byteC_snoc A (128 + x % 128) (by omega)] at hown3
      clear hgrow hown e1
      go_wp2
      go_roundw
      case rel => exact ⟨x / 128, A ++ [UInt8.ofNat (128 + x % 128)], by go_num, by simpa using hown3, by omega, HT.out, by rw [List.length_append]; simp only [List.length_singleton]; omega, B3⟩
      case measure => simp [intOf]; omega
theorem jnumber_int (x : Int) (w : World) (h0 : 0 ≤ x) (hv : x < 2097152) :
    Calls Try.prog 74 #[.int .i64 x] w fun e w' => (∃ t : ByteArray, e = .returned (.string t) ∧ t.data.toList = numE x.toNat) ∧ Below w.heap.size w w' := by
  obtain ⟨n, rfl⟩ := Int.eq_ofNat_of_zero_le h0
  exact jnumber_calls n w (by omega)

set_option maxRecDepth 100000 in
set_option maxHeartbeats 1000000 in
theorem headText_calls (la lb sa sb : Nat) (l : List M.Rec) (w : World) (hla : la ≤ 4096) (hlb : lb ≤ 4096) (hsa : sa < 65536) (hsb : sb < 65536) :
    Calls Try.prog 73 #[.agg #[.int .i64 la, .int .i64 lb, .int .i64 sa, .int .i64 sb]] w fun e w' => (∃ t : ByteArray, e = .returned (.string t) ∧ t.data.toList = headE ⟨la, lb, sa, sb, l⟩) ∧ Below w.heap.size w w' := by
  go_enter Try.func73, Try.ntmps73
  go_wp2_with fail
  refine (jnumber_calls la _ (by omega)).mono ?_
  rintro e w1 ⟨⟨t1, rfl, ht1⟩, b1⟩
  have d1 : w1.cell? ⟨w.heap.size, 1, none⟩ = some (.int .i64 lb) := by rw [(bcell b1).1 _ _ (by simp)]; simp [go_sem]
  have d2 : w1.cell? ⟨w.heap.size, 2, none⟩ = some (.int .i64 sa) := by rw [(bcell b1).1 _ _ (by simp)]; simp [go_sem]
  have d3 : w1.cell? ⟨w.heap.size, 3, none⟩ = some (.int .i64 sb) := by rw [(bcell b1).1 _ _ (by simp)]; simp [go_sem]
  have z1 : w.heap.size < w1.heap.size := by have := b1.size; simp at this; omega
  have B1 : Below w.heap.size w w1 := ((Below.refl w.heap.size w).alloc (Nat.le_refl _) _).trans (b1.mono (by simp))
  clear b1
  go_wp2_with fail
  refine (jnumber_calls lb _ (by omega)).mono ?_
  rintro e w2 ⟨⟨t2, rfl, ht2⟩, b2⟩
  have e2 := ((bcell b2).1 _ 2 z1).trans d2
  have e3 := ((bcell b2).1 _ 3 z1).trans d3
  have z2 : w.heap.size < w2.heap.size := by have := b2.size; omega
  have B2 : Below w.heap.size w w2 := B1.trans (b2.mono (by omega))
  clear b2 d1 d2 d3 B1
  go_wp2_with fail
  refine (two_calls sa _ (by omega)).mono ?_
  rintro e w3 ⟨⟨t3, rfl, ht3⟩, b3⟩
  have f3 := ((bcell b3).1 _ 3 z2).trans e3
  have z3 : w.heap.size < w3.heap.size := by have := b3.size; omega
  have B3 : Below w.heap.size w w3 := B2.trans (b3.mono (by omega))
  clear b3 e2 e3 B2
  go_wp2_with fail
  refine (two_calls sb _ (by omega)).mono ?_
  rintro e w4 ⟨⟨t4, rfl, ht4⟩, b4⟩
  have B4 : Below w.heap.size w w4 := B3.trans (b4.mono (by omega))
  clear b4 f3 B3
  have hs1 := numE_size ht1
  have hs2 := numE_size ht2
  have hs3 := twoE_size ht3
  have hs4 := twoE_size ht4
  have hq1 : 2 + t1.size ≤ 9223372036854775807 := by omega
  have hq2 : 2 + t1.size + t2.size ≤ 9223372036854775807 := by omega
  have hq3 : 2 + t1.size + t2.size + t3.size ≤ 9223372036854775807 := by omega
  have hq4 : 2 + t1.size + t2.size + t3.size + t4.size ≤ 9223372036854775807 := by omega
  have HH : Hid (((⟨#[82, 84]⟩ : ByteArray) ++ t1 ++ t2 ++ t3 ++ t4).data.toList = headE ⟨la, lb, sa, sb, l⟩) := headE_eq la lb sa sb l ht1 ht2 ht3 ht4
  clear ht1 ht2 ht3 ht4
  go_wp2
  go_ret
  exact ⟨⟨_, rfl, HH.out⟩, B4⟩

set_option maxRecDepth 100000 in
set_option maxHeartbeats 400000 in
theorem headOf_calls (a b : ByteArray) (w : World) (ha : a.size ≤ 4096) (hb : b.size ≤ 4096) :
    Calls Try.prog 49 #[.string a, .string b] w fun e w' => e = .returned (.agg #[.int .i64 a.size, .int .i64 b.size, .int .i64 (sum a.data.toList : Nat), .int .i64 (sum b.data.toList : Nat)]) ∧ Below w.heap.size w w' := by
  go_enter Try.func49, Try.ntmps49
  go_wp2_with fail
  refine (sum_calls a _ (by unfold maxLen; omega)).mono ?_
  rintro e w1 ⟨rfl, rfl⟩
  go_wp2_with fail
  refine (sum_calls b _ (by unfold maxLen; omega)).mono ?_
  rintro e w1 ⟨rfl, rfl⟩
  go_wp2
  exact bodyPost_ret (v := .agg #[.int .i64 a.size, .int .i64 b.size, .int .i64 (sum a.data.toList : Nat), .int .i64 (sum b.data.toList : Nat)]) (by simp [results, Try.results49, go_sem]) rfl ⟨rfl, (Below.refl _ _).alloc (Nat.le_refl _) _⟩

theorem conv_all {w : World} {base : Nat} {v : Value} {A : List UInt8} (h : w.ownsRow base 5 1 v A.length (byteC A)) : ∃ t : ByteArray, t.data.toList = A ∧ (convert 79 9 v).run Try.prog w = .ok (.string t) w := conv_own h

set_option maxRecDepth 100000 in
set_option maxHeartbeats 4000000 in
theorem jwrite_calls (la lb sa sb n c : Nat) (a : Option Addr) (l : List M.Rec) (w : World) (hla : la ≤ 4096) (hlb : lb ≤ 4096) (hsa : sa < 65536) (hsb : sb < 65536) (hat : RecsAt w a n l) (hok : okAll l) (ha : lenA l ≤ 4096) (hb : lenB l ≤ 4096) :
    Calls Try.prog 50 #[.agg #[.int .i64 la, .int .i64 lb, .int .i64 sa, .int .i64 sb], .slice a n c] w fun e w' => (∃ t : ByteArray, e = .returned (.string t) ∧ t.data.toList = writE ⟨la, lb, sa, sb, l⟩) ∧ Below w.heap.size w w' := by
  have hn := hat.len
  subst hn
  have hl4 : l.length ≤ 8192 := by have := okAll_len l hok; omega
  obtain ⟨i0, hi, hz0, hz1, hz2⟩ := info_parts Try.info5
  go_enter Try.func50, Try.ntmps50
  go_wp2_with fail
  refine (headText_calls la lb sa sb l _ hla hlb hsa hsb).mono ?_
  rintro e w1 ⟨⟨t, rfl, ht⟩, b1⟩
  have B1 : Below w.heap.size w w1 := ((Below.refl w.heap.size w).alloc (Nat.le_refl _) _).trans (b1.mono (by simp))
  have hts : t.size ≤ 12 := by rw [← ba_len, ht]; exact headE_len la lb sa sb l
  have HT : Hid (t.data.toList = headE ⟨la, lb, sa, sb, l⟩) := ht
  have z1 := B1.size
  clear b1 ht
  have own1 := World.ownsRow_nil w1 w.heap.size 5 1
  go_wp2_with (first
    | (at_builtin; refine Lib.wpList_append_own_string _ rfl _ _ 79 9 rfl w.heap.size 5 i0 Try.underlying79 Try.underlying9 hi hz0 hz1 hz2 _ _ _ rfl own1 t rfl ?k3 ?k4 ?k5 ?_)
    | go_in)
  case k3 => unfold maxLen; omega
  case k4 => omega
  case k5 => omega
  intro v2 w2 own2 hgrow _
  have B2 : Below w.heap.size w w2 := B1.grown hgrow z1 (fun k hk => (own1.lt k hk).1)
  have own3 : w2.ownsRow w.heap.size 5 1 v2 (headE ⟨la, lb, sa, sb, l⟩).length (byteC (headE ⟨la, lb, sa, sb, l⟩)) := by
    rw [← HT.out, ba_len]
    have h := own2
    rw [strCells_eq] at h
    exact h
  clear hgrow own1 own2
  go_wp2
  go_loopw [5, 19] (fun v i wr => ∃ (k : Nat) (A : List UInt8), k ≤ l.length ∧ i = .int .i64 k ∧ wr.ownsRow w.heap.size 5 1 v A.length (byteC A) ∧ Hid (A = headE ⟨la, lb, sa, sb, l⟩ ++ recsE (l.take k)) ∧ Below w.heap.size w wr) (fun _ i _ => l.length - (intOf i).toNat)
  case atStart => exact ⟨0, headE ⟨la, lb, sa, sb, l⟩, Nat.zero_le _, rfl, own3, by simp [Hid, recsE], B2⟩
  case round =>
    obtain ⟨k, A, hk, rfl, hown, HS, B⟩ := hrel
    have hlt2 := len_take l hok k
    have hrl := recsE_le (l.take k) (okAll_take hok k)
    have hhl := headE_len la lb sa sb l
    have hss : A.length ≤ 40000 := by
      rw [HS.out, List.length_append]
      omega
    have hz := B.size
    clear hrl hhl hlt2 own3 B2 HT
    by_cases hlt : k < l.length
    · have hlt1 : (k : Int) < (l.length : Int) := by omega
      have hno : l ≠ [] := fun h => by rw [h] at hlt; simp at hlt
      obtain ⟨bk, off, ha', hbw, hcells⟩ := hat.cells.resolve_left hno
      subst ha'
      obtain ⟨c0, c1, c2⟩ := hcells k hlt
      have d0 := (B.cell (by exact hbw)).trans c0
      have d1 := (B.cell (by exact hbw)).trans c1
      have d2 := (B.cell (by exact hbw)).trans c2
      have hokr := hok l[k] (List.getElem_mem hlt)
      have hn4 := mem_n l hok ha hb l[k] (List.getElem_mem hlt)
      have HR : Hid (recsE (l.take (k + 1)) = recsE (l.take k) ++ recE l[k]) := take_rec l k hlt
      clear hcells c0 c1 c2 hno
      generalize l[k] = r at *
      have ho := (okRec_iff r).1 hokr
      have hrs : r.s.size ≤ 4096 := by omega
      have hv0 : 0 ≤ 4 * r.n + r.kind := by omega
      have hv1 : 4 * r.n + r.kind < 2097152 := by omega
      have hk0 : 0 ≤ r.kind ∧ r.kind ≤ 2 := by omega
      have hr1 : 1 ≤ r.n := by omega
      clear ho hokr
      go_wp2_with fail
      refine (jnumber_int (4 * r.n + r.kind) _ hv0 hv1).mono ?_
      rintro e w3 ⟨⟨t, rfl, ht⟩, b3⟩
      have hs1 := numE_size ht
      have e2 : w3.cell? ⟨wr.heap.size, 2, none⟩ = some (.string r.s) := by rw [(bcell b3).1 _ _ (by simp)]; simp [go_sem]
      have own3 := ownsRow_below (hown.alloc _) b3
      have B3 : Below w.heap.size w w3 := (B.alloc hz _).trans (b3.mono (by simp; omega))
      have z3 := B3.size
      have zz : wr.heap.size < w3.heap.size := by have := b3.size; simp at this; omega
      have hne := fun k hk => (hown.lt k hk).2
      clear b3 hown d0 d1 d2
      go_wp2_with (first
        | (at_builtin; refine Lib.wpList_append_own_string _ rfl (.tmp 30) (.tmp 31) 79 9 rfl w.heap.size 5 i0 Try.underlying79 Try.underlying9 hi hz0 hz1 hz2 _ _ _ rfl own3 t rfl ?k3 ?k4 ?k5 ?_)
        | go_in)
      case k3 => unfold maxLen; omega
      case k4 => omega
      case k5 => omega
      intro v4 w4 own4 hgrow _
      have e4 : w4.cell? ⟨wr.heap.size, 2, none⟩ = some (.string r.s) := hgrow.cell e2 (fun e => by have := hne _ e.symm; simp at this)
      have B4 : Below w.heap.size w w4 := B3.grown hgrow z3 (fun k hk => (own3.lt k hk).1)
      have z4 := B4.size
      rw [byteC_str] at own4
      clear hgrow own3 e2 B3 hne
      go_wp2_with (first
        | (at_builtin; refine Lib.wpList_append_own_string _ rfl (.tmp 33) (.tmp 35) 79 9 rfl w.heap.size 5 i0 Try.underlying79 Try.underlying9 hi hz0 hz1 hz2 _ _ _ rfl own4 r.s rfl ?k3 ?k4 ?k5 ?_)
        | go_in)
      case k3 => unfold maxLen; omega
      case k4 => omega
      case k5 => omega
      intro v5 w5 own5 hgrow _
      have B5 : Below w.heap.size w w5 := B4.grown hgrow z4 (fun k hk => (own4.lt k hk).1)
      rw [byteC_str] at own5
      have HS2 : Hid (A ++ t.data.toList ++ r.s.data.toList = headE ⟨la, lb, sa, sb, l⟩ ++ recsE (l.take (k + 1))) := by
        show _ = _
        rw [ht, HS.out, HR.out, recE]; simp
      have own6 : w5.ownsRow w.heap.size 5 1 v5 (A ++ t.data.toList ++ r.s.data.toList).length (byteC (A ++ t.data.toList ++ r.s.data.toList)) := by
        rw [List.length_append, List.length_append, ba_len, ba_len, ht]; simpa using own5
      clear hgrow own4 own5 e4 B4 ht
      go_wp2
      go_roundw
      case rel => exact ⟨k + 1, _, by omega, by go_num, own6, HS2.out, B5⟩
      case measure => simp [intOf]; omega
    · obtain rfl : k = l.length := by omega
      obtain ⟨t, ht, hr⟩ := conv_all hown
      have hts : t.size ≤ 40000 := by rw [← ba_len, ht]; exact hss
      have HB : Hid (t.data.toList = bodyE ⟨la, lb, sa, sb, l⟩) := by
        show _ = _
        rw [ht, HS.out, List.take_length]; rfl
      have HA : Hid (A = t.data.toList) := ht.symm
      have hsl := sum_lt t.data.toList
      clear ht
      go_wp2_with fail
      refine (sum_calls t _ (by unfold maxLen; omega)).mono ?_
      rintro e w3 ⟨rfl, rfl⟩
      clear hr
      go_wp2_with fail
      refine (two_calls _ _ hsl).mono ?_
      rintro e w4 ⟨⟨u, rfl, hu⟩, b4⟩
      have hus := twoE_size hu
      have own4 := ownsRow_below hown b4
      have B4 : Below w.heap.size w w4 := B.trans (b4.mono hz)
      have z4 := B4.size
      clear b4 hown
      go_wp2_with (first
        | (at_builtin; refine Lib.wpList_append_own_string _ rfl (.tmp 43) (.tmp 44) 79 9 rfl w.heap.size 5 i0 Try.underlying79 Try.underlying9 hi hz0 hz1 hz2 _ _ _ rfl own4 u rfl ?k3 ?k4 ?k5 ?_)
        | go_in)
      case k3 => unfold maxLen; omega
      case k4 => omega
      case k5 => omega
      intro v5 w5 own5 hgrow _
      have B5 : Below w.heap.size w w5 := B4.grown hgrow z4 (fun k hk => (own4.lt k hk).1)
      rw [byteC_str] at own5
      have own6 : w5.ownsRow w.heap.size 5 1 v5 (A ++ u.data.toList).length (byteC (A ++ u.data.toList)) := by
        rw [List.length_append, ba_len]; exact own5
      obtain ⟨x, hx, hr⟩ := conv_all own6
      have HX : Hid (x.data.toList = writE ⟨la, lb, sa, sb, l⟩) := by
        show _ = _
        rw [hx, hu, HA.out, HB.out]; rfl
      clear hgrow own4 own5 own6 hx hu
      go_wp2
      go_ret
      exact ⟨⟨x, rfl, HX.out⟩, B5⟩
end Go.Proofs.Ytlppphmnegdhoaa
