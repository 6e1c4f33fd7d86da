/-
  What the reader of a list of records answers.
-/
import Derived.Test.YtlppphmnegdhoaaReadB
namespace Go.Proofs.Ytlppphmnegdhoaa
set_option linter.unusedVariables false
open Go.RowKit
open M

theorem Try.info57 : (Try.prog.info? 57).map (fun i => (i.zero, i.size, i.bytes)) = some (some (.agg #[.int .i64 0, .int .i64 0, .string ⟨#[]⟩]), 3, 32) := by kernel_rfl

/-- a record's cells, a list's -/
def recC (r : M.Rec) : List Value := [.int .i64 r.kind, .int .i64 r.n, .string r.s]
def recsC (l : List M.Rec) : List Value := (l.map recC).flatten
theorem recsC_snoc (l : List M.Rec) (r : M.Rec) : recsC (l ++ [r]) = recsC l ++ recC r := by simp [recsC]

/-- what is left to read is no list of records of these lengths -/
def NoRecs (t : List UInt8) (a b : Int) : Prop := ∀ l, okAll l → t = recsE l → lenA l = a → lenB l = b → False

theorem noRecs_of {t u : List UInt8} {L : List M.Rec} {a b : Int} (ho : okAll L) (ha : 0 ≤ a - lenA L) (hb : 0 ≤ b - lenB L) (ha4 : a ≤ 4096) (hb4 : b ≤ 4096) (h : t = recsE L ++ u) (hn : NoRecs u (a - lenA L) (b - lenB L)) : NoRecs t a b := by
  intro l hl ht la lb
  have n1 := mem_n L ho (by omega) (by omega)
  have n2 := mem_n l hl (by omega) (by omega)
  obtain ⟨m, hm, hu⟩ := recs_prefix L l u ho hl n1 n2 (by rw [← h, ht])
  subst hm
  rw [lenA_append] at la
  rw [lenB_append] at lb
  exact hn m (fun x hx => hl x (List.mem_append_right _ hx)) hu (by omega) (by omega)
theorem noRecs_none {t : List UInt8} {a b : Int} (ha4 : a ≤ 4096) (hb4 : b ≤ 4096) (h : rdRec t = none) (ht : t ≠ []) : NoRecs t a b := by
  intro l hl hh la lb
  match l with
  | [] => exact ht (by rw [hh]; rfl)
  | r :: l =>
    have n2 := mem_n (r :: l) hl (by omega) (by omega) r (List.mem_cons_self ..)
    rw [hh, recsE_cons, rdRec_recE r _ (okAll_cons hl).1 n2] at h
    cases h
theorem noRecs_big {t u : List UInt8} {r : M.Rec} {a b : Int} (ha4 : a ≤ 4096) (hb4 : b ≤ 4096) (h : rdRec t = some (r, u)) (ht : t ≠ []) (hg : a < inA r ∨ b < inB r) : NoRecs t a b := by
  intro l hl hh la lb
  match l with
  | [] => exact ht (by rw [hh]; rfl)
  | r' :: l =>
    have n2 := mem_n (r' :: l) hl (by omega) (by omega) r' (List.mem_cons_self ..)
    rw [hh, recsE_cons, rdRec_recE r' _ (okAll_cons hl).1 n2] at h
    simp only [Option.some.injEq, Prod.mk.injEq] at h
    obtain ⟨rfl, _⟩ := h
    have h3 := mem_le (r' :: l) hl r' (List.mem_cons_self ..)
    omega
theorem noRecs_end {a b : Int} (hg : 0 < a ∨ 0 < b) : NoRecs [] a b := by
  intro l hl hh la lb
  match l with
  | [] => simp [lenA, lenB] at la lb; omega
  | r :: l =>
    have := recE_len r
    have h2 := congrArg List.length hh
    simp [recsE_cons] at h2
    omega

theorem ownsRow_below {w w' : World} {base : Nat} {e : TypeId} {size : Nat} {v : Value} {n : Nat} {xs : List Value} (h : w.ownsRow base e size v n xs) (hb : Below w.heap.size w w') : w'.ownsRow base e size v n xs :=
  h.kept (row := none) ⟨hb.os, hb.tape, hb.output, hb.size, fun k hk _ => hb.block k hk⟩ (by cases v.ownBlock <;> simp)
theorem recC_at (w : World) (r : M.Rec) (t : TypeId) : ∀ j u, (recC r)[j]? = some u → (w.alloc (.cells #[.int .i64 r.kind, .int .i64 r.n, .string r.s] t)).cell? ((⟨w.heap.size, 0, none⟩ : Addr).add j) = some u := by
  intro j u h
  match j, h with
  | 0, h => simp [recC] at h; subst h; simp [Addr.add]
  | 1, h => simp [recC] at h; subst h; simp [Addr.add]
  | 2, h => simp [recC] at h; subst h; simp [Addr.add]
  | n + 3, h => simp [recC] at h
theorem recC_one (r : M.Rec) : ∀ u ∈ recC r, u.oneCell' = true := by
  intro u h
  simp [recC] at h
  rcases h with rfl | rfl | rfl <;> rfl

/-- what the reader of records answers -/
def RecsPost (B : Nat) (w w' : World) (t : List UInt8) (la lb : Nat) (e : Ending) : Prop :=
  ∃ ok v L, e = .returned (.tuple #[v, .bool ok]) ∧ Below B w w' ∧ (ok = true → okAll L ∧ t = recsE L ∧ lenA L = la ∧ lenB L = lb ∧ w'.ownsRow B 57 3 v L.length (recsC L)) ∧ (ok = false → v = .slice none 0 0 ∧ NoRecs t la lb)

set_option maxRecDepth 100000 in
set_option maxHeartbeats 1000000 in
theorem readRecords_calls (s : ByteArray) (p la lb sa sb : Nat) (w : World) (hs : s.size ≤ 12352) (hp : p ≤ s.size) (hla : la ≤ 4096) (hlb : lb ≤ 4096) :
    Calls Try.prog 80 #[.string s, .int .i64 p, .agg #[.int .i64 la, .int .i64 lb, .int .i64 sa, .int .i64 sb]] w fun e w' => RecsPost w.heap.size w w' (s.data.toList.drop p) la lb e := by
  obtain ⟨i0, hi, hz0, hz1, hz2⟩ := info_parts Try.info57
  obtain ⟨B, hB⟩ : ∃ B, B = w.heap.size := ⟨_, rfl⟩
  go_enter Try.func80, Try.ntmps80
  go_wp2
  go_loopw [1, 8, 9, 10] (fun at' v ra rb wr => ∃ (q : Nat) (L : List M.Rec), p + L.length ≤ q ∧ q ≤ s.size ∧ at' = .int .i64 q ∧ ra = .int .i64 (la - lenA L) ∧ rb = .int .i64 (lb - lenB L) ∧ 0 ≤ (la : Int) - lenA L ∧ 0 ≤ (lb : Int) - lenB L ∧ okAll L ∧ Hid (s.data.toList.drop p = recsE L ++ s.data.toList.drop q) ∧ wr.ownsRow w.heap.size 57 3 v L.length (recsC L) ∧ Below w.heap.size w wr)
    (fun at' _ _ _ _ => s.size - (intOf at').toNat)
  case atStart => exact ⟨p, [], by simp, hp, rfl, by simp [lenA], by simp [lenB], by simp [lenA], by simp [lenB], fun x hx => by simp at hx, by simp [Hid, recsE], World.ownsRow_nil _ _ _ _, (Below.refl _ _).alloc (Nat.le_refl _) _⟩
  case round =>
    obtain ⟨q, L, hpq, hq, rfl, rfl, rfl, hra, hrb, hok, HD, hown, hbel⟩ := hrel
    by_cases hlt : q < s.size
    · match hm : rdRec (s.data.toList.drop q) with
      | none =>
        have HN : Hid (NoRecs (s.data.toList.drop p) la lb) := noRecs_of hok hra hrb (by omega) (by omega) HD.out (noRecs_none (by have := lenA_nn L hok; omega) (by have := lenB_nn L hok; omega) hm (fun h => by have := len_drop s q; rw [h] at this; simp at this; omega))
        have HM : Hid (rdRec (s.data.toList.drop q) = none) := hm
        clear hm
        go_wp2_with fail
        refine (readRecord_none s q _ (by unfold maxLen; omega) hq HM.out).mono ?_
        rintro e w1 ⟨rfl, hb⟩
        unfold noRec
        have hsz := hbel.size
        have hb2 := hbel.trans (hb.mono hsz)
        go_wp2
        go_ret2
        exact ⟨false, _, [], rfl, (hb2.alloc (by have := hb2.size; omega) _), fun h => (by cases h), fun _ => ⟨rfl, HN.out⟩⟩
      | some (r, t) =>
        obtain ⟨q', hqq, hq', rfl⟩ := rdRec_at s q r t hq hm
        have HM : Hid (rdRec (s.data.toList.drop q) = some (r, s.data.toList.drop q')) := hm
        have hokr := (rdRec_inv _ _ _ hm).1
        have HD2 : Hid (s.data.toList.drop p = recsE (L ++ [r]) ++ s.data.toList.drop q') := by
          show s.data.toList.drop p = _
          rw [HD.out, (rdRec_inv _ _ _ hm).2, recsE_append]; simp [recsE]
        clear hm
        have hnn := inA_nn r hokr
        have hnb := inB_nn r hokr
        by_cases hg : ((la : Int) - lenA L < inA r) ∨ ((lb : Int) - lenB L < inB r)
        · have HN : Hid (NoRecs (s.data.toList.drop p) la lb) := noRecs_of hok hra hrb (by omega) (by omega) HD.out (noRecs_big (by have := lenA_nn L hok; omega) (by have := lenB_nn L hok; omega) HM.out (fun h => by have := len_drop s q; rw [h] at this; simp at this; omega) hg)
          go_wp2_with fail
          refine (readRecord_some s q q' r _ (by unfold maxLen; omega) hq hq' HM.out).mono ?_
          rintro e w1 ⟨rfl, hb⟩
          unfold someRec
          have hsz := hbel.size
          have hb2 := hbel.trans (hb.mono hsz)
          clear hb
          go_wp2_with fail
          refine (spans_calls r _).mono ?_
          rintro e w2 ⟨rfl, hb⟩
          have hb3 := (hb2.alloc (by have := hb2.size; omega) _).trans (hb.mono (by have := hb2.size; simp; omega))
          clear hb
          go_wp2
          all_goals go_ret2
          all_goals exact ⟨false, _, [], rfl, hb3, fun h => (by cases h), fun _ => ⟨rfl, HN.out⟩⟩
        · have hg1 : inA r ≤ (la : Int) - lenA L := by omega
          have hg2 : inB r ≤ (lb : Int) - lenB L := by omega
          have hl0 := lenA_nn L hok
          have hl1 := lenB_nn L hok
          clear hg
          go_wp2_with fail
          refine (readRecord_some s q q' r _ (by unfold maxLen; omega) hq hq' HM.out).mono ?_
          rintro e w1 ⟨rfl, hb⟩
          unfold someRec
          have hsz := hbel.size
          have hown1 := ownsRow_below hown hb
          have hb2 := hbel.trans (hb.mono hsz)
          have hsz1 := hb2.size
          clear hb hown hbel
          go_wp2_with fail
          refine (spans_calls r _).mono ?_
          rintro e w2 ⟨rfl, hb⟩
          have hown2 := ownsRow_below (hown1.alloc _) hb
          have hb3 := (hb2.alloc (by have := hb2.size; omega) _).trans (hb.mono (by have := hb2.size; simp; omega))
          have c0 : w2.cell? ⟨w1.heap.size, 0, none⟩ = some (.int .i64 r.kind) := by rw [(bcell hb).1 _ _ (by simp)]; simp [go_sem]
          have c1 : w2.cell? ⟨w1.heap.size, 1, none⟩ = some (.int .i64 r.n) := by rw [(bcell hb).1 _ _ (by simp)]; simp [go_sem]
          have c2 : w2.cell? ⟨w1.heap.size, 2, none⟩ = some (.string r.s) := by rw [(bcell hb).1 _ _ (by simp)]; simp [go_sem]
          have hsz2 := hb3.size
          clear hb hown1 hb2
          go_wp2_with (first
            | (at_builtin; refine wpList_append_own _ rfl _ _ 22 rfl w.heap.size 57 i0 (.agg #[.int .i64 0, .int .i64 0, .string ⟨#[]⟩]) 3 32 Try.underlying22 hi hz0 hz1 hz2 rfl (by decide) _ _ _ rfl (hown2.alloc _) ⟨w2.heap.size, 0, none⟩ 1 1 (recC r) rfl rfl ?k1 ?k2 ?k3 ?k4 ?k5 ?_)
            | go_in)
          case k1 => exact recC_at w2 r _
          case k2 => exact recC_one r
          case k3 => unfold maxLen; omega
          case k4 => omega
          case k5 => simp; omega
          intro v' w3 hown3 hgrow _
          have hb4 : Below w.heap.size w w3 := (hb3.alloc hsz2 _).grown hgrow (by simp; omega) (fun k hk => (hown2.lt k hk).1)
          rw [← recsC_snoc] at hown3
          clear hgrow hown2 c0 c1 c2 hb3
          go_wp2
          go_roundw
          case rel => exact ⟨q', L ++ [r], by simp; omega, hq', rfl, by rw [lenA_append]; simp [lenA]; omega, by rw [lenB_append]; simp [lenB]; omega, by rw [lenA_append]; simp [lenA]; omega, by rw [lenB_append]; simp [lenB]; omega, okAll_append hok (fun x hx => by simp at hx; rw [hx]; exact hokr), HD2.out, by simpa using hown3, hb4⟩
          case measure => simp [intOf]; omega
    · have hqs : q = s.size := by omega
      have hl0 := lenA_nn L hok
      have hl1 := lenB_nn L hok
      have HE : Hid (s.data.toList.drop q = []) := by
        show s.data.toList.drop q = []
        rw [List.drop_of_length_le (by rw [ba_len]; omega)]
      by_cases hg : 0 < (la : Int) - lenA L ∨ 0 < (lb : Int) - lenB L
      · have HN : Hid (NoRecs (s.data.toList.drop p) la lb) := noRecs_of hok hra hrb (by omega) (by omega) HD.out (by rw [HE.out]; exact noRecs_end hg)
        clear hqs
        go_wp2
        all_goals go_ret2
        all_goals exact ⟨false, _, [], rfl, hbel, fun h => (by cases h), fun _ => ⟨rfl, HN.out⟩⟩
      · have hg1 : (la : Int) - lenA L ≤ 0 := by omega
        have hg2 : (lb : Int) - lenB L ≤ 0 := by omega
        have HD3 : Hid (s.data.toList.drop p = recsE L) := by
          show s.data.toList.drop p = _
          rw [HD.out, HE.out, List.append_nil]
        clear hqs hg
        go_wp2
        all_goals go_ret2
        all_goals exact ⟨true, _, L, rfl, hbel, fun _ => ⟨hok, HD3.out, by omega, by omega, hown⟩, fun h => (by cases h)⟩
end Go.Proofs.Ytlppphmnegdhoaa
