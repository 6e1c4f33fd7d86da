/-
  What 'halves' answers: records that say the same.
-/
import Derived.Test.YtlppphmnegdhoaaKh0
import Derived.BigQuiet
namespace Go.Proofs.Ytlppphmnegdhoaa
set_option linter.unusedVariables false
set_option maxRecDepth 100000
open Go.RowKit
open M

/-- a row that may be written into, or none -/
def RowOr (B : Nat) (w : World) (aa : Option Addr) (L : List M.Rec) : Prop := (aa = none ∧ L = []) ∨ ∃ g, aa = some ⟨g, 0, none⟩ ∧ B ≤ g ∧ RowW w g L
theorem rowOr_own {B : Nat} {w : World} {aa : Option Addr} {n c : Nat} {L : List M.Rec} (h : w.ownsRow B 57 3 (.slice aa n c) n (recsC L)) (hn : n = L.length) : RowOr B w aa L := by
  subst hn
  rcases h.2 with ⟨hv, hz⟩ | ⟨g, cap, cur, hv, hb, hg, hrest⟩
  · simp at hv
    exact .inl ⟨hv.1, List.length_eq_zero_iff.1 hz⟩
  · simp at hv
    obtain ⟨rfl, rfl⟩ := hv
    right
    have hrec := recsAt_own h
    refine ⟨g, rfl, hb, (h.lt g rfl).2, fun i hi => ?_, fun o ho => ?_⟩
    · have hno : L ≠ [] := fun e => by rw [e] at hi; simp at hi
      obtain ⟨bk, off, ha', hbw, hcells⟩ := hrec.cells.resolve_left hno
      simp at ha'
      obtain ⟨rfl, rfl⟩ := ha'
      obtain ⟨c0, c1, c2⟩ := hcells i hi
      rw [Nat.zero_add] at c0 c1 c2
      exact ⟨c0, c1, c2⟩
    · simp [World.frozen?, hg]
theorem rowOr_recs {B : Nat} {w : World} {aa : Option Addr} {L : List M.Rec} (h : RowOr B w aa L) : RecsAt w aa L.length L := by
  rcases h with ⟨rfl, rfl⟩ | ⟨g, rfl, hb, hr⟩
  · exact ⟨rfl, .inl rfl⟩
  · exact ⟨rfl, .inr ⟨g, 0, rfl, hr.lt, fun i hi => by rw [Nat.zero_add]; exact hr.c i hi⟩⟩

/-- what 'halves' answers -/
def HalvesPost (l : List M.Rec) (w w' : World) (e : Ending) : Prop :=
  ∃ (L : List M.Rec) (a' : Option Addr) (c' : Nat), e = .returned (.slice a' L.length c') ∧ RecsAt w' a' L.length L ∧ okAll L ∧ Eqv (expL L) (expL l) ∧ L.length ≤ 20000 ∧ Below w.heap.size w w'

set_option maxRecDepth 100000 in
set_option maxHeartbeats 8000000 in
theorem halves_calls (n c : Nat) (ad : Option Addr) (l : List M.Rec) (turn : Bool) (w : World) (hat : RecsAt w ad n l) (hok : okAll l) (hA : lenA l ≤ 4096) (hB : lenB l ≤ 4096) :
    Calls Try.prog 39 #[.slice ad n c, .bool turn] w fun e w' => HalvesPost l w w' e := by
  have hn := hat.len
  subst hn
  have hcl := count_le l hok
  obtain ⟨i0, hi, hz0, hz1, hz2⟩ := info_parts Try.info57
  go_enter Try.func39, Try.ntmps39
  go_wp2
  go_loopw [5, 6] (fun v i wr => ∃ (k : Nat) (L : List M.Rec), k ≤ l.length ∧ i = .int .i64 k ∧ wr.ownsRow w.heap.size 57 3 v L.length (recsC L) ∧ L.length ≤ 2 * k ∧ okAll L ∧ Hid (expL L = expL (l.take k)) ∧ Below w.heap.size w wr) (fun _ i _ => l.length - (intOf i).toNat)
  case atStart => exact ⟨0, [], Nat.zero_le _, rfl, World.ownsRow_nil _ _ _ _, by simp, fun r hr => by simp at hr, rfl, Below.refl _ _⟩
  case round =>
    obtain ⟨k, L, hk, rfl, hown, hLk, hLo, HE, B⟩ := hrel
    have hz := B.size
    by_cases hlt : k < l.length
    · have hlt1 : (k : Int) < (l.length : Int) := by omega
      have hno : l ≠ [] := fun h => by rw [h] at hlt; simp at hlt
      obtain ⟨bk, off, ha', hbw, hcells⟩ := hat.cells.resolve_left hno
      obtain ⟨c0, c1, c2⟩ := hcells k hlt
      have d0 := (B.cell (by exact hbw)).trans c0
      have d1 := (B.cell (by exact hbw)).trans c1
      have d2 := (B.cell (by exact hbw)).trans c2
      have hokr := hok l[k] (List.getElem_mem hlt)
      have hn4 := mem_n l hok hA hB l[k] (List.getElem_mem hlt)
      have HX : Hid (expL (l.take (k + 1)) = expL L ++ expR l[k]) := by
        show _ = _
        rw [exp_take l k hlt, HE.out]
      clear hcells c0 c1 c2 hno HE
      subst ha'
      generalize l[k] = r at *
      have hkr := (okRec_iff r).1 hokr
      obtain ⟨rk, rn, rs⟩ := r
      simp only at hkr hn4 d0 d1 d2
      by_cases h1 : 1 < rn
      · have hh := half_two hokr h1
        simp only at hh
        obtain ⟨m, hm⟩ : ∃ m : Nat, rn / 2 = m := ⟨(rn / 2).toNat, by omega⟩
        have hmt : (rn / 2).toNat = m := by omega
        rw [hmt, hm] at hh
        by_cases h2 : rk = 2
        · subst h2
          have hms : m ≤ rs.size := by omega
          rw [if_pos rfl, if_pos rfl] at hh
          have HH : Hid _ := hh
          clear hh hmt
          go_upto_region 12 with fail
          go_wp2_with (first
            | (at_builtin; refine wpList_append_own _ rfl (.tmp 51) (.tmp 53) 22 rfl w.heap.size 57 i0 (.agg #[.int .i64 0, .int .i64 0, .string ⟨#[]⟩]) 3 32 Try.underlying22 hi hz0 hz1 hz2 rfl (by decide) _ _ _ rfl (((hown.alloc _).alloc _).alloc _) ⟨wr.heap.size + 1 + 1, 0, none⟩ 1 1 (recC ⟨2, (m : Int), (rs.extract 0 m)⟩) rfl rfl ?k1 ?k2 ?k3 ?k4 ?k5 ?_)
            | go_in)
          case k1 => exact fun j u h => h
          case k2 => exact recC_one _
          case k3 => unfold maxLen; omega
          case k4 => omega
          case k5 => first | omega | (simp; omega)
          intro v' w3 hown3 hgrow _
          have hrow := hown.lt
          have x0 : w3.cell? ⟨wr.heap.size, 0, none⟩ = some (.int .i64 2) := hgrow.cell (by simp [go_sem]) (fun e => absurd (hrow wr.heap.size e.symm).2 (by omega))
          have x1 : w3.cell? ⟨wr.heap.size, 1, none⟩ = some (.int .i64 (rn - m)) := hgrow.cell (by simp [go_sem]) (fun e => absurd (hrow wr.heap.size e.symm).2 (by omega))
          have x2 : w3.cell? ⟨wr.heap.size, 2, none⟩ = some (.string (rs.extract m rs.size)) := hgrow.cell (by simp [go_sem]) (fun e => absurd (hrow wr.heap.size e.symm).2 (by omega))
          have B3 : Below w.heap.size w w3 := (((B.alloc hz _).alloc (by simp; omega) _).alloc (by simp; omega) _).grown hgrow (by simp; omega) (fun k hk => (hown.lt k hk).1)
          have hsz3 := hgrow.size
          simp at hsz3
          have hlt3 : wr.heap.size < w3.heap.size := by omega
          rw [← recsC_snoc] at hown3
          clear hgrow hrow
          go_wp2_with (first
            | (at_builtin; refine wpList_append_own _ rfl (.tmp 55) (.tmp 57) 22 rfl w.heap.size 57 i0 (.agg #[.int .i64 0, .int .i64 0, .string ⟨#[]⟩]) 3 32 Try.underlying22 hi hz0 hz1 hz2 rfl (by decide) _ _ _ rfl (hown3.alloc _) ⟨w3.heap.size, 0, none⟩ 1 1 (recC ⟨2, rn - m, (rs.extract m rs.size)⟩) rfl rfl ?k1 ?k2 ?k3 ?k4 ?k5 ?_)
            | go_in)
          case k1 => first | exact fun j u h => h | exact recC_at w3 ⟨2, rn - m, (rs.extract m rs.size)⟩ _
          case k2 => exact recC_one _
          case k3 => unfold maxLen; omega
          case k4 => omega
          case k5 => first | omega | (simp; omega)
          intro v'' w4 hown4 hgrow4 _
          have B4 : Below w.heap.size w w4 := (B3.alloc (by omega) _).grown hgrow4 (by simp; omega) (fun k hk => (hown3.lt k hk).1)
          rw [← recsC_snoc] at hown4
          clear hgrow4 hown3 x0 x1 x2 B3
          go_wp2
          go_roundw
          case rel => exact ⟨k + 1, (L ++ [⟨2, (m : Int), (rs.extract 0 m)⟩]) ++ [⟨2, rn - m, (rs.extract m rs.size)⟩], by omega, by go_num, by simpa using hown4, by simp; omega, okAll_append (okAll_append hLo (fun z hz => by simp at hz; rw [hz]; exact HH.out.1)) (fun z hz => by simp at hz; rw [hz]; exact HH.out.2.1), by
            show _ = _
            rw [HX.out, HH.out.2.2, expL_append, expL_append, List.append_assoc]
            simp [expL], B4⟩
          case measure => simp [intOf]; omega
        · have k2 : (rk == 2) = false := by simp [h2]
          rw [if_neg h2, if_neg h2] at hh
          have HH : Hid _ := hh
          clear hh hmt
          go_upto_region 12 with fail
          go_wp2_with (first
            | (at_builtin; refine wpList_append_own _ rfl (.tmp 51) (.tmp 53) 22 rfl w.heap.size 57 i0 (.agg #[.int .i64 0, .int .i64 0, .string ⟨#[]⟩]) 3 32 Try.underlying22 hi hz0 hz1 hz2 rfl (by decide) _ _ _ rfl (((hown.alloc _).alloc _).alloc _) ⟨wr.heap.size + 1 + 1, 0, none⟩ 1 1 (recC ⟨rk, (m : Int), ⟨#[]⟩⟩) rfl rfl ?k1 ?k2 ?k3 ?k4 ?k5 ?_)
            | go_in)
          case k1 =>
            intro j u h
            have h9 := recC_at ((wr.alloc (.cells #[.int .i64 rk, .int .i64 (rn - m), .string rs] 57)).alloc (.cells #[.int .i64 rk, .int .i64 (m : Int), .string ⟨#[]⟩] 57)) ⟨rk, (m : Int), ⟨#[]⟩⟩ 57 j u h
            simpa using h9
          case k2 => exact recC_one _
          case k3 => unfold maxLen; omega
          case k4 => omega
          case k5 => first | omega | (simp; omega)
          intro v' w3 hown3 hgrow _
          have hrow := hown.lt
          have x0 : w3.cell? ⟨wr.heap.size, 0, none⟩ = some (.int .i64 rk) := hgrow.cell (by simp [go_sem]) (fun e => absurd (hrow wr.heap.size e.symm).2 (by omega))
          have x1 : w3.cell? ⟨wr.heap.size, 1, none⟩ = some (.int .i64 (rn - m)) := hgrow.cell (by simp [go_sem]) (fun e => absurd (hrow wr.heap.size e.symm).2 (by omega))
          have x2 : w3.cell? ⟨wr.heap.size, 2, none⟩ = some (.string rs) := hgrow.cell (by simp [go_sem]) (fun e => absurd (hrow wr.heap.size e.symm).2 (by omega))
          have B3 : Below w.heap.size w w3 := (((B.alloc hz _).alloc (by simp; omega) _).alloc (by simp; omega) _).grown hgrow (by simp; omega) (fun k hk => (hown.lt k hk).1)
          have hsz3 := hgrow.size
          simp at hsz3
          have hlt3 : wr.heap.size < w3.heap.size := by omega
          rw [← recsC_snoc] at hown3
          clear hgrow hrow
          go_wp2_with (first
            | (at_builtin; refine wpList_append_own _ rfl (.tmp 55) (.tmp 57) 22 rfl w.heap.size 57 i0 (.agg #[.int .i64 0, .int .i64 0, .string ⟨#[]⟩]) 3 32 Try.underlying22 hi hz0 hz1 hz2 rfl (by decide) _ _ _ rfl (hown3.alloc _) ⟨w3.heap.size, 0, none⟩ 1 1 (recC ⟨rk, rn - m, rs⟩) rfl rfl ?k1 ?k2 ?k3 ?k4 ?k5 ?_)
            | go_in)
          case k1 => first | exact fun j u h => h | exact recC_at w3 ⟨rk, rn - m, rs⟩ _
          case k2 => exact recC_one _
          case k3 => unfold maxLen; omega
          case k4 => omega
          case k5 => first | omega | (simp; omega)
          intro v'' w4 hown4 hgrow4 _
          have B4 : Below w.heap.size w w4 := (B3.alloc (by omega) _).grown hgrow4 (by simp; omega) (fun k hk => (hown3.lt k hk).1)
          rw [← recsC_snoc] at hown4
          clear hgrow4 hown3 x0 x1 x2 B3
          go_wp2
          go_roundw
          case rel => exact ⟨k + 1, (L ++ [⟨rk, (m : Int), ⟨#[]⟩⟩]) ++ [⟨rk, rn - m, rs⟩], by omega, by go_num, by simpa using hown4, by simp; omega, okAll_append (okAll_append hLo (fun z hz => by simp at hz; rw [hz]; exact HH.out.1)) (fun z hz => by simp at hz; rw [hz]; exact HH.out.2.1), by
            show _ = _
            rw [HX.out, HH.out.2.2, expL_append, expL_append, List.append_assoc]
            simp [expL], B4⟩
          case measure => simp [intOf]; omega
      · have h11 : ¬ (1 : Int) < rn := h1
        go_wp2_with (first
          | (at_builtin; refine wpList_append_own _ rfl (.tmp 55) (.tmp 57) 22 rfl w.heap.size 57 i0 (.agg #[.int .i64 0, .int .i64 0, .string ⟨#[]⟩]) 3 32 Try.underlying22 hi hz0 hz1 hz2 rfl (by decide) _ _ _ rfl ((hown.alloc _).alloc _) ⟨wr.heap.size + 1, 0, none⟩ 1 1 (recC ⟨rk, rn, rs⟩) rfl rfl ?k1 ?k2 ?k3 ?k4 ?k5 ?_)
          | go_in)
        case k1 => exact fun j u h => h
        case k2 => exact recC_one _
        case k3 => unfold maxLen; omega
        case k4 => omega
        case k5 => first | omega | (simp; omega)
        intro v' w3 hown3 hgrow _
        have B3 : Below w.heap.size w w3 := ((B.alloc hz _).alloc (by simp; omega) _).grown hgrow (by simp; omega) (fun k hk => (hown.lt k hk).1)
        rw [← recsC_snoc] at hown3
        clear hgrow
        go_wp2
        go_roundw
        case rel => exact ⟨k + 1, L ++ [⟨rk, rn, rs⟩], by omega, by go_num, by simpa using hown3, by simp; omega, okAll_append hLo (fun z hz => by simp at hz; rw [hz]; exact hokr), by
          show _ = _
          rw [HX.out, expL_append]
          simp [expL], B3⟩
        case measure => simp [intOf]; omega
    · obtain rfl : k = l.length := by omega
      rw [List.take_length] at HE
      obtain ⟨aa, cc, rfl⟩ := own_form hown
      have hrow := rowOr_own hown rfl
      have hlen : L.length ≤ 20000 := by omega
      clear hown
      go_wp2
      go_loopw [9] (fun i wx => ∃ (k : Nat) (L' : List M.Rec), i = .int .i64 k ∧ k ≤ L.length ∧ L'.length = L.length ∧ okAll L' ∧ Eqv (expL L') (expL l) ∧ RowOr w.heap.size wx aa L' ∧ Below w.heap.size w wx) (fun i _ => L.length - (intOf i).toNat)
      case atStart => exact ⟨0, L, rfl, Nat.zero_le _, rfl, hLo, by rw [HE.out]; exact .refl _, hrow, B⟩
      case round =>
        clear hrow B HE hLk hLo
        obtain ⟨k, L', rfl, hkL, hLL, hLo, hEq, hrow, B⟩ := hrel
        cases turn
        · go_wp2
          go_ret
          exact ⟨L', aa, cc, by rw [hLL]; rfl, rowOr_recs hrow, hLo, hEq, by omega, B⟩
        · by_cases hlt : k + 1 < L.length
          · have hlt1 : (k : Int) + 1 < (L.length : Int) := by omega
            rcases hrow with ⟨_, h0⟩ | ⟨g, hg, hgb, hrow⟩
            · rw [h0] at hLL; simp at hLL; omega
            have hk1 : k < L'.length := by omega
            have hk2 : k + 1 < L'.length := by omega
            obtain ⟨c0, c1, c2⟩ := hrow.c k hk1
            obtain ⟨d0, d1, d2⟩ := hrow.c (k + 1) hk2
            have HSW : Hid (L'[k].kind ≠ 0 → L'[k + 1].kind ≠ 0 → L'[k].kind ≠ L'[k + 1].kind → okAll (swapL L' k hk2) ∧ Eqv (expL (swapL L' k hk2)) (expL L')) := fun a b c => swap_eqv L' k hk2 hLo a b c
            have HR : Hid (RowW wr g L') := hrow
            have HEq : Hid (Eqv (expL L') (expL l)) := hEq
            have hgw := hrow.lt
            have fz := hrow.f
            have f0 := fz (k * 3) (by omega)
            have f1 := fz (k * 3 + 1) (by omega)
            have f2 := fz (k * 3 + 2) (by omega)
            have f3 := fz ((k + 1) * 3) (by omega)
            have f4 := fz ((k + 1) * 3 + 1) (by omega)
            have f5 := fz ((k + 1) * 3 + 2) (by omega)
            clear fz hrow hEq
            subst hg
            by_cases q0 : L'[k].kind = 0
            · have p0 : (L'[k].kind != 0) = false := by simp [q0]
              clear q0
              go_wp2
              go_quiet (fail)
              go_wp2
              go_roundw
              case rel => exact ⟨k + 1, L', by go_num, by omega, hLL, hLo, HEq.out, .inr ⟨g, rfl, hgb, HR.out.keep rfl (Nat.le_refl _)⟩, below_drewN B _⟩
              case measure => simp [intOf]; omega
            · have p0 : (L'[k].kind != 0) = true := by simp [q0]
              by_cases q1 : L'[k + 1].kind = 0
              · have p1 : (L'[k + 1].kind != 0) = false := by simp [q1]
                clear q1 q0
                go_wp2
                go_quiet (fail)
                go_wp2
                go_roundw
                case rel => exact ⟨k + 1, L', by go_num, by omega, hLL, hLo, HEq.out, .inr ⟨g, rfl, hgb, HR.out.keep rfl (Nat.le_refl _)⟩, below_drewN B _⟩
                case measure => simp [intOf]; omega
              · have p1 : (L'[k + 1].kind != 0) = true := by simp [q1]
                by_cases q2 : L'[k].kind = L'[k + 1].kind
                · have p2 : (L'[k].kind != L'[k + 1].kind) = false := by simp [q2]
                  clear q2 q1 q0
                  go_wp2
                  go_quiet (fail)
                  go_wp2
                  go_roundw
                  case rel => exact ⟨k + 1, L', by go_num, by omega, hLL, hLo, HEq.out, .inr ⟨g, rfl, hgb, HR.out.keep rfl (Nat.le_refl _)⟩, below_drewN B _⟩
                  case measure => simp [intOf]; omega
                · have p2 : (L'[k].kind != L'[k + 1].kind) = true := by simp [q2]
                  have HS := HSW.out q0 q1 q2
                  clear q2 q1 q0 HSW
                  go_wp2
                  go_quiet (fail)
                  have BW := below_drewN (Below.refl wr.heap.size wr) nq
                  have hRW := HR.out.keep (BW.block g hgw) BW.size
                  have B2 := below_drewN B nq
                  clear c0 c1 c2 d0 d1 d2 f0 f1 f2 f3 f4 f5 HR BW hgw
                  generalize World.drewN wr nq = W at hRW B2 ⊢
                  have hgw := hRW.lt
                  have fz := hRW.f
                  have f0 := fz (k * 3) (by omega)
                  have f1 := fz (k * 3 + 1) (by omega)
                  have f2 := fz (k * 3 + 2) (by omega)
                  have f3 := fz ((k + 1) * 3) (by omega)
                  have f4 := fz ((k + 1) * 3 + 1) (by omega)
                  have f5 := fz ((k + 1) * 3 + 2) (by omega)
                  obtain ⟨c0, c1, c2⟩ := hRW.c k hk1
                  obtain ⟨d0, d1, d2⟩ := hRW.c (k + 1) hk2
                  have HRW : Hid (RowW W g L') := hRW
                  clear fz hRW
                  have hsB := B2.size
                  go_wp2
                  go_roundw
                  case rel => exact ⟨k + 1, swapL L' k hk2, by go_num, by omega, by rw [swapL_len]; exact hLL, HS.1, .trans HS.2 HEq.out, .inr ⟨g, rfl, hgb, ((HRW.out.set k hk1 L'[k + 1]).set (k + 1) (by simpa using hk2) L'[k]).alloc _⟩, ((((((B2.setCell (by exact hgb) _).setCell (by exact hgb) _).setCell (by exact hgb) _).setCell (by exact hgb) _).setCell (by exact hgb) _).setCell (by exact hgb) _).alloc (by simpa using hsB) _⟩
                  case measure => simp [intOf]; omega
          · have hlt1 : ¬ (k : Int) + 1 < (L.length : Int) := by omega
            go_wp2
            go_ret
            exact ⟨L', aa, cc, by rw [hLL]; rfl, rowOr_recs hrow, hLo, hEq, by omega, B⟩
end Go.Proofs.Ytlppphmnegdhoaa
