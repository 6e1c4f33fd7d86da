/-
  The document's short list: the walk.
-/
import Derived.Test.YtlppphmnegdhoaaSh1
import Derived.Deep.DeepCutAuto
namespace Go.Proofs.Ytlppphmnegdhoaa
set_option linter.unusedVariables false
open Go.RowKit
open M

theorem rDrop_pos {d : Nat} (h : d ≠ 0) : rDrop d = [⟨1, (d : Int), ⟨#[]⟩⟩] := by simp [rDrop, h]
theorem rKeep_pos {d : Nat} (h : d ≠ 0) : rKeep d = [⟨0, (d : Int), ⟨#[]⟩⟩] := by simp [rKeep, h]
theorem rRest_pos {s : List UInt8} {t : ByteArray} (h : s ≠ []) (ht : t.data.toList = s) : rRest s = [⟨2, (t.size : Int), t⟩] := by
  have e : t = ⟨⟨s⟩⟩ := ba_ext ht
  have := ba_len t
  rw [ht] at this
  simp only [rRest, if_neg h]
  rw [this, e]

/-- the box of the places, and the slices to be read -/
structure ShBox (w wr : World) (af ab : Option Addr) (nf cf nk cb : Nat) : Prop where
  x0 : wr.cell? ⟨w.heap.size, 0, none⟩ = some (.slice af nf cf)
  x1 : wr.cell? ⟨w.heap.size, 1, none⟩ = some (.slice ab nk cb)
  below : Below w.heap.size w wr
  size : w.heap.size + 1 ≤ wr.heap.size
theorem ShBox.keep {w wr wc : World} {af ab : Option Addr} {nf cf nk cb : Nat} (h : ShBox w wr af ab nf cf nk cb) (hb : Below (w.heap.size + 1) wr wc) : ShBox w wc af ab nf cf nk cb :=
  ⟨(hb.cell (by simp)).trans h.x0, (hb.cell (by simp)).trans h.x1, h.below.trans (hb.mono (by omega)), by have := hb.size; have := h.size; omega⟩

theorem box_grow {w wr w3 : World} {af ab : Option Addr} {nf cf nk cb : Nat} {o : Obj} {v : Value} {n : Nat} {xs : List Value} (h : ShBox w wr af ab nf cf nk cb) (hown : wr.ownsRow (w.heap.size + 1) 57 3 v n xs) (hg : (wr.alloc o).grownBy w3 v.ownBlock) : ShBox w w3 af ab nf cf nk cb :=
  h.keep (((Below.refl (w.heap.size + 1) wr).alloc h.size o).grown hg (by have := h.size; simp; omega) (fun k hk => (hown.lt k hk).1))

def ShortPost (es : List Ev) (w w' : World) (e : Ending) : Prop :=
  ∃ v, e = .returned v ∧ w'.ownsRow w.heap.size 57 3 v (norm es).length (recsC (norm es)) ∧ Below w.heap.size w w'

set_option maxRecDepth 100000 in
set_option maxHeartbeats 4000000 in
theorem short_calls (B : Nat) (vf vb : Value) (es : List Ev) (w : World) (tw : Twin B w vf vb (evF 0 es) (evK es)) (hA : evA es ≤ 4096) (hB : evB es ≤ 4096) :
    Calls Try.prog 61 #[.agg #[vf, vb]] w fun e w' => ShortPost es w w' e := by
  obtain ⟨i0, hi, hz0, hz1, hz2⟩ := info_parts Try.info57
  obtain ⟨af, cf, hvf⟩ := own_form tw.f
  obtain ⟨ab, cb, hvb⟩ := own_form tw.k
  subst hvf hvb
  have hF := ints_own tw.f
  have hK := ints_own tw.k
  have hst := ShAt.start es
  have hlf : (evF 0 es).length ≤ 4096 := by rw [evF_len]; exact hB
  have hlk : (evK es).length ≤ 4096 := by rw [evK_len]; exact hA
  have hnm : (norm es).length ≤ 8192 := by have := norm_count es; omega
  unfold ShortPost
  clear tw hA hB
  generalize evF 0 es = F at *
  generalize evK es = K at *
  generalize norm es = all at *
  go_enter Try.func61, Try.ntmps61
  go_wp2
  go_loopw [3, 4, 5] (fun v x y wr => ∃ (a b : Nat) (L : List M.Rec) (bs : List Blk), x = .int .i64 a ∧ y = .int .i64 b ∧ Hid (ShAt F K L all bs a b) ∧ wr.ownsRow (w.heap.size + 1) 57 3 v L.length (recsC L) ∧ ShBox w wr af ab F.length cf K.length cb) (fun _ x y _ => (K.length - (intOf x).toNat) + (F.length - (intOf y).toNat))
  case atStart =>
    refine ⟨0, 0, [], _, rfl, rfl, hst, World.ownsRow_nil _ _ _ _, ?_, ?_, ?_, ?_⟩
    · simp [go_sem]
    · simp [go_sem]
    · exact (Below.refl _ _).alloc (Nat.le_refl _) _
    · simp
  case round =>
    obtain ⟨a, b, L, bs, rfl, rfl, HS, hown, hbox⟩ := hrel
    obtain ⟨x0, x1, B0, hz⟩ := hbox
    cases bs with
    | nil =>
      obtain ⟨ea, eb, eL⟩ := HS.out.fin
      have h1 : ¬ (a : Int) < (K.length : Int) := by omega
      have h2 : ¬ (b : Int) < (F.length : Int) := by omega
      clear ea eb
      subst eL
      go_wp2
      go_ret
      exact ⟨_, rfl, ownsRow_base hown (by omega), B0⟩
    | cons blk bs =>
      have HR : Hid (ShRound F K L all blk bs a b) := HS.out.round
      have hab : a ≤ K.length ∧ b ≤ F.length := ⟨HS.out.ha, HS.out.hb⟩
      have hLl : L.length + 3 ≤ 8195 := by have h := congrArg List.length HS.out.out; rw [List.length_append] at h; omega
      have hLd : (L ++ rDrop blk.d).length ≤ 8192 ∧ (L ++ rDrop blk.d ++ rRest blk.s).length ≤ 8192 := by
        have h := congrArg List.length HS.out.out
        simp only [outBs, outB, List.length_append] at h ⊢
        omega
      clear HS
      go_upto_region 4 with fail
      go_cut [20] (fun t wx => t = .bool true ∧ wx = wr)
      case first =>
        by_cases h1 : a < K.length
        · have h11 : (a : Int) < (K.length : Int) := by omega
          go_wp2
          go_meet
          exact ⟨rfl, rfl⟩
        · have h11 : ¬ (a : Int) < (K.length : Int) := by omega
          have h2 : (b : Int) < (F.length : Int) := by
            have r1 := HR.out.la
            have r2 := HR.out.lb
            have r3 : 0 < blk.d := by
              rcases HR.out.some with h | h | h
              · exact h
              · have := List.length_pos_iff.2 h; omega
              · omega
            omega
          go_wp2
          go_meet
          exact ⟨rfl, rfl⟩
      case rest =>
        obtain ⟨rfl, rfl⟩ := hcut
        have hld : b + blk.d ≤ F.length := by have := HR.out.lb; omega
        have hlm : a + blk.s.length + blk.m ≤ K.length := HR.out.la
        go_wp2
        go_loop [5, 6] (fun y n => ∃ t : Nat, t ≤ blk.d ∧ y = .int .i64 (b + t : Nat) ∧ n = .int .i64 t) (fun _ n => blk.d - (intOf n).toNat)
        case atStart => exact ⟨0, Nat.zero_le _, rfl, rfl⟩
        case round =>
          obtain ⟨t, ht, rfl, rfl⟩ := hrel
          by_cases htd : t < blk.d
          · obtain ⟨hi, hv⟩ := HR.out.drops t htd
            have hno : F ≠ [] := fun h => by rw [h] at hi; simp at hi
            obtain ⟨g, hg, hgw, hgc⟩ := hF.cells.resolve_left hno
            have d0 := (B0.cell (by exact hgw)).trans (hgc _ hi)
            rw [hv] at d0
            have hi1 : ((b + t : Nat) : Int) < (F.length : Int) := by omega
            subst hg
            go_wp2
            go_round
            case rel => exact ⟨t + 1, by omega, by go_num, by go_num⟩
            case measure => simp [intOf]; omega
          · obtain rfl : t = blk.d := by omega
            have HX : Hid (b + blk.d < F.length → ∃ g q, af = some ⟨g, 0, none⟩ ∧ wc.cell? ⟨g, b + blk.d, none⟩ = some (.int .i64 q) ∧ 0 ≤ q) := fun hi => by
              have hno : F ≠ [] := fun h => by rw [h] at hi; simp at hi
              obtain ⟨g, hg, hgw, hgc⟩ := hF.cells.resolve_left hno
              exact ⟨g, _, hg, (B0.cell (by exact hgw)).trans (hgc _ hi), HR.out.dend hi⟩
            go_upto_region 6 with fail
            go_cut [33] (fun t wx => t = .bool false ∧ wx = wc)
            case first =>
              by_cases hi : b + blk.d < F.length
              · obtain ⟨g, q, hg, d0, hq⟩ := HX.out hi
                have hi1 : ((b + blk.d : Nat) : Int) < (F.length : Int) := by omega
                have hq1 : ¬ q < 0 := by omega
                subst hg
                go_wp2
                go_meet
                exact ⟨rfl, rfl⟩
              · have hi1 : ¬ ((b + blk.d : Nat) : Int) < (F.length : Int) := by omega
                go_wp2
                go_meet
                exact ⟨rfl, rfl⟩
            case rest =>
              obtain ⟨rfl, rfl⟩ := hcut
              clear HX
              go_upto_if 39 with fail
              go_cut [3] (fun v wx => wx.ownsRow (w.heap.size + 1) 57 3 v (L ++ rDrop blk.d).length (recsC (L ++ rDrop blk.d)) ∧ ShBox w wx af ab F.length cf K.length cb)
              case first =>
                have hbox : ShBox w wc af ab F.length cf K.length cb := ⟨x0, x1, B0, hz⟩
                by_cases hd : blk.d = 0
                · have hd1 : ¬ (0 : Int) < (blk.d : Int) := by omega
                  have HD : Hid (blk.d = 0) := hd
                  clear hd
                  go_wp2
                  go_meet
                  exact ⟨by simpa [rDrop, HD.out] using hown, hbox⟩
                · have hd1 : (0 : Int) < (blk.d : Int) := by omega
                  go_wp2_with (first
                    | (at_builtin; refine wpList_append_own _ rfl (.tmp 40) (.tmp 43) 22 rfl (w.heap.size + 1) 57 i0 (.agg #[.int .i64 0, .int .i64 0, .string ⟨#[]⟩]) 3 32 Try.underlying22 hi hz0 hz1 hz2 rfl (by decide) _ _ _ rfl (hown.alloc _) ⟨wc.heap.size, 0, none⟩ 1 1 (recC ⟨1, (blk.d : Int), ⟨#[]⟩⟩) rfl rfl ?k1 ?k2 ?k3 ?k4 ?k5 ?_)
                    | go_in)
                  case k1 => exact fun j u h => h
                  case k2 => exact recC_one _
                  case k3 => unfold maxLen; omega
                  case k4 => omega
                  case k5 => first | omega | (simp; omega)
                  intro v' w3 hown3 hgrow _
                  have hb3 := box_grow hbox hown hgrow
                  rw [← recsC_snoc] at hown3
                  obtain ⟨y0, y1, B3, hz3⟩ := hb3
                  go_wp2
                  go_meet
                  exact ⟨by rw [rDrop_pos hd, List.length_append]; exact hown3, y0, y1, B3, hz3⟩
              case rest =>
                clear hown x0 x1 B0 hz
                obtain ⟨hown, x0, x1, B0, hz⟩ := hcut
                generalize hL1 : L ++ rDrop blk.d = L1 at *
                go_wp2
                go_loopw [4, 7] (fun x z wx => ∃ (t : Nat) (st : ByteArray), t ≤ blk.s.length ∧ x = .int .i64 (a + t : Nat) ∧ z = .string st ∧ Hid (st.data.toList = blk.s.take t) ∧ Below wc.heap.size wc wx) (fun x _ _ => K.length - (intOf x).toNat)
                case atStart => exact ⟨0, ⟨#[]⟩, Nat.zero_le _, rfl, rfl, rfl, Below.refl _ _⟩
                case round =>
                  obtain ⟨t, st, ht, rfl, rfl, HT, hbx⟩ := hrel
                  have hsz : st.size ≤ 4096 := by
                    have h := congrArg List.length HT.out
                    rw [ba_len, List.length_take] at h
                    omega
                  have hown2 := ownsRow_below hown hbx
                  have hbx2 := ShBox.keep (wc := wr) ⟨x0, x1, B0, hz⟩ (hbx.mono hz)
                  obtain ⟨y0, y1, B1, hz1'⟩ := hbx2
                  by_cases htd : t < blk.s.length
                  · obtain ⟨hi', hv⟩ := HR.out.rests t htd
                    have hno : K ≠ [] := fun h => by rw [h] at hi'; simp at hi'
                    obtain ⟨g, hg, hgw, hgc⟩ := hK.cells.resolve_left hno
                    have d0 := (B1.cell (by exact hgw)).trans (hgc _ hi')
                    rw [hv] at d0
                    have hi1 : ((a + t : Nat) : Int) < (K.length : Int) := by omega
                    obtain ⟨tt, htt, hr⟩ := conv_one (blk.s[t].toNat : Int)
                    have hr2 := hr wr
                    clear hr
                    have hts : tt.size = 1 := by rw [← ba_len, htt]; rfl
                    have hss : st.size + tt.size ≤ 9223372036854775807 := by omega
                    have HT2 : Hid ((st ++ tt).data.toList = blk.s.take (t + 1)) := by
                      show _ = _
                      rw [ba_append, htt, HT.out, List.take_succ_eq_append_getElem htd]
                      simp
                    have hc : blk.s[t].toNat < 256 := blk.s[t].toNat_lt
                    have hc1 : (0 : Int) ≤ (blk.s[t].toNat : Int) := by omega
                    clear htt hts
                    subst hg
                    generalize blk.s[t].toNat = cc at *
                    go_wp2
                    go_roundw
                    case rel => exact ⟨t + 1, st ++ tt, by omega, by go_num, rfl, HT2, hbx.alloc hbx.size _⟩
                    case measure => simp [intOf]; omega
                  · obtain rfl : t = blk.s.length := by omega
                    have HT2 : Hid (st.data.toList = blk.s) := by show _ = _; rw [HT.out, List.take_length]
                    have HX : Hid (a + blk.s.length < K.length → ∃ g, ab = some ⟨g, 0, none⟩ ∧ wr.cell? ⟨g, a + blk.s.length, none⟩ = some (.int .i64 (-1))) := fun hi => by
                      have hno : K ≠ [] := fun h => by rw [h] at hi; simp at hi
                      obtain ⟨g, hg, hgw, hgc⟩ := hK.cells.resolve_left hno
                      have d0 := (B1.cell (by exact hgw)).trans (hgc _ hi)
                      rw [HR.out.rend hi] at d0
                      exact ⟨g, hg, d0⟩
                    clear HT hown x0 x1 B0 hz hbx
                    go_upto_region 12 with fail
                    go_cut [57] (fun t wx => t = .bool false ∧ wx = wr)
                    case first =>
                      by_cases hi : a + blk.s.length < K.length
                      · obtain ⟨g, hg, d0⟩ := HX.out hi
                        have hi1 : ((a + blk.s.length : Nat) : Int) < (K.length : Int) := by omega
                        subst hg
                        go_wp2
                        go_meet
                        exact ⟨rfl, rfl⟩
                      · have hi1 : ¬ ((a + blk.s.length : Nat) : Int) < (K.length : Int) := by omega
                        go_wp2
                        go_meet
                        exact ⟨rfl, rfl⟩
                    case rest =>
                      obtain ⟨rfl, rfl⟩ := hcut
                      clear HX
                      go_upto_if 71 with fail
                      go_cut [3] (fun v wx => wx.ownsRow (w.heap.size + 1) 57 3 v (L1 ++ rRest blk.s).length (recsC (L1 ++ rRest blk.s)) ∧ ShBox w wx af ab F.length cf K.length cb)
                      case first =>
                        have hbox : ShBox w wc af ab F.length cf K.length cb := ⟨y0, y1, B1, hz1'⟩
                        cases hse : st.toList.isEmpty
                        case true =>
                          have hd : blk.s = [] := by
                            have h := HT2.out
                            rw [ByteArray.toList_eq, List.isEmpty_iff] at hse
                            rw [← h, hse]
                          have HD : Hid (blk.s = []) := hd
                          clear hd
                          go_wp2
                          go_meet
                          exact ⟨by simpa [rRest, HD.out] using hown2, hbox⟩
                        case false =>
                          have hd : blk.s ≠ [] := by
                            have h := HT2.out
                            rw [ByteArray.toList_eq] at hse
                            rw [← h]
                            intro e
                            rw [e] at hse
                            cases hse
                          go_wp2_with (first
                            | (at_builtin; refine wpList_append_own _ rfl (.tmp 72) (.tmp 77) 22 rfl (w.heap.size + 1) 57 i0 (.agg #[.int .i64 0, .int .i64 0, .string ⟨#[]⟩]) 3 32 Try.underlying22 hi hz0 hz1 hz2 rfl (by decide) _ _ _ rfl (hown2.alloc _) ⟨wc.heap.size, 0, none⟩ 1 1 (recC ⟨2, (st.size : Int), st⟩) rfl rfl ?k1 ?k2 ?k3 ?k4 ?k5 ?_)
                            | go_in)
                          case k1 => first | exact fun j u h => h | exact recC_at wc ⟨2, (st.size : Int), st⟩ _
                          case k2 => exact recC_one _
                          case k3 => unfold maxLen; omega
                          case k4 => omega
                          case k5 => first | omega | (simp; omega)
                          intro v' w3 hown3 hgrow _
                          have hb3 := box_grow hbox hown2 hgrow
                          rw [← recsC_snoc] at hown3
                          obtain ⟨z0, z1, B3, hz3⟩ := hb3
                          go_wp2
                          go_meet
                          exact ⟨by rw [rRest_pos hd HT2.out, List.length_append]; exact hown3, z0, z1, B3, hz3⟩
                      case rest =>
                        clear hown2 y0 y1 B1 hz1'
                        obtain ⟨hown, x0, x1, B0, hz⟩ := hcut
                        generalize hL2 : L1 ++ rRest blk.s = L2 at *
                        have hlf2 : b + blk.d + blk.m ≤ F.length := HR.out.lb
                        go_wp2
                        go_loop [4, 5, 8] (fun x y k => ∃ t : Nat, t ≤ blk.m ∧ x = .int .i64 (a + blk.s.length + t : Nat) ∧ y = .int .i64 (b + blk.d + t : Nat) ∧ k = .int .i64 t) (fun _ _ k => blk.m - (intOf k).toNat)
                        case atStart => exact ⟨0, Nat.zero_le _, rfl, rfl, rfl⟩
                        case round =>
                          obtain ⟨t, ht, rfl, rfl, rfl⟩ := hrel
                          by_cases htd : t < blk.m
                          · obtain ⟨hk', hi', hv⟩ := HR.out.keeps t htd
                            have hno : F ≠ [] := fun h => by rw [h] at hi'; simp at hi'
                            obtain ⟨g, hg, hgw, hgc⟩ := hF.cells.resolve_left hno
                            have d0 := (B0.cell (by exact hgw)).trans (hgc _ hi')
                            rw [hv] at d0
                            have hi1 : ((a + blk.s.length + t : Nat) : Int) < (K.length : Int) := by omega
                            have hi2 : ((b + blk.d + t : Nat) : Int) < (F.length : Int) := by omega
                            subst hg
                            clear hv
                            go_wp2
                            go_round
                            case rel => exact ⟨t + 1, by omega, by go_num, by go_num, by go_num⟩
                            case measure => simp [intOf]; omega
                          · obtain rfl : t = blk.m := by omega
                            have HX : Hid (b + blk.d + blk.m < F.length → ∃ g q, af = some ⟨g, 0, none⟩ ∧ wc.cell? ⟨g, b + blk.d + blk.m, none⟩ = some (.int .i64 q) ∧ (q == ((a + blk.s.length + blk.m : Nat) : Int)) = false) := fun hi => by
                              have hno : F ≠ [] := fun h => by rw [h] at hi; simp at hi
                              obtain ⟨g, hg, hgw, hgc⟩ := hF.cells.resolve_left hno
                              exact ⟨g, _, hg, (B0.cell (by exact hgw)).trans (hgc _ hi), by simpa using HR.out.kend hi⟩
                            go_upto_region 18 with fail
                            go_cut [99] (fun t wx => t = .bool false ∧ wx = wc)
                            case first =>
                              by_cases hj : a + blk.s.length + blk.m < K.length
                              · have hj1 : ((a + blk.s.length + blk.m : Nat) : Int) < (K.length : Int) := by omega
                                by_cases hi : b + blk.d + blk.m < F.length
                                · obtain ⟨g, q, hg, d0, hq⟩ := HX.out hi
                                  have hi1 : ((b + blk.d + blk.m : Nat) : Int) < (F.length : Int) := by omega
                                  subst hg
                                  generalize hxx : ((a + blk.s.length + blk.m : Nat) : Int) = xx at *
                                  go_wp2
                                  go_meet
                                  exact ⟨rfl, rfl⟩
                                · have hi1 : ¬ ((b + blk.d + blk.m : Nat) : Int) < (F.length : Int) := by omega
                                  go_wp2
                                  go_meet
                                  exact ⟨rfl, rfl⟩
                              · have hj1 : ¬ ((a + blk.s.length + blk.m : Nat) : Int) < (K.length : Int) := by omega
                                go_wp2
                                go_meet
                                exact ⟨rfl, rfl⟩
                            case rest =>
                              obtain ⟨rfl, rfl⟩ := hcut
                              clear HX
                              go_upto_if 107 with fail
                              go_cut [3] (fun v wx => wx.ownsRow (w.heap.size + 1) 57 3 v (L2 ++ rKeep blk.m).length (recsC (L2 ++ rKeep blk.m)) ∧ ShBox w wx af ab F.length cf K.length cb)
                              case first =>
                                have hbox : ShBox w wc af ab F.length cf K.length cb := ⟨x0, x1, B0, hz⟩
                                by_cases hd : blk.m = 0
                                · have hd1 : ¬ (0 : Int) < (blk.m : Int) := by omega
                                  have HD : Hid (blk.m = 0) := hd
                                  clear hd
                                  go_wp2
                                  go_meet
                                  exact ⟨by simpa [rKeep, HD.out] using hown, hbox⟩
                                · have hd1 : (0 : Int) < (blk.m : Int) := by omega
                                  go_wp2_with (first
                                    | (at_builtin; refine wpList_append_own _ rfl (.tmp 108) (.tmp 111) 22 rfl (w.heap.size + 1) 57 i0 (.agg #[.int .i64 0, .int .i64 0, .string ⟨#[]⟩]) 3 32 Try.underlying22 hi hz0 hz1 hz2 rfl (by decide) _ _ _ rfl (hown.alloc _) ⟨wc.heap.size, 0, none⟩ 1 1 (recC ⟨0, (blk.m : Int), ⟨#[]⟩⟩) rfl rfl ?k1 ?k2 ?k3 ?k4 ?k5 ?_)
                                    | go_in)
                                  case k1 => first | exact fun j u h => h | exact recC_at wc ⟨0, (blk.m : Int), ⟨#[]⟩⟩ _
                                  case k2 => exact recC_one _
                                  case k3 => unfold maxLen; omega
                                  case k4 => omega
                                  case k5 => first | omega | (simp; omega)
                                  intro v' w3 hown3 hgrow _
                                  have hb3 := box_grow hbox hown hgrow
                                  rw [← recsC_snoc] at hown3
                                  obtain ⟨y0, y1, B3, hz3⟩ := hb3
                                  go_wp2
                                  go_meet
                                  exact ⟨by rw [rKeep_pos hd, List.length_append]; exact hown3, y0, y1, B3, hz3⟩
                              case rest =>
                                clear hown x0 x1 B0 hz
                                obtain ⟨hown, hbox⟩ := hcut
                                go_upto_region 24 with fail
                                go_cut [122] (fun t wx => t = .bool false ∧ wx = wc)
                                case first =>
                                  by_cases hd : blk.d = 0
                                  · have hd1 : ((blk.d : Int) == 0) = true := by simp [hd]
                                    cases hse : st.toList.isEmpty
                                    case true =>
                                      have hm1 : ((blk.m : Int) == 0) = false := by
                                        have hs0 : blk.s = [] := by
                                          have h := HT2.out
                                          rw [ByteArray.toList_eq, List.isEmpty_iff] at hse
                                          rw [← h, hse]
                                        rcases HR.out.some with h | h | h
                                        · omega
                                        · exact absurd hs0 h
                                        · simp; omega
                                      clear hd
                                      have hse2 : (st.toList == []) = true := by simpa using hse
                                      go_wp2
                                      go_meet
                                      exact ⟨rfl, rfl⟩
                                    case false =>
                                      clear hd
                                      have hse2 : (st.toList == []) = false := by cases h : st.toList with
                                        | nil => rw [h] at hse; simp at hse
                                        | cons x y => rfl
                                      go_wp2
                                      go_meet
                                      exact ⟨rfl, rfl⟩
                                  · have hd1 : ((blk.d : Int) == 0) = false := by simp; omega
                                    go_wp2
                                    go_meet
                                    exact ⟨rfl, rfl⟩
                                case rest =>
                                  obtain ⟨rfl, rfl⟩ := hcut
                                  have HN : Hid (ShAt F K (L2 ++ rKeep blk.m) all bs (a + blk.s.length + blk.m) (b + blk.d + blk.m)) := by
                                    have h := HR.out.next
                                    show ShAt _ _ _ _ _ _ _
                                    rw [← hL2, ← hL1]
                                    simpa only [List.append_assoc] using h
                                  have hsome : 0 < blk.s.length + blk.m + (blk.d + blk.m) := by
                                    rcases HR.out.some with h | h | h
                                    · omega
                                    · have := List.length_pos_iff.2 h; omega
                                    · omega
                                  go_wp2
                                  go_roundw
                                  case rel => exact ⟨a + blk.s.length + blk.m, b + blk.d + blk.m, _, bs, rfl, rfl, HN, hown, hbox⟩
                                  case measure => simp [intOf]; omega
end Go.Proofs.Ytlppphmnegdhoaa
