import Derived.Test.YtlppphmnegdhoabGreatDoorRows
import Derived.WalkKit
import Derived.WalkSpells
import Derived.WalkLawsBesides
import Derived.Laws.BitsLemmas
import Derived.Lib.ItoaNum
import Derived.Deep.QuietTactic
import Derived.BigQuiet
import Derived.Lib.Strings
import Derived.Laws.BytesArg
import Derived.Deep.MidRow
import Derived.Deep.WholeRow
import Derived.Laws.ResultCell
import Derived.Deep.CutBlock
import Derived.Deep.DeepCutAuto
import Derived.Deep.RegionHeld3
import Derived.Deep.DrawnRows
import Derived.Deep.AppendLies
import Derived.Deep.RegionLaw
import Derived.Great.BuildSlice
import Derived.Laws.AppendOwnNone
import Derived.Laws.OwnMore
import Derived.Lib.AppendStr
import Derived.Deep.RegionWith
import Derived.Test.YtlppphmnegdhoabGreatDoorMa5
namespace Go.Proofs.YtlppphmnegdhoabGreatDoor
set_option linter.unusedVariables false
set_option maxRecDepth 100000
open Go.RowKit
open M

/-- a substitution in memory -/
def SbAt (w : World) (vs : List Value) (s : Sbs) : Prop := ∃ a c a' c', vs = [.bool s.ex.head, .bool s.ex.tail, .slice a s.ex.l.length c, .slice a' s.rep.length c', .int .i64 (s.count : Nat), .bool s.all, .bool s.prt] ∧ ExOk w a s.ex.l ∧ RpOk w a' s.rep
theorem SbAt.below {w w' : World} {vs : List Value} {s : Sbs} (h : SbAt w vs s) (hb : Below w.heap.size w w') : SbAt w' vs s := by
  obtain ⟨a, c, a', c', h1, h2, h3⟩ := h
  exact ⟨a, c, a', c', h1, h2.below hb, h3.below hb⟩
def SpOk (w : World) (a : Option Addr) (L : List (Nat × Nat)) : Prop := ∀ k (h : k < L.length), ∃ g, a = some ⟨g, 0, none⟩ ∧ g < w.heap.size ∧ w.rangeAt g (k * 2) [.int .i64 (L[k].1 : Nat), .int .i64 (L[k].2 : Nat)]
theorem SpOk.below {w w' : World} {a : Option Addr} {L : List (Nat × Nat)} (h : SpOk w a L) (hb : Below w.heap.size w w') : SpOk w' a L := fun k hk => by
  obtain ⟨g, h1, h2, h3⟩ := h k hk
  exact ⟨g, h1, by have := hb.size; omega, fun j u hu => (World.cell?_of_block (hb.block g h2)).trans (h3 j u hu)⟩
theorem spC_at (L : List (Nat × Nat)) : ∀ i (h : i < L.length), (spC L)[i * 2]? = some (.int .i64 (L[i].1 : Nat)) ∧ (spC L)[i * 2 + 1]? = some (.int .i64 (L[i].2 : Nat)) := by
  induction L with
  | nil => intro i h; simp at h
  | cons c L ih =>
    intro i h
    have hc : spC (c :: L) = .int .i64 (c.1 : Nat) :: .int .i64 (c.2 : Nat) :: spC L := rfl
    cases i with
    | zero => exact ⟨rfl, rfl⟩
    | succ i =>
      have := ih i (by simpa using h)
      rw [hc, show (i + 1) * 2 = i * 2 + 2 by omega]
      simpa using this
theorem SpOk.own {w : World} {B : Nat} {a : Option Addr} {n c : Nat} {L : List (Nat × Nat)} (h : w.ownsRow B 294 2 (.slice a n c) n (spC L)) (hn : L.length = n) : SpOk w a L := fun k hk => by
  obtain ⟨g, hg⟩ : ∃ g, a = some ⟨g, 0, none⟩ := by
    rcases h.2 with ⟨_, hz⟩ | ⟨g, cap, cur, hv, _⟩
    · omega
    · simp at hv; exact ⟨g, hv.1⟩
  subst hg
  obtain ⟨c0, c1⟩ := spC_at L k hk
  have e0 := h.cells rfl _ _ c0
  have e1 := h.cells rfl _ _ c1
  rw [Addr.add_mid, Nat.zero_add] at e0 e1
  refine ⟨g, rfl, (h.lt g rfl).2, fun j u hu => ?_⟩
  match j, hu with
  | 0, hu => simp at hu; rw [← hu]; simpa using e0
  | 1, hu => simp at hu; rw [← hu]; exact e1
  | j + 2, hu => simp at hu
theorem rtSb7 : RowT 144 7 := ⟨⟨_, Tryz.underlying144, rfl⟩, by kernel_rfl⟩
theorem rtSp : RowT 294 2 := ⟨⟨_, Tryz.underlying294, rfl⟩, by kernel_rfl⟩
theorem repl_cons (l : List Cl) (s : Sbs) (m : Nat × Nat) (ms : List (Nat × Nat)) (k b : Nat) : replC l s (m :: ms) k b = if isRep s k then partC l b m.1 ++ fillC s.rep (partC l m.1 m.2) ++ replC l s ms (k + 1) m.2 else replC l s ms (k + 1) b := rfl
theorem own_apart {w : World} {B : Nat} {v v' : Value} {e : TypeId} {sz n : Nat} {xs : List Value} {M : Nat} (h : w.ownsRow B e sz v n xs) (h' : ∀ k, v'.ownBlock = some k → k < M) (hM : M ≤ B) : v.ownBlock = none ∨ v.ownBlock ≠ v'.ownBlock := by
  cases ho : v.ownBlock with
  | none => exact .inl rfl
  | some k => exact .inr (fun e => by have h1 := (h.lt k ho).1; have h2 := h' k e.symm; omega)
theorem isRep_eq (s : Sbs) (k : Nat) : isRep s k = true ↔ (k = s.count ∨ (s.count < k ∧ s.all = true)) := by
  unfold isRep
  simp
set_option maxRecDepth 100000 in
set_option maxHeartbeats 4000000 in
theorem replaced_calls (vl : Value) (l : List Cl) (vs : List Value) (s : Sbs) (a : Option Addr) (c : Nat) (ms : List (Nat × Nat)) (w : World) (hsl : SlAt w vl l) (hll : l.length ≤ 256) (hsb : SbAt w vs s) (hrp : s.rep.length ≤ 400) (hct : s.count ≤ 9) (hsp : SpOk w a ms) (hms : ms.length ≤ 600) (hok : MsOk l.length 0 ms) :
    Calls Tryz.prog 248 #[vl, .agg vs.toArray, .slice a ms.length c] w fun e w' => ClPost (replC l s ms 1 0) w e w' := by
  obtain ⟨ai, ci, ar, cr, rfl, _, hrr⟩ := hsb
  have HRR : Hid (RpOk w ar s.rep) := hrr
  have HSL : Hid (SlAt w vl l) := hsl
  have HSP : Hid (SpOk w a ms) := hsp
  have HOK : Hid (MsOk l.length 0 ms) := hok
  obtain ⟨al, cl, rfl, _⟩ := hsl.form
  obtain ⟨N, hN⟩ : ∃ N, l.length = N := ⟨_, rfl⟩
  obtain ⟨n, hn⟩ : ∃ n, ms.length = n := ⟨_, rfl⟩
  have HN : Hid (l.length = N) := hN
  have HNM : Hid (ms.length = n) := hn
  rw [hN] at hll HSL HOK ⊢
  rw [hn] at hms ⊢
  generalize hVS : ([.bool s.ex.head, .bool s.ex.tail, .slice ai s.ex.l.length ci, .slice ar s.rep.length cr, .int .i64 (s.count : Nat), .bool s.all, .bool s.prt] : List Value) = VS
  have hbx : CB (w.alloc (.cells VS.toArray 144)) w.heap.size VS := CB.new w _ VS.toArray (by rw [← hVS]; simp [Value.oneCell'])
  have B0 : Below w.heap.size w (w.alloc (.cells VS.toArray 144)) := (Below.refl _ _).alloc (Nat.le_refl _) _
  subst hVS
  clear hsl hsp hok hrr hN hn
  have HR0 : Hid (replC l s ms 1 0 = [] ++ replC l s (ms.drop 0) (0 + 1) 0) := by show _ = _; rw [List.drop_zero]; rfl
  go_enter Tryz.func248, Tryz.ntmps248
  go_wp2_with fail
  go_loopw [7, 8, 18] (fun v7 v8 v18 wr => ∃ (i bh q : Nat) (R : List Cl), v18 = .int .i64 i ∧ v8 = .int .i64 bh ∧ i ≤ n ∧ bh ≤ N ∧ Hid (replC l s ms 1 0 = R ++ replC l s (ms.drop i) (i + 1) bh) ∧ Hid (MsOk N bh (ms.drop i)) ∧ Hid (R.length = q) ∧ q ≤ i * 200000 ∧ wr.ownsRow (w.heap.size + 1) 230 2 v7 q (clC R) ∧ CB wr w.heap.size [.bool s.ex.head, .bool s.ex.tail, .slice ai s.ex.l.length ci, .slice ar s.rep.length cr, .int .i64 (s.count : Nat), .bool s.all, .bool s.prt] ∧ Below w.heap.size w wr) (fun _ _ v18 _ => n - (intOf v18).toNat)
  case atStart => exact ⟨0, 0, 0, [], rfl, rfl, Nat.zero_le _, Nat.zero_le _, HR0, by show MsOk _ _ _; rw [List.drop_zero]; exact HOK.out, rfl, Nat.zero_le _, World.ownsRow_nil _ _ _ _, hbx, B0⟩
  case round =>
    clear hbx B0 HR0
    obtain ⟨i, bh, q, R, rfl, rfl, hi, hbN, HR, HMO, HQ, hq, hown, hbx, hB⟩ := hrel
    obtain ⟨av, cv, hvv⟩ := own_form hown
    subst hvv
    have hwb := hB.size
    have hwl := hbx.lt
    by_cases hlt : i < n
    · have hlt1 : (i : Int) < (n : Int) := by omega
      have h0 : (0 : Int) ≤ (i : Int) := by omega
      have hiL : i < ms.length := by rw [HNM.out]; exact hlt
      obtain ⟨g, rfl, hg, hr⟩ := (HSP.out.below hB) i hiL
      have hdr := List.drop_eq_getElem_cons hiL
      have HR2 := HR.out
      rw [hdr, repl_cons] at HR2
      have HM2 := HMO.out
      rw [hdr] at HM2
      obtain ⟨m1, m2, m3, m4⟩ := HM2
      have HM4 : Hid (MsOk N ms[i].2 (ms.drop (i + 1))) := m4
      obtain ⟨mf, hmf⟩ : ∃ k, ms[i].1 = k := ⟨_, rfl⟩
      obtain ⟨mt, hmt⟩ : ∃ k, ms[i].2 = k := ⟨_, rfl⟩
      rw [hmf] at hr HR2 m1 m2
      rw [hmt] at hr HR2 m2 m3 HM4
      have hb1 : CB (wr.alloc (.cells #[.int .i64 (mf : Nat), .int .i64 (mt : Nat)] 294)) wr.heap.size [.int .i64 (mf : Nat), .int .i64 (mt : Nat)] := CB.new wr _ #[.int .i64 (mf : Nat), .int .i64 (mt : Nat)] (by simp [Value.oneCell'])
      have BA : Below wr.heap.size wr (wr.alloc (.cells #[.int .i64 (mf : Nat), .int .i64 (mt : Nat)] 294)) := (Below.refl _ _).alloc (Nat.le_refl _) _
      have hown1 := ownsRow_below hown BA
      have hbx1 := hbx.below BA hbx.lt
      have hB1 := hB.trans (BA.mono hwb)
      have hsz1 : wr.heap.size + 1 ≤ (wr.alloc (.cells #[.int .i64 (mf : Nat), .int .i64 (mt : Nat)] 294)).heap.size := by simp
      have d4 := hbx1.c 4 _ rfl
      have d5 := hbx1.c 5 _ rfl
      have d3 := hbx1.c 3 _ rfl
      have e0 := hb1.c 0 _ rfl
      have e1 := hb1.c 1 _ rfl
      have l1 := hb1.lt
      have hwl1 := hbx1.lt
      have HOV : Hid (∀ k, (Value.slice av q cv).ownBlock = some k → w.heap.size + 1 ≤ k ∧ k < wr.heap.size) := fun k hk => hown.lt k hk
      clear hmf hmt hdr HMO HR m4 hown hbx hB
      have HQ2 : Hid (q ≤ (i + 1) * 200000) := Nat.le_trans hq (Nat.mul_le_mul_right _ (Nat.le_succ _))
      have hq9 : q ≤ 200000000 := Nat.le_trans hq (Nat.mul_le_mul (show i ≤ 1000 by omega) (Nat.le_refl _))
      have HQ3 : Hid (q + 110300 ≤ (i + 1) * 200000) := by show _ ≤ _; rw [Nat.add_mul]; exact Nat.add_le_add hq (by decide)
      clear hq
      cases hrep : isRep s (i + 1)
      · rw [hrep, if_neg (by decide)] at HR2
        have HR3 : Hid (replC l s ms 1 0 = R ++ replC l s (ms.drop (i + 1)) (i + 1 + 1) bh) := HR2
        have hor : ¬ ((i : Int) + 1 = (s.count : Int)) ∧ (¬ ((s.count : Int) < (i : Int) + 1) ∨ ((s.count : Int) < (i : Int) + 1 ∧ s.all = false)) := by
          have h9 : ¬ (i + 1 = s.count ∨ (s.count < i + 1 ∧ s.all = true)) := fun h => by rw [(isRep_eq s (i + 1)).2 h] at hrep; cases hrep
          refine ⟨fun h => h9 (.inl (by omega)), ?_⟩
          by_cases h8 : (s.count : Int) < (i : Int) + 1
          · refine .inr ⟨h8, ?_⟩
            cases ha : s.all
            · rfl
            · exact absurd (.inr ⟨by omega, ha⟩) h9
          · exact .inl h8
        have HMO2 : Hid (MsOk N bh (ms.drop (i + 1))) := HM4.out.mono (by omega)
        obtain ⟨hq1, hor⟩ := hor
        have hq2 : (((i : Int) + 1) == ((s.count : Nat) : Int)) = false := by rw [beq_eq_false_iff_ne]; exact hq1
        clear hrep HR2 hq1
        rcases hor with hc1 | ⟨hc1, hall⟩
        · go_wp2_with (refine rg_load rtSp hr rfl rfl _ rfl rfl ?_)
          go_roundw
          case rel => exact ⟨i + 1, bh, q, R, by go_num, rfl, by omega, hbN, HR3, HMO2, HQ, HQ2.out, hown1, hbx1, hB1⟩
          case measure => first | (simp [intOf]; done) | (simp [intOf]; omega)
        · rw [hall] at d5
          clear hall
          go_wp2_with (refine rg_load rtSp hr rfl rfl _ rfl rfl ?_)
          go_roundw
          case rel => exact ⟨i + 1, bh, q, R, by go_num, rfl, by omega, hbN, HR3, HMO2, HQ, HQ2.out, hown1, hbx1, hB1⟩
          case measure => first | (simp [intOf]; done) | (simp [intOf]; omega)
      · rw [hrep, if_pos rfl] at HR2
        have hor : ((i : Int) + 1 = (s.count : Int)) ∨ (¬ ((i : Int) + 1 = (s.count : Int)) ∧ (s.count : Int) < (i : Int) + 1 ∧ s.all = true) := by
          rcases (isRep_eq s (i + 1)).1 hrep with h | ⟨h1, h2⟩
          · exact .inl (by omega)
          · exact .inr ⟨by omega, by omega, h2⟩
        have HR3 : Hid (replC l s ms 1 0 = (R ++ partC l bh mf ++ fillC s.rep (partC l mf mt)) ++ replC l s (ms.drop (i + 1)) (i + 1 + 1) mt) := by show _ = _; rw [HR2]; simp
        have HP1 : Hid ((partC l bh mf).length = mf - bh) := part_len l bh mf m1 (by rw [HN.out]; omega)
        have HP2 : Hid ((partC l mf mt).length = mt - mf) := part_len l mf mt m2 (by rw [HN.out]; omega)
        have HP3 : Hid ((fillC s.rep (partC l mf mt)).length ≤ 110000) := by
          show _ ≤ _
          refine Nat.le_trans (fill_len _ _) ?_
          rw [HP2.out]
          exact Nat.le_trans (Nat.mul_le_mul hrp (show mt - mf + 1 ≤ 257 by omega)) (by decide)
        have hs1 := HSL.out.below hB1
        have HRR1 : Hid (RpOk (wr.alloc (.cells #[.int .i64 (mf : Nat), .int .i64 (mt : Nat)] 294)) ar s.rep) := HRR.out.below hB1
        have hovb := HOV.out
        have HALL := hor
        clear hrep HR2 hor
        rcases HALL with hq1 | ⟨hq1, hq3, hall⟩
        · have hq2 : (((i : Int) + 1) == ((s.count : Nat) : Int)) = true := by rw [beq_iff_eq]; exact hq1
          clear hq1
          go_wp2_with (refine rg_load rtSp hr rfl rfl _ rfl rfl ?_)
          generalize wr.alloc (.cells #[.int .i64 (mf : Nat), .int .i64 (mt : Nat)] 294) = W1 at *
          refine (part_calls _ l bh mf _ hs1 m1 (by rw [HN.out]; omega) (by rw [HN.out]; omega)).mono ?_
          rintro e wx ⟨hwx, v3, rfl, s3, _⟩
          rw [hwx]
          clear hwx
          obtain ⟨a3, c3, hv3, _⟩ := s3.form
          rw [HP1.out] at hv3
          subst hv3
          go_wp2_with fail
          refine (part_calls _ l mf mt _ hs1 m2 (by rw [HN.out]; omega) (by rw [HN.out]; omega)).mono ?_
          rintro e wx ⟨hwx, v4, rfl, s4, _⟩
          rw [hwx]
          clear hwx
          go_wp2_with fail
          refine (filledIn_calls ar cr s.rep v4 (partC l mf mt) _ HRR1.out hrp s4 (by rw [HP2.out]; omega)).mono ?_
          rintro e w5 ⟨v5, rfl, hown5, B5⟩
          have hownR := ownsRow_below hown1 B5
          have s35 := s3.below B5
          have hbx5 := hbx1.below B5 hbx1.lt
          have hb5 := hb1.below B5 hb1.lt
          have hB5 := hB1.trans (B5.mono (by omega))
          have hs5 := B5.size
          obtain ⟨nf, hnf⟩ : ∃ k, (fillC s.rep (partC l mf mt)).length = k := ⟨_, rfl⟩
          have HNF : Hid ((fillC s.rep (partC l mf mt)).length = nf) := hnf
          have hnf2 : nf ≤ 110000 := by rw [← hnf]; exact HP3.out
          rw [hnf] at hown5
          obtain ⟨a5, c5, hv5⟩ := own_form hown5
          subst hv5
          clear hnf
          go_wp2_with (first
            | (refine cl_append_at hownR s35 (by rw [HP1.out]; omega) (by omega) rfl (.tmp 54) (.tmp 55) rfl rfl rfl ?_
               intro v6 w6 hown6 hg6 hat6
               have hfar : (Value.slice a5 nf c5).ownBlock = none ∨ (Value.slice a5 nf c5).ownBlock ≠ (Value.slice av q cv).ownBlock := own_apart hown5 (fun k hk => (hovb k hk).2) (by omega)
               have hown56 := hown5.kept hg6 hfar
               rw [← HNF.out] at hown56
               have s56 := SlAt.own hown56
               rw [HNF.out] at s56
               have hB6 : Below (w.heap.size + 1) w5 w6 := grown_below hg6 (by omega) (fun k hk => (hovb k hk).1)
               have hs6 := hg6.size
               have hnb6 : ∀ k, v6.ownBlock = some k → w.heap.size + 1 ≤ k ∧ k ≠ wr.heap.size := fun k hk => by
                 rcases hat6 with e | e
                 · rw [e] at hk; have := hovb k hk; omega
                 · rw [e] at hk; simp at hk; omega
               have hb6 : CB w6 wr.heap.size [.int .i64 (mf : Nat), .int .i64 (mt : Nat)] := hb5.keep (hg6.block _ (by omega) (fun e => by have := (hovb _ e.symm).2; omega)) (by omega)
               obtain ⟨a6, c6, hv6⟩ := own_form hown6
               subst hv6
               clear hg6 hat6 hown56 hfar)
            | (refine cl_append_at hown6 s56 (by rw [HNF.out, HP1.out]; omega) (by omega) rfl (.tmp 57) (.tmp 58) rfl rfl rfl ?_
               intro v7 w7 hown7 hg7 hat7
               have hB7 : Below (w.heap.size + 1) w6 w7 := grown_below hg7 (by omega) (fun k hk => (hnb6 k hk).1)
               have hs7 := hg7.size
               have hb7 : CB w7 wr.heap.size [.int .i64 (mf : Nat), .int .i64 (mt : Nat)] := hb6.keep (hg7.block _ (by omega) (fun e => (hnb6 _ e.symm).2 rfl)) (by omega)
               have f1 := hb7.c 1 _ rfl
               have fl := hb7.lt
               obtain ⟨a7, c7, hv7⟩ := own_form hown7
               subst hv7
               clear hg7 hat7))
          go_roundw
          case rel =>
            refine ⟨i + 1, mt, q + (partC l bh mf).length + (fillC s.rep (partC l mf mt)).length, R ++ partC l bh mf ++ fillC s.rep (partC l mf mt), by go_num, rfl, by omega, by omega, HR3, HM4, ?_, ?_, ?_, ?_, ?_⟩
            · show _ = _; rw [List.length_append, List.length_append, HQ.out]
            · rw [HP1.out, HNF.out]; have := HQ3.out; omega
            · rw [clC_app, clC_app]; exact hown7
            · exact (hbx5.below hB6 (by omega)).below hB7 (by omega)
            · exact (hB5.trans (hB6.mono (by omega))).trans (hB7.mono (by omega))
          case measure => first | (simp [intOf]; done) | (simp [intOf]; omega)
        · have hq2 : (((i : Int) + 1) == ((s.count : Nat) : Int)) = false := by rw [beq_eq_false_iff_ne]; exact hq1
          rw [hall] at d5
          clear hall
          clear hq1
          go_wp2_with (refine rg_load rtSp hr rfl rfl _ rfl rfl ?_)
          generalize wr.alloc (.cells #[.int .i64 (mf : Nat), .int .i64 (mt : Nat)] 294) = W1 at *
          refine (part_calls _ l bh mf _ hs1 m1 (by rw [HN.out]; omega) (by rw [HN.out]; omega)).mono ?_
          rintro e wx ⟨hwx, v3, rfl, s3, _⟩
          rw [hwx]
          clear hwx
          obtain ⟨a3, c3, hv3, _⟩ := s3.form
          rw [HP1.out] at hv3
          subst hv3
          go_wp2_with fail
          refine (part_calls _ l mf mt _ hs1 m2 (by rw [HN.out]; omega) (by rw [HN.out]; omega)).mono ?_
          rintro e wx ⟨hwx, v4, rfl, s4, _⟩
          rw [hwx]
          clear hwx
          go_wp2_with fail
          refine (filledIn_calls ar cr s.rep v4 (partC l mf mt) _ HRR1.out hrp s4 (by rw [HP2.out]; omega)).mono ?_
          rintro e w5 ⟨v5, rfl, hown5, B5⟩
          have hownR := ownsRow_below hown1 B5
          have s35 := s3.below B5
          have hbx5 := hbx1.below B5 hbx1.lt
          have hb5 := hb1.below B5 hb1.lt
          have hB5 := hB1.trans (B5.mono (by omega))
          have hs5 := B5.size
          obtain ⟨nf, hnf⟩ : ∃ k, (fillC s.rep (partC l mf mt)).length = k := ⟨_, rfl⟩
          have HNF : Hid ((fillC s.rep (partC l mf mt)).length = nf) := hnf
          have hnf2 : nf ≤ 110000 := by rw [← hnf]; exact HP3.out
          rw [hnf] at hown5
          obtain ⟨a5, c5, hv5⟩ := own_form hown5
          subst hv5
          clear hnf
          go_wp2_with (first
            | (refine cl_append_at hownR s35 (by rw [HP1.out]; omega) (by omega) rfl (.tmp 54) (.tmp 55) rfl rfl rfl ?_
               intro v6 w6 hown6 hg6 hat6
               have hfar : (Value.slice a5 nf c5).ownBlock = none ∨ (Value.slice a5 nf c5).ownBlock ≠ (Value.slice av q cv).ownBlock := own_apart hown5 (fun k hk => (hovb k hk).2) (by omega)
               have hown56 := hown5.kept hg6 hfar
               rw [← HNF.out] at hown56
               have s56 := SlAt.own hown56
               rw [HNF.out] at s56
               have hB6 : Below (w.heap.size + 1) w5 w6 := grown_below hg6 (by omega) (fun k hk => (hovb k hk).1)
               have hs6 := hg6.size
               have hnb6 : ∀ k, v6.ownBlock = some k → w.heap.size + 1 ≤ k ∧ k ≠ wr.heap.size := fun k hk => by
                 rcases hat6 with e | e
                 · rw [e] at hk; have := hovb k hk; omega
                 · rw [e] at hk; simp at hk; omega
               have hb6 : CB w6 wr.heap.size [.int .i64 (mf : Nat), .int .i64 (mt : Nat)] := hb5.keep (hg6.block _ (by omega) (fun e => by have := (hovb _ e.symm).2; omega)) (by omega)
               obtain ⟨a6, c6, hv6⟩ := own_form hown6
               subst hv6
               clear hg6 hat6 hown56 hfar)
            | (refine cl_append_at hown6 s56 (by rw [HNF.out, HP1.out]; omega) (by omega) rfl (.tmp 57) (.tmp 58) rfl rfl rfl ?_
               intro v7 w7 hown7 hg7 hat7
               have hB7 : Below (w.heap.size + 1) w6 w7 := grown_below hg7 (by omega) (fun k hk => (hnb6 k hk).1)
               have hs7 := hg7.size
               have hb7 : CB w7 wr.heap.size [.int .i64 (mf : Nat), .int .i64 (mt : Nat)] := hb6.keep (hg7.block _ (by omega) (fun e => (hnb6 _ e.symm).2 rfl)) (by omega)
               have f1 := hb7.c 1 _ rfl
               have fl := hb7.lt
               obtain ⟨a7, c7, hv7⟩ := own_form hown7
               subst hv7
               clear hg7 hat7))
          go_roundw
          case rel =>
            refine ⟨i + 1, mt, q + (partC l bh mf).length + (fillC s.rep (partC l mf mt)).length, R ++ partC l bh mf ++ fillC s.rep (partC l mf mt), by go_num, rfl, by omega, by omega, HR3, HM4, ?_, ?_, ?_, ?_, ?_⟩
            · show _ = _; rw [List.length_append, List.length_append, HQ.out]
            · rw [HP1.out, HNF.out]; have := HQ3.out; omega
            · rw [clC_app, clC_app]; exact hown7
            · exact (hbx5.below hB6 (by omega)).below hB7 (by omega)
            · exact (hB5.trans (hB6.mono (by omega))).trans (hB7.mono (by omega))
          case measure => first | (simp [intOf]; done) | (simp [intOf]; omega)
    · obtain rfl : i = n := by omega
      have hlt1 : ¬ (i : Int) < (i : Int) := by omega
      have HF : Hid (replC l s ms 1 0 = R ++ partC l bh N) := by
        show _ = _
        rw [HR.out, List.drop_of_length_le (by rw [HNM.out]; exact Nat.le_refl _)]
        congr 1
        show l.drop bh = partC l bh N
        unfold partC
        rw [List.take_of_length_le (by rw [List.length_drop, HN.out]; exact Nat.le_refl _)]
      have HP1 : Hid ((partC l bh N).length = N - bh) := part_len l bh N hbN (by rw [HN.out]; exact Nat.le_refl _)
      have hs1 := HSL.out.below hB
      have hq9 : q ≤ 200000000 := Nat.le_trans hq (Nat.mul_le_mul (show i ≤ 1000 by omega) (Nat.le_refl _))
      clear HR HMO hq
      go_wp2_with fail
      refine (part_calls _ l bh N _ hs1 hbN (by rw [HN.out]; exact Nat.le_refl _) (by rw [HN.out]; omega)).mono ?_
      rintro e wx ⟨hwx, v3, rfl, s3, _⟩
      rw [hwx]
      clear hwx
      obtain ⟨a3, c3, hv3, _⟩ := s3.form
      rw [HP1.out] at hv3
      subst hv3
      go_wp2_with (refine cl_append hown s3 (by rw [HP1.out]; omega) (by omega) rfl (.tmp 68) (.tmp 69) rfl rfl rfl ?_
                   intro v6 w6 hown6 hg6
                   have hB6 : Below w.heap.size wr w6 := grown_below hg6 (by omega) (fun k hk => by have := (hown.lt k hk).1; omega)
                   obtain ⟨a6, c6, hv6⟩ := own_form hown6
                   subst hv6
                   clear hg6)
      go_ret
      refine ⟨_, rfl, ?_, hB.trans hB6⟩
      rw [HF.out, List.length_append, HQ.out, clC_app]
      exact ownsRow_base hown6 (by omega)
end Go.Proofs.YtlppphmnegdhoabGreatDoor

namespace Go.Proofs.YtlppphmnegdhoabGreatDoor
set_option linter.unusedVariables false
set_option maxRecDepth 100000
open Go.RowKit
open M

/-- bounds of a result -/
theorem repl_len (l : List Cl) (s : Sbs) (hl : l.length ≤ 256) (hr : s.rep.length ≤ 400) : ∀ (ms : List (Nat × Nat)) (k b : Nat), (replC l s ms k b).length ≤ 256 + ms.length * 110000 := by
  intro ms
  induction ms with
  | nil => intro k b; show (l.drop b).length ≤ _; rw [List.length_drop]; omega
  | cons m ms ih =>
    intro k b
    rw [repl_cons, List.length_cons]
    split
    · rw [List.length_append, List.length_append]
      have h1 := ih (k + 1) m.2
      have h2 := fill_len s.rep (partC l m.1 m.2)
      have h3 : (partC l m.1 m.2).length ≤ 256 := by unfold partC; rw [List.length_take, List.length_drop]; omega
      have h4 : (partC l b m.1).length ≤ 256 := by unfold partC; rw [List.length_take, List.length_drop]; omega
      have h5 : (fillC s.rep (partC l m.1 m.2)).length ≤ 102800 := Nat.le_trans h2 (Nat.le_trans (Nat.mul_le_mul hr (show (partC l m.1 m.2).length + 1 ≤ 257 by omega)) (by decide))
      rw [Nat.add_mul, Nat.one_mul]
      generalize ms.length * 110000 = z at *
      clear h2
      omega
    · have h1 := ih (k + 1) b
      rw [Nat.add_mul, Nat.one_mul]
      generalize ms.length * 110000 = z at *
      omega
set_option maxRecDepth 100000 in
set_option maxHeartbeats 4000000 in
theorem substitute_calls (P : Value → World → Prop) (b : Nat) (tl : List Value) (V : RV) (S : St) (vs : List Value) (s : Sbs) (w : World) (h : RunAt P b tl V S w) (hw : WF S) (hsb : SbAt w vs s) (hil : s.ex.l.length ≤ 400) (hrp : s.rep.length ≤ 400) (hct : s.count ≤ 9) :
    Calls Tryz.prog 240 #[.pointer (some ⟨b, 0, none⟩), .agg vs.toArray] w fun e w' => VPost P b tl V (S.subst s) w e w' := by
  have HSU : Hid (S.subst s = if (mtsX s.ex (textC S.pat)).length < s.count then S else if S.fits (replC S.pat s (mtsX s.ex (textC S.pat)) 1 0).length then (if s.prt then ({ S with pat := replC S.pat s (mtsX s.ex (textC S.pat)) 1 0, mark := true } : St).putPat else { S with pat := replC S.pat s (mtsX s.ex (textC S.pat)) 1 0, mark := true }) else S.die 5) := rfl
  have HSB : Hid (SbAt w vs s) := hsb
  obtain ⟨ai, ci, ar, cr, rfl, hex, hrr⟩ := hsb
  have HEX : Hid (ExOk w ai s.ex.l) := hex
  have hpa := hw.pa
  have B0 : Below w.heap.size w (w.alloc (.cells #[.bool s.ex.head, .bool s.ex.tail, .slice ai s.ex.l.length ci, .slice ar s.rep.length cr, .int .i64 (s.count : Nat), .bool s.all, .bool s.prt] 144)) := (Below.refl _ _).alloc (Nat.le_refl _) _
  have hbx : CB (w.alloc (.cells #[.bool s.ex.head, .bool s.ex.tail, .slice ai s.ex.l.length ci, .slice ar s.rep.length cr, .int .i64 (s.count : Nat), .bool s.all, .bool s.prt] 144)) w.heap.size [.bool s.ex.head, .bool s.ex.tail, .slice ai s.ex.l.length ci, .slice ar s.rep.length cr, .int .i64 (s.count : Nat), .bool s.all, .bool s.prt] := CB.new w _ #[.bool s.ex.head, .bool s.ex.tail, .slice ai s.ex.l.length ci, .slice ar s.rep.length cr, .int .i64 (s.count : Nat), .bool s.all, .bool s.prt] (by simp [Value.oneCell'])
  have h1 := h.below B0
  have hbl := h.box.lt
  have hbl1 := h1.box.lt
  have c10 := h1.cell 10 _ rfl
  have hsl := h1.pat.out
  obtain ⟨ap, cp, hvp, _⟩ := hsl.form
  rw [hvp] at c10 hsl
  have HSL : Hid (SlAt (w.alloc (.cells #[.bool s.ex.head, .bool s.ex.tail, .slice ai s.ex.l.length ci, .slice ar s.rep.length cr, .int .i64 (s.count : Nat), .bool s.all, .bool s.prt] 144)) (.slice ap S.pat.length cp) S.pat) := hsl
  have HH : Hid (RunAt P b tl V S w) := h
  obtain ⟨n, hn⟩ : ∃ n, S.pat.length = n := ⟨_, rfl⟩
  have HN : Hid (S.pat.length = n) := hn
  rw [hn] at c10 HSL hpa
  clear hsl hvp h h1 hex hrr hn
  go_enter Tryz.func240, Tryz.ntmps240
  go_wp2_with fail
  refine (textOf_calls _ S.pat _ HSL.out (by rw [HN.out]; omega)).mono ?_
  rintro e w2 ⟨rfl, B2⟩
  have hbx2 := hbx.below B2 hbx.lt
  have BB2 := B0.trans (B2.mono (by simp))
  go_wp2_with (refine cb_load rtEx3 hbx2 (o := 0) rfl rfl rfl _ rfl rfl ?_)
  refine (matches_calls s.ex.head s.ex.tail ai ci s.ex.l (baC S.pat) w2 (by rw [baC_size, HN.out]; exact hpa) (by omega) (HEX.out.below BB2)).mono ?_
  rintro e w3 ⟨v3, rfl, hown3, hml, B3⟩
  have hown3' : w3.ownsRow w2.heap.size 294 2 v3 (mtsX s.ex (textC S.pat)).length (spC (mtsX s.ex (textC S.pat))) := hown3
  have hml' : (mtsX s.ex (textC S.pat)).length ≤ 600 := hml
  have HOK : Hid (MsOk n 0 (mtsX s.ex (textC S.pat))) := by
    show MsOk _ _ _
    have := mtsX_ok s.ex (textC S.pat)
    have e9 : (textC S.pat).length = n := by rw [← HN.out]; simp [textC]
    rw [e9] at this; exact this
  have BB3 := BB2.trans (B3.mono BB2.size)
  have hbx3 := hbx2.below B3 hbx2.lt
  obtain ⟨a3, c3, hv3⟩ := own_form hown3'
  subst hv3
  have HSP : Hid (SpOk w3 a3 (mtsX s.ex (textC S.pat))) := SpOk.own hown3' rfl
  have HR3 : Hid (RunAt P b tl V S w3) := HH.out.below BB3
  have hb3 := HR3.out.box.lt
  have e4 := hbx3.c 4 _ rfl
  have lb3 := hbx3.lt
  generalize mtsX s.ex (textC S.pat) = MS at *
  obtain ⟨m, hm⟩ : ∃ m, MS.length = m := ⟨_, rfl⟩
  have HM : Hid (MS.length = m) := hm
  rw [hm] at hml' ⊢
  clear hown3 hown3' hml hm hbx2 hbx c10 B2 B3
  by_cases hlt : m < s.count
  · have hlt1 : (m : Int) < ((s.count : Nat) : Int) := by omega
    have HF : Hid (S.subst s = S) := by show _ = _; rw [HSU.out, HM.out, if_pos hlt]
    clear HSU
    go_wp2
    refine bodyPost_ret (results_none rfl _ _ _) rfl ?_
    exact ⟨rfl, by rw [HF.out]; exact ⟨V, rfl, HR3.out, .of_below BB3⟩⟩
  · have hlt1 : ¬ (m : Int) < ((s.count : Nat) : Int) := by omega
    have HS2 : Hid (S.subst s = if S.fits (replC S.pat s MS 1 0).length then (if s.prt then ({ S with pat := replC S.pat s MS 1 0, mark := true } : St).putPat else { S with pat := replC S.pat s MS 1 0, mark := true }) else S.die 5) := by show _ = _; rw [HSU.out, HM.out, if_neg hlt]
    have c10 := HR3.out.cell 10 _ rfl
    have hsl := HR3.out.pat.out
    obtain ⟨aq, cq, hvp, _⟩ := hsl.form
    rw [hvp] at c10 hsl
    rw [HN.out] at c10 hsl
    have d0 := hbx3.c 0 _ rfl
    have d1 := hbx3.c 1 _ rfl
    have d2 := hbx3.c 2 _ rfl
    have d3 := hbx3.c 3 _ rfl
    have d5 := hbx3.c 5 _ rfl
    have d6 := hbx3.c 6 _ rfl
    have hsb3 := (HSB.out.below BB3).below ((Below.refl w3.heap.size w3).drew)
    have hsp3 := HSP.out.below ((Below.refl w3.heap.size w3).drew)
    have hsl3 := hsl.drew
    have HRC := replaced_calls (.slice aq n cq) S.pat _ s a3 c3 MS w3.drew hsl3 (by rw [HN.out]; exact hpa) hsb3 hrp hct hsp3 (by rw [HM.out]; exact hml') (by rw [HN.out]; exact HOK.out)
    rw [HM.out] at HRC
    have HRL : Hid ((replC S.pat s MS 1 0).length ≤ 1000000000) := by
      show _ ≤ _
      refine Nat.le_trans (repl_len S.pat s (by rw [HN.out]; exact hpa) hrp MS 1 0) ?_
      rw [HM.out]
      exact Nat.le_trans (Nat.add_le_add_left (Nat.mul_le_mul_right _ hml') _) (by decide)
    clear HSU hsl hvp hsl3 hsb3 hsp3
    go_wp2_with fail
    go_region_held3 (fun w' => w'.cell? ⟨b, 10, none⟩ = some (.slice aq n cq) ∧ w'.cell? ⟨w.heap.size, 0, none⟩ = some (.bool s.ex.head) ∧ w'.cell? ⟨w.heap.size, 1, none⟩ = some (.bool s.ex.tail) ∧ w'.cell? ⟨w.heap.size, 2, none⟩ = some (.slice ai s.ex.l.length ci) ∧ w'.cell? ⟨w.heap.size, 3, none⟩ = some (.slice ar s.rep.length cr) ∧ w'.cell? ⟨w.heap.size, 4, none⟩ = some (.int .i64 (s.count : Nat)) ∧ w'.cell? ⟨w.heap.size, 5, none⟩ = some (.bool s.all) ∧ w'.cell? ⟨w.heap.size, 6, none⟩ = some (.bool s.prt) ∧ b < w'.heap.size ∧ w.heap.size < w'.heap.size)
      (first
        | go_keep
        | (go_split_ands
           refine ⟨?_, ?_, ?_, ?_, ?_, ?_, ?_, ?_, ?_, ?_⟩
           · (rw [hb1.cell (by assumption)]; assumption)
           · (rw [hb1.cell (by assumption)]; assumption)
           · (rw [hb1.cell (by assumption)]; assumption)
           · (rw [hb1.cell (by assumption)]; assumption)
           · (rw [hb1.cell (by assumption)]; assumption)
           · (rw [hb1.cell (by assumption)]; assumption)
           · (rw [hb1.cell (by assumption)]; assumption)
           · (rw [hb1.cell (by assumption)]; assumption)
           · (have := hb1.size; omega)
           · (have := hb1.size; omega)))
      (first
        | (go_at_call 248; refine HRC.mono ?_; rintro e w8 ⟨v8, rfl, hown8, hb1⟩; have B8 := hb1))
    have BB8 : Below w3.heap.size w3 w8 := below2 (Below.refl w3.heap.size w3).drew B8
    have hR8 := HR3.out.below BB8
    have hbx8 := hbx3.below BB8 hbx3.lt
    have hst8 : Stab (foot b V) w8 (fun w => SlAt w v8 (replC S.pat s MS 1 0)) := stab_new hown8 (fun k hk => foot_lt HR3.out k hk)
    have HF8 : Hid (Rf (foot b V) (foot b V) w w8) := (Rf.of_below BB3).trans (.of_below BB8)
    have hnf : ¬ foot b V w.heap.size := fun hf => by have := foot_lt HH.out _ hf; omega
    have HORG : Hid (Bnds (replC S.pat s MS 1 0)) := WF.repl s hw.op MS 1 0
    obtain ⟨R, hR⟩ : ∃ R, replC S.pat s MS 1 0 = R := ⟨_, rfl⟩
    rw [hR] at HORG
    rw [hR] at hown8 hst8 HS2 HRL
    obtain ⟨rl, hrl⟩ : ∃ k, R.length = k := ⟨_, rfl⟩
    have HRLE : Hid (R.length = rl) := hrl
    rw [hrl] at HRL HS2 hown8
    obtain ⟨a8, c8, hv8⟩ := own_form hown8
    subst hv8
    clear hown8 hR hrl HRC HSP HOK d0 d1 d2 d3 d5 d6 e4 c10 B8 hb1
    go_wp2_with fail
    refine (rfits_calls P b tl V S rl w8 hR8 hw.rm HRL.out).mono ?_
    rintro e w9 ⟨rfl, V9, hs9, hR9, hF9⟩
    have hst9 := hst8.fr hF9
    cases hft : S.fits rl
    · rw [hft, if_neg (by decide)] at hR9
      have HF : Hid (RPost P b tl V (S.subst s) w w9) := by
        show RPost _ _ _ _ _ _ _
        rw [HS2.out, hft, if_neg (by decide)]
        exact ⟨V9, hs9, hR9, HF8.out.trans hF9⟩
      clear hft hR9 hF9 hst9 hst8
      go_wp2
      refine bodyPost_ret (results_none rfl _ _ _) rfl ?_
      exact ⟨rfl, HF.out⟩
    · rw [hft, if_pos rfl] at hR9
      have l9 := hR9.box.lt
      have f10 := hR9.fz 10 (by decide)
      have c10 := hR9.cell 10 _ rfl
      have f14 := hR9.fz 14 (by decide)
      have c14 := hR9.cell 14 _ rfl
      obtain ⟨V10, hs10, hR10, hF10⟩ := hR9.setPat _ _ hst9
      have hA := hR10.set 14 (by decide) (.bool true) rfl { S with pat := R, mark := true } rfl rfl rfl rfl rfl rfl
      have hF11 := HF8.out.trans (hF9.trans (hF10.trans (Rf.set V10 b 14 (.bool true) _)))
      have hbx9 := hbx8.keep (hF9.block _ hbx8.lt hnf) hF9.size
      have hnb : w.heap.size ≠ b := by omega
      have hbx11 := (hbx9.keep (w' := w9.setCell ⟨b, 10, none⟩ (.slice a8 rl c8)) (heap_setCell_other w9 _ _ _ hnb) (by simp)).keep (w' := (w9.setCell ⟨b, 10, none⟩ (.slice a8 rl c8)).setCell ⟨b, 14, none⟩ (.bool true)) (heap_setCell_other _ _ _ _ hnb) (by simp)
      have d6 := hbx11.c 6 _ rfl
      have l6 := hbx11.lt
      have HA : Hid (RunAt P b tl V10 { S with pat := R, mark := true } ((w9.setCell ⟨b, 10, none⟩ (.slice a8 rl c8)).setCell ⟨b, 14, none⟩ (.bool true))) := hA
      have HF11 : Hid (Rf (foot b V) (foot b V10) w ((w9.setCell ⟨b, 10, none⟩ (.slice a8 rl c8)).setCell ⟨b, 14, none⟩ (.bool true))) := hF11
      have HSC : Hid (V10.scr = V.scr) := hs10.trans hs9
      have hpR : R.length ≤ 256 := by
        rw [HRLE.out]
        have h1 := of_decide_eq_true hft
        have h2 := hw.rm
        omega
      have hwR : WF { S with pat := R, mark := true } := { hw with pa := hpR, op := HORG.out }
      rw [hft, if_pos rfl] at HS2
      clear hA hF11 hR10 hF10 hR9 hF9 hst9 hst8 hft hbx9 hbx8 hbx3 hR8 hs10 hs9
      cases hpr : s.prt
      · rw [hpr, if_neg (by decide)] at HS2
        rw [hpr] at d6
        have HF : Hid (RPost P b tl V (S.subst s) w ((w9.setCell ⟨b, 10, none⟩ (.slice a8 rl c8)).setCell ⟨b, 14, none⟩ (.bool true))) := by
          show RPost _ _ _ _ _ _ _
          rw [HS2.out]
          exact ⟨V10, HSC.out, HA.out, HF11.out⟩
        clear hpr hbx11
        go_wp2
        go_end0
        exact ⟨rfl, HF.out⟩
      · rw [hpr, if_pos rfl] at HS2
        rw [hpr] at d6
        clear hpr hbx11
        go_wp2_with fail
        refine (putPattern_calls P b tl V10 _ _ HA.out hwR).mono ?_
        rintro e w12 ⟨rfl, hr⟩
        have HF : Hid (RPost P b tl V (S.subst s) w w12) := by
          show RPost _ _ _ _ _ _ _
          rw [HS2.out]
          exact RPost.trans HSC.out HF11.out hr.toR
        clear hr
        go_wp2
        go_end0
        exact ⟨rfl, HF.out⟩
end Go.Proofs.YtlppphmnegdhoabGreatDoor

namespace Go.Proofs.YtlppphmnegdhoabGreatDoor
set_option linter.unusedVariables false
set_option maxRecDepth 100000
open Go.RowKit
open M

/-- the cells of a command -/
def cmV (c : Cm) (p1 : Option Addr) (q1 : Nat) (p2 : Option Addr) (q2 : Nat) (p3 : Option Addr) (q3 : Nat) (p4 : Option Addr) (q4 : Nat) : List Value :=
  [.int .i64 (c.cnt : Nat), .int .i64 (c.a1.kind : Nat), .int .i64 (c.a1.line : Nat), .bool c.a1.ex.head, .bool c.a1.ex.tail, .slice p1 c.a1.ex.l.length q1, .int .i64 (c.a2.kind : Nat), .int .i64 (c.a2.line : Nat), .bool c.a2.ex.head, .bool c.a2.ex.tail, .slice p2 c.a2.ex.l.length q2, .bool c.no, .int .u8 (c.name : Nat), .int .u8 (c.label : Nat), .int .i64 (c.next : Nat), .string c.text, .bool c.sub.ex.head, .bool c.sub.ex.tail, .slice p3 c.sub.ex.l.length q3, .slice p4 c.sub.rep.length q4, .int .i64 (c.sub.count : Nat), .bool c.sub.all, .bool c.sub.prt, .string c.frm, .string c.toF]
def CmAt (w : World) (vs : List Value) (c : Cm) : Prop := ∃ p1 q1 p2 q2 p3 q3 p4 q4, vs = cmV c p1 q1 p2 q2 p3 q3 p4 q4 ∧ ExOk w p1 c.a1.ex.l ∧ ExOk w p2 c.a2.ex.l ∧ ExOk w p3 c.sub.ex.l ∧ RpOk w p4 c.sub.rep
theorem CmAt.below {w w' : World} {vs : List Value} {c : Cm} (h : CmAt w vs c) (hb : Below w.heap.size w w') : CmAt w' vs c := by
  obtain ⟨p1, q1, p2, q2, p3, q3, p4, q4, h0, h1, h2, h3, h4⟩ := h
  exact ⟨p1, q1, p2, q2, p3, q3, p4, q4, h0, h1.below hb, h2.below hb, h3.below hb, h4.below hb⟩
theorem CmAt.len {w : World} {vs : List Value} {c : Cm} (h : CmAt w vs c) : vs.length = 25 := by
  obtain ⟨p1, q1, p2, q2, p3, q3, p4, q4, rfl, _⟩ := h; rfl
theorem CmAt.one {w : World} {vs : List Value} {c : Cm} (h : CmAt w vs c) : ∀ v ∈ vs, v.oneCell' = true := by
  obtain ⟨p1, q1, p2, q2, p3, q3, p4, q4, rfl, _⟩ := h
  simp [cmV, Value.oneCell']
theorem CmAt.cells {w : World} {vs : List Value} {c : Cm} (h : CmAt w vs c) : vs[12]? = some (.int .u8 (c.name : Nat)) ∧ vs[14]? = some (.int .i64 (c.next : Nat)) ∧ vs[15]? = some (.string c.text) ∧ vs[23]? = some (.string c.frm) ∧ vs[24]? = some (.string c.toF) ∧ SbAt w ((vs.drop 16).take 7) c.sub := by
  obtain ⟨p1, q1, p2, q2, p3, q3, p4, q4, rfl, h1, h2, h3, h4⟩ := h
  exact ⟨rfl, rfl, rfl, rfl, rfl, p3, q3, p4, q4, rfl, h3, h4⟩
theorem rtCm : RowT 148 25 := ⟨⟨_, Tryz.underlying148, rfl⟩, by kernel_rfl⟩
theorem rtEc : RowT 146 2 := ⟨⟨_, Tryz.underlying146, rfl⟩, by kernel_rfl⟩
/-- a value of many cells into a box of its own -/
theorem cb_box {ops : Array Oper} {rest : List Oper} {op : Oper} {a : Act} {w : World} {Q : Exit → Act → World → Prop} {T : TypeId} (hgd : op.guard = none) (x : Operand) (ho : op.op = .box T x) (vs : List Value) (hx : a.eval x = .agg vs.toArray) (h1 : ∀ v ∈ vs, v.oneCell' = true)
    (h : ∀ w', CB w' w.heap.size vs → Below w.heap.size w w' → w.heap.size + 1 ≤ w'.heap.size → wpList Tryz.prog ops Q rest (a.put op.dst (.pointer (some ⟨w.heap.size, 0, none⟩))) w') : wpList Tryz.prog ops Q (op :: rest) a w := by
  have hw := h (w.alloc (.cells vs.toArray T)) (CB.new w T vs.toArray h1) ((Below.refl _ _).alloc (Nat.le_refl _) _) (by simp)
  refine wpList_plain hgd fun _ hK => ?_
  unfold Oper.wp execOp
  have hc : (Value.agg vs.toArray).cells = vs.toArray := rfl
  have hr : (Instr.box T (Value.agg vs.toArray)).run Tryz.prog w = .ok (.pointer (some ⟨w.heap.size, 0, none⟩)) (w.alloc (.cells vs.toArray T)) := by
    simp [Instr.box, newVar, newRow, hc]
  simp only [ho, hx, Sem.run_bind, hr, Result.andThen_ok]
  exact hK _ _ hw
set_option maxRecDepth 100000 in
set_option maxHeartbeats 2000000 in
theorem dropFirst_calls (P : Value → World → Prop) (b : Nat) (tl : List Value) (V : RV) (S : St) (w : World) (h : RunAt P b tl V S w) (hw : WF S) :
    Calls Tryz.prog 242 #[.pointer (some ⟨b, 0, none⟩)] w fun e w' => VPost P b tl V S.dropFirst w e w' := by
  have c10 := h.cell 10 _ rfl
  have hbl := h.box.lt
  have HH : Hid (RunAt P b tl V S w) := h
  have hpa := hw.pa
  have hsl := h.pat.out
  obtain ⟨ap, cp, hvp, _⟩ := hsl.form
  rw [hvp] at c10 hsl
  have HSL : Hid (SlAt w (.slice ap S.pat.length cp) S.pat) := hsl
  have HVP : Hid (V.pat = .slice ap S.pat.length cp) := hvp
  have HQ : Hid (S.dropFirst = if behNL S.pat = 0 then S.endCycle else { ({ S with pat := partC S.pat (behNL S.pat) S.pat.length } : St).putQueue with next := 0 }) := rfl
  have HNL : Hid (behNL S.pat ≤ S.pat.length) := behNL_le _
  clear h hsl hvp
  go_enter Tryz.func242, Tryz.ntmps242
  go_wp2_with fail
  refine (behindNewline_calls _ S.pat w HSL.out (by omega)).mono ?_
  rintro e w1 ⟨rfl, B1⟩
  have h1 := HH.out.below B1
  have HH1 : Hid (RunAt P b tl V S w1) := h1
  have s1 := HSL.out.below B1
  have c101 := (B1.cell (by exact hbl)).trans c10
  have f101 := h1.fz 10 (by decide)
  have hbl1 := h1.box.lt
  clear h1 c10
  have hnl := HNL.out
  obtain ⟨k, hk⟩ : ∃ k, behNL S.pat = k := ⟨_, rfl⟩
  rw [hk] at hnl HQ ⊢
  clear hk
  by_cases h0 : k = 0
  · subst h0
    go_wp2_with fail
    refine (endCycle_calls P b tl V S w1 HH1.out hw).mono ?_
    rintro e w2 ⟨rfl, hr⟩
    have HR : Hid (RPost P b tl V S.dropFirst w w2) := by show RPost _ _ _ _ _ _ _; rw [HQ.out]; exact RPost.trans rfl (.of_below B1) hr
    clear hr
    go_wp2
    refine bodyPost_ret (results_none rfl _ _ _) rfl ?_
    exact ⟨rfl, HR.out⟩
  · have h01 : ((k : Int) == 0) = false := by simp; omega
    rw [if_neg h0] at HQ
    clear h0
    obtain ⟨n, hn⟩ : ∃ n, S.pat.length = n := ⟨_, rfl⟩
    have HN : Hid (S.pat.length = n) := hn
    rw [hn] at c101 hnl hpa s1 HQ
    have s1d := s1.drew
    have HPC := part_calls _ S.pat k n w1.drew s1d hnl (by rw [hn]; exact Nat.le_refl _) (by rw [hn]; omega)
    clear hn
    go_wp2_with fail
    go_region_with (first
        | (go_at_call 112; refine HPC.mono ?_; rintro e wx ⟨hwx, v3, rfl, s3, hblk⟩; rw [hwx]; clear hwx; obtain ⟨a3, c3, hv3, _⟩ := s3.form; subst hv3))
    all_goals
      have hst : Stab (foot b V) w1 (fun w => SlAt w (.slice a3 (partC S.pat k n).length c3) (partC S.pat k n)) := fun w' q1 q2 => hblk w' (by have h9 := HH1.out.pat w' q1 q2; rw [HVP.out, HN.out] at h9; exact h9)
      obtain ⟨V3, hs3, hR3, hF3⟩ := HH1.out.setPat _ _ hst
      have hR4 := hR3.below ((Below.refl _ _).drew)
      have HF4 : Hid (Rf (foot b V) (foot b V3) w (w1.setCell ⟨b, 10, none⟩ (.slice a3 (partC S.pat k n).length c3)).drew) := (Rf.of_below B1).trans (hF3.trans (.of_below ((Below.refl _ _).drew)))
      have HR4 : Hid (RunAt P b tl V3 { S with pat := partC S.pat k n } (w1.setCell ⟨b, 10, none⟩ (.slice a3 (partC S.pat k n).length c3)).drew) := hR4
      have hwP : WF { S with pat := partC S.pat k n } := { hw with pa := by show (partC S.pat k n).length ≤ 256; unfold partC; rw [List.length_take, List.length_drop]; have h9 := hw.pa; omega, op := hw.op.part k n }
      have HS3 : Hid (V3.scr = V.scr) := hs3
      generalize (w1.setCell ⟨b, 10, none⟩ (.slice a3 (partC S.pat k n).length c3)).drew = W4 at *
      clear hst hR3 hF3 hR4 hs3 s3 hblk HPC s1 s1d c101 f101
      go_wp2_with fail
      refine (putQueue_calls P b tl V3 _ W4 HR4.out hwP).mono ?_
      rintro e w5 ⟨rfl, V5, hs5, hR5, hF5⟩
      have l5 := hR5.box.lt
      have f15 := hR5.fz 15 (by decide)
      have c15 := hR5.cell 15 _ rfl
      have hA := hR5.set 15 (by decide) (.int .i64 0) rfl { ({ S with pat := partC S.pat k n } : St).putQueue with next := 0 } rfl rfl rfl rfl rfl rfl
      have HR : Hid (RPost P b tl V S.dropFirst w (w5.setCell ⟨b, 15, none⟩ (.int .i64 0))) := by
        show RPost _ _ _ _ _ _ _
        rw [HQ.out]
        exact ⟨V5, hs5.trans HS3.out, hA, HF4.out.trans (hF5.trans (Rf.set V5 b 15 _ w5))⟩
      clear hA hR5 hF5 hs5
      go_wp2
      go_end0
      exact ⟨rfl, HR.out⟩
set_option maxRecDepth 100000 in
set_option maxHeartbeats 4000000 in
theorem lead_calls (P : Value → World → Prop) (b : Nat) (tl : List Value) (V : RV) (S : St) (vs : List Value) (c : Cm) (w : World) (h : RunAt P b tl V S w) (hw : WF S) (hc : CmAt w vs c) (hk : CmOk c) (hn : c.name = 100 ∨ c.name = 68 ∨ c.name = 99 ∨ c.name = 110 ∨ c.name = 78 ∨ c.name = 113 ∨ c.name = 98 ∨ c.name = 116) :
    Calls Tryz.prog 220 #[.pointer (some ⟨b, 0, none⟩), .agg vs.toArray] w fun e w' => VPost P b tl V (S.lead c) w e w' := by
  have HC : Hid (CmAt w vs c) := hc
  have HONE : Hid (∀ v ∈ vs, v.oneCell' = true) := hc.one
  have HLEN : Hid (vs.length = 25) := hc.len
  obtain ⟨hnm, hnx, htx, _, _, _⟩ := hc.cells
  have HNM : Hid (vs[12]? = some (.int .u8 (c.name : Nat))) := hnm
  have HNX : Hid (vs[14]? = some (.int .i64 (c.next : Nat))) := hnx
  have HTX : Hid (vs[15]? = some (.string c.text)) := htx
  have HH : Hid (RunAt P b tl V S w) := h
  have hbl := h.box.lt
  have hnb := hk.nm
  have htb := hk.tx
  have hxb := hk.nx
  have HL : Hid (S.lead c = if c.name = 100 then S.endCycle else if c.name = 68 then S.dropFirst else if c.name = 99 then (S.putText c.text).endCycle else if c.name = 110 then { S with asks := 2 } else if c.name = 78 then { S with asks := 3 } else if c.name = 113 then S.endEarly else if c.name = 98 then { S with next := c.next } else if S.mark then { S with mark := false, next := c.next } else S) := rfl
  obtain ⟨nm, hnn⟩ : ∃ k, c.name = k := ⟨_, rfl⟩
  rw [hnn] at hn HNM HL hnb
  clear h hc hnm hnx htx hnn
  rcases hn with rfl | rfl | rfl | rfl | rfl | rfl | rfl | rfl
  · have HL : Hid (S.lead c = S.endCycle) := HL.out
    go_enter Tryz.func220, Tryz.ntmps220
    go_wp2_with (refine cb_box rfl _ rfl vs rfl HONE.out ?_
                 intro w1 hb1 B1 hs1
                 have h1 := HH.out.below B1
                 have HR1 : Hid (RunAt P b tl V S w1) := h1
                 have HF1 : Hid (Rf (foot b V) (foot b V) w w1) := .of_below B1
                 have HC1 : Hid (CmAt w1 vs c) := HC.out.below B1
                 have HB1 : Hid (CB w1 w.heap.size vs) := hb1
                 have d12 := hb1.c 12 _ HNM.out
                 have d14 := hb1.c 14 _ HNX.out
                 have d15 := hb1.c 15 _ HTX.out
                 have l1 := hb1.lt
                 have bl1 := h1.box.lt
                 have f14 := h1.fz 14 (by decide)
                 have f15 := h1.fz 15 (by decide)
                 have f16 := h1.fz 16 (by decide)
                 have c14 := h1.cell 14 _ rfl
                 have c15 := h1.cell 15 _ rfl
                 have c16 := h1.cell 16 _ rfl
                 clear hb1 h1)
    refine (endCycle_calls P b tl V S w1 HR1.out hw).mono ?_
    rintro e w2 ⟨rfl, hr⟩
    have HR : Hid (RPost P b tl V (S.lead c) w w2) := by show RPost _ _ _ _ _ _ _; rw [HL.out]; exact RPost.trans rfl HF1.out hr
    clear hr
    go_wp2
    go_end0
    exact ⟨rfl, HR.out⟩
  · have HL : Hid (S.lead c = S.dropFirst) := HL.out
    go_enter Tryz.func220, Tryz.ntmps220
    go_wp2_with (refine cb_box rfl _ rfl vs rfl HONE.out ?_
                 intro w1 hb1 B1 hs1
                 have h1 := HH.out.below B1
                 have HR1 : Hid (RunAt P b tl V S w1) := h1
                 have HF1 : Hid (Rf (foot b V) (foot b V) w w1) := .of_below B1
                 have HC1 : Hid (CmAt w1 vs c) := HC.out.below B1
                 have HB1 : Hid (CB w1 w.heap.size vs) := hb1
                 have d12 := hb1.c 12 _ HNM.out
                 have d14 := hb1.c 14 _ HNX.out
                 have d15 := hb1.c 15 _ HTX.out
                 have l1 := hb1.lt
                 have bl1 := h1.box.lt
                 have f14 := h1.fz 14 (by decide)
                 have f15 := h1.fz 15 (by decide)
                 have f16 := h1.fz 16 (by decide)
                 have c14 := h1.cell 14 _ rfl
                 have c15 := h1.cell 15 _ rfl
                 have c16 := h1.cell 16 _ rfl
                 clear hb1 h1)
    refine (dropFirst_calls P b tl V S w1 HR1.out hw).mono ?_
    rintro e w2 ⟨rfl, hr⟩
    have HR : Hid (RPost P b tl V (S.lead c) w w2) := by show RPost _ _ _ _ _ _ _; rw [HL.out]; exact RPost.trans rfl HF1.out hr
    clear hr
    go_wp2
    go_end0
    exact ⟨rfl, HR.out⟩
  · have HL : Hid (S.lead c = (S.putText c.text).endCycle) := HL.out
    go_enter Tryz.func220, Tryz.ntmps220
    go_wp2_with (refine cb_box rfl _ rfl vs rfl HONE.out ?_
                 intro w1 hb1 B1 hs1
                 have h1 := HH.out.below B1
                 have HR1 : Hid (RunAt P b tl V S w1) := h1
                 have HF1 : Hid (Rf (foot b V) (foot b V) w w1) := .of_below B1
                 have HC1 : Hid (CmAt w1 vs c) := HC.out.below B1
                 have HB1 : Hid (CB w1 w.heap.size vs) := hb1
                 have d12 := hb1.c 12 _ HNM.out
                 have d14 := hb1.c 14 _ HNX.out
                 have d15 := hb1.c 15 _ HTX.out
                 have l1 := hb1.lt
                 have bl1 := h1.box.lt
                 have f14 := h1.fz 14 (by decide)
                 have f15 := h1.fz 15 (by decide)
                 have f16 := h1.fz 16 (by decide)
                 have c14 := h1.cell 14 _ rfl
                 have c15 := h1.cell 15 _ rfl
                 have c16 := h1.cell 16 _ rfl
                 clear hb1 h1)
    refine (putText_calls P b tl V S c.text w1 HR1.out hw (by omega)).mono ?_
    rintro e w2 ⟨rfl, vo2, hR2, hF2⟩
    go_wp2_with fail
    refine (endCycle_calls P b tl (V.withOut vo2) (S.putText c.text) w2 hR2 (hw.putText _)).mono ?_
    rintro e w3 ⟨rfl, hr⟩
    have HR : Hid (RPost P b tl V (S.lead c) w w3) := by show RPost _ _ _ _ _ _ _; rw [HL.out]; exact RPost.trans (V1 := V.withOut vo2) rfl (HF1.out.trans hF2) hr
    clear hr
    go_wp2
    go_end0
    exact ⟨rfl, HR.out⟩
  · have HL : Hid (S.lead c = { S with asks := 2 }) := HL.out
    go_enter Tryz.func220, Tryz.ntmps220
    go_wp2_with (refine cb_box rfl _ rfl vs rfl HONE.out ?_
                 intro w1 hb1 B1 hs1
                 have h1 := HH.out.below B1
                 have HR1 : Hid (RunAt P b tl V S w1) := h1
                 have HF1 : Hid (Rf (foot b V) (foot b V) w w1) := .of_below B1
                 have HC1 : Hid (CmAt w1 vs c) := HC.out.below B1
                 have HB1 : Hid (CB w1 w.heap.size vs) := hb1
                 have d12 := hb1.c 12 _ HNM.out
                 have d14 := hb1.c 14 _ HNX.out
                 have d15 := hb1.c 15 _ HTX.out
                 have l1 := hb1.lt
                 have bl1 := h1.box.lt
                 have f14 := h1.fz 14 (by decide)
                 have f15 := h1.fz 15 (by decide)
                 have f16 := h1.fz 16 (by decide)
                 have c14 := h1.cell 14 _ rfl
                 have c15 := h1.cell 15 _ rfl
                 have c16 := h1.cell 16 _ rfl
                 clear hb1 h1)
    have hA := HR1.out.set 16 (by decide) (.int .i64 2) rfl { S with asks := 2 } rfl rfl rfl rfl rfl rfl
    go_end0
    exact ⟨rfl, by rw [HL.out]; exact ⟨V, rfl, hA, HF1.out.trans (Rf.set V b 16 _ _)⟩⟩
  · have HL : Hid (S.lead c = { S with asks := 3 }) := HL.out
    go_enter Tryz.func220, Tryz.ntmps220
    go_wp2_with (refine cb_box rfl _ rfl vs rfl HONE.out ?_
                 intro w1 hb1 B1 hs1
                 have h1 := HH.out.below B1
                 have HR1 : Hid (RunAt P b tl V S w1) := h1
                 have HF1 : Hid (Rf (foot b V) (foot b V) w w1) := .of_below B1
                 have HC1 : Hid (CmAt w1 vs c) := HC.out.below B1
                 have HB1 : Hid (CB w1 w.heap.size vs) := hb1
                 have d12 := hb1.c 12 _ HNM.out
                 have d14 := hb1.c 14 _ HNX.out
                 have d15 := hb1.c 15 _ HTX.out
                 have l1 := hb1.lt
                 have bl1 := h1.box.lt
                 have f14 := h1.fz 14 (by decide)
                 have f15 := h1.fz 15 (by decide)
                 have f16 := h1.fz 16 (by decide)
                 have c14 := h1.cell 14 _ rfl
                 have c15 := h1.cell 15 _ rfl
                 have c16 := h1.cell 16 _ rfl
                 clear hb1 h1)
    have hA := HR1.out.set 16 (by decide) (.int .i64 3) rfl { S with asks := 3 } rfl rfl rfl rfl rfl rfl
    go_end0
    exact ⟨rfl, by rw [HL.out]; exact ⟨V, rfl, hA, HF1.out.trans (Rf.set V b 16 _ _)⟩⟩
  · have HL : Hid (S.lead c = S.endEarly) := HL.out
    go_enter Tryz.func220, Tryz.ntmps220
    go_wp2_with (refine cb_box rfl _ rfl vs rfl HONE.out ?_
                 intro w1 hb1 B1 hs1
                 have h1 := HH.out.below B1
                 have HR1 : Hid (RunAt P b tl V S w1) := h1
                 have HF1 : Hid (Rf (foot b V) (foot b V) w w1) := .of_below B1
                 have HC1 : Hid (CmAt w1 vs c) := HC.out.below B1
                 have HB1 : Hid (CB w1 w.heap.size vs) := hb1
                 have d12 := hb1.c 12 _ HNM.out
                 have d14 := hb1.c 14 _ HNX.out
                 have d15 := hb1.c 15 _ HTX.out
                 have l1 := hb1.lt
                 have bl1 := h1.box.lt
                 have f14 := h1.fz 14 (by decide)
                 have f15 := h1.fz 15 (by decide)
                 have f16 := h1.fz 16 (by decide)
                 have c14 := h1.cell 14 _ rfl
                 have c15 := h1.cell 15 _ rfl
                 have c16 := h1.cell 16 _ rfl
                 clear hb1 h1)
    refine (endEarly_calls P b tl V S w1 HR1.out hw).mono ?_
    rintro e w2 ⟨rfl, hr⟩
    have HR : Hid (RPost P b tl V (S.lead c) w w2) := by show RPost _ _ _ _ _ _ _; rw [HL.out]; exact RPost.trans rfl HF1.out hr
    clear hr
    go_wp2
    go_end0
    exact ⟨rfl, HR.out⟩
  · have HL : Hid (S.lead c = { S with next := c.next }) := HL.out
    go_enter Tryz.func220, Tryz.ntmps220
    go_wp2_with (refine cb_box rfl _ rfl vs rfl HONE.out ?_
                 intro w1 hb1 B1 hs1
                 have h1 := HH.out.below B1
                 have HR1 : Hid (RunAt P b tl V S w1) := h1
                 have HF1 : Hid (Rf (foot b V) (foot b V) w w1) := .of_below B1
                 have HC1 : Hid (CmAt w1 vs c) := HC.out.below B1
                 have HB1 : Hid (CB w1 w.heap.size vs) := hb1
                 have d12 := hb1.c 12 _ HNM.out
                 have d14 := hb1.c 14 _ HNX.out
                 have d15 := hb1.c 15 _ HTX.out
                 have l1 := hb1.lt
                 have bl1 := h1.box.lt
                 have f14 := h1.fz 14 (by decide)
                 have f15 := h1.fz 15 (by decide)
                 have f16 := h1.fz 16 (by decide)
                 have c14 := h1.cell 14 _ rfl
                 have c15 := h1.cell 15 _ rfl
                 have c16 := h1.cell 16 _ rfl
                 clear hb1 h1)
    have hA := HR1.out.set 15 (by decide) (.int .i64 (c.next : Nat)) rfl { S with next := c.next } rfl rfl rfl rfl rfl rfl
    go_end0
    exact ⟨rfl, by rw [HL.out]; exact ⟨V, rfl, hA, HF1.out.trans (Rf.set V b 15 _ _)⟩⟩
  · have HL : Hid (S.lead c = if S.mark then { S with mark := false, next := c.next } else S) := HL.out
    cases hmk : S.mark
    · rw [hmk, if_neg (by decide)] at HL
      go_enter Tryz.func220, Tryz.ntmps220
      go_wp2_with (refine cb_box rfl _ rfl vs rfl HONE.out ?_
                   intro w1 hb1 B1 hs1
                   have h1 := HH.out.below B1
                   have HR1 : Hid (RunAt P b tl V S w1) := h1
                   have HF1 : Hid (Rf (foot b V) (foot b V) w w1) := .of_below B1
                   have HC1 : Hid (CmAt w1 vs c) := HC.out.below B1
                   have HB1 : Hid (CB w1 w.heap.size vs) := hb1
                   have d12 := hb1.c 12 _ HNM.out
                   have d14 := hb1.c 14 _ HNX.out
                   have d15 := hb1.c 15 _ HTX.out
                   have l1 := hb1.lt
                   have bl1 := h1.box.lt
                   have f14 := h1.fz 14 (by decide)
                   have f15 := h1.fz 15 (by decide)
                   have f16 := h1.fz 16 (by decide)
                   have c14 := h1.cell 14 _ rfl
                   have c14f : w1.cell? ⟨b, 14, none⟩ = some (.bool false) := by rw [c14, hmk]
                   clear c14
                   have c15 := h1.cell 15 _ rfl
                   have c16 := h1.cell 16 _ rfl
                   clear hb1 h1)
      go_end0
      exact ⟨rfl, by rw [HL.out]; exact ⟨V, rfl, HR1.out, HF1.out⟩⟩
    · rw [hmk, if_pos rfl] at HL
      go_enter Tryz.func220, Tryz.ntmps220
      go_wp2_with (refine cb_box rfl _ rfl vs rfl HONE.out ?_
                   intro w1 hb1 B1 hs1
                   have h1 := HH.out.below B1
                   have HR1 : Hid (RunAt P b tl V S w1) := h1
                   have HF1 : Hid (Rf (foot b V) (foot b V) w w1) := .of_below B1
                   have HC1 : Hid (CmAt w1 vs c) := HC.out.below B1
                   have HB1 : Hid (CB w1 w.heap.size vs) := hb1
                   have d12 := hb1.c 12 _ HNM.out
                   have d14 := hb1.c 14 _ HNX.out
                   have d15 := hb1.c 15 _ HTX.out
                   have l1 := hb1.lt
                   have bl1 := h1.box.lt
                   have f14 := h1.fz 14 (by decide)
                   have f15 := h1.fz 15 (by decide)
                   have f16 := h1.fz 16 (by decide)
                   have c14 := h1.cell 14 _ rfl
                   have c14t : w1.cell? ⟨b, 14, none⟩ = some (.bool true) := by rw [c14, hmk]
                   clear c14
                   have c15 := h1.cell 15 _ rfl
                   have c16 := h1.cell 16 _ rfl
                   clear hb1 h1)
      have hA := HR1.out.set 14 (by decide) (.bool false) rfl { S with mark := false } rfl rfl rfl rfl rfl rfl
      have hB := hA.set 15 (by decide) (.int .i64 (c.next : Nat)) rfl { S with mark := false, next := c.next } rfl rfl rfl rfl rfl rfl
      go_end0
      exact ⟨rfl, by rw [HL.out]; exact ⟨V, rfl, hB, HF1.out.trans ((Rf.set V b 14 _ _).trans (Rf.set V b 15 _ _))⟩⟩
end Go.Proofs.YtlppphmnegdhoabGreatDoor

namespace Go.Proofs.YtlppphmnegdhoabGreatDoor
set_option linter.unusedVariables false
set_option maxRecDepth 100000
open Go.RowKit
open M

section
variable {P : Value → World → Prop} {b : Nat} {tl : List Value} {V : RV} {S : St} {w w' : World}
/-- a range is opened or closed -/
theorem RunAt.setRng (h : RunAt P b tl V S w) {g n c : Nat} (hv : V.rng = .slice (some ⟨g, 0, none⟩) n c) (k : Nat) (x : Bool) : RPost P b tl V { S with rng := S.rng.set k x } w (w.setCell ⟨g, k, none⟩ (.bool x)) := by
  have hgb : g ≠ b := fun e => h.sr (by rw [hv, ← e]; rfl)
  have hfg : foot b V g := .inr (.inr (.inl (by rw [hv]; rfl)))
  have f1 : Rf (foot b V) (foot b V) w (w.setCell ⟨g, k, none⟩ (.bool x)) := ⟨rfl, rfl, rfl, by simp, fun q _ hq => heap_setCell_other w _ q _ (fun e => hq (by rw [e]; exact hfg)), fun _ h => .inl h⟩
  have hk : ∀ q, q ≠ g → (w.setCell ⟨g, k, none⟩ (.bool x)).heap[q]? = w.heap[q]? := fun q hq => heap_setCell_other w _ q _ hq
  refine ⟨V, rfl, ⟨?_, ?_, ?_, ?_, h.so, h.sr, h.sq, h.scr.fr f1, h.pat.fr f1, h.hold.fr f1, h.one⟩, f1⟩
  · have h1 := h.box.keep (hk b (fun e => hgb e.symm)) (by simp)
    exact h1
  · refine ownsRow_fr (F := foot b V) (G := foot b V) h.out (fun q e => hk q (fun e' => ?_))
    exact rows_far h.out h.rng (by decide) q e (by rw [hv, e']; rfl)
  · have h9 := h.rng
    show World.ownsRow _ 0 _ 1 V.rng (S.rng.set k x).length ((S.rng.set k x).map .bool)
    rw [List.length_set, List.map_set]
    have hn : n = S.rng.length := by
      rcases h9.2 with ⟨e, _⟩ | ⟨g', cap, cur, e, _⟩
      · rw [hv] at e; cases e
      · rw [hv] at e; simp at e; omega
    subst hn
    rw [hv] at h9 ⊢
    exact (h9.stored k (.bool x)).1
  · refine ownsRow_fr (F := foot b V) (G := foot b V) h.que (fun q e => hk q (fun e' => ?_))
    exact rows_far h.que h.rng (by decide) q e (by rw [hv, e']; rfl)
end
/-- the addresses of a command in memory -/
theorem CmAt.adrs {w : World} {vs : List Value} {c : Cm} (h : CmAt w vs c) : ∃ A1 A2, vs.take 12 = [.int .i64 (c.cnt : Nat)] ++ A1 ++ A2 ++ [.bool c.no] ∧ AdAt w A1 c.a1 ∧ AdAt w A2 c.a2 := by
  obtain ⟨p1, q1, p2, q2, p3, q3, p4, q4, rfl, h1, h2, h3, h4⟩ := h
  exact ⟨_, _, rfl, ⟨p1, q1, rfl, h1⟩, ⟨p2, q2, rfl, h2⟩⟩
def RgPost (P : Value → World → Prop) (b : Nat) (tl : List Value) (V : RV) (r : Bool × St) (w : World) (e : Ending) (w' : World) : Prop := e = .returned (.bool r.1) ∧ RPost P b tl V r.2 w w'
theorem RPost.drew {P : Value → World → Prop} {b : Nat} {tl : List Value} {V : RV} {S : St} {w w' : World} (h : RPost P b tl V S w w') : RPost P b tl V S w w'.drew := by
  obtain ⟨V', h1, h2, h3⟩ := h
  exact ⟨V', h1, h2.below ((Below.refl _ _).drew), h3.trans (.of_below ((Below.refl _ _).drew))⟩
set_option maxRecDepth 100000 in
set_option maxHeartbeats 8000000 in
theorem inRange_calls (P : Value → World → Prop) (b : Nat) (tl : List Value) (V : RV) (S : St) (k : Nat) (A1 A2 : List Value) (c : Cm) (w : World) (h : RunAt P b tl V S w) (hw : WF S) (h1 : AdAt w A1 c.a1) (h2 : AdAt w A2 c.a2) (hk : CmOk c) (hkn : k < S.rng.length) :
    Calls Tryz.prog 217 #[.pointer (some ⟨b, 0, none⟩), .int .i64 (k : Nat), .agg ([Value.int .i64 (c.cnt : Nat)] ++ A1 ++ A2 ++ [Value.bool c.no]).toArray] w fun e w' => RgPost P b tl V (S.ranged k c) w e w' := by
  have HA1 : Hid (AdAt w A1 c.a1) := h1
  have HA2 : Hid (AdAt w A2 c.a2) := h2
  obtain ⟨p1, q1, rfl, _⟩ := h1
  obtain ⟨p2, q2, rfl, _⟩ := h2
  have HR0 : Hid (S.ranged k c = if S.rng.getD k false then (true, { S with rng := S.rng.set k (!S.holds c.a2 && !(decide (c.a2.kind = 1) && decide (c.a2.line < S.line))) }) else (S.holds c.a1, { S with rng := S.rng.set k (S.holds c.a1 && !(decide (c.a2.kind = 1) && decide (c.a2.line ≤ S.line))) })) := rfl
  have HGD : Hid (S.rng.getD k false = S.rng[k]) := by show _ = _; simp [hkn]
  have HH : Hid (RunAt P b tl V S w) := h
  have HK : Hid (CmOk c) := hk
  have hbl := h.box.lt
  have hli : S.line ≤ 4096 := by have := hw.li; have := hw.bh; have := hw.tx; omega
  have hnc := hw.nc
  have hrg := hw.rg
  have hn2 := hk.n2
  obtain ⟨gr, cr, hvr, hgb⟩ : ∃ g c, V.rng = .slice (some ⟨g, 0, none⟩) S.rng.length c ∧ g ≠ b := by
    obtain ⟨g, cap, hv, _, _⟩ := h.rng.form (by omega)
    exact ⟨g, cap, hv, fun e => h.sr (by rw [hv, ← e]; rfl)⟩
  have HVR : Hid (V.rng = .slice (some ⟨gr, 0, none⟩) S.rng.length cr) := hvr
  have HRC : Hid (∀ w', RunAt P b tl V S w' → gr < w'.heap.size ∧ w'.cell? ⟨gr, k, none⟩ = some (.bool S.rng[k]) ∧ w'.frozen? ⟨gr, k, none⟩ = false ∧ w'.cell? ⟨b, 1, none⟩ = some (.slice (some ⟨gr, 0, none⟩) S.rng.length cr)) := fun w' h' => by
    have hr := h'.rng
    rw [hvr] at hr
    have c0 := hr.cells rfl k (.bool S.rng[k]) (by simp [hkn])
    rw [Addr.add_mid, Nat.zero_add] at c0
    have c1 := h'.cell 1 _ rfl
    exact ⟨(hr.lt gr rfl).2, c0, hr.frozenAt k, by rw [c1]; show some V.rng = _; rw [hvr]⟩
  obtain ⟨n, hn⟩ : ∃ n, S.rng.length = n := ⟨_, rfl⟩
  rw [hn] at HRC hkn hrg
  obtain ⟨op, hop⟩ : ∃ x, S.rng[k] = x := ⟨_, rfl⟩
  rw [hop] at HRC HGD
  obtain ⟨kd, hkd⟩ : ∃ x, c.a2.kind = x := ⟨_, rfl⟩
  obtain ⟨ln, hln⟩ : ∃ x, c.a2.line = x := ⟨_, rfl⟩
  have HKD : Hid (c.a2.kind = kd) := hkd
  have HLN : Hid (c.a2.line = ln) := hln
  rw [hln] at hn2
  have hk1 : ¬ (k : Int) < 0 := by omega
  have hk2 : ¬ (n : Int) ≤ (k : Int) := by omega
  have hk3 : (k : Int) < (n : Int) := by omega
  have hk4 : (0 : Int) ≤ (k : Int) := by omega
  clear h hk hvr hn hop
  rw [HGD.out] at HR0
  rw [hkd, hln] at HR0 ⊢
  have hone : ∀ v ∈ ([.int .i64 (c.cnt : Nat), .int .i64 (c.a1.kind : Nat), .int .i64 (c.a1.line : Nat), .bool c.a1.ex.head, .bool c.a1.ex.tail, .slice p1 c.a1.ex.l.length q1, .int .i64 (kd : Nat), .int .i64 (ln : Nat), .bool c.a2.ex.head, .bool c.a2.ex.tail, .slice p2 c.a2.ex.l.length q2, .bool c.no] : List Value), v.oneCell' = true := by simp [Value.oneCell']
  rw [hkd, hln] at HA2
  clear hkd hln
  cases op
  · rw [if_neg (by decide)] at HR0
    by_cases hnu : kd = 1
    · have hnu1 : ((kd : Int) == 1) = true := by simp [hnu]
      rw [decide_eq_true hnu] at HR0
      clear hnu
      go_enter Tryz.func217, Tryz.ntmps217
      go_wp2_with (first
        | (refine cb_box rfl _ rfl [.int .i64 (c.cnt : Nat), .int .i64 (c.a1.kind : Nat), .int .i64 (c.a1.line : Nat), .bool c.a1.ex.head, .bool c.a1.ex.tail, .slice p1 c.a1.ex.l.length q1, .int .i64 (kd : Nat), .int .i64 (ln : Nat), .bool c.a2.ex.head, .bool c.a2.ex.tail, .slice p2 c.a2.ex.l.length q2, .bool c.no] rfl hone ?_
           intro w1 hb1 B1 hs1
           have hR1 := HH.out.below B1
           have HR1 : Hid (RunAt P b tl V S w1) := hR1
           obtain ⟨lg1, cg1, _, c11⟩ := HRC.out w1 hR1
           have bl1 := hR1.box.lt
           have d6 := hb1.c 6 _ rfl
           have lb1 := hb1.lt
           clear hR1)
        | refine cb_load rtAdr hb1 (o := 1) rfl rfl rfl _ rfl rfl ?_)
      have hkk := HK.out
      have HAD : AdAt w1 _ c.a1 := HA1.out.below B1
      have HHC := holds_calls P b tl V S _ c.a1 w1 HR1.out hw HAD hkk.k1 hkk.n1 hkk.i1
      refine HHC.mono ?_
      clear HHC
      rintro e w2 ⟨rfl, B2⟩
      have hR2 := HR1.out.below B2
      have HR2 : Hid (RunAt P b tl V S w2) := hR2
      have HF2 : Hid (Rf (foot b V) (foot b V) w w2) := (Rf.of_below B1).trans (.of_below B2)
      obtain ⟨lg2, cg2, fg2, c12⟩ := HRC.out w2 hR2
      have bl2 := hR2.box.lt
      have hb2 := hb1.below B2 hb1.lt
      have e7 := hb2.c 7 _ rfl
      have lb2 := hb2.lt
      have cl2 := hR2.cell 12 _ rfl
      clear hR2
      generalize hho : S.holds c.a1 = ho at *
      clear hho
      cases ho
      · have HF : Hid (RPost P b tl V (S.ranged k c).2 w (w2.setCell ⟨gr, k, none⟩ (.bool false)).drew) := by
          show RPost _ _ _ _ _ _ _
          rw [HR0.out]
          exact (RPost.trans rfl HF2.out (HR2.out.setRng HVR.out k false)).drew
        have HF1 : Hid ((S.ranged k c).1 = false) := by show _ = _; rw [HR0.out]
        go_wp2_with fail
        go_region
        go_wp2
        go_ret
        exact ⟨by rw [HF1.out]; rfl, HF.out⟩
      · by_cases hcp : ln ≤ S.line
        · have hcp1 : (ln : Int) ≤ ((S.line : Nat) : Int) := by omega
          rw [decide_eq_true hcp] at HR0
          clear hcp
          have HF : Hid (RPost P b tl V (S.ranged k c).2 w (w2.setCell ⟨gr, k, none⟩ (.bool false)).drew) := by
            show RPost _ _ _ _ _ _ _
            rw [HR0.out]
            exact (RPost.trans rfl HF2.out (HR2.out.setRng HVR.out k false)).drew
          have HF1 : Hid ((S.ranged k c).1 = true) := by show _ = _; rw [HR0.out]
          go_wp2_with fail
          go_region
          go_wp2
          go_ret
          exact ⟨by rw [HF1.out]; rfl, HF.out⟩
        · have hcp1 : ¬ (ln : Int) ≤ ((S.line : Nat) : Int) := by omega
          rw [decide_eq_false hcp] at HR0
          have HCP : Hid _ := hcp
          clear hcp
          have HF : Hid (RPost P b tl V (S.ranged k c).2 w (w2.setCell ⟨gr, k, none⟩ (.bool true)).drew) := by
            show RPost _ _ _ _ _ _ _
            rw [HR0.out]
            exact (RPost.trans rfl HF2.out (HR2.out.setRng HVR.out k true)).drew
          have HF1 : Hid ((S.ranged k c).1 = true) := by show _ = _; rw [HR0.out]
          go_wp2_with fail
          go_region
          go_wp2
          go_ret
          refine ⟨by rw [HF1.out]; rfl, ?_⟩
          first | exact HF.out | (rw [decide_eq_false HCP.out]; exact HF.out)
    · have hnu1 : ((kd : Int) == 1) = false := by simp; omega
      rw [decide_eq_false hnu] at HR0
      clear hnu
      go_enter Tryz.func217, Tryz.ntmps217
      go_wp2_with (first
        | (refine cb_box rfl _ rfl [.int .i64 (c.cnt : Nat), .int .i64 (c.a1.kind : Nat), .int .i64 (c.a1.line : Nat), .bool c.a1.ex.head, .bool c.a1.ex.tail, .slice p1 c.a1.ex.l.length q1, .int .i64 (kd : Nat), .int .i64 (ln : Nat), .bool c.a2.ex.head, .bool c.a2.ex.tail, .slice p2 c.a2.ex.l.length q2, .bool c.no] rfl hone ?_
           intro w1 hb1 B1 hs1
           have hR1 := HH.out.below B1
           have HR1 : Hid (RunAt P b tl V S w1) := hR1
           obtain ⟨lg1, cg1, _, c11⟩ := HRC.out w1 hR1
           have bl1 := hR1.box.lt
           have d6 := hb1.c 6 _ rfl
           have lb1 := hb1.lt
           clear hR1)
        | refine cb_load rtAdr hb1 (o := 1) rfl rfl rfl _ rfl rfl ?_)
      have hkk := HK.out
      have HAD : AdAt w1 _ c.a1 := HA1.out.below B1
      have HHC := holds_calls P b tl V S _ c.a1 w1 HR1.out hw HAD hkk.k1 hkk.n1 hkk.i1
      refine HHC.mono ?_
      clear HHC
      rintro e w2 ⟨rfl, B2⟩
      have hR2 := HR1.out.below B2
      have HR2 : Hid (RunAt P b tl V S w2) := hR2
      have HF2 : Hid (Rf (foot b V) (foot b V) w w2) := (Rf.of_below B1).trans (.of_below B2)
      obtain ⟨lg2, cg2, fg2, c12⟩ := HRC.out w2 hR2
      have bl2 := hR2.box.lt
      have hb2 := hb1.below B2 hb1.lt
      have e7 := hb2.c 7 _ rfl
      have lb2 := hb2.lt
      have cl2 := hR2.cell 12 _ rfl
      clear hR2
      generalize hho : S.holds c.a1 = ho at *
      clear hho
      cases ho
      · have HF : Hid (RPost P b tl V (S.ranged k c).2 w (w2.setCell ⟨gr, k, none⟩ (.bool false)).drew) := by
          show RPost _ _ _ _ _ _ _
          rw [HR0.out]
          exact (RPost.trans rfl HF2.out (HR2.out.setRng HVR.out k false)).drew
        have HF1 : Hid ((S.ranged k c).1 = false) := by show _ = _; rw [HR0.out]
        go_wp2_with fail
        go_region
        go_wp2
        go_ret
        exact ⟨by rw [HF1.out]; rfl, HF.out⟩
      · have HF : Hid (RPost P b tl V (S.ranged k c).2 w (w2.setCell ⟨gr, k, none⟩ (.bool true)).drew) := by
          show RPost _ _ _ _ _ _ _
          rw [HR0.out]
          exact (RPost.trans rfl HF2.out (HR2.out.setRng HVR.out k true)).drew
        have HF1 : Hid ((S.ranged k c).1 = true) := by show _ = _; rw [HR0.out]
        go_wp2_with fail
        go_region
        go_wp2
        go_ret
        exact ⟨by rw [HF1.out]; rfl, HF.out⟩
  · rw [if_pos rfl] at HR0
    by_cases hnu : kd = 1
    · have hnu1 : ((kd : Int) == 1) = true := by simp [hnu]
      rw [decide_eq_true hnu] at HR0
      clear hnu
      go_enter Tryz.func217, Tryz.ntmps217
      go_wp2_with (first
        | (refine cb_box rfl _ rfl [.int .i64 (c.cnt : Nat), .int .i64 (c.a1.kind : Nat), .int .i64 (c.a1.line : Nat), .bool c.a1.ex.head, .bool c.a1.ex.tail, .slice p1 c.a1.ex.l.length q1, .int .i64 (kd : Nat), .int .i64 (ln : Nat), .bool c.a2.ex.head, .bool c.a2.ex.tail, .slice p2 c.a2.ex.l.length q2, .bool c.no] rfl hone ?_
           intro w1 hb1 B1 hs1
           have hR1 := HH.out.below B1
           have HR1 : Hid (RunAt P b tl V S w1) := hR1
           obtain ⟨lg1, cg1, _, c11⟩ := HRC.out w1 hR1
           have bl1 := hR1.box.lt
           have d6 := hb1.c 6 _ rfl
           have lb1 := hb1.lt
           clear hR1)
        | refine cb_load rtAdr hb1 (o := 6) rfl rfl rfl _ rfl rfl ?_)
      have hkk := HK.out
      have HAD : AdAt w1 _ c.a2 := HA2.out.below B1
      have HHC := holds_calls P b tl V S _ c.a2 w1 HR1.out hw HAD hkk.k2 hkk.n2 hkk.i2
      refine HHC.mono ?_
      clear HHC
      rintro e w2 ⟨rfl, B2⟩
      have hR2 := HR1.out.below B2
      have HR2 : Hid (RunAt P b tl V S w2) := hR2
      have HF2 : Hid (Rf (foot b V) (foot b V) w w2) := (Rf.of_below B1).trans (.of_below B2)
      obtain ⟨lg2, cg2, fg2, c12⟩ := HRC.out w2 hR2
      have bl2 := hR2.box.lt
      have hb2 := hb1.below B2 hb1.lt
      have e7 := hb2.c 7 _ rfl
      have lb2 := hb2.lt
      have cl2 := hR2.cell 12 _ rfl
      clear hR2
      generalize hho : S.holds c.a2 = ho at *
      clear hho
      cases ho
      · by_cases hcp : ln < S.line
        · have hcp1 : (ln : Int) < ((S.line : Nat) : Int) := by omega
          rw [decide_eq_true hcp] at HR0
          clear hcp
          have HF : Hid (RPost P b tl V (S.ranged k c).2 w (w2.setCell ⟨gr, k, none⟩ (.bool false)).drew) := by
            show RPost _ _ _ _ _ _ _
            rw [HR0.out]
            exact (RPost.trans rfl HF2.out (HR2.out.setRng HVR.out k false)).drew
          have HF1 : Hid ((S.ranged k c).1 = true) := by show _ = _; rw [HR0.out]
          go_wp2_with fail
          go_region
          go_wp2
          go_ret
          exact ⟨by rw [HF1.out]; rfl, HF.out⟩
        · have hcp1 : ¬ (ln : Int) < ((S.line : Nat) : Int) := by omega
          rw [decide_eq_false hcp] at HR0
          have HCP : Hid _ := hcp
          clear hcp
          have HF : Hid (RPost P b tl V (S.ranged k c).2 w (w2.setCell ⟨gr, k, none⟩ (.bool true)).drew) := by
            show RPost _ _ _ _ _ _ _
            rw [HR0.out]
            exact (RPost.trans rfl HF2.out (HR2.out.setRng HVR.out k true)).drew
          have HF1 : Hid ((S.ranged k c).1 = true) := by show _ = _; rw [HR0.out]
          go_wp2_with fail
          go_region
          go_wp2
          go_ret
          refine ⟨by rw [HF1.out]; rfl, ?_⟩
          first | exact HF.out | (rw [decide_eq_false HCP.out]; exact HF.out)
      · have HF : Hid (RPost P b tl V (S.ranged k c).2 w (w2.setCell ⟨gr, k, none⟩ (.bool false)).drew) := by
          show RPost _ _ _ _ _ _ _
          rw [HR0.out]
          exact (RPost.trans rfl HF2.out (HR2.out.setRng HVR.out k false)).drew
        have HF1 : Hid ((S.ranged k c).1 = true) := by show _ = _; rw [HR0.out]
        go_wp2_with fail
        go_region
        go_wp2
        go_ret
        exact ⟨by rw [HF1.out]; rfl, HF.out⟩
    · have hnu1 : ((kd : Int) == 1) = false := by simp; omega
      rw [decide_eq_false hnu] at HR0
      clear hnu
      go_enter Tryz.func217, Tryz.ntmps217
      go_wp2_with (first
        | (refine cb_box rfl _ rfl [.int .i64 (c.cnt : Nat), .int .i64 (c.a1.kind : Nat), .int .i64 (c.a1.line : Nat), .bool c.a1.ex.head, .bool c.a1.ex.tail, .slice p1 c.a1.ex.l.length q1, .int .i64 (kd : Nat), .int .i64 (ln : Nat), .bool c.a2.ex.head, .bool c.a2.ex.tail, .slice p2 c.a2.ex.l.length q2, .bool c.no] rfl hone ?_
           intro w1 hb1 B1 hs1
           have hR1 := HH.out.below B1
           have HR1 : Hid (RunAt P b tl V S w1) := hR1
           obtain ⟨lg1, cg1, _, c11⟩ := HRC.out w1 hR1
           have bl1 := hR1.box.lt
           have d6 := hb1.c 6 _ rfl
           have lb1 := hb1.lt
           clear hR1)
        | refine cb_load rtAdr hb1 (o := 6) rfl rfl rfl _ rfl rfl ?_)
      have hkk := HK.out
      have HAD : AdAt w1 _ c.a2 := HA2.out.below B1
      have HHC := holds_calls P b tl V S _ c.a2 w1 HR1.out hw HAD hkk.k2 hkk.n2 hkk.i2
      refine HHC.mono ?_
      clear HHC
      rintro e w2 ⟨rfl, B2⟩
      have hR2 := HR1.out.below B2
      have HR2 : Hid (RunAt P b tl V S w2) := hR2
      have HF2 : Hid (Rf (foot b V) (foot b V) w w2) := (Rf.of_below B1).trans (.of_below B2)
      obtain ⟨lg2, cg2, fg2, c12⟩ := HRC.out w2 hR2
      have bl2 := hR2.box.lt
      have hb2 := hb1.below B2 hb1.lt
      have e7 := hb2.c 7 _ rfl
      have lb2 := hb2.lt
      have cl2 := hR2.cell 12 _ rfl
      clear hR2
      generalize hho : S.holds c.a2 = ho at *
      clear hho
      cases ho
      · have HF : Hid (RPost P b tl V (S.ranged k c).2 w (w2.setCell ⟨gr, k, none⟩ (.bool true)).drew) := by
          show RPost _ _ _ _ _ _ _
          rw [HR0.out]
          exact (RPost.trans rfl HF2.out (HR2.out.setRng HVR.out k true)).drew
        have HF1 : Hid ((S.ranged k c).1 = true) := by show _ = _; rw [HR0.out]
        go_wp2_with fail
        go_region
        go_wp2
        go_ret
        exact ⟨by rw [HF1.out]; rfl, HF.out⟩
      · have HF : Hid (RPost P b tl V (S.ranged k c).2 w (w2.setCell ⟨gr, k, none⟩ (.bool false)).drew) := by
          show RPost _ _ _ _ _ _ _
          rw [HR0.out]
          exact (RPost.trans rfl HF2.out (HR2.out.setRng HVR.out k false)).drew
        have HF1 : Hid ((S.ranged k c).1 = true) := by show _ = _; rw [HR0.out]
        go_wp2_with fail
        go_region
        go_wp2
        go_ret
        exact ⟨by rw [HF1.out]; rfl, HF.out⟩
end Go.Proofs.YtlppphmnegdhoabGreatDoor

namespace Go.Proofs.YtlppphmnegdhoabGreatDoor
set_option linter.unusedVariables false
set_option maxRecDepth 100000
open Go.RowKit
open M

/-- a script's commands in memory -/
def CsAt (VSS : List (List Value)) (w : World) (v : Value) (cs : List Cm) : Prop := ∃ a q, v = .slice a cs.length q ∧ ∀ k (h : k < cs.length), ∃ g, a = some ⟨g, 0, none⟩ ∧ g < w.heap.size ∧ ∃ (h' : k < VSS.length), w.rangeAt g (k * 25) VSS[k] ∧ CmAt w VSS[k] cs[k]
def zAd : List Value := [.int .i64 0, .int .i64 0, .int .i64 0, .bool false, .bool false, .slice none 0 0, .int .i64 0, .int .i64 0, .bool false, .bool false, .slice none 0 0, .bool false]
theorem zAd_one : ∀ v ∈ zAd, v.oneCell' = true := by decide
theorem range_take {w : World} {g o : Nat} {vs : List Value} (h : w.rangeAt g o vs) (n : Nat) : w.rangeAt g o (vs.take n) := fun j u hu => by
  rw [List.getElem?_take] at hu
  split at hu
  · exact h j u hu
  · cases hu
set_option maxRecDepth 100000 in
set_option maxHeartbeats 8000000 in
theorem selects_calls (VSS : List (List Value)) (P : Value → World → Prop) (b : Nat) (tl : List Value) (V : RV) (S : St) (k : Nat) (c : Cm) (w : World) (h : RunAt P b tl V S w) (hw : WF S) (hP : ∀ w, P V.scr w → CsAt VSS w V.scr S.cs) (hc : S.cs[k]? = some c) :
    Calls Tryz.prog 182 #[.pointer (some ⟨b, 0, none⟩), .int .i64 (k : Nat)] w fun e w' => RgPost P b tl V (S.selects k c) w e w' := by
  have HSE : Hid (S.selects k c = if c.cnt = 0 then (true, S) else if c.cnt = 1 then (S.holds c.a1 != c.no, S) else ((S.ranged k c).1 != c.no, (S.ranged k c).2)) := rfl
  obtain ⟨hkn, hck⟩ := List.getElem?_eq_some_iff.1 hc
  have hkc := hw.cm c (List.mem_of_getElem? hc)
  have hcn := hkc.cn
  have hnc := hw.nc
  have HK : Hid (CmOk c) := hkc
  have HRN : Hid (k < S.rng.length) := by show _ < _; rw [hw.rg]; exact hkn
  obtain ⟨aS, qs, hvs, hall⟩ := hP w h.scr.out
  obtain ⟨g, rfl, hg, hlk, hr, hcm⟩ := hall k hkn
  generalize VSS[k] = vs at *
  rw [hck] at hcm
  have hl25 := hcm.len
  obtain ⟨A1, A2, h12, had1, had2⟩ := hcm.adrs
  have HA1 : Hid (AdAt w A1 c.a1) := had1
  have HA2 : Hid (AdAt w A2 c.a2) := had2
  have hr12 := range_take hr 12
  rw [h12] at hr12
  have hA1l : A1.length = 5 := by obtain ⟨p, q, rfl, _⟩ := had1; rfl
  have hA2l : A2.length = 5 := by obtain ⟨p, q, rfl, _⟩ := had2; rfl
  have hone : ∀ v ∈ [Value.int .i64 (c.cnt : Nat)] ++ A1 ++ A2 ++ [Value.bool c.no], v.oneCell' = true := by
    rw [← h12]
    exact fun v hv => hcm.one v (List.mem_of_mem_take hv)
  obtain ⟨VS, hVS⟩ : ∃ VS, [Value.int .i64 (c.cnt : Nat)] ++ A1 ++ A2 ++ [Value.bool c.no] = VS := ⟨_, rfl⟩
  have HV0 : Hid (VS[0]? = some (.int .i64 (c.cnt : Nat))) := by show _ = _; rw [← hVS]; rfl
  have HVL : Hid (VS.length = 12) := by show _ = _; rw [← hVS]; simp [hA1l, hA2l]
  have HV11 : Hid (VS[11]? = some (.bool c.no)) := by
    show _ = _
    rw [← hVS, List.getElem?_append_right (by simp [hA1l, hA2l])]
    simp [hA1l, hA2l]
  have HVA : Hid ((VS.drop 1).take 5 = A1) := by
    show _ = _
    rw [← hVS]
    simp [hA1l]
  have HVS : Hid (VS = [Value.int .i64 (c.cnt : Nat)] ++ A1 ++ A2 ++ [Value.bool c.no]) := hVS.symm
  rw [hVS] at hr12 hone
  have HH : Hid (RunAt P b tl V S w) := h
  have hbl := h.box.lt
  have c0 := h.cell 0 _ rfl
  have c0' : w.cell? ⟨b, 0, none⟩ = some (.slice (some ⟨g, 0, none⟩) S.cs.length qs) := by rw [c0]; show some V.scr = _; rw [hvs]
  obtain ⟨n, hn⟩ : ∃ n, S.cs.length = n := ⟨_, rfl⟩
  rw [hn] at c0' hkn hnc
  obtain ⟨cn, hcnn⟩ : ∃ x, c.cnt = x := ⟨_, rfl⟩
  rw [hcnn] at HV0 hcn HSE
  have hk1 : ¬ (k : Int) < 0 := by omega
  have hk2 : ¬ (n : Int) ≤ (k : Int) := by omega
  have hk3 : (k : Int) < (n : Int) := by omega
  have hk4 : (0 : Int) ≤ (k : Int) := by omega
  have hbn : CB (w.alloc (.cells zAd.toArray 141)) w.heap.size zAd := CB.new w _ _ zAd_one
  have BA : Below w.heap.size w (w.alloc (.cells zAd.toArray 141)) := (Below.refl _ _).alloc (Nat.le_refl _) _
  have hzv := (zero_of_info (show (Tryz.prog.info? 141).map (fun i => (i.zero, i.size)) = some (some (.agg zAd.toArray), 12) by kernel_rfl)).1
  clear h hc hck hkc hvs hall hr hcm hl25 h12 had1 had2 hVS c0 hn hcnn hA1l hA2l
  go_enter Tryz.func182, Tryz.ntmps182
  go_upto_region 4 with (first
    | refine rg_load rtAds hr12 HVL.out rfl _ rfl rfl ?_
    | (refine cb_store0 rtAds hbn rfl rfl _ _ rfl rfl rfl HVL.out hone ?_
       intro w1 hb1 O1
       have B1 := BA.trans (O1.below (B := w.heap.size) (Nat.le_refl _))
       have HR1 : Hid (RunAt P b tl V S w1) := HH.out.below B1
       have HF1 : Hid (Rf (foot b V) (foot b V) w w1) := .of_below B1
       have d0 := hb1.c 0 _ HV0.out
       have d11 := hb1.c 11 _ HV11.out
       have lb := hb1.lt
       have bl1 := HR1.out.box.lt))
  clear c0' hr12 hbn BA
  by_cases h0 : cn = 0
  · subst h0
    rw [if_pos rfl] at HSE
    go_wp2
    go_ret
    refine ⟨by rw [HSE.out]; rfl, ?_⟩
    rw [HSE.out]
    exact ⟨V, rfl, HR1.out, HF1.out⟩
  have h01 : ((cn : Int) == 0) = false := by simp; omega
  rw [if_neg h0] at HSE
  by_cases h1 : cn = 1
  · subst h1
    rw [if_pos rfl] at HSE
    have hkk := HK.out
    clear h0
    go_wp2_with (refine cb_load rtAdr hb1 (o := 1) HVA.out (by rw [← HVA.out, List.length_take, List.length_drop, HVL.out]; rfl) rfl _ rfl rfl ?_)
    refine (holds_calls P b tl V S A1 c.a1 w1 HR1.out hw (HA1.out.below B1) hkk.k1 hkk.n1 hkk.i1).mono ?_
    rintro e w2 ⟨rfl, B2⟩
    have hb2 := hb1.below B2 hb1.lt
    have e11 := hb2.c 11 _ HV11.out
    have lb2 := hb2.lt
    have HF : Hid (RPost P b tl V (S.selects k c).2 w w2) := by
      show RPost _ _ _ _ _ _ _
      rw [HSE.out]
      exact ⟨V, rfl, HR1.out.below B2, HF1.out.trans (.of_below B2)⟩
    have HF1 : Hid ((S.selects k c).1 = (S.holds c.a1 != c.no)) := by show _ = _; rw [HSE.out]
    generalize S.holds c.a1 = x at *
    generalize c.no = y at *
    clear HSE
    cases x <;> cases y
    all_goals
      go_wp2
      go_ret
      exact ⟨by rw [HF1.out]; rfl, HF.out⟩
  have h11 : ((cn : Int) == 1) = false := by simp; omega
  rw [if_neg h1] at HSE
  clear h0 h1
  have HRC := inRange_calls P b tl V S k A1 A2 c w1 HR1.out hw (HA1.out.below B1) (HA2.out.below B1) HK.out HRN.out
  rw [← HVS.out] at HRC
  go_wp2_with (refine cb_load0 rtAds hb1 HVL.out rfl _ rfl rfl ?_)
  refine HRC.mono ?_
  clear HRC
  rintro e w2 ⟨rfl, V2, hs2, hR2, hF2⟩
  have hnf : ¬ foot b V w.heap.size := fun hf => by have := foot_lt HH.out _ hf; omega
  have hb2 := hb1.keep (hF2.block _ hb1.lt hnf) hF2.size
  have e11 := hb2.c 11 _ HV11.out
  have lb2 := hb2.lt
  have HF : Hid (RPost P b tl V (S.selects k c).2 w w2) := by
    show RPost _ _ _ _ _ _ _
    rw [HSE.out]
    exact ⟨V2, hs2, hR2, HF1.out.trans hF2⟩
  have HF1 : Hid ((S.selects k c).1 = ((S.ranged k c).1 != c.no)) := by show _ = _; rw [HSE.out]
  clear hR2 hF2 hs2 HSE
  generalize (S.ranged k c).1 = x at *
  generalize c.no = y at *
  cases x <;> cases y
  all_goals
    go_wp2
    go_ret
    exact ⟨by rw [HF1.out]; rfl, HF.out⟩
end Go.Proofs.YtlppphmnegdhoabGreatDoor

namespace Go.Proofs.YtlppphmnegdhoabGreatDoor
set_option linter.unusedVariables false
set_option maxRecDepth 100000
open Go.RowKit
open M

/-- what hangs on the blocks from a place on alone -/
abbrev New (lo : Nat) (w : World) (P : World → Prop) : Prop := Stab (fun k => k < lo) w P
theorem New.toF {lo : Nat} {w w' : World} {P : World → Prop} (h : New lo w P) (hs : w.heap.size ≤ w'.heap.size) (hk : ∀ k, lo ≤ k → k < w.heap.size → w'.heap[k]? = w.heap[k]?) : New lo w' P :=
  fun w'' h1 h2 => h w'' (Nat.le_trans hs h1) (fun k hk1 hk2 => (h2 k (Nat.lt_of_lt_of_le hk1 hs) hk2).trans (hk k (Nat.le_of_not_lt hk2) hk1))
theorem New.mono {lo lo' : Nat} {w : World} {P : World → Prop} (h : New lo w P) (hl : lo' ≤ lo) : New lo' w P :=
  fun w'' h1 h2 => h w'' h1 (fun k hk1 hk2 => h2 k hk1 (fun h9 => hk2 (Nat.lt_of_lt_of_le h9 hl)))
theorem New.below {lo : Nat} {w w' : World} {P : World → Prop} (h : New lo w P) (hb : Below w.heap.size w w') : New lo w' P := h.toF hb.size (fun k _ hk => hb.block k hk)
theorem New.only {lo g : Nat} {w w' : World} {P : World → Prop} (h : New lo w P) (O : Only g w w') (hg : g < lo) : New lo w' P := h.toF (by rw [O.size]; exact Nat.le_refl _) (fun k h1 _ => O.block k (by omega))
theorem New.boxed {lo : Nat} {w w' : World} {P : World → Prop} {o : Obj} (h : New lo w P) (O : Only w.heap.size (w.alloc o) w') : New lo w' P :=
  h.toF (by rw [O.size]; simp) (fun k _ h2 => (O.block k (by omega)).trans (Below.heap_alloc w o k h2))
/-- a row of values of many cells, one behind the other -/
theorem rowN_at (N : Nat) : ∀ (CS : List (List Value)), (∀ c ∈ CS, c.length = N) → ∀ i (h : i < CS.length) j, j < N → CS.flatten[i * N + j]? = CS[i][j]? := by
  intro CS
  induction CS with
  | nil => intro _ i h; simp at h
  | cons c CS ih =>
    intro hN i h j hj
    have hc : c.length = N := hN c (by simp)
    rw [List.flatten_cons]
    cases i with
    | zero =>
      rw [Nat.zero_mul, Nat.zero_add, List.getElem?_append_left (by omega)]; rfl
    | succ i =>
      have e : (i + 1) * N + j = N + (i * N + j) := by rw [Nat.add_mul]; omega
      rw [e, List.getElem?_append_right (by omega), show N + (i * N + j) - c.length = i * N + j by omega]
      exact ih (fun d hd => hN d (by simp [hd])) i (by simpa using h) j hj
theorem own_rows {w : World} {B N n c : Nat} {T : TypeId} {a : Option Addr} {CS : List (List Value)} (h : w.ownsRow B T N (.slice a n c) n CS.flatten) (hn : CS.length = n) (hN : ∀ c ∈ CS, c.length = N) (k : Nat) (hk : k < CS.length) :
    ∃ g, a = some ⟨g, 0, none⟩ ∧ B ≤ g ∧ g < w.heap.size ∧ w.rangeAt g (k * N) CS[k] ∧ ∀ o, w.frozen? ⟨g, o, none⟩ = false := by
  obtain ⟨g, rfl⟩ : ∃ g, a = some ⟨g, 0, none⟩ := by
    rcases h.2 with ⟨_, hz⟩ | ⟨g, cap, cur, hv, _⟩
    · omega
    · simp at hv; exact ⟨g, hv.1⟩
  refine ⟨g, rfl, (h.lt g rfl).1, (h.lt g rfl).2, fun j v hv => ?_, fun o => h.frozenAt _⟩
  have hcl := hN _ (List.getElem_mem hk)
  have hj : j < N := by
    have := (List.getElem?_eq_some_iff.1 hv).1
    omega
  have hlt : k * N + j < n * N := by
    have : (k + 1) * N ≤ n * N := Nat.mul_le_mul_right _ (by omega)
    rw [Nat.add_mul] at this
    omega
  rw [h.cellAt (k * N + j) hlt, rowN_at N CS hN k hk j hj, hv]
theorem own_ex {w : World} {B c : Nat} {a : Option Addr} {L : List It} (h : w.ownsRow B 211 257 (.slice a L.length c) L.length (itsC L)) : New B w (fun w => ExOk w a L) := fun w' hs hb k hk => by
  obtain ⟨g, h1, h2, h3, h4, _⟩ := own_rows (CS := L.map (fun x => bC 257 (itF x))) h (by simp) (fun c hc => by
    simp only [List.mem_map] at hc
    obtain ⟨x, _, rfl⟩ := hc
    simp [bC]) k (by simpa using hk)
  refine ⟨g, h1, by omega, fun j u hu => (World.cell?_of_block (hb g h3 (by omega))).trans (h4 j u ?_)⟩
  rw [List.getElem_map]; exact hu
theorem betX_M (o : Option (List Mk × List UInt8)) : betM o = (betX o).map (fun p => (3, p.2)) := by
  cases o with
  | none => rfl
  | some p =>
    show (if (expM p.1).isSome then some (3, p.2) else none) = ((expM p.1).map (fun x => (x, p.2))).map (fun p => (3, p.2))
    cases expM p.1 <;> rfl
theorem betX_none {o : Option (List Mk × List UInt8)} (h : betM o = none) : betX o = none := by
  rw [betX_M] at h
  cases hb : betX o with
  | none => rfl
  | some p => rw [hb] at h; cases h
/-- an expression's cells -/
def ExV (lo : Nat) (w : World) (vs : List Value) (x : Ex) : Prop := ∃ a c, vs = [.bool x.head, .bool x.tail, .slice a x.l.length c] ∧ New lo w (fun w => ExOk w a x.l)
def BvPost (s : ByteArray) (k : Nat) (w : World) (e : Ending) (w' : World) : Prop :=
  Below w.heap.size w w' ∧ ∃ vs : List Value, E3 vs ∧
    ((stB (s.data.toList.drop k) 47 = true ∧ ∃ (q : Nat) (x : Ex), betX (uptoM (s.data.toList.drop (k + 1))) = some (x, s.data.toList.drop q) ∧ k < q ∧ q ≤ s.size ∧ ExV w.heap.size w' vs x ∧ e = .returned (.tuple #[.agg vs.toArray, .int .i64 q, .bool true])) ∨
     ((stB (s.data.toList.drop k) 47 = false ∨ betX (uptoM (s.data.toList.drop (k + 1))) = none) ∧ e = .returned (.tuple #[.agg vs.toArray, .int .i64 k, .bool false])))
set_option maxRecDepth 100000 in
set_option maxHeartbeats 1000000 in
theorem vBetween_calls (s : ByteArray) (k : Nat) (w : World) (hs : s.size ≤ 400) (hk : k ≤ s.size) (hnl : NoNL s) :
    Calls Tryz.prog 203 #[.string s, .int .i64 k] w fun e w' => BvPost s k w e w' := by
  have hsm : s.size ≤ maxLen := by unfold maxLen; omega
  have HNL : Hid (NoNL s) := hnl
  clear hnl
  have hb0 : CB (w.alloc (.cells #[.bool false, .bool false, .slice none 0 0] 137)) w.heap.size [.bool false, .bool false, .slice none 0 0] := CB.new w _ _ (by simp [Value.oneCell'])
  have B0 : Below w.heap.size w (w.alloc (.cells #[.bool false, .bool false, .slice none 0 0] 137)) := (Below.refl _ _).alloc (Nat.le_refl _) _
  go_enter Tryz.func203, Tryz.ntmps203
  go_wp2_with fail
  generalize w.alloc (.cells #[.bool false, .bool false, .slice none 0 0] 137) = W at *
  refine (stands_calls s k 47 _ hsm hk (by decide)).mono ?_
  rintro e w1 ⟨rfl, rfl⟩
  cases hb : stB (s.data.toList.drop k) 47
  · have HB : Hid (stB (s.data.toList.drop k) 47 = false) := hb
    clear hb
    go_wp2_with (refine cb_store0 rtPExp hb0 rfl rfl _ _ rfl rfl rfl rfl (by simp [Value.oneCell']) ?_; intro w5 hb5 O5)
    refine bodyPost_ret (results_cb3 rfl _ _ _ _ rfl rtPExp hb5 rfl) rfl ?_
    exact ⟨B0.trans (O5.below (Nat.le_refl _)), _, ⟨_, _, _, _, _, rfl⟩, .inr ⟨.inl HB.out, rfl⟩⟩
  · have hk1 := stB_size s k 47 hb
    have HB : Hid (stB (s.data.toList.drop k) 47 = true) := hb
    clear hb
    obtain ⟨m, r, hmr⟩ : ∃ m r, mksM (s.data.toList.drop (k + 1)) = (m, r) := ⟨_, _, rfl⟩
    have HM : Hid (mksM (s.data.toList.drop (k + 1)) = (m, r)) := hmr
    clear hmr
    go_wp2_with fail
    have HC := rd_calls s (k + 1) m r w1 (by omega) hk1 HM.out
    rw [show ((k + 1 : Nat) : Int) = (k : Int) + 1 from rfl] at HC
    refine HC.mono ?_
    clear HC
    rintro e w2 ⟨hd, tl, L, m3, n, a, c, rfl, hkn, hns, hm3, hown, B2, hLs, hA, hBB⟩
    have hlen2 : ∀ x, x ≤ s.size → (s.data.toList.drop x).length = s.size - x := fun x _ => by rw [List.length_drop, ba_len]
    obtain ⟨q1, q2, q3⟩ := bet_read (s.data.toList.drop (k + 1)) m m3 r (HNL.out.drop _) HM.out (s.data.toList.drop n) hm3 hBB
    have HN : Hid (stB (s.data.toList.drop n) 47 = false → betM (uptoM (s.data.toList.drop (k + 1))) = none) := q1
    have HZ : Hid (¬ k + 1 < n → betM (uptoM (s.data.toList.drop (k + 1))) = none) := fun h => by
      have hnk : n = k + 1 := by omega
      subst hnk
      rw [HM.out] at hm3
      simp at hm3
      cases hs1 : stB (s.data.toList.drop (k + 1)) 47
      · exact q1 hs1
      · have hm0 := q2 hs1 rfl
        obtain ⟨_, r', _, h5, _⟩ := q3 hs1
        rw [h5, betM, hm0]; rfl
    have HY : Hid (k + 1 < n → stB (s.data.toList.drop n) 47 = true → n + 1 ≤ s.size ∧ betX (uptoM (s.data.toList.drop (k + 1))) = some (⟨hd, tl, L⟩, s.data.toList.drop (n + 1))) := fun h h2 => by
      obtain ⟨h3, r', h4, h5, h6⟩ := q3 h2
      have hmne : m ≠ [] := fun e => by
        subst e
        have e2 : s.data.toList.drop n = s.data.toList.drop (k + 1) := by
          have a1 := mks_nil _ _ HM.out
          have a2 : mksM (s.data.toList.drop n) = ([], r) := by rw [hm3, h3]
          rw [← mks_nil _ _ a2, ← a1]
        have e3 := congrArg List.length e2
        rw [hlen2 n hns, hlen2 (k + 1) hk1] at e3
        omega
      refine ⟨stB_size s n 47 h2, ?_⟩
      rw [h5, betX, hA hmne h3]
      have : s.data.toList.drop (n + 1) = r' := by rw [← List.drop_drop, h6]; rfl
      rw [this]; rfl
    have HEX : Hid (New w1.heap.size w2 (fun w => ExOk w a L)) := own_ex hown
    have hlt1 := hb0.lt
    clear q1 q2 q3 hm3 hA hBB hown hlen2
    have hb2 := hb0.below B2 hb0.lt
    have BB2 := B0.trans (B2.mono B0.size)
    have hlt2 := hb2.lt
    have hbn : CB (w2.alloc (.cells #[.bool false, .bool false, .slice none 0 0] 137)) w2.heap.size [.bool false, .bool false, .slice none 0 0] := CB.new w2 _ _ (by simp [Value.oneCell'])
    have hb3 : CB (w2.alloc (.cells #[.bool false, .bool false, .slice none 0 0] 137)) w.heap.size [.bool false, .bool false, .slice none 0 0] := hb2.below ((Below.refl _ _).alloc (Nat.le_refl _) _) hlt2
    have B3 := BB2.alloc (o := .cells #[.bool false, .bool false, .slice none 0 0] 137) (by omega)
    by_cases hkn2 : k + 1 < n
    · have hd1 : decide (k + 1 < n) = true := decide_eq_true hkn2
      rw [hd1]
      go_wp2_with (refine cb_store0 rtPExp hbn rfl rfl _ _ rfl rfl rfl rfl (by simp [Value.oneCell']) ?_; intro w5 hb5 O5; have hb6 := hb3.keep (O5.block _ (by omega)) (by rw [O5.size]; exact Nat.le_refl _))
      refine (stands_calls s n 47 _ hsm hns (by decide)).mono ?_
      rintro e w6 ⟨rfl, rfl⟩
      cases hst : stB (s.data.toList.drop n) 47
      · have HF := HN.out hst
        have HF2 : Hid (betM (uptoM (s.data.toList.drop (k + 1))) = none) := HF
        clear HF hst HN HY HZ
        go_wp2_with (refine cb_store0 rtPExp hb6 rfl rfl _ _ rfl rfl rfl rfl (by simp [Value.oneCell']) ?_; intro w7 hb7 O7)
        refine bodyPost_ret (results_cb3 rfl _ _ _ _ rfl rtPExp hb7 rfl) rfl ?_
        exact ⟨(B3.trans (O5.below (by omega))).trans (O7.below (Nat.le_refl _)), _, ⟨_, _, _, _, _, rfl⟩, .inr ⟨.inr (betX_none HF2.out), rfl⟩⟩
      · have HF : Hid (n + 1 ≤ s.size ∧ betX (uptoM (s.data.toList.drop (k + 1))) = some (⟨hd, tl, L⟩, s.data.toList.drop (n + 1))) := HY.out hkn2 hst
        clear hst HN HY HZ
        go_wp2_with (first
          | refine cb_load0 rtPExp hb5 rfl rfl _ rfl rfl ?_
          | (refine cb_store0 rtPExp hb6 rfl rfl _ _ rfl rfl rfl rfl (by simp [Value.oneCell']) ?_; intro w7 hb7 O7))
        refine bodyPost_ret (results_cb3 rfl _ _ _ _ rfl rtPExp hb7 rfl) rfl ?_
        exact ⟨(B3.trans (O5.below (by omega))).trans (O7.below (Nat.le_refl _)), _, ⟨_, _, _, _, _, rfl⟩, .inl ⟨HB.out, n + 1, ⟨hd, tl, L⟩, HF.out.2, by omega, HF.out.1, ⟨a, c, rfl, ((HEX.out.boxed O5).only O7 hlt1).mono (Nat.le_of_lt hlt1)⟩, rfl⟩⟩
    · have HF2 : Hid (betM (uptoM (s.data.toList.drop (k + 1))) = none) := HZ.out hkn2
      have hd1 : decide (k + 1 < n) = false := decide_eq_false hkn2
      rw [hd1]
      clear HN HY HZ
      go_wp2_with (first
        | (refine cb_store0 rtPExp hbn rfl rfl _ _ rfl rfl rfl rfl (by simp [Value.oneCell']) ?_; intro w5 hb5 O5; have hb6 := hb3.keep (O5.block _ (by omega)) (by rw [O5.size]; exact Nat.le_refl _))
        | (refine cb_store0 rtPExp hb6 rfl rfl _ _ rfl rfl rfl rfl (by simp [Value.oneCell']) ?_; intro w7 hb7 O7))
      refine bodyPost_ret (results_cb3 rfl _ _ _ _ rfl rtPExp hb7 rfl) rfl ?_
      exact ⟨(B3.trans (O5.below (by omega))).trans (O7.below (Nat.le_refl _)), _, ⟨_, _, _, _, _, rfl⟩, .inr ⟨.inr (betX_none HF2.out), rfl⟩⟩
end Go.Proofs.YtlppphmnegdhoabGreatDoor

