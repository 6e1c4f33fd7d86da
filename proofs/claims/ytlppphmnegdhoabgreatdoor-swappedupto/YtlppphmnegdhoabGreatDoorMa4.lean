import Derived.Test.YtlppphmnegdhoabGreatDoorRows
import Derived.WalkKit
import Derived.WalkSpells
import Derived.WalkLawsBesides
import Derived.Laws.BitsLemmas
import Derived.Deep.QuietTactic
import Derived.BigQuiet
import Derived.Lib.Strings
import Derived.Laws.BytesArg
import Derived.Deep.MidRow
import Derived.Deep.WholeRow
import Derived.Laws.ResultCell
import Derived.Deep.CutBlock
import Derived.Deep.DeepCutAuto
import Derived.Deep.RegionHeld3
import Derived.Deep.DrawnRows
import Derived.Deep.AppendLies
import Derived.Deep.RegionLaw
import Derived.Great.BuildSlice
import Derived.Lib.ItoaNum
import Derived.Laws.AppendOwnNone
import Derived.Laws.OwnMore
import Derived.Lib.AppendStr
import Derived.Test.YtlppphmnegdhoabGreatDoorMa3
namespace Go.Proofs.YtlppphmnegdhoabGreatDoor
set_option linter.unusedVariables false
set_option maxRecDepth 100000
open Go.RowKit
open M

theorem digV_snoc (n : Nat) (t : List UInt8) (c : UInt8) : digV n (t ++ [c]) = 10 * digV n t + (c.toNat - 48) := by unfold digV; rw [List.foldl_append]; rfl
theorem takeU_snoc (l r : List UInt8) (d : Nat) (c : UInt8) (h : l.drop d = c :: r) : l.take (d + 1) = l.take d ++ [c] := by
  have hd : d < l.length := by
    refine Nat.lt_of_not_le fun h9 => ?_
    rw [List.drop_of_length_le h9] at h; cases h
  rw [List.take_add_one, List.getElem?_eq_getElem hd]
  rw [List.drop_eq_getElem_cons hd] at h
  injection h with h1 _
  rw [h1]; rfl
def NvPost (s : ByteArray) (k : Nat) (w : World) (e : Ending) (w' : World) : Prop := (∃ (n q : Nat), q = k + numL (s.data.toList.drop k) ∧ e = .returned (.tuple #[.int .i64 (n : Nat), .int .i64 q]) ∧ q ≤ s.size ∧ (k < q → n = numV (s.data.toList.drop k)) ∧ n ≤ 9999) ∧ w' = w
set_option maxRecDepth 100000 in
set_option maxHeartbeats 1000000 in
theorem vNum_calls (s : ByteArray) (k : Nat) (w : World) (hs : s.size ≤ 400) (hk : k ≤ s.size) :
    Calls Tryz.prog 204 #[.string s, .int .i64 k] w fun e w' => NvPost s k w e w' := by
  go_enter Tryz.func204, Tryz.ntmps204
  go_wp2_with fail
  refine (digitAt_calls s k w hs hk).mono ?_
  rintro e w1 ⟨rfl, rfl⟩
  go_wp2_with fail
  go_loop [6, 7, 8] (fun v6 v7 v8 => ∃ (n : Nat) (d : Nat), v6 = .int .i64 n ∧ v7 = .int .i64 ((k + d : Nat) : Int) ∧ v8 = .int .i64 (digI (s.data.toList.drop (k + d))) ∧ k + d ≤ s.size ∧ d ≤ 4 ∧ n + 1 ≤ 10 ^ d ∧ (d = 0 ∨ 1 ≤ n) ∧ Hid (n = digV 0 ((s.data.toList.drop k).take d)) ∧ Hid (d = 0 ∨ numL (s.data.toList.drop k) = d + digs (4 - d) (s.data.toList.drop (k + d)))) (fun _ v7 _ => s.size + 1 - (intOf v7).toNat)
  case atStart => exact ⟨0, 0, rfl, rfl, rfl, by omega, by omega, by simp, .inl rfl, rfl, .inl rfl⟩
  case round =>
    obtain ⟨n, d, rfl, rfl, rfl, hkd, hd4, hn, hnd, HDV, HNL⟩ := hrel
    have hn4 : n + 1 ≤ 10000 := Nat.le_trans hn (Nat.pow_le_pow_right (by decide) hd4)
    have HN : Hid (n + 1 ≤ 10 ^ d) := hn
    clear hn
    obtain ⟨q, hq⟩ : ∃ q, k + d = q := ⟨_, rfl⟩
    have HQ : Hid (k + d = q) := hq
    have hqd : (q : Int) - (k : Int) = (d : Int) := by omega
    rw [hq] at hkd HNL ⊢
    clear hq
    have hle := digI_le (s.data.toList.drop q)
    obtain ⟨dg, hdg⟩ : ∃ dg, digI (s.data.toList.drop q) = dg := ⟨_, rfl⟩
    have HDG : Hid (digI (s.data.toList.drop q) = dg) := hdg
    rw [hdg] at hle ⊢
    clear hdg
    by_cases hp : 0 ≤ dg
    · by_cases hd3 : d < 4
      · have hd31 : (d : Int) < 4 := by omega
        obtain ⟨c, r, hcr, hdc, hdv, hds⟩ := digI_pos (s.data.toList.drop q) (3 - d) (by rw [HDG.out]; exact hp)
        have hqs : q + 1 ≤ s.size := by
          refine Nat.lt_of_not_le fun h => ?_
          rw [List.drop_of_length_le (by rw [ba_len]; omega)] at hcr; cases hcr
        have hdr : s.data.toList.drop (q + 1) = r := by rw [← List.drop_drop, hcr]; rfl
        by_cases hz : n = 0 ∧ dg = 0
        · -- a nought ahead
          obtain ⟨hz1, hz2⟩ := hz
          have hd0 : d = 0 := by omega
          have HF : Hid (numL (s.data.toList.drop k) = 0) := by
            show _ = _
            have hqk : q = k := by have := HQ.out; omega
            rw [← hqk, hcr, numL]
            have : c.toNat = 48 := by
              have h1 : 48 ≤ c.toNat ∧ c.toNat ≤ 57 := by simpa [digB] using hdc
              rw [HDG.out, hz2] at hdv; omega
            rw [this]; rfl
          subst hz1 hz2
          clear hcr hdc hdv hds hdr HNL
          go_wp2
          go_ret2
          exact ⟨⟨0, k, by rw [HF.out]; rfl, rfl, hk, fun h => by omega, by omega⟩, rfl⟩
        · have HNL2 : Hid (numL (s.data.toList.drop k) = (d + 1) + digs (4 - (d + 1)) (s.data.toList.drop (q + 1))) := by
            show _ = _
            have e4 : 4 - (d + 1) = 3 - d := by omega
            have e5 : 4 - d = (3 - d) + 1 := by omega
            rw [hdr, e4]
            rcases HNL.out with hd0 | h
            · subst hd0
              have hqk : q = k := by have := HQ.out; omega
              have hn0 : n = 0 := by have := HN.out; omega
              have hpos : posB c.toNat = true := by
                have h1 : 48 ≤ c.toNat ∧ c.toNat ≤ 57 := by simpa [digB] using hdc
                have h2 : c.toNat ≠ 48 := fun e => hz ⟨hn0, by rw [← HDG.out, hdv, e]; rfl⟩
                simp [posB]; omega
              rw [← hqk, hcr]
              show (if posB c.toNat then digs 4 (c :: r) else 0) = _
              rw [hpos, if_pos rfl, ← hcr]
              have : digs (3 - 0 + 1) (s.data.toList.drop q) = digs (3 - 0) r + 1 := hds
              rw [show (4 : Nat) = 3 - 0 + 1 from rfl, this]; omega
            · rw [h, e5, hds]; omega
          have hgt : (n = 0 ∧ dg ≠ 0) ∨ n ≠ 0 := by
            by_cases e : n = 0
            · exact .inl ⟨e, fun h => hz ⟨e, h⟩⟩
            · exact .inr e
          obtain ⟨dn, hdn⟩ : ∃ dn : Nat, dg = dn := ⟨dg.toNat, by omega⟩
          have HN2 : Hid (10 * n + dn + 1 ≤ 10 ^ (d + 1)) := by
            show _ ≤ _
            have := HN.out
            rw [Nat.pow_succ]; omega
          have hge : 1 ≤ 10 * n + dn := by omega
          have HDV2 : Hid (10 * n + dn = digV 0 ((s.data.toList.drop k).take (d + 1))) := by
            show _ = _
            have hq2 : (s.data.toList.drop k).drop d = c :: r := by rw [List.drop_drop, HQ.out, hcr]
            rw [takeU_snoc _ _ _ _ hq2, digV_snoc, ← HDV.out]
            have h1 : digI (s.data.toList.drop q) = ((c.toNat - 48 : Nat) : Int) := hdv
            rw [HDG.out, hdn] at h1
            omega
          subst hdn
          clear hcr hdc hdv hds hdr HNL hz
          rcases hgt with ⟨e1, e2⟩ | e1
          · have e3 : ((dn : Int) == 0) = false := by simp; omega
            subst e1
            go_wp2_with fail
            have HC := digitAt_calls s (q + 1) w1 hs hqs
            rw [show ((q + 1 : Nat) : Int) = (q : Int) + 1 from rfl] at HC
            refine HC.mono ?_
            clear HC
            rintro e w2 ⟨rfl, rfl⟩
            go_wp2
            go_round
            case rel => exact ⟨10 * 0 + dn, d + 1, by first | go_num | (simp; omega), by rw [← Nat.add_assoc, HQ.out]; go_num, by rw [← Nat.add_assoc, HQ.out], by rw [← Nat.add_assoc, HQ.out]; exact hqs, by omega, HN2.out, .inr hge, HDV2.out, .inr (by rw [← Nat.add_assoc, HQ.out]; exact HNL2.out)⟩
            case measure => first | (simp [intOf]; done) | (simp [intOf]; omega)
          · have e3 : ((n : Int) == 0) = false := by simp; omega
            go_wp2_with fail
            have HC := digitAt_calls s (q + 1) w1 hs hqs
            rw [show ((q + 1 : Nat) : Int) = (q : Int) + 1 from rfl] at HC
            refine HC.mono ?_
            clear HC
            rintro e w2 ⟨rfl, rfl⟩
            go_wp2
            go_round
            case rel => exact ⟨10 * n + dn, d + 1, by first | go_num | (simp; omega), by rw [← Nat.add_assoc, HQ.out]; go_num, by rw [← Nat.add_assoc, HQ.out], by rw [← Nat.add_assoc, HQ.out]; exact hqs, by omega, HN2.out, .inr hge, HDV2.out, .inr (by rw [← Nat.add_assoc, HQ.out]; exact HNL2.out)⟩
            case measure => first | (simp [intOf]; done) | (simp [intOf]; omega)
      · obtain rfl : d = 4 := by omega
        have HF : Hid (k + numL (s.data.toList.drop k) = q) := by
          show _ = _
          rcases HNL.out with h | h
          · omega
          · rw [h]
            have := HQ.out
            show k + (4 + digs 0 _) = q
            rw [digs]; omega
        have HNV : Hid (n = numV (s.data.toList.drop k)) := by
          show _ = _
          have h1 := HF.out
          have h2 := HQ.out
          unfold numV
          rw [show numL (s.data.toList.drop k) = 4 by omega]; exact HDV.out
        clear HNL
        go_wp2
        go_ret2
        exact ⟨⟨n, q, HF.out.symm, rfl, hkd, fun _ => HNV.out, by omega⟩, rfl⟩
    · have hp1 : ¬ (0 : Int) ≤ dg := hp
      have HF : Hid (k + numL (s.data.toList.drop k) = q) := by
        show _ = _
        have hno : ∀ m, digs m (s.data.toList.drop q) = 0 := fun m => digI_neg _ m (by rw [HDG.out]; exact hp)
        rcases HNL.out with h | h
        · subst h
          have hqk : k = q := HQ.out
          subst hqk
          have : numL (s.data.toList.drop k) = 0 := by
            match hcr : s.data.toList.drop k with
            | [] => rfl
            | c :: r =>
              show (if posB c.toNat then digs 4 (c :: r) else 0) = 0
              rw [← hcr, hno 4]; split <;> rfl
          rw [this]; rfl
        · rw [h, hno]
          have := HQ.out
          omega
      have HNV : Hid (n = numV (s.data.toList.drop k)) := by
        show _ = _
        have h1 := HF.out
        have h2 := HQ.out
        unfold numV
        rw [show numL (s.data.toList.drop k) = d by omega]; exact HDV.out
      clear HNL
      go_wp2
      go_ret2
      exact ⟨⟨n, q, HF.out.symm, rfl, hkd, fun _ => HNV.out, by omega⟩, rfl⟩
end Go.Proofs.YtlppphmnegdhoabGreatDoor

namespace Go.Proofs.YtlppphmnegdhoabGreatDoor
set_option linter.unusedVariables false
set_option maxRecDepth 100000
open Go.RowKit
open M

def clV (c : Cl) : List Value := [.int .u8 (c.1.toNat : Int), .int .i64 c.2]
def clC (l : List Cl) : List Value := (l.map clV).flatten
theorem clC_nil : clC [] = [] := rfl
theorem clC_cons (c : Cl) (l : List Cl) : clC (c :: l) = .int .u8 (c.1.toNat : Int) :: .int .i64 c.2 :: clC l := rfl
theorem clC_len (l : List Cl) : (clC l).length = l.length * 2 := by
  induction l with
  | nil => rfl
  | cons c l ih => rw [clC_cons, List.length_cons, List.length_cons, ih, List.length_cons]; omega
theorem clC_app (a b : List Cl) : clC (a ++ b) = clC a ++ clC b := by simp [clC]
theorem clC_one (l : List Cl) : ∀ v ∈ clC l, v.oneCell' = true := by
  induction l with
  | nil => intro v hv; cases hv
  | cons c l ih =>
    intro v hv
    rw [clC_cons] at hv
    rcases List.mem_cons.1 hv with rfl | hv
    · rfl
    rcases List.mem_cons.1 hv with rfl | hv
    · rfl
    · exact ih v hv
theorem clC_at (l : List Cl) : ∀ i (h : i < l.length), (clC l)[i * 2]? = some (.int .u8 (l[i].1.toNat : Int)) ∧ (clC l)[i * 2 + 1]? = some (.int .i64 l[i].2) := by
  induction l with
  | nil => intro i h; simp at h
  | cons c l ih =>
    intro i h
    cases i with
    | zero => exact ⟨rfl, rfl⟩
    | succ i =>
      have := ih i (by simpa using h)
      rw [clC_cons, show (i + 1) * 2 = i * 2 + 2 by omega]
      simpa using this
theorem clC_drop (l : List Cl) : ∀ i, (clC l).drop (i * 2) = clC (l.drop i) := by
  induction l with
  | nil => intro i; simp [clC]
  | cons c l ih =>
    intro i
    cases i with
    | zero => rfl
    | succ i => rw [clC_cons, show (i + 1) * 2 = i * 2 + 2 by omega]; simpa using ih i
theorem clC_take (l : List Cl) : ∀ i, (clC l).take (i * 2) = clC (l.take i) := by
  induction l with
  | nil => intro i; simp [clC]
  | cons c l ih =>
    intro i
    cases i with
    | zero => rfl
    | succ i => rw [clC_cons, show (i + 1) * 2 = i * 2 + 2 by omega]; simpa [clC_cons] using ih i
/-- a slice of cells that is read -/
def SlAt (w : World) (v : Value) (l : List Cl) : Prop :=
  ∃ (a : Option Addr) (c : Nat), v = .slice a l.length c ∧ l.length ≤ c ∧ c ≤ maxLen ∧ ((l = [] ∧ (a = none → c = 0)) ∨ ∃ g o, a = some ⟨g, o, none⟩ ∧ g < w.heap.size ∧ w.rangeAt g o (clC l))
theorem SlAt.nil (w : World) : SlAt w (.slice none 0 0) [] := ⟨none, 0, rfl, Nat.le_refl _, by unfold maxLen; omega, .inl ⟨rfl, fun _ => rfl⟩⟩
theorem SlAt.keep {w w' : World} {v : Value} {l : List Cl} (h : SlAt w v l) (hs : w.heap.size ≤ w'.heap.size) (hk : ∀ g o n c, v = .slice (some ⟨g, o, none⟩) n c → g < w.heap.size → w'.heap[g]? = w.heap[g]?) : SlAt w' v l := by
  obtain ⟨a, c, rfl, h1, h2, h3⟩ := h
  refine ⟨a, c, rfl, h1, h2, ?_⟩
  rcases h3 with h3 | ⟨g, o, rfl, hg, hr⟩
  · exact .inl h3
  · exact .inr ⟨g, o, rfl, by omega, fun j u hu => (World.cell?_of_block (hk g o _ c rfl hg)).trans (hr j u hu)⟩
theorem SlAt.below {w w' : World} {v : Value} {l : List Cl} (h : SlAt w v l) (hb : Below w.heap.size w w') : SlAt w' v l := h.keep hb.size (fun g _ _ _ _ hg => hb.block g hg)
theorem SlAt.own {w : World} {B : Nat} {v : Value} {l : List Cl} (h : w.ownsRow B 230 2 v l.length (clC l)) : SlAt w v l := by
  have hh := h
  obtain ⟨h1, ⟨rfl, h2⟩ | ⟨g, cap, cur, rfl, e2, e3, e4, e5, e6, e7⟩⟩ := h
  · have : l = [] := List.eq_nil_of_length_eq_zero h2
    subst this
    exact SlAt.nil w
  · refine ⟨_, cap, rfl, e4, e5, .inr ⟨g, 0, rfl, (hh.lt g rfl).2, fun j u hu => ?_⟩⟩
    have := hh.cells rfl j u hu
    rwa [Addr.add_mid] at this
theorem elCl : ElT 82 230 2 16 (.agg #[.int .u8 0, .int .i64 0]) := ⟨by kernel_rfl, by kernel_rfl, rfl, by decide, by decide, by decide⟩
theorem rtCl : RowT 230 2 := ⟨⟨_, Tryz.underlying230, rfl⟩, by kernel_rfl⟩
/-- one more element, however many there are -/
theorem gb_append' {ops : Array Oper} {rest : List Oper} {o : Oper} {a : Act} {w : World} {Q : Exit → Act → World → Prop} {TS T : TypeId} {N by' : Nat} {z : Value} (hE : ElT TS T N by' z) {B : Nat} {v : Value} {n : Nat} {xs : List Value} (hown : w.ownsRow B T N v n xs) (g : Nat) (vs : List Value) (hg : w.heap[g]? = some (.cells vs.toArray T)) (hl : vs.length = N) (h1 : ∀ u ∈ vs, u.oneCell' = true) (hn : n ≤ 1000000000) (hB : B ≤ w.heap.size) (hgd : o.guard = none) (s x : Operand)
    (ho : o.op = .call { callee := .builtin .append, args := #[s, x], argTypes := #[TS, TS] }) (hs : a.eval s = v) (hx : a.eval x = .slice (some ⟨g, 0, none⟩) 1 1)
    (h : ∀ v' w', w'.ownsRow B T N v' (n + 1) (xs ++ vs) → w.grownBy w' v.ownBlock → wpList Tryz.prog ops Q rest (a.put o.dst v') w') : wpList Tryz.prog ops Q (o :: rest) a w := by
  obtain ⟨i0, hi, hz0, hz1, hz2⟩ := info_parts hE.info
  have hb := hE.byt
  refine wpList_append_own w hgd s x _ ho B _ i0 _ N by' hE.und hi hz0 hz1 hz2 hE.zc hE.pos v n xs hs hown ⟨g, 0, none⟩ 1 1 vs hx (by rw [hl]; omega) ?_ h1 (by unfold maxLen; omega) ?_ hB (fun v' w' h1 h2 _ => h v' w' h1 h2)
  · intro j u hu
    rw [Addr.add_mid, cell_of_row _ _ _ _ _ _ hg]
    simpa using hu
  · exact Nat.le_trans (Nat.mul_le_mul (show n + 1 ≤ 1000000001 by omega) hb) (by decide)
/-- the cells of a slice, behind a row of the call's own -/
theorem cl_append {ops : Array Oper} {rest : List Oper} {o : Oper} {a : Act} {w : World} {Q : Exit → Act → World → Prop} {B : Nat} {v v2 : Value} {n : Nat} {xs : List Value} {l : List Cl} (hown : w.ownsRow B 230 2 v n xs) (hsl : SlAt w v2 l) (hn : n + l.length ≤ 1000000000) (hB : B ≤ w.heap.size) (hgd : o.guard = none) (s x : Operand)
    (ho : o.op = .call { callee := .builtin .append, args := #[s, x], argTypes := #[82, 82] }) (hs : a.eval s = v) (hx : a.eval x = v2)
    (h : ∀ v' w', w'.ownsRow B 230 2 v' (n + l.length) (xs ++ clC l) → w.grownBy w' v.ownBlock → wpList Tryz.prog ops Q rest (a.put o.dst v') w') : wpList Tryz.prog ops Q (o :: rest) a w := by
  obtain ⟨i0, hi, hz0, hz1, hz2⟩ := info_parts elCl.info
  obtain ⟨ad, c, rfl, h1, h2, h3⟩ := hsl
  cases ad with
  | none =>
    have hl : l = [] ∧ c = 0 := by
      rcases h3 with ⟨h3, h4⟩ | ⟨g, o, h3, _⟩
      · exact ⟨h3, h4 rfl⟩
      · cases h3
    obtain ⟨rfl, rfl⟩ := hl
    refine wpList_append_own_none hgd s x _ ho B _ i0 2 elCl.und hi v n xs hs hown hx ?_
    refine h v w ?_ ⟨rfl, rfl, rfl, Nat.le_refl _, fun _ _ _ => rfl⟩
    rw [clC_nil, List.append_nil]; exact hown
  | some ad =>
    have hc : ∀ j u, (clC l)[j]? = some u → w.cell? (ad.add j) = some u := by
      rcases h3 with ⟨h3, _⟩ | ⟨g, o, h3, hg, hr⟩
      · subst h3; intro j u hu; simp [clC] at hu
      · simp only [Option.some.injEq] at h3
        subst h3
        intro j u hu
        rw [Addr.add_mid]; exact hr j u hu
    exact wpList_append_own w hgd s x _ ho B _ i0 _ 2 16 elCl.und hi hz0 hz1 hz2 rfl (by decide) v n xs hs hown ad l.length c (clC l) hx (by rw [clC_len]) hc (clC_one l) (by unfold maxLen; omega) (by omega) hB (fun v' w' h1 h2 _ => h v' w' h1 h2)
/-- a place of a slice that is read -/
theorem SlAt.at' {w : World} {a : Option Addr} {n c : Nat} {l : List Cl} (h : SlAt w (.slice a n c) l) (i : Nat) (hi : i < l.length) : n = l.length ∧ ∃ g o, a = some ⟨g, o, none⟩ ∧ g < w.heap.size ∧ w.rangeAt g (o + i * 2) [.int .u8 (l[i].1.toNat : Int), .int .i64 l[i].2] := by
  obtain ⟨a', c', e, h1, h2, h3⟩ := h
  simp only [Value.slice.injEq] at e
  obtain ⟨rfl, rfl, rfl⟩ := e
  refine ⟨rfl, ?_⟩
  rcases h3 with ⟨h3, _⟩ | ⟨g, o, rfl, hg, hr⟩
  · subst h3; simp at hi
  · refine ⟨g, o, rfl, hg, fun j u hu => ?_⟩
    obtain ⟨c0, c1⟩ := clC_at l i hi
    match j, hu with
    | 0, hu => have := hr _ _ c0; simp at hu; rw [← hu]; simpa using this
    | 1, hu => have := hr _ _ c1; simp at hu; rw [← hu, Nat.add_assoc]; exact this
    | j + 2, hu => simp at hu
theorem rg_load {ops : Array Oper} {rest : List Oper} {op : Oper} {a : Act} {w : World} {Q : Exit → Act → World → Prop} {g o n : Nat} {vs : List Value} {T : TypeId} (hT : RowT T n) (hr : w.rangeAt g o vs) (hl : vs.length = n) (hgd : op.guard = none) (x : Operand) (ho : op.op = .load T x) (hx : a.eval x = .pointer (some ⟨g, o, none⟩))
    (h : wpList Tryz.prog ops Q rest (a.put op.dst (.agg vs.toArray)) w) : wpList Tryz.prog ops Q (op :: rest) a w := by
  obtain ⟨⟨d, hu, hd⟩, hi⟩ := hT
  exact wpList_load_mid hgd T x ho g o hx vs d hr hu hd (by rw [hl]; exact hi) h
theorem results_cb1 {fn : Func} {p : Tmp} {T : TypeId} {n : Nat} (h : fn.results = #[.cell p T]) (tmps : Array Value) (w : World) (g : Nat) (cs : List Value) (hp : tmps.getD p undef = .pointer (some ⟨g, 0, none⟩)) (hT : RowT T n) (hb : CB w g cs) (hl : cs.length = n) :
    (results fn tmps).run Tryz.prog w = .ok (.agg cs.toArray) w := by
  have hp' : tmps[p]?.getD undef = .pointer (some ⟨g, 0, none⟩) := by simpa using hp
  simp [results, h, hp', asAddr, cb_var hT hb hl]
theorem SlAt.form {w : World} {v : Value} {l : List Cl} (h : SlAt w v l) : ∃ a c, v = .slice a l.length c ∧ l.length ≤ c := by
  obtain ⟨a, c, h0, h1, _⟩ := h
  exact ⟨a, c, h0, h1⟩
end Go.Proofs.YtlppphmnegdhoabGreatDoor

namespace Go.Proofs.YtlppphmnegdhoabGreatDoor
set_option linter.unusedVariables false
set_option maxRecDepth 100000
open Go.RowKit
open M

theorem elB1 : ElT 151 5 1 1 (.int .u8 0) := ⟨by kernel_rfl, by kernel_rfl, rfl, by decide, by decide, by decide⟩
theorem rconv_own {w : World} {base : Nat} {v : Value} {n : Nat} {A : List UInt8} (h : w.ownsRow base 5 1 v n (A.map fun b => .int .u8 (b.toNat : Int))) : (convert 151 9 v).run Tryz.prog w = .ok (.string ⟨A.toArray⟩) w := by
  obtain ⟨h1, ⟨rfl, rfl⟩ | ⟨g, cap, cur, rfl, hrest⟩⟩ := id h
  · have : A = [] := by simpa using h1
    subst this
    exact run_convert_bytes_nil w 151 5 Tryz.underlying151 Tryz.underlying5 0 0 9 Tryz.underlying9
  · have hl : n = A.length := by simpa using h1.symm
    subst hl
    refine run_convert_bytes_back w 151 9 5 ⟨g, 0, none⟩ cap A Tryz.underlying151 Tryz.underlying5 Tryz.underlying9 (fun j hj => ?_)
    exact h.cells rfl j _ (by simp [List.getElem?_eq_getElem hj])
def bytD (A : List UInt8) : List Value := A.map fun b => .int .u8 (b.toNat : Int)
set_option maxRecDepth 100000 in
set_option maxHeartbeats 1000000 in
theorem textOf_calls (v : Value) (l : List Cl) (w : World) (h : SlAt w v l) (hl : l.length ≤ 100000) :
    Calls Tryz.prog 113 #[v] w fun e w' => e = .returned (.string (baC l)) ∧ Below w.heap.size w w' := by
  obtain ⟨a, c, rfl, hlc⟩ := h.form
  obtain ⟨n, hn⟩ : ∃ n, l.length = n := ⟨_, rfl⟩
  have HN : Hid (l.length = n) := hn
  rw [hn] at h hl ⊢
  have HS : Hid (SlAt w (.slice a n c) l) := h
  clear h hn hlc
  go_enter Tryz.func113, Tryz.ntmps113
  go_wp2_with fail
  go_loopw [3, 8] (fun v3 v8 wr => ∃ i : Nat, v8 = .int .i64 i ∧ i ≤ n ∧ wr.ownsRow w.heap.size 5 1 v3 i (bytD (textC (l.take i))) ∧ Below w.heap.size w wr) (fun _ v8 _ => n - (intOf v8).toNat)
  case atStart => exact ⟨0, rfl, Nat.zero_le _, World.ownsRow_nil _ _ _ _, Below.refl _ _⟩
  case round =>
    obtain ⟨i, rfl, hi, hown, hB⟩ := hrel
    obtain ⟨av, cv, hvv⟩ := own_form hown
    subst hvv
    have hwb := hB.size
    by_cases hlt : i < n
    · have hlt1 : (i : Int) < (n : Int) := by omega
      have h0 : (0 : Int) ≤ (i : Int) := by omega
      have hiL : i < l.length := by rw [HN.out]; exact hlt
      obtain ⟨-, g, o, rfl, hg, hr⟩ := (HS.out.below hB).at' i hiL
      have HT : Hid (bytD (textC (l.take (i + 1))) = bytD (textC (l.take i)) ++ [.int .u8 (l[i].1.toNat : Int)]) := by
        show _ = _
        rw [List.take_add_one, List.getElem?_eq_getElem hiL]
        unfold bytD textC
        rw [List.map_append, List.map_append]; rfl
      obtain ⟨x, hx⟩ : ∃ x : Nat, l[i].1.toNat = x := ⟨_, rfl⟩
      have hxc : x < 256 := by rw [← hx]; exact l[i].1.toNat_lt
      rw [hx] at hr HT
      generalize l[i].2 = y at *
      clear hx
      have hgx : ((wr.alloc (.cells #[.int .u8 x, .int .i64 y] 230)).alloc (.cells #[.int .u8 x] 5)).heap[wr.heap.size + 1]? = some (.cells #[.int .u8 x] 5) := by
        have := heap_alloc_new (wr.alloc (.cells #[.int .u8 x, .int .i64 y] 230)) (.cells #[.int .u8 x] 5)
        simpa using this
      go_wp2_with (first
        | refine rg_load rtCl hr rfl rfl _ rfl rfl ?_
        | (refine gb_append' elB1 ((hown.alloc _).alloc _) (wr.heap.size + 1) [.int .u8 x] hgx rfl (by simp [Value.oneCell']) (by omega) (by simp; omega) rfl _ _ rfl rfl rfl ?_
           intro v' w6 hown6 hgrow6
           have hB6 : Below w.heap.size w w6 := ((hB.alloc (by omega) _).alloc (by simp; omega) _).grown hgrow6 (by simp; omega) (fun k hk => (hown.lt k hk).1)
           obtain ⟨av', cv', hvv⟩ := own_form hown6
           subst hvv
           clear hgrow6))
      go_roundw
      case rel =>
        refine ⟨i + 1, by go_num, by omega, ?_, hB6⟩
        rw [HT.out]; exact hown6
      case measure => first | (simp [intOf]; done) | (simp [intOf]; omega)
    · obtain rfl : i = n := by omega
      have hlt1 : ¬ (i : Int) < (i : Int) := by omega
      rw [List.take_of_length_le (by rw [HN.out]; exact Nat.le_refl _)] at hown
      have hcv := rconv_own hown
      go_wp2
      go_ret
      exact ⟨rfl, hB⟩
/-- a list that the call makes -/
def ClPost (l : List Cl) (w : World) (e : Ending) (w' : World) : Prop := ∃ v, e = .returned v ∧ w'.ownsRow w.heap.size 230 2 v l.length (clC l) ∧ Below w.heap.size w w'
set_option maxRecDepth 100000 in
set_option maxHeartbeats 1000000 in
theorem fresh_calls (s : ByteArray) (w : World) (hs : s.size ≤ 100000) :
    Calls Tryz.prog 243 #[.string s] w fun e w' => ClPost (freshC s.data.toList) w e w' := by
  have HLN : Hid (s.data.toList.length = s.size) := ba_len s
  go_enter Tryz.func243, Tryz.ntmps243
  go_wp2_with fail
  go_loopw [3, 4] (fun v3 v4 wr => ∃ i : Nat, v4 = .int .i64 i ∧ i ≤ s.size ∧ wr.ownsRow w.heap.size 230 2 v3 i (clC (freshC (s.data.toList.take i))) ∧ Below w.heap.size w wr) (fun _ v4 _ => s.size - (intOf v4).toNat)
  case atStart => exact ⟨0, rfl, Nat.zero_le _, World.ownsRow_nil _ _ _ _, Below.refl _ _⟩
  case round =>
    obtain ⟨i, rfl, hi, hown, hB⟩ := hrel
    obtain ⟨av, cv, hvv⟩ := own_form hown
    subst hvv
    have hwb := hB.size
    by_cases hlt : i < s.size
    · have hlt1 : (i : Int) < (s.size : Int) := by omega
      have HT : Hid (clC (freshC (s.data.toList.take (i + 1))) = clC (freshC (s.data.toList.take i)) ++ [.int .u8 (s[i].toNat : Int), .int .i64 (-1)]) := by
        show _ = _
        have hiL : i < s.data.toList.length := by rw [HLN.out]; exact hlt
        rw [List.take_add_one, List.getElem?_eq_getElem hiL]
        unfold freshC
        rw [List.map_append, clC_app]; rfl
      obtain ⟨x, hx⟩ : ∃ x : Nat, s[i].toNat = x := ⟨_, rfl⟩
      have hxc : x < 256 := by rw [← hx]; exact s[i].toNat_lt
      rw [hx] at HT
      go_wp2_with (first
        | refine gb_build elCl rfl _ rfl [.int .u8 x, .int .i64 (-1)] rfl rfl ?_
        | (refine gb_append' elCl (hown.alloc _) wr.heap.size [.int .u8 x, .int .i64 (-1)] (heap_alloc_new wr _) rfl (by simp [Value.oneCell']) (by omega) (by simp; omega) rfl _ _ rfl rfl rfl ?_
           intro v' w6 hown6 hgrow6
           have hB6 : Below w.heap.size w w6 := (hB.alloc (by omega) _).grown hgrow6 (by simp; omega) (fun k hk => (hown.lt k hk).1)
           obtain ⟨av', cv', hvv⟩ := own_form hown6
           subst hvv
           clear hgrow6))
      go_roundw
      case rel =>
        refine ⟨i + 1, by go_num, by omega, ?_, hB6⟩
        rw [HT.out]; exact hown6
      case measure => first | (simp [intOf]; done) | (simp [intOf]; omega)
    · obtain rfl : i = s.size := by omega
      have hlt1 : ¬ (s.size : Int) < (s.size : Int) := by omega
      rw [List.take_of_length_le (by rw [HLN.out]; exact Nat.le_refl _)] at hown
      have hlf : (freshC s.data.toList).length = s.size := by rw [← HLN.out]; simp [freshC]
      go_wp2
      go_ret
      exact ⟨_, rfl, by rw [hlf]; exact hown, hB⟩
end Go.Proofs.YtlppphmnegdhoabGreatDoor

namespace Go.Proofs.YtlppphmnegdhoabGreatDoor
set_option linter.unusedVariables false
set_option maxRecDepth 100000
open Go.RowKit
open M

theorem grown_below {w w' : World} {v : Value} {B : Nat} (hg : w.grownBy w' v.ownBlock) (hB : B ≤ w.heap.size) (hown : ∀ k, v.ownBlock = some k → B ≤ k) : Below B w w' :=
  (Below.refl B w).grown hg hB hown
set_option maxRecDepth 100000 in
set_option maxHeartbeats 1000000 in
theorem rnewline_calls (o : Int) (w : World) :
    Calls Tryz.prog 187 #[.int .i64 o] w fun e w' => e = .returned (.agg #[.int .u8 10, .int .i64 o]) ∧ Below w.heap.size w w' := by
  have hbn : CB (w.alloc (.cells #[.int .u8 0, .int .i64 0] 230)) w.heap.size [.int .u8 0, .int .i64 0] := CB.new w _ #[.int .u8 0, .int .i64 0] (by simp [Value.oneCell'])
  have B0 : Below w.heap.size w (w.alloc (.cells #[.int .u8 0, .int .i64 0] 230)) := (Below.refl _ _).alloc (Nat.le_refl _) _
  go_enter Tryz.func187, Tryz.ntmps187
  go_wp2_with (refine cb_store0 rtCl hbn rfl rfl _ _ rfl rfl (vs := [.int .u8 10, .int .i64 o]) rfl rfl (by simp [Value.oneCell']) ?_; intro w8 hb8 O8)
  refine bodyPost_ret (results_cb1 rfl _ _ _ _ rfl rtCl hb8 rfl) rfl ?_
  exact ⟨rfl, B0.trans (O8.below (Nat.le_refl _))⟩
set_option maxRecDepth 100000 in
set_option maxHeartbeats 1000000 in
theorem rjoined_calls (va vb : Value) (a b : List Cl) (x : Nat) (o : Int) (c : UInt8) (w : World) (hc : c.toNat = x) (ha : SlAt w va a) (hb : SlAt w vb b) (hl : a.length + b.length ≤ 100000) :
    Calls Tryz.prog 189 #[va, .agg #[.int .u8 x, .int .i64 o], vb] w fun e w' => ClPost (joinC a (c, o) b) w e w' := by
  have HC : Hid (clC [(c, o)] = [.int .u8 x, .int .i64 o]) := by show _ = _; rw [← hc]; rfl
  have hxc : x < 256 := by rw [← hc]; exact c.toNat_lt
  clear hc
  have hb0 : CB (w.alloc (.cells #[.int .u8 x, .int .i64 o] 230)) w.heap.size [.int .u8 x, .int .i64 o] := CB.new w _ #[.int .u8 x, .int .i64 o] (by simp [Value.oneCell'])
  have B0 : Below w.heap.size w (w.alloc (.cells #[.int .u8 x, .int .i64 o] 230)) := (Below.refl _ _).alloc (Nat.le_refl _) _
  have ha0 := ha.below B0
  have hsz0 : (w.alloc (.cells #[.int .u8 x, .int .i64 o] 230)).heap.size = w.heap.size + 1 := by simp
  have hn0 : (w.alloc (.cells #[.int .u8 x, .int .i64 o] 230)).ownsRow (w.heap.size + 1) 230 2 (.slice none 0 0) 0 [] := World.ownsRow_nil _ _ _ _
  obtain ⟨aa, ac, rfl, hac⟩ := ha.form
  obtain ⟨ba, bc, rfl, hbc⟩ := hb.form
  obtain ⟨na, hna⟩ : ∃ n, a.length = n := ⟨_, rfl⟩
  obtain ⟨nb, hnb⟩ : ∃ n, b.length = n := ⟨_, rfl⟩
  have HNA : Hid (a.length = na) := hna
  have HNB : Hid (b.length = nb) := hnb
  rw [hna] at ha0 hl ⊢
  rw [hnb] at hb hl ⊢
  have HBO : Hid (SlAt w (.slice ba nb bc) b) := hb
  clear ha hb hac hbc hna hnb
  go_enter Tryz.func189, Tryz.ntmps189
  go_wp2_with (first
    | (refine cl_append hn0 ha0 (by rw [HNA.out]; omega) (by omega) rfl (.tmp 8) (.tmp 9) rfl rfl rfl ?_
       intro v1 w1 hown1 hg1
       rw [HNA.out, Nat.zero_add, List.nil_append] at hown1
       have hB1 := grown_below (B := w.heap.size + 1) hg1 (by omega) (fun k hk => by cases hk)
       have hcb1 := hb0.below hB1 (by omega)
       have BB1 := B0.trans (hB1.mono (by omega))
       have hs1 := hg1.size
       obtain ⟨a1, c1, hv1⟩ := own_form hown1
       subst hv1)
    | refine cb_load0 rtCl hcb1 rfl rfl _ rfl rfl ?_
    | refine gb_build elCl rfl _ rfl [.int .u8 x, .int .i64 o] rfl rfl ?_
    | (refine gb_append' elCl (hown1.alloc _) w1.heap.size [.int .u8 x, .int .i64 o] (heap_alloc_new w1 _) rfl (by simp [Value.oneCell']) (by omega) (by simp; omega) rfl (.tmp 11) (.tmp 13) rfl rfl rfl ?_
       intro v2 w2 hown2 hg2
       have hB2 : Below (w.heap.size + 1) w1 w2 := ((Below.refl _ _).alloc (by omega) _).grown hg2 (by simp; omega) (fun k hk => (hown1.lt k hk).1)
       have hs2 := hg2.size
       have BB2 := BB1.trans (hB2.mono (by omega))
       have hbb2 := HBO.out.below BB2
       obtain ⟨a2, c2, hv2⟩ := own_form hown2
       subst hv2)
    | (refine cl_append hown2 hbb2 (by rw [HNB.out]; omega) (by simp at hs2; omega) rfl (.tmp 15) (.tmp 16) rfl rfl rfl ?_
       intro v3 w3 hown3 hg3
       rw [HNB.out] at hown3
       have hB3 := grown_below (B := w.heap.size + 1) hg3 (by simp at hs2; omega) (fun k hk => (hown2.lt k hk).1)
       have BB3 := BB2.trans (hB3.mono (by omega))
       obtain ⟨a3, c3, hv3⟩ := own_form hown3
       subst hv3))
  go_ret
  refine ⟨_, rfl, ?_, BB3⟩
  have hlen : (joinC a (c, o) b).length = na + 1 + nb := by unfold joinC; rw [List.length_append, List.length_append, HNA.out, HNB.out]; rfl
  have hcl : clC (joinC a (c, o) b) = clC a ++ [.int .u8 x, .int .i64 o] ++ clC b := by unfold joinC; rw [clC_app, clC_app, HC.out]
  rw [hlen, hcl]
  exact ownsRow_base hown3 (by omega)
set_option maxRecDepth 100000 in
set_option maxHeartbeats 1000000 in
theorem behindNewline_calls (v : Value) (l : List Cl) (w : World) (h : SlAt w v l) (hl : l.length ≤ 100000) :
    Calls Tryz.prog 245 #[v] w fun e w' => e = .returned (.int .i64 (behNL l : Nat)) ∧ Below w.heap.size w w' := by
  obtain ⟨a, c, rfl, hlc⟩ := h.form
  obtain ⟨n, hn⟩ : ∃ n, l.length = n := ⟨_, rfl⟩
  have HN : Hid (l.length = n) := hn
  rw [hn] at h hl ⊢
  have HS : Hid (SlAt w (.slice a n c) l) := h
  clear h hn hlc
  go_enter Tryz.func245, Tryz.ntmps245
  go_wp2_with fail
  go_loopw [7] (fun v7 wr => ∃ i : Nat, v7 = .int .i64 i ∧ i ≤ n ∧ Hid (behNL l = if behNL (l.drop i) = 0 then 0 else i + behNL (l.drop i)) ∧ Below w.heap.size w wr) (fun v7 _ => n - (intOf v7).toNat)
  case atStart =>
    refine ⟨0, rfl, Nat.zero_le _, ?_, Below.refl _ _⟩
    show _ = _
    rw [List.drop_zero]
    split <;> omega
  case round =>
    obtain ⟨i, rfl, hi, HB, hB⟩ := hrel
    have hwb := hB.size
    by_cases hlt : i < n
    · have hlt1 : (i : Int) < (n : Int) := by omega
      have h0 : (0 : Int) ≤ (i : Int) := by omega
      have hiL : i < l.length := by rw [HN.out]; exact hlt
      obtain ⟨-, g, o, rfl, hg, hr⟩ := (HS.out.below hB).at' i hiL
      have HB2 : Hid (behNL l = if l[i].1.toNat = 10 then i + 1 else if behNL (l.drop (i + 1)) = 0 then 0 else (i + 1) + behNL (l.drop (i + 1))) := by
        show _ = _
        rw [HB.out, List.drop_eq_getElem_cons hiL, behNL]
        split
        · simp
        · split <;> simp <;> omega
      obtain ⟨x, hx⟩ : ∃ x : Nat, l[i].1.toNat = x := ⟨_, rfl⟩
      have hxc : x < 256 := by rw [← hx]; exact l[i].1.toNat_lt
      rw [hx] at hr HB2
      generalize l[i].2 = y at *
      clear hx HB
      by_cases h10 : x = 10
      · have h101 : ((x : Int) == 10) = true := by simp [h10]
        have HF : Hid (behNL l = i + 1) := by show _ = _; rw [HB2.out, if_pos h10]
        clear h10 HB2
        have hB5 := hB.alloc hwb (.cells #[.int .u8 x, .int .i64 y] 230)
        go_wp2_with (refine rg_load rtCl hr rfl rfl _ rfl rfl ?_)
        go_ret
        exact ⟨by rw [HF.out]; rfl, hB5⟩
      · have h101 : ((x : Int) == 10) = false := by simp; omega
        have HF : Hid (behNL l = if behNL (l.drop (i + 1)) = 0 then 0 else (i + 1) + behNL (l.drop (i + 1))) := by show _ = _; rw [HB2.out, if_neg h10]
        clear h10 HB2
        have hB5 := hB.alloc hwb (.cells #[.int .u8 x, .int .i64 y] 230)
        go_wp2_with (refine rg_load rtCl hr rfl rfl _ rfl rfl ?_)
        go_roundw
        case rel => exact ⟨i + 1, by go_num, by omega, HF, hB5⟩
        case measure => first | (simp [intOf]; done) | (simp [intOf]; omega)
    · obtain rfl : i = n := by omega
      have hlt1 : ¬ (i : Int) < (i : Int) := by omega
      have HF : Hid (behNL l = 0) := by
        show _ = _
        rw [HB.out, List.drop_of_length_le (by rw [HN.out]; exact Nat.le_refl _)]; rfl
      clear HB
      go_wp2
      go_ret
      exact ⟨by rw [HF.out]; rfl, hB⟩
theorem SlAt.sub {w : World} {g o n c : Nat} {l : List Cl} {i j : Nat} (h : SlAt w (.slice (some ⟨g, o, none⟩) n c) l) (hij : i ≤ j) (hj : j ≤ l.length) : SlAt w (.slice (some ⟨g, o + i * 2, none⟩) (j - i) (c - i)) (partC l i j) := by
  have hlp : (partC l i j).length = j - i := by unfold partC; rw [List.length_take, List.length_drop]; omega
  obtain ⟨a', c', e, h1, h2, h3⟩ := h
  simp only [Value.slice.injEq] at e
  obtain ⟨e1, rfl, rfl⟩ := e
  refine ⟨some ⟨g, o + i * 2, none⟩, c - i, by rw [hlp], by rw [hlp]; omega, by omega, ?_⟩
  rcases h3 with ⟨h3, _⟩ | ⟨g', o', h3, hg, hr⟩
  · left
    refine ⟨?_, fun h => by cases h⟩
    subst h3
    simp [partC]
  · rw [← e1] at h3
    simp only [Option.some.injEq, Addr.mk.injEq] at h3
    obtain ⟨rfl, rfl, _⟩ := h3
    refine .inr ⟨g, o + i * 2, rfl, hg, fun q u hu => ?_⟩
    unfold partC at hu
    rw [← clC_take, ← clC_drop, List.getElem?_take] at hu
    split at hu
    · rw [List.getElem?_drop] at hu
      have := hr _ u hu
      rwa [← Nat.add_assoc] at this
    · cases hu
theorem SlAt.zero (w : World) (ad : Addr) (c : Nat) (hc : c ≤ maxLen) : SlAt w (.slice (some ad) 0 c) [] := ⟨_, c, rfl, Nat.zero_le _, hc, .inl ⟨rfl, fun h => by cases h⟩⟩
/-- a part of a slice -/
def PtPost (v : Value) (l0 l : List Cl) (w : World) (e : Ending) (w' : World) : Prop := w' = w ∧ ∃ v', e = .returned v' ∧ SlAt w v' l ∧ ∀ w2, SlAt w2 v l0 → SlAt w2 v' l
set_option maxRecDepth 100000 in
set_option maxHeartbeats 1000000 in
theorem part_calls (v : Value) (l : List Cl) (i j : Nat) (w : World) (h : SlAt w v l) (hij : i ≤ j) (hj : j ≤ l.length) (hl : l.length ≤ 100000) :
    Calls Tryz.prog 112 #[v, .int .i64 i, .int .i64 j] w fun e w' => PtPost v l (partC l i j) w e w' := by
  have HSA : Hid (SlAt w v l) := h
  obtain ⟨a, c, rfl, hlc, hcm, hor⟩ := h
  have hlp : (partC l i j).length = j - i := by unfold partC; rw [List.length_take, List.length_drop]; omega
  have HJ : Hid (j ≤ l.length) := hj
  obtain ⟨n, hn⟩ : ∃ n, l.length = n := ⟨_, rfl⟩
  have HN : Hid (l.length = n) := hn
  rw [hn] at hj hl hlc HSA ⊢
  have h1 : ¬ (i : Int) < 0 := by omega
  have h2 : ¬ (j : Int) < (i : Int) := by omega
  have h3 : ¬ (n : Int) < (j : Int) := by omega
  have h4 : (0 : Int) ≤ (i : Int) := by omega
  have h5 : (i : Int) ≤ (j : Int) := by omega
  have h6 : (j : Int) ≤ (c : Int) := by omega
  clear hn
  rcases hor with ⟨rfl, ha⟩ | ⟨g, o, rfl, hg, hr⟩
  · obtain rfl : n = 0 := HN.out.symm
    obtain ⟨rfl, rfl⟩ : i = 0 ∧ j = 0 := by omega
    cases a with
    | none =>
      obtain rfl := ha rfl
      go_enter Tryz.func112, Tryz.ntmps112
      go_wp2
      go_ret
      exact ⟨rfl, _, rfl, SlAt.nil w, fun w2 _ => SlAt.nil w2⟩
    | some ad =>
      go_enter Tryz.func112, Tryz.ntmps112
      go_wp2
      go_ret
      exact ⟨rfl, _, rfl, SlAt.zero w ad c hcm, fun w2 _ => SlAt.zero w2 ad c hcm⟩
  · have HLP : Hid ((partC l i j).length = j - i) := hlp
    clear hr hlp
    go_enter Tryz.func112, Tryz.ntmps112
    go_wp2
    · go_ret
      have hz : j - i = 0 := by omega
      have hp : partC l i j = [] := List.eq_nil_of_length_eq_zero (by rw [HLP.out, hz])
      have hall : ∀ w2, SlAt w2 (.slice (some ⟨g, o, none⟩) (j - i) 0) (partC l i j) := fun w2 => by
        rw [hp, hz]
        exact SlAt.zero w2 _ 0 (by unfold maxLen; omega)
      exact ⟨rfl, _, rfl, hall w, fun w2 _ => hall w2⟩
    · go_ret
      exact ⟨rfl, _, rfl, HSA.out.sub hij HJ.out, fun w2 h2 => h2.sub hij HJ.out⟩
end Go.Proofs.YtlppphmnegdhoabGreatDoor

namespace Go.Proofs.YtlppphmnegdhoabGreatDoor
set_option linter.unusedVariables false
set_option maxRecDepth 100000
open Go.RowKit
open M

/-- the slices that a run leads to -/
structure RV where
  scr : Value
  rng : Value
  out : Value
  pat : Value
  hold : Value
  que : Value
def runC (V : RV) (S : St) : List Value := [V.scr, V.rng, .bool S.quiet, .int .i64 (S.steps : Nat), .int .i64 (S.room : Nat), .string S.text, .bool S.closed, .int .i64 (S.behind : Nat), .int .i64 S.nl, V.out, V.pat, V.hold, .int .i64 (S.line : Nat), V.que, .bool S.mark, .int .i64 (S.next : Nat), .int .i64 (S.asks : Nat), .bool S.over, .int .i64 (S.death : Nat)]
theorem runC_len (V : RV) (S : St) : (runC V S).length = 19 := rfl
/-- the blocks that a run writes into -/
def foot (b : Nat) (V : RV) (k : Nat) : Prop := k = b ∨ V.out.ownBlock = some k ∨ V.rng.ownBlock = some k ∨ V.que.ownBlock = some k
/-- a fact that hangs on no block of these -/
def Stab (F : Nat → Prop) (w : World) (P : World → Prop) : Prop := ∀ w', w.heap.size ≤ w'.heap.size → (∀ k, k < w.heap.size → ¬ F k → w'.heap[k]? = w.heap[k]?) → P w'
theorem Stab.out {F : Nat → Prop} {w : World} {P : World → Prop} (h : Stab F w P) : P w := h w (Nat.le_refl _) (fun _ _ _ => rfl)
theorem Stab.mono {F : Nat → Prop} {w : World} {P Q : World → Prop} (h : Stab F w P) (hq : ∀ w', P w' → Q w') : Stab F w Q := fun w' h1 h2 => hq _ (h w' h1 h2)
theorem Stab.and {F : Nat → Prop} {w : World} {P Q : World → Prop} (h : Stab F w P) (g : Stab F w Q) : Stab F w (fun w => P w ∧ Q w) := fun w' h1 h2 => ⟨h w' h1 h2, g w' h1 h2⟩
/-- what a call on a run may change -/
structure Rf (F F' : Nat → Prop) (w w' : World) : Prop where
  os : w'.os = w.os
  tape : w'.tape = w.tape
  output : w'.output = w.output
  size : w.heap.size ≤ w'.heap.size
  block : ∀ k, k < w.heap.size → ¬ F k → w'.heap[k]? = w.heap[k]?
  new : ∀ k, F' k → F k ∨ w.heap.size ≤ k
theorem Rf.refl (F : Nat → Prop) (w : World) : Rf F F w w := ⟨rfl, rfl, rfl, Nat.le_refl _, fun _ _ _ => rfl, fun _ h => .inl h⟩
theorem Rf.trans {F G H : Nat → Prop} {x y z : World} (h : Rf F G x y) (k : Rf G H y z) : Rf F H x z := by
  refine ⟨k.os.trans h.os, k.tape.trans h.tape, k.output.trans h.output, Nat.le_trans h.size k.size, fun i hi hF => ?_, fun i hi => ?_⟩
  · refine (k.block i (Nat.lt_of_lt_of_le hi h.size) (fun hG => ?_)).trans (h.block i hi hF)
    rcases h.new i hG with h1 | h1
    · exact hF h1
    · omega
  · rcases k.new i hi with h1 | h1
    · exact h.new i h1
    · exact .inr (Nat.le_trans h.size h1)
theorem Rf.of_below {F : Nat → Prop} {w w' : World} (h : Below w.heap.size w w') : Rf F F w w' := ⟨h.os, h.tape, h.output, h.size, fun k hk _ => h.block k hk, fun _ h => .inl h⟩
theorem Stab.fr {F G : Nat → Prop} {w w' : World} {P : World → Prop} (h : Stab F w P) (hf : Rf F G w w') : Stab G w' P := fun w'' h1 h2 => by
  refine h w'' (Nat.le_trans hf.size h1) (fun k hk hF => ?_)
  refine (h2 k (Nat.lt_of_lt_of_le hk hf.size) (fun hG => ?_)).trans (hf.block k hk hF)
  rcases hf.new k hG with h3 | h3
  · exact hF h3
  · omega
theorem Stab.slat {F : Nat → Prop} {w : World} {v : Value} {l : List Cl} (h : SlAt w v l) (hF : ∀ g o n c, v = .slice (some ⟨g, o, none⟩) n c → ¬ F g) : Stab F w (fun w => SlAt w v l) := fun w' h1 h2 => h.keep h1 (fun g o n c hv hg => h2 g hg (hF g o n c hv))
/-- what a run reads and does not write: P: of its script, and what else lies there -/
structure RunAt (P : Value → World → Prop) (b : Nat) (tl : List Value) (V : RV) (S : St) (w : World) : Prop where
  box : CB w b (runC V S ++ tl)
  out : w.ownsRow 0 230 2 V.out S.out.length (clC S.out)
  rng : w.ownsRow 0 4 1 V.rng S.rng.length (S.rng.map .bool)
  que : w.ownsRow 0 9 1 V.que S.queue.length (S.queue.map .string)
  so : V.out.ownBlock ≠ some b
  sr : V.rng.ownBlock ≠ some b
  sq : V.que.ownBlock ≠ some b
  scr : Stab (foot b V) w (P V.scr)
  pat : Stab (foot b V) w (fun w => SlAt w V.pat S.pat)
  hold : Stab (foot b V) w (fun w => SlAt w V.hold S.hold)
  one : V.scr.oneCell' = true
theorem ownsRow_fr {F G : Nat → Prop} {w w' : World} {base : Nat} {e : TypeId} {size : Nat} {v : Value} {n : Nat} {xs : List Value} (h : w.ownsRow base e size v n xs) (hk : ∀ k, v.ownBlock = some k → w'.heap[k]? = w.heap[k]?) : w'.ownsRow base e size v n xs := by
  obtain ⟨h1, h2⟩ := h
  refine ⟨h1, ?_⟩
  rcases h2 with h2 | ⟨q, cap, cur, e1, e2, e3, e4⟩
  · exact .inl h2
  · exact .inr ⟨q, cap, cur, e1, e2, by rw [hk q (by rw [e1]; rfl)]; exact e3, e4⟩
section
variable {P : Value → World → Prop} {b : Nat} {tl : List Value} {V : RV} {S : St} {w w' : World}
theorem RunAt.below (h : RunAt P b tl V S w) (hb : Below w.heap.size w w') : RunAt P b tl V S w' :=
  ⟨h.box.below hb h.box.lt, ownsRow_below h.out hb, ownsRow_below h.rng hb, ownsRow_below h.que hb, h.so, h.sr, h.sq, h.scr.fr (.of_below hb), h.pat.fr (.of_below hb), h.hold.fr (.of_below hb), h.one⟩
theorem RunAt.cell (h : RunAt P b tl V S w) (j : Nat) (v : Value) (hv : (runC V S)[j]? = some v) : w.cell? ⟨b, j, none⟩ = some v :=
  h.box.c j v (by rw [List.getElem?_append_left (by have := (List.getElem?_eq_some_iff.1 hv).1; exact this)]; exact hv)
theorem RunAt.fz (h : RunAt P b tl V S w) (j : Nat) (hj : j < 19) : w.frozen? ⟨b, j, none⟩ = false := h.box.fz j (by rw [List.length_append, runC_len]; omega)
theorem Rf.set (V : RV) (b j : Nat) (u : Value) (w : World) : Rf (foot b V) (foot b V) w (w.setCell ⟨b, j, none⟩ u) :=
  ⟨rfl, rfl, rfl, by simp, fun k _ hk => heap_setCell_other w _ k u (fun e => hk (.inl e)), fun _ h => .inl h⟩
theorem RunAt.set (h : RunAt P b tl V S w) (j : Nat) (hj : j < 19) (u : Value) (hu : u.oneCell' = true) (S' : St) (hC : (runC V S).set j u = runC V S') (ho : S'.out = S.out) (hr : S'.rng = S.rng) (hq : S'.queue = S.queue) (hp : S'.pat = S.pat) (hh : S'.hold = S.hold) : RunAt P b tl V S' (w.setCell ⟨b, j, none⟩ u) := by
  have hf := Rf.set V b j u w
  have hk : ∀ k, k ≠ b → (w.setCell ⟨b, j, none⟩ u).heap[k]? = w.heap[k]? := fun k hk => heap_setCell_other w _ k u hk
  refine ⟨?_, ?_, ?_, ?_, h.so, h.sr, h.sq, h.scr.fr hf, ?_, ?_, h.one⟩
  · have h1 := h.box.set j (by rw [List.length_append, runC_len]; omega) u hu
    rw [List.set_append_left _ _ (by rw [runC_len]; omega), hC] at h1
    exact h1
  · rw [ho]; exact ownsRow_fr (F := foot b V) (G := foot b V) h.out (fun k e => hk k (fun e' => h.so (by rw [e, e'])))
  · rw [hr]; exact ownsRow_fr (F := foot b V) (G := foot b V) h.rng (fun k e => hk k (fun e' => h.sr (by rw [e, e'])))
  · rw [hq]; exact ownsRow_fr (F := foot b V) (G := foot b V) h.que (fun k e => hk k (fun e' => h.sq (by rw [e, e'])))
  · rw [hp]; exact h.pat.fr hf
  · rw [hh]; exact h.hold.fr hf
end
/-- behind a call on a run -/
def RPost (P : Value → World → Prop) (b : Nat) (tl : List Value) (V : RV) (S' : St) (w w' : World) : Prop := ∃ V', V'.scr = V.scr ∧ RunAt P b tl V' S' w' ∧ Rf (foot b V) (foot b V') w w'
/-- behind a call that changes but the row of what was put out -/
def RV.withOut (V : RV) (v : Value) : RV := ⟨V.scr, V.rng, v, V.pat, V.hold, V.que⟩
def OPost (P : Value → World → Prop) (b : Nat) (tl : List Value) (V : RV) (S' : St) (w w' : World) : Prop := ∃ v, RunAt P b tl (V.withOut v) S' w' ∧ Rf (foot b V) (foot b (V.withOut v)) w w'
theorem OPost.toR {P : Value → World → Prop} {b : Nat} {tl : List Value} {V : RV} {S' : St} {w w' : World} (h : OPost P b tl V S' w w') : RPost P b tl V S' w w' := by
  obtain ⟨v, h1, h2⟩ := h
  exact ⟨V.withOut v, rfl, h1, h2⟩
theorem OPost.pre {P : Value → World → Prop} {b : Nat} {tl : List Value} {V : RV} {S' : St} {w w1 w' : World} (hf : Rf (foot b V) (foot b V) w w1) (h : OPost P b tl V S' w1 w') : OPost P b tl V S' w w' := by
  obtain ⟨v, h1, h2⟩ := h
  exact ⟨v, h1, hf.trans h2⟩
theorem OPost.trans {P : Value → World → Prop} {b : Nat} {tl : List Value} {V : RV} {v : Value} {S' : St} {w w1 w' : World} (hf : Rf (foot b V) (foot b (V.withOut v)) w w1) (h : OPost P b tl (V.withOut v) S' w1 w') : OPost P b tl V S' w w' := by
  obtain ⟨v2, h1, h2⟩ := h
  exact ⟨v2, h1, hf.trans h2⟩
def VOPost (P : Value → World → Prop) (b : Nat) (tl : List Value) (V : RV) (S' : St) (w : World) (e : Ending) (w' : World) : Prop := e = .returned (.tuple #[]) ∧ OPost P b tl V S' w w'
/-- a method that answers nothing -/
def VPost (P : Value → World → Prop) (b : Nat) (tl : List Value) (V : RV) (S' : St) (w : World) (e : Ending) (w' : World) : Prop := e = .returned (.tuple #[]) ∧ RPost P b tl V S' w w'
set_option maxRecDepth 100000 in
theorem die_calls (P : Value → World → Prop) (b : Nat) (tl : List Value) (V : RV) (S : St) (x : Nat) (w : World) (h : RunAt P b tl V S w) :
    Calls Tryz.prog 181 #[.pointer (some ⟨b, 0, none⟩), .int .i64 (x : Nat)] w fun e w' => VOPost P b tl V (S.die x) w e w' := by
  have c18 := h.cell 18 _ rfl
  have f18 := h.fz 18 (by decide)
  have f17 := h.fz 17 (by decide)
  have c17 := h.cell 17 _ rfl
  have hlt := h.box.lt
  by_cases hd : S.death = 0
  · have h1 : (((S.death : Nat) : Int) == 0) = true := by simp [hd]
    have hA := h.set 18 (by decide) (.int .i64 (x : Nat)) rfl { S with death := x } rfl rfl rfl rfl rfl rfl
    have hB := hA.set 17 (by decide) (.bool true) rfl { S with death := x, over := true } rfl rfl rfl rfl rfl rfl
    have HR : Hid (OPost P b tl V (S.die x) w ((w.setCell ⟨b, 18, none⟩ (.int .i64 (x : Nat))).setCell ⟨b, 17, none⟩ (.bool true))) := by
      refine ⟨V.out, ?_, (Rf.set V b 18 _ w).trans (Rf.set V b 17 _ _)⟩
      unfold St.die
      rw [if_pos hd]; exact hB
    clear hA hB h hd
    go_enter Tryz.func181, Tryz.ntmps181
    go_wp2
    go_end0
    exact ⟨rfl, HR.out⟩
  · have h1 : (((S.death : Nat) : Int) == 0) = false := by simp; omega
    have hB := h.set 17 (by decide) (.bool true) rfl { S with over := true } rfl rfl rfl rfl rfl rfl
    have HR : Hid (OPost P b tl V (S.die x) w (w.setCell ⟨b, 17, none⟩ (.bool true))) := by
      refine ⟨V.out, ?_, Rf.set V b 17 _ w⟩
      unfold St.die
      rw [if_neg hd]; exact hB
    clear hB h hd
    go_enter Tryz.func181, Tryz.ntmps181
    go_wp2
    go_end0
    exact ⟨rfl, HR.out⟩
end Go.Proofs.YtlppphmnegdhoabGreatDoor

namespace Go.Proofs.YtlppphmnegdhoabGreatDoor
set_option linter.unusedVariables false
set_option maxRecDepth 100000
open Go.RowKit
open M

/-- rows of different elements lie apart -/
theorem rows_far {w : World} {B B' : Nat} {e e' : TypeId} {s s' : Nat} {v v' : Value} {n n' : Nat} {xs xs' : List Value} (h : w.ownsRow B e s v n xs) (h' : w.ownsRow B' e' s' v' n' xs') (hne : e ≠ e') (k : Nat) (hk : v.ownBlock = some k) : v'.ownBlock ≠ some k := fun hk' => by
  rcases h.2 with ⟨rfl, _⟩ | ⟨g, cap, cur, rfl, _, hg, _⟩
  · cases hk
  rcases h'.2 with ⟨rfl, _⟩ | ⟨g', cap', cur', rfl, _, hg', _⟩
  · cases hk'
  have e1 : g = k := by simpa [Value.ownBlock] using hk
  have e2 : g' = k := by simpa [Value.ownBlock] using hk'
  subst e1 e2
  rw [hg] at hg'
  simp only [Option.some.injEq, Obj.cells.injEq] at hg'
  exact hne hg'.2.1
theorem own_one {w : World} {B : Nat} {e : TypeId} {s : Nat} {v : Value} {n : Nat} {xs : List Value} (h : w.ownsRow B e s v n xs) : v.oneCell' = true := by
  rcases h.2 with ⟨rfl, _⟩ | ⟨g, cap, cur, rfl, _⟩ <;> rfl
theorem cl_append_at {ops : Array Oper} {rest : List Oper} {o : Oper} {a : Act} {w : World} {Q : Exit → Act → World → Prop} {B : Nat} {v v2 : Value} {n : Nat} {xs : List Value} {l : List Cl} (hown : w.ownsRow B 230 2 v n xs) (hsl : SlAt w v2 l) (hn : n + l.length ≤ 1000000000) (hB : B ≤ w.heap.size) (hgd : o.guard = none) (s x : Operand)
    (ho : o.op = .call { callee := .builtin .append, args := #[s, x], argTypes := #[82, 82] }) (hs : a.eval s = v) (hx : a.eval x = v2)
    (h : ∀ v' w', w'.ownsRow B 230 2 v' (n + l.length) (xs ++ clC l) → w.grownBy w' v.ownBlock → (v'.ownBlock = v.ownBlock ∨ v'.ownBlock = some w.heap.size) → wpList Tryz.prog ops Q rest (a.put o.dst v') w') : wpList Tryz.prog ops Q (o :: rest) a w := by
  obtain ⟨i0, hi, hz0, hz1, hz2⟩ := info_parts elCl.info
  obtain ⟨ad, c, rfl, h1, h2, h3⟩ := hsl
  cases ad with
  | none =>
    have hl : l = [] ∧ c = 0 := by
      rcases h3 with ⟨h3, h4⟩ | ⟨g, o, h3, _⟩
      · exact ⟨h3, h4 rfl⟩
      · cases h3
    obtain ⟨rfl, rfl⟩ := hl
    refine wpList_append_own_none hgd s x _ ho B _ i0 2 elCl.und hi v n xs hs hown hx ?_
    refine h v w ?_ ⟨rfl, rfl, rfl, Nat.le_refl _, fun _ _ _ => rfl⟩ (.inl rfl)
    rw [clC_nil, List.append_nil]; exact hown
  | some ad =>
    have hc : ∀ j u, (clC l)[j]? = some u → w.cell? (ad.add j) = some u := by
      rcases h3 with ⟨h3, _⟩ | ⟨g, o, h3, hg, hr⟩
      · subst h3; intro j u hu; simp [clC] at hu
      · simp only [Option.some.injEq] at h3
        subst h3
        intro j u hu
        rw [Addr.add_mid]; exact hr j u hu
    exact wpList_append_own_at w hgd s x _ ho B _ i0 _ 2 16 elCl.und hi hz0 hz1 hz2 rfl (by decide) v n xs hs hown ad l.length c (clC l) hx (by rw [clC_len]) hc (clC_one l) (by unfold maxLen; omega) (by omega) hB (fun v' w' h1 h2 _ h4 => h v' w' h1 h2 h4)
section
variable {P : Value → World → Prop} {b : Nat} {tl : List Value} {V : RV} {S : St} {w w' : World}
theorem RunAt.grow (h : RunAt P b tl V S w) {v' : Value} {l : List Cl} (hown : w'.ownsRow 0 230 2 v' (S.out.length + l.length) (clC S.out ++ clC l)) (hg : w.grownBy w' V.out.ownBlock) (hat : v'.ownBlock = V.out.ownBlock ∨ v'.ownBlock = some w.heap.size) :
    CB w' b (runC V S ++ tl) ∧ OPost P b tl V { S with out := S.out ++ l } w (w'.setCell ⟨b, 9, none⟩ v') := by
  have hbl := h.box.lt
  have hk : ∀ k, k < w.heap.size → V.out.ownBlock ≠ some k → w'.heap[k]? = w.heap[k]? := fun k hk hne => hg.block k hk (fun e => hne e.symm)
  have hbx := h.box.keep (hk b hbl h.so) hg.size
  refine ⟨hbx, v', ?_⟩
  have hvb : v'.ownBlock ≠ some b := by
    rcases hat with e | e <;> rw [e]
    · exact h.so
    · intro e'; simp at e'; omega
  have f1 : Rf (foot b V) (foot b ⟨V.scr, V.rng, v', V.pat, V.hold, V.que⟩) w w' := by
    refine ⟨hg.os, hg.tape, hg.output, hg.size, fun k hk' hF => hk k hk' (fun e => hF (.inr (.inl e))), fun k hF => ?_⟩
    rcases hF with e | e | e | e
    · exact .inl (.inl e)
    · rcases hat with e' | e'
      · exact .inl (.inr (.inl (by rw [← e']; exact e)))
      · have e : v'.ownBlock = some k := e
        rw [e'] at e
        simp at e
        exact .inr (by omega)
    · exact .inl (.inr (.inr (.inl e)))
    · exact .inl (.inr (.inr (.inr e)))
  have f2 := f1.trans (Rf.set ⟨V.scr, V.rng, v', V.pat, V.hold, V.que⟩ b 9 v' w')
  have hk2 : ∀ k, k ≠ b → (w'.setCell ⟨b, 9, none⟩ v').heap[k]? = w'.heap[k]? := fun k hk => heap_setCell_other w' _ k v' hk
  refine ⟨⟨?_, ?_, ?_, ?_, hvb, h.sr, h.sq, h.scr.fr f2, h.pat.fr f2, h.hold.fr f2, h.one⟩, f2⟩
  · have h1 := hbx.set 9 (by rw [List.length_append, runC_len]; omega) v' (own_one hown)
    rw [List.set_append_left _ _ (by rw [runC_len]; omega)] at h1
    exact h1
  · show World.ownsRow _ 0 _ 2 v' (S.out ++ l).length (clC (S.out ++ l))
    rw [List.length_append, clC_app]
    exact ownsRow_fr (F := foot b V) (G := foot b V) hown (fun k e => hk2 k (fun e' => hvb (by rw [e, e'])))
  · refine ownsRow_fr (F := foot b V) (G := foot b V) h.rng (fun k e => ?_)
    have e : V.rng.ownBlock = some k := e
    have hlt := (h.rng.lt k e).2
    rw [hk2 k (fun e' => h.sr (by rw [e, e'])), hk k hlt (rows_far h.rng h.out (by decide) k e)]
  · refine ownsRow_fr (F := foot b V) (G := foot b V) h.que (fun k e => ?_)
    have e : V.que.ownBlock = some k := e
    have hlt := (h.que.lt k e).2
    rw [hk2 k (fun e' => h.sq (by rw [e, e'])), hk k hlt (rows_far h.que h.out (by decide) k e)]
end
theorem RPost.trans {P : Value → World → Prop} {b : Nat} {tl : List Value} {V V1 : RV} {S : St} {w w1 w2 : World} (hs : V1.scr = V.scr) (hf : Rf (foot b V) (foot b V1) w w1) (h : RPost P b tl V1 S w1 w2) : RPost P b tl V S w w2 := by
  obtain ⟨V', e, h1, h2⟩ := h
  exact ⟨V', e.trans hs, h1, hf.trans h2⟩
theorem VPost.mono {P : Value → World → Prop} {b : Nat} {tl : List Value} {V : RV} {S S' : St} {w w' : World} {e : Ending} (h : VPost P b tl V S w e w') (hs : S = S') : VPost P b tl V S' w e w' := hs ▸ h
theorem put_eq {S : St} {l : List Cl} : S.put l = if S.death ≠ 0 then S else if 4096 - S.out.length < l.length then S.die 6 else { S with out := S.out ++ l } := rfl
set_option maxRecDepth 100000 in
set_option maxHeartbeats 1000000 in
theorem put_calls (P : Value → World → Prop) (b : Nat) (tl : List Value) (V : RV) (S : St) (vl : Value) (l : List Cl) (w : World) (h : RunAt P b tl V S w) (hw : WF S) (hsl : SlAt w vl l) (hll : l.length ≤ 100000) :
    Calls Tryz.prog 236 #[.pointer (some ⟨b, 0, none⟩), vl] w fun e w' => VOPost P b tl V (S.put l) w e w' := by
  have c18 := h.cell 18 _ rfl
  have c9 := h.cell 9 _ rfl
  have hbl := h.box.lt
  have hou := hw.ou
  obtain ⟨al, cl, rfl, hlc⟩ := hsl.form
  obtain ⟨ao, co, hvo⟩ := own_form h.out
  rw [hvo] at c9
  obtain ⟨n, hn⟩ : ∃ n, S.out.length = n := ⟨_, rfl⟩
  obtain ⟨m, hm⟩ : ∃ m, l.length = m := ⟨_, rfl⟩
  have HN : Hid (S.out.length = n) := hn
  have HM : Hid (l.length = m) := hm
  have HH : Hid (RunAt P b tl V S w) := h
  have HSL : Hid (SlAt w (.slice al m cl) l) := by show SlAt _ _ _; rw [← hm]; exact hsl
  have HOW : Hid (w.ownsRow 0 230 2 (.slice ao n co) n (clC S.out)) := by
    have h9 := h.out
    rw [hvo, hn] at h9
    exact h9
  rw [hn] at c9 hou
  have HVO : Hid (V.out = .slice ao n co) := by show _ = _; rw [hvo, hn]
  rw [hm] at hll ⊢
  clear hvo hn hm hsl hlc h
  by_cases hd : S.death = 0
  · have h1 : (((S.death : Nat) : Int) != 0) = false := by simp [hd]
    by_cases hf : 4096 - n < m
    · have hf1 : (4096 : Int) - (n : Int) < (m : Int) := by omega
      have HS : Hid (S.put l = S.die 6) := by show _ = _; rw [put_eq, if_neg (by omega), HN.out, HM.out, if_pos hf]
      clear hd hf
      go_enter Tryz.func236, Tryz.ntmps236
      go_wp2_with fail
      refine (die_calls P b tl V S 6 w HH.out).mono ?_
      rintro e w2 ⟨rfl, hr⟩
      have HR : Hid (OPost P b tl V (S.die 6) w w2) := hr
      clear hr
      go_wp2
      refine bodyPost_ret (results_none rfl _ _ _) rfl ?_
      exact ⟨rfl, by rw [HS.out]; exact HR.out⟩
    · have hf1 : ¬ (4096 : Int) - (n : Int) < (m : Int) := by omega
      have HS : Hid (S.put l = { S with out := S.out ++ l }) := by show _ = _; rw [put_eq, if_neg (by omega), HN.out, HM.out, if_neg hf]
      clear hd hf
      have hown := HOW.out
      have hsl := HSL.out
      have HG : Hid (∀ v' w1, w1.ownsRow 0 230 2 v' (n + l.length) (clC S.out ++ clC l) → w.grownBy w1 (Value.slice ao n co).ownBlock → (v'.ownBlock = (Value.slice ao n co).ownBlock ∨ v'.ownBlock = some w.heap.size) → CB w1 b (runC V S ++ tl) ∧ OPost P b tl V { S with out := S.out ++ l } w (w1.setCell ⟨b, 9, none⟩ v')) := fun v' w1 h1 h2 h3 => by
        refine HH.out.grow ?_ ?_ ?_
        · rw [HN.out]; exact h1
        · rw [HVO.out]; exact h2
        · rw [HVO.out]; exact h3
      go_enter Tryz.func236, Tryz.ntmps236
      go_wp2_with (refine cl_append_at hown hsl (by rw [HM.out]; omega) (Nat.zero_le _) rfl _ _ rfl rfl rfl ?_
                   intro v' w1 hown1 hg1 hat1
                   have hgr := HG.out v' w1 hown1 hg1 hat1
                   obtain ⟨hcb, hrp⟩ := hgr
                   have HGR : Hid (OPost P b tl V { S with out := S.out ++ l } w (w1.setCell ⟨b, 9, none⟩ v')) := hrp
                   have f9 := hcb.fz 9 (by simp [runC])
                   have c9' := hcb.c 9 V.out (by simp [runC])
                   have l9 := hcb.lt
                   clear hrp hat1 hg1 hcb
                   obtain ⟨a', c', hvv⟩ := own_form hown1
                   subst hvv
                   clear hown1)
      go_end0
      exact ⟨rfl, by rw [HS.out]; exact HGR.out⟩
  · have h1 : (((S.death : Nat) : Int) != 0) = true := by simp; omega
    have HS : Hid (S.put l = S) := by show _ = _; rw [put_eq, if_pos hd]
    clear hd
    go_enter Tryz.func236, Tryz.ntmps236
    go_wp2
    refine bodyPost_ret (results_none rfl _ _ _) rfl ?_
    exact ⟨rfl, by rw [HS.out]; exact ⟨V.out, HH.out, Rf.refl _ _⟩⟩
end Go.Proofs.YtlppphmnegdhoabGreatDoor

namespace Go.Proofs.YtlppphmnegdhoabGreatDoor
set_option linter.unusedVariables false
set_option maxRecDepth 100000
open Go.RowKit
open M

theorem below3 {a b c d : World} (h1 : Below a.heap.size a b) (h2 : Below b.heap.size b c) (h3 : Below c.heap.size c d) : Below a.heap.size a d :=
  (h1.trans (h2.mono h1.size)).trans (h3.mono (Nat.le_trans h1.size h2.size))
theorem below2 {a b c : World} (h1 : Below a.heap.size a b) (h2 : Below b.heap.size b c) : Below a.heap.size a c := h1.trans (h2.mono h1.size)
theorem fresh_len (s : ByteArray) : (freshC s.data.toList).length = s.size := by rw [← ba_len]; simp [freshC]
set_option maxRecDepth 100000 in
set_option maxHeartbeats 1000000 in
theorem putText_calls (P : Value → World → Prop) (b : Nat) (tl : List Value) (V : RV) (S : St) (s : ByteArray) (w : World) (h : RunAt P b tl V S w) (hw : WF S) (hs : s.size ≤ 90000) :
    Calls Tryz.prog 221 #[.pointer (some ⟨b, 0, none⟩), .string s] w fun e w' => VOPost P b tl V (S.putText s) w e w' := by
  have HH : Hid (RunAt P b tl V S w) := h
  have HL : Hid ((freshC s.data.toList).length = s.size) := fresh_len s
  have HJ : Hid ((joinC (freshC s.data.toList) (nlC (-1)) []).length = s.size + 1) := by show _ = _; unfold joinC; rw [List.length_append, List.length_append, HL.out]; rfl
  clear h
  go_enter Tryz.func221, Tryz.ntmps221
  go_wp2_with fail
  refine (fresh_calls s w (by omega)).mono ?_
  rintro e w1 ⟨v1, rfl, hown1, B1⟩
  have s1 := SlAt.own hown1
  obtain ⟨a1, c1, hv1⟩ := own_form hown1
  subst hv1
  rw [HL.out] at s1 ⊢
  clear hown1
  go_wp2_with fail
  refine (rnewline_calls (-1) w1).mono ?_
  rintro e w2 ⟨rfl, B2⟩
  have s2 := s1.below B2
  clear s1
  go_wp2_with fail
  refine (rjoined_calls _ _ _ [] 10 (-1) 10 w2 rfl s2 (SlAt.nil _) (by rw [HL.out]; simp; omega)).mono ?_
  rintro e w3 ⟨v3, rfl, hown3, B3⟩
  have hown3' : w3.ownsRow w2.heap.size 230 2 v3 (joinC (freshC s.data.toList) (nlC (-1)) []).length (clC (joinC (freshC s.data.toList) (nlC (-1)) [])) := hown3
  have s3 := SlAt.own hown3'
  obtain ⟨a3, c3, hv3⟩ := own_form hown3'
  subst hv3
  rw [HJ.out] at s3 ⊢
  have BB := below3 B1 B2 B3
  clear hown3 hown3' s2
  go_wp2_with fail
  refine (put_calls P b tl V S _ _ w3 (HH.out.below BB) hw s3 (by rw [HJ.out]; omega)).mono ?_
  rintro e w4 ⟨rfl, hr⟩
  have HR : Hid (OPost P b tl V (S.putText s) w w4) := OPost.pre (.of_below BB) hr
  clear hr
  go_wp2
  go_end0
  exact ⟨rfl, HR.out⟩
/-- behind fits -/
def FtPost (P : Value → World → Prop) (b : Nat) (tl : List Value) (V : RV) (S : St) (n : Nat) (w : World) (e : Ending) (w' : World) : Prop := e = .returned (.bool (S.fits n)) ∧ RPost P b tl V (if S.fits n then S else S.die 5) w w'
set_option maxRecDepth 100000 in
set_option maxHeartbeats 1000000 in
theorem rfits_calls (P : Value → World → Prop) (b : Nat) (tl : List Value) (V : RV) (S : St) (n : Nat) (w : World) (h : RunAt P b tl V S w) (hrm : S.room ≤ 256) (hn : n ≤ 1000000000) :
    Calls Tryz.prog 190 #[.pointer (some ⟨b, 0, none⟩), .int .i64 (n : Nat)] w fun e w' => FtPost P b tl V S n w e w' := by
  have c4 := h.cell 4 _ rfl
  have hbl := h.box.lt
  have HH : Hid (RunAt P b tl V S w) := h
  clear h
  by_cases hf : n ≤ S.room
  · have hf1 : ¬ ((S.room : Nat) : Int) < (n : Int) := by omega
    have HF : Hid (S.fits n = true) := decide_eq_true hf
    clear hf
    go_enter Tryz.func190, Tryz.ntmps190
    go_wp2
    go_ret
    unfold FtPost
    rw [HF.out, if_pos rfl]
    exact ⟨rfl, V, rfl, HH.out, Rf.refl _ _⟩
  · have hf1 : ((S.room : Nat) : Int) < (n : Int) := by omega
    have HF : Hid (S.fits n = false) := decide_eq_false hf
    clear hf
    go_enter Tryz.func190, Tryz.ntmps190
    go_wp2_with fail
    refine (die_calls P b tl V S 5 w HH.out).mono ?_
    rintro e w2 ⟨rfl, hr⟩
    have HR : Hid (RPost P b tl V (S.die 5) w w2) := hr.toR
    clear hr
    go_wp2
    go_ret
    unfold FtPost
    rw [HF.out, if_neg (by decide)]
    exact ⟨rfl, HR.out⟩
theorem SlAt.drew {w : World} {v : Value} {l : List Cl} (h : SlAt w v l) : SlAt w.drew v l := h.below ((Below.refl _ _).drew)
set_option maxRecDepth 100000 in
set_option maxHeartbeats 2000000 in
theorem putPattern_calls (P : Value → World → Prop) (b : Nat) (tl : List Value) (V : RV) (S : St) (w : World) (h : RunAt P b tl V S w) (hw : WF S) :
    Calls Tryz.prog 215 #[.pointer (some ⟨b, 0, none⟩)] w fun e w' => VOPost P b tl V S.putPat w e w' := by
  have c10 := h.cell 10 _ rfl
  have c8 := h.cell 8 _ rfl
  have hbl := h.box.lt
  have HH : Hid (RunAt P b tl V S w) := h
  have hpa := hw.pa
  have hsl := h.pat.out
  obtain ⟨ap, cp, hvp, _⟩ := hsl.form
  rw [hvp] at c10 hsl
  have HSL : Hid (SlAt w (.slice ap S.pat.length cp) S.pat) := hsl
  have HJ : Hid ((joinC S.pat (nlC S.nl) []).length = S.pat.length + 1) := by show _ = _; unfold joinC; rw [List.length_append, List.length_append]; rfl
  obtain ⟨n, hn⟩ : ∃ n, S.pat.length = n := ⟨_, rfl⟩
  rw [hn] at c10 hpa HSL HJ
  have HN : Hid (S.pat.length = n) := hn
  clear hn hsl hvp h
  go_enter Tryz.func215, Tryz.ntmps215
  go_wp2_with fail
  go_region_held3 (fun w' => w'.cell? ⟨b, 10, none⟩ = some (.slice ap n cp) ∧ w'.cell? ⟨b, 8, none⟩ = some (.int .i64 S.nl) ∧ b < w'.heap.size)
    (first
      | go_keep
      | (go_split_ands
         refine ⟨?_, ?_, ?_⟩
         · (rw [hb1.cell (by assumption)]; assumption)
         · (rw [hb1.cell (by assumption)]; assumption)
         · (have := hb1.size; omega)))
    (first
      | (go_at_call 187; refine (rnewline_calls _ _).mono ?_; rintro e w1 ⟨rfl, hb1⟩; have g1 := hb1; have s1 := HSL.out.drew.below g1)
      | (go_at_call 189; refine (rjoined_calls _ _ S.pat [] 10 S.nl 10 _ rfl s1 (SlAt.nil _) (by rw [HN.out]; simp; omega)).mono ?_; rintro e w3 ⟨v3, rfl, hown3, hb1⟩; have g3 := hb1))
  have hown3' : w3.ownsRow w1.heap.size 230 2 v3 (joinC S.pat (nlC S.nl) []).length (clC (joinC S.pat (nlC S.nl) [])) := hown3
  have s3 := SlAt.own hown3'
  obtain ⟨a3, c3, hv3⟩ := own_form hown3'
  subst hv3
  rw [HJ.out] at s3 ⊢
  have BB : Below w.heap.size w w3 := below3 (Below.refl w.heap.size w).drew g1 g3
  clear hown3 hown3' s1 hb1
  go_wp2_with fail
  refine (put_calls P b tl V S _ _ w3 (HH.out.below BB) hw s3 (by rw [HJ.out]; omega)).mono ?_
  rintro e w4 ⟨rfl, hr⟩
  have HR : Hid (OPost P b tl V S.putPat w w4) := OPost.pre (.of_below BB) hr
  clear hr
  go_wp2
  go_end0
  exact ⟨rfl, HR.out⟩
end Go.Proofs.YtlppphmnegdhoabGreatDoor

namespace Go.Proofs.YtlppphmnegdhoabGreatDoor
set_option linter.unusedVariables false
set_option maxRecDepth 100000
open Go.RowKit
open M

set_option maxRecDepth 100000 in
set_option maxHeartbeats 1000000 in
theorem putUQ_calls (P : Value → World → Prop) (b : Nat) (tl : List Value) (V : RV) (S : St) (w : World) (h : RunAt P b tl V S w) (hw : WF S) :
    Calls Tryz.prog 179 #[.pointer (some ⟨b, 0, none⟩)] w fun e w' => VOPost P b tl V S.putUQ w e w' := by
  have c2 := h.cell 2 _ rfl
  have hbl := h.box.lt
  have HH : Hid (RunAt P b tl V S w) := h
  have HQ : Hid (S.putUQ = if S.quiet then S else S.putPat) := rfl
  clear h
  cases hq : S.quiet
  · rw [hq] at c2
    rw [hq] at HQ
    clear hq
    go_enter Tryz.func179, Tryz.ntmps179
    go_wp2_with fail
    refine (putPattern_calls P b tl V S w HH.out hw).mono ?_
    rintro e w2 ⟨rfl, hr⟩
    have HR : Hid (OPost P b tl V S.putUQ w w2) := by show OPost _ _ _ _ _ _ _; rw [HQ.out]; exact hr
    clear hr
    go_wp2
    go_end0
    exact ⟨rfl, HR.out⟩
  · rw [hq] at c2
    rw [hq] at HQ
    clear hq
    go_enter Tryz.func179, Tryz.ntmps179
    go_wp2
    go_end0
    refine ⟨rfl, ?_⟩
    rw [HQ.out]
    exact ⟨V.out, HH.out, Rf.refl _ _⟩
theorem behNL_le (l : List Cl) : behNL l ≤ l.length := by
  induction l with
  | nil => exact Nat.le_refl _
  | cons c l ih =>
    unfold behNL
    rw [List.length_cons]
    split
    · omega
    · split <;> omega
theorem part_len (l : List Cl) (i j : Nat) (h : i ≤ j) (hj : j ≤ l.length) : (partC l i j).length = j - i := by unfold partC; rw [List.length_take, List.length_drop]; omega
set_option maxRecDepth 100000 in
set_option maxHeartbeats 1000000 in
theorem putFirst_calls (P : Value → World → Prop) (b : Nat) (tl : List Value) (V : RV) (S : St) (w : World) (h : RunAt P b tl V S w) (hw : WF S) :
    Calls Tryz.prog 238 #[.pointer (some ⟨b, 0, none⟩)] w fun e w' => VOPost P b tl V S.putFirst w e w' := by
  have c10 := h.cell 10 _ rfl
  have hbl := h.box.lt
  have HH : Hid (RunAt P b tl V S w) := h
  have hpa := hw.pa
  have hsl := h.pat.out
  obtain ⟨ap, cp, hvp, _⟩ := hsl.form
  rw [hvp] at c10 hsl
  have HSL : Hid (SlAt w (.slice ap S.pat.length cp) S.pat) := hsl
  have HQ : Hid (S.putFirst = if behNL S.pat = 0 then S.putPat else S.put (partC S.pat 0 (behNL S.pat))) := rfl
  have HNL : Hid (behNL S.pat ≤ S.pat.length) := behNL_le _
  clear h hsl hvp
  go_enter Tryz.func238, Tryz.ntmps238
  go_wp2_with fail
  refine (behindNewline_calls _ S.pat w HSL.out (by omega)).mono ?_
  rintro e w1 ⟨rfl, B1⟩
  have h1 := HH.out.below B1
  have HH1 : Hid (RunAt P b tl V S w1) := h1
  have s1 := HSL.out.below B1
  have c101 := (B1.cell (by exact hbl)).trans c10
  have hbl1 := h1.box.lt
  clear h1
  have hnl := HNL.out
  obtain ⟨k, hk⟩ : ∃ k, behNL S.pat = k := ⟨_, rfl⟩
  rw [hk] at hnl HQ ⊢
  clear hk
  by_cases h0 : k = 0
  · subst h0
    go_wp2_with fail
    refine (putPattern_calls P b tl V S w1 HH1.out hw).mono ?_
    rintro e w2 ⟨rfl, hr⟩
    have HR : Hid (OPost P b tl V S.putFirst w w2) := by show OPost _ _ _ _ _ _ _; rw [HQ.out]; exact OPost.pre (.of_below B1) hr
    clear hr
    go_wp2
    refine bodyPost_ret (results_none rfl _ _ _) rfl ?_
    exact ⟨rfl, HR.out⟩
  · have h01 : ((k : Int) == 0) = false := by simp; omega
    rw [if_neg h0] at HQ
    clear h0
    go_wp2_with fail
    refine (part_calls _ S.pat 0 k w1 s1 (Nat.zero_le _) hnl (by omega)).mono ?_
    rintro e w2 ⟨rfl, v3, rfl, s3, _⟩
    go_wp2_with fail
    refine (put_calls P b tl V S v3 _ _ HH1.out hw s3 (by rw [part_len _ _ _ (Nat.zero_le _) hnl]; omega)).mono ?_
    rintro e w4 ⟨rfl, hr⟩
    have HR : Hid (OPost P b tl V S.putFirst w w4) := by show OPost _ _ _ _ _ _ _; rw [HQ.out]; exact OPost.pre (.of_below B1) hr
    clear hr
    go_wp2
    go_end0
    exact ⟨rfl, HR.out⟩
section
variable {P : Value → World → Prop} {b : Nat} {tl : List Value} {V : RV} {S : St} {w w' : World}
/-- the queue is empty -/
theorem RunAt.noQue (h : RunAt P b tl V S w) : RPost P b tl V { S with queue := [] } w (w.setCell ⟨b, 13, none⟩ (.slice none 0 0)) := by
  refine ⟨⟨V.scr, V.rng, V.out, V.pat, V.hold, .slice none 0 0⟩, rfl, ?_⟩
  have f1 : Rf (foot b V) (foot b ⟨V.scr, V.rng, V.out, V.pat, V.hold, .slice none 0 0⟩) w (w.setCell ⟨b, 13, none⟩ (.slice none 0 0)) := by
    refine ⟨rfl, rfl, rfl, by simp, fun k _ hk => heap_setCell_other w _ k _ (fun e => hk (.inl e)), fun k hF => .inl ?_⟩
    rcases hF with e | e | e | e
    · exact .inl e
    · exact .inr (.inl e)
    · exact .inr (.inr (.inl e))
    · cases e
  have hk : ∀ k, k ≠ b → (w.setCell ⟨b, 13, none⟩ (.slice none 0 0)).heap[k]? = w.heap[k]? := fun k hk => heap_setCell_other w _ k _ hk
  refine ⟨⟨?_, ?_, ?_, World.ownsRow_nil _ _ _ _, h.so, h.sr, (fun e => by cases e), h.scr.fr f1, h.pat.fr f1, h.hold.fr f1, h.one⟩, f1⟩
  · have h1 := h.box.set 13 (by rw [List.length_append, runC_len]; omega) (.slice none 0 0) rfl
    rw [List.set_append_left _ _ (by rw [runC_len]; omega)] at h1
    exact h1
  · exact ownsRow_fr (F := foot b V) (G := foot b V) h.out (fun k e => hk k (fun e' => h.so (e' ▸ e)))
  · exact ownsRow_fr (F := foot b V) (G := foot b V) h.rng (fun k e => hk k (fun e' => h.sr (e' ▸ e)))
end
theorem foldl_take {α β : Type} (f : β → α → β) (l : List α) (b : β) (i : Nat) (h : i < l.length) : (l.take (i + 1)).foldl f b = f ((l.take i).foldl f b) l[i] := by
  rw [List.take_add_one, List.getElem?_eq_getElem h, List.foldl_append]; rfl
set_option maxRecDepth 100000 in
set_option maxHeartbeats 1000000 in
theorem putQueue_calls (P : Value → World → Prop) (b : Nat) (tl : List Value) (V : RV) (S : St) (w : World) (h : RunAt P b tl V S w) (hw : WF S) :
    Calls Tryz.prog 186 #[.pointer (some ⟨b, 0, none⟩)] w fun e w' => VPost P b tl V S.putQueue w e w' := by
  have c13 := h.cell 13 _ rfl
  have hbl := h.box.lt
  have HH : Hid (RunAt P b tl V S w) := h
  have hqu := hw.qu
  obtain ⟨aq, cq, hvq⟩ := own_form h.que
  obtain ⟨n, hn⟩ : ∃ n, S.queue.length = n := ⟨_, rfl⟩
  have HN : Hid (S.queue.length = n) := hn
  have HVQ : Hid (V.que = .slice aq n cq) := by show _ = _; rw [hvq, hn]
  rw [hvq, hn] at c13
  rw [hn] at hqu
  clear hvq hn h
  go_enter Tryz.func186, Tryz.ntmps186
  go_wp2_with fail
  go_loopw [9] (fun v9 wr => ∃ i : Nat, v9 = .int .i64 i ∧ i ≤ n ∧ OPost P b tl V ((S.queue.take i).foldl St.putText S) w wr) (fun v9 _ => n - (intOf v9).toNat)
  case atStart => exact ⟨0, rfl, Nat.zero_le _, V.out, HH.out, Rf.refl _ _⟩
  case round =>
    obtain ⟨i, rfl, hi, vo, hR, hF⟩ := hrel
    have HR : Hid (RunAt P b tl (V.withOut vo) ((S.queue.take i).foldl St.putText S) wr) := hR
    have HF : Hid (Rf (foot b V) (foot b (V.withOut vo)) w wr) := hF
    have hbl2 := hR.box.lt
    have f13 := hR.fz 13 (by decide)
    have hwT : WF ((S.queue.take i).foldl St.putText S) := WF.fold _ hw
    have hqs : ((S.queue.take i).foldl St.putText S).queue = S.queue := by
      have key : ∀ (l : List ByteArray) (T : St), (l.foldl St.putText T).queue = T.queue := by
        intro l
        induction l with
        | nil => intro T; rfl
        | cons x l ih => intro T; rw [List.foldl_cons, ih]; exact (St.put_keep T _).2.2.2.2.2.2.2.2.2.2.2.2.2.2.1
      exact key _ _
    have c132 : wr.cell? ⟨b, 13, none⟩ = some (.slice aq n cq) := by
      have := hR.cell 13 _ rfl
      rw [this]
      show some V.que = _
      rw [HVQ.out]
    by_cases hlt : i < n
    · have hlt1 : (i : Int) < (n : Int) := by omega
      have h0 : (0 : Int) ≤ (i : Int) := by omega
      have hiL : i < S.queue.length := by rw [HN.out]; exact hlt
      obtain ⟨g, hg, hgl, ct⟩ : ∃ g, aq = some ⟨g, 0, none⟩ ∧ g < wr.heap.size ∧ wr.cell? ⟨g, i, none⟩ = some (.string S.queue[i]) := by
        have hq := hR.que
        rw [hqs] at hq
        have hq : wr.ownsRow 0 9 1 V.que S.queue.length (S.queue.map .string) := hq
        rw [HVQ.out] at hq
        obtain ⟨g, hg⟩ : ∃ g, aq = some ⟨g, 0, none⟩ := by
          rcases hq.2 with ⟨_, hz⟩ | ⟨g, cap, cur, hv, _⟩
          · omega
          · simp at hv; exact ⟨g, hv.1⟩
        subst hg
        have c1 := hq.cells rfl i (.string S.queue[i]) (by simp [hiL])
        rw [Addr.add_mid, Nat.zero_add] at c1
        exact ⟨g, rfl, (hq.lt g rfl).2, c1⟩
      subst hg
      have hsz := hw.qt S.queue[i] (List.getElem_mem _)
      have HT : Hid ((S.queue.take (i + 1)).foldl St.putText S = ((S.queue.take i).foldl St.putText S).putText S.queue[i]) := foldl_take _ _ _ _ hiL
      have HWT : Hid (WF ((S.queue.take i).foldl St.putText S)) := hwT
      clear hqs hwT hR hF
      generalize S.queue[i] = tx at *
      generalize (S.queue.take i).foldl St.putText S = T at *
      go_wp2_with fail
      refine (putText_calls P b tl (V.withOut vo) T tx wr HR.out HWT.out (by omega)).mono ?_
      rintro e w2 ⟨rfl, hr⟩
      have HR2 : Hid (OPost P b tl V ((S.queue.take (i + 1)).foldl St.putText S) w w2) := by
        show OPost _ _ _ _ _ _ _
        rw [HT.out]
        exact OPost.trans HF.out hr
      clear hr
      go_wp2_with fail
      go_roundw
      case rel => exact ⟨i + 1, by go_num, by omega, HR2.out⟩
      case measure => first | (simp [intOf]; done) | (simp [intOf]; omega)
    · obtain rfl : i = n := by omega
      have hlt1 : ¬ (i : Int) < (i : Int) := by omega
      have HP : Hid (RPost P b tl V S.putQueue w (wr.setCell ⟨b, 13, none⟩ (.slice none 0 0))) := by
        show RPost _ _ _ _ _ _ _
        rw [List.take_of_length_le (by rw [HN.out]; exact Nat.le_refl _)] at hR
        exact RPost.trans (V1 := V.withOut vo) rfl hF hR.noQue
      clear hqs hwT hR hF
      go_wp2
      go_end0
      exact ⟨rfl, HP.out⟩
set_option maxRecDepth 100000 in
set_option maxHeartbeats 1000000 in
theorem endCycle_calls (P : Value → World → Prop) (b : Nat) (tl : List Value) (V : RV) (S : St) (w : World) (h : RunAt P b tl V S w) (hw : WF S) :
    Calls Tryz.prog 180 #[.pointer (some ⟨b, 0, none⟩)] w fun e w' => VPost P b tl V S.endCycle w e w' := by
  go_enter Tryz.func180, Tryz.ntmps180
  go_wp2_with fail
  refine (putQueue_calls P b tl V S w h hw).mono ?_
  rintro e w2 ⟨rfl, V2, hs2, h2, f2⟩
  have l2 := h2.box.lt
  have f15 := h2.fz 15 (by decide)
  have f16 := h2.fz 16 (by decide)
  have c15 := h2.cell 15 _ rfl
  have c16 := h2.cell 16 _ rfl
  have hA := h2.set 15 (by decide) (.int .i64 0) rfl { S.putQueue with next := 0 } rfl rfl rfl rfl rfl rfl
  have hB := hA.set 16 (by decide) (.int .i64 1) rfl { S.putQueue with next := 0, asks := 1 } rfl rfl rfl rfl rfl rfl
  have HR : Hid (RPost P b tl V S.endCycle w ((w2.setCell ⟨b, 15, none⟩ (.int .i64 0)).setCell ⟨b, 16, none⟩ (.int .i64 1))) := ⟨V2, hs2, hB, f2.trans ((Rf.set V2 b 15 _ w2).trans (Rf.set V2 b 16 _ _))⟩
  clear hA hB h2 f2 h hs2
  go_wp2
  go_end0
  exact ⟨rfl, HR.out⟩
set_option maxRecDepth 100000 in
set_option maxHeartbeats 1000000 in
theorem endEarly_calls (P : Value → World → Prop) (b : Nat) (tl : List Value) (V : RV) (S : St) (w : World) (h : RunAt P b tl V S w) (hw : WF S) :
    Calls Tryz.prog 185 #[.pointer (some ⟨b, 0, none⟩)] w fun e w' => VPost P b tl V S.endEarly w e w' := by
  go_enter Tryz.func185, Tryz.ntmps185
  go_wp2_with fail
  refine (putUQ_calls P b tl V S w h hw).mono ?_
  rintro e w1 ⟨rfl, v1, h1, f1⟩
  clear h
  go_wp2_with fail
  refine (putQueue_calls P b tl (V.withOut v1) S.putUQ w1 h1 hw.putUQ).mono ?_
  rintro e w2 ⟨rfl, V2, hs2, h2, f2⟩
  have l2 := h2.box.lt
  have f17 := h2.fz 17 (by decide)
  have c17 := h2.cell 17 _ rfl
  have hA := h2.set 17 (by decide) (.bool true) rfl { S.putUQ.putQueue with over := true } rfl rfl rfl rfl rfl rfl
  have HR : Hid (RPost P b tl V S.endEarly w (w2.setCell ⟨b, 17, none⟩ (.bool true))) := ⟨V2, hs2, hA, f1.trans (f2.trans (Rf.set V2 b 17 _ w2))⟩
  clear hA h2 f2 f1 h1 hs2
  go_wp2
  go_end0
  exact ⟨rfl, HR.out⟩
set_option maxRecDepth 100000 in
set_option maxHeartbeats 1000000 in
theorem doWithout_calls (P : Value → World → Prop) (b : Nat) (tl : List Value) (V : RV) (S : St) (w : World) (h : RunAt P b tl V S w) (hw : WF S) :
    Calls Tryz.prog 153 #[.pointer (some ⟨b, 0, none⟩)] w fun e w' => VPost P b tl V S.doWithout w e w' := by
  have c16 := h.cell 16 _ rfl
  have c17 := h.cell 17 _ rfl
  have f17 := h.fz 17 (by decide)
  have hbl := h.box.lt
  have hak := hw.ak
  by_cases h1 : S.asks = 1
  · have h11 : (((S.asks : Nat) : Int) == 1) = true := by simp [h1]
    have hA := h.set 17 (by decide) (.bool true) rfl { S with over := true } rfl rfl rfl rfl rfl rfl
    have HR : Hid (RPost P b tl V S.doWithout w (w.setCell ⟨b, 17, none⟩ (.bool true))) := by
      show RPost _ _ _ _ _ _ _
      unfold St.doWithout
      rw [if_pos h1]
      exact ⟨V, rfl, hA, Rf.set V b 17 _ w⟩
    clear hA h1 h
    go_enter Tryz.func153, Tryz.ntmps153
    go_wp2
    go_end0
    exact ⟨rfl, HR.out⟩
  · have h11 : (((S.asks : Nat) : Int) == 1) = false := by simp; omega
    have HD : Hid (S.doWithout = S.endEarly) := by show _ = _; unfold St.doWithout; rw [if_neg h1]
    clear h1
    go_enter Tryz.func153, Tryz.ntmps153
    go_wp2_with fail
    refine (endEarly_calls P b tl V S w h hw).mono ?_
    rintro e w2 ⟨rfl, hr⟩
    have HR : Hid (RPost P b tl V S.doWithout w w2) := by show RPost _ _ _ _ _ _ _; rw [HD.out]; exact hr
    clear hr h
    go_wp2
    go_end0
    exact ⟨rfl, HR.out⟩
end Go.Proofs.YtlppphmnegdhoabGreatDoor

namespace Go.Proofs.YtlppphmnegdhoabGreatDoor
set_option linter.unusedVariables false
set_option maxRecDepth 100000
open Go.RowKit
open M

theorem foot_lt {P : Value → World → Prop} {b : Nat} {tl : List Value} {V : RV} {S : St} {w : World} (h : RunAt P b tl V S w) (k : Nat) (hk : foot b V k) : k < w.heap.size := by
  rcases hk with rfl | hk | hk | hk
  · exact h.box.lt
  · exact (h.out.lt k hk).2
  · exact (h.rng.lt k hk).2
  · exact (h.que.lt k hk).2
/-- bytes up to the next newline -/
def tw (t : List UInt8) (n : Nat) : Nat := ((t.drop n).takeWhile (fun c => c.toNat != 10)).length
theorem tw_step (s : ByteArray) (n : Nat) (h : n < s.size) : tw s.data.toList n = if s[n].toNat = 10 then 0 else tw s.data.toList (n + 1) + 1 := by
  unfold tw
  rw [get_drop s n h, List.takeWhile_cons]
  by_cases e : s[n].toNat = 10
  · rw [if_pos e]; simp [e]
  · rw [if_neg e]
    have : (s[n].toNat != 10) = true := by simpa using e
    rw [this]; rfl
theorem tw_end (s : ByteArray) (n : Nat) (h : s.size ≤ n) : tw s.data.toList n = 0 := by
  unfold tw
  rw [List.drop_of_length_le (by rw [ba_len]; exact h)]; rfl
set_option maxRecDepth 100000 in
set_option maxHeartbeats 1000000 in
theorem rlineEnd_calls (P : Value → World → Prop) (b : Nat) (tl : List Value) (V : RV) (S : St) (w : World) (h : RunAt P b tl V S w) (hw : WF S) :
    Calls Tryz.prog 184 #[.pointer (some ⟨b, 5, none⟩)] w fun e w' => e = .returned (.int .i64 (S.lend : Nat)) ∧ w' = w := by
  have c5 := h.cell 5 _ rfl
  have c7 := h.cell 7 _ rfl
  have hbl := h.box.lt
  have htx := hw.tx
  have hbh := hw.bh
  have HL : Hid (S.lend = S.behind + tw S.text.data.toList S.behind) := rfl
  generalize S.lend = L at *
  generalize S.behind = k at *
  generalize S.text = s at *
  clear h hw
  go_enter Tryz.func184, Tryz.ntmps184
  go_wp2_with fail
  go_loop [3] (fun v3 => ∃ n : Nat, v3 = .int .i64 n ∧ n ≤ s.size ∧ Hid (L = n + tw s.data.toList n)) (fun v3 => s.size - (intOf v3).toNat)
  case atStart => exact ⟨k, rfl, hbh, HL⟩
  case round =>
    obtain ⟨n, rfl, hns, HT⟩ := hrel
    by_cases hlt : n < s.size
    · have hlt1 : (n : Int) < (s.size : Int) := by omega
      have HT2 := tw_step s n hlt
      obtain ⟨x, hx⟩ : ∃ x : Nat, s[n].toNat = x := ⟨_, rfl⟩
      have hxc : x < 256 := by rw [← hx]; exact s[n].toNat_lt
      rw [hx] at HT2
      by_cases h10 : x = 10
      · have h101 : ((x : Int) != 10) = false := by simp [h10]
        have HF : Hid (L = n) := by show _ = _; rw [HT.out, HT2, if_pos h10]; rfl
        clear h10 HT HT2
        go_wp2
        go_ret
        exact ⟨by rw [HF.out]; rfl, rfl⟩
      · have h101 : ((x : Int) != 10) = true := by simp; omega
        have HF : Hid (L = (n + 1) + tw s.data.toList (n + 1)) := by show _ = _; rw [HT.out, HT2, if_neg h10]; omega
        clear h10 HT HT2
        go_wp2
        go_round
        case rel => exact ⟨n + 1, by go_num, by omega, HF⟩
        case measure => first | (simp [intOf]; done) | (simp [intOf]; omega)
    · obtain rfl : n = s.size := by omega
      have hlt1 : ¬ (s.size : Int) < (s.size : Int) := by omega
      have HF : Hid (L = s.size) := by show _ = _; rw [HT.out, tw_end s s.size (Nat.le_refl _)]; rfl
      clear HT
      go_wp2
      go_ret
      exact ⟨by rw [HF.out]; rfl, rfl⟩
set_option maxRecDepth 100000 in
set_option maxHeartbeats 1000000 in
theorem rask_calls (P : Value → World → Prop) (b : Nat) (tl : List Value) (V : RV) (S : St) (w : World) (h : RunAt P b tl V S w) (hw : WF S) :
    Calls Tryz.prog 152 #[.pointer (some ⟨b, 5, none⟩)] w fun e w' => e = .returned (.int .i64 (S.ask : Nat)) ∧ Below w.heap.size w w' := by
  have c5 := h.cell 5 _ rfl
  have c6 := h.cell 6 _ rfl
  have c7 := h.cell 7 _ rfl
  have hbl := h.box.lt
  have htx := hw.tx
  have hbh := hw.bh
  have hll := (St.lend_le S hbh)
  have HA : Hid (S.ask = if S.closed = false ∧ S.text.size < S.lend + 2 then 2 else if S.text.size ≤ S.behind then 3 else 1) := rfl
  have HC := rlineEnd_calls P b tl V S w h hw
  generalize S.ask = A at *
  generalize S.lend = L at *
  generalize S.behind = k at *
  generalize S.text = s at *
  generalize S.closed = cl at *
  clear h hw
  go_enter Tryz.func152, Tryz.ntmps152
  go_wp2_with fail
  refine HC.mono ?_
  clear HC
  rintro e w2 ⟨rfl, rfl⟩
  by_cases h1 : cl = false ∧ s.size < L + 2
  · obtain ⟨rfl, h2⟩ := h1
    have h21 : ((s.size : Int) - (L : Int)) < 2 := by omega
    have HF : Hid (A = 2) := by show _ = _; rw [HA.out, if_pos ⟨rfl, h2⟩]
    clear HA
    go_wp2
    go_ret
    exact ⟨by rw [HF.out]; rfl, Below.refl _ _⟩
  · have HA2 : Hid (A = if s.size ≤ k then 3 else 1) := by show _ = _; rw [HA.out, if_neg h1]
    have hor : cl = true ∨ (cl = false ∧ ¬ ((s.size : Int) - (L : Int)) < 2) := by
      cases cl
      · right; refine ⟨rfl, fun h => h1 ⟨rfl, by omega⟩⟩
      · exact .inl rfl
    clear HA h1
    by_cases hk : s.size ≤ k
    · have hk1 : (s.size : Int) ≤ (k : Int) := by omega
      have HF : Hid (A = 3) := by show _ = _; rw [HA2.out, if_pos hk]
      clear HA2
      rcases hor with rfl | ⟨rfl, h3⟩
      · go_wp2_with fail
        go_region
        go_wp2
        go_ret
        exact ⟨by rw [HF.out]; rfl, (Below.refl _ _).drew⟩
      · exfalso; omega
    · have hk1 : ¬ (s.size : Int) ≤ (k : Int) := by omega
      have HF : Hid (A = 1) := by show _ = _; rw [HA2.out, if_neg hk]
      clear HA2
      rcases hor with rfl | ⟨rfl, h3⟩
      · go_wp2_with fail
        go_region
        go_wp2
        go_ret
        exact ⟨by rw [HF.out]; rfl, (Below.refl _ _).drew⟩
      · go_wp2_with fail
        go_region
        go_wp2
        go_ret
        exact ⟨by rw [HF.out]; rfl, (Below.refl _ _).drew⟩
set_option maxRecDepth 100000 in
set_option maxHeartbeats 1000000 in
theorem ratLast_calls (P : Value → World → Prop) (b : Nat) (tl : List Value) (V : RV) (S : St) (w : World) (h : RunAt P b tl V S w) (hw : WF S) :
    Calls Tryz.prog 237 #[.pointer (some ⟨b, 5, none⟩)] w fun e w' => e = .returned (.bool S.atLast) ∧ Below w.heap.size w w' := by
  have c5 := h.cell 5 _ rfl
  have c7 := h.cell 7 _ rfl
  have hbl := h.box.lt
  have htx := hw.tx
  have hbh := hw.bh
  have HA : Hid (S.atLast = decide (S.text.size ≤ S.behind)) := rfl
  generalize S.atLast = A at *
  generalize S.behind = k at *
  generalize S.text = s at *
  clear h hw
  by_cases hk : s.size ≤ k
  · have hk1 : (s.size : Int) ≤ (k : Int) := by omega
    have HF : Hid (A = true) := by show _ = _; rw [HA.out, decide_eq_true hk]
    clear HA
    go_enter Tryz.func237, Tryz.ntmps237
    go_wp2_with fail
    go_region
    go_wp2
    go_ret
    exact ⟨by rw [HF.out]; rfl, (Below.refl _ _).drew⟩
  · have hk1 : ¬ (s.size : Int) ≤ (k : Int) := by omega
    have HF : Hid (A = false) := by show _ = _; rw [HA.out, decide_eq_false hk]
    clear HA
    go_enter Tryz.func237, Tryz.ntmps237
    go_wp2_with fail
    go_region
    go_wp2
    go_ret
    exact ⟨by rw [HF.out]; rfl, (Below.refl _ _).drew⟩
theorem seg_line (s : ByteArray) (k i : Nat) (hk : k ≤ i) (h : i < s.size) : (((s.data.toList.drop k).take (i + 1 - k)).zipIdx k).map (fun p => (p.1, (p.2 : Int))) = (((s.data.toList.drop k).take (i - k)).zipIdx k).map (fun p => (p.1, (p.2 : Int))) ++ [(s[i], (i : Int))] := by
  have e : i + 1 - k = (i - k) + 1 := by omega
  have hl : i - k < (s.data.toList.drop k).length := by rw [List.length_drop, ba_len]; omega
  rw [e, List.take_add_one, List.getElem?_eq_getElem hl, List.getElem_drop, List.zipIdx_append, List.map_append]
  congr 1
  have e2 : ((s.data.toList.drop k).take (i - k)).length = i - k := by rw [List.length_take]; omega
  rw [e2]
  have e3 : k + (i - k) = i := by omega
  simp only [Option.toList, List.zipIdx_cons, List.zipIdx_nil, List.map_cons, List.map_nil]
  congr 1
  have e4 : ∀ q (hq : q < s.data.toList.length), q = i → (s.data.toList[q], ((q : Nat) : Int)) = (s[i], (i : Int)) := fun q hq e => by subst e; rfl
  exact e4 _ _ e3
/-- behind input.take -/
def TkPost (P : Value → World → Prop) (b : Nat) (tl : List Value) (V : RV) (S : St) (w : World) (e : Ending) (w' : World) : Prop := ∃ v, e = .returned v ∧ w'.ownsRow w.heap.size 230 2 v S.lineC.length (clC S.lineC) ∧ RunAt P b tl V S.took w' ∧ Rf (foot b V) (foot b V) w w'
set_option maxRecDepth 100000 in
set_option maxHeartbeats 1000000 in
theorem rtake_calls (P : Value → World → Prop) (b : Nat) (tl : List Value) (V : RV) (S : St) (w : World) (h : RunAt P b tl V S w) (hw : WF S) :
    Calls Tryz.prog 188 #[.pointer (some ⟨b, 5, none⟩)] w fun e w' => TkPost P b tl V S w e w' := by
  have c5 := h.cell 5 _ rfl
  have c7 := h.cell 7 _ rfl
  have hbl := h.box.lt
  have htx := hw.tx
  have hbh := hw.bh
  obtain ⟨hl1, hl2⟩ := St.lend_le S hbh
  have HLC : Hid (S.lineC = (((S.text.data.toList.drop S.behind).take (S.lend - S.behind)).zipIdx S.behind).map (fun p => (p.1, (p.2 : Int)))) := rfl
  have HLL : Hid (S.lineC.length = S.lend - S.behind) := by
    show _ = _
    rw [HLC.out, List.length_map, List.length_zipIdx, List.length_take, List.length_drop, ba_len]
    omega
  have HH : Hid (RunAt P b tl V S w) := h
  have HC := rlineEnd_calls P b tl V S w h hw
  obtain ⟨L, hL⟩ : ∃ L, S.lend = L := ⟨_, rfl⟩
  obtain ⟨k, hk⟩ : ∃ k, S.behind = k := ⟨_, rfl⟩
  obtain ⟨s, hs⟩ : ∃ s, S.text = s := ⟨_, rfl⟩
  have HLE : Hid (S.lend = L) := hL
  have HSS : Hid (S.text = s) := hs
  rw [hL] at HC hl1 hl2 HLC HLL
  rw [hk] at c7 hbh hl1 HLC HLL
  rw [hs] at c5 htx hbh hl2 HLC
  clear hL hk hs h
  go_enter Tryz.func188, Tryz.ntmps188
  go_wp2_with fail
  refine HC.mono ?_
  clear HC
  rintro e w2 ⟨rfl, rfl⟩
  go_wp2_with fail
  go_loopw [4, 5] (fun v4 v5 wr => ∃ i : Nat, v5 = .int .i64 i ∧ k ≤ i ∧ i ≤ L ∧ wr.ownsRow w2.heap.size 230 2 v4 (i - k) (clC ((((s.data.toList.drop k).take (i - k)).zipIdx k).map (fun p => (p.1, (p.2 : Int))))) ∧ Below w2.heap.size w2 wr) (fun _ v5 _ => L - (intOf v5).toNat)
  case atStart =>
    refine ⟨k, rfl, Nat.le_refl _, hl1, ?_, Below.refl _ _⟩
    rw [Nat.sub_self, List.take_zero]; exact World.ownsRow_nil _ _ _ _
  case round =>
    obtain ⟨i, rfl, hki, hiL, hown, hB⟩ := hrel
    obtain ⟨av, cv, hvv⟩ := own_form hown
    subst hvv
    have hwb := hB.size
    have d5 := (hB.cell (by exact hbl)).trans c5
    have hbl2 : b < wr.heap.size := by omega
    by_cases hlt : i < L
    · have hlt1 : (i : Int) < (L : Int) := by omega
      have his : i < s.size := by omega
      have his1 : (i : Int) < (s.size : Int) := by omega
      have HT : Hid (clC ((((s.data.toList.drop k).take (i + 1 - k)).zipIdx k).map (fun p => (p.1, (p.2 : Int)))) = clC ((((s.data.toList.drop k).take (i - k)).zipIdx k).map (fun p => (p.1, (p.2 : Int)))) ++ [.int .u8 (s[i].toNat : Int), .int .i64 (i : Int)]) := by
        show _ = _
        rw [seg_line s k i hki his, clC_app]; rfl
      obtain ⟨x, hx⟩ : ∃ x : Nat, s[i].toNat = x := ⟨_, rfl⟩
      have hxc : x < 256 := by rw [← hx]; exact s[i].toNat_lt
      rw [hx] at HT
      go_wp2_with (first
        | refine gb_build elCl rfl _ rfl [.int .u8 x, .int .i64 (i : Int)] rfl rfl ?_
        | (refine gb_append' elCl (hown.alloc _) wr.heap.size [.int .u8 x, .int .i64 (i : Int)] (heap_alloc_new wr _) rfl (by simp [Value.oneCell']) (by omega) (by simp; omega) rfl _ _ rfl rfl rfl ?_
           intro v' w6 hown6 hgrow6
           have hB6 : Below w2.heap.size w2 w6 := (hB.alloc (by omega) _).grown hgrow6 (by simp; omega) (fun k hk => (hown.lt k hk).1)
           obtain ⟨av', cv', hvv⟩ := own_form hown6
           subst hvv
           clear hgrow6))
      go_roundw
      case rel =>
        refine ⟨i + 1, by go_num, by omega, by omega, ?_, hB6⟩
        rw [HT.out]
        have e9 : i + 1 - k = i - k + 1 := by omega
        rw [e9]; exact hown6
      case measure => first | (simp [intOf]; done) | (simp [intOf]; omega)
    · obtain rfl : i = L := by omega
      have hlt1 : ¬ (i : Int) < (i : Int) := by omega
      have h1 := HH.out.below hB
      have f8 := h1.fz 8 (by decide)
      have f7 := h1.fz 7 (by decide)
      have d8 := h1.cell 8 _ rfl
      have d7 := h1.cell 7 _ rfl
      have hownL : wr.ownsRow w2.heap.size 230 2 (.slice av (i - k) cv) S.lineC.length (clC S.lineC) := by
        rw [HLL.out, HLC.out]; exact hown
      have hA := h1.set 8 (by decide) (.int .i64 (-1)) rfl { S with nl := -1 } rfl rfl rfl rfl rfl rfl
      have hA2 := hA.set 7 (by decide) (.int .i64 (i : Nat)) rfl { S with nl := -1, behind := i } rfl rfl rfl rfl rfl rfl
      have ho2 : ((wr.setCell ⟨b, 8, none⟩ (.int .i64 (-1))).setCell ⟨b, 7, none⟩ (.int .i64 (i : Nat))).ownsRow w2.heap.size 230 2 (.slice av (i - k) cv) S.lineC.length (clC S.lineC) := ownsRow_setCell_below (ownsRow_setCell_below hownL (by simp; omega) _) (by simp; omega) _
      have F2 : Rf (foot b V) (foot b V) w2 ((wr.setCell ⟨b, 8, none⟩ (.int .i64 (-1))).setCell ⟨b, 7, none⟩ (.int .i64 (i : Nat))) := (Rf.of_below hB).trans ((Rf.set V b 8 _ wr).trans (Rf.set V b 7 _ _))
      by_cases hls : i < s.size
      · have hls1 : (i : Int) < (s.size : Int) := by omega
        have hA3 := hA2.set 8 (by decide) (.int .i64 (i : Nat)) rfl { S with nl := (i : Nat), behind := i } rfl rfl rfl rfl rfl rfl
        have hA4 := hA3.set 7 (by decide) (.int .i64 ((i : Int) + 1)) rfl { S with nl := (i : Nat), behind := i + 1 } rfl rfl rfl rfl rfl rfl
        have HP : Hid (TkPost P b tl V S w2 (.returned (.slice av (i - k) cv)) ((((wr.setCell ⟨b, 8, none⟩ (.int .i64 (-1))).setCell ⟨b, 7, none⟩ (.int .i64 (i : Nat))).setCell ⟨b, 8, none⟩ (.int .i64 (i : Nat))).setCell ⟨b, 7, none⟩ (.int .i64 ((i : Int) + 1)))) := by
          refine ⟨_, rfl, ownsRow_setCell_below (ownsRow_setCell_below ho2 (by simp; omega) _) (by simp; omega) _, ?_, F2.trans ((Rf.set V b 8 _ _).trans (Rf.set V b 7 _ _))⟩
          unfold St.took
          rw [if_pos (by rw [HLE.out, HSS.out]; exact hls), HLE.out]; exact hA4
        clear hA hA2 hA3 hA4 h1 hown hownL ho2 F2
        go_wp2
        go_ret
        exact HP.out
      · have hls1 : ¬ (i : Int) < (s.size : Int) := by omega
        have HP : Hid (TkPost P b tl V S w2 (.returned (.slice av (i - k) cv)) ((wr.setCell ⟨b, 8, none⟩ (.int .i64 (-1))).setCell ⟨b, 7, none⟩ (.int .i64 (i : Nat)))) := by
          refine ⟨_, rfl, ho2, ?_, F2⟩
          unfold St.took
          rw [if_neg (by rw [HLE.out, HSS.out]; exact hls), HLE.out]; exact hA2
        clear hA hA2 h1 hown hownL ho2 F2
        go_wp2
        go_ret
        exact HP.out
end Go.Proofs.YtlppphmnegdhoabGreatDoor

namespace Go.Proofs.YtlppphmnegdhoabGreatDoor
set_option linter.unusedVariables false
set_option maxRecDepth 100000
open Go.RowKit
open M

section
variable {P : Value → World → Prop} {b : Nat} {tl : List Value} {V : RV} {S : St} {w w' : World}
theorem SlAt.one {v : Value} {l : List Cl} (h : SlAt w v l) : v.oneCell' = true := by
  obtain ⟨a, c, rfl, _⟩ := h
  rfl
/-- the pattern space becomes another -/
theorem RunAt.setPat (h : RunAt P b tl V S w) (v : Value) (l : List Cl) (hs : Stab (foot b V) w (fun w => SlAt w v l)) : RPost P b tl V { S with pat := l } w (w.setCell ⟨b, 10, none⟩ v) := by
  refine ⟨⟨V.scr, V.rng, V.out, v, V.hold, V.que⟩, rfl, ?_⟩
  have f1 : Rf (foot b V) (foot b ⟨V.scr, V.rng, V.out, v, V.hold, V.que⟩) w (w.setCell ⟨b, 10, none⟩ v) := Rf.set V b 10 v w
  have hk : ∀ k, k ≠ b → (w.setCell ⟨b, 10, none⟩ v).heap[k]? = w.heap[k]? := fun k hk => heap_setCell_other w _ k _ hk
  refine ⟨⟨?_, ?_, ?_, ?_, h.so, h.sr, h.sq, h.scr.fr f1, hs.fr f1, h.hold.fr f1, h.one⟩, f1⟩
  · have h1 := h.box.set 10 (by rw [List.length_append, runC_len]; omega) v hs.out.one
    rw [List.set_append_left _ _ (by rw [runC_len]; omega)] at h1
    exact h1
  · exact ownsRow_fr (F := foot b V) (G := foot b V) h.out (fun k e => hk k (fun e' => h.so (e' ▸ e)))
  · exact ownsRow_fr (F := foot b V) (G := foot b V) h.rng (fun k e => hk k (fun e' => h.sr (e' ▸ e)))
  · exact ownsRow_fr (F := foot b V) (G := foot b V) h.que (fun k e => hk k (fun e' => h.sq (e' ▸ e)))
theorem RunAt.setHold (h : RunAt P b tl V S w) (v : Value) (l : List Cl) (hs : Stab (foot b V) w (fun w => SlAt w v l)) : RPost P b tl V { S with hold := l } w (w.setCell ⟨b, 11, none⟩ v) := by
  refine ⟨⟨V.scr, V.rng, V.out, V.pat, v, V.que⟩, rfl, ?_⟩
  have f1 : Rf (foot b V) (foot b ⟨V.scr, V.rng, V.out, V.pat, v, V.que⟩) w (w.setCell ⟨b, 11, none⟩ v) := Rf.set V b 11 v w
  have hk : ∀ k, k ≠ b → (w.setCell ⟨b, 11, none⟩ v).heap[k]? = w.heap[k]? := fun k hk => heap_setCell_other w _ k _ hk
  refine ⟨⟨?_, ?_, ?_, ?_, h.so, h.sr, h.sq, h.scr.fr f1, h.pat.fr f1, hs.fr f1, h.one⟩, f1⟩
  · have h1 := h.box.set 11 (by rw [List.length_append, runC_len]; omega) v hs.out.one
    rw [List.set_append_left _ _ (by rw [runC_len]; omega)] at h1
    exact h1
  · exact ownsRow_fr (F := foot b V) (G := foot b V) h.out (fun k e => hk k (fun e' => h.so (e' ▸ e)))
  · exact ownsRow_fr (F := foot b V) (G := foot b V) h.rng (fun k e => hk k (fun e' => h.sr (e' ▸ e)))
  · exact ownsRow_fr (F := foot b V) (G := foot b V) h.que (fun k e => hk k (fun e' => h.sq (e' ▸ e)))
/-- a list that was made behind a run's world is of no block of the run's -/
theorem stab_new {B : Nat} {v : Value} {l : List Cl} {F : Nat → Prop} (h : w'.ownsRow B 230 2 v l.length (clC l)) (hF : ∀ k, F k → k < B) : Stab F w' (fun w => SlAt w v l) := by
  refine Stab.slat (SlAt.own h) (fun g o n c hv hg => ?_)
  subst hv
  have := hF g hg
  rcases h.2 with ⟨h1, _⟩ | ⟨g', cap, cur, h1, h2, _⟩
  · cases h1
  · cases h1
    omega
end
/-- ahead of the queue -/
def takeA (S : St) : St := if S.asks = 2 then ({ S with asks := 0 } : St).putUQ else { S with asks := 0 }
def takeL (S T : St) : List Cl := if S.asks = 3 then joinC T.pat (nlC T.nl) T.lineC else T.lineC
def takeZ (S T : St) : St := { T.took with line := T.line + 1, mark := false }
theorem take_by (S : St) : S.take = if (takeZ S (takeA S).putQueue).fits (takeL S (takeA S).putQueue).length then { takeZ S (takeA S).putQueue with pat := takeL S (takeA S).putQueue } else (takeZ S (takeA S).putQueue).die 5 := rfl
set_option maxRecDepth 100000 in
set_option maxHeartbeats 2000000 in
theorem take_calls (P : Value → World → Prop) (b : Nat) (tl : List Value) (V : RV) (S : St) (w : World) (h : RunAt P b tl V S w) (hw : WF S) :
    Calls Tryz.prog 154 #[.pointer (some ⟨b, 0, none⟩)] w fun e w' => VPost P b tl V S.take w e w' := by
  have c16 := h.cell 16 _ rfl
  have f16 := h.fz 16 (by decide)
  have hbl := h.box.lt
  have hak := hw.ak
  have hA := h.set 16 (by decide) (.int .i64 0) rfl { S with asks := 0 } rfl rfl rfl rfl rfl rfl
  have HA : Hid (RunAt P b tl V { S with asks := 0 } (w.setCell ⟨b, 16, none⟩ (.int .i64 0))) := hA
  have HFA : Hid (Rf (foot b V) (foot b V) w (w.setCell ⟨b, 16, none⟩ (.int .i64 0))) := Rf.set V b 16 _ w
  have hwA : WF { S with asks := 0 } := { hw with ak := Nat.zero_le _ }
  have hwT : WF (takeA S) := by
    unfold takeA
    split
    · exact hwA.putUQ
    · exact hwA
  have HBY : Hid (S.take = if (takeZ S (takeA S).putQueue).fits (takeL S (takeA S).putQueue).length then { takeZ S (takeA S).putQueue with pat := takeL S (takeA S).putQueue } else (takeZ S (takeA S).putQueue).die 5) := take_by S
  have HTA : Hid (takeA S = if S.asks = 2 then ({ S with asks := 0 } : St).putUQ else { S with asks := 0 }) := rfl
  have HTL : Hid (∀ T, takeL S T = if S.asks = 3 then joinC T.pat (nlC T.nl) T.lineC else T.lineC) := fun _ => rfl
  obtain ⟨q, hq⟩ : ∃ q, S.asks = q := ⟨_, rfl⟩
  rw [hq] at c16 hak HTA HTL
  clear hA h hq
  go_enter Tryz.func154, Tryz.ntmps154
  go_upto_if 13 with fail
  go_cut [] (fun wx => OPost P b tl V (takeA S) w wx)
  case first =>
    by_cases h2 : q = 2
    · have h21 : ((q : Int) == 2) = true := by simp [h2]
      rw [if_pos h2] at HTA
      clear h2
      go_wp2_with fail
      refine (putUQ_calls P b tl V _ _ HA.out hwA).mono ?_
      rintro e w2 ⟨rfl, hr⟩
      have HR : Hid (OPost P b tl V (takeA S) w w2) := by show OPost _ _ _ _ _ _ _; rw [HTA.out]; exact OPost.pre HFA.out hr
      clear hr
      go_wp2
      go_meet
      exact HR.out
    · have h21 : ((q : Int) == 2) = false := by simp; omega
      rw [if_neg h2] at HTA
      have HR : Hid (OPost P b tl V (takeA S) w (w.setCell ⟨b, 16, none⟩ (.int .i64 0))) := by show OPost _ _ _ _ _ _ _; rw [HTA.out]; exact ⟨V.out, HA.out, HFA.out⟩
      clear h2
      go_wp2
      go_meet
      exact HR.out
  case rest =>
    obtain ⟨vo, hR2, hF2⟩ := hcut
    clear HA HFA HTA
    go_wp2_with fail
    refine (putQueue_calls P b tl (V.withOut vo) (takeA S) _ hR2 hwT).mono ?_
    rintro e w3 ⟨rfl, V3, hs3, hR3, hF3⟩
    have HF3 : Hid (Rf (foot b V) (foot b V3) w w3) := hF2.trans hF3
    have hw3 : WF (takeA S).putQueue := hwT.putQueue
    obtain ⟨T, hT⟩ : ∃ T, (takeA S).putQueue = T := ⟨_, rfl⟩
    rw [hT] at hR3 HBY hw3
    have c8 := hR3.cell 8 _ rfl
    have hb3 := hR3.box.lt
    have HR3 : Hid (RunAt P b tl V3 T w3) := hR3
    clear hR2 hF2 hF3 hT hR3
    go_wp2_with fail
    refine (rnewline_calls T.nl w3).mono ?_
    rintro e w4 ⟨rfl, B4⟩
    have B5 : Below w3.heap.size w3 (w4.alloc (.cells #[.int .u8 10, .int .i64 T.nl] 230)) := B4.alloc B4.size _
    have hbt : CB (w4.alloc (.cells #[.int .u8 10, .int .i64 T.nl] 230)) w4.heap.size [.int .u8 10, .int .i64 T.nl] := CB.new w4 _ #[.int .u8 10, .int .i64 T.nl] (by simp [Value.oneCell'])
    have h5 := HR3.out.below B5
    have HR5 : Hid (RunAt P b tl V3 T (w4.alloc (.cells #[.int .u8 10, .int .i64 T.nl] 230))) := h5
    have hb5 := h5.box.lt
    have hs4 := B4.size
    clear h5
    go_wp2_with fail
    refine (rtake_calls P b tl V3 T _ HR5.out hw3).mono ?_
    rintro e w6 ⟨v6, rfl, hown6, hR6, hF6⟩
    have hfn : ¬ foot b V3 w4.heap.size := fun hf => by have := foot_lt HR3.out _ hf; omega
    have hbt6 := hbt.keep (hF6.block _ hbt.lt hfn) hF6.size
    have c12 := hR6.cell 12 _ rfl
    have f12 := hR6.fz 12 (by decide)
    have f14 := hR6.fz 14 (by decide)
    have c14 := hR6.cell 14 _ rfl
    have hb6 := hR6.box.lt
    have hli := hw3.li
    have hbh := hw3.bh
    have htx := hw3.tx
    have hlt6 : T.took.line = T.line := by unfold St.took; split <;> rfl
    have c12' : w6.cell? ⟨b, 12, none⟩ = some (.int .i64 (T.line : Nat)) := by rw [c12, hlt6]
    have hA := hR6.set 12 (by decide) (.int .i64 ((T.line : Int) + 1)) rfl { T.took with line := T.line + 1 } rfl rfl rfl rfl rfl rfl
    have hB := hA.set 14 (by decide) (.bool false) rfl (takeZ S T) rfl rfl rfl rfl rfl rfl
    have hs6 := hF6.size
    have hne4 : w4.heap.size ≠ b := by omega
    have hbt7 := (hbt6.keep (w' := w6.setCell ⟨b, 12, none⟩ (.int .i64 ((T.line : Int) + 1))) (heap_setCell_other w6 _ _ _ hne4) (by simp)).keep (w' := (w6.setCell ⟨b, 12, none⟩ (.int .i64 ((T.line : Int) + 1))).setCell ⟨b, 14, none⟩ (.bool false)) (heap_setCell_other _ _ _ _ hne4) (by simp)
    have hown7 : ((w6.setCell ⟨b, 12, none⟩ (.int .i64 ((T.line : Int) + 1))).setCell ⟨b, 14, none⟩ (.bool false)).ownsRow w3.heap.size 230 2 v6 T.lineC.length (clC T.lineC) := ownsRow_setCell_below (ownsRow_setCell_below (ownsRow_base hown6 (by simp; omega)) (by exact hb3) _) (by exact hb3) _
    have HF7 : Hid (Rf (foot b V) (foot b V3) w ((w6.setCell ⟨b, 12, none⟩ (.int .i64 ((T.line : Int) + 1))).setCell ⟨b, 14, none⟩ (.bool false))) := HF3.out.trans ((Rf.of_below B5).trans (hF6.trans ((Rf.set V3 b 12 _ _).trans (Rf.set V3 b 14 _ _))))
    have HR7 : Hid (RunAt P b tl V3 (takeZ S T) ((w6.setCell ⟨b, 12, none⟩ (.int .i64 ((T.line : Int) + 1))).setCell ⟨b, 14, none⟩ (.bool false))) := hB
    obtain ⟨a6, c6, hv6⟩ := own_form hown6
    subst hv6
    have HLL : Hid (T.lineC.length ≤ 4096) := by
      show _ ≤ _
      unfold St.lineC
      rw [List.length_map, List.length_zipIdx, List.length_take, List.length_drop, ba_len]
      omega
    clear hA hB hR6 hF6 c12 hlt6 hbt hbt6 hown6 HR5
    have hzr : (takeZ S T).room ≤ 256 := by
      have h9 := hw3.rm
      have e9 : (takeZ S T).room = T.room := by show T.took.room = _; unfold St.took; split <;> rfl
      rw [e9]; exact h9
    have hs3V : V3.scr = V.scr := hs3
    have HZP : Hid ((takeZ S T).pat = T.pat) := by show T.took.pat = _; unfold St.took; split <;> rfl
    have hfoot : ∀ k, foot b V3 k → k < w3.heap.size := fun k hk => foot_lt HR3.out k hk
    have hpa := hw3.pa
    by_cases h3 : q = 3
    · have h31 : ((q : Int) == 3) = true := by simp [h3]
      have hsp := HR7.out.pat.out
      rw [HZP.out] at hsp
      obtain ⟨ap, cp, hvp, _⟩ := hsp.form
      have c10 := HR7.out.cell 10 _ rfl
      rw [hvp] at c10 hsp
      have hb7 := HR7.out.box.lt
      have d0 := hbt7.c 0 _ rfl
      have d1 := hbt7.c 1 _ rfl
      have l4 := hbt7.lt
      have hsl := SlAt.own hown7
      have HT3 : Hid (q = 3) := h3
      clear h3
      go_wp2_with fail
      generalize (w6.setCell ⟨b, 12, none⟩ (.int .i64 ((T.line : Int) + 1))).setCell ⟨b, 14, none⟩ (.bool false) = W7 at *
      have B7 : Below W7.heap.size W7 W7.drew := (Below.refl _ _).drew
      have hsp2 := hsp.drew
      have hsl2 := hsl.drew
      go_region_held3 (fun w' => w'.cell? ⟨b, 10, none⟩ = some (.slice ap T.pat.length cp) ∧ w'.cell? ⟨w4.heap.size, 0, none⟩ = some (.int .u8 10) ∧ w'.cell? ⟨w4.heap.size, 1, none⟩ = some (.int .i64 T.nl) ∧ b < w'.heap.size ∧ w4.heap.size < w'.heap.size)
        (first
          | go_keep
          | (go_split_ands
             refine ⟨?_, ?_, ?_, ?_, ?_⟩
             · (rw [hb1.cell (by assumption)]; assumption)
             · (rw [hb1.cell (by assumption)]; assumption)
             · (rw [hb1.cell (by assumption)]; assumption)
             · (have := hb1.size; omega)
             · (have := hb1.size; omega)))
        (first
          | (go_at_call 189; refine (rjoined_calls _ _ T.pat T.lineC 10 T.nl 10 _ rfl hsp2 hsl2 (by have := HLL.out; omega)).mono ?_; rintro e w8 ⟨v8, rfl, hown8, hb1⟩; have B8 := hb1))
      have hown8' : w8.ownsRow W7.heap.size 230 2 v8 (joinC T.pat (nlC T.nl) T.lineC).length (clC (joinC T.pat (nlC T.nl) T.lineC)) := hown8
      obtain ⟨a8, c8', hv8⟩ := own_form hown8'
      subst hv8
      have BB8 : Below W7.heap.size W7 w8 := below2 B7 B8
      have hR8 := HR7.out.below BB8
      have hst8 : Stab (foot b V3) w8 (fun w => SlAt w (.slice a8 (joinC T.pat (nlC T.nl) T.lineC).length c8') (joinC T.pat (nlC T.nl) T.lineC)) := stab_new hown8' (fun k hk => foot_lt HR7.out k hk)
      have HJL : Hid ((joinC T.pat (nlC T.nl) T.lineC).length ≤ 5000) := by
        show _ ≤ _
        unfold joinC
        rw [List.length_append, List.length_append]
        have := HLL.out
        simp; omega
      have HF8 : Hid (Rf (foot b V) (foot b V3) w w8) := HF7.out.trans (.of_below BB8)
      clear hown8 hown8' hsp hsl hsp2 hsl2 hvp hbt7 hown7
      go_wp2_with fail
      refine (rfits_calls P b tl V3 (takeZ S T) (joinC T.pat (nlC T.nl) T.lineC).length _ hR8 hzr (by have := HJL.out; omega)).mono ?_
      rintro e w9 ⟨rfl, V9, hs9, hR9, hF9⟩
      have HST := (hst8).fr hF9
      cases hft : (takeZ S T).fits (joinC T.pat (nlC T.nl) T.lineC).length
      · rw [hft, if_neg (by decide)] at hR9
        have HF : Hid (RPost P b tl V S.take w w9) := by
          show RPost _ _ _ _ _ _ _
          rw [HBY.out, HTL.out, HT3.out, if_pos rfl, hft, if_neg (by decide)]
          exact ⟨V9, hs9.trans hs3V, hR9, HF8.out.trans hF9⟩
        clear hft hR9 hF9 HST
        go_wp2
        go_end0
        exact ⟨rfl, HF.out⟩
      · rw [hft, if_pos rfl] at hR9
        have l9 := hR9.box.lt
        have f10 := hR9.fz 10 (by decide)
        have c10 := hR9.cell 10 _ rfl
        have hfin := hR9.setPat _ _ HST
        have HF : Hid (RPost P b tl V S.take w (w9.setCell ⟨b, 10, none⟩ (.slice a8 (joinC T.pat (nlC T.nl) T.lineC).length c8'))) := by
          show RPost _ _ _ _ _ _ _
          rw [HBY.out, HTL.out, HT3.out, if_pos rfl, hft, if_pos rfl]
          exact RPost.trans (hs9.trans hs3V) (HF8.out.trans hF9) hfin
        clear hft hR9 hF9 HST hfin
        go_wp2
        go_end0
        exact ⟨rfl, HF.out⟩
    · have h31 : ((q : Int) == 3) = false := by simp; omega
      have HT3 : Hid (¬ q = 3) := h3
      have hst8 : Stab (foot b V3) ((w6.setCell ⟨b, 12, none⟩ (.int .i64 ((T.line : Int) + 1))).setCell ⟨b, 14, none⟩ (.bool false)) (fun w => SlAt w (.slice a6 T.lineC.length c6) T.lineC) := stab_new hown7 hfoot
      clear h3 hbt7 hown7
      go_wp2_with fail
      generalize (w6.setCell ⟨b, 12, none⟩ (.int .i64 ((T.line : Int) + 1))).setCell ⟨b, 14, none⟩ (.bool false) = W7 at *
      refine (rfits_calls P b tl V3 (takeZ S T) T.lineC.length _ HR7.out hzr (by have := HLL.out; omega)).mono ?_
      rintro e w9 ⟨rfl, V9, hs9, hR9, hF9⟩
      have HST := (hst8).fr hF9
      cases hft : (takeZ S T).fits T.lineC.length
      · rw [hft, if_neg (by decide)] at hR9
        have HF : Hid (RPost P b tl V S.take w w9) := by
          show RPost _ _ _ _ _ _ _
          rw [HBY.out, HTL.out, if_neg HT3.out, hft, if_neg (by decide)]
          exact ⟨V9, hs9.trans hs3V, hR9, HF7.out.trans hF9⟩
        clear hft hR9 hF9 HST
        go_wp2
        go_end0
        exact ⟨rfl, HF.out⟩
      · rw [hft, if_pos rfl] at hR9
        have l9 := hR9.box.lt
        have f10 := hR9.fz 10 (by decide)
        have c10 := hR9.cell 10 _ rfl
        have hfin := hR9.setPat _ _ HST
        have HF : Hid (RPost P b tl V S.take w (w9.setCell ⟨b, 10, none⟩ (.slice a6 T.lineC.length c6))) := by
          show RPost _ _ _ _ _ _ _
          rw [HBY.out, HTL.out, if_neg HT3.out, hft, if_pos rfl]
          exact RPost.trans (hs9.trans hs3V) (HF7.out.trans hF9) hfin
        clear hft hR9 hF9 HST hfin
        go_wp2
        go_end0
        exact ⟨rfl, HF.out⟩
end Go.Proofs.YtlppphmnegdhoabGreatDoor

namespace Go.Proofs.YtlppphmnegdhoabGreatDoor
set_option linter.unusedVariables false
set_option maxRecDepth 100000
open Go.RowKit
open M

/-- up to j, from the items behind k on -/
def stg (tl : Bool) (l : List It) (s : List UInt8) (j k p : Nat) : Bool := decide (p ≤ j) && ((!tl || decide (j = s.length)) && mt (l.drop k) (seg s p j))
theorem seg_nil (s : List UInt8) (j : Nat) : seg s j j = [] := by unfold seg; rw [List.drop_of_length_le]; rw [List.length_take]; omega
theorem seg_cons (s : List UInt8) (p j : Nat) (h : p < j) (hj : j ≤ s.length) : seg s p j = s[p] :: seg s (p + 1) j := by
  unfold seg
  have hl : p < (s.take j).length := by rw [List.length_take]; omega
  rw [List.drop_eq_getElem_cons hl]
  congr 1
  rw [List.getElem_take]
theorem stg_end (tl : Bool) (l : List It) (s : List UInt8) (j p : Nat) (hj : j ≤ s.length) : stg tl l s j l.length p = (decide (p = j) && (!tl || decide (j = s.length))) := by
  unfold stg
  rw [List.drop_length, mt_nil]
  by_cases h : p = j
  · subst h; rw [seg_nil]; simp
  · by_cases h2 : p ≤ j
    · rw [seg_cons s p j (by omega) hj]; simp [h]
    · simp [h2, h]
theorem stg_step (tl : Bool) (l : List It) (s : List UInt8) (j k p : Nat) (hk : k < l.length) (hj : j ≤ s.length) (hp : p ≤ j) :
    stg tl l s j k p = if l[k].star then (stg tl l s j (k + 1) p || ((decide (p < j) && hasI l[k] ((s.getD p 0).toNat)) && stg tl l s j k (p + 1))) else ((decide (p < j) && hasI l[k] ((s.getD p 0).toNat)) && stg tl l s j (k + 1) (p + 1)) := by
  unfold stg
  rw [List.drop_eq_getElem_cons hk]
  generalize (!tl || decide (j = s.length)) = T
  by_cases h : p < j
  · have e : s.getD p 0 = s[p] := by rw [List.getD_eq_getElem?_getD, List.getElem?_eq_getElem (by omega)]; rfl
    rw [seg_cons s p j h hj, mt_cons, e]
    have h1 : p ≤ j := hp
    have h2 : p + 1 ≤ j := h
    cases l[k].star <;> cases T <;> simp [h, h1, h2]
  · obtain rfl : p = j := by omega
    rw [seg_nil, mt_end]
    cases l[k].star <;> cases T <;> simp
end Go.Proofs.YtlppphmnegdhoabGreatDoor

