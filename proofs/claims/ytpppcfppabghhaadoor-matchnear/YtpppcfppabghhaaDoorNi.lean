/-
  MatchNear: its law.
-/
import Derived.RangeFuncNested
import Derived.RangeFuncBound
import Derived.RangeFuncCalls
import Derived.RangeFuncLeaves
import Derived.Shelf.Abstract
import Derived.Shelf.RegionOpen
import Derived.WalkKit
import Derived.WalkSpells
import Derived.WalkLawsBesides
import Derived.OwnWalkIn
import Derived.TacticsInMore
import Derived.LoopNIn
import Derived.LoopIn
import Derived.BigQuiet
import Derived.RegionIn
import Derived.Deep.QuietTactic
import Derived.Deep.RegionWith
import Derived.Lib.OthersKept
import Derived.Maps.AppendAt
import Derived.Lib.SmallJoins
import Derived.Shelf.SlSortCmp.QuietGrown
import Derived.Deep.DeepCutAuto
import Derived.Deep.CutBlock
import Derived.Test.YtpppcfppabghhaaDoorNf
import Derived.Test.YtpppcfppabghhaaDoorNh
import Derived.Test.YtpppcfppabghhaaDoorWe
namespace Go.Proofs
open Go.RowKit Go.Shelf

set_option maxRecDepth 100000
attribute [local go_sem] Oper.semAt_some
attribute [local go_sem ↓] Go.wp_at_zero Go.wp_at_succ

theorem ir_take {w : World} {g o N c n : Nat} {l : List Int} (h : IR w (.slice (some ⟨g, o, none⟩) N c) l) (hn : n ≤ N) : IR w (.slice (some ⟨g, o, none⟩) n c) (l.take n) := by
  obtain ⟨A, c', e, hc, hr⟩ := h
  injection e with e1 e2 e3
  subst e3
  have ht : (l.take n).length = n := by rw [List.length_take]; omega
  refine ⟨_, c, by rw [ht], by omega, ?_⟩
  rcases hr with rfl | ⟨g', o', h1, hr⟩
  · exact .inl (by simp)
  · rw [← e1] at h1
    injection h1 with h1
    injection h1 with h1 h2
    subst h1 h2
    exact .inr ⟨g, o, rfl, fun j hj => by rw [List.getElem_take]; exact hr j (by omega)⟩
theorem ir_drop {w : World} {g o N c n : Nat} {l : List Int} (h : IR w (.slice (some ⟨g, o, none⟩) N c) l) (hn : n ≤ N) : IR w (.slice (some ⟨g, o + n, none⟩) (N - n) (c - n)) (l.drop n) := by
  obtain ⟨A, c', e, hc, hr⟩ := h
  injection e with e1 e2 e3
  subst e3
  refine ⟨_, c - n, by rw [List.length_drop, e2], by rw [List.length_drop]; omega, ?_⟩
  rcases hr with rfl | ⟨g', o', h1, hr⟩
  · exact .inl (by simp)
  · rw [← e1] at h1
    injection h1 with h1
    injection h1 with h1 h2
    subst h1 h2
    exact .inr ⟨g, o + n, rfl, fun j hj => by
      rw [List.length_drop] at hj
      have := hr (n + j) (by omega)
      rw [List.getElem_drop, Nat.add_assoc]
      exact this⟩
theorem ir_takeA {w : World} {A : Option Addr} {N c n : Nat} {l : List Int} (h : IR w (.slice A N c) l) (hn : n ≤ N) : IR w (.slice A n c) (l.take n) := by
  obtain ⟨A', c', e, hc, hr⟩ := h
  injection e with e1 e2 e3
  subst e1 e3
  have ht : (l.take n).length = n := by rw [List.length_take]; omega
  refine ⟨A, c, by rw [ht], by omega, ?_⟩
  rcases hr with rfl | ⟨g, o, h1, hr⟩
  · exact .inl (by simp)
  · exact .inr ⟨g, o, h1, fun j hj => by
      have := hr j (by rw [ht] at hj; omega)
      rw [List.getElem_take]
      exact this⟩
/-- a row of numbers behind a row of the call's own -/
theorem app_I {ops : Array Oper} {rest : List Oper} {o : Oper} {a : Act} {Q : Exit → Act → World → Prop} {w : World} (hgd : o.guard = none) (s x : Operand) (t : TypeId)
    (ho : o.op = .call { callee := .builtin .append, args := #[s, x], argTypes := #[t, t] }) (ht : Tryd.prog.underlying t = some (.slice 3))
    (base : Nat) (v : Value) (l b k : List Int) (hk : l ++ b = k) (hs : a.eval s = v) (hown : OwnI w base v l) (hv : v ≠ .slice none 0 0) (ad : Addr) (m c : Nat) (hx : a.eval x = .slice (some ad) m c)
    (hr : IR w (.slice (some ad) m c) b) (hl : l.length + b.length ≤ 8796093022208) (hbase : base ≤ w.heap.size)
    (h : ∀ g N cap w', N = k.length → OwnI w' base (.slice (some ⟨g, 0, none⟩) N cap) k → Below base w w' → wpList Tryd.prog ops Q rest (a.put o.dst (.slice (some ⟨g, 0, none⟩) N cap)) w') : wpList Tryd.prog ops Q (o :: rest) a w := by
  subst hk
  obtain ⟨i0, hi, hz0, hz1, hz2⟩ := info_parts iinfo3
  obtain ⟨a', c', e, _, hb⟩ := hr
  injection e with e1 e2 e3
  subst e2
  refine wpList_append_own w hgd s x t ho base 3 i0 (.int .i64 0) 1 8 ht hi hz0 hz1 hz2 rfl (by decide) v l.length (ints l) hs hown ad b.length c (ints b) hx (by rw [ints_length, Nat.mul_one]) ?_ (ints_one _) (by unfold maxLen; omega) (by omega) hbase (fun v' w' h2 h3 h4 => ?_)
  · intro j u hj
    rcases hb with hb | ⟨g, o', e2, hR⟩
    · subst hb; simp [ints] at hj
    · rw [e2] at e1
      injection e1 with e1
      subst e1
      have hjl : j < b.length := by rw [← ints_length]; exact (List.getElem?_eq_some_iff.1 hj).1
      have hadd : (⟨g, o', none⟩ : Addr).add j = ⟨g, o' + j, none⟩ := by unfold Addr.add; split <;> simp_all
      rw [hadd, hR j hjl]
      have : (ints b)[j]? = some (.int .i64 b[j]) := by simp [ints, hjl]
      rw [this] at hj
      exact hj
  · have hO : OwnI w' base v' (l ++ b) := by
      unfold OwnI
      rw [List.length_append, ints_append]; exact h2
    rcases hO.2 with ⟨e, _⟩ | ⟨g, cap, cur, e, _, _, hcp, _⟩
    · exact absurd (h4.1 e).1 hv
    · subst e
      exact h g _ cap w' rfl hO ((Below.refl _ w).grown h3 hbase (fun k hk => (World.ownsRow.lt hown k hk).1))
theorem ir_leng {w : World} {a : Option Addr} {n c : Nat} {l : List Int} (h : IR w (.slice a n c) l) : n = l.length := by
  obtain ⟨a', c', e, _, _⟩ := h
  injection e with e1 e2 e3
theorem psr_at {w : World} {ra : Option Addr} {n rc : Nat} {rs : List Rl} (h : PsR w (.slice ra n rc) rs) (h0 : rs ≠ []) : ∃ g o, ra = some ⟨g, o, none⟩ ∧ ∀ (j : Nat) (hj : j < rs.length), RAt w g (o + j * 7) rs[j] := by
  obtain ⟨a', c', e', _, hP⟩ := h
  obtain ⟨g, o, ha', hP2⟩ := hP.resolve_left h0
  injection e' with e1 e2 e3
  exact ⟨g, o, e1.trans ha', hP2⟩
theorem ir_addr {w : World} {a : Option Addr} {n c : Nat} {l : List Int} (h : IR w (.slice a n c) l) (h0 : l ≠ []) : ∃ g o, a = some ⟨g, o, none⟩ := by
  obtain ⟨a', c', e, _, h⟩ := h
  injection e with e1 e2 e3
  obtain ⟨g, o, h1, _⟩ := h.resolve_left h0
  exact ⟨g, o, e1.trans h1⟩
theorem own_twoI (w : World) (u : Int) : OwnI (w.alloc (.cells #[.int .i64 u, .int .i64 u] 3)) w.heap.size (.slice (some ⟨w.heap.size, 0, none⟩) 2 2) [u, u] :=
  NewI.own ⟨w.heap.size, rfl, Nat.le_refl _, heap_alloc_new _ _⟩ (by show 2 ≤ maxLen; decide)
theorem own_emptyI (w : World) : OwnI (w.alloc (.cells #[] 3)) w.heap.size (.slice (some ⟨w.heap.size, 0, none⟩) 0 0) [] :=
  NewI.own ⟨w.heap.size, rfl, Nat.le_refl _, heap_alloc_new _ _⟩ (by decide)
theorem below_up {b : Nat} {w w' : World} (h : Below b w w') (hb : b ≤ w.heap.size) (o : Obj) : Below b w (w'.alloc o) := h.trans ((Below.refl _ w').alloc (by have := h.size; omega) o)
theorem chain3 {wr w4 w6 w8 : World} {o1 o2 o3 : Obj} (h4 : Below wr.heap.size (wr.alloc o1) w4) (h6 : Below w4.heap.size (w4.alloc o2) w6) (h8 : Below w4.heap.size (w6.alloc o3) w8) : Below wr.heap.size wr w8 ∧ Below w4.heap.size w4 w8 := by
  have a4 : Below wr.heap.size wr w4 := ((Below.refl _ wr).alloc (Nat.le_refl _) _).trans h4
  have a8 : Below w4.heap.size w4 w8 := (below_up (((Below.refl _ w4).alloc (Nat.le_refl _) _).trans h6) (Nat.le_refl _) _).trans h8
  exact ⟨a4.trans (a8.mono a4.size), a8⟩
/-- nil, or a slice that has an address -/
def NilOk (v : Value) : Prop := v = .slice none 0 0 ∨ ∃ ad n c, v = .slice (some ad) n c
set_option maxHeartbeats 8000000 in
theorem near_any (v dv lv : Value) (u : Int) (rs : List Rl) (d l : List Int) (w : World) (hT : Tab w) (h : PsR w v rs) (hrn : rs.length ≤ 9223372036854775807) (hd : IR w dv d) (hl : IR w lv l) (hdn : d.length ≤ 9223372036854775807) (hln : l.length ≤ 9223372036854775807) (hdo : NilOk dv) :
    Calls Tryd.prog 4 #[.agg #[v], dv, lv, .int .i64 u] w fun e w' => e = .returned (.bool true) ∧ Below w.heap.size w w' := by
  have HSh : Hid (∀ V, Grown w V → Calls Tryd.prog 7 #[] V fun e w' => e = .returned (.bool true) ∧ Grown V w') := fun V hg => shown_any V (hT.grown hg)
  have HF : Hid (∀ V d' l' dv' lv', Below w.heap.size w V → IR V dv' d' → IR V lv' l' → d'.length ≤ 9223372036854775807 → Near d' l' d l → Calls Tryd.prog 11 #[.agg #[v], dv', lv'] V fun e w' => e = .returned (.int .i64 (fdF rs d l)) ∧ Grown V w') := fun V d' l' dv' lv' hb hd' hl' hn' hN => by
    rw [← fdF_near hN]
    exact find_any9 v dv' lv' rs d' l' V (hT.below hb hT.pos) (h.below hb (Nat.le_refl _)) hd' hl' hn'
  obtain ⟨F, hF⟩ : ∃ F, fdF rs d l = F := ⟨_, rfl⟩
  rw [hF] at HF
  clear hF
  have HP : Hid (∀ V, Below w.heap.size w V → PsR V v rs) := fun V hg => h.below hg (Nat.le_refl _)
  have HS : Hid (∀ (V : World) (r : Rl) (av kv pv rv : Value) d' l' dv' lv', Below w.heap.size w V → IR V dv' d' → IR V lv' l' → d'.length ≤ 9223372036854775807 → Near d' l' d l → RR V av kv pv rv r → Calls Tryd.prog 13 #[.agg #[.bool r.bg, av, kv, pv, .bool r.en, rv, .int .i64 r.cu], dv', lv'] V fun e w' => e = .returned (.bool (fitsB r d l)) ∧ Grown V w') := fun V r av kv pv rv d' l' dv' lv' hb hd' hl' hn' hN hr => by
    rw [← fitsB_near hN]
    exact fits_any r av kv pv rv dv' lv' d' l' V (hT.below hb hT.pos) hr hd' hl' hn'
  have HID : Hid (IR w dv d) := hd
  have HIL : Hid (IR w lv l) := hl
  obtain ⟨da, dc, hdv, hdc, _⟩ := hd
  subst hdv
  have HDW : Hid ((da = none ∧ d.length = 0 ∧ dc = 0) ∨ ∃ ad, da = some ad) := by
    rcases hdo with h1 | ⟨ad, n, c, h1⟩
    · injection h1 with h1 h2 h3; exact .inl ⟨h1, h2, h3⟩
    · injection h1 with h1; exact .inr ⟨ad, h1⟩
  clear hdo
  obtain ⟨la, lc, hlv, hlc, _⟩ := hl
  subst hlv
  obtain ⟨ra, rc, hv, hx1, hx2⟩ := h
  subst hv
  clear hx1 hx2 hT
  obtain ⟨n, hN⟩ : ∃ n, rs.length = n := ⟨_, rfl⟩
  have HN : Hid (rs.length = n) := hN
  obtain ⟨dn, hDN⟩ : ∃ n, d.length = n := ⟨_, rfl⟩
  have HDN : Hid (d.length = dn) := hDN
  obtain ⟨ln, hLN⟩ : ∃ n, l.length = n := ⟨_, rfl⟩
  have HLN : Hid (l.length = ln) := hLN
  rw [hN] at HF HP hrn ⊢
  rw [hDN] at hdn hdc HID HDW ⊢
  rw [hLN] at hln hlc HIL ⊢
  clear hN hDN hLN
  have i1 : (n : Int) ≤ 9223372036854775807 := by omega
  have i2 : (dn : Int) ≤ 9223372036854775807 := by omega
  have i3 : (ln : Int) ≤ 9223372036854775807 := by omega
  have i4 : (dn : Int) ≤ (dc : Int) := by omega
  have i5 : (ln : Int) ≤ (lc : Int) := by omega
  have i6 : (0 : Int) ≤ (dn : Int) := by omega
  have i7 : (0 : Int) ≤ (ln : Int) := by omega
  obtain ⟨lo, hlo⟩ : ∃ lo, dn - 9 = lo := ⟨_, rfl⟩
  have HLO : Hid (dn - 9 = lo) := hlo
  clear hlo
  obtain ⟨wB, hwB⟩ : ∃ wB, wB = w.alloc (.cells #[.slice ra n rc] 24) := ⟨_, rfl⟩
  have HGB : Hid (Grown w wB) := by show Grown _ _; rw [hwB]; exact (Grown.refl _).alloc _
  have cB : wB.cell? ⟨w.heap.size, 0, none⟩ = some (.slice ra n rc) := by rw [hwB]; exact cell_fst rfl
  obtain ⟨B, hB⟩ : ∃ B, w.heap.size = B := ⟨_, rfl⟩
  have HW := Hid.mk' hwB
  go_enter Tryd.func4, Tryd.ntmps4
  go_wp2_with fail
  try rw [← HW.out]
  rw [hB] at cB
  try rw [hB]
  clear hwB hB HW
  refine (HSh.out _ HGB.out).mono ?_
  rintro e w1 ⟨rfl, hg1⟩
  have c1 := hg1.cellv cB
  have HG1 := Hid.mk' (HGB.out.trans hg1)
  clear hg1 cB HGB HSh
  go_upto_region 3 with fail
  go_cut [9] (fun s wx => wx = w1 ∧ Hid (IR w s (d.drop lo)))
  case first =>
    have hlo := HLO.out
    have hmx : max 0 ((dn : Int) - 8 - 1) = (lo : Int) := by omega
    have j1 : (lo : Int) ≤ (dn : Int) := by omega
    have j2 : (0 : Int) ≤ (lo : Int) := by omega
    by_cases hz : lo = dc
    · have hdn0 : dn = 0 := by omega
      have HQ : Hid (IR w (.slice da 0 0) (d.drop lo)) := by
        have hd0 : d = [] := List.eq_nil_of_length_eq_zero (HDN.out.trans hdn0)
        rw [hd0, List.drop_nil]
        exact ⟨da, 0, rfl, Nat.le_refl _, .inl rfl⟩
      obtain rfl : lo = 0 := by omega
      subst hz
      subst hdn0
      clear hlo
      go_wp2
      go_meet
      exact ⟨rfl, HQ⟩
    · by_cases hdz : dn = 0
      · obtain ⟨ad, ha⟩ : ∃ ad, da = some ad := by
          rcases HDW.out with ⟨_, h1, h2⟩ | h1
          · omega
          · exact h1
        obtain rfl : lo = 0 := by omega
        have HQ : Hid (∀ A c, IR w (.slice A 0 c) (d.drop 0)) := fun A c => by
          have hd0 : d = [] := List.eq_nil_of_length_eq_zero (HDN.out.trans hdz)
          rw [hd0, List.drop_nil]
          exact ⟨A, c, rfl, Nat.zero_le _, .inl rfl⟩
        subst hdz
        subst ha
        have j3 : ((0 : Int) == (dc : Int)) = false := by simp; omega
        clear hlo
        go_wp2
        all_goals go_meet
        all_goals exact ⟨rfl, HQ.out _ _⟩
      · obtain ⟨g, o, ha⟩ := ir_addr HID.out (fun e => hdz (by rw [← HDN.out, e]; rfl))
        subst ha
        have HQ : Hid (IR w (.slice (some ⟨g, o + lo, none⟩) (dn - lo) (dc - lo)) (d.drop lo)) := ir_drop HID.out (by omega)
        have j3 : ((lo : Int) == (dc : Int)) = false := by simp; omega
        clear hlo
        go_wp2
        go_meet
        exact ⟨rfl, HQ⟩
  case rest =>
  obtain ⟨hwx, hcut⟩ := hcut
  subst hwx
  have HDI : Hid (IR w u9 (d.drop lo)) := hcut
  obtain ⟨ea, en, ec, rfl⟩ := HDI.out.sl
  clear hcut
  go_upto_region 4 with fail
  obtain ⟨hi, hhi⟩ : ∃ hi, min ln 17 = hi := ⟨_, rfl⟩
  have HHI : Hid (min ln 17 = hi) := hhi
  clear hhi
  go_cut [10] (fun s wx => wx = wc ∧ s = .slice la hi lc)
  case first =>
    have hhi := HHI.out
    have hmn : min (ln : Int) 17 = (hi : Int) := by omega
    have j1 : (hi : Int) ≤ (lc : Int) := by omega
    have j2 : (0 : Int) ≤ (hi : Int) := by omega
    go_wp2
    go_meet
    exact ⟨rfl, rfl⟩
  case rest =>
  obtain ⟨hwx, hs10⟩ := hcut
  subst hwx
  subst hs10
  have HLI : Hid (IR w (.slice la hi lc) (l.take 17)) := by
    have h1 := ir_takeA HIL.out (n := hi) (by have := HHI.out; omega)
    have h2 : l.take hi = l.take 17 := by
      have h3 := HHI.out
      have h4 := HLN.out
      by_cases h5 : ln ≤ 17
      · rw [List.take_of_length_le (by omega), List.take_of_length_le (by omega)]
      · rw [show hi = 17 by omega]
    rw [h2] at h1
    exact h1
  have HNe : Hid (Near (d.drop lo) (l.take 17) d l) := by
    have := near_cut d l
    rw [HDN.out, HLO.out] at this
    exact this
  have hen : en = dn - lo := by
    have := ir_leng HDI.out
    rw [List.length_drop, HDN.out] at this
    exact this
  have HEN : Hid (en = dn - lo) := hen
  clear hen
  go_wp2_with fail
  refine (HF.out _ d l _ _ HG1.out.below (HID.out.grown HG1.out) (HIL.out.grown HG1.out) (by rw [HDN.out]; exact hdn) ⟨rfl, rfl⟩).mono ?_
  rintro e w2 ⟨rfl, hg2⟩
  have c2 := hg2.cellv c1
  have HG2 := Hid.mk' (HG1.out.trans hg2)
  clear hg2 c1 HG1
  go_wp2_with fail
  refine (HF.out _ (d.drop lo) (l.take 17) _ _ HG2.out.below (HDI.out.grown HG2.out) (HLI.out.grown HG2.out) (by rw [List.length_drop, HDN.out]; omega) HNe.out).mono ?_
  rintro e w3 ⟨rfl, hg3⟩
  have c3 := hg3.cellv c2
  have HG3 := Hid.mk' (HG2.out.trans hg3)
  clear hg3 c2 HG2
  have hFF : (F != F) = false := by simp
  go_wp2_with fail
  go_loopw [43] (fun vi wr => ∃ k : Nat, vi = .int .i64 k ∧ k ≤ n ∧ Grown w3 wr) (fun vi _ => n - (intOf vi).toNat)
  case atStart => exact ⟨0, rfl, by omega, Grown.refl _⟩
  case round =>
    obtain ⟨k, rfl, hk, hG⟩ := hrel
    have hk0 : (0 : Int) ≤ (k : Int) := by omega
    by_cases hlt : k < n
    · have hlt' : (k : Int) < (n : Int) := by omega
      have hkl : k < rs.length := by rw [HN.out]; exact hlt
      obtain ⟨g, o, ha', hP2⟩ := psr_at (HP.out wr (HG3.out.trans hG).below) (fun e => by rw [e] at hkl; simp at hkl)
      subst ha'
      obtain ⟨av, kv, pv, rv, q0, q1, q2, q3, q4, q5, q6, hR⟩ := hP2 k hkl
      have HC1 : Hid (∀ V, Grown wr V → Calls Tryd.prog 13 #[.agg #[.bool rs[k].bg, av, kv, pv, .bool rs[k].en, rv, .int .i64 rs[k].cu], .slice ea en ec, .slice la hi lc] V fun e w' => e = .returned (.bool (fitsB rs[k] d l)) ∧ Grown V w') := fun V hg =>
        HS.out V rs[k] av kv pv rv (d.drop lo) (l.take 17) _ _ ((HG3.out.trans hG).trans hg).below (HDI.out.grown ((HG3.out.trans hG).trans hg)) (HLI.out.grown ((HG3.out.trans hG).trans hg)) (by rw [List.length_drop, HDN.out]; omega) HNe.out (hR.grown hg)
      have HC2 : Hid (∀ V, Grown wr V → Calls Tryd.prog 13 #[.agg #[.bool rs[k].bg, av, kv, pv, .bool rs[k].en, rv, .int .i64 rs[k].cu], .slice da dn dc, .slice la ln lc] V fun e w' => e = .returned (.bool (fitsB rs[k] d l)) ∧ Grown V w') := fun V hg =>
        HS.out V rs[k] av kv pv rv d l _ _ ((HG3.out.trans hG).trans hg).below (HID.out.grown ((HG3.out.trans hG).trans hg)) (HIL.out.grown ((HG3.out.trans hG).trans hg)) (by rw [HDN.out]; exact hdn) ⟨rfl, rfl⟩ (hR.grown hg)
      generalize fitsB rs[k] d l = S at HC1 HC2
      obtain ⟨k1, k2, k3, rfl⟩ := hR.k.sl
      obtain ⟨a1, a2, a3, rfl⟩ := hR.a.sl
      obtain ⟨p1, p2, p3, rfl⟩ := hR.p.sl
      obtain ⟨r1, r2, r3, rfl⟩ := hR.r.sl
      generalize rs[k].bg = xb at q0 HC1 HC2
      generalize rs[k].en = xe at q4 HC1 HC2
      generalize rs[k].cu = xc at q6 HC1 HC2
      clear hR hP2
      have hSS : (S != S) = false := by simp
      obtain ⟨W5, hW5⟩ : ∃ W5, W5 = wr.alloc (.cells #[.bool xb, .slice a1 a2 a3, .slice k1 k2 k3, .slice p1 p2 p3, .bool xe, .slice r1 r2 r3, .int .i64 xc] 28) := ⟨_, rfl⟩
      have HG5 : Hid (Grown wr W5) := by show Grown _ _; rw [hW5]; exact (Grown.refl _).alloc _
      have HD1 : Hid (∀ q os, Calls Tryd.prog 13 #[.agg #[.bool xb, .slice a1 a2 a3, .slice k1 k2 k3, .slice p1 p2 p3, .bool xe, .slice r1 r2 r3, .int .i64 xc], .slice ea en ec, .slice la hi lc] (Go.Sort.grow (W5.drewN q) os) fun e w' => e = .returned (.bool S) ∧ Grown (Go.Sort.grow (W5.drewN q) os) w') := fun q os => HC1.out _ (HG5.out.quiet q os)
      have HD2 : Hid (∀ q os, Calls Tryd.prog 13 #[.agg #[.bool xb, .slice a1 a2 a3, .slice k1 k2 k3, .slice p1 p2 p3, .bool xe, .slice r1 r2 r3, .int .i64 xc], .slice da dn dc, .slice la ln lc] (Go.Sort.grow (W5.drewN q) os) fun e w' => e = .returned (.bool S) ∧ Grown (Go.Sort.grow (W5.drewN q) os) w') := fun q os => HC2.out _ (HG5.out.quiet q os)
      have hcl : ∀ {j : Nat} {x : Value}, (#[.bool xb, .slice a1 a2 a3, .slice k1 k2 k3, .slice p1 p2 p3, .bool xe, .slice r1 r2 r3, .int .i64 xc] : Array Value)[j]? = some x → ∀ q os, (Go.Sort.grow (W5.drewN q) os).cell? ⟨wr.heap.size, j, none⟩ = some x := fun {j x} hx q os => ((Grown.refl W5).quiet q os).cellv (by rw [hW5]; exact cell_fst hx)
      have u0 := hcl (j := 0) (x := .bool xb) rfl
      have u1 := hcl (j := 1) (x := .slice a1 a2 a3) rfl
      have u2 := hcl (j := 2) (x := .slice k1 k2 k3) rfl
      have u3 := hcl (j := 3) (x := .slice p1 p2 p3) rfl
      have u4 := hcl (j := 4) (x := .bool xe) rfl
      have u5 := hcl (j := 5) (x := .slice r1 r2 r3) rfl
      have u6 := hcl (j := 6) (x := .int .i64 xc) rfl
      have HW5 := Hid.mk' hW5
      clear hcl HC1 HC2 hW5
      as_aux_lemma =>
        go_wp2_with fail
        try rw [← HW5.out]
        clear HW5
        refine wp_region_quiet_grown mixed (by kernel_rfl) ?_
        iterate 4 (go_big_quiet_step ((go_at_call 13; exact grown_of (HD1.out _ _))))
        iterate 4 (go_big_quiet_step ((go_at_call 13; exact grown_of (HD2.out _ _))))
        repeat (go_big_quiet_step (fail))
        refine wpQuiet_nil ?_
        intro _ hw'
        obtain ⟨⟨nq, osq⟩, hw''⟩ := hw'
        subst hw''
        go_wp2
        exact ⟨⟨k + 1, by go_num, by omega, (hG.trans HG5.out).quiet _ _⟩, by simp [intOf]; omega⟩
    · have hge : ¬ (k : Int) < (n : Int) := by omega
      have HGr := Hid.mk' (HG3.out.trans hG)
      have cr := hG.cellv c3
      clear hG HG3 c3
      by_cases he9 : en < 9
      · as_aux_lemma =>
          have heI : (en : Int) < 9 := by omega
          go_wp2
          go_ret
          exact ⟨rfl, HGr.out.below⟩
      · have heI : ¬ (en : Int) < 9 := by omega
        by_cases hh17 : hi < 17
        · as_aux_lemma =>
            have hhI : (hi : Int) < 17 := by omega
            go_wp2
            go_ret
            exact ⟨rfl, HGr.out.below⟩
        · have hhI : ¬ (hi : Int) < 17 := by omega
          have he : en = 9 := by have h1 := HEN.out; have h2 := HLO.out; omega
          have hh : hi = 17 := by have h1 := HHI.out; omega
          subst he hh
          have hL9 : (d.drop lo).length = 9 := (ir_leng HDI.out).symm
          have hL17 : (l.take 17).length = 17 := (ir_leng HLI.out).symm
          obtain ⟨g1, o1, ha⟩ := ir_addr HDI.out (fun e => by rw [e] at hL9; cases hL9)
          subst ha
          obtain ⟨g2, o2, ha⟩ := ir_addr HLI.out (fun e => by rw [e] at hL17; cases hL17)
          subst ha
          have HL : Hid ((d.drop lo).length = 9 ∧ (l.take 17).length = 17) := ⟨hL9, hL17⟩
          have HO0 : Hid (OwnI (wr.alloc (.cells #[.int .i64 u, .int .i64 u] 3)) wr.heap.size (.slice (some ⟨wr.heap.size, 0, none⟩) 2 2) [u, u]) := own_twoI wr u
          have HBr : Hid (Below w.heap.size w wr) := HGr.out.below
          have HDr : Hid (∀ ob, IR (wr.alloc ob) (.slice (some ⟨g1, o1, none⟩) 9 ec) (d.drop lo)) := fun ob => (HDI.out.grown HGr.out).grown ((Grown.refl _).alloc ob)
          have HLr : Hid (∀ V, Below wr.heap.size wr V → IR V (.slice (some ⟨g2, o2, none⟩) 17 lc) (l.take 17)) := fun V hb => (HLI.out.grown HGr.out).below hb (Nat.le_refl _)
          have HCr : Hid (∀ V, Below wr.heap.size wr V → V.cell? ⟨B, 0, none⟩ = some (.slice ra n rc)) := fun V hb => cell_below cr hb (Nat.le_refl _)
          clear hL9 hL17
          go_upto_region 16 with fail
          go_wp2_with (at_builtin; go_must (first
            | (refine app_I rfl _ _ 29 rfl Tryd.underlying29 wr.heap.size _ [u, u] (d.drop lo) ([u, u] ++ d.drop lo) rfl rfl HO0.out (by intro e; cases e) ⟨g1, o1, none⟩ 9 ec rfl (HDr.out _) (by rw [HL.out.1]; show 2 + 9 ≤ _; decide) (by rw [size_up]; omega) ?_; intro g4 N4 cap4 w4 hN4 hO4 hB4; rw [List.length_append, HL.out.1] at hN4; obtain rfl : N4 = 11 := hN4)
            | (refine app_I rfl _ _ 29 rfl Tryd.underlying29 w4.heap.size _ [] (l.take 17) (l.take 17) rfl rfl (own_emptyI w4) (by intro e; cases e) ⟨g2, o2, none⟩ 17 lc rfl (HLr.out _ (below_up (((Below.refl _ wr).alloc (Nat.le_refl _) _).trans hB4) (Nat.le_refl _) _)) (by rw [HL.out.2]; show 0 + 17 ≤ _; decide) (by rw [size_up]; omega) ?_; intro g6 N6 cap6 w6 hN6 hO6 hB6; rw [HL.out.2] at hN6; obtain rfl : N6 = 17 := hN6)
            | (refine app_I rfl _ _ 29 rfl Tryd.underlying29 w4.heap.size (.slice (some ⟨g6, 0, none⟩) 17 cap6) (l.take 17) [u] (l.take 17 ++ [u]) rfl rfl (hO6.alloc _) (by intro e; cases e) ⟨w6.heap.size, 0, none⟩ 1 1 rfl (ir_one (heap_alloc_new _ _)) (by rw [HL.out.2]; show 17 + 1 ≤ _; decide) (by have := hB6.size; rw [size_up] at this; rw [size_up]; omega) ?_; intro g8 N8 cap8 w8 hN8 hO8 hB8; rw [List.length_append, HL.out.2] at hN8; obtain rfl : N8 = 18 := hN8; have hX := chain3 hB4 hB6 hB8; have c8 := HCr.out _ hX.1)))
          refine (HF.out w8 ([u, u] ++ d.drop lo) (l.take 17 ++ [u]) _ _ (HBr.out.trans (hX.1.mono HBr.out.size)) (hO4.ir.below hX.2 (Nat.le_refl _)) hO8.ir (by rw [List.length_append, HL.out.1]; show 2 + 9 ≤ _; decide) ((near_more _ _ u HL.out.1 HL.out.2).trans HNe.out)).mono ?_
          rintro e w9 ⟨rfl, hg9⟩
          have HB9 : Hid (Below w.heap.size w w9) := (HBr.out.trans (hX.1.mono HBr.out.size)).trans (hg9.below.mono (Nat.le_trans HBr.out.size hX.1.size))
          clear hg9 hX hO4 hO6 hO8 hB4 hB6 hB8 c8
          go_wp2
          go_ret
          exact ⟨by simp, HB9.out⟩
end Go.Proofs
