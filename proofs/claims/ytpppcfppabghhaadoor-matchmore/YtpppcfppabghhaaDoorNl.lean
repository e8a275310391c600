/-
  MatchMore: its law.
-/
import Derived.RangeFuncNested
import Derived.RangeFuncBound
import Derived.RangeFuncCalls
import Derived.RangeFuncLeaves
import Derived.Shelf.Abstract
import Derived.Shelf.RegionOpen
import Derived.WalkKit
import Derived.WalkSpells
import Derived.WalkLawsBesides
import Derived.OwnWalkIn
import Derived.TacticsInMore
import Derived.LoopNIn
import Derived.LoopIn
import Derived.BigQuiet
import Derived.RegionIn
import Derived.Deep.QuietTactic
import Derived.Deep.RegionWith
import Derived.Lib.OthersKept
import Derived.Maps.AppendAt
import Derived.Lib.SmallJoins
import Derived.Shelf.SlSortCmp.QuietGrown
import Derived.Deep.DeepCutAuto
import Derived.Deep.CutBlock
import Derived.Deep.AppendLies
import Derived.Test.YtpppcfppabghhaaDoorNk
import Derived.Test.YtpppcfppabghhaaDoorNg
namespace Go.Proofs
open Go.RowKit Go.Shelf

set_option maxRecDepth 100000
attribute [local go_sem] Oper.semAt_some
attribute [local go_sem ↓] Go.wp_at_zero Go.wp_at_succ

theorem step_row {ops : Array Oper} {o : Oper} {a : Act} {w : World} {K : Act → World → Prop} {Q : Exit → Act → World → Prop} {E : Prop} (hgd : o.guard = none) (s x : Operand) (t : TypeId)
    (ho : o.op = .call { callee := .builtin .append, args := #[s, x], argTypes := #[t, t] })
    (base : Nat) (e : TypeId) (i : TypeInfo) (z : Value) (size bytes : Nat) (ht : Tryd.prog.underlying t = some (.slice e)) (hi : Tryd.prog.info? e = some i) (hz : i.zero = some z)
    (hsize : i.size = size) (hby : i.bytes = bytes) (hzs : z.cells.size = size) (hsz : 0 < size)
    (v : Value) (n : Nat) (xs : List Value) (hs : a.eval s = v) (hown : w.ownsRow base e size v n xs)
    (ad : Addr) (m c : Nat) (news : List Value) (hx : a.eval x = .slice (some ad) m c) (hl : news.length = m * size) (hnews : ∀ j u, news[j]? = some u → w.cell? (ad.add j) = some u) (h1 : ∀ u ∈ news, u.oneCell' = true)
    (h63 : n + m ≤ maxLen) (hbytes : (n + m) * bytes ≤ 140737488355328) (hbase : base ≤ w.heap.size)
    (h : ∀ v' w', w'.ownsRow base e size v' (n + m) (xs ++ news) → w.grownBy w' v.ownBlock → (v' = .slice none 0 0 ↔ v = .slice none 0 0 ∧ m = 0) → K (a.put o.dst v') w') : if Region.wanted o (yielded ops a.tmps) = true then Oper.wp Tryd.prog o a w K Q else E := by
  have hw : Region.wanted o (yielded ops a.tmps) = true := by simp [Region.wanted, hgd]
  rw [if_pos hw]
  exact wp_append_own w s x t ho base e i z size bytes ht hi hz hsize hby hzs hsz v n xs hs hown ad m c news hx hl hnews h1 h63 hbytes hbase h
theorem step_none {ops : Array Oper} {o : Oper} {a : Act} {w : World} {K : Act → World → Prop} {Q : Exit → Act → World → Prop} {E : Prop} (hgd : o.guard = none) (s x : Operand) (t : TypeId)
    (ho : o.op = .call { callee := .builtin .append, args := #[s, x], argTypes := #[t, t] })
    (base : Nat) (e : TypeId) (i : TypeInfo) (size : Nat) (ht : Tryd.prog.underlying t = some (.slice e)) (hi : Tryd.prog.info? e = some i)
    (v : Value) (n : Nat) (xs : List Value) (hs : a.eval s = v) (hown : w.ownsRow base e size v n xs) (hx : a.eval x = .slice none 0 0) (h : K (a.put o.dst v) w) : if Region.wanted o (yielded ops a.tmps) = true then Oper.wp Tryd.prog o a w K Q else E := by
  have hw : Region.wanted o (yielded ops a.tmps) = true := by simp [Region.wanted, hgd]
  rw [if_pos hw]
  have hrun := run_append_owned_none (P := Tryd.prog) (w := w) base t o.type e i size ht hi v n xs hown
  unfold Oper.wp
  simp [execOp, ho, resolve, invoke, builtin, hs, hx, hrun, Result.andThen]
  exact h
set_option maxHeartbeats 8000000 in
theorem more_any (v dv lv av kv pv rv : Value) (rs : List Rl) (r : Rl) (d l : List Int) (w : World) (hT : Tab w) (h : PsR w v rs) (hr : RR w av kv pv rv r) (hd : IR w dv d) (hl : IR w lv l) (hdn : d.length ≤ 9223372036854775807) (hrn : rs.length ≤ 9223372036854775807) (hvo : v = .slice none 0 0 ∨ ∃ ad n c, v = .slice (some ad) n c) :
    Calls Tryd.prog 6 #[.agg #[v], .agg #[.bool r.bg, av, kv, pv, .bool r.en, rv, .int .i64 r.cu], dv, lv] w fun e w' => e = .returned (.bool true) ∧ Below w.heap.size w w' := by
  have HSh : Hid (∀ V, Grown w V → Calls Tryd.prog 7 #[] V fun e w' => e = .returned (.bool true) ∧ Grown V w') := fun V hg => shown_any V (hT.grown hg)
  have HA : Hid (∀ V, Grown w V → Calls Tryd.prog 19 #[.agg #[v]] V fun e w' => e = .returned (.tuple #[.int .i64 (allE rs).1, .int .i64 (allE rs).2]) ∧ Grown V w') := fun V hg => all_any v rs V (hT.grown hg) (h.grown hg)
  have HC : Hid (∀ V, Grown w V → Calls Tryd.prog 20 #[.agg #[.bool r.bg, av, kv, pv, .bool r.en, rv, .int .i64 r.cu]] V fun e w' => e = .returned (.int .i64 (chk r)) ∧ Grown V w') := fun V hg => check_any r av kv pv rv V (hT.grown hg) (hr.grown hg)
  have HF : Hid (∀ V, Below w.heap.size w V → Calls Tryd.prog 11 #[.agg #[v], dv, lv] V fun e w' => e = .returned (.int .i64 (fdF rs d l)) ∧ Grown V w') := fun V hb => find_any9 v dv lv rs d l V (hT.below hb hT.pos) (h.below hb (Nat.le_refl _)) (hd.below hb (Nat.le_refl _)) (hl.below hb (Nat.le_refl _)) hdn
  have HG : Hid (∀ V v', Below w.heap.size w V → PsR V v' (rs ++ [r]) → Calls Tryd.prog 11 #[.agg #[v'], dv, lv] V fun e w' => e = .returned (.int .i64 (fdF (rs ++ [r]) d l)) ∧ Grown V w') := fun V v' hb hp => find_any9 v' dv lv (rs ++ [r]) d l V (hT.below hb hT.pos) hp (hd.below hb (Nat.le_refl _)) (hl.below hb (Nat.le_refl _)) hdn
  have HS : Hid (∀ V, Below w.heap.size w V → Calls Tryd.prog 13 #[.agg #[.bool r.bg, av, kv, pv, .bool r.en, rv, .int .i64 r.cu], dv, lv] V fun e w' => e = .returned (.bool (fitsB r d l)) ∧ Grown V w') := fun V hb => fits_any r av kv pv rv dv lv d l V (hT.below hb hT.pos) (hr.below hb (Nat.le_refl _)) (hd.below hb (Nat.le_refl _)) (hl.below hb (Nat.le_refl _)) hdn
  have HP : Hid (∀ V, Below w.heap.size w V → PsR V v rs) := fun V hg => h.below hg (Nat.le_refl _)
  have HRR : Hid (∀ V, Below w.heap.size w V → RR V av kv pv rv r) := fun V hg => hr.below hg (Nat.le_refl _)
  obtain ⟨d1, d2, d3, rfl⟩ := hd.sl
  obtain ⟨l1, l2, l3, rfl⟩ := hl.sl
  obtain ⟨ka, kc, hkv, hx1, hx2⟩ := hr.k
  clear hx1 hx2
  obtain ⟨kn, hkn⟩ : ∃ kn, r.key.length = kn := ⟨_, rfl⟩
  have HKN : Hid (r.key.length = kn) := hkn
  rw [hkn] at hkv
  subst hkv
  obtain ⟨a1, a2, a3, rfl⟩ := hr.a.sl
  obtain ⟨p1, p2, p3, rfl⟩ := hr.p.sl
  obtain ⟨r1, r2, r3, rfl⟩ := hr.r.sl
  obtain ⟨ra, rc, hv, hx1, hx2⟩ := h
  subst hv
  clear hx1 hx2 hT hd hl hr hkn
  obtain ⟨n, hN⟩ : ∃ n, rs.length = n := ⟨_, rfl⟩
  have HN : Hid (rs.length = n) := hN
  have HDW : Hid ((ra = none ∧ n = 0 ∧ rc = 0) ∨ ∃ ad, ra = some ad) := by
    rw [hN] at hvo
    rcases hvo with h1 | ⟨ad, n, c, h1⟩
    · injection h1 with h1 h2 h3; exact .inl ⟨h1, h2, h3⟩
    · injection h1 with h1; exact .inr ⟨ad, h1⟩
  clear hvo
  rw [hN] at HF HA HP hrn ⊢
  clear hN
  have hnI : (n : Int) ≤ 9223372036854775807 := by omega
  obtain ⟨xb, hxb⟩ : ∃ x, r.bg = x := ⟨_, rfl⟩
  obtain ⟨xe, hxe⟩ : ∃ x, r.en = x := ⟨_, rfl⟩
  obtain ⟨xc, hxc⟩ : ∃ x, r.cu = x := ⟨_, rfl⟩
  have HXX : Hid (r.bg = xb ∧ r.en = xe ∧ r.cu = xc) := ⟨hxb, hxe, hxc⟩
  rw [hxb, hxe, hxc] at HC HS ⊢
  clear hxb hxe hxc
  obtain ⟨E2, hE2⟩ : ∃ E2, (allE rs).2 = E2 := ⟨_, rfl⟩
  have HE2 : Hid ((allE rs).2 = E2) := hE2
  rw [hE2] at HA
  generalize (allE rs).1 = E1 at HA
  obtain ⟨ch, hch⟩ : ∃ ch, chk r = ch := ⟨_, rfl⟩
  have HCH : Hid (chk r = ch) := hch
  rw [hch] at HC
  clear hE2 hch
  obtain ⟨wB, hwB⟩ : ∃ wB, wB = (w.alloc (.cells #[.slice ra n rc] 24)).alloc (.cells #[.bool xb, .slice a1 a2 a3, .slice ka kn kc, .slice p1 p2 p3, .bool xe, .slice r1 r2 r3, .int .i64 xc] 28) := ⟨_, rfl⟩
  have HGB : Hid (Grown w wB) := by show Grown _ _; rw [hwB]; exact ((Grown.refl _).alloc _).alloc _
  have hBx : wB.heap[w.heap.size]? = some (.cells #[.slice ra n rc] 24 (0, 0)) := by rw [hwB]; exact alloc_up (heap_alloc_new _ _)
  have hBy : wB.heap[w.heap.size + 1]? = some (.cells #[.bool xb, .slice a1 a2 a3, .slice ka kn kc, .slice p1 p2 p3, .bool xe, .slice r1 r2 r3, .int .i64 xc] 28 (0, 0)) := by rw [hwB]; exact alloc_at (size_up _ _).symm
  obtain ⟨B, hB⟩ : ∃ B, w.heap.size = B := ⟨_, rfl⟩
  have HW := Hid.mk' hwB
  go_enter Tryd.func6, Tryd.ntmps6
  go_wp2_with fail
  try rw [← HW.out]
  rw [hB] at hBx hBy
  try rw [hB]
  clear hwB hB HW
  have HBX : Hid (wB.heap[B]? = some (.cells #[.slice ra n rc] 24 (0, 0)) ∧ wB.heap[B + 1]? = some (.cells #[.bool xb, .slice a1 a2 a3, .slice ka kn kc, .slice p1 p2 p3, .bool xe, .slice r1 r2 r3, .int .i64 xc] 28 (0, 0))) := ⟨hBx, hBy⟩
  have HCX : Hid (∀ V, Below wB.heap.size wB V → V.cell? ⟨B, 0, none⟩ = some (.slice ra n rc) ∧ ∀ j x, (#[.bool xb, .slice a1 a2 a3, .slice ka kn kc, .slice p1 p2 p3, .bool xe, .slice r1 r2 r3, .int .i64 xc] : Array Value)[j]? = some x → V.cell? ⟨B + 1, j, none⟩ = some x) := fun V hb => by
    have h1 := (hb.block B (Array.getElem?_eq_some_iff.1 HBX.out.1).1).trans HBX.out.1
    have h2 := (hb.block (B + 1) (Array.getElem?_eq_some_iff.1 HBX.out.2).1).trans HBX.out.2
    exact ⟨by rw [cell_of h1]; rfl, fun j x hx => by rw [cell_of h2]; exact hx⟩
  clear hBx hBy HBX
  refine (HSh.out _ HGB.out).mono ?_
  rintro e w1 ⟨rfl, hg1⟩
  have HB1 := Hid.mk' hg1
  have c1 := (HCX.out _ hg1.below).1
  clear hg1 HSh
  go_wp2_with fail
  refine (HA.out _ (HGB.out.trans HB1.out)).mono ?_
  rintro e w2 ⟨rfl, hg2⟩
  have HB2 := Hid.mk' (HB1.out.trans hg2)
  clear hg2 HA c1 HB1
  by_cases h0 : E2 = 0
  · subst h0
    have hx2 := HCX.out _ HB2.out.below
    have c2 := hx2.1
    have q0 := hx2.2 0 (.bool xb) rfl
    have q1 := hx2.2 1 (.slice a1 a2 a3) rfl
    have q2 := hx2.2 2 (.slice ka kn kc) rfl
    have q3 := hx2.2 3 (.slice p1 p2 p3) rfl
    have q4 := hx2.2 4 (.bool xe) rfl
    have q5 := hx2.2 5 (.slice r1 r2 r3) rfl
    have q6 := hx2.2 6 (.int .i64 xc) rfl
    clear hx2 c2
    go_wp2_with fail
    refine (HC.out _ (HGB.out.trans HB2.out)).mono ?_
    rintro e w3 ⟨rfl, hg3⟩
    have HB3 := Hid.mk' (HB2.out.trans hg3)
    clear hg3 q0 q1 q2 q3 q4 q5 q6 HB2 HC
    have c3 := (HCX.out _ HB3.out.below).1
    by_cases hc0 : ch = 0
    · subst hc0
      by_cases h256 : 256 ≤ n
      · as_aux_lemma =>
          have hI : (256 : Int) ≤ (n : Int) := by omega
          go_wp2
          go_ret
          exact ⟨rfl, (HGB.out.trans HB3.out).below⟩
      · have hI : ¬ (256 : Int) ≤ (n : Int) := by omega
        have hI2 : decide (256 ≤ n) = false := decide_eq_false h256
        go_upto_region 6 with fail
        go_cut [11] (fun s11 wx => ∃ g8, s11 = .pointer (some ⟨g8, 0, none⟩) ∧ Hid ((∃ g6 c, wx.cell? ⟨g8, 0, none⟩ = some (.slice (some ⟨g6, 0, none⟩) (n + 1) c) ∧ PsR wx (.slice (some ⟨g6, 0, none⟩) (n + 1) c) (rs ++ [r])) ∧ Below w3.heap.size w3 wx ∧ g8 < wx.heap.size))
        case first =>
          have HBw := Hid.mk' (HGB.out.trans HB3.out).below
          obtain ⟨g, o, HGO, hPd⟩ : ∃ g o, Hid (n = 0 ∨ ra = some ⟨g, o, none⟩) ∧ ∀ (j : Nat) (hj : j < rs.length), RAt w3 g (o + j * 7) rs[j] := by
            by_cases hz : rs = []
            · exact ⟨0, 0, .inl (by rw [← HN.out, hz]; rfl), fun j hj => by rw [hz] at hj; simp at hj⟩
            · obtain ⟨g, o, h1, h2⟩ := psr_at (HP.out w3 HBw.out) hz
              exact ⟨g, o, .inr h1, h2⟩
          have HPD := Hid.mk' hPd
          obtain ⟨VS, hVS⟩ : ∃ VS, vsOf w3 g o (rs.length * 7) = VS := ⟨_, rfl⟩
          have HVS : Hid (VS.length = n * 7 ∧ (∀ j u, VS[j]? = some u → w3.cell? ((⟨g, o, none⟩ : Addr).add j) = some u) ∧ ∀ u ∈ VS, u.oneCell' = true) := by
            rw [← hVS]
            exact ⟨by rw [vsOf_len, HN.out], vsOf_cell hPd, vsOf_one hPd⟩
          have HFI : Hid (∀ W g6 c, Below w3.heap.size w3 W → W.ownsRow w3.heap.size 28 7 (.slice (some ⟨g6, 0, none⟩) (n + 1) c) (n + 1) (VS ++ [.bool xb, .slice a1 a2 a3, .slice ka kn kc, .slice p1 p2 p3, .bool xe, .slice r1 r2 r3, .int .i64 xc]) → PsR W (.slice (some ⟨g6, 0, none⟩) (n + 1) c) (rs ++ [r])) := fun W g6 c hb ho => by
            have hx := HXX.out
            rw [← hVS, ← hx.1, ← hx.2.1, ← hx.2.2, ← HN.out] at ho
            have := psr_more HPD.out (HRR.out w3 HBw.out) hb ho
            rwa [HN.out] at this
          have HCW : Hid (∀ V, Below w3.heap.size w3 V → V.cell? ⟨B, 0, none⟩ = some (.slice ra n rc) ∧ ∀ j x, (#[.bool xb, .slice a1 a2 a3, .slice ka kn kc, .slice p1 p2 p3, .bool xe, .slice r1 r2 r3, .int .i64 xc] : Array Value)[j]? = some x → V.cell? ⟨B + 1, j, none⟩ = some x) := fun V hb => HCX.out V (HB3.out.below.trans (hb.mono HB3.out.below.size))
          clear hVS hPd HPD HP HRR HXX HF HG HS HCX c3
          obtain ⟨i0, hi, hz0, hz1, hz2⟩ := info_parts info28
          rename_i Jx hJx
          refine wp_region_inv (by kernel_rfl) (by kernel_rfl) (by kernel_rfl) (by kernel_rfl) (MJ w3 w3.heap.size (.pointer (some ⟨B, 0, none⟩)) (.slice ra n rc) (.agg #[.bool xb, .slice a1 a2 a3, .slice ka kn kc, .slice p1 p2 p3, .bool xe, .slice r1 r2 r3, .int .i64 xc]) VS [.bool xb, .slice a1 a2 a3, .slice ka kn kc, .slice p1 p2 p3, .bool xe, .slice r1 r2 r3, .int .i64 xc] n) MJ.start ⟨?_, ?_, ?_, ?_, ?_, ?_, ?_, ?_, ?_, ?_, trivial⟩ ?_
          · as_aux_lemma =>
              intro a wx p vs hJ hdep hpi hval hfr K hK
              exact step_value (v := .slice (some ⟨wx.heap.size, 0, none⟩) 0 0) (w' := wx.alloc (.cells #[] 28)) rfl (fun _ _ h => by cases h) (rho []) (rho_of (by intro q hm; cases hm) (by kernel_rfl)) (by kernel_rfl) (hK _ _ (hJ.put0 hJ.bl.size))
          · as_aux_lemma =>
              intro a wx p vs hJ hdep hpi hval hfr K hK
              have d : a.tmps.getD 4 undef = (.pointer (some ⟨B, 0, none⟩)) := hfr 4 (by kernel_rfl)
              exact step_value (v := (.pointer (some ⟨B, 0, none⟩))) (w' := wx) rfl (fun _ _ h => by cases h) (rho [(4, (.pointer (some ⟨B, 0, none⟩)))]) (rho_of (by intro q hm; simp only [List.mem_cons, List.not_mem_nil, or_false] at hm; rcases hm with rfl; exact d) (by kernel_rfl)) (by kernel_rfl) (hK _ _ hJ.put1)
          · as_aux_lemma =>
              intro a wx p vs hJ hdep hpi hval hfr K hK
              have h1 := hdep 1 (by kernel_rfl)
              have d : a.tmps.getD 35 undef = (.pointer (some ⟨B, 0, none⟩)) := (hval 1 _ 35 h1 (by rfl) rfl).trans (hJ.v1 h1)
              have hc := (HCW.out _ hJ.bl).1
              have hJ' := hJ.put2
              clear hval hfr hdep hJ HCW HFI HVS HGO HDW hJx
              simp only [Array.getD_eq_getD_getElem?] at d
              go_simp
              exact hK _ _ hJ'
          · as_aux_lemma =>
              intro a wx p vs hJ hdep hpi hval hfr K hK
              have h0 := hdep 0 (by kernel_rfl)
              have h2 := hdep 2 (by kernel_rfl)
              obtain ⟨g0, e0, hb0, hg0⟩ := hJ.r0 h0 hpi
              have hO : wx.ownsRow w3.heap.size 28 7 (vs 0) 0 [] := ⟨rfl, .inr ⟨g0, 0, #[], e0, hb0, hg0, Nat.le_refl _, Nat.zero_le _, rfl, rfl⟩⟩
              have d0 : a.eval (.tmp 34) = vs 0 := hval 0 _ 34 h0 (by rfl) rfl
              have d2 : a.eval (.tmp 36) = .slice ra n rc := (hval 2 _ 36 h2 (by rfl) rfl).trans (hJ.v2 h2)
              rcases HDW.out with ⟨e1, e2, e3⟩ | ⟨ad, e1⟩
              · have hV0 : VS = [] := List.eq_nil_of_length_eq_zero (by rw [HVS.out.1, e2])
                rw [e1, e2, e3] at d2
                refine step_none rfl _ _ _ rfl w3.heap.size 28 i0 7 Tryd.underlying22 hi (vs 0) 0 [] d0 hO d2 ?_
                exact hK _ _ (hJ.put3 rfl h0 h2 hpi hJ.bl.size (by rw [hV0, e2]; exact hO) ⟨g0, 0, by rw [e0, e2]⟩ ⟨rfl, rfl, rfl, Nat.le_refl _, fun _ _ _ => rfl⟩)
              · rw [e1] at d2
                refine step_row rfl _ _ _ rfl w3.heap.size 28 i0 _ 7 120 Tryd.underlying22 hi hz0 hz1 hz2 rfl (by omega) (vs 0) 0 [] d0 hO ad n rc VS d2 HVS.out.1 ?_ HVS.out.2.2 (by unfold maxLen; omega) (by omega) hJ.bl.size ?_
                · intro j u hu
                  have hc := HVS.out.2.1 j u hu
                  rcases HGO.out with e4 | e4
                  · have := (List.getElem?_eq_some_iff.1 hu).1
                    rw [HVS.out.1, e4] at this
                    omega
                  · rw [e1] at e4
                    injection e4 with e4
                    rw [e4]
                    exact cell_below hc hJ.bl (Nat.le_refl _)
                · intro v' w4 hown hgrow hnil
                  rw [Nat.zero_add, List.nil_append] at hown
                  refine hK _ _ (hJ.put3 rfl h0 h2 hpi hJ.bl.size hown ?_ hgrow)
                  rcases hown.2 with ⟨e5, _⟩ | ⟨gg, cap, cur, e5, _⟩
                  · have := (hnil.1 e5).1
                    rw [e0] at this
                    cases this
                  · exact ⟨gg, cap, e5⟩
          · as_aux_lemma =>
              intro a wx p vs hJ hdep hpi hval hfr K hK
              have d : a.tmps.getD 5 undef = .pointer (some ⟨B + 1, 0, none⟩) := hfr 5 (by kernel_rfl)
              have hx2 := (HCW.out _ hJ.bl).2
              have q0 := hx2 0 (.bool xb) rfl
              have q1 := hx2 1 (.slice a1 a2 a3) rfl
              have q2 := hx2 2 (.slice ka kn kc) rfl
              have q3 := hx2 3 (.slice p1 p2 p3) rfl
              have q4 := hx2 4 (.bool xe) rfl
              have q5 := hx2 5 (.slice r1 r2 r3) rfl
              have q6 := hx2 6 (.int .i64 xc) rfl
              have hJ' := hJ.put4
              clear hval hfr hdep hJ HCW HFI HVS HGO HDW hJx hx2
              simp only [Array.getD_eq_getD_getElem?] at d
              go_simp
              exact hK _ _ hJ'
          · as_aux_lemma =>
              intro a wx p vs hJ hdep hpi hval hfr K hK
              have h4 := hdep 4 (by kernel_rfl)
              have d : a.tmps.getD 38 undef = (.agg #[.bool xb, .slice a1 a2 a3, .slice ka kn kc, .slice p1 p2 p3, .bool xe, .slice r1 r2 r3, .int .i64 xc]) := (hval 4 _ 38 h4 (by rfl) rfl).trans (hJ.v4 h4)
              refine step_slice rfl 22 28 1 _ rfl 7 Tryd.underlying22 (by kernel_rfl) (by kernel_rfl) (by decide) [(.agg #[.bool xb, .slice a1 a2 a3, .slice ka kn kc, .slice p1 p2 p3, .bool xe, .slice r1 r2 r3, .int .i64 xc])] ?_ (by intro v hm; simp only [List.mem_cons, List.not_mem_nil, or_false] at hm; rcases hm with rfl; rfl) rfl (by decide) (by decide) (hK _ _ (hJ.put5 hJ.bl.size))
              rw [Array.toList_map]
              show [(0, a.tmps.getD 38 undef)] = _
              rw [d]
              rfl
          · as_aux_lemma =>
              intro a wx p vs hJ hdep hpi hval hfr K hK
              have h3 := hdep 3 (by kernel_rfl)
              have h5 := hdep 5 (by kernel_rfl)
              obtain ⟨hO, g3, c3, e3⟩ := hJ.r3 h3 hpi
              obtain ⟨g5, e5, hg5⟩ := hJ.r5 h5 hpi
              have d3 : a.eval (.tmp 37) = vs 3 := hval 3 _ 37 h3 (by rfl) rfl
              have d5 : a.eval (.tmp 39) = .slice (some ⟨g5, 0, none⟩) 1 1 := (hval 5 _ 39 h5 (by rfl) rfl).trans e5
              refine step_append_lies _ rfl _ _ _ rfl w3.heap.size 28 i0 _ 7 120 Tryd.underlying22 hi hz0 hz1 hz2 rfl (by omega) (vs 3) n VS d3 hO ⟨g5, 0, none⟩ 1 1 [.bool xb, .slice a1 a2 a3, .slice ka kn kc, .slice p1 p2 p3, .bool xe, .slice r1 r2 r3, .int .i64 xc] d5 (by rfl) (World.news_of_block hg5) (by intro u hu; simp only [List.mem_cons, List.not_mem_nil, or_false] at hu; rcases hu with rfl | rfl | rfl | rfl | rfl | rfl | rfl <;> rfl) (by omega) (by unfold maxLen; omega) (by omega) hJ.bl.size _ rfl ?_
              intro gg cap' w4 hown1 hgrow _ _
              exact hK _ _ (hJ.put6 h3 h5 hpi hJ.bl.size hown1 ⟨gg, cap', rfl⟩ hgrow)
          · as_aux_lemma =>
              intro a wx p vs hJ hdep hpi hval hfr K hK
              have h6 := hdep 6 (by kernel_rfl)
              have d : a.tmps.getD 40 undef = vs 6 := hval 6 _ 40 h6 (by rfl) rfl
              have hJ' := hJ.put7 h6
              obtain ⟨_, g6, c6, e6⟩ := hJ.r6 h6
              rw [e6] at d hJ'
              exact step_value (v := .agg #[.slice (some ⟨g6, 0, none⟩) (n + 1) c6]) (w' := wx) rfl (fun _ _ h => by cases h) (rho [(40, .slice (some ⟨g6, 0, none⟩) (n + 1) c6)]) (rho_of (by intro q hm; simp only [List.mem_cons, List.not_mem_nil, or_false] at hm; rcases hm with rfl; exact d) (by kernel_rfl)) (by kernel_rfl) (hK _ _ hJ')
          · as_aux_lemma =>
              intro a wx p vs hJ hdep hpi hval hfr K hK
              exact step_value (v := .pointer (some ⟨wx.heap.size, 0, none⟩)) (w' := wx.alloc (.cells #[.slice none 0 0] 24)) rfl (fun _ _ h => by cases h) (rho []) (rho_of (by intro q hm; cases hm) (by kernel_rfl)) (by kernel_rfl) (hK _ _ (hJ.put8 hJ.bl.size hpi))
          · as_aux_lemma =>
              intro a wx p vs hJ hdep hpi hval hfr K hK
              have h7 := hdep 7 (by kernel_rfl)
              have h8 := hdep 8 (by kernel_rfl)
              obtain ⟨g8, x, e8, hB8, hg8, _⟩ := hJ.r8 h8
              obtain ⟨_, g6, c6, e6⟩ := hJ.r6 (hJ.o7 h7)
              have hJ' := hJ.put9 h7 h8 e8 hB8 hg8 undef
              have d7 : a.tmps.getD 41 undef = .agg #[.slice (some ⟨g6, 0, none⟩) (n + 1) c6] := by rw [← e6, ← hJ.v7 h7]; exact hval 7 _ 41 h7 (by rfl) rfl
              have d8 : a.tmps.getD 11 undef = .pointer (some ⟨g8, 0, none⟩) := (hval 8 _ 11 h8 (by rfl) rfl).trans e8
              have hc : wx.cell? ⟨g8, 0, none⟩ = some x := by rw [cell_of hg8]; rfl
              have hf : wx.frozen? ⟨g8, 0, none⟩ = false := by simp [World.frozen?, hg8]
              rw [e6] at hJ'
              clear hval hfr hdep hJ HCW HFI HVS HGO HDW hJx e8 hg8 e6
              simp only [Array.getD_eq_getD_getElem?] at d7 d8
              go_simp
              exact hK _ _ hJ'
          · intro vs w' hJ
            obtain ⟨g8, x, e8, hB8, hg8, hx⟩ := hJ.r8 (by decide)
            obtain ⟨hO, g6, c6, e6⟩ := hJ.r6 (by decide)
            have hxx := hx (by decide)
            rw [e6] at hO hxx
            subst hxx
            have HE : Hid ((∃ g6 c, w'.cell? ⟨g8, 0, none⟩ = some (.slice (some ⟨g6, 0, none⟩) (n + 1) c) ∧ PsR w' (.slice (some ⟨g6, 0, none⟩) (n + 1) c) (rs ++ [r])) ∧ Below w3.heap.size w3 w' ∧ g8 < w'.heap.size) := ⟨⟨g6, c6, by rw [cell_of hg8]; rfl, HFI.out _ _ _ hJ.bl hO⟩, hJ.bl, (Array.getElem?_eq_some_iff.1 hg8).1⟩
            have e8' := e8
            clear hO hJ hg8 hx e6 HFI HVS HCW HGO HDW
            rw [putL_eq]
            simp only [putsL, List.set_cons_zero, List.set_cons_succ, Nat.zero_add, Nat.reduceAdd]
            rw [e8']
            clear e8 e8' hB8
            generalize vs 0 = x0
            generalize vs 1 = x1
            generalize vs 2 = x2
            generalize vs 3 = x3
            generalize vs 4 = x4
            generalize vs 5 = x5
            generalize vs 6 = x6
            generalize vs 7 = x7
            clear vs hI hI2 hnI hrn hdn h256
            go_wp2
            go_meet
            exact ⟨g8, rfl, HE⟩
        case rest =>
          obtain ⟨g8, rfl, hcut⟩ := hcut
          have HCT := Hid.mk' hcut.1
          have hbc : Below w3.heap.size w3 wc := hcut.2.1
          have hBwc : Below w.heap.size w wc := (HGB.out.trans HB3.out).below.trans (hbc.mono (HGB.out.trans HB3.out).size)
          have HBc := Hid.mk' hBwc
          have HXc := Hid.mk' (HB3.out.below.trans (hbc.mono HB3.out.size))
          clear hcut hbc hBwc c3
          have cc := (HCX.out _ HXc.out).1
          go_wp2_with fail
          refine (HF.out _ HBc.out).mono ?_
          rintro e w5 ⟨rfl, hg5⟩
          have HG5 := Hid.mk' hg5
          have HBw5 : Hid (Below w.heap.size w w5) := HBc.out.trans (hg5.below.mono HBc.out.size)
          have hx5 := HCX.out w5 (HXc.out.trans (hg5.below.mono HXc.out.size))
          obtain ⟨g6, c6, hc6, hp6⟩ := HCT.out
          have k8 := fun q os => ((Grown.refl w5).quiet q os).cellv (hg5.cellv hc6)
          have kB := fun q os => ((Grown.refl w5).quiet q os).cellv hx5.1
          have q0 := fun q os => ((Grown.refl w5).quiet q os).cellv (hx5.2 0 (.bool xb) rfl)
          have q1 := fun q os => ((Grown.refl w5).quiet q os).cellv (hx5.2 1 (.slice a1 a2 a3) rfl)
          have q2 := fun q os => ((Grown.refl w5).quiet q os).cellv (hx5.2 2 (.slice ka kn kc) rfl)
          have q3 := fun q os => ((Grown.refl w5).quiet q os).cellv (hx5.2 3 (.slice p1 p2 p3) rfl)
          have q4 := fun q os => ((Grown.refl w5).quiet q os).cellv (hx5.2 4 (.bool xe) rfl)
          have q5 := fun q os => ((Grown.refl w5).quiet q os).cellv (hx5.2 5 (.slice r1 r2 r3) rfl)
          have q6 := fun q os => ((Grown.refl w5).quiet q os).cellv (hx5.2 6 (.int .i64 xc) rfl)
          have hbq : ∀ q os, Below w.heap.size w (Go.Sort.grow (w5.drewN q) os) := fun q os => HBw5.out.trans (((Grown.refl w5).quiet q os).below.mono HBw5.out.size)
          have hc0 := HCH.out
          have hA0 := HE2.out
          obtain ⟨⟨b, m⟩, hbm⟩ : ∃ bm, fdK rs d l rs.length = bm := ⟨_, rfl⟩
          have hck := (allE_chk hA0).2
          have hbest := fdK_best d l (fun x hx => (chk_ok (hck x hx)).k0) rs.length (Nat.le_refl _)
          rw [hbm] at hbest
          have hFe : fdF rs d l = b := by unfold fdF; rw [if_pos hA0, hbm]
          have hMe := fdF_more hA0 hc0 (by rw [HN.out]; omega) hbm
          rw [HN.out, HKN.out] at hMe
          have hSe : fitsB r d l = fitB r d l := fitsB_of hc0
          have hk0 := (chk_ok hc0).k0
          rw [HKN.out] at hk0
          obtain ⟨S, hS⟩ : ∃ S, fitB r d l = S := ⟨_, rfl⟩
          rw [hS] at hMe hSe
          have HSq : Hid (∀ q os, Calls Tryd.prog 13 #[.agg #[.bool xb, .slice a1 a2 a3, .slice ka kn kc, .slice p1 p2 p3, .bool xe, .slice r1 r2 r3, .int .i64 xc], .slice d1 d2 d3, .slice l1 l2 l3] (Go.Sort.grow (w5.drewN q) os) fun e w' => e = .returned (.bool S) ∧ Grown (Go.Sort.grow (w5.drewN q) os) w') := fun q os => by
            have := HS.out _ (hbq q os)
            rwa [hSe] at this
          have HGq : Hid (∀ q os, Calls Tryd.prog 11 #[.agg #[.slice (some ⟨g6, 0, none⟩) (n + 1) c6], .slice d1 d2 d3, .slice l1 l2 l3] (Go.Sort.grow (w5.drewN q) os) fun e w' => e = .returned (.int .i64 (fdF (rs ++ [r]) d l)) ∧ Grown (Go.Sort.grow (w5.drewN q) os) w') := fun q os => HG.out _ _ (hbq q os) ((hp6.grown HG5.out).grown ((Grown.refl w5).quiet q os))
          rw [hFe]
          rw [hMe] at HGq
          have HP5 : Hid (∀ (j : Nat), j < rs.length → ∃ g o ka' kc', ra = some ⟨g, o, none⟩ ∧ ∀ q os, (Go.Sort.grow (w5.drewN q) os).cell? ⟨g, o + j * 7 + 2, none⟩ = some (.slice ka' (((rs[j]?).map fun r => r.key.length).getD 0) kc')) := fun j hj => by
            obtain ⟨g, o, e1, h1⟩ := psr_at (HP.out w5 HBw5.out) (fun e => by rw [e] at hj; simp at hj)
            obtain ⟨_, kv', _, _, _, _, z2, _, _, _, _, hR'⟩ := h1 j hj
            obtain ⟨ka', kc', hkv', _, _⟩ := hR'.k
            refine ⟨g, o, ka', kc', e1, fun q os => ?_⟩
            have e2 : ((rs[j]?).map fun r => r.key.length).getD 0 = rs[j].key.length := by rw [List.getElem?_eq_getElem hj]; rfl
            rw [e2, ← hkv']
            exact ((Grown.refl w5).quiet q os).cellv z2
          clear hg5 hx5 hc6 hp6 hc0 hA0 hbm hck hFe hMe hSe hS HF HG HS HP HRR HCX HCT cc
          rcases hbest with ⟨e, _⟩ | ⟨j, hj, hjn, e, _, _⟩
          · obtain ⟨e1, e2⟩ := Prod.mk.inj e
            subst e1 e2
            clear e HP5
            cases S with
            | true =>
              rw [if_pos ⟨hk0, rfl⟩] at HGq
              as_aux_lemma =>
                go_upto_region 9 with fail
                refine wp_region_quiet_grown mixed (by kernel_rfl) ?_
                repeat (go_big_quiet_step ((go_at_call 13; exact grown_of (HSq.out _ _))))
                refine wpQuiet_nil ?_
                intro _ hw'
                obtain ⟨⟨nq, osq⟩, hw''⟩ := hw'
                subst hw''
                have c8 := k8 nq osq
                have cB := kB nq osq
                go_wp2_with fail
                refine (HGq.out nq osq).mono ?_
                rintro e w9 ⟨rfl, hg9⟩
                have HB9 := Hid.mk' (((Grown.refl w5).quiet nq osq).trans hg9)
                clear hg9
                go_wp2
                go_ret
                exact ⟨by simp, HBw5.out.trans (HB9.out.below.mono HBw5.out.size)⟩
            | false =>
              rw [if_neg (by simp)] at HGq
              as_aux_lemma =>
                go_upto_region 9 with fail
                refine wp_region_quiet_grown mixed (by kernel_rfl) ?_
                repeat (go_big_quiet_step ((go_at_call 13; exact grown_of (HSq.out _ _))))
                refine wpQuiet_nil ?_
                intro _ hw'
                obtain ⟨⟨nq, osq⟩, hw''⟩ := hw'
                subst hw''
                have c8 := k8 nq osq
                have cB := kB nq osq
                go_wp2_with fail
                refine (HGq.out nq osq).mono ?_
                rintro e w9 ⟨rfl, hg9⟩
                have HB9 := Hid.mk' (((Grown.refl w5).quiet nq osq).trans hg9)
                clear hg9
                go_wp2
                go_ret
                exact ⟨by simp, HBw5.out.trans (HB9.out.below.mono HBw5.out.size)⟩
          · obtain ⟨e1, e2⟩ := Prod.mk.inj e
            subst e1 e2
            clear e
            obtain ⟨g, o, ka', kc', ha, hz⟩ := HP5.out j hj
            subst ha
            have e2 : ((rs[j]?).map fun r => r.key.length).getD 0 = rs[j].key.length := by rw [List.getElem?_eq_getElem hj]; rfl
            rw [e2] at hz
            obtain ⟨jn, hjl⟩ : ∃ jn, rs[j].key.length = jn := ⟨_, rfl⟩
            rw [hjl] at hz HGq
            have hjN : j < n := by rw [← HN.out]; exact hj
            have hjI : (j : Int) < (n : Int) := by omega
            have hj0 : (0 : Int) ≤ (j : Int) := by omega
            have hj1 : ¬ (j : Int) < 0 := by omega
            have hj2 : decide ((j : Int) < 0) = false := decide_eq_false hj1
            clear e2 hjl HP5
            cases S with
            | true =>
              by_cases hjk : jn < kn
              · rw [if_pos ⟨hjk, rfl⟩] at HGq
                have hjkI : (jn : Int) < (kn : Int) := by omega
                as_aux_lemma =>
                  go_upto_region 9 with fail
                  refine wp_region_quiet_grown mixed (by kernel_rfl) ?_
                  repeat (go_big_quiet_step ((go_at_call 13; exact grown_of (HSq.out _ _))))
                  refine wpQuiet_nil ?_
                  intro _ hw'
                  obtain ⟨⟨nq, osq⟩, hw''⟩ := hw'
                  subst hw''
                  have c8 := k8 nq osq
                  have cB := kB nq osq
                  go_wp2_with fail
                  refine (HGq.out nq osq).mono ?_
                  rintro e w9 ⟨rfl, hg9⟩
                  have HB9 := Hid.mk' (((Grown.refl w5).quiet nq osq).trans hg9)
                  clear hg9
                  go_wp2
                  go_ret
                  exact ⟨by simp, HBw5.out.trans (HB9.out.below.mono HBw5.out.size)⟩
              · rw [if_neg (fun h => hjk h.1)] at HGq
                have hjkI : ¬ (jn : Int) < (kn : Int) := by omega
                have hjkD : decide (jn < kn) = false := decide_eq_false hjk
                as_aux_lemma =>
                  go_upto_region 9 with fail
                  refine wp_region_quiet_grown mixed (by kernel_rfl) ?_
                  repeat (go_big_quiet_step ((go_at_call 13; exact grown_of (HSq.out _ _))))
                  refine wpQuiet_nil ?_
                  intro _ hw'
                  obtain ⟨⟨nq, osq⟩, hw''⟩ := hw'
                  subst hw''
                  have c8 := k8 nq osq
                  have cB := kB nq osq
                  go_wp2_with fail
                  refine (HGq.out nq osq).mono ?_
                  rintro e w9 ⟨rfl, hg9⟩
                  have HB9 := Hid.mk' (((Grown.refl w5).quiet nq osq).trans hg9)
                  clear hg9
                  go_wp2
                  go_ret
                  exact ⟨by simp, HBw5.out.trans (HB9.out.below.mono HBw5.out.size)⟩
            | false =>
              rw [if_neg (by simp)] at HGq
              as_aux_lemma =>
                go_upto_region 9 with fail
                refine wp_region_quiet_grown mixed (by kernel_rfl) ?_
                repeat (go_big_quiet_step ((go_at_call 13; exact grown_of (HSq.out _ _))))
                refine wpQuiet_nil ?_
                intro _ hw'
                obtain ⟨⟨nq, osq⟩, hw''⟩ := hw'
                subst hw''
                have c8 := k8 nq osq
                have cB := kB nq osq
                go_wp2_with fail
                refine (HGq.out nq osq).mono ?_
                rintro e w9 ⟨rfl, hg9⟩
                have HB9 := Hid.mk' (((Grown.refl w5).quiet nq osq).trans hg9)
                clear hg9
                go_wp2
                go_ret
                exact ⟨by simp, HBw5.out.trans (HB9.out.below.mono HBw5.out.size)⟩
    · as_aux_lemma =>
        have h1 : (ch != 0) = true := by simpa using hc0
        go_wp2
        go_ret
        exact ⟨rfl, (HGB.out.trans HB3.out).below⟩
  · as_aux_lemma =>
      have h1 : (E2 != 0) = true := by simpa using h0
      go_wp2
      go_ret
      exact ⟨rfl, (HGB.out.trans HB2.out).below⟩
end Go.Proofs
