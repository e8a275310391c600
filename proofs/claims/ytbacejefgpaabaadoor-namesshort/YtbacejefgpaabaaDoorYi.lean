/-
  names: names are short forms.
-/
import Derived.Shelf.Abstract
import Derived.Shelf.RegionOpen
import Derived.WalkKit
import Derived.WalkSpells
import Derived.WalkLawsBesides
import Derived.OwnWalk
import Derived.BigQuiet
import Derived.Deep.QuietTactic
import Derived.Deep.LoopGhost
import Derived.Deep.RegionWith
import Derived.Deep.AppendLies
import Derived.Deep.DeepCutAuto
import Derived.Laws.EntriesVeiled
import Derived.Lib.OthersKept
import Derived.Maps.AppendAt
import Derived.Maps.OwnSet
import Derived.StringKeys
import Derived.WalkMore
import Derived.Lib.SmallJoins
import Derived.Deep.RegionHeld3
import Derived.Test.YtbacejefgpaabaaDoorRa
import Derived.Test.YtbacejefgpaabaaDoorNx
import Derived.Test.YtbacejefgpaabaaDoorYy
namespace Go.Proofs
open Go.RowKit Go.Shelf

set_option maxRecDepth 100000
attribute [local go_sem] Oper.semAt_some

theorem rngs_take (s : List (Int × Int)) (k : Nat) (hk : k < s.length) : fi (rngs (s.take (k + 1))) = fi (rngs (s.take k)) ++ itc 6 0 ⟨#[]⟩ nl (rg s k).1 (rg s k).2 false 0 := by
  rw [List.take_succ_eq_append_getElem hk]
  rw [rngs, List.map_append, fi, List.flatMap_append, rg_lt hk]
  rfl
/-- how far the parts are -/
def RI (w : World) (s : List (Int × Int)) (k : Nat) (va : Value) (W : World) : Prop := W.ownsRow w.heap.size 24 8 va k (fi (rngs (s.take k))) ∧ Below w.heap.size w W ∧ ∃ g c, va = .slice (some ⟨g, 0, none⟩) k c
/-- what lies in the first pass's rule -/
theorem first_facts {W : World} {base : Nat} {A : Option Addr} {n cp : Nat} {s rP : List (Int × Int)} {cu : Int} (h : PassRow W base (.slice A n cp) [[ruleOf s rP cu], [ruleOf s rP cu]]) :
    ∃ pg rg rc kg kc sa sn sc, A = some ⟨pg, 0, none⟩ ∧ n = 2 ∧ (W.cell? ⟨pg, 0, none⟩ = some (.slice (some ⟨rg, 0, none⟩) 1 rc) ∧ W.cell? ⟨rg, 2, none⟩ = some (.slice (some ⟨kg, 0, none⟩) 2 kc) ∧ W.cell? ⟨kg, 0, none⟩ = some (.slice sa sn sc) ∧ W.cell? ⟨rg, 6, none⟩ = some (.int .i64 cu)) ∧ Rs W (.slice sa sn sc) s := by
  obtain ⟨A', c', e, hq⟩ := h.qsl
  simp only [Value.slice.injEq] at e
  obtain ⟨rfl, rfl, rfl⟩ := e
  obtain ⟨pg, rfl, hQ⟩ := hq.resolve_left (by simp)
  obtain ⟨ra, rn, rc, c1, hR⟩ := hQ 0 (by simp)
  obtain ⟨A2, c2, e2, hr⟩ := hR.rsl
  simp only [Value.slice.injEq] at e2
  obtain ⟨rfl, rfl, rfl⟩ := e2
  obtain ⟨rg, rfl, hC⟩ := hr.resolve_left (by simp)
  obtain ⟨a1, n1, d1, a2, n2, d2, a3, n3, d3, a4, n4, d4, ⟨_, _, q2, _, _, _, q6⟩, hM⟩ := hC 0 (by simp)
  rcases hM.2.1.get with ⟨e, _⟩ | ⟨kg, kc, e, hS⟩
  · cases e
  · simp only at e
    rw [e] at q2
    obtain ⟨sa, sn, sc, k1, k2⟩ := hS 0 (by simp [ruleOf])
    exact ⟨pg, rg, _, kg, kc, sa, sn, sc, rfl, rfl, ⟨c1, q2, k1, q6⟩, k2⟩
set_option maxHeartbeats 8000000 in
theorem short_walk (SA : Option Addr) (n sc : Nat) (s : List (Int × Int)) (nm un : ByteArray) (cu : Int) (w : World) (hT : Tab w) (hn : s.length = n) (hR : Rs w (.slice SA n sc) s) (hs1 : nm.size ≤ maxLen) (hs2 : un.size ≤ maxLen) :
    Calls Tryd.prog 4 #[.slice SA n sc, .string nm, .string un, .int .i64 cu] w fun e w' => e = .returned (.bool true) ∧ Below w.heap.size w w' := by
  have HSh : Hid (Calls Tryd.prog 6 #[] w fun e w' => e = .returned (.bool true) ∧ Below w.heap.size w w') := shown_any w hT
  have HV : Hid (∀ W, Below w.heap.size w W → Calls Tryd.prog 16 #[.slice SA n sc] W fun e w' => e = .returned (.bool (validB s)) ∧ Below w.heap.size w w') := fun W hW => (rvalid_any _ s W (hR.below hW (Nat.le_refl _))).mono (fun e w' ⟨h1, h2⟩ => ⟨h1, hW.trans (h2.below.mono hW.size)⟩)
  have HTab : Hid (∀ W, Below w.heap.size w W → Tab W) := fun W h => hT.below h hT.pos
  have HRs : Hid (∀ W, Below w.heap.size w W → Rs W (.slice SA n sc) s) := fun W hW => hR.below hW (Nat.le_refl _)
  have HN : Hid (s.length = n) := hn
  clear hT hR hn
  go_enter Tryd.func4, Tryd.ntmps4
  go_wp2_with fail
  refine HSh.out.mono ?_
  rintro e w1 ⟨rfl, hb1⟩
  have HB1 : Hid (Below w.heap.size w w1) := hb1
  clear hb1 HSh
  go_wp2_with fail
  refine (HV.out _ HB1.out).mono ?_
  rintro e w2 ⟨rfl, hb2⟩
  have HB2 : Hid (Below w.heap.size w w2) := hb2
  clear hb2 HB1 HV
  cases hv : validB s with
  | false =>
    go_wp2
    go_ret
    exact ⟨rfl, HB2.out⟩
  | true =>
    cases heq : (nm.toList == un.toList) with
    | true =>
      go_wp2
      go_ret
      exact ⟨rfl, HB2.out⟩
    | false =>
      have hn5 : n ≤ 512 := by have := ((validB_iff s).1 hv).1; rw [HN.out] at this; exact this
      have HE : Hid (validB s = true ∧ (nm.toList == un.toList) = false) := ⟨hv, heq⟩
      have HO0 : Hid (∀ W, Below w.heap.size w W → RI w s 0 (.slice (some ⟨W.heap.size, 0, none⟩) 0 0) (W.alloc (.cells #[] 24))) := fun W hW => ⟨⟨rfl, .inr ⟨W.heap.size, 0, #[], rfl, hW.size, blk_new rfl, Nat.le_refl _, Nat.zero_le _, rfl, rfl⟩⟩, hW.alloc hW.size _, _, _, rfl⟩
      clear hv
      go_wp2_with fail
      clear heq
      go_loopw [9, 10] (fun sa vi wr => ∃ (va : Value) (kk : Nat), va = sa ∧ vi = .int .i64 kk ∧ kk ≤ n ∧ Hid (RI w s kk va wr)) (fun _ vi _ => n - (intOf vi).toNat)
      case atStart => exact ⟨_, 0, rfl, rfl, Nat.zero_le _, HO0.out _ HB2.out⟩
      case round =>
        obtain ⟨va, kk, rfl, rfl, hkk, HG⟩ := hrel
        obtain ⟨vg, VC, rfl⟩ := HG.out.2.2
        have hk0 : (0 : Int) ≤ (kk : Int) := by omega
        have hkI : (kk : Int) ≤ 512 := by omega
        by_cases hlt : kk < n
        · have hltI : (kk : Int) < (n : Int) := by omega
          have hltl : kk < s.length := by rw [HN.out]; exact hlt
          obtain ⟨h1, h2, _⟩ := HG.out
          obtain ⟨sA, sC, eS, _, hS⟩ := HRs.out w (Below.refl _ _)
          have hsne : s ≠ [] := fun e => by rw [e] at hltl; simp at hltl
          obtain ⟨g, o, eA, hRd⟩ := hS.resolve_left hsne
          simp only [Value.slice.injEq] at eS
          obtain ⟨rfl, hnn, rfl⟩ := eS
          clear hnn
          subst eA
          have hgw : g < w.heap.size := hRd.lt hsne
          have k1 := (h2.cell (p := ⟨g, o + kk * 2, none⟩) hgw).trans (hRd kk hltl).1
          have k2 := (h2.cell (p := ⟨g, o + kk * 2 + 1, none⟩) hgw).trans (hRd kk hltl).2
          have hge : (Value.slice (some ⟨vg, 0, none⟩) kk VC).ownBlock ≠ some g := fun e => by have := (World.ownsRow.lt h1 g e).1; omega
          have hgs : g < wr.heap.size := Nat.lt_of_lt_of_le hgw h2.size
          have hle := h2.size
          have HW : Hid (wr.ownsRow w.heap.size 24 8 (.slice (some ⟨vg, 0, none⟩) kk VC) kk (fi (rngs (s.take kk)))) := h1
          have HB : Hid (Below w.heap.size w wr) := h2
          have HRt : Hid (fi (rngs (s.take (kk + 1))) = fi (rngs (s.take kk)) ++ itc 6 0 ⟨#[]⟩ nl (rg s kk).1 (rg s kk).2 false 0) := rngs_take s kk hltl
          obtain ⟨lo, hlo⟩ : ∃ lo, (rg s kk).1 = lo := ⟨_, rfl⟩
          obtain ⟨hi', hhi⟩ : ∃ hi', (rg s kk).2 = hi' := ⟨_, rfl⟩
          rw [hlo] at k1 HRt
          rw [hhi] at k2 HRt
          obtain ⟨i0, hi, hz0, hz1, hz2⟩ := info_parts info24
          clear h1 h2 hRd hS hlo hhi hsne HG HO0 HB2 HTab HRs
          go_upto_region 9 with fail
          go_region_held3 (fun w' => w'.cell? ⟨g, o + kk * 2, none⟩ = some (.int .i64 lo) ∧ w'.cell? ⟨g, o + kk * 2 + 1, none⟩ = some (.int .i64 hi'))
            (first
              | go_keep
              | (go_split_ands
                 refine ⟨?_, ?_⟩
                 · (rw [hgrow.cell_far _ (by simp; omega) (Ne.symm hge)]; assumption)
                 · (rw [hgrow.cell_far _ (by simp; omega) (Ne.symm hge)]; assumption)))
            ((refine step_append_lies _ (by rfl) _ _ _ (by rfl) w.heap.size 24 i0 _ 8 88 Tryd.underlying22 hi hz0 hz1 hz2 rfl (by omega) (.slice (some ⟨vg, 0, none⟩) kk VC) kk _ (by rfl) ((HW.out.alloc _).drew) ⟨wr.heap.size, 0, none⟩ 1 1 (itc 6 0 ⟨#[]⟩ nl lo hi' false 0) (by rfl) (by rfl) (World.news_of_block (cs := (itc 6 0 ⟨#[]⟩ nl lo hi' false 0).toArray) (t := 24) (fr := (0, 0)) (heap_alloc_new wr _)) (by simp [Value.oneCell']) (by omega) (by unfold maxLen; omega) (by omega) (by simp; omega) (wr.heap.size + 1) (by simp) ?_; intro gg cap' w3 hown1 hgrow hat hlt2))
          go_wp2_with fail
          go_roundw
          case rel =>
            exact ⟨_, kk + 1, rfl, by simp, hlt, by rw [HRt.out]; exact hown1, ((HB.out.alloc hle _).drew).trans ((Below.refl _ _).grown hgrow (by simp; omega) (fun b hb => (World.ownsRow.lt HW.out b hb).1)), _, _, rfl⟩
          case measure => simp [intOf]; omega
        · have hgeI : (n : Int) ≤ (kk : Int) := by omega
          obtain rfl : kk = n := by omega
          have HP : Hid (wr.ownsRow w.heap.size 24 8 (.slice (some ⟨vg, 0, none⟩) kk VC) (rngs s).length (fi (rngs s)) ∧ Below w.heap.size w wr) := by
            obtain ⟨h1, h2, _⟩ := HG.out
            rw [List.take_of_length_le (by rw [HN.out]; exact Nat.le_refl _)] at h1
            have e : (rngs s).length = kk := by simp [rngs, HN.out]
            rw [e]
            exact ⟨h1, h2⟩
          clear HG HB2 HO0
          obtain ⟨cP, rP, hM⟩ := more_ex s
          have HM : Hid (More s cP rP) := hM
          have hW3 : ∀ o1 o2 o3, Below wr.heap.size wr (((wr.alloc o1).alloc o2).alloc o3) := fun o1 o2 o3 => (((Below.refl _ _).alloc (Nat.le_refl _) _).alloc (by simp) _).alloc (by simp; omega) _
          have HX0 : Hid (∀ o1 o2 o3, (∀ W, Ext (((wr.alloc o1).alloc o2).alloc o3) W → Tab W) ∧ (∀ W, Ext (((wr.alloc o1).alloc o2).alloc o3) W → PRow W (.slice (some ⟨vg, 0, none⟩) kk VC) (rngs s)) ∧ nm.data.toList ≠ un.data.toList ∧ s.length = kk) := fun o1 o2 o3 => by
            have hP0 := own_prow HP.out.1
            refine ⟨fun W hW => HTab.out W (HP.out.2.trans (((hW3 o1 o2 o3).trans (hW.mono (hW3 o1 o2 o3).size)).mono HP.out.2.size)), fun W hW => ?_, fun e => ?_, HN.out⟩
            · have hb := (hW3 o1 o2 o3).trans (hW.mono (hW3 o1 o2 o3).size)
              obtain ⟨a, c, e, h⟩ := hP0
              exact ⟨a, c, e, h.imp id (fun ⟨g, o, e, hg, h⟩ => ⟨g, o, e, Nat.lt_of_lt_of_le hg hb.size, fun j hj => (h j hj).below hb hg⟩)⟩
            · have h2 := HE.out.2
              have : nm = un := by
                cases nm; cases un
                simp only at e
                rw [ByteArray.mk.injEq]
                exact Array.ext' e
              rw [this] at h2
              simp at h2
          have HK0 : Hid (∀ o1 o2 o3, (((wr.alloc o1).alloc o2).alloc o3).heap[wr.heap.size]? = some o1 ∧ (((wr.alloc o1).alloc o2).alloc o3).heap[wr.heap.size + 1]? = some o2 ∧ (((wr.alloc o1).alloc o2).alloc o3).heap[wr.heap.size + 1 + 1]? = some o3 ∧ Below w.heap.size w (((wr.alloc o1).alloc o2).alloc o3)) := fun o1 o2 o3 => ⟨blk_up (blk_up (blk_new rfl) _) _, blk_up (blk_new (by simp)) _, blk_new (by simp), HP.out.2.trans ((hW3 o1 o2 o3).mono HP.out.2.size)⟩
          clear hM hW3 HTab
          go_upto_region 14 with fail
          have HX := HX0.out (.cells (itc 5 0 ⟨#[]⟩ (.slice (some ⟨vg, 0, none⟩) kk VC) 0 0 false 0).toArray 24) (.cells (itc 2 0 nm nl 0 0 false 0).toArray 24) (.cells (itc 5 0 ⟨#[]⟩ (.slice (some ⟨vg, 0, none⟩) kk VC) 0 0 true 0).toArray 24)
          replace HX : Hid _ := HX
          have HK : Hid _ := HK0.out (.cells (itc 5 0 ⟨#[]⟩ (.slice (some ⟨vg, 0, none⟩) kk VC) 0 0 false 0).toArray 24) (.cells (itc 2 0 nm nl 0 0 false 0).toArray 24) (.cells (itc 5 0 ⟨#[]⟩ (.slice (some ⟨vg, 0, none⟩) kk VC) 0 0 true 0).toArray 24)
          have HR0 : Hid (∀ W, Below w.heap.size w W → Rs W (.slice SA kk sc) s) := HRs.out
          clear HX0 HK0 HP HN HRs
          go_cut [14, 15, 16] (fun s14 s15 s16 wx => ∃ c n a m cp, s14 = .slice a m cp ∧ s15 = .int .i64 n ∧ s16 = .int .i64 c ∧ Hid ((∃ ps, F14 cP (ruleOf s rP cu) c n ps ∧ (c = 0 → ∃ base, PassRow wx base (.slice a m cp) ps)) ∧ Ext (((wr.alloc (.cells (itc 5 0 ⟨#[]⟩ (.slice (some ⟨vg, 0, none⟩) kk VC) 0 0 false 0).toArray 24)).alloc (.cells (itc 2 0 nm nl 0 0 false 0).toArray 24)).alloc (.cells (itc 5 0 ⟨#[]⟩ (.slice (some ⟨vg, 0, none⟩) kk VC) 0 0 true 0).toArray 24)) wx))
          case first =>
            rename_i hbig Jx Kz hj hx
            clear hbig
            refine wp_region_many (by kernel_rfl) (by kernel_rfl) (by kernel_rfl) (by kernel_rfl) (m14 nm un (.slice (some ⟨vg, 0, none⟩) kk VC) cu (F14 cP (ruleOf s rP cu))) (m14_ext _ _ _ _ _) (fun i o vs us w ho h hi => m14_V _ _ _ _ _ i vs us w (fun j hj => h j (hj.imp id (fun e => deps_of (d := D14) (by kernel_rfl) ho e))) hi) ⟨?_, ?_, ?_, ?_, ?_, ?_, ?_, ?_, ?_, ?_, ?_, ?_, ?_, ?_, ?_, ?_, ?_, ?_, ?_, ?_, ?_, ?_, ?_, ?_, ?_, ?_, ?_, ?_, trivial⟩ ?_
            · as_aux_lemma =>
                clear hx hj
                intro a W vs hw hI hval hfr K hK
                have d : a.tmps.getD 2 undef = .string un := hfr 2 (by kernel_rfl)
                clear hI hval hfr
                exact step_value (v := .string un) (w' := W) rfl (fun _ _ h => by cases h) (rho [(2, .string un)]) (rho_of (by intro p hm; simp only [List.mem_cons, List.not_mem_nil, or_false] at hm; rcases hm with rfl; exact d) (by kernel_rfl)) (by kernel_rfl) (hK _ _ (Below.refl _ _) rfl)
            · as_aux_lemma =>
                clear hx hj
                intro a W vs hw hI hval hfr K hK
                have d : a.tmps.getD 13 undef = .pointer (some ⟨wr.heap.size + 1 + 1, 0, none⟩) := hfr 13 (by kernel_rfl)
                clear hI hval hfr
                have hb : W.heap[wr.heap.size + 1 + 1]? = some (.cells (itc 5 0 ⟨#[]⟩ (.slice (some ⟨vg, 0, none⟩) kk VC) 0 0 true 0).toArray 24 (0, 0)) := (hw.block _ (blk_lt HK.out.2.2.1)).trans HK.out.2.2.1
                have c0 : W.cell? ⟨wr.heap.size + 1 + 1, 0, none⟩ = some (.int .i64 5) := (cellB hb 0).trans rfl
                have c1 : W.cell? ⟨wr.heap.size + 1 + 1, 1, none⟩ = some (.int .i64 0) := (cellB hb 1).trans rfl
                have c2 : W.cell? ⟨wr.heap.size + 1 + 1, 2, none⟩ = some (.string ⟨#[]⟩) := (cellB hb 2).trans rfl
                have c3 : W.cell? ⟨wr.heap.size + 1 + 1, 3, none⟩ = some ((.slice (some ⟨vg, 0, none⟩) kk VC)) := (cellB hb 3).trans rfl
                have c4 : W.cell? ⟨wr.heap.size + 1 + 1, 4, none⟩ = some (.int .i64 0) := (cellB hb 4).trans rfl
                have c5 : W.cell? ⟨wr.heap.size + 1 + 1, 5, none⟩ = some (.int .i64 0) := (cellB hb 5).trans rfl
                have c6 : W.cell? ⟨wr.heap.size + 1 + 1, 6, none⟩ = some (.bool true) := (cellB hb 6).trans rfl
                have c7 : W.cell? ⟨wr.heap.size + 1 + 1, 7, none⟩ = some (.int .i64 0) := (cellB hb 7).trans rfl
                clear hb hw HK HX HE
                simp only [Array.getD_eq_getD_getElem?] at d
                go_simp
                exact hK _ _ (Below.refl _ _) rfl
            · as_aux_lemma =>
                clear hx hj
                intro a W vs hw hI hval hfr K hK
                have d : a.tmps.getD 59 undef = itv 5 0 ⟨#[]⟩ (.slice (some ⟨vg, 0, none⟩) kk VC) 0 0 true 0 := (hval 1 _ 59 (by kernel_rfl) (by rfl) rfl).trans (hI 1 (by kernel_rfl))
                clear hI hval hfr
                refine step_slice rfl 22 24 1 _ rfl 8 Tryd.underlying22 (by kernel_rfl) (by kernel_rfl) (by decide) [itv 5 0 ⟨#[]⟩ (.slice (some ⟨vg, 0, none⟩) kk VC) 0 0 true 0] ?_ (by intro v hm; simp only [List.mem_cons, List.not_mem_nil, or_false] at hm; rcases hm with rfl; rfl) rfl (by decide) (by decide) (hK _ _ (Ext_alloc _ _) ⟨W.heap.size, rfl, blk_new rfl⟩)
                rw [Array.toList_map]
                show [(0, a.tmps.getD 59 undef)] = _
                rw [d]
                rfl
            · as_aux_lemma =>
                clear hx hj
                intro a W vs hw hI hval hfr K hK
                obtain ⟨g, e, h⟩ := hI 2 (by kernel_rfl)
                have d := (hval 2 _ 60 (by kernel_rfl) (by rfl) rfl).trans e
                have d0 : a.tmps.getD 58 undef = .string un := (hval 0 _ 58 (by kernel_rfl) (by rfl) rfl).trans (hI 0 (by kernel_rfl))
                clear hI hval hfr
                refine step_line rfl _ rfl [(0, .int .i64 1), (2, .string un), (6, (.slice (some ⟨g, 0, none⟩) 1 1))] ?_ (by intro p hm; simp only [List.mem_cons, List.not_mem_nil, or_false] at hm; rcases hm with rfl | rfl | rfl <;> exact ⟨by simp, rfl⟩) (hK _ _ (Below.refl _ _) ⟨_, rfl, g, rfl, h⟩)
                rw [Array.toList_map]
                show [(0, .int .i64 1), (2, a.tmps.getD 58 undef), (6, a.tmps.getD 60 undef)] = _
                rw [d0, d]
            · as_aux_lemma =>
                clear hx hj
                intro a W vs hw hI hval hfr K hK
                have d : a.tmps.getD 1 undef = .string nm := hfr 1 (by kernel_rfl)
                clear hI hval hfr
                exact step_value (v := .string nm) (w' := W) rfl (fun _ _ h => by cases h) (rho [(1, .string nm)]) (rho_of (by intro p hm; simp only [List.mem_cons, List.not_mem_nil, or_false] at hm; rcases hm with rfl; exact d) (by kernel_rfl)) (by kernel_rfl) (hK _ _ (Below.refl _ _) rfl)
            · as_aux_lemma =>
                clear hx hj
                intro a W vs hw hI hval hfr K hK
                have d : a.tmps.getD 11 undef = .pointer (some ⟨wr.heap.size, 0, none⟩) := hfr 11 (by kernel_rfl)
                clear hI hval hfr
                have hb : W.heap[wr.heap.size]? = some (.cells (itc 5 0 ⟨#[]⟩ (.slice (some ⟨vg, 0, none⟩) kk VC) 0 0 false 0).toArray 24 (0, 0)) := (hw.block _ (blk_lt HK.out.1)).trans HK.out.1
                have c0 : W.cell? ⟨wr.heap.size, 0, none⟩ = some (.int .i64 5) := (cellB hb 0).trans rfl
                have c1 : W.cell? ⟨wr.heap.size, 1, none⟩ = some (.int .i64 0) := (cellB hb 1).trans rfl
                have c2 : W.cell? ⟨wr.heap.size, 2, none⟩ = some (.string ⟨#[]⟩) := (cellB hb 2).trans rfl
                have c3 : W.cell? ⟨wr.heap.size, 3, none⟩ = some ((.slice (some ⟨vg, 0, none⟩) kk VC)) := (cellB hb 3).trans rfl
                have c4 : W.cell? ⟨wr.heap.size, 4, none⟩ = some (.int .i64 0) := (cellB hb 4).trans rfl
                have c5 : W.cell? ⟨wr.heap.size, 5, none⟩ = some (.int .i64 0) := (cellB hb 5).trans rfl
                have c6 : W.cell? ⟨wr.heap.size, 6, none⟩ = some (.bool false) := (cellB hb 6).trans rfl
                have c7 : W.cell? ⟨wr.heap.size, 7, none⟩ = some (.int .i64 0) := (cellB hb 7).trans rfl
                clear hb hw HK HX HE
                simp only [Array.getD_eq_getD_getElem?] at d
                go_simp
                exact hK _ _ (Below.refl _ _) rfl
            · as_aux_lemma =>
                clear hx hj
                intro a W vs hw hI hval hfr K hK
                have d : a.tmps.getD 63 undef = itv 5 0 ⟨#[]⟩ (.slice (some ⟨vg, 0, none⟩) kk VC) 0 0 false 0 := (hval 5 _ 63 (by kernel_rfl) (by rfl) rfl).trans (hI 5 (by kernel_rfl))
                clear hI hval hfr
                refine step_slice rfl 22 24 1 _ rfl 8 Tryd.underlying22 (by kernel_rfl) (by kernel_rfl) (by decide) [itv 5 0 ⟨#[]⟩ (.slice (some ⟨vg, 0, none⟩) kk VC) 0 0 false 0] ?_ (by intro v hm; simp only [List.mem_cons, List.not_mem_nil, or_false] at hm; rcases hm with rfl; rfl) rfl (by decide) (by decide) (hK _ _ (Ext_alloc _ _) ⟨W.heap.size, rfl, blk_new rfl⟩)
                rw [Array.toList_map]
                show [(0, a.tmps.getD 63 undef)] = _
                rw [d]
                rfl
            · as_aux_lemma =>
                clear hx hj
                intro a W vs hw hI hval hfr K hK
                obtain ⟨g, e, h⟩ := hI 6 (by kernel_rfl)
                have d := (hval 6 _ 64 (by kernel_rfl) (by rfl) rfl).trans e
                have d0 : a.tmps.getD 62 undef = .string nm := (hval 4 _ 62 (by kernel_rfl) (by rfl) rfl).trans (hI 4 (by kernel_rfl))
                clear hI hval hfr
                refine step_line rfl _ rfl [(0, .int .i64 1), (2, .string nm), (6, (.slice (some ⟨g, 0, none⟩) 1 1))] ?_ (by intro p hm; simp only [List.mem_cons, List.not_mem_nil, or_false] at hm; rcases hm with rfl | rfl | rfl <;> exact ⟨by simp, rfl⟩) (hK _ _ (Below.refl _ _) ⟨_, rfl, g, rfl, h⟩)
                rw [Array.toList_map]
                show [(0, .int .i64 1), (2, a.tmps.getD 62 undef), (6, a.tmps.getD 64 undef)] = _
                rw [d0, d]
            · as_aux_lemma =>
                clear hx hj
                intro a W vs hw hI hval hfr K hK
                have d : a.tmps.getD 12 undef = .pointer (some ⟨wr.heap.size + 1, 0, none⟩) := hfr 12 (by kernel_rfl)
                clear hI hval hfr
                have hb : W.heap[wr.heap.size + 1]? = some (.cells (itc 2 0 nm nl 0 0 false 0).toArray 24 (0, 0)) := (hw.block _ (blk_lt HK.out.2.1)).trans HK.out.2.1
                have c0 : W.cell? ⟨wr.heap.size + 1, 0, none⟩ = some (.int .i64 2) := (cellB hb 0).trans rfl
                have c1 : W.cell? ⟨wr.heap.size + 1, 1, none⟩ = some (.int .i64 0) := (cellB hb 1).trans rfl
                have c2 : W.cell? ⟨wr.heap.size + 1, 2, none⟩ = some (.string nm) := (cellB hb 2).trans rfl
                have c3 : W.cell? ⟨wr.heap.size + 1, 3, none⟩ = some (nl) := (cellB hb 3).trans rfl
                have c4 : W.cell? ⟨wr.heap.size + 1, 4, none⟩ = some (.int .i64 0) := (cellB hb 4).trans rfl
                have c5 : W.cell? ⟨wr.heap.size + 1, 5, none⟩ = some (.int .i64 0) := (cellB hb 5).trans rfl
                have c6 : W.cell? ⟨wr.heap.size + 1, 6, none⟩ = some (.bool false) := (cellB hb 6).trans rfl
                have c7 : W.cell? ⟨wr.heap.size + 1, 7, none⟩ = some (.int .i64 0) := (cellB hb 7).trans rfl
                clear hb hw HK HX HE
                simp only [Array.getD_eq_getD_getElem?] at d
                go_simp
                exact hK _ _ (Below.refl _ _) rfl
            · as_aux_lemma =>
                clear hx hj
                intro a W vs hw hI hval hfr K hK
                have d : a.tmps.getD 12 undef = .pointer (some ⟨wr.heap.size + 1, 0, none⟩) := hfr 12 (by kernel_rfl)
                clear hI hval hfr
                have hb : W.heap[wr.heap.size + 1]? = some (.cells (itc 2 0 nm nl 0 0 false 0).toArray 24 (0, 0)) := (hw.block _ (blk_lt HK.out.2.1)).trans HK.out.2.1
                have c0 : W.cell? ⟨wr.heap.size + 1, 0, none⟩ = some (.int .i64 2) := (cellB hb 0).trans rfl
                have c1 : W.cell? ⟨wr.heap.size + 1, 1, none⟩ = some (.int .i64 0) := (cellB hb 1).trans rfl
                have c2 : W.cell? ⟨wr.heap.size + 1, 2, none⟩ = some (.string nm) := (cellB hb 2).trans rfl
                have c3 : W.cell? ⟨wr.heap.size + 1, 3, none⟩ = some (nl) := (cellB hb 3).trans rfl
                have c4 : W.cell? ⟨wr.heap.size + 1, 4, none⟩ = some (.int .i64 0) := (cellB hb 4).trans rfl
                have c5 : W.cell? ⟨wr.heap.size + 1, 5, none⟩ = some (.int .i64 0) := (cellB hb 5).trans rfl
                have c6 : W.cell? ⟨wr.heap.size + 1, 6, none⟩ = some (.bool false) := (cellB hb 6).trans rfl
                have c7 : W.cell? ⟨wr.heap.size + 1, 7, none⟩ = some (.int .i64 0) := (cellB hb 7).trans rfl
                clear hb hw HK HX HE
                simp only [Array.getD_eq_getD_getElem?] at d
                go_simp
                exact hK _ _ (Below.refl _ _) rfl
            · as_aux_lemma =>
                clear hx hj
                intro a W vs hw hI hval hfr K hK
                have d : a.tmps.getD 67 undef = itv 2 0 nm nl 0 0 false 0 := (hval 9 _ 67 (by kernel_rfl) (by rfl) rfl).trans (hI 9 (by kernel_rfl))
                clear hI hval hfr
                refine step_slice rfl 22 24 1 _ rfl 8 Tryd.underlying22 (by kernel_rfl) (by kernel_rfl) (by decide) [itv 2 0 nm nl 0 0 false 0] ?_ (by intro v hm; simp only [List.mem_cons, List.not_mem_nil, or_false] at hm; rcases hm with rfl; rfl) rfl (by decide) (by decide) (hK _ _ (Ext_alloc _ _) ⟨W.heap.size, rfl, blk_new rfl⟩)
                rw [Array.toList_map]
                show [(0, a.tmps.getD 67 undef)] = _
                rw [d]
                rfl
            · as_aux_lemma =>
                clear hx hj
                intro a W vs hw hI hval hfr K hK
                have d : a.tmps.getD 3 undef = .int .i64 cu := hfr 3 (by kernel_rfl)
                clear hI hval hfr
                exact step_value (v := .int .i64 cu) (w' := W) rfl (fun _ _ h => by cases h) (rho [(3, .int .i64 cu)]) (rho_of (by intro p hm; simp only [List.mem_cons, List.not_mem_nil, or_false] at hm; rcases hm with rfl; exact d) (by kernel_rfl)) (by kernel_rfl) (hK _ _ (Below.refl _ _) rfl)
            · as_aux_lemma =>
                clear hx hj
                intro a W vs hw hI hval hfr K hK
                have d1 : a.tmps.getD 66 undef = itv 2 0 nm nl 0 0 false 0 := (hval 8 _ 66 (by kernel_rfl) (by rfl) rfl).trans (hI 8 (by kernel_rfl))
                obtain ⟨g, e, h⟩ := hI 10 (by kernel_rfl)
                have d2 := (hval 10 _ 68 (by kernel_rfl) (by rfl) rfl).trans e
                have d3 : a.tmps.getD 69 undef = .int .i64 cu := (hval 11 _ 69 (by kernel_rfl) (by rfl) rfl).trans (hI 11 (by kernel_rfl))
                clear hI hval hfr
                simp only [Array.getD_eq_getD_getElem?] at d1 d2 d3
                go_simp
                refine (line_any (xM nm) none 0 0 [] (some ⟨g, 0, none⟩) 1 [(xM nm, nl)] cu W ⟨show (2 : Int) ≠ 3 by decide, hs1, ⟨_, _, _, rfl⟩, fun h => absurd h (show (2 : Int) ≠ 5 by decide)⟩ ⟨_, 1, rfl, .inr ⟨g, 0, rfl, blk_lt h, fun j hj => by
                    obtain rfl : j = 0 := by have : j < 1 := hj; omega
                    exact itAtB h 0 (xM nm) nl rfl⟩⟩ (fun p hp => by
                    obtain rfl : p = (xM nm, nl) := by simpa using hp
                    exact ⟨show (2 : Int) ≠ 3 by decide, hs1, _, _, _, rfl⟩) (by simp)).mono ?_
                rintro e w' ⟨lv, sv, xv, rfl, hL, hb⟩
                exact hK _ _ hb ⟨lv, rfl, sv, xv, hL⟩
            · as_aux_lemma =>
                clear hx hj
                intro a W vs hw hI hval hfr K hK
                clear hI hval hfr
                refine step_line rfl _ rfl [(0, .int .i64 3)] ?_ (by intro p hm; simp only [List.mem_cons, List.not_mem_nil, or_false] at hm; rcases hm with rfl <;> exact ⟨by simp, rfl⟩) (hK _ _ (Below.refl _ _) rfl)
                rw [Array.toList_map]
                rfl
            · as_aux_lemma =>
                clear hx hj
                intro a W vs hw hI hval hfr K hK
                have d : a.tmps.getD 12 undef = .pointer (some ⟨wr.heap.size + 1, 0, none⟩) := hfr 12 (by kernel_rfl)
                clear hI hval hfr
                have hb : W.heap[wr.heap.size + 1]? = some (.cells (itc 2 0 nm nl 0 0 false 0).toArray 24 (0, 0)) := (hw.block _ (blk_lt HK.out.2.1)).trans HK.out.2.1
                have c0 : W.cell? ⟨wr.heap.size + 1, 0, none⟩ = some (.int .i64 2) := (cellB hb 0).trans rfl
                have c1 : W.cell? ⟨wr.heap.size + 1, 1, none⟩ = some (.int .i64 0) := (cellB hb 1).trans rfl
                have c2 : W.cell? ⟨wr.heap.size + 1, 2, none⟩ = some (.string nm) := (cellB hb 2).trans rfl
                have c3 : W.cell? ⟨wr.heap.size + 1, 3, none⟩ = some (nl) := (cellB hb 3).trans rfl
                have c4 : W.cell? ⟨wr.heap.size + 1, 4, none⟩ = some (.int .i64 0) := (cellB hb 4).trans rfl
                have c5 : W.cell? ⟨wr.heap.size + 1, 5, none⟩ = some (.int .i64 0) := (cellB hb 5).trans rfl
                have c6 : W.cell? ⟨wr.heap.size + 1, 6, none⟩ = some (.bool false) := (cellB hb 6).trans rfl
                have c7 : W.cell? ⟨wr.heap.size + 1, 7, none⟩ = some (.int .i64 0) := (cellB hb 7).trans rfl
                clear hb hw HK HX HE
                simp only [Array.getD_eq_getD_getElem?] at d
                go_simp
                exact hK _ _ (Below.refl _ _) rfl
            · as_aux_lemma =>
                clear hx hj
                intro a W vs hw hI hval hfr K hK
                have d : a.tmps.getD 12 undef = .pointer (some ⟨wr.heap.size + 1, 0, none⟩) := hfr 12 (by kernel_rfl)
                clear hI hval hfr
                have hb : W.heap[wr.heap.size + 1]? = some (.cells (itc 2 0 nm nl 0 0 false 0).toArray 24 (0, 0)) := (hw.block _ (blk_lt HK.out.2.1)).trans HK.out.2.1
                have c0 : W.cell? ⟨wr.heap.size + 1, 0, none⟩ = some (.int .i64 2) := (cellB hb 0).trans rfl
                have c1 : W.cell? ⟨wr.heap.size + 1, 1, none⟩ = some (.int .i64 0) := (cellB hb 1).trans rfl
                have c2 : W.cell? ⟨wr.heap.size + 1, 2, none⟩ = some (.string nm) := (cellB hb 2).trans rfl
                have c3 : W.cell? ⟨wr.heap.size + 1, 3, none⟩ = some (nl) := (cellB hb 3).trans rfl
                have c4 : W.cell? ⟨wr.heap.size + 1, 4, none⟩ = some (.int .i64 0) := (cellB hb 4).trans rfl
                have c5 : W.cell? ⟨wr.heap.size + 1, 5, none⟩ = some (.int .i64 0) := (cellB hb 5).trans rfl
                have c6 : W.cell? ⟨wr.heap.size + 1, 6, none⟩ = some (.bool false) := (cellB hb 6).trans rfl
                have c7 : W.cell? ⟨wr.heap.size + 1, 7, none⟩ = some (.int .i64 0) := (cellB hb 7).trans rfl
                clear hb hw HK HX HE
                simp only [Array.getD_eq_getD_getElem?] at d
                go_simp
                exact hK _ _ (Below.refl _ _) rfl
            · as_aux_lemma =>
                clear hx hj
                intro a W vs hw hI hval hfr K hK
                have d : a.tmps.getD 73 undef = itv 2 0 nm nl 0 0 false 0 := (hval 15 _ 73 (by kernel_rfl) (by rfl) rfl).trans (hI 15 (by kernel_rfl))
                clear hI hval hfr
                refine step_slice rfl 22 24 1 _ rfl 8 Tryd.underlying22 (by kernel_rfl) (by kernel_rfl) (by decide) [itv 2 0 nm nl 0 0 false 0] ?_ (by intro v hm; simp only [List.mem_cons, List.not_mem_nil, or_false] at hm; rcases hm with rfl; rfl) rfl (by decide) (by decide) (hK _ _ (Ext_alloc _ _) ⟨W.heap.size, rfl, blk_new rfl⟩)
                rw [Array.toList_map]
                show [(0, a.tmps.getD 73 undef)] = _
                rw [d]
                rfl
            · as_aux_lemma =>
                clear hx hj
                intro a W vs hw hI hval hfr K hK
                have d : a.tmps.getD 3 undef = .int .i64 cu := hfr 3 (by kernel_rfl)
                clear hI hval hfr
                exact step_value (v := .int .i64 cu) (w' := W) rfl (fun _ _ h => by cases h) (rho [(3, .int .i64 cu)]) (rho_of (by intro p hm; simp only [List.mem_cons, List.not_mem_nil, or_false] at hm; rcases hm with rfl; exact d) (by kernel_rfl)) (by kernel_rfl) (hK _ _ (Below.refl _ _) rfl)
            · as_aux_lemma =>
                clear hx hj
                intro a W vs hw hI hval hfr K hK
                have d1 : a.tmps.getD 72 undef = itv 2 0 nm nl 0 0 false 0 := (hval 14 _ 72 (by kernel_rfl) (by rfl) rfl).trans (hI 14 (by kernel_rfl))
                obtain ⟨g, e, h⟩ := hI 16 (by kernel_rfl)
                have d2 := (hval 16 _ 74 (by kernel_rfl) (by rfl) rfl).trans e
                have d3 : a.tmps.getD 75 undef = .int .i64 cu := (hval 17 _ 75 (by kernel_rfl) (by rfl) rfl).trans (hI 17 (by kernel_rfl))
                clear hI hval hfr
                simp only [Array.getD_eq_getD_getElem?] at d1 d2 d3
                go_simp
                refine (line_any (xM nm) none 0 0 [] (some ⟨g, 0, none⟩) 1 [(xM nm, nl)] cu W ⟨show (2 : Int) ≠ 3 by decide, hs1, ⟨_, _, _, rfl⟩, fun h => absurd h (show (2 : Int) ≠ 5 by decide)⟩ ⟨_, 1, rfl, .inr ⟨g, 0, rfl, blk_lt h, fun j hj => by
                    obtain rfl : j = 0 := by have : j < 1 := hj; omega
                    exact itAtB h 0 (xM nm) nl rfl⟩⟩ (fun p hp => by
                    obtain rfl : p = (xM nm, nl) := by simpa using hp
                    exact ⟨show (2 : Int) ≠ 3 by decide, hs1, _, _, _, rfl⟩) (by simp)).mono ?_
                rintro e w' ⟨lv, sv, xv, rfl, hL, hb⟩
                exact hK _ _ hb ⟨lv, rfl, sv, xv, hL⟩
            · as_aux_lemma =>
                clear hx hj
                intro a W vs hw hI hval hfr K hK
                obtain ⟨sa, e1, ga, rfl, ha⟩ := hI 3 (by kernel_rfl)
                have d1 := (hval 3 _ 61 (by kernel_rfl) (by rfl) rfl).trans e1
                obtain ⟨sb, e2, gb, rfl, hb⟩ := hI 7 (by kernel_rfl)
                have d2 := (hval 7 _ 65 (by kernel_rfl) (by rfl) rfl).trans e2
                obtain ⟨lv1, e3, h3⟩ := hI 12 (by kernel_rfl)
                have d3 := (hval 12 _ 70 (by kernel_rfl) (by rfl) rfl).trans e3
                have d4 : a.tmps.getD 71 undef = lnv 3 0 ⟨#[]⟩ false false nl nl nl nl 0 := (hval 13 _ 71 (by kernel_rfl) (by rfl) rfl).trans (hI 13 (by kernel_rfl))
                obtain ⟨lv2, e5, h5⟩ := hI 18 (by kernel_rfl)
                have d5 := (hval 18 _ 76 (by kernel_rfl) (by rfl) rfl).trans e5
                clear hI hval hfr
                refine step_slice rfl 55 53 5 _ rfl 10 Tryd.underlying55 (by kernel_rfl) (by kernel_rfl) (by decide) [lnv 1 0 un false false nl (.slice (some ⟨ga, 0, none⟩) 1 1) nl nl 0, lnv 1 0 nm false false nl (.slice (some ⟨gb, 0, none⟩) 1 1) nl nl 0, lv1.val, lnv 3 0 ⟨#[]⟩ false false nl nl nl nl 0, lv2.val] ?_ (by intro v hm; simp only [List.mem_cons, List.not_mem_nil, or_false] at hm; rcases hm with rfl | rfl | rfl | rfl | rfl <;> rfl) rfl (by decide) (by decide) (hK _ _ (Ext_alloc _ _) ⟨(.slice (some ⟨ga, 0, none⟩) 1 1), (.slice (some ⟨gb, 0, none⟩) 1 1), lv1, lv2, ⟨W.heap.size, rfl, blk_new rfl⟩, SlB.ext ⟨ga, rfl, ha⟩ (Ext_alloc _ _), SlB.ext ⟨gb, rfl, hb⟩ (Ext_alloc _ _), h3.ext (Ext_alloc _ _), h5.ext (Ext_alloc _ _)⟩)
                rw [Array.toList_map]
                show [(0, a.tmps.getD 61 undef), (1, a.tmps.getD 65 undef), (2, a.tmps.getD 70 undef), (3, a.tmps.getD 71 undef), (4, a.tmps.getD 76 undef)] = _
                rw [d1, d2, d3, d4, d5]
                rfl
            · as_aux_lemma =>
                clear hx hj
                intro a W vs hw hI hval hfr K hK
                obtain ⟨sa, sb, lv1, lv2, ⟨g, e, hb⟩, h1, h2, h3, h4⟩ := hI 19 (by kernel_rfl)
                have d := (hval 19 _ 77 (by kernel_rfl) (by rfl) rfl).trans e
                clear hI hval hfr
                simp only [Array.getD_eq_getD_getElem?] at d
                go_simp
                refine (passes14 (s := s) (cP := cP) (rP := rP) (HX.out.1 W hw) HE.out.1 HX.out.2.2.1 hs1 hs2 HX.out.2.2.2 HM.out (HX.out.2.1 W hw) ⟨_, _, rfl⟩ hb h1 h2 h3 h4).mono ?_
                rintro e w' ⟨v, rfl, hA, hb'⟩
                exact hK _ _ hb' hA
            · as_aux_lemma =>
                clear hx hj
                intro a W vs hw hI hval hfr K hK
                have hA := hI 20 (by kernel_rfl)
                have d := hval 20 _ 78 (by kernel_rfl) (by rfl) rfl
                clear hI hval hfr
                obtain ⟨_, _, _, _, _, _, e, _⟩ := hA
                exact step_value (v := a.tmps.getD 78 undef) (w' := W) rfl (fun _ _ h => by cases h) a.eval (fun _ _ => rfl) rfl (hK _ _ (Below.refl _ _) ⟨d, _, _, _, d.trans e⟩)
            · as_aux_lemma =>
                clear hx hj
                intro a W vs hw hI hval hfr K hK
                obtain ⟨_, x, y, z, e⟩ := hI 21 (by kernel_rfl)
                have d := (hval 21 _ 57 (by kernel_rfl) (by rfl) rfl).trans e
                clear hI hval hfr
                exact step_value (v := x) (w' := W) rfl (fun _ _ h => by cases h) (rho [(57, .tuple #[x, y, z])]) (rho_of (by intro p hm; simp only [List.mem_cons, List.not_mem_nil, or_false] at hm; rcases hm with rfl; exact d) (by kernel_rfl)) (by kernel_rfl) (hK _ _ (Below.refl _ _) (show x = prj 0 (vs 21) by rw [e]; rfl))
            · as_aux_lemma =>
                clear hx hj
                intro a W vs hw hI hval hfr K hK
                obtain ⟨_, x, y, z, e⟩ := hI 21 (by kernel_rfl)
                have d := (hval 21 _ 57 (by kernel_rfl) (by rfl) rfl).trans e
                clear hI hval hfr
                exact step_value (v := y) (w' := W) rfl (fun _ _ h => by cases h) (rho [(57, .tuple #[x, y, z])]) (rho_of (by intro p hm; simp only [List.mem_cons, List.not_mem_nil, or_false] at hm; rcases hm with rfl; exact d) (by kernel_rfl)) (by kernel_rfl) (hK _ _ (Below.refl _ _) (show y = prj 1 (vs 21) by rw [e]; rfl))
            · as_aux_lemma =>
                clear hx hj
                intro a W vs hw hI hval hfr K hK
                obtain ⟨_, x, y, z, e⟩ := hI 21 (by kernel_rfl)
                have d := (hval 21 _ 57 (by kernel_rfl) (by rfl) rfl).trans e
                clear hI hval hfr
                exact step_value (v := z) (w' := W) rfl (fun _ _ h => by cases h) (rho [(57, .tuple #[x, y, z])]) (rho_of (by intro p hm; simp only [List.mem_cons, List.not_mem_nil, or_false] at hm; rcases hm with rfl; exact d) (by kernel_rfl)) (by kernel_rfl) (hK _ _ (Below.refl _ _) (show z = prj 2 (vs 21) by rw [e]; rfl))
            · as_aux_lemma =>
                clear hx hj
                intro a W vs hw hI hval hfr K hK
                have d := hval 22 _ 79 (by kernel_rfl) (by rfl) rfl
                clear hI hval hfr
                exact step_value (v := a.tmps.getD 79 undef) (w' := W) rfl (fun _ _ h => by cases h) a.eval (fun _ _ => rfl) rfl (hK _ _ (Below.refl _ _) d)
            · as_aux_lemma =>
                clear hx hj
                intro a W vs hw hI hval hfr K hK
                have d := hval 23 _ 80 (by kernel_rfl) (by rfl) rfl
                clear hI hval hfr
                exact step_value (v := a.tmps.getD 80 undef) (w' := W) rfl (fun _ _ h => by cases h) a.eval (fun _ _ => rfl) rfl (hK _ _ (Below.refl _ _) d)
            · as_aux_lemma =>
                clear hx hj
                intro a W vs hw hI hval hfr K hK
                have d := hval 24 _ 81 (by kernel_rfl) (by rfl) rfl
                clear hI hval hfr
                exact step_value (v := a.tmps.getD 81 undef) (w' := W) rfl (fun _ _ h => by cases h) a.eval (fun _ _ => rfl) rfl (hK _ _ (Below.refl _ _) d)
            intro vs W hw hI
            obtain ⟨c, n, ps, a, m, cp, e, hF, hPR⟩ := hI 20 (by decide)
            have e1 : vs 21 = .tuple #[.slice a m cp, .int .i64 n, .int .i64 c] := (hI 21 (by decide)).1.trans e
            have f0 : vs 22 = prj 0 (vs 21) := hI 22 (by decide)
            have f1 : vs 23 = prj 1 (vs 21) := hI 23 (by decide)
            have f2 : vs 24 = prj 2 (vs 21) := hI 24 (by decide)
            have E0 : vs 25 = .slice a m cp := (show vs 25 = vs 22 from hI 25 (by decide)).trans (by rw [f0, e1]; rfl)
            have E1 : vs 26 = .int .i64 n := (show vs 26 = vs 23 from hI 26 (by decide)).trans (by rw [f1, e1]; rfl)
            have E2 : vs 27 = .int .i64 c := (show vs 27 = vs 24 from hI 27 (by decide)).trans (by rw [f2, e1]; rfl)
            have HR : Hid ((∃ ps, F14 cP (ruleOf s rP cu) c n ps ∧ (c = 0 → ∃ base, PassRow W base (.slice a m cp) ps)) ∧ Ext (((wr.alloc (.cells (itc 5 0 ⟨#[]⟩ (.slice (some ⟨vg, 0, none⟩) kk VC) 0 0 false 0).toArray 24)).alloc (.cells (itc 2 0 nm nl 0 0 false 0).toArray 24)).alloc (.cells (itc 5 0 ⟨#[]⟩ (.slice (some ⟨vg, 0, none⟩) kk VC) 0 0 true 0).toArray 24)) W) := ⟨⟨ps, hF, hPR⟩, hw⟩
            clear hw hI hF hPR e e1 f0 f1 f2
            rw [putL_eq]
            simp only [putsL, List.set_cons_zero, List.set_cons_succ, E0, E1, E2]
            clear E0 E1 E2 HK HX HE HM
            go_wp2_with fail
            go_meet
            exact ⟨c, n, a, m, cp, rfl, rfl, rfl, HR.out⟩
          case rest =>
            obtain ⟨c1, n1, a1, m1, q1, rfl, rfl, rfl, HR1⟩ := hcut
            have hE1 := HR1.out.2
            have HX2 : Hid ((∀ W, Ext wc W → Tab W) ∧ (∀ W, Ext wc W → PRow W (.slice (some ⟨vg, 0, none⟩) kk VC) (rngs s)) ∧ s.length = kk) := ⟨fun W h => HX.out.1 W (Ext.trans hE1 h), fun W h => HX.out.2.1 W (Ext.trans hE1 h), HX.out.2.2.2⟩
            have HK2 : Hid (wc.heap[wr.heap.size]? = some (.cells (itc 5 0 ⟨#[]⟩ (.slice (some ⟨vg, 0, none⟩) kk VC) 0 0 false 0).toArray 24 (0, 0)) ∧ Below w.heap.size w wc) := ⟨(hE1.block _ (blk_lt HK.out.1)).trans HK.out.1, HK.out.2.2.2.trans (hE1.mono HK.out.2.2.2.size)⟩
            have HF1 : Hid (∃ ps, F14 cP (ruleOf s rP cu) c1 n1 ps ∧ (c1 = 0 → ∃ base, PassRow wc base (.slice a1 m1 q1) ps)) := HR1.out.1
            clear hE1 HX HK HR1
            have HX : Hid ((∀ W, Ext wc W → Tab W) ∧ (∀ W, Ext wc W → PRow W (.slice (some ⟨vg, 0, none⟩) kk VC) (rngs s)) ∧ s.length = kk) := HX2.out
            have HK : Hid (wc.heap[wr.heap.size]? = some (.cells (itc 5 0 ⟨#[]⟩ (.slice (some ⟨vg, 0, none⟩) kk VC) 0 0 false 0).toArray 24 (0, 0)) ∧ Below w.heap.size w wc) := HK2.out
            clear HX2 HK2
            go_upto_region 15 with fail
            go_cut [17, 18, 19] (fun s17 s18 s19 wx => ∃ c n a m cp, s17 = .slice a m cp ∧ s18 = .int .i64 n ∧ s19 = .int .i64 c ∧ Hid ((∃ ps, F15 cP (ruleOf s rP cu) c n ps ∧ (c = 0 → ∃ base, PassRow wx base (.slice a m cp) ps)) ∧ Ext wc wx))
            case first =>
              rename_i hbig Jx Kz hj hx
              clear hbig HF1
              refine wp_region_many (by kernel_rfl) (by kernel_rfl) (by kernel_rfl) (by kernel_rfl) (m15 (.slice (some ⟨vg, 0, none⟩) kk VC) s cu (F15 cP (ruleOf s rP cu))) (m15_ext _ _ _ _) (fun i o vs us w ho h hi => m15_V _ _ _ _ i vs us w (fun j hj => h j (hj.imp id (fun e => deps_of (d := D15) (by kernel_rfl) ho e))) hi) ⟨?_, ?_, ?_, ?_, ?_, ?_, ?_, ?_, ?_, ?_, ?_, ?_, ?_, ?_, ?_, ?_, ?_, ?_, trivial⟩ ?_
              · as_aux_lemma =>
                  clear hx hj
                  intro a W vs hw hI hval hfr K hK
                  have d : a.tmps.getD 11 undef = .pointer (some ⟨wr.heap.size, 0, none⟩) := hfr 11 (by kernel_rfl)
                  clear hI hval hfr
                  have hb : W.heap[wr.heap.size]? = some (.cells (itc 5 0 ⟨#[]⟩ (.slice (some ⟨vg, 0, none⟩) kk VC) 0 0 false 0).toArray 24 (0, 0)) := (hw.block _ (blk_lt HK.out.1)).trans HK.out.1
                  have c0 : W.cell? ⟨wr.heap.size, 0, none⟩ = some (.int .i64 5) := (cellB hb 0).trans rfl
                  have c1 : W.cell? ⟨wr.heap.size, 1, none⟩ = some (.int .i64 0) := (cellB hb 1).trans rfl
                  have c2 : W.cell? ⟨wr.heap.size, 2, none⟩ = some (.string ⟨#[]⟩) := (cellB hb 2).trans rfl
                  have c3 : W.cell? ⟨wr.heap.size, 3, none⟩ = some ((.slice (some ⟨vg, 0, none⟩) kk VC)) := (cellB hb 3).trans rfl
                  have c4 : W.cell? ⟨wr.heap.size, 4, none⟩ = some (.int .i64 0) := (cellB hb 4).trans rfl
                  have c5 : W.cell? ⟨wr.heap.size, 5, none⟩ = some (.int .i64 0) := (cellB hb 5).trans rfl
                  have c6 : W.cell? ⟨wr.heap.size, 6, none⟩ = some (.bool false) := (cellB hb 6).trans rfl
                  have c7 : W.cell? ⟨wr.heap.size, 7, none⟩ = some (.int .i64 0) := (cellB hb 7).trans rfl
                  clear hb hw HK HX HE
                  simp only [Array.getD_eq_getD_getElem?] at d
                  go_simp
                  exact hK _ _ (Below.refl _ _) rfl
              · as_aux_lemma =>
                  clear hx hj
                  intro a W vs hw hI hval hfr K hK
                  have d : a.tmps.getD 9 undef = (.slice (some ⟨vg, 0, none⟩) kk VC) := hfr 9 (by kernel_rfl)
                  clear hI hval hfr
                  exact step_value (v := (.slice (some ⟨vg, 0, none⟩) kk VC)) (w' := W) rfl (fun _ _ h => by cases h) (rho [(9, (.slice (some ⟨vg, 0, none⟩) kk VC))]) (rho_of (by intro p hm; simp only [List.mem_cons, List.not_mem_nil, or_false] at hm; rcases hm with rfl; exact d) (by kernel_rfl)) (by kernel_rfl) (hK _ _ (Below.refl _ _) rfl)
              · as_aux_lemma =>
                  clear hx hj
                  intro a W vs hw hI hval hfr K hK
                  have d : a.tmps.getD 3 undef = .int .i64 cu := hfr 3 (by kernel_rfl)
                  clear hI hval hfr
                  exact step_value (v := .int .i64 cu) (w' := W) rfl (fun _ _ h => by cases h) (rho [(3, .int .i64 cu)]) (rho_of (by intro p hm; simp only [List.mem_cons, List.not_mem_nil, or_false] at hm; rcases hm with rfl; exact d) (by kernel_rfl)) (by kernel_rfl) (hK _ _ (Below.refl _ _) rfl)
              · as_aux_lemma =>
                  clear hx hj
                  intro a W vs hw hI hval hfr K hK
                  have d1 : a.tmps.getD 83 undef = itv 5 0 ⟨#[]⟩ (.slice (some ⟨vg, 0, none⟩) kk VC) 0 0 false 0 := (hval 0 _ 83 (by kernel_rfl) (by rfl) rfl).trans (hI 0 (by kernel_rfl))
                  have d2 : a.tmps.getD 84 undef = (.slice (some ⟨vg, 0, none⟩) kk VC) := (hval 1 _ 84 (by kernel_rfl) (by rfl) rfl).trans (hI 1 (by kernel_rfl))
                  have d3 : a.tmps.getD 85 undef = .int .i64 cu := (hval 2 _ 85 (by kernel_rfl) (by rfl) rfl).trans (hI 2 (by kernel_rfl))
                  clear hI hval hfr
                  simp only [Array.getD_eq_getD_getElem?] at d1 d2 d3
                  go_simp
                  have hl5 : (rngs s).length = kk := by simp [rngs, HX.out.2.2]
                  have hL := line_any xS (some ⟨vg, 0, none⟩) kk VC (rngs s) (some ⟨vg, 0, none⟩) VC (rngs s) cu W (item_rngs rfl (show (⟨#[]⟩ : ByteArray).size ≤ 1 by decide) HX.out.2.2 hn5 (HX.out.2.1 W hw) ⟨_, _, rfl⟩) (by rw [hl5]; exact HX.out.2.1 W hw) (fun p hp => by
                      simp only [rngs, List.mem_map] at hp
                      obtain ⟨r, _, rfl⟩ := hp
                      exact ⟨show (6 : Int) ≠ 3 by decide, small_nm _ (show (⟨#[]⟩ : ByteArray).size ≤ 1 by decide), _, _, _, rfl⟩) (by omega)
                  rw [hl5] at hL
                  refine hL.mono ?_
                  rintro e w' ⟨lv, sv, xv, rfl, hL, hb⟩
                  exact hK _ _ hb ⟨lv, rfl, sv, xv, hL⟩
              · as_aux_lemma =>
                  clear hx hj
                  intro a W vs hw hI hval hfr K hK
                  clear hI hval hfr
                  refine step_line rfl _ rfl [(0, .int .i64 3)] ?_ (by intro p hm; simp only [List.mem_cons, List.not_mem_nil, or_false] at hm; rcases hm with rfl <;> exact ⟨by simp, rfl⟩) (hK _ _ (Below.refl _ _) rfl)
                  rw [Array.toList_map]
                  rfl
              · as_aux_lemma =>
                  clear hx hj
                  intro a W vs hw hI hval hfr K hK
                  have d : a.tmps.getD 11 undef = .pointer (some ⟨wr.heap.size, 0, none⟩) := hfr 11 (by kernel_rfl)
                  clear hI hval hfr
                  have hb : W.heap[wr.heap.size]? = some (.cells (itc 5 0 ⟨#[]⟩ (.slice (some ⟨vg, 0, none⟩) kk VC) 0 0 false 0).toArray 24 (0, 0)) := (hw.block _ (blk_lt HK.out.1)).trans HK.out.1
                  have c0 : W.cell? ⟨wr.heap.size, 0, none⟩ = some (.int .i64 5) := (cellB hb 0).trans rfl
                  have c1 : W.cell? ⟨wr.heap.size, 1, none⟩ = some (.int .i64 0) := (cellB hb 1).trans rfl
                  have c2 : W.cell? ⟨wr.heap.size, 2, none⟩ = some (.string ⟨#[]⟩) := (cellB hb 2).trans rfl
                  have c3 : W.cell? ⟨wr.heap.size, 3, none⟩ = some ((.slice (some ⟨vg, 0, none⟩) kk VC)) := (cellB hb 3).trans rfl
                  have c4 : W.cell? ⟨wr.heap.size, 4, none⟩ = some (.int .i64 0) := (cellB hb 4).trans rfl
                  have c5 : W.cell? ⟨wr.heap.size, 5, none⟩ = some (.int .i64 0) := (cellB hb 5).trans rfl
                  have c6 : W.cell? ⟨wr.heap.size, 6, none⟩ = some (.bool false) := (cellB hb 6).trans rfl
                  have c7 : W.cell? ⟨wr.heap.size, 7, none⟩ = some (.int .i64 0) := (cellB hb 7).trans rfl
                  clear hb hw HK HX HE
                  simp only [Array.getD_eq_getD_getElem?] at d
                  go_simp
                  exact hK _ _ (Below.refl _ _) rfl
              · as_aux_lemma =>
                  clear hx hj
                  intro a W vs hw hI hval hfr K hK
                  have d : a.tmps.getD 9 undef = (.slice (some ⟨vg, 0, none⟩) kk VC) := hfr 9 (by kernel_rfl)
                  clear hI hval hfr
                  exact step_value (v := (.slice (some ⟨vg, 0, none⟩) kk VC)) (w' := W) rfl (fun _ _ h => by cases h) (rho [(9, (.slice (some ⟨vg, 0, none⟩) kk VC))]) (rho_of (by intro p hm; simp only [List.mem_cons, List.not_mem_nil, or_false] at hm; rcases hm with rfl; exact d) (by kernel_rfl)) (by kernel_rfl) (hK _ _ (Below.refl _ _) rfl)
              · as_aux_lemma =>
                  clear hx hj
                  intro a W vs hw hI hval hfr K hK
                  have d : a.tmps.getD 3 undef = .int .i64 cu := hfr 3 (by kernel_rfl)
                  clear hI hval hfr
                  exact step_value (v := .int .i64 cu) (w' := W) rfl (fun _ _ h => by cases h) (rho [(3, .int .i64 cu)]) (rho_of (by intro p hm; simp only [List.mem_cons, List.not_mem_nil, or_false] at hm; rcases hm with rfl; exact d) (by kernel_rfl)) (by kernel_rfl) (hK _ _ (Below.refl _ _) rfl)
              · as_aux_lemma =>
                  clear hx hj
                  intro a W vs hw hI hval hfr K hK
                  have d1 : a.tmps.getD 88 undef = itv 5 0 ⟨#[]⟩ (.slice (some ⟨vg, 0, none⟩) kk VC) 0 0 false 0 := (hval 5 _ 88 (by kernel_rfl) (by rfl) rfl).trans (hI 5 (by kernel_rfl))
                  have d2 : a.tmps.getD 89 undef = (.slice (some ⟨vg, 0, none⟩) kk VC) := (hval 6 _ 89 (by kernel_rfl) (by rfl) rfl).trans (hI 6 (by kernel_rfl))
                  have d3 : a.tmps.getD 90 undef = .int .i64 cu := (hval 7 _ 90 (by kernel_rfl) (by rfl) rfl).trans (hI 7 (by kernel_rfl))
                  clear hI hval hfr
                  simp only [Array.getD_eq_getD_getElem?] at d1 d2 d3
                  go_simp
                  have hl5 : (rngs s).length = kk := by simp [rngs, HX.out.2.2]
                  have hL := line_any xS (some ⟨vg, 0, none⟩) kk VC (rngs s) (some ⟨vg, 0, none⟩) VC (rngs s) cu W (item_rngs rfl (show (⟨#[]⟩ : ByteArray).size ≤ 1 by decide) HX.out.2.2 hn5 (HX.out.2.1 W hw) ⟨_, _, rfl⟩) (by rw [hl5]; exact HX.out.2.1 W hw) (fun p hp => by
                      simp only [rngs, List.mem_map] at hp
                      obtain ⟨r, _, rfl⟩ := hp
                      exact ⟨show (6 : Int) ≠ 3 by decide, small_nm _ (show (⟨#[]⟩ : ByteArray).size ≤ 1 by decide), _, _, _, rfl⟩) (by omega)
                  rw [hl5] at hL
                  refine hL.mono ?_
                  rintro e w' ⟨lv, sv, xv, rfl, hL, hb⟩
                  exact hK _ _ hb ⟨lv, rfl, sv, xv, hL⟩
              · as_aux_lemma =>
                  clear hx hj
                  intro a W vs hw hI hval hfr K hK
                  obtain ⟨lv1, e3, h3⟩ := hI 3 (by kernel_rfl)
                  have d3 := (hval 3 _ 86 (by kernel_rfl) (by rfl) rfl).trans e3
                  have d4 : a.tmps.getD 87 undef = lnv 3 0 ⟨#[]⟩ false false nl nl nl nl 0 := (hval 4 _ 87 (by kernel_rfl) (by rfl) rfl).trans (hI 4 (by kernel_rfl))
                  obtain ⟨lv2, e5, h5⟩ := hI 8 (by kernel_rfl)
                  have d5 := (hval 8 _ 91 (by kernel_rfl) (by rfl) rfl).trans e5
                  clear hI hval hfr
                  refine step_slice rfl 55 53 3 _ rfl 10 Tryd.underlying55 (by kernel_rfl) (by kernel_rfl) (by decide) [lv1.val, lnv 3 0 ⟨#[]⟩ false false nl nl nl nl 0, lv2.val] ?_ (by intro v hm; simp only [List.mem_cons, List.not_mem_nil, or_false] at hm; rcases hm with rfl | rfl | rfl <;> rfl) rfl (by decide) (by decide) (hK _ _ (Ext_alloc _ _) ⟨lv1, lv2, ⟨W.heap.size, rfl, blk_new rfl⟩, h3.ext (Ext_alloc _ _), h5.ext (Ext_alloc _ _)⟩)
                  rw [Array.toList_map]
                  show [(0, a.tmps.getD 86 undef), (1, a.tmps.getD 87 undef), (2, a.tmps.getD 91 undef)] = _
                  rw [d3, d4, d5]
                  rfl
              · as_aux_lemma =>
                  clear hx hj
                  intro a W vs hw hI hval hfr K hK
                  obtain ⟨lv1, lv2, ⟨g, e, hb⟩, h3, h4⟩ := hI 9 (by kernel_rfl)
                  have d := (hval 9 _ 92 (by kernel_rfl) (by rfl) rfl).trans e
                  clear hI hval hfr
                  simp only [Array.getD_eq_getD_getElem?] at d
                  go_simp
                  refine (passes15 (s := s) (cP := cP) (rP := rP) (HX.out.1 W hw) HE.out.1 HM.out hb h3 h4).mono ?_
                  rintro e w' ⟨v, rfl, hA, hb'⟩
                  exact hK _ _ hb' hA
              · as_aux_lemma =>
                  clear hx hj
                  intro a W vs hw hI hval hfr K hK
                  have hA := hI 10 (by kernel_rfl)
                  have d := hval 10 _ 93 (by kernel_rfl) (by rfl) rfl
                  clear hI hval hfr
                  obtain ⟨_, _, _, _, _, _, e, _⟩ := hA
                  exact step_value (v := a.tmps.getD 93 undef) (w' := W) rfl (fun _ _ h => by cases h) a.eval (fun _ _ => rfl) rfl (hK _ _ (Below.refl _ _) ⟨d, _, _, _, d.trans e⟩)
              · as_aux_lemma =>
                  clear hx hj
                  intro a W vs hw hI hval hfr K hK
                  obtain ⟨_, x, y, z, e⟩ := hI 11 (by kernel_rfl)
                  have d := (hval 11 _ 82 (by kernel_rfl) (by rfl) rfl).trans e
                  clear hI hval hfr
                  exact step_value (v := x) (w' := W) rfl (fun _ _ h => by cases h) (rho [(82, .tuple #[x, y, z])]) (rho_of (by intro p hm; simp only [List.mem_cons, List.not_mem_nil, or_false] at hm; rcases hm with rfl; exact d) (by kernel_rfl)) (by kernel_rfl) (hK _ _ (Below.refl _ _) (show x = prj 0 (vs 11) by rw [e]; rfl))
              · as_aux_lemma =>
                  clear hx hj
                  intro a W vs hw hI hval hfr K hK
                  obtain ⟨_, x, y, z, e⟩ := hI 11 (by kernel_rfl)
                  have d := (hval 11 _ 82 (by kernel_rfl) (by rfl) rfl).trans e
                  clear hI hval hfr
                  exact step_value (v := y) (w' := W) rfl (fun _ _ h => by cases h) (rho [(82, .tuple #[x, y, z])]) (rho_of (by intro p hm; simp only [List.mem_cons, List.not_mem_nil, or_false] at hm; rcases hm with rfl; exact d) (by kernel_rfl)) (by kernel_rfl) (hK _ _ (Below.refl _ _) (show y = prj 1 (vs 11) by rw [e]; rfl))
              · as_aux_lemma =>
                  clear hx hj
                  intro a W vs hw hI hval hfr K hK
                  obtain ⟨_, x, y, z, e⟩ := hI 11 (by kernel_rfl)
                  have d := (hval 11 _ 82 (by kernel_rfl) (by rfl) rfl).trans e
                  clear hI hval hfr
                  exact step_value (v := z) (w' := W) rfl (fun _ _ h => by cases h) (rho [(82, .tuple #[x, y, z])]) (rho_of (by intro p hm; simp only [List.mem_cons, List.not_mem_nil, or_false] at hm; rcases hm with rfl; exact d) (by kernel_rfl)) (by kernel_rfl) (hK _ _ (Below.refl _ _) (show z = prj 2 (vs 11) by rw [e]; rfl))
              · as_aux_lemma =>
                  clear hx hj
                  intro a W vs hw hI hval hfr K hK
                  have d := hval 12 _ 94 (by kernel_rfl) (by rfl) rfl
                  clear hI hval hfr
                  exact step_value (v := a.tmps.getD 94 undef) (w' := W) rfl (fun _ _ h => by cases h) a.eval (fun _ _ => rfl) rfl (hK _ _ (Below.refl _ _) d)
              · as_aux_lemma =>
                  clear hx hj
                  intro a W vs hw hI hval hfr K hK
                  have d := hval 13 _ 95 (by kernel_rfl) (by rfl) rfl
                  clear hI hval hfr
                  exact step_value (v := a.tmps.getD 95 undef) (w' := W) rfl (fun _ _ h => by cases h) a.eval (fun _ _ => rfl) rfl (hK _ _ (Below.refl _ _) d)
              · as_aux_lemma =>
                  clear hx hj
                  intro a W vs hw hI hval hfr K hK
                  have d := hval 14 _ 96 (by kernel_rfl) (by rfl) rfl
                  clear hI hval hfr
                  exact step_value (v := a.tmps.getD 96 undef) (w' := W) rfl (fun _ _ h => by cases h) a.eval (fun _ _ => rfl) rfl (hK _ _ (Below.refl _ _) d)
              intro vs W hw hI
              obtain ⟨c, n, ps, a, m, cp, e, hF, hPR⟩ := hI 10 (by decide)
              have e1 : vs 11 = .tuple #[.slice a m cp, .int .i64 n, .int .i64 c] := (hI 11 (by decide)).1.trans e
              have f0 : vs 12 = prj 0 (vs 11) := hI 12 (by decide)
              have f1 : vs 13 = prj 1 (vs 11) := hI 13 (by decide)
              have f2 : vs 14 = prj 2 (vs 11) := hI 14 (by decide)
              have E0 : vs 15 = .slice a m cp := (show vs 15 = vs 12 from hI 15 (by decide)).trans (by rw [f0, e1]; rfl)
              have E1 : vs 16 = .int .i64 n := (show vs 16 = vs 13 from hI 16 (by decide)).trans (by rw [f1, e1]; rfl)
              have E2 : vs 17 = .int .i64 c := (show vs 17 = vs 14 from hI 17 (by decide)).trans (by rw [f2, e1]; rfl)
              have HR : Hid ((∃ ps, F15 cP (ruleOf s rP cu) c n ps ∧ (c = 0 → ∃ base, PassRow W base (.slice a m cp) ps)) ∧ Ext wc W) := ⟨⟨ps, hF, hPR⟩, hw⟩
              clear hw hI hF hPR e e1 f0 f1 f2
              rw [putL_eq]
              simp only [putsL, List.set_cons_zero, List.set_cons_succ, E0, E1, E2]
              clear E0 E1 E2 HK HX HE HM
              go_wp2_with fail
              go_meet
              exact ⟨c, n, a, m, cp, rfl, rfl, rfl, HR.out⟩
            case rest =>
              obtain ⟨c2, n2, a2, m2, q2, rfl, rfl, rfl, HR2⟩ := hcut
              obtain ⟨⟨ps2, hF2, hP2⟩, hE2⟩ := HR2.out
              obtain ⟨ps1, hF1, hP1⟩ := HF1.out
              have HBd : Hid (Below w.heap.size w wc) := HK.out.2.trans (hE2.mono HK.out.2.size)
              rcases hF2 with ⟨hc0, rfl, rfl, rfl⟩ | ⟨hcP, rfl, rfl⟩
              · rcases hF1 with ⟨_, rfl, rfl, rfl⟩ | ⟨rfl, rfl⟩ | ⟨hc21, _⟩
                · obtain ⟨b1, hp1⟩ := hP1 rfl
                  obtain ⟨b2, hp2⟩ := hP2 rfl
                  have hp1' := hp1.kt (KT.below hE2) (KT.below hE2) (KT.below hE2) (KT.below hE2) (KT.below hE2)
                  obtain ⟨pg, rg, rc, kg, kc, sa, sn, sc', rfl, rfl, ff, hRs⟩ := first_facts hp1'
                  have hlen := ((validB_iff s).1 HE.out.1).1
                  have hsm : Small (ruleOf s rP cu) := rule_small hlen (HM.out.len hc0)
                  have HS19 : Hid (Calls Tryd.prog 19 #[.slice (some ⟨pg, 0, none⟩) 2 q1, .slice a2 m2 q2] wc fun e w' => e = .returned (.bool true) ∧ Below wc.heap.size wc w') := passes_same _ _ _ b1 b2 wc (by simp) (fun q hq => by
                    simp only [List.mem_cons, List.not_mem_nil, or_false, or_self] at hq
                    rw [hq]
                    exact ⟨by simp, fun r hr => by
                      obtain rfl : r = ruleOf s rP cu := by simpa using hr
                      exact hsm⟩) hp1' hp2
                  have HFF : Hid (∀ W, Below wc.heap.size wc W → (W.cell? ⟨pg, 0, none⟩ = some (.slice (some ⟨rg, 0, none⟩) 1 rc) ∧ W.cell? ⟨rg, 2, none⟩ = some (.slice (some ⟨kg, 0, none⟩) 2 kc) ∧ W.cell? ⟨kg, 0, none⟩ = some (.slice sa sn sc') ∧ W.cell? ⟨rg, 6, none⟩ = some (.int .i64 cu)) ∧ Calls Tryd.prog 11 #[.slice sa sn sc', .slice SA kk sc] W fun e w' => e = .returned (.bool true) ∧ Below W.heap.size W w') := fun W hW => ⟨⟨(hW.cell (cell_lt ff.1)).trans ff.1, (hW.cell (cell_lt ff.2.1)).trans ff.2.1, (hW.cell (cell_lt ff.2.2.1)).trans ff.2.2.1, (hW.cell (cell_lt ff.2.2.2)).trans ff.2.2.2⟩, (same_any _ _ s W hlen (hRs.below hW (Nat.le_refl _)) (HR0.out W (HBd.out.trans (hW.mono HBd.out.size)))).mono (fun e w' ⟨h1, h2⟩ => ⟨h1, h2.below⟩)⟩
                  clear hp1 hp2 hp1' hP1 hP2 ff hRs hlen hsm hE2 HR2 HF1 HX HK HM HE
                  go_wp2_with fail
                  refine HS19.out.mono ?_
                  rintro e w5 ⟨rfl, hb5⟩
                  obtain ⟨⟨g1, g2, g3, g4⟩, hsame⟩ := HFF.out w5 hb5
                  have HSm : Hid (Calls Tryd.prog 11 #[.slice sa sn sc', .slice SA kk sc] w5 fun e w' => e = .returned (.bool true) ∧ Below w5.heap.size w5 w') := hsame
                  have HB5 : Hid (Below wc.heap.size wc w5) := hb5
                  clear hsame hb5
                  go_wp2_with fail
                  refine HSm.out.mono ?_
                  rintro e w6 ⟨rfl, hb6⟩
                  have HB6 : Hid (Below wc.heap.size wc w6) := HB5.out.trans (hb6.mono HB5.out.size)
                  clear g1 g2 g3 g4 hb6
                  obtain ⟨⟨g1, g2, g3, g4⟩, _⟩ := HFF.out w6 HB6.out
                  go_wp2
                  exact bodyPost_ret (v := .bool true) (by simp [results, Tryd.f4, go_sem]) rfl ⟨rfl, HBd.out.trans (HB6.out.mono HBd.out.size)⟩
                · clear hP1 hP2 hE2 HR2 HF1 HX HK HM HE
                  go_wp2
                  exact bodyPost_ret (v := .bool true) (by simp [results, Tryd.f4, go_sem]) rfl ⟨rfl, HBd.out⟩
                · exact absurd (hc0.symm.trans hc21) (by decide)
              · have h21 : c2 = 21 := by
                  rcases HM.out.two with h | h
                  · exact absurd h hcP
                  · exact h
                subst h21
                rcases hF1 with ⟨h0, _⟩ | ⟨rfl, rfl⟩ | ⟨_, rfl, rfl⟩
                · exact absurd h0 hcP
                · clear hP1 hP2 hE2 HR2 HF1 HX HK HM HE hcP
                  go_wp2
                  exact bodyPost_ret (v := .bool true) (by simp [results, Tryd.f4, go_sem]) rfl ⟨rfl, HBd.out⟩
                · clear hP1 hP2 hE2 HR2 HF1 HX HK HM HE hcP
                  go_wp2
                  exact bodyPost_ret (v := .bool true) (by simp [results, Tryd.f4, go_sem]) rfl ⟨rfl, HBd.out⟩
end Go.Proofs
