/-
  An atom ends, and another begins.
-/
import Derived.RangeFuncNested
import Derived.RangeFuncBound
import Derived.RangeFuncCalls
import Derived.RangeFuncLeaves
import Derived.Shelf.Abstract
import Derived.Shelf.RegionOpen
import Derived.WalkKit
import Derived.WalkSpells
import Derived.WalkLawsBesides
import Derived.OwnWalkIn
import Derived.TacticsInMore
import Derived.LoopNIn
import Derived.LoopIn
import Derived.BigQuiet
import Derived.RegionIn
import Derived.Deep.QuietTactic
import Derived.Deep.RegionWith
import Derived.Lib.OthersKept
import Derived.Maps.AppendAt
import Derived.Lib.SmallJoins
import Derived.Shelf.SlSortCmp.QuietGrown
import Derived.Test.YtjjkomaokgmkhaaDoorLdn
namespace Go.Proofs
open Go.RowKit Go.Shelf

set_option maxRecDepth 100000
attribute [local go_sem] Oper.semAt_some
attribute [local go_sem ↓] Go.wp_at_zero Go.wp_at_succ
def val38 (B pb pn pc e sb m sc : Nat) (va : Option Addr) (vn vc : Nat) (a0 at' : Int) : Nat → Option Value
  | 0 => some (.pointer (some ⟨B, 0, none⟩))
  | 1 => some (.pointer (some ⟨B, 0, none⟩))
  | 2 => some (.pointer (some ⟨B, 3, none⟩))
  | 3 => some (.slice (some ⟨pb, 0, none⟩) pn pc)
  | 4 => some (.int .i64 (e : Int))
  | 5 => some (.pointer (some ⟨B, 0, none⟩))
  | 6 => some (.pointer (some ⟨B, 0, none⟩))
  | 7 => some (.pointer (some ⟨B, 3, none⟩))
  | 8 => some (.slice (some ⟨pb, 0, none⟩) pn pc)
  | 9 => some (.int .i64 (e : Int))
  | 10 => some (.pointer (some ⟨pb, e, none⟩))
  | 11 => some (.slice va vn vc)
  | 12 => some (.pointer (some ⟨B, 0, none⟩))
  | 13 => some (.pointer (some ⟨B, 0, none⟩))
  | 14 => some (.pointer (some ⟨B, 1, none⟩))
  | 15 => some (.slice (some ⟨sb, 0, none⟩) (m + 1) sc)
  | 16 => some (.int .i64 (m : Int))
  | 17 => some (.pointer (some ⟨sb, m, none⟩))
  | 18 => some (.int .i64 a0)
  | 19 => some (.int .i64 at')
  | 20 => some (.int .i64 (at' - 1))
  | 21 => some (.agg #[.int .i64 a0, .int .i64 (at' - 1)])
  | 24 => some (.pointer (some ⟨pb, e, none⟩))
  | _ => none

def E38 (a b : Int) : Nat → Value → World → Prop
  | 22, v, W => ∃ g, v = .slice (some ⟨g, 0, none⟩) 1 1 ∧ W.heap[g]? = some (.cells #[.int .i64 a, .int .i64 b] 29 (0, 0))
  | _, _, _ => True
theorem E38s {a b : Int} : ∀ i v W W', E38 a b i v W → Grown W W' → E38 a b i v W' := fun i v W W' h hg => by
  unfold E38 at h ⊢
  split
  · obtain ⟨g, h1, h2⟩ := h
    exact ⟨g, h1, (hg.below.block _ (blk_lt h2)).trans h2⟩
  · trivial
def PA38 (X : World) (base : Nat) (uv : Value) (vn : Nat) (l : List (Int × Int)) (a b : Int) (v : Value) (W : World) : Prop := ∃ W3, Grown X W3 ∧ W.ownsRow base 29 2 v (vn + 1) (fl l ++ [.int .i64 a, .int .i64 b]) ∧ W3.grownBy W uv.ownBlock ∧ Loc W3 uv v
theorem own_rs {w : World} {base vn : Nat} {v : Value} {l : List (Int × Int)} {a b : Int} (h : w.ownsRow base 29 2 v (vn + 1) (fl l ++ [.int .i64 a, .int .i64 b])) (hn : l.length = vn) : OwnR w base v (l ++ [(a, b)]) := by
  unfold OwnR
  rw [List.length_append, hn, show fl (l ++ [(a, b)]) = fl l ++ [.int .i64 a, .int .i64 b] by simp [fl]]
  exact h
set_option maxHeartbeats 4000000 in
theorem begin_in {w : World} {base B : Nat} {pv wv mv : Value} {sa ba : Option Addr} {sn sc bn bc : Nat} {n mh : Nat} {st bg : List Int} {sps : List (Value × List (Int × Int))} {wh : List Nat} (h : TT w base B (.slice sa sn sc) (.slice ba bn bc) pv wv mv n mh st bg sps wh) (at' atom : Int) {m : Nat} (h0 : st.length = m + 1) (hbn : bg.length = m + 1) (hm : m ≤ 1000000000000) (hat' : 0 ≤ at' ∧ at' ≤ 1114368) {e : Nat} (hl : bg.getLast? = some (e : Int)) {v : Value} {l : List (Int × Int)} (hv : sps[e]? = some (v, l)) (hll : l.length ≤ 1000000000000) (hsl : sps.length ≤ 1000000000000) : Calls Tryd.prog 38 #[.pointer (some ⟨B, 0, none⟩), .int .i64 at', .int .i64 atom] w fun e w' => e = .returned (.tuple #[]) ∧ Hid (BQ w base B (.slice sa sn sc) (.slice ba bn bc) pv wv mv n mh st bg sps wh at' atom w') := by
  obtain ⟨bb, cur, hba, hbn2, _, hcu, _, _, _, hat⟩ := own_cells h.b (fun e => by rw [e] at hbn; simp at hbn)
  obtain ⟨sb, cur2, hsa, hsn2, _, hcu2, _, _, _, hat2⟩ := own_cells h.s (fun e => by rw [e] at h0; simp at h0)
  have hbn3 : bn = m + 1 := by omega
  have hsn : sn = m + 1 := by omega
  subst hsn
  subst hbn3
  subst hba
  subst hsa
  obtain ⟨hel, hev⟩ := List.getElem?_eq_some_iff.1 hv
  obtain ⟨va, vc, hvv⟩ := own_len (h.r _ (List.mem_of_getElem? hv))
  obtain ⟨vn, hvn⟩ : ∃ vn, l.length = vn := ⟨_, rfl⟩
  simp only [hvn] at hvv
  subst hvv
  obtain ⟨pb, pc, hpv, hpc⟩ : ∃ pb pc, pv = .slice (some ⟨pb, 0, none⟩) sps.length pc ∧ w.cell? ⟨pb, e, none⟩ = some (.slice va vn vc) := by
    rcases h.p.2 with ⟨_, e0⟩ | ⟨g, cap, cu, e1, _, hg, hc, _, hs, ht⟩
    · omega
    · refine ⟨g, cap, e1, heap_cellv hg ?_⟩
      have h1 : (sps.map Prod.fst)[e]? = some (.slice va vn vc) := by rw [List.getElem?_map, hv]; rfl
      rw [← ht, List.getElem?_take, if_pos (by omega), Array.getElem?_toList] at h1
      exact h1
  subst hpv
  obtain ⟨a0, ha0⟩ : ∃ a0, st.getLast? = some a0 := by
    cases e1 : st.getLast? with
    | none => rw [List.getLast?_eq_none_iff] at e1; rw [e1] at h0; simp at h0
    | some a0 => exact ⟨a0, rfl⟩
  have HT := Hid.mk' h
  have HV := Hid.mk' hv
  have HVN := Hid.mk' hvn
  have HOV : Hid (w.ownsRow base 29 2 (.slice va vn vc) vn (fl l)) := by have := h.r _ (List.mem_of_getElem? hv); unfold OwnR at this; simp only [hvn] at this; exact this
  have HEE : Hid (endA st bg at' (sps.map Prod.snd) = (sps.map Prod.snd).set e (l ++ [(a0, at' - 1)])) := by
    show _ = _
    unfold endA
    rw [hl, ha0]
    simp only
    rw [if_neg (by omega), Int.toNat_natCast]
    apply List.ext_getElem?
    intro i
    rw [List.getElem?_modify, List.getElem?_set]
    by_cases ei : e = i
    · subst ei
      rw [if_pos rfl, if_pos (by simpa using hel), List.getElem?_map, hv]
      simp
    · simp [ei]
  obtain ⟨pn, hpn⟩ : ∃ pn, sps.length = pn := ⟨_, rfl⟩
  have c1 : w.cell? ⟨B, 1, none⟩ = some (.slice (some ⟨sb, 0, none⟩) (m + 1) sc) := heap_cellv h.blk rfl
  have c2 : w.cell? ⟨B, 2, none⟩ = some (.slice (some ⟨bb, 0, none⟩) (m + 1) bc) := heap_cellv h.blk rfl
  have c3 : w.cell? ⟨B, 3, none⟩ = some (.slice (some ⟨pb, 0, none⟩) pn pc) := by rw [← hpn]; exact heap_cellv h.blk rfl
  have cv := hpc
  have cb : w.cell? ⟨bb, m, none⟩ = some (.int .i64 (e : Int)) := heap_cellv hcu (by rw [hat m (by omega), last_at hbn hl])
  have cs : w.cell? ⟨sb, m, none⟩ = some (.int .i64 a0) := heap_cellv hcu2 (by rw [hat2 m (by omega), last_at h0 ha0])
  have hbz : base ≤ w.heap.size := by have := h.tb; have := blk_lt h.blk; omega
  have hmI : (m : Int) ≤ 1000000000000 := by omega
  have heI : ¬ (e : Int) = -1 := by omega
  have heI2 : (e : Int) ≤ 1000000000000 := by omega
  have hep : e < pn := by omega
  have hvl : vn ≤ 1000000000000 := by omega
  have hst : st.length ≤ 1000000000001 := by omega
  have hbgl : bg.length ≤ 1000000000001 := by omega
  have HW : Hid (IntKind.i64.wrap (at' - 1) = at' - 1) := IntWalk.i64_in _ (by omega)
  clear h h0 hbn hl hcu hat hcu2 hat2 hbn2 hsn2 hpc hev hel hvn ha0 hpn hll hv
  go_enter Tryd.func38, Tryd.ntmps38
  go_wp2
  refine wp_region_clo mixed (by kernel_rfl) (by kernel_rfl) (by kernel_rfl) (JA w (val38 B pb pn pc e sb m sc va vn vc a0 at') (E38 a0 (at' - 1)) 23 25 (PA38 w base (.slice va vn vc) vn l a0 (at' - 1)) (fun W => ∃ v', TT W base B (.slice (some ⟨sb, 0, none⟩) (m + 1) sc) (.slice (some ⟨bb, 0, none⟩) (m + 1) bc) (.slice (some ⟨pb, 0, none⟩) sps.length pc) wv mv n mh st bg (sps.set e (v', l ++ [(a0, at' - 1)])) wh ∧ Fr w W (fun k => k = pb ∨ (Value.slice va vn vc).ownBlock = some k) ∧ Loc w (.slice va vn vc) v')) JA.start ⟨?_, ?_, ?_, ?_, ?_, ?_, ?_, ?_, ?_, ?_, ?_, ?_, ?_, ?_, ?_, ?_, ?_, ?_, ?_, ?_, ?_, ?_, ?_, ?_, ?_, ?_, trivial⟩ ?_
  · as_aux_lemma =>
      intro aA wx p vs hJ hdep hpi hcl hval hfr K hK
      rw [if_pos (show Region.wanted _ _ = true from rfl)]
      have zd0 : aA.tmps.getD 0 undef = .pointer (some ⟨B, 0, none⟩) := hfr 0 (by kernel_rfl)
      have hJ' := hJ.pure 0 (by decide) (by decide) rfl (fun _ _ => trivial)
      clear hval hfr hdep hJ hcl
      simp only [Array.getD_eq_getD_getElem?] at zd0
      go_simp
      exact hK _ _ hJ'
  · as_aux_lemma =>
      intro aA wx p vs hJ hdep hpi hcl hval hfr K hK
      rw [if_pos (show Region.wanted _ _ = true from rfl)]
      have zd0 : aA.tmps.getD 33 undef = .pointer (some ⟨B, 0, none⟩) := (hval 0 _ 33 (hdep 0 (by kernel_rfl)) (by rfl) rfl).trans (hJ.v 0 _ rfl (hdep 0 (by kernel_rfl)))
      have hJ' := hJ.pure 1 (by decide) (by decide) rfl (fun _ _ => trivial)
      clear hval hfr hdep hJ hcl
      simp only [Array.getD_eq_getD_getElem?] at zd0
      go_simp
      exact hK _ _ hJ'
  · as_aux_lemma =>
      intro aA wx p vs hJ hdep hpi hcl hval hfr K hK
      rw [if_pos (show Region.wanted _ _ = true from rfl)]
      have zd0 : aA.tmps.getD 34 undef = .pointer (some ⟨B, 0, none⟩) := (hval 1 _ 34 (hdep 1 (by kernel_rfl)) (by rfl) rfl).trans (hJ.v 1 _ rfl (hdep 1 (by kernel_rfl)))
      have hJ' := hJ.pure 2 (by decide) (by decide) rfl (fun _ _ => trivial)
      clear hval hfr hdep hJ hcl
      simp only [Array.getD_eq_getD_getElem?] at zd0
      go_simp
      exact hK _ _ hJ'
  · as_aux_lemma =>
      intro aA wx p vs hJ hdep hpi hcl hval hfr K hK
      rw [if_pos (show Region.wanted _ _ = true from rfl)]
      have hnS : p 25 = false := by
        cases e : p 25 with
        | false => rfl
        | true =>
          have z0 := hcl 25 _ (by rfl) e 3 (by kernel_rfl)
          rw [hpi] at z0; cases z0
      have zd0 : aA.tmps.getD 35 undef = .pointer (some ⟨B, 3, none⟩) := (hval 2 _ 35 (hdep 2 (by kernel_rfl)) (by rfl) rfl).trans (hJ.v 2 _ rfl (hdep 2 (by kernel_rfl)))
      have cc : wx.cell? ⟨B, 3, none⟩ = some (.slice (some ⟨pb, 0, none⟩) pn pc) := by
        cases hA : p 23 with
        | false => exact (hJ.g hA hnS).cellv c3
        | true =>
          obtain ⟨w3, hg3, _, hap, _⟩ := hJ.a hA hnS
          rw [cell_fr ((fr_grown hg3 _).trans (fr_by hap) fun _ _ e => e) (blk_lt HT.out.blk) (own_not (HT.out.r _ (List.mem_of_getElem? HV.out)) HT.out.blk (by decide))]
          exact c3
      have HJ := Hid.mk' hJ
      clear hval hfr hdep hJ hcl
      simp only [Array.getD_eq_getD_getElem?] at zd0
      go_simp
      exact hK _ _ (HJ.out.pure 3 (by decide) (by decide) rfl (fun _ _ => trivial))
  · as_aux_lemma =>
      intro aA wx p vs hJ hdep hpi hcl hval hfr K hK
      rw [if_pos (show Region.wanted _ _ = true from rfl)]
      have zd0 : aA.tmps.getD 7 undef = .int .i64 (e : Int) := hfr 7 (by kernel_rfl)
      have hJ' := hJ.pure 4 (by decide) (by decide) rfl (fun _ _ => trivial)
      clear hval hfr hdep hJ hcl
      simp only [Array.getD_eq_getD_getElem?] at zd0
      go_simp
      exact hK _ _ hJ'
  · as_aux_lemma =>
      intro aA wx p vs hJ hdep hpi hcl hval hfr K hK
      rw [if_pos (show Region.wanted _ _ = true from rfl)]
      have zd0 : aA.tmps.getD 0 undef = .pointer (some ⟨B, 0, none⟩) := hfr 0 (by kernel_rfl)
      have hJ' := hJ.pure 5 (by decide) (by decide) rfl (fun _ _ => trivial)
      clear hval hfr hdep hJ hcl
      simp only [Array.getD_eq_getD_getElem?] at zd0
      go_simp
      exact hK _ _ hJ'
  · as_aux_lemma =>
      intro aA wx p vs hJ hdep hpi hcl hval hfr K hK
      rw [if_pos (show Region.wanted _ _ = true from rfl)]
      have zd0 : aA.tmps.getD 38 undef = .pointer (some ⟨B, 0, none⟩) := (hval 5 _ 38 (hdep 5 (by kernel_rfl)) (by rfl) rfl).trans (hJ.v 5 _ rfl (hdep 5 (by kernel_rfl)))
      have hJ' := hJ.pure 6 (by decide) (by decide) rfl (fun _ _ => trivial)
      clear hval hfr hdep hJ hcl
      simp only [Array.getD_eq_getD_getElem?] at zd0
      go_simp
      exact hK _ _ hJ'
  · as_aux_lemma =>
      intro aA wx p vs hJ hdep hpi hcl hval hfr K hK
      rw [if_pos (show Region.wanted _ _ = true from rfl)]
      have zd0 : aA.tmps.getD 39 undef = .pointer (some ⟨B, 0, none⟩) := (hval 6 _ 39 (hdep 6 (by kernel_rfl)) (by rfl) rfl).trans (hJ.v 6 _ rfl (hdep 6 (by kernel_rfl)))
      have hJ' := hJ.pure 7 (by decide) (by decide) rfl (fun _ _ => trivial)
      clear hval hfr hdep hJ hcl
      simp only [Array.getD_eq_getD_getElem?] at zd0
      go_simp
      exact hK _ _ hJ'
  · as_aux_lemma =>
      intro aA wx p vs hJ hdep hpi hcl hval hfr K hK
      rw [if_pos (show Region.wanted _ _ = true from rfl)]
      have hnA : p 23 = false := by
        cases e : p 23 with
        | false => rfl
        | true =>
          have z0 := hcl 23 _ (by rfl) e 11 (by kernel_rfl)
          have z1 := hcl 11 _ (by rfl) z0 10 (by kernel_rfl)
          have z2 := hcl 10 _ (by rfl) z1 8 (by kernel_rfl)
          rw [hpi] at z2; cases z2
      have hnS : p 25 = false := by
        cases e : p 25 with
        | false => rfl
        | true =>
          have z0 := hcl 25 _ (by rfl) e 8 (by kernel_rfl)
          rw [hpi] at z0; cases z0
      have zd0 : aA.tmps.getD 40 undef = .pointer (some ⟨B, 3, none⟩) := (hval 7 _ 40 (hdep 7 (by kernel_rfl)) (by rfl) rfl).trans (hJ.v 7 _ rfl (hdep 7 (by kernel_rfl)))
      have hgx := hJ.g hnA hnS
      have cc := hgx.cellv c3
      have hJ' := hJ.pure 8 (by decide) (by decide) rfl (fun _ _ => trivial)
      clear hval hfr hdep hJ hcl
      simp only [Array.getD_eq_getD_getElem?] at zd0
      go_simp
      exact hK _ _ hJ'
  · as_aux_lemma =>
      intro aA wx p vs hJ hdep hpi hcl hval hfr K hK
      rw [if_pos (show Region.wanted _ _ = true from rfl)]
      have zd0 : aA.tmps.getD 7 undef = .int .i64 (e : Int) := hfr 7 (by kernel_rfl)
      have hJ' := hJ.pure 9 (by decide) (by decide) rfl (fun _ _ => trivial)
      clear hval hfr hdep hJ hcl
      simp only [Array.getD_eq_getD_getElem?] at zd0
      go_simp
      exact hK _ _ hJ'
  · as_aux_lemma =>
      intro aA wx p vs hJ hdep hpi hcl hval hfr K hK
      rw [if_pos (show Region.wanted _ _ = true from rfl)]
      have zd0 : aA.tmps.getD 41 undef = .slice (some ⟨pb, 0, none⟩) pn pc := (hval 8 _ 41 (hdep 8 (by kernel_rfl)) (by rfl) rfl).trans (hJ.v 8 _ rfl (hdep 8 (by kernel_rfl)))
      have zd1 : aA.tmps.getD 42 undef = .int .i64 (e : Int) := (hval 9 _ 42 (hdep 9 (by kernel_rfl)) (by rfl) rfl).trans (hJ.v 9 _ rfl (hdep 9 (by kernel_rfl)))
      have hJ' := hJ.pure 10 (by decide) (by decide) rfl (fun _ _ => trivial)
      clear hval hfr hdep hJ hcl
      simp only [Array.getD_eq_getD_getElem?] at zd0 zd1
      go_simp
      exact hK _ _ hJ'
  · as_aux_lemma =>
      intro aA wx p vs hJ hdep hpi hcl hval hfr K hK
      rw [if_pos (show Region.wanted _ _ = true from rfl)]
      have hnA : p 23 = false := by
        cases e : p 23 with
        | false => rfl
        | true =>
          have z0 := hcl 23 _ (by rfl) e 11 (by kernel_rfl)
          rw [hpi] at z0; cases z0
      have hnS : p 25 = false := by
        cases e : p 25 with
        | false => rfl
        | true =>
          have z0 := hcl 25 _ (by rfl) e 11 (by kernel_rfl)
          rw [hpi] at z0; cases z0
      have zd0 : aA.tmps.getD 43 undef = .pointer (some ⟨pb, e, none⟩) := (hval 10 _ 43 (hdep 10 (by kernel_rfl)) (by rfl) rfl).trans (hJ.v 10 _ rfl (hdep 10 (by kernel_rfl)))
      have cc := (hJ.g hnA hnS).cellv cv
      have HJ := Hid.mk' hJ
      clear hval hfr hdep hJ hcl
      simp only [Array.getD_eq_getD_getElem?] at zd0
      go_simp
      exact hK _ _ (HJ.out.pure 11 (by decide) (by decide) rfl (fun _ _ => trivial))
  · as_aux_lemma =>
      intro aA wx p vs hJ hdep hpi hcl hval hfr K hK
      rw [if_pos (show Region.wanted _ _ = true from rfl)]
      have zd0 : aA.tmps.getD 0 undef = .pointer (some ⟨B, 0, none⟩) := hfr 0 (by kernel_rfl)
      have hJ' := hJ.pure 12 (by decide) (by decide) rfl (fun _ _ => trivial)
      clear hval hfr hdep hJ hcl
      simp only [Array.getD_eq_getD_getElem?] at zd0
      go_simp
      exact hK _ _ hJ'
  · as_aux_lemma =>
      intro aA wx p vs hJ hdep hpi hcl hval hfr K hK
      rw [if_pos (show Region.wanted _ _ = true from rfl)]
      have zd0 : aA.tmps.getD 45 undef = .pointer (some ⟨B, 0, none⟩) := (hval 12 _ 45 (hdep 12 (by kernel_rfl)) (by rfl) rfl).trans (hJ.v 12 _ rfl (hdep 12 (by kernel_rfl)))
      have hJ' := hJ.pure 13 (by decide) (by decide) rfl (fun _ _ => trivial)
      clear hval hfr hdep hJ hcl
      simp only [Array.getD_eq_getD_getElem?] at zd0
      go_simp
      exact hK _ _ hJ'
  · as_aux_lemma =>
      intro aA wx p vs hJ hdep hpi hcl hval hfr K hK
      rw [if_pos (show Region.wanted _ _ = true from rfl)]
      have zd0 : aA.tmps.getD 46 undef = .pointer (some ⟨B, 0, none⟩) := (hval 13 _ 46 (hdep 13 (by kernel_rfl)) (by rfl) rfl).trans (hJ.v 13 _ rfl (hdep 13 (by kernel_rfl)))
      have hJ' := hJ.pure 14 (by decide) (by decide) rfl (fun _ _ => trivial)
      clear hval hfr hdep hJ hcl
      simp only [Array.getD_eq_getD_getElem?] at zd0
      go_simp
      exact hK _ _ hJ'
  · as_aux_lemma =>
      intro aA wx p vs hJ hdep hpi hcl hval hfr K hK
      rw [if_pos (show Region.wanted _ _ = true from rfl)]
      have hnA : p 23 = false := by
        cases e : p 23 with
        | false => rfl
        | true =>
          have z0 := hcl 23 _ (by rfl) e 22 (by kernel_rfl)
          have z1 := hcl 22 _ (by rfl) z0 21 (by kernel_rfl)
          have z2 := hcl 21 _ (by rfl) z1 18 (by kernel_rfl)
          have z3 := hcl 18 _ (by rfl) z2 17 (by kernel_rfl)
          have z4 := hcl 17 _ (by rfl) z3 15 (by kernel_rfl)
          rw [hpi] at z4; cases z4
      have hnS : p 25 = false := by
        cases e : p 25 with
        | false => rfl
        | true =>
          have z0 := hcl 25 _ (by rfl) e 15 (by kernel_rfl)
          rw [hpi] at z0; cases z0
      have zd0 : aA.tmps.getD 47 undef = .pointer (some ⟨B, 1, none⟩) := (hval 14 _ 47 (hdep 14 (by kernel_rfl)) (by rfl) rfl).trans (hJ.v 14 _ rfl (hdep 14 (by kernel_rfl)))
      have hgx := hJ.g hnA hnS
      have cc := hgx.cellv c1
      have hJ' := hJ.pure 15 (by decide) (by decide) rfl (fun _ _ => trivial)
      clear hval hfr hdep hJ hcl
      simp only [Array.getD_eq_getD_getElem?] at zd0
      go_simp
      exact hK _ _ hJ'
  · as_aux_lemma =>
      intro aA wx p vs hJ hdep hpi hcl hval hfr K hK
      rw [if_pos (show Region.wanted _ _ = true from rfl)]
      have zd0 : aA.tmps.getD 6 undef = .int .i64 (m : Int) := hfr 6 (by kernel_rfl)
      have hJ' := hJ.pure 16 (by decide) (by decide) rfl (fun _ _ => trivial)
      clear hval hfr hdep hJ hcl
      simp only [Array.getD_eq_getD_getElem?] at zd0
      go_simp
      exact hK _ _ hJ'
  · as_aux_lemma =>
      intro aA wx p vs hJ hdep hpi hcl hval hfr K hK
      rw [if_pos (show Region.wanted _ _ = true from rfl)]
      have zd0 : aA.tmps.getD 48 undef = .slice (some ⟨sb, 0, none⟩) (m + 1) sc := (hval 15 _ 48 (hdep 15 (by kernel_rfl)) (by rfl) rfl).trans (hJ.v 15 _ rfl (hdep 15 (by kernel_rfl)))
      have zd1 : aA.tmps.getD 49 undef = .int .i64 (m : Int) := (hval 16 _ 49 (hdep 16 (by kernel_rfl)) (by rfl) rfl).trans (hJ.v 16 _ rfl (hdep 16 (by kernel_rfl)))
      have HJ := Hid.mk' hJ
      clear hval hfr hdep hJ hcl
      simp only [Array.getD_eq_getD_getElem?] at zd0 zd1
      have hlt : ((m : Int) < (m : Int) + 1) = True := eq_true (by omega)
      have hlt2 : (m < m + 1) = True := eq_true (by omega)
      have hlt3 : ((m : Int) < ((m + 1 : Nat) : Int)) = True := eq_true (by omega)
      go_simp
      try (simp only [Oper.upon]; simp [hlt, hlt2, hlt3])
      exact hK _ _ (HJ.out.pure 17 (by decide) (by decide) rfl (fun _ _ => trivial))
  · as_aux_lemma =>
      intro aA wx p vs hJ hdep hpi hcl hval hfr K hK
      rw [if_pos (show Region.wanted _ _ = true from rfl)]
      have hnA : p 23 = false := by
        cases e : p 23 with
        | false => rfl
        | true =>
          have z0 := hcl 23 _ (by rfl) e 22 (by kernel_rfl)
          have z1 := hcl 22 _ (by rfl) z0 21 (by kernel_rfl)
          have z2 := hcl 21 _ (by rfl) z1 18 (by kernel_rfl)
          rw [hpi] at z2; cases z2
      have hnS : p 25 = false := by
        cases e : p 25 with
        | false => rfl
        | true =>
          have z0 := hcl 25 _ (by rfl) e 18 (by kernel_rfl)
          rw [hpi] at z0; cases z0
      have zd0 : aA.tmps.getD 50 undef = .pointer (some ⟨sb, m, none⟩) := (hval 17 _ 50 (hdep 17 (by kernel_rfl)) (by rfl) rfl).trans (hJ.v 17 _ rfl (hdep 17 (by kernel_rfl)))
      have cc := (hJ.g hnA hnS).cellv cs
      have HJ := Hid.mk' hJ
      clear hval hfr hdep hJ hcl
      simp only [Array.getD_eq_getD_getElem?] at zd0
      go_simp
      exact hK _ _ (HJ.out.pure 18 (by decide) (by decide) rfl (fun _ _ => trivial))
  · as_aux_lemma =>
      intro aA wx p vs hJ hdep hpi hcl hval hfr K hK
      rw [if_pos (show Region.wanted _ _ = true from rfl)]
      have zd0 : aA.tmps.getD 1 undef = .int .i64 at' := hfr 1 (by kernel_rfl)
      have hJ' := hJ.pure 19 (by decide) (by decide) rfl (fun _ _ => trivial)
      clear hval hfr hdep hJ hcl
      simp only [Array.getD_eq_getD_getElem?] at zd0
      go_simp
      exact hK _ _ hJ'
  · as_aux_lemma =>
      intro aA wx p vs hJ hdep hpi hcl hval hfr K hK
      rw [if_pos (show Region.wanted _ _ = true from rfl)]
      have zd0 : aA.tmps.getD 52 undef = .int .i64 at' := (hval 19 _ 52 (hdep 19 (by kernel_rfl)) (by rfl) rfl).trans (hJ.v 19 _ rfl (hdep 19 (by kernel_rfl)))
      have HJ := Hid.mk' hJ
      clear hval hfr hdep hJ hcl
      simp only [Array.getD_eq_getD_getElem?] at zd0
      go_simp
      rw [HW.out]
      exact hK _ _ (HJ.out.pure 20 (by decide) (by decide) rfl (fun _ _ => trivial))
  · as_aux_lemma =>
      intro aA wx p vs hJ hdep hpi hcl hval hfr K hK
      rw [if_pos (show Region.wanted _ _ = true from rfl)]
      have zd0 : aA.tmps.getD 51 undef = .int .i64 a0 := (hval 18 _ 51 (hdep 18 (by kernel_rfl)) (by rfl) rfl).trans (hJ.v 18 _ rfl (hdep 18 (by kernel_rfl)))
      have zd1 : aA.tmps.getD 53 undef = .int .i64 (at' - 1) := (hval 20 _ 53 (hdep 20 (by kernel_rfl)) (by rfl) rfl).trans (hJ.v 20 _ rfl (hdep 20 (by kernel_rfl)))
      have hJ' := hJ.pure 21 (by decide) (by decide) rfl (fun _ _ => trivial)
      clear hval hfr hdep hJ hcl
      simp only [Array.getD_eq_getD_getElem?] at zd0 zd1
      go_simp
      exact hK _ _ hJ'
  · as_aux_lemma =>
      intro aA wx p vs hJ hdep hpi hcl hval hfr K hK
      rw [if_pos (show Region.wanted _ _ = true from rfl)]
      have hnA : p 23 = false := by
        cases e : p 23 with
        | false => rfl
        | true =>
          have z0 := hcl 23 _ (by rfl) e 22 (by kernel_rfl)
          rw [hpi] at z0; cases z0
      have hnS : p 25 = false := by
        cases e : p 25 with
        | false => rfl
        | true =>
          have z0 := hcl 25 _ (by rfl) e 22 (by kernel_rfl)
          rw [hpi] at z0; cases z0
      have zd0 : aA.tmps.getD 54 undef = .agg #[.int .i64 a0, .int .i64 (at' - 1)] := (hval 21 _ 54 (hdep 21 (by kernel_rfl)) (by rfl) rfl).trans (hJ.v 21 _ rfl (hdep 21 (by kernel_rfl)))
      have HJ := Hid.mk' hJ
      clear hval hfr hdep hJ hcl
      simp only [Array.getD_eq_getD_getElem?] at zd0
      go_simp
      exact hK _ _ (HJ.out.grow E38s 22 (by decide) (by decide) hnA hnS (fun y hy => by cases hy) ((Grown.refl _).alloc _) ⟨_, rfl, heap_alloc_new _ _⟩)
  · as_aux_lemma =>
      intro aA wx p vs hJ hdep hpi hcl hval hfr K hK
      rw [if_pos (show Region.wanted _ _ = true from rfl)]
      have hnS : p 25 = false := by
        cases e : p 25 with
        | false => rfl
        | true =>
          have z0 := hcl 25 _ (by rfl) e 23 (by kernel_rfl)
          rw [hpi] at z0; cases z0
      obtain ⟨gg, hgg, hgh⟩ := hJ.e hpi hnS 22 (hdep 22 (by kernel_rfl))
      have hgx := hJ.g hpi hnS
      have zd0 : aA.tmps.getD 44 undef = .slice va vn vc := (hval 11 _ 44 (hdep 11 (by kernel_rfl)) (by rfl) rfl).trans (hJ.v 11 _ rfl (hdep 11 (by kernel_rfl)))
      have zd1 : aA.tmps.getD 55 undef = .slice (some ⟨gg, 0, none⟩) 1 1 := (hval 22 _ 55 (hdep 22 (by kernel_rfl)) (by rfl) rfl).trans hgg
      obtain ⟨v', w', hru, h2, h3, h4⟩ := run_app (ty := 27) base info38 Tryd.underlying27 rfl (by decide) (own_fr HOV.out (fr_grown hgx fun _ => False) fun _ _ e => e) (m := 1) (c := 1) (news := [.int .i64 a0, .int .i64 (at' - 1)]) rfl hgh (fun u hu => by simp at hu; rcases hu with rfl | rfl <;> rfl) (by unfold maxLen; omega) (by omega) (by have := hgx.size; omega)
      have HPA : Hid (PA38 w base (.slice va vn vc) vn l a0 (at' - 1) v' w') := ⟨wx, hgx, h2, h3, h4⟩
      clear h2 h3 h4 hgx hgh
      have HJ := Hid.mk' hJ
      clear hval hfr hdep hJ hcl
      exact op_append rfl zd0 zd1 hru (hK _ _ (HJ.out.atA (by decide) hnS rfl HPA.out))
  · as_aux_lemma =>
      intro aA wx p vs hJ hdep hpi hcl hval hfr K hK
      rw [if_pos (show Region.wanted _ _ = true from rfl)]
      have zd0 : aA.tmps.getD 36 undef = .slice (some ⟨pb, 0, none⟩) pn pc := (hval 3 _ 36 (hdep 3 (by kernel_rfl)) (by rfl) rfl).trans (hJ.v 3 _ rfl (hdep 3 (by kernel_rfl)))
      have zd1 : aA.tmps.getD 37 undef = .int .i64 (e : Int) := (hval 4 _ 37 (hdep 4 (by kernel_rfl)) (by rfl) rfl).trans (hJ.v 4 _ rfl (hdep 4 (by kernel_rfl)))
      have hJ' := hJ.pure 24 (by decide) (by decide) rfl (fun _ _ => trivial)
      clear hval hfr hdep hJ hcl
      simp only [Array.getD_eq_getD_getElem?] at zd0 zd1
      go_simp
      exact hK _ _ hJ'
  · as_aux_lemma =>
      intro aA wx p vs hJ hdep hpi hcl hval hfr K hK
      rw [if_pos (show Region.wanted _ _ = true from rfl)]
      have hAA : p 23 = true := hdep 23 (by kernel_rfl)
      obtain ⟨w3, hg3, hown, hap, hloc⟩ := hJ.a hAA hpi
      obtain ⟨ya, yc, hvs⟩ := own_len hown
      have zd0 : aA.tmps.getD 57 undef = .pointer (some ⟨pb, e, none⟩) := (hval 24 _ 57 (hdep 24 (by kernel_rfl)) (by rfl) rfl).trans (hJ.v 24 _ rfl (hdep 24 (by kernel_rfl)))
      have zd1 : aA.tmps.getD 56 undef = .slice ya (vn + 1) yc := (hval 23 _ 56 (hdep 23 (by kernel_rfl)) (by rfl) rfl).trans hvs
      rw [hvs] at hown hloc
      obtain ⟨cc, cf, htt, hf5⟩ := HT.out.sp1 HV.out ((fr_grown hg3 _).trans (fr_by hap) fun _ _ e => e) (v' := .slice ya (vn + 1) yc) (l' := l ++ [(a0, at' - 1)]) (own_rs hown HVN.out) (loc_up hloc hg3.size)
      have HFI := Hid.mk' (And.intro htt (And.intro hf5 (loc_up hloc hg3.size)))
      clear htt hf5 hown hap hloc hg3
      have HJ := Hid.mk' hJ
      clear hval hfr hdep hJ hcl
      simp only [Array.getD_eq_getD_getElem?] at zd0 zd1
      go_simp
      exact hK undef _ (HJ.out.atS rfl ⟨_, HFI.out⟩)
  · intro vs wg hJ
    obtain ⟨v', htt, hfg, hlg⟩ := hJ.s rfl
    rw [putL_eq]
    simp only [putsL, List.set_cons_zero, List.set_cons_succ, Nat.zero_add, Nat.reduceAdd]
    have HT0 := Hid.mk' HT.out
    clear HT
    have HT := Hid.mk' htt
    have HG := Hid.mk' (And.intro hfg hlg)
    have hbz : base ≤ wg.heap.size := by have := htt.tb; have := blk_lt htt.blk; omega
    clear c1 c2 c3 cv cs cb
    have c1 : wg.cell? ⟨B, 1, none⟩ = some (.slice (some ⟨sb, 0, none⟩) (m + 1) sc) := heap_cellv htt.blk rfl
    have c2 : wg.cell? ⟨B, 2, none⟩ = some (.slice (some ⟨bb, 0, none⟩) (m + 1) bc) := heap_cellv htt.blk rfl
    clear hJ htt hfg hlg
    go_wp2_with (at_builtin; go_must (first
      | (refine push_I2 rfl _ _ 23 rfl Tryd.underlying23 base (.slice (some ⟨sb, 0, none⟩) (m + 1) sc) st rfl (HT.out.grown ((Grown.refl _).alloc _)).s _ _ at' rfl (heap_alloc_new _ _) (by omega) (by simp; omega) ?_
         intro v1 W2 h1 h2 h3
         obtain ⟨e4, t1, _⟩ := (HT.out.grown ((Grown.refl _).alloc _)).st1 (fr_by h2) h1 h3
         have HA := Hid.mk' (And.intro h1 (And.intro h2 h3))
         have k1 : W2.cell? ⟨B, 1, none⟩ = some (.slice (some ⟨sb, 0, none⟩) (m + 1) sc) := heap_cellv e4 rfl
         have k1f : W2.frozen? ⟨B, 1, none⟩ = false := free_of e4
         have k2 : W2.cell? ⟨B, 2, none⟩ = some (.slice (some ⟨bb, 0, none⟩) (m + 1) bc) := heap_cellv e4 rfl
         have HT1 := Hid.mk' t1
         have hbz2 : base ≤ W2.heap.size := by have := t1.tb; have := blk_lt e4; omega
         obtain ⟨va1, vc1, hv1⟩ := own_len h1
         obtain ⟨vn1, hvn1⟩ : ∃ vn1, (st ++ [at']).length = vn1 := ⟨_, rfl⟩
         rw [hvn1] at hv1
         subst hv1
         clear h1 h2 h3 e4 t1 hvn1 c1 c2)
      | (refine push_I2 rfl _ _ 23 rfl Tryd.underlying23 base (.slice (some ⟨bb, 0, none⟩) (m + 1) bc) bg rfl (HT1.out.grown ((Grown.refl _).alloc _)).b _ _ atom rfl (by have := heap_alloc_new (W2.setCell ⟨B, 1, none⟩ (.slice va1 vn1 vc1)) (.cells #[.int .i64 atom] 3); simpa using this) (by omega) (by simp; omega) ?_
         intro v2 W4 h1 h2 h3
         obtain ⟨e4, t1, _⟩ := (HT1.out.grown ((Grown.refl _).alloc _)).bg1 (fr_by h2) h1 h3
         have HA2 := Hid.mk' (And.intro h1 (And.intro h2 h3))
         have k3 : W4.cell? ⟨B, 2, none⟩ = some (.slice (some ⟨bb, 0, none⟩) (m + 1) bc) := heap_cellv e4 rfl
         have k3f : W4.frozen? ⟨B, 2, none⟩ = false := free_of e4
         obtain ⟨va2, vc2, hv2⟩ := own_len h1
         obtain ⟨vn2, hvn2⟩ : ∃ vn2, (bg ++ [atom]).length = vn2 := ⟨_, rfl⟩
         rw [hvn2] at hv2
         subst hv2
         clear h1 h2 h3 e4 t1 hvn2)))
    go_end0
    refine ⟨rfl, BQ.of HT.out (HG.out.1.mono fun k _ e => ?_) (fun k hk => ?_) ?_ ((Grown.refl _).alloc _) HA.out.1 HA.out.2.1 HA.out.2.2 ((Grown.refl _).alloc _) HA2.out.1 HA2.out.2.1 HA2.out.2.2⟩
    · rcases e with e | e
      · exact .inr (.inr (.inr (.inl (by rw [e]; rfl))))
      · exact .inr (.inr (.inr (.inr (.inr ⟨_, List.mem_of_getElem? HV.out, e⟩))))
    · obtain ⟨x, hx, hk⟩ := hk
      rcases List.mem_or_eq_of_mem_set hx with hx | hx
      · exact .inl (.inr (.inr (.inr (.inr (.inr ⟨x, hx, hk⟩)))))
      · subst hx
        rcases HG.out.2 with h1 | ⟨j, h1, hj⟩
        · exact .inl (.inr (.inr (.inr (.inr (.inr ⟨_, List.mem_of_getElem? HV.out, h1 ▸ hk⟩)))))
        · rw [show v'.ownBlock = some k from hk] at h1; injection h1 with h1; exact .inr (by omega)
    · rw [HEE.out, List.map_set]
end Go.Proofs
