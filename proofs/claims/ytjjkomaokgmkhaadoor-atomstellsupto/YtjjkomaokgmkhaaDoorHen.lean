/-
  A tally is made.
-/
import Derived.RangeFuncNested
import Derived.RangeFuncBound
import Derived.RangeFuncCalls
import Derived.RangeFuncLeaves
import Derived.Shelf.Abstract
import Derived.Shelf.RegionOpen
import Derived.WalkKit
import Derived.WalkSpells
import Derived.WalkLawsBesides
import Derived.OwnWalkIn
import Derived.TacticsInMore
import Derived.LoopNIn
import Derived.LoopIn
import Derived.BigQuiet
import Derived.RegionIn
import Derived.Deep.QuietTactic
import Derived.Deep.RegionWith
import Derived.Lib.OthersKept
import Derived.Maps.AppendAt
import Derived.Lib.SmallJoins
import Derived.Shelf.SlSortCmp.QuietGrown
import Derived.Deep.LoopGhost
import Derived.Test.YtjjkomaokgmkhaaDoorHdn
namespace Go.Proofs
open Go.RowKit Go.Shelf

set_option maxRecDepth 100000
attribute [local go_sem] Oper.semAt_some
attribute [local go_sem ↓] Go.wp_at_zero Go.wp_at_succ
def rvl : Value → Nat
  | .slice _ n _ => n
  | _ => 0
def val35a (T rn q : Nat) (ra : Option Addr) (rc : Nat) : Nat → Option Value
  | 0 => some (.pointer (some ⟨T, 0, none⟩))
  | 1 => some (.pointer (some ⟨T, 0, none⟩))
  | 2 => some (.pointer (some ⟨T, 0, none⟩))
  | 3 => some (.pointer (some ⟨T, 2, none⟩))
  | 4 => some (.slice ra rn rc)
  | 5 => some (.int .i64 (q : Int))
  | 6 => some (.int .i64 (2 * (q : Int)))
  | 10 => some (.pointer (some ⟨T, 0, none⟩))
  | 11 => some (.pointer (some ⟨T, 2, none⟩))
  | _ => none
def val35b (T rn : Nat) (ra : Option Addr) (rc : Nat) : Nat → Option Value
  | 0 => some (.pointer (some ⟨T, 0, none⟩))
  | 1 => some (.pointer (some ⟨T, 0, none⟩))
  | 2 => some (.pointer (some ⟨T, 0, none⟩))
  | 3 => some (.pointer (some ⟨T, 2, none⟩))
  | 4 => some (.slice ra rn rc)
  | 8 => some (.pointer (some ⟨T, 0, none⟩))
  | 9 => some (.pointer (some ⟨T, 2, none⟩))
  | _ => none

def E35 (X : World) (z k1 k2 : Nat) (i : Nat) (v : Value) (W : World) : Prop :=
  (i = k1 → ∃ g, v = .slice (some ⟨g, 0, none⟩) z z ∧ X.heap.size ≤ g ∧ W.heap[g]? = some (rowO (List.replicate z 0))) ∧ (i = k2 → ∃ g0 g, v = .slice (some ⟨g0, 0, none⟩) 1 1 ∧ W.heap[g0]? = some (.cells #[.slice (some ⟨g, 0, none⟩) z z] 48 (0, 0)) ∧ X.heap.size ≤ g ∧ W.heap[g]? = some (rowO (List.replicate z 0)))
theorem E35s {X : World} {z k1 k2 : Nat} : ∀ i v W W', E35 X z k1 k2 i v W → Grown W W' → E35 X z k1 k2 i v W' := fun i v W W' h hg => by
  refine ⟨fun e => ?_, fun e => ?_⟩
  · obtain ⟨g, h1, h2, h3⟩ := h.1 e
    exact ⟨g, h1, h2, (hg.below.block _ (blk_lt h3)).trans h3⟩
  · obtain ⟨g0, g, h1, h2, h3, h4⟩ := h.2 e
    exact ⟨g0, g, h1, (hg.below.block _ (blk_lt h2)).trans h2, h3, (hg.below.block _ (blk_lt h4)).trans h4⟩
def PA35 (X : World) (base : Nat) (rv : Value) (rows : List (Nat × List Nat)) (z : Nat) (v : Value) (W : World) : Prop := ∃ W3 g, Grown X W3 ∧ X.heap.size ≤ g ∧ W3.heap[g]? = some (rowO (List.replicate z 0)) ∧ W.ownsRow base 48 1 v (rvl rv + 1) (rows.map rowV ++ [.slice (some ⟨g, 0, none⟩) z z]) ∧ W3.grownBy W rv.ownBlock
def PS35 (X : World) (base T : Nat) (pv rv : Value) (hi M : Nat) (rows : List (Nat × List Nat)) (z : Nat) (W : World) : Prop := ∃ rv' g, TL W base T pv rv' (.slice none 0 0) hi M [(0, 0)] (rows ++ [(g, List.replicate z 0)]) [] ∧ Fr X W (fun k => k = T ∨ rv.ownBlock = some k)
theorem numF0 : updM (fun _ => none) (0, 0) (.int .u64 0) = numF [(0, 0)] := numF_add [] (0, 0) (by simp)
theorem tally0 {w w1 : World} (hgm : GMap 93 ok2 klit w1 w.heap.size (0 + 1) (updM (fun _ => none) (0, 0) (.int .u64 0))) (htu : (w.alloc (.map #[] 0)).mapTurned w1 w.heap.size) :
    w1.heap.size = w.heap.size + 1 ∧ TL ((w1.alloc (.cells #[.slice (some ⟨w1.heap.size + 1, 0, none⟩) 1 1, .int .i64 0, .slice none 0 0, .map (some w.heap.size), .slice none 0 0] 83)).alloc (.cells #[.int .u64 0, .int .u64 0] 93)) w.heap.size w1.heap.size (.slice (some ⟨w1.heap.size + 1, 0, none⟩) 1 1) (.slice none 0 0) (.slice none 0 0) 0 w.heap.size [(0, 0)] [] [] ∧
      Below w.heap.size w ((w1.alloc (.cells #[.slice (some ⟨w1.heap.size + 1, 0, none⟩) 1 1, .int .i64 0, .slice none 0 0, .map (some w.heap.size), .slice none 0 0] 83)).alloc (.cells #[.int .u64 0, .int .u64 0] 93)) := by
  have hs : w1.heap.size = w.heap.size + 1 := by
    obtain ⟨es, c, es', c', _, rfl⟩ := htu
    simp [ChangeMaps.setBlock]
  have hf := turned_fr htu
  have b1 : Below w.heap.size (w.alloc (.map #[] 0)) w1 := hf.below (fun k e => Nat.le_of_eq e.symm) (by simp)
  have b0 : Below w.heap.size w w1 := ((Below.refl _ w).alloc (Nat.le_refl _) _).trans b1
  obtain ⟨X, hX⟩ : ∃ X, X = w1.alloc (.cells #[.slice (some ⟨w1.heap.size + 1, 0, none⟩) 1 1, .int .i64 0, .slice none 0 0, .map (some w.heap.size), .slice none 0 0] 83) := ⟨_, rfl⟩
  have hXs : X.heap.size = w1.heap.size + 1 := by rw [hX]; simp
  have g1 : Grown w1 X := by rw [hX]; exact (Grown.refl _).alloc _
  rw [← hX]
  have g2 : Grown X (X.alloc (.cells #[.int .u64 0, .int .u64 0] 93)) := (Grown.refl _).alloc _
  have hT : X.heap[w1.heap.size]? = some (.cells #[.slice (some ⟨w1.heap.size + 1, 0, none⟩) 1 1, .int .i64 0, .slice none 0 0, .map (some w.heap.size), .slice none 0 0] 83 (0, 0)) := by rw [hX]; exact heap_alloc_new _ _
  have hP : (X.alloc (.cells #[.int .u64 0, .int .u64 0] 93)).heap[w1.heap.size + 1]? = some (.cells #[.int .u64 0, .int .u64 0] 93 (0, 0)) := by rw [← hXs]; exact heap_alloc_new _ _
  refine ⟨hs, ⟨by omega, (g2.below.block _ (blk_lt hT)).trans hT, ⟨rfl, .inr ⟨_, 1, _, rfl, by omega, hP, Nat.le_refl 1, by decide, rfl, rfl⟩⟩, World.ownsRow_nil _ _ _ _, fun x hx => by simp at hx, by simp, Nat.le_refl _, ?_, World.ownsRow_nil _ _ _ _, fun x hx => by simp at hx, fun p hp => ?_⟩, b0.trans (((g1.trans g2).below).mono (by omega))⟩
  · rw [← numF0]
    exact hgm.kept fun o ho => ((g1.trans g2).below.block _ (blk_lt ho)).trans ho
  · simp at hp; subst hp; exact ⟨by decide, by decide⟩
set_option maxHeartbeats 4000000 in
theorem newTally_any (n : Nat) (hn : 1 ≤ n) (hb : n ≤ 1000000000001) (w : World) :
    Calls Tryd.prog 35 #[.int .i64 (n : Int)] w fun e w' => ∃ T pv rv hi M rows L0 up, e = .returned (.pointer (some ⟨T, 0, none⟩)) ∧ TL w' w.heap.size T pv rv (.slice none 0 0) hi M [(0, 0)] rows [] ∧ rows.map Prod.snd = List.replicate L0 0 :: up ∧ hi + 1 = rows.length ∧ (∀ r ∈ up, r = List.replicate r.length 0) ∧ topOf up = 0 ∧ Fit (up.map List.length) L0 n ∧ (∀ x ∈ rows, x.2.length ≤ n + 1) ∧ rows.length ≤ n + 2 ∧ Below w.heap.size w w' := by
  obtain ⟨w1, hst, hgm, htu⟩ := (GMap.made (kt := 93) (ok := ok2) (kl := klit) w).store kz93 (by decide) (t := 81) (e := 70) Tryd.underlying81 (k := (0, 0)) ⟨by decide, by decide⟩ (.int .u64 0)
  have hst2 : (Instr.mapUpdate 81 (.map (some w.heap.size)) (.agg #[.int .u64 0, .int .u64 0]) (.int .u64 0)).run Tryd.prog (w.alloc (.map #[] 0)) = .ok () w1 := hst
  have HM := Hid.mk' (tally0 hgm htu)
  have hmm := @run_makeMap Tryd.prog
  have hnI : (n : Int) ≤ 1000000000001 := by omega
  obtain ⟨L, hL⟩ : ∃ L, (n + 63) / 64 = L := ⟨_, rfl⟩
  have hLI : ((n : Int) + 64 - 1) / 64 = (L : Int) := by omega
  clear hst hgm htu
  go_enter Tryd.func35, Tryd.ntmps35
  go_wp2
  rw [hLI]
  clear hst2 hmm
  obtain ⟨hs1, HTL0⟩ := HM.out
  have HTL0 := Hid.mk' HTL0
  clear HM
  obtain ⟨T, hT⟩ : ∃ T, w1.heap.size = T := ⟨_, rfl⟩
  rw [hT] at HTL0 ⊢
  generalize (w1.alloc (.cells #[.slice (some ⟨T + 1, 0, none⟩) 1 1, .int .i64 0, .slice none 0 0, .map (some w.heap.size), .slice none 0 0] 83)).alloc (.cells #[.int .u64 0, .int .u64 0] 93) = W0 at HTL0 ⊢
  obtain ⟨M, hM⟩ : ∃ M, w.heap.size = M := ⟨_, rfl⟩
  have HTL0 : Hid (TL W0 w.heap.size T (.slice (some ⟨T + 1, 0, none⟩) 1 1) (.slice none 0 0) (.slice none 0 0) 0 M [(0, 0)] [] [] ∧ Below w.heap.size w W0) := by rw [← hM]; exact HTL0
  clear hs1 hT hLI hM
  go_loopg [3] (L + 1) (fun k s3 wr => ∃ wd : Nat, s3 = .int .i64 (wd : Int) ∧ Hid (∃ rv rows, TL wr w.heap.size T (.slice (some ⟨T + 1, 0, none⟩) 1 1) rv (.slice none 0 0) rows.length M [(0, 0)] rows [] ∧ Zr L wd rows ∧ Below w.heap.size w wr ∧ wd ≤ L ∧ (if rows = [] then wd + 1 else wd) ≤ k))
  case atStart =>
    exact ⟨L, rfl, .slice none 0 0, [], HTL0.out.1, ⟨fun x hx => by simp at hx, fun _ => rfl, fun x hx => by simp at hx, fun x hx => by simp at hx, fun k x y hx => by simp at hx, by simp, by omega, fun x hx => by simp at hx, Nat.le_refl _⟩, HTL0.out.2, Nat.le_refl _, by simp⟩
  case round =>
    obtain ⟨wd, rfl, HI⟩ := hrel
    obtain ⟨rv, rows, htl, hzr, hbel, hwd, hk⟩ := HI.out
    clear HI HTL0
    obtain ⟨ra, rc, hrv⟩ := own_len htl.rr
    obtain ⟨rn, hrn⟩ : ∃ rn, rows.length = rn := ⟨_, rfl⟩
    have HZ := Hid.mk' hzr
    have HB := Hid.mk' hbel
    have hbz := hbel.size
    have hzb := hzr.b
    have hzp := hzr.p
    have hwdI : (wd : Int) ≤ 1000000000001 := by omega
    rw [hrn] at hrv htl hzb
    subst hrv
    have HRR : Hid (wr.ownsRow w.heap.size 48 1 (.slice ra rn rc) rn (rows.map rowV)) := by have := htl.rr; rw [hrn] at this; exact this
    have HTL := Hid.mk' htl
    have HRN := Hid.mk' hrn
    have c1 : wr.cell? ⟨T, 1, none⟩ = some (.int .i64 (rn : Int)) := heap_cellv htl.blk rfl
    have c2 : wr.cell? ⟨T, 2, none⟩ = some (.slice ra rn rc) := heap_cellv htl.blk rfl
    obtain ⟨XX, hXX⟩ : ∃ XX, XX = wr := ⟨_, rfl⟩
    subst hXX
    have hrnI : (rn : Int) ≤ 1000000000001 := by omega
    by_cases h0 : rn = 0
    · subst h0
      have HR0 : Hid (rows = []) := List.eq_nil_of_length_eq_zero hrn
      have HGO : Hid (rows = [] ∨ 1 < wd) := .inl HR0.out
      obtain ⟨q, hqe⟩ : ∃ q, (wd + 1) / 2 = q := ⟨_, rfl⟩
      have hqI : ((wd : Int) + 1) / 2 = (q : Int) := by omega
      have HQ := Hid.mk' hqe
      have HKK : Hid (q < gk) := by rw [if_pos HR0.out] at hk; show q < gk; omega
      have HW : Hid (IntKind.i64.wrap (2 * (q : Int)) = 2 * (q : Int)) := IntWalk.i64_in _ (by omega)
      have HMK : Hid (∀ W, (Instr.makeSlice 48 (.int .i64 (2 * (q : Int))) (.int .i64 (2 * (q : Int)))).run Tryd.prog W = .ok (.slice (some ⟨W.heap.size, 0, none⟩) (2 * q) (2 * q)) (W.alloc (rowO (List.replicate (2 * q) 0)))) := fun W => by
        have := make70 (2 * q) (by omega) W
        rwa [show ((2 * q : Nat) : Int) = 2 * (q : Int) by omega] at this
      have hqb : (q : Int) ≤ 1000000000001 := by omega
      clear htl hzr hbel hrn hk hqe
      have c1 : XX.cell? ⟨T, 1, none⟩ = some (.int .i64 0) := c1
      go_wp2
      rw [hqI]
      have hqe := HQ.out
      have hqL : q ≤ L := by omega
      clear HQ
      refine wp_region_clo mixed (by kernel_rfl) (by kernel_rfl) (by kernel_rfl) (JA XX (val35a T 0 q ra rc) (E35 XX (2 * q) 7 8) 9 12 (PA35 XX w.heap.size (.slice ra 0 rc) rows (2 * q)) (PS35 XX w.heap.size T (.slice (some ⟨T + 1, 0, none⟩) 1 1) (.slice ra 0 rc) 0 M rows (2 * q))) JA.start ⟨?_, ?_, ?_, ?_, ?_, ?_, ?_, ?_, ?_, ?_, ?_, ?_, ?_, trivial⟩ ?_
      · as_aux_lemma =>
          intro aA wx p vs hJ hdep hpi hcl hval hfr K hK
          rw [if_pos (show Region.wanted _ _ = true from rfl)]
          have zd0 : aA.tmps.getD 4 undef = .pointer (some ⟨T, 0, none⟩) := hfr 4 (by kernel_rfl)
          have hJ' := hJ.pure 0 (by decide) (by decide) rfl (fun _ _ => ⟨fun e => absurd e (by decide), fun e => absurd e (by decide)⟩)
          clear hval hfr hdep hJ hcl
          simp only [Array.getD_eq_getD_getElem?] at zd0
          go_simp
          exact hK _ _ hJ'
      · as_aux_lemma =>
          intro aA wx p vs hJ hdep hpi hcl hval hfr K hK
          rw [if_pos (show Region.wanted _ _ = true from rfl)]
          have zd0 : aA.tmps.getD 4 undef = .pointer (some ⟨T, 0, none⟩) := hfr 4 (by kernel_rfl)
          have hJ' := hJ.pure 1 (by decide) (by decide) rfl (fun _ _ => ⟨fun e => absurd e (by decide), fun e => absurd e (by decide)⟩)
          clear hval hfr hdep hJ hcl
          simp only [Array.getD_eq_getD_getElem?] at zd0
          go_simp
          exact hK _ _ hJ'
      · as_aux_lemma =>
          intro aA wx p vs hJ hdep hpi hcl hval hfr K hK
          rw [if_pos (show Region.wanted _ _ = true from rfl)]
          have zd0 : aA.tmps.getD 35 undef = .pointer (some ⟨T, 0, none⟩) := (hval 1 _ 35 (hdep 1 (by kernel_rfl)) (by rfl) rfl).trans (hJ.v 1 _ rfl (hdep 1 (by kernel_rfl)))
          have hJ' := hJ.pure 2 (by decide) (by decide) rfl (fun _ _ => ⟨fun e => absurd e (by decide), fun e => absurd e (by decide)⟩)
          clear hval hfr hdep hJ hcl
          simp only [Array.getD_eq_getD_getElem?] at zd0
          go_simp
          exact hK _ _ hJ'
      · as_aux_lemma =>
          intro aA wx p vs hJ hdep hpi hcl hval hfr K hK
          rw [if_pos (show Region.wanted _ _ = true from rfl)]
          have zd0 : aA.tmps.getD 36 undef = .pointer (some ⟨T, 0, none⟩) := (hval 2 _ 36 (hdep 2 (by kernel_rfl)) (by rfl) rfl).trans (hJ.v 2 _ rfl (hdep 2 (by kernel_rfl)))
          have hJ' := hJ.pure 3 (by decide) (by decide) rfl (fun _ _ => ⟨fun e => absurd e (by decide), fun e => absurd e (by decide)⟩)
          clear hval hfr hdep hJ hcl
          simp only [Array.getD_eq_getD_getElem?] at zd0
          go_simp
          exact hK _ _ hJ'
      · as_aux_lemma =>
          intro aA wx p vs hJ hdep hpi hcl hval hfr K hK
          rw [if_pos (show Region.wanted _ _ = true from rfl)]
          have hnA : p 9 = false := by
            cases e : p 9 with
            | false => rfl
            | true =>
              have z0 := hcl 9 _ (by rfl) e 4 (by kernel_rfl)
              rw [hpi] at z0; cases z0
          have hnS : p 12 = false := by
            cases e : p 12 with
            | false => rfl
            | true =>
              have z0 := hcl 12 _ (by rfl) e 4 (by kernel_rfl)
              rw [hpi] at z0; cases z0
          have zd0 : aA.tmps.getD 37 undef = .pointer (some ⟨T, 2, none⟩) := (hval 3 _ 37 (hdep 3 (by kernel_rfl)) (by rfl) rfl).trans (hJ.v 3 _ rfl (hdep 3 (by kernel_rfl)))
          have hgx := hJ.g hnA hnS
          have cc := hgx.cellv c2
          have hJ' := hJ.pure 4 (by decide) (by decide) rfl (fun _ _ => ⟨fun e => absurd e (by decide), fun e => absurd e (by decide)⟩)
          clear hval hfr hdep hJ hcl
          simp only [Array.getD_eq_getD_getElem?] at zd0
          go_simp
          exact hK _ _ hJ'
      · as_aux_lemma =>
          intro aA wx p vs hJ hdep hpi hcl hval hfr K hK
          rw [if_pos (show Region.wanted _ _ = true from rfl)]
          have zd0 : aA.tmps.getD 5 undef = .int .i64 (q : Int) := hfr 5 (by kernel_rfl)
          have hJ' := hJ.pure 5 (by decide) (by decide) rfl (fun _ _ => ⟨fun e => absurd e (by decide), fun e => absurd e (by decide)⟩)
          clear hval hfr hdep hJ hcl
          simp only [Array.getD_eq_getD_getElem?] at zd0
          go_simp
          exact hK _ _ hJ'
      · as_aux_lemma =>
          intro aA wx p vs hJ hdep hpi hcl hval hfr K hK
          rw [if_pos (show Region.wanted _ _ = true from rfl)]
          have zd0 : aA.tmps.getD 39 undef = .int .i64 (q : Int) := (hval 5 _ 39 (hdep 5 (by kernel_rfl)) (by rfl) rfl).trans (hJ.v 5 _ rfl (hdep 5 (by kernel_rfl)))
          have HJ := Hid.mk' hJ
          clear hval hfr hdep hJ hcl
          simp only [Array.getD_eq_getD_getElem?] at zd0
          have hw := HW.out
          go_simp
          exact hK _ _ (HJ.out.pure 6 (by decide) (by decide) rfl (fun _ _ => ⟨fun e => absurd e (by decide), fun e => absurd e (by decide)⟩))
      · as_aux_lemma =>
          intro aA wx p vs hJ hdep hpi hcl hval hfr K hK
          rw [if_pos (show Region.wanted _ _ = true from rfl)]
          have hnA : p 9 = false := by
            cases e : p 9 with
            | false => rfl
            | true =>
              have z0 := hcl 9 _ (by rfl) e 8 (by kernel_rfl)
              have z1 := hcl 8 _ (by rfl) z0 7 (by kernel_rfl)
              rw [hpi] at z1; cases z1
          have hnS : p 12 = false := by
            cases e : p 12 with
            | false => rfl
            | true =>
              have z0 := hcl 12 _ (by rfl) e 7 (by kernel_rfl)
              rw [hpi] at z0; cases z0
          have zd0 : aA.tmps.getD 40 undef = .int .i64 (2 * (q : Int)) := (hval 6 _ 40 (hdep 6 (by kernel_rfl)) (by rfl) rfl).trans (hJ.v 6 _ rfl (hdep 6 (by kernel_rfl)))
          have hgx := hJ.g hnA hnS
          have hgs := hgx.size
          have hmk := HMK.out wx
          clear hgx
          have HJ := Hid.mk' hJ
          clear hval hfr hdep hJ hcl
          simp only [Array.getD_eq_getD_getElem?] at zd0
          go_simp
          exact hK _ _ (HJ.out.grow E35s 7 (by decide) (by decide) hnA hnS (fun y hy => by cases hy) ((Grown.refl _).alloc _) ⟨fun _ => ⟨_, rfl, hgs, heap_alloc_new _ _⟩, fun e => absurd e (by decide)⟩)
      · as_aux_lemma =>
          intro aA wx p vs hJ hdep hpi hcl hval hfr K hK
          rw [if_pos (show Region.wanted _ _ = true from rfl)]
          have hnA : p 9 = false := by
            cases e : p 9 with
            | false => rfl
            | true =>
              have z0 := hcl 9 _ (by rfl) e 8 (by kernel_rfl)
              rw [hpi] at z0; cases z0
          have hnS : p 12 = false := by
            cases e : p 12 with
            | false => rfl
            | true =>
              have z0 := hcl 12 _ (by rfl) e 8 (by kernel_rfl)
              rw [hpi] at z0; cases z0
          obtain ⟨gg, hgg, hgz, hgh⟩ := (hJ.e hnA hnS 7 (hdep 7 (by kernel_rfl))).1 rfl
          have zd0 : aA.tmps.getD 41 undef = .slice (some ⟨gg, 0, none⟩) (2 * q) (2 * q) := (hval 7 _ 41 (hdep 7 (by kernel_rfl)) (by rfl) rfl).trans hgg
          have HGH := Hid.mk' hgh
          clear hgh
          have HJ := Hid.mk' hJ
          clear hval hfr hdep hJ hcl
          simp only [Array.getD_eq_getD_getElem?] at zd0
          go_simp
          exact hK _ _ (HJ.out.grow E35s 8 (by decide) (by decide) hnA hnS (fun y hy => by cases hy) ((Grown.refl _).alloc _) ⟨fun e => absurd e (by decide), fun _ => ⟨_, gg, rfl, heap_alloc_new _ _, hgz, (((Grown.refl _).alloc _).below.block _ (blk_lt HGH.out)).trans HGH.out⟩⟩)
      · as_aux_lemma =>
          intro aA wx p vs hJ hdep hpi hcl hval hfr K hK
          rw [if_pos (show Region.wanted _ _ = true from rfl)]
          have hnS : p 12 = false := by
            cases e : p 12 with
            | false => rfl
            | true =>
              have z0 := hcl 12 _ (by rfl) e 9 (by kernel_rfl)
              rw [hpi] at z0; cases z0
          obtain ⟨g0, gg, hg0, hc0, hgz, hgh⟩ := (hJ.e hpi hnS 8 (hdep 8 (by kernel_rfl))).2 rfl
          have hgx := hJ.g hpi hnS
          have zd0 : aA.tmps.getD 38 undef = .slice ra 0 rc := (hval 4 _ 38 (hdep 4 (by kernel_rfl)) (by rfl) rfl).trans (hJ.v 4 _ rfl (hdep 4 (by kernel_rfl)))
          have zd1 : aA.tmps.getD 42 undef = .slice (some ⟨g0, 0, none⟩) 1 1 := (hval 8 _ 42 (hdep 8 (by kernel_rfl)) (by rfl) rfl).trans hg0
          obtain ⟨v', w', hru, h2, h3, h4⟩ := run_app (ty := 80) w.heap.size info48 Tryd.underlying80 rfl (by decide) (own_fr HRR.out (fr_grown hgx fun _ => False) fun _ _ e => e) (m := 1) (c := 1) (news := [.slice (some ⟨gg, 0, none⟩) (2 * q) (2 * q)]) rfl hc0 (fun u hu => by simp at hu; rw [hu]; rfl) (by unfold maxLen; omega) (by omega) (by have := hgx.size; omega)
          have HPA : Hid (PA35 XX w.heap.size (.slice ra 0 rc) rows ((2 * q)) v' w') := ⟨wx, gg, hgx, hgz, hgh, h2, h3⟩
          clear h2 h3 h4 hgx hgh hc0
          have HJ := Hid.mk' hJ
          clear hval hfr hdep hJ hcl
          exact op_append rfl zd0 zd1 hru (hK _ _ (HJ.out.atA (by decide) hnS rfl HPA.out))
      · as_aux_lemma =>
          intro aA wx p vs hJ hdep hpi hcl hval hfr K hK
          rw [if_pos (show Region.wanted _ _ = true from rfl)]
          have zd0 : aA.tmps.getD 34 undef = .pointer (some ⟨T, 0, none⟩) := (hval 0 _ 34 (hdep 0 (by kernel_rfl)) (by rfl) rfl).trans (hJ.v 0 _ rfl (hdep 0 (by kernel_rfl)))
          have hJ' := hJ.pure 10 (by decide) (by decide) rfl (fun _ _ => ⟨fun e => absurd e (by decide), fun e => absurd e (by decide)⟩)
          clear hval hfr hdep hJ hcl
          simp only [Array.getD_eq_getD_getElem?] at zd0
          go_simp
          exact hK _ _ hJ'
      · as_aux_lemma =>
          intro aA wx p vs hJ hdep hpi hcl hval hfr K hK
          rw [if_pos (show Region.wanted _ _ = true from rfl)]
          have zd0 : aA.tmps.getD 44 undef = .pointer (some ⟨T, 0, none⟩) := (hval 10 _ 44 (hdep 10 (by kernel_rfl)) (by rfl) rfl).trans (hJ.v 10 _ rfl (hdep 10 (by kernel_rfl)))
          have hJ' := hJ.pure 11 (by decide) (by decide) rfl (fun _ _ => ⟨fun e => absurd e (by decide), fun e => absurd e (by decide)⟩)
          clear hval hfr hdep hJ hcl
          simp only [Array.getD_eq_getD_getElem?] at zd0
          go_simp
          exact hK _ _ hJ'
      · as_aux_lemma =>
          intro aA wx p vs hJ hdep hpi hcl hval hfr K hK
          rw [if_pos (show Region.wanted _ _ = true from rfl)]
          have hAA : p 9 = true := hdep 9 (by kernel_rfl)
          obtain ⟨w3, gg, hg3, hgz, hgh, hown, hap⟩ := hJ.a hAA hpi
          obtain ⟨sa, sc, hvs⟩ := own_len hown
          have zd0 : aA.tmps.getD 45 undef = .pointer (some ⟨T, 2, none⟩) := (hval 11 _ 45 (hdep 11 (by kernel_rfl)) (by rfl) rfl).trans (hJ.v 11 _ rfl (hdep 11 (by kernel_rfl)))
          have zd1 : aA.tmps.getD 43 undef = .slice sa (0 + 1) sc := (hval 9 _ 43 (hdep 9 (by kernel_rfl)) (by rfl) rfl).trans hvs
          rw [hvs] at hown
          obtain ⟨e4, htl4, hfr4⟩ := HTL.out.row hg3 hgz hgh (W64.zeros _) hap (by rw [HRN.out, show rowV (gg, List.replicate ((2 * q)) 0) = .slice (some ⟨gg, 0, none⟩) ((2 * q)) ((2 * q)) by simp [rowV]]; exact hown)
          have HFI := Hid.mk' (And.intro htl4 hfr4)
          have cc : wx.cell? ⟨T, 2, none⟩ = some (.slice ra 0 rc) := heap_cellv e4 rfl
          have cf : wx.frozen? ⟨T, 2, none⟩ = false := free_of e4
          clear htl4 hfr4 hown hap e4 hg3 hgh
          have HJ := Hid.mk' hJ
          clear hval hfr hdep hJ hcl
          simp only [Array.getD_eq_getD_getElem?] at zd0 zd1
          go_simp
          exact hK undef _ (HJ.out.atS rfl ⟨_, gg, HFI.out⟩)
      · intro vs wg hJ
        obtain ⟨rv', gg, htl, hfr⟩ := hJ.s rfl
        rw [putL_eq]
        simp only [putsL, List.set_cons_zero, List.set_cons_succ, Nat.zero_add, Nat.reduceAdd]
        have hTg := htl.blk
        have d1 : wg.cell? ⟨T, 1, none⟩ = some (.int .i64 0) := heap_cellv hTg rfl
        have d2 : wg.frozen? ⟨T, 1, none⟩ = false := free_of hTg
        have HT2 := Hid.mk' (And.intro htl hfr)
        clear hJ htl hfr hTg c1 c2
        go_wp2
        go_roundg q
        case measure => exact HKK.out
        case rel =>
          obtain ⟨htl, hfr⟩ := HT2.out
          obtain ⟨hup, hfr2⟩ := htl.up (0 + 1)
          refine ⟨q, rfl, rv', rows ++ [(gg, List.replicate (2 * q) 0)], ?_, ?_, ?_, ?_, ?_⟩
          · rw [List.length_append, HRN.out]; exact hup
          · exact hqe ▸ HZ.out.step HGO.out gg
          · exact HB.out.trans ((hfr.trans hfr2 fun _ _ e => .inl e).below (fun k hk => by rcases hk with rfl | hk; exact HTL.out.tb; exact (World.ownsRow.lt HRR.out k hk).1) HB.out.size)
          · omega
          · simp
    · have hrp : 0 < rn := by omega
      have h0I : ¬ (rn : Int) = 0 := by omega
      have HNE : Hid (rows ≠ []) := fun e => by rw [e] at hrn; exact h0 hrn.symm
      by_cases hw1 : 1 < wd
      · have hw1I : 1 < (wd : Int) := by omega
        have HGO : Hid (rows = [] ∨ 1 < wd) := .inr hw1
        obtain ⟨q, hqe⟩ : ∃ q, (wd + 1) / 2 = q := ⟨_, rfl⟩
        have hqI : ((wd : Int) + 1) / 2 = (q : Int) := by omega
        have HQ := Hid.mk' hqe
        have HKK : Hid (q < gk) := by rw [if_neg HNE.out] at hk; show q < gk; omega
        have HW : Hid (IntKind.i64.wrap (2 * (q : Int)) = 2 * (q : Int)) := IntWalk.i64_in _ (by omega)
        have HMK : Hid (∀ W, (Instr.makeSlice 48 (.int .i64 (2 * (q : Int))) (.int .i64 (2 * (q : Int)))).run Tryd.prog W = .ok (.slice (some ⟨W.heap.size, 0, none⟩) (2 * q) (2 * q)) (W.alloc (rowO (List.replicate (2 * q) 0)))) := fun W => by
          have := make70 (2 * q) (by omega) W
          rwa [show ((2 * q : Nat) : Int) = 2 * (q : Int) by omega] at this
        have hqb : (q : Int) ≤ 1000000000001 := by omega
        clear htl hzr hbel hrn hk hqe
        go_wp2
        rw [hqI]
        have hqe := HQ.out
        have hqL : q ≤ L := by omega
        clear HQ
        refine wp_region_clo mixed (by kernel_rfl) (by kernel_rfl) (by kernel_rfl) (JA XX (val35a T rn q ra rc) (E35 XX (2 * q) 7 8) 9 12 (PA35 XX w.heap.size (.slice ra rn rc) rows (2 * q)) (PS35 XX w.heap.size T (.slice (some ⟨T + 1, 0, none⟩) 1 1) (.slice ra rn rc) rn M rows (2 * q))) JA.start ⟨?_, ?_, ?_, ?_, ?_, ?_, ?_, ?_, ?_, ?_, ?_, ?_, ?_, trivial⟩ ?_
        · as_aux_lemma =>
            intro aA wx p vs hJ hdep hpi hcl hval hfr K hK
            rw [if_pos (show Region.wanted _ _ = true from rfl)]
            have zd0 : aA.tmps.getD 4 undef = .pointer (some ⟨T, 0, none⟩) := hfr 4 (by kernel_rfl)
            have hJ' := hJ.pure 0 (by decide) (by decide) rfl (fun _ _ => ⟨fun e => absurd e (by decide), fun e => absurd e (by decide)⟩)
            clear hval hfr hdep hJ hcl
            simp only [Array.getD_eq_getD_getElem?] at zd0
            go_simp
            exact hK _ _ hJ'
        · as_aux_lemma =>
            intro aA wx p vs hJ hdep hpi hcl hval hfr K hK
            rw [if_pos (show Region.wanted _ _ = true from rfl)]
            have zd0 : aA.tmps.getD 4 undef = .pointer (some ⟨T, 0, none⟩) := hfr 4 (by kernel_rfl)
            have hJ' := hJ.pure 1 (by decide) (by decide) rfl (fun _ _ => ⟨fun e => absurd e (by decide), fun e => absurd e (by decide)⟩)
            clear hval hfr hdep hJ hcl
            simp only [Array.getD_eq_getD_getElem?] at zd0
            go_simp
            exact hK _ _ hJ'
        · as_aux_lemma =>
            intro aA wx p vs hJ hdep hpi hcl hval hfr K hK
            rw [if_pos (show Region.wanted _ _ = true from rfl)]
            have zd0 : aA.tmps.getD 35 undef = .pointer (some ⟨T, 0, none⟩) := (hval 1 _ 35 (hdep 1 (by kernel_rfl)) (by rfl) rfl).trans (hJ.v 1 _ rfl (hdep 1 (by kernel_rfl)))
            have hJ' := hJ.pure 2 (by decide) (by decide) rfl (fun _ _ => ⟨fun e => absurd e (by decide), fun e => absurd e (by decide)⟩)
            clear hval hfr hdep hJ hcl
            simp only [Array.getD_eq_getD_getElem?] at zd0
            go_simp
            exact hK _ _ hJ'
        · as_aux_lemma =>
            intro aA wx p vs hJ hdep hpi hcl hval hfr K hK
            rw [if_pos (show Region.wanted _ _ = true from rfl)]
            have zd0 : aA.tmps.getD 36 undef = .pointer (some ⟨T, 0, none⟩) := (hval 2 _ 36 (hdep 2 (by kernel_rfl)) (by rfl) rfl).trans (hJ.v 2 _ rfl (hdep 2 (by kernel_rfl)))
            have hJ' := hJ.pure 3 (by decide) (by decide) rfl (fun _ _ => ⟨fun e => absurd e (by decide), fun e => absurd e (by decide)⟩)
            clear hval hfr hdep hJ hcl
            simp only [Array.getD_eq_getD_getElem?] at zd0
            go_simp
            exact hK _ _ hJ'
        · as_aux_lemma =>
            intro aA wx p vs hJ hdep hpi hcl hval hfr K hK
            rw [if_pos (show Region.wanted _ _ = true from rfl)]
            have hnA : p 9 = false := by
              cases e : p 9 with
              | false => rfl
              | true =>
                have z0 := hcl 9 _ (by rfl) e 4 (by kernel_rfl)
                rw [hpi] at z0; cases z0
            have hnS : p 12 = false := by
              cases e : p 12 with
              | false => rfl
              | true =>
                have z0 := hcl 12 _ (by rfl) e 4 (by kernel_rfl)
                rw [hpi] at z0; cases z0
            have zd0 : aA.tmps.getD 37 undef = .pointer (some ⟨T, 2, none⟩) := (hval 3 _ 37 (hdep 3 (by kernel_rfl)) (by rfl) rfl).trans (hJ.v 3 _ rfl (hdep 3 (by kernel_rfl)))
            have hgx := hJ.g hnA hnS
            have cc := hgx.cellv c2
            have hJ' := hJ.pure 4 (by decide) (by decide) rfl (fun _ _ => ⟨fun e => absurd e (by decide), fun e => absurd e (by decide)⟩)
            clear hval hfr hdep hJ hcl
            simp only [Array.getD_eq_getD_getElem?] at zd0
            go_simp
            exact hK _ _ hJ'
        · as_aux_lemma =>
            intro aA wx p vs hJ hdep hpi hcl hval hfr K hK
            rw [if_pos (show Region.wanted _ _ = true from rfl)]
            have zd0 : aA.tmps.getD 5 undef = .int .i64 (q : Int) := hfr 5 (by kernel_rfl)
            have hJ' := hJ.pure 5 (by decide) (by decide) rfl (fun _ _ => ⟨fun e => absurd e (by decide), fun e => absurd e (by decide)⟩)
            clear hval hfr hdep hJ hcl
            simp only [Array.getD_eq_getD_getElem?] at zd0
            go_simp
            exact hK _ _ hJ'
        · as_aux_lemma =>
            intro aA wx p vs hJ hdep hpi hcl hval hfr K hK
            rw [if_pos (show Region.wanted _ _ = true from rfl)]
            have zd0 : aA.tmps.getD 39 undef = .int .i64 (q : Int) := (hval 5 _ 39 (hdep 5 (by kernel_rfl)) (by rfl) rfl).trans (hJ.v 5 _ rfl (hdep 5 (by kernel_rfl)))
            have HJ := Hid.mk' hJ
            clear hval hfr hdep hJ hcl
            simp only [Array.getD_eq_getD_getElem?] at zd0
            have hw := HW.out
            go_simp
            exact hK _ _ (HJ.out.pure 6 (by decide) (by decide) rfl (fun _ _ => ⟨fun e => absurd e (by decide), fun e => absurd e (by decide)⟩))
        · as_aux_lemma =>
            intro aA wx p vs hJ hdep hpi hcl hval hfr K hK
            rw [if_pos (show Region.wanted _ _ = true from rfl)]
            have hnA : p 9 = false := by
              cases e : p 9 with
              | false => rfl
              | true =>
                have z0 := hcl 9 _ (by rfl) e 8 (by kernel_rfl)
                have z1 := hcl 8 _ (by rfl) z0 7 (by kernel_rfl)
                rw [hpi] at z1; cases z1
            have hnS : p 12 = false := by
              cases e : p 12 with
              | false => rfl
              | true =>
                have z0 := hcl 12 _ (by rfl) e 7 (by kernel_rfl)
                rw [hpi] at z0; cases z0
            have zd0 : aA.tmps.getD 40 undef = .int .i64 (2 * (q : Int)) := (hval 6 _ 40 (hdep 6 (by kernel_rfl)) (by rfl) rfl).trans (hJ.v 6 _ rfl (hdep 6 (by kernel_rfl)))
            have hgx := hJ.g hnA hnS
            have hgs := hgx.size
            have hmk := HMK.out wx
            clear hgx
            have HJ := Hid.mk' hJ
            clear hval hfr hdep hJ hcl
            simp only [Array.getD_eq_getD_getElem?] at zd0
            go_simp
            exact hK _ _ (HJ.out.grow E35s 7 (by decide) (by decide) hnA hnS (fun y hy => by cases hy) ((Grown.refl _).alloc _) ⟨fun _ => ⟨_, rfl, hgs, heap_alloc_new _ _⟩, fun e => absurd e (by decide)⟩)
        · as_aux_lemma =>
            intro aA wx p vs hJ hdep hpi hcl hval hfr K hK
            rw [if_pos (show Region.wanted _ _ = true from rfl)]
            have hnA : p 9 = false := by
              cases e : p 9 with
              | false => rfl
              | true =>
                have z0 := hcl 9 _ (by rfl) e 8 (by kernel_rfl)
                rw [hpi] at z0; cases z0
            have hnS : p 12 = false := by
              cases e : p 12 with
              | false => rfl
              | true =>
                have z0 := hcl 12 _ (by rfl) e 8 (by kernel_rfl)
                rw [hpi] at z0; cases z0
            obtain ⟨gg, hgg, hgz, hgh⟩ := (hJ.e hnA hnS 7 (hdep 7 (by kernel_rfl))).1 rfl
            have zd0 : aA.tmps.getD 41 undef = .slice (some ⟨gg, 0, none⟩) (2 * q) (2 * q) := (hval 7 _ 41 (hdep 7 (by kernel_rfl)) (by rfl) rfl).trans hgg
            have HGH := Hid.mk' hgh
            clear hgh
            have HJ := Hid.mk' hJ
            clear hval hfr hdep hJ hcl
            simp only [Array.getD_eq_getD_getElem?] at zd0
            go_simp
            exact hK _ _ (HJ.out.grow E35s 8 (by decide) (by decide) hnA hnS (fun y hy => by cases hy) ((Grown.refl _).alloc _) ⟨fun e => absurd e (by decide), fun _ => ⟨_, gg, rfl, heap_alloc_new _ _, hgz, (((Grown.refl _).alloc _).below.block _ (blk_lt HGH.out)).trans HGH.out⟩⟩)
        · as_aux_lemma =>
            intro aA wx p vs hJ hdep hpi hcl hval hfr K hK
            rw [if_pos (show Region.wanted _ _ = true from rfl)]
            have hnS : p 12 = false := by
              cases e : p 12 with
              | false => rfl
              | true =>
                have z0 := hcl 12 _ (by rfl) e 9 (by kernel_rfl)
                rw [hpi] at z0; cases z0
            obtain ⟨g0, gg, hg0, hc0, hgz, hgh⟩ := (hJ.e hpi hnS 8 (hdep 8 (by kernel_rfl))).2 rfl
            have hgx := hJ.g hpi hnS
            have zd0 : aA.tmps.getD 38 undef = .slice ra rn rc := (hval 4 _ 38 (hdep 4 (by kernel_rfl)) (by rfl) rfl).trans (hJ.v 4 _ rfl (hdep 4 (by kernel_rfl)))
            have zd1 : aA.tmps.getD 42 undef = .slice (some ⟨g0, 0, none⟩) 1 1 := (hval 8 _ 42 (hdep 8 (by kernel_rfl)) (by rfl) rfl).trans hg0
            obtain ⟨v', w', hru, h2, h3, h4⟩ := run_app (ty := 80) w.heap.size info48 Tryd.underlying80 rfl (by decide) (own_fr HRR.out (fr_grown hgx fun _ => False) fun _ _ e => e) (m := 1) (c := 1) (news := [.slice (some ⟨gg, 0, none⟩) (2 * q) (2 * q)]) rfl hc0 (fun u hu => by simp at hu; rw [hu]; rfl) (by unfold maxLen; omega) (by omega) (by have := hgx.size; omega)
            have HPA : Hid (PA35 XX w.heap.size (.slice ra rn rc) rows ((2 * q)) v' w') := ⟨wx, gg, hgx, hgz, hgh, h2, h3⟩
            clear h2 h3 h4 hgx hgh hc0
            have HJ := Hid.mk' hJ
            clear hval hfr hdep hJ hcl
            exact op_append rfl zd0 zd1 hru (hK _ _ (HJ.out.atA (by decide) hnS rfl HPA.out))
        · as_aux_lemma =>
            intro aA wx p vs hJ hdep hpi hcl hval hfr K hK
            rw [if_pos (show Region.wanted _ _ = true from rfl)]
            have zd0 : aA.tmps.getD 34 undef = .pointer (some ⟨T, 0, none⟩) := (hval 0 _ 34 (hdep 0 (by kernel_rfl)) (by rfl) rfl).trans (hJ.v 0 _ rfl (hdep 0 (by kernel_rfl)))
            have hJ' := hJ.pure 10 (by decide) (by decide) rfl (fun _ _ => ⟨fun e => absurd e (by decide), fun e => absurd e (by decide)⟩)
            clear hval hfr hdep hJ hcl
            simp only [Array.getD_eq_getD_getElem?] at zd0
            go_simp
            exact hK _ _ hJ'
        · as_aux_lemma =>
            intro aA wx p vs hJ hdep hpi hcl hval hfr K hK
            rw [if_pos (show Region.wanted _ _ = true from rfl)]
            have zd0 : aA.tmps.getD 44 undef = .pointer (some ⟨T, 0, none⟩) := (hval 10 _ 44 (hdep 10 (by kernel_rfl)) (by rfl) rfl).trans (hJ.v 10 _ rfl (hdep 10 (by kernel_rfl)))
            have hJ' := hJ.pure 11 (by decide) (by decide) rfl (fun _ _ => ⟨fun e => absurd e (by decide), fun e => absurd e (by decide)⟩)
            clear hval hfr hdep hJ hcl
            simp only [Array.getD_eq_getD_getElem?] at zd0
            go_simp
            exact hK _ _ hJ'
        · as_aux_lemma =>
            intro aA wx p vs hJ hdep hpi hcl hval hfr K hK
            rw [if_pos (show Region.wanted _ _ = true from rfl)]
            have hAA : p 9 = true := hdep 9 (by kernel_rfl)
            obtain ⟨w3, gg, hg3, hgz, hgh, hown, hap⟩ := hJ.a hAA hpi
            obtain ⟨sa, sc, hvs⟩ := own_len hown
            have zd0 : aA.tmps.getD 45 undef = .pointer (some ⟨T, 2, none⟩) := (hval 11 _ 45 (hdep 11 (by kernel_rfl)) (by rfl) rfl).trans (hJ.v 11 _ rfl (hdep 11 (by kernel_rfl)))
            have zd1 : aA.tmps.getD 43 undef = .slice sa (rn + 1) sc := (hval 9 _ 43 (hdep 9 (by kernel_rfl)) (by rfl) rfl).trans hvs
            rw [hvs] at hown
            obtain ⟨e4, htl4, hfr4⟩ := HTL.out.row hg3 hgz hgh (W64.zeros _) hap (by rw [HRN.out, show rowV (gg, List.replicate ((2 * q)) 0) = .slice (some ⟨gg, 0, none⟩) ((2 * q)) ((2 * q)) by simp [rowV]]; exact hown)
            have HFI := Hid.mk' (And.intro htl4 hfr4)
            have cc : wx.cell? ⟨T, 2, none⟩ = some (.slice ra rn rc) := heap_cellv e4 rfl
            have cf : wx.frozen? ⟨T, 2, none⟩ = false := free_of e4
            clear htl4 hfr4 hown hap e4 hg3 hgh
            have HJ := Hid.mk' hJ
            clear hval hfr hdep hJ hcl
            simp only [Array.getD_eq_getD_getElem?] at zd0 zd1
            go_simp
            exact hK undef _ (HJ.out.atS rfl ⟨_, gg, HFI.out⟩)
        · intro vs wg hJ
          obtain ⟨rv', gg, htl, hfr⟩ := hJ.s rfl
          rw [putL_eq]
          simp only [putsL, List.set_cons_zero, List.set_cons_succ, Nat.zero_add, Nat.reduceAdd]
          have hTg := htl.blk
          have d1 : wg.cell? ⟨T, 1, none⟩ = some (.int .i64 (rn : Int)) := heap_cellv hTg rfl
          have d2 : wg.frozen? ⟨T, 1, none⟩ = false := free_of hTg
          have HT2 := Hid.mk' (And.intro htl hfr)
          clear hJ htl hfr hTg c1 c2
          go_wp2
          go_roundg q
          case measure => exact HKK.out
          case rel =>
            obtain ⟨htl, hfr⟩ := HT2.out
            obtain ⟨hup, hfr2⟩ := htl.up (rn + 1)
            refine ⟨q, rfl, rv', rows ++ [(gg, List.replicate (2 * q) 0)], ?_, ?_, ?_, ?_, ?_⟩
            · rw [List.length_append, HRN.out]; exact hup
            · exact hqe ▸ HZ.out.step HGO.out gg
            · exact HB.out.trans ((hfr.trans hfr2 fun _ _ e => .inl e).below (fun k hk => by rcases hk with rfl | hk; exact HTL.out.tb; exact (World.ownsRow.lt HRR.out k hk).1) HB.out.size)
            · omega
            · simp
      · have hw1I : ¬ 1 < (wd : Int) := by omega
        have hwd1 : wd = 1 := by omega
        subst hwd1
        have HMK : Hid (∀ W, (Instr.makeSlice 48 (.int .i64 1) (.int .i64 1)).run Tryd.prog W = .ok (.slice (some ⟨W.heap.size, 0, none⟩) 1 1) (W.alloc (rowO (List.replicate 1 0)))) := fun W => make70 1 (by omega) W
        clear htl hzr hbel hrn hk
        go_wp2
        refine wp_region_clo mixed (by kernel_rfl) (by kernel_rfl) (by kernel_rfl) (JA XX (val35b T rn ra rc) (E35 XX (1) 5 6) 7 10 (PA35 XX w.heap.size (.slice ra rn rc) rows (1)) (PS35 XX w.heap.size T (.slice (some ⟨T + 1, 0, none⟩) 1 1) (.slice ra rn rc) rn M rows (1))) JA.start ⟨?_, ?_, ?_, ?_, ?_, ?_, ?_, ?_, ?_, ?_, ?_, trivial⟩ ?_
        · as_aux_lemma =>
            intro aA wx p vs hJ hdep hpi hcl hval hfr K hK
            rw [if_pos (show Region.wanted _ _ = true from rfl)]
            have zd0 : aA.tmps.getD 4 undef = .pointer (some ⟨T, 0, none⟩) := hfr 4 (by kernel_rfl)
            have hJ' := hJ.pure 0 (by decide) (by decide) rfl (fun _ _ => ⟨fun e => absurd e (by decide), fun e => absurd e (by decide)⟩)
            clear hval hfr hdep hJ hcl
            simp only [Array.getD_eq_getD_getElem?] at zd0
            go_simp
            exact hK _ _ hJ'
        · as_aux_lemma =>
            intro aA wx p vs hJ hdep hpi hcl hval hfr K hK
            rw [if_pos (show Region.wanted _ _ = true from rfl)]
            have zd0 : aA.tmps.getD 4 undef = .pointer (some ⟨T, 0, none⟩) := hfr 4 (by kernel_rfl)
            have hJ' := hJ.pure 1 (by decide) (by decide) rfl (fun _ _ => ⟨fun e => absurd e (by decide), fun e => absurd e (by decide)⟩)
            clear hval hfr hdep hJ hcl
            simp only [Array.getD_eq_getD_getElem?] at zd0
            go_simp
            exact hK _ _ hJ'
        · as_aux_lemma =>
            intro aA wx p vs hJ hdep hpi hcl hval hfr K hK
            rw [if_pos (show Region.wanted _ _ = true from rfl)]
            have zd0 : aA.tmps.getD 57 undef = .pointer (some ⟨T, 0, none⟩) := (hval 1 _ 57 (hdep 1 (by kernel_rfl)) (by rfl) rfl).trans (hJ.v 1 _ rfl (hdep 1 (by kernel_rfl)))
            have hJ' := hJ.pure 2 (by decide) (by decide) rfl (fun _ _ => ⟨fun e => absurd e (by decide), fun e => absurd e (by decide)⟩)
            clear hval hfr hdep hJ hcl
            simp only [Array.getD_eq_getD_getElem?] at zd0
            go_simp
            exact hK _ _ hJ'
        · as_aux_lemma =>
            intro aA wx p vs hJ hdep hpi hcl hval hfr K hK
            rw [if_pos (show Region.wanted _ _ = true from rfl)]
            have zd0 : aA.tmps.getD 58 undef = .pointer (some ⟨T, 0, none⟩) := (hval 2 _ 58 (hdep 2 (by kernel_rfl)) (by rfl) rfl).trans (hJ.v 2 _ rfl (hdep 2 (by kernel_rfl)))
            have hJ' := hJ.pure 3 (by decide) (by decide) rfl (fun _ _ => ⟨fun e => absurd e (by decide), fun e => absurd e (by decide)⟩)
            clear hval hfr hdep hJ hcl
            simp only [Array.getD_eq_getD_getElem?] at zd0
            go_simp
            exact hK _ _ hJ'
        · as_aux_lemma =>
            intro aA wx p vs hJ hdep hpi hcl hval hfr K hK
            rw [if_pos (show Region.wanted _ _ = true from rfl)]
            have hnA : p 7 = false := by
              cases e : p 7 with
              | false => rfl
              | true =>
                have z0 := hcl 7 _ (by rfl) e 4 (by kernel_rfl)
                rw [hpi] at z0; cases z0
            have hnS : p 10 = false := by
              cases e : p 10 with
              | false => rfl
              | true =>
                have z0 := hcl 10 _ (by rfl) e 4 (by kernel_rfl)
                rw [hpi] at z0; cases z0
            have zd0 : aA.tmps.getD 59 undef = .pointer (some ⟨T, 2, none⟩) := (hval 3 _ 59 (hdep 3 (by kernel_rfl)) (by rfl) rfl).trans (hJ.v 3 _ rfl (hdep 3 (by kernel_rfl)))
            have hgx := hJ.g hnA hnS
            have cc := hgx.cellv c2
            have hJ' := hJ.pure 4 (by decide) (by decide) rfl (fun _ _ => ⟨fun e => absurd e (by decide), fun e => absurd e (by decide)⟩)
            clear hval hfr hdep hJ hcl
            simp only [Array.getD_eq_getD_getElem?] at zd0
            go_simp
            exact hK _ _ hJ'
        · as_aux_lemma =>
            intro aA wx p vs hJ hdep hpi hcl hval hfr K hK
            rw [if_pos (show Region.wanted _ _ = true from rfl)]
            have hnA : p 7 = false := by
              cases e : p 7 with
              | false => rfl
              | true =>
                have z0 := hcl 7 _ (by rfl) e 6 (by kernel_rfl)
                have z1 := hcl 6 _ (by rfl) z0 5 (by kernel_rfl)
                rw [hpi] at z1; cases z1
            have hnS : p 10 = false := by
              cases e : p 10 with
              | false => rfl
              | true =>
                have z0 := hcl 10 _ (by rfl) e 5 (by kernel_rfl)
                rw [hpi] at z0; cases z0
            have hgx := hJ.g hnA hnS
            have hgs := hgx.size
            have hmk := HMK.out wx
            clear hgx
            have HJ := Hid.mk' hJ
            clear hval hfr hdep hJ hcl
            go_simp
            exact hK _ _ (HJ.out.grow E35s 5 (by decide) (by decide) hnA hnS (fun y hy => by cases hy) ((Grown.refl _).alloc _) ⟨fun _ => ⟨_, rfl, hgs, heap_alloc_new _ _⟩, fun e => absurd e (by decide)⟩)
        · as_aux_lemma =>
            intro aA wx p vs hJ hdep hpi hcl hval hfr K hK
            rw [if_pos (show Region.wanted _ _ = true from rfl)]
            have hnA : p 7 = false := by
              cases e : p 7 with
              | false => rfl
              | true =>
                have z0 := hcl 7 _ (by rfl) e 6 (by kernel_rfl)
                rw [hpi] at z0; cases z0
            have hnS : p 10 = false := by
              cases e : p 10 with
              | false => rfl
              | true =>
                have z0 := hcl 10 _ (by rfl) e 6 (by kernel_rfl)
                rw [hpi] at z0; cases z0
            obtain ⟨gg, hgg, hgz, hgh⟩ := (hJ.e hnA hnS 5 (hdep 5 (by kernel_rfl))).1 rfl
            have zd0 : aA.tmps.getD 61 undef = .slice (some ⟨gg, 0, none⟩) 1 1 := (hval 5 _ 61 (hdep 5 (by kernel_rfl)) (by rfl) rfl).trans hgg
            have HGH := Hid.mk' hgh
            clear hgh
            have HJ := Hid.mk' hJ
            clear hval hfr hdep hJ hcl
            simp only [Array.getD_eq_getD_getElem?] at zd0
            go_simp
            exact hK _ _ (HJ.out.grow E35s 6 (by decide) (by decide) hnA hnS (fun y hy => by cases hy) ((Grown.refl _).alloc _) ⟨fun e => absurd e (by decide), fun _ => ⟨_, gg, rfl, heap_alloc_new _ _, hgz, (((Grown.refl _).alloc _).below.block _ (blk_lt HGH.out)).trans HGH.out⟩⟩)
        · as_aux_lemma =>
            intro aA wx p vs hJ hdep hpi hcl hval hfr K hK
            rw [if_pos (show Region.wanted _ _ = true from rfl)]
            have hnS : p 10 = false := by
              cases e : p 10 with
              | false => rfl
              | true =>
                have z0 := hcl 10 _ (by rfl) e 7 (by kernel_rfl)
                rw [hpi] at z0; cases z0
            obtain ⟨g0, gg, hg0, hc0, hgz, hgh⟩ := (hJ.e hpi hnS 6 (hdep 6 (by kernel_rfl))).2 rfl
            have hgx := hJ.g hpi hnS
            have zd0 : aA.tmps.getD 60 undef = .slice ra rn rc := (hval 4 _ 60 (hdep 4 (by kernel_rfl)) (by rfl) rfl).trans (hJ.v 4 _ rfl (hdep 4 (by kernel_rfl)))
            have zd1 : aA.tmps.getD 62 undef = .slice (some ⟨g0, 0, none⟩) 1 1 := (hval 6 _ 62 (hdep 6 (by kernel_rfl)) (by rfl) rfl).trans hg0
            obtain ⟨v', w', hru, h2, h3, h4⟩ := run_app (ty := 80) w.heap.size info48 Tryd.underlying80 rfl (by decide) (own_fr HRR.out (fr_grown hgx fun _ => False) fun _ _ e => e) (m := 1) (c := 1) (news := [.slice (some ⟨gg, 0, none⟩) 1 1]) rfl hc0 (fun u hu => by simp at hu; rw [hu]; rfl) (by unfold maxLen; omega) (by omega) (by have := hgx.size; omega)
            have HPA : Hid (PA35 XX w.heap.size (.slice ra rn rc) rows (1) v' w') := ⟨wx, gg, hgx, hgz, hgh, h2, h3⟩
            clear h2 h3 h4 hgx hgh hc0
            have HJ := Hid.mk' hJ
            clear hval hfr hdep hJ hcl
            exact op_append rfl zd0 zd1 hru (hK _ _ (HJ.out.atA (by decide) hnS rfl HPA.out))
        · as_aux_lemma =>
            intro aA wx p vs hJ hdep hpi hcl hval hfr K hK
            rw [if_pos (show Region.wanted _ _ = true from rfl)]
            have zd0 : aA.tmps.getD 56 undef = .pointer (some ⟨T, 0, none⟩) := (hval 0 _ 56 (hdep 0 (by kernel_rfl)) (by rfl) rfl).trans (hJ.v 0 _ rfl (hdep 0 (by kernel_rfl)))
            have hJ' := hJ.pure 8 (by decide) (by decide) rfl (fun _ _ => ⟨fun e => absurd e (by decide), fun e => absurd e (by decide)⟩)
            clear hval hfr hdep hJ hcl
            simp only [Array.getD_eq_getD_getElem?] at zd0
            go_simp
            exact hK _ _ hJ'
        · as_aux_lemma =>
            intro aA wx p vs hJ hdep hpi hcl hval hfr K hK
            rw [if_pos (show Region.wanted _ _ = true from rfl)]
            have zd0 : aA.tmps.getD 64 undef = .pointer (some ⟨T, 0, none⟩) := (hval 8 _ 64 (hdep 8 (by kernel_rfl)) (by rfl) rfl).trans (hJ.v 8 _ rfl (hdep 8 (by kernel_rfl)))
            have hJ' := hJ.pure 9 (by decide) (by decide) rfl (fun _ _ => ⟨fun e => absurd e (by decide), fun e => absurd e (by decide)⟩)
            clear hval hfr hdep hJ hcl
            simp only [Array.getD_eq_getD_getElem?] at zd0
            go_simp
            exact hK _ _ hJ'
        · as_aux_lemma =>
            intro aA wx p vs hJ hdep hpi hcl hval hfr K hK
            rw [if_pos (show Region.wanted _ _ = true from rfl)]
            have hAA : p 7 = true := hdep 7 (by kernel_rfl)
            obtain ⟨w3, gg, hg3, hgz, hgh, hown, hap⟩ := hJ.a hAA hpi
            obtain ⟨sa, sc, hvs⟩ := own_len hown
            have zd0 : aA.tmps.getD 65 undef = .pointer (some ⟨T, 2, none⟩) := (hval 9 _ 65 (hdep 9 (by kernel_rfl)) (by rfl) rfl).trans (hJ.v 9 _ rfl (hdep 9 (by kernel_rfl)))
            have zd1 : aA.tmps.getD 63 undef = .slice sa (rn + 1) sc := (hval 7 _ 63 (hdep 7 (by kernel_rfl)) (by rfl) rfl).trans hvs
            rw [hvs] at hown
            obtain ⟨e4, htl4, hfr4⟩ := HTL.out.row hg3 hgz hgh (W64.zeros _) hap (by rw [HRN.out, show rowV (gg, List.replicate (1) 0) = .slice (some ⟨gg, 0, none⟩) (1) (1) by simp [rowV]]; exact hown)
            have HFI := Hid.mk' (And.intro htl4 hfr4)
            have cc : wx.cell? ⟨T, 2, none⟩ = some (.slice ra rn rc) := heap_cellv e4 rfl
            have cf : wx.frozen? ⟨T, 2, none⟩ = false := free_of e4
            clear htl4 hfr4 hown hap e4 hg3 hgh
            have HJ := Hid.mk' hJ
            clear hval hfr hdep hJ hcl
            simp only [Array.getD_eq_getD_getElem?] at zd0 zd1
            go_simp
            exact hK undef _ (HJ.out.atS rfl ⟨_, gg, HFI.out⟩)
        · intro vs wg hJ
          obtain ⟨rv', gg, htl, hfr⟩ := hJ.s rfl
          rw [putL_eq]
          simp only [putsL, List.set_cons_zero, List.set_cons_succ, Nat.zero_add, Nat.reduceAdd]
          have HT2 := Hid.mk' (And.intro htl hfr)
          clear hJ htl hfr c1 c2
          go_wp2
          go_ret
          obtain ⟨htl, hfr⟩ := HT2.out
          obtain ⟨L0, up, e1, e2, e3, e4, e5, e6⟩ := HZ.out.fin HNE.out gg n (by omega)
          exact ⟨T, _, rv', rn, M, _, L0, up, rfl, htl, e1, by rw [List.length_append, HRN.out]; rfl, e3, e4, e5, fun x hx => by have := e6 x hx; omega, by rw [List.length_append, HRN.out]; simp; omega, HB.out.trans (hfr.below (fun k hk => by rcases hk with rfl | hk; exact HTL.out.tb; exact (World.ownsRow.lt HRR.out k hk).1) HB.out.size)⟩
end Go.Proofs
