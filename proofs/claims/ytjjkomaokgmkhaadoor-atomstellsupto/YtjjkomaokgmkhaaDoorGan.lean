/-
  The order of the turns.
-/
import Derived.RangeFuncNested
import Derived.RangeFuncBound
import Derived.RangeFuncCalls
import Derived.RangeFuncLeaves
import Derived.Shelf.Abstract
import Derived.Shelf.RegionOpen
import Derived.WalkKit
import Derived.WalkSpells
import Derived.WalkLawsBesides
import Derived.OwnWalkIn
import Derived.TacticsInMore
import Derived.LoopNIn
import Derived.LoopIn
import Derived.BigQuiet
import Derived.RegionIn
import Derived.Deep.QuietTactic
import Derived.Deep.RegionWith
import Derived.Lib.OthersKept
import Derived.Maps.AppendAt
import Derived.Lib.SmallJoins
import Derived.Shelf.SlSortCmp.QuietGrown
import Derived.Test.YtjjkomaokgmkhaaDoorGbn
import Derived.Test.YtjjkomaokgmkhaaDoorAen
namespace Go.Proofs
open Go.RowKit Go.Shelf

set_option maxRecDepth 100000
attribute [local go_sem] Oper.semAt_some
attribute [local go_sem ↓] Go.wp_at_zero Go.wp_at_succ

/-- the first of two numbers that is not nought -/
def or2 (a b : Int) : Int := if a = 0 then b else a
set_option maxHeartbeats 1000000 in
theorem or_any (g : Nat) (a b : Int) (w : World) (c0 : w.cell? ⟨g, 0, none⟩ = some (.int .i64 a)) (c1 : w.cell? ⟨g, 1, none⟩ = some (.int .i64 b)) :
    Calls Tryd.prog 43 #[.slice (some ⟨g, 0, none⟩) 2 2] w fun e w' => e = .returned (.int .i64 (or2 a b)) ∧ w' = w := by
  unfold or2
  by_cases h : a = 0
  · subst h
    rw [if_pos rfl]
    by_cases h2 : b = 0
    · subst h2
      go_enter Tryd.func43, Tryd.ntmps43
      go_wp2
      refine wp_loop_rounds 3 ?_
      rw [rounds_succ]
      go_wp2
      rw [rounds_succ]
      go_wp2
      rw [rounds_succ]
      go_wp2
      go_ret
      exact ⟨rfl, rfl⟩
    · have h2b : (b != 0) = true := by simpa using h2
      go_enter Tryd.func43, Tryd.ntmps43
      go_wp2
      refine wp_loop_rounds 3 ?_
      rw [rounds_succ]
      go_wp2
      rw [rounds_succ]
      go_wp2
      go_ret
      exact ⟨rfl, rfl⟩
  · rw [if_neg h]
    have hb : (a != 0) = true := by simpa using h
    go_enter Tryd.func43, Tryd.ntmps43
    go_wp2
    refine wp_loop_rounds 1 ?_
    rw [rounds_succ]
    go_wp2
    go_ret
    exact ⟨rfl, rfl⟩
/-- the order of turns: by their places, then by their sets -/
def cfT (x y : Int × Int) : Int := or2 (Lib.compareInt x.1 y.1) (Lib.compareInt x.2 y.2)
theorem ltOfT (x y : Int × Int) : ltOf cfT x y = true ↔ ltT x y := by
  unfold ltOf cfT or2 Lib.compareInt ltT
  rw [decide_eq_true_eq]
  by_cases h1 : x.1 < y.1
  · simp [h1]
  · by_cases h2 : y.1 < x.1
    · simp [h1, h2]; omega
    · by_cases h3 : x.2 < y.2
      · simp [h1, h2, h3]; omega
      · by_cases h4 : y.2 < x.2
        · simp [h1, h2, h3, h4]
        · simp [h1, h2, h3, h4]
theorem ltOfT_f (x y : Int × Int) : ltOf cfT x y = false ↔ ¬ ltT x y := by
  rw [← ltOfT, Bool.not_eq_true]
theorem swoT : Go.Sort.SWO (ltOf cfT) := {
  irrefl := fun x => by rw [ltOfT_f]; unfold ltT; omega
  trans := fun x y z h1 h2 => by rw [ltOfT] at *; unfold ltT at *; omega
  ntrans := fun x y z h1 h2 => by rw [ltOfT_f] at *; unfold ltT at *; omega }
/-- what the operations of the order leave -/
def val42 (A : Nat) (a b c d r s : Int) : Nat → Option Value
  | 0 => some (.pointer (some ⟨A, 0, none⟩))
  | 1 => some (.int .i64 a)
  | 2 => some (.pointer (some ⟨A + 1, 0, none⟩))
  | 3 => some (.int .i64 c)
  | 4 => some (.int .i64 r)
  | 5 => some (.pointer (some ⟨A, 1, none⟩))
  | 6 => some (.int .i64 b)
  | 7 => some (.pointer (some ⟨A + 1, 1, none⟩))
  | 8 => some (.int .i64 d)
  | 9 => some (.int .i64 s)
  | 11 => some (.int .i64 (or2 r s))
  | 12 => some (.int .i64 (or2 r s))
  | _ => none
def I42 (r s : Int) : Nat → Value → World → Prop
  | 10, v, W => ∃ g, v = .slice (some ⟨g, 0, none⟩) 2 2 ∧ W.heap[g]? = some (.cells #[.int .i64 r, .int .i64 s] 3 (0, 0))
  | _, _, _ => True
theorem I42s {r s : Int} : ∀ i v W W', I42 r s i v W → Grown W W' → I42 r s i v W' := fun i v W W' h hg => by
  unfold I42 at h ⊢
  split
  · obtain ⟨g, h1, h2⟩ := h
    exact ⟨g, h1, (hg.below.block _ (blk_lt h2)).trans h2⟩
  · trivial
set_option maxHeartbeats 2000000 in
theorem closure42 (x y : Int × Int) (W : World) : Calls Tryd.prog 42 #[.agg #[.int .i64 x.1, .int .i64 x.2], .agg #[.int .i64 y.1, .int .i64 y.2]] W fun e w' => e = .returned (.int .i64 (cfT x y)) ∧ ∃ q os', w' = Go.Sort.grow (W.drewN q) os' := by
  have hcon := fun W' => Tryd.cmp_Compare_int x.1 y.1 W'
  have hcon2 := fun W' => Tryd.cmp_Compare_int x.2 y.2 W'
  unfold cfT
  obtain ⟨a, b⟩ := x
  obtain ⟨c, d⟩ := y
  simp only at hcon hcon2 ⊢
  generalize Lib.compareInt a c = r at hcon ⊢
  generalize Lib.compareInt b d = s at hcon2 ⊢
  go_enter Tryd.func42, Tryd.ntmps42
  go_wp2
  obtain ⟨X, hX⟩ : ∃ X, X = (W.alloc (.cells #[.int .i64 a, .int .i64 b] 77)).alloc (.cells #[.int .i64 c, .int .i64 d] 77) := ⟨_, rfl⟩
  have h0 : X.heap[W.heap.size]? = some (.cells #[.int .i64 a, .int .i64 b] 77 (0, 0)) := by rw [hX]; exact (Below.heap_alloc _ _ _ (by simp)).trans (heap_alloc_new _ _)
  have h1 : X.heap[W.heap.size + 1]? = some (.cells #[.int .i64 c, .int .i64 d] 77 (0, 0)) := by rw [hX]; simpa using heap_alloc_new (W.alloc (.cells #[.int .i64 a, .int .i64 b] 77)) (.cells #[.int .i64 c, .int .i64 d] 77)
  have HX : Hid (Grown W X) := by show Grown _ _; rw [hX]; exact ((Grown.refl _).alloc _).alloc _
  rw [← hX]
  clear hX
  have c0 : X.cell? ⟨W.heap.size, 0, none⟩ = some (.int .i64 a) := by rw [cell_of h0]; rfl
  have c1 : X.cell? ⟨W.heap.size, 1, none⟩ = some (.int .i64 b) := by rw [cell_of h0]; rfl
  have d0 : X.cell? ⟨W.heap.size + 1, 0, none⟩ = some (.int .i64 c) := by rw [cell_of h1]; rfl
  have d1 : X.cell? ⟨W.heap.size + 1, 1, none⟩ = some (.int .i64 d) := by rw [cell_of h1]; rfl
  clear h0 h1
  refine wp_region_inv mixed (by kernel_rfl) (by kernel_rfl) (by kernel_rfl) (JG X (val42 W.heap.size a b c d r s) (I42 r s)) JG.start ⟨?_, ?_, ?_, ?_, ?_, ?_, ?_, ?_, ?_, ?_, ?_, ?_, ?_, trivial⟩ ?_
  · as_aux_lemma =>
      intro aA wx p vs hJ hdep hpi hval hfr K hK
      rw [if_pos (show Region.wanted _ _ = true from rfl)]
      have zd0 : aA.tmps.getD 2 undef = .pointer (some ⟨W.heap.size, 0, none⟩) := hfr 2 (by kernel_rfl)
      have hJ' := hJ.step I42s 0 (Grown.refl _) (fun x hx => by injection hx) trivial
      clear hval hfr hdep hJ
      simp only [Array.getD_eq_getD_getElem?] at zd0
      go_simp
      exact hK _ _ hJ'
  · as_aux_lemma =>
      intro aA wx p vs hJ hdep hpi hval hfr K hK
      rw [if_pos (show Region.wanted _ _ = true from rfl)]
      have zd0 : aA.tmps.getD 5 undef = .pointer (some ⟨W.heap.size, 0, none⟩) := (hval 0 _ 5 (hdep 0 (by kernel_rfl)) (by rfl) rfl).trans (hJ.v 0 _ rfl (hdep 0 (by kernel_rfl)))
      have cc := hJ.g.cellv c0
      have hJ' := hJ.step I42s 1 (Grown.refl _) (fun x hx => by injection hx) trivial
      clear hval hfr hdep hJ
      simp only [Array.getD_eq_getD_getElem?] at zd0
      go_simp
      exact hK _ _ hJ'
  · as_aux_lemma =>
      intro aA wx p vs hJ hdep hpi hval hfr K hK
      rw [if_pos (show Region.wanted _ _ = true from rfl)]
      have zd0 : aA.tmps.getD 3 undef = .pointer (some ⟨W.heap.size + 1, 0, none⟩) := hfr 3 (by kernel_rfl)
      have hJ' := hJ.step I42s 2 (Grown.refl _) (fun x hx => by injection hx) trivial
      clear hval hfr hdep hJ
      simp only [Array.getD_eq_getD_getElem?] at zd0
      go_simp
      exact hK _ _ hJ'
  · as_aux_lemma =>
      intro aA wx p vs hJ hdep hpi hval hfr K hK
      rw [if_pos (show Region.wanted _ _ = true from rfl)]
      have zd0 : aA.tmps.getD 7 undef = .pointer (some ⟨W.heap.size + 1, 0, none⟩) := (hval 2 _ 7 (hdep 2 (by kernel_rfl)) (by rfl) rfl).trans (hJ.v 2 _ rfl (hdep 2 (by kernel_rfl)))
      have cc := hJ.g.cellv d0
      have hJ' := hJ.step I42s 3 (Grown.refl _) (fun x hx => by injection hx) trivial
      clear hval hfr hdep hJ
      simp only [Array.getD_eq_getD_getElem?] at zd0
      go_simp
      exact hK _ _ hJ'
  · as_aux_lemma =>
      intro aA wx p vs hJ hdep hpi hval hfr K hK
      rw [if_pos (show Region.wanted _ _ = true from rfl)]
      have zd0 : aA.tmps.getD 6 undef = .int .i64 a := (hval 1 _ 6 (hdep 1 (by kernel_rfl)) (by rfl) rfl).trans (hJ.v 1 _ rfl (hdep 1 (by kernel_rfl)))
      have zd1 : aA.tmps.getD 8 undef = .int .i64 c := (hval 3 _ 8 (hdep 3 (by kernel_rfl)) (by rfl) rfl).trans (hJ.v 3 _ rfl (hdep 3 (by kernel_rfl)))
      have HJ := Hid.mk' hJ
      clear hval hfr hdep hJ
      simp only [Array.getD_eq_getD_getElem?] at zd0 zd1
      go_simp
      refine (hcon _).mono ?_
      rintro e w' ⟨rfl, rfl⟩
      exact hK _ _ (HJ.out.step I42s 4 (Grown.refl _) (fun x hx => by injection hx) trivial)
  · as_aux_lemma =>
      intro aA wx p vs hJ hdep hpi hval hfr K hK
      rw [if_pos (show Region.wanted _ _ = true from rfl)]
      have zd0 : aA.tmps.getD 2 undef = .pointer (some ⟨W.heap.size, 0, none⟩) := hfr 2 (by kernel_rfl)
      have hJ' := hJ.step I42s 5 (Grown.refl _) (fun x hx => by injection hx) trivial
      clear hval hfr hdep hJ
      simp only [Array.getD_eq_getD_getElem?] at zd0
      go_simp
      exact hK _ _ hJ'
  · as_aux_lemma =>
      intro aA wx p vs hJ hdep hpi hval hfr K hK
      rw [if_pos (show Region.wanted _ _ = true from rfl)]
      have zd0 : aA.tmps.getD 10 undef = .pointer (some ⟨W.heap.size, 1, none⟩) := (hval 5 _ 10 (hdep 5 (by kernel_rfl)) (by rfl) rfl).trans (hJ.v 5 _ rfl (hdep 5 (by kernel_rfl)))
      have cc := hJ.g.cellv c1
      have hJ' := hJ.step I42s 6 (Grown.refl _) (fun x hx => by injection hx) trivial
      clear hval hfr hdep hJ
      simp only [Array.getD_eq_getD_getElem?] at zd0
      go_simp
      exact hK _ _ hJ'
  · as_aux_lemma =>
      intro aA wx p vs hJ hdep hpi hval hfr K hK
      rw [if_pos (show Region.wanted _ _ = true from rfl)]
      have zd0 : aA.tmps.getD 3 undef = .pointer (some ⟨W.heap.size + 1, 0, none⟩) := hfr 3 (by kernel_rfl)
      have hJ' := hJ.step I42s 7 (Grown.refl _) (fun x hx => by injection hx) trivial
      clear hval hfr hdep hJ
      simp only [Array.getD_eq_getD_getElem?] at zd0
      go_simp
      exact hK _ _ hJ'
  · as_aux_lemma =>
      intro aA wx p vs hJ hdep hpi hval hfr K hK
      rw [if_pos (show Region.wanted _ _ = true from rfl)]
      have zd0 : aA.tmps.getD 12 undef = .pointer (some ⟨W.heap.size + 1, 1, none⟩) := (hval 7 _ 12 (hdep 7 (by kernel_rfl)) (by rfl) rfl).trans (hJ.v 7 _ rfl (hdep 7 (by kernel_rfl)))
      have cc := hJ.g.cellv d1
      have hJ' := hJ.step I42s 8 (Grown.refl _) (fun x hx => by injection hx) trivial
      clear hval hfr hdep hJ
      simp only [Array.getD_eq_getD_getElem?] at zd0
      go_simp
      exact hK _ _ hJ'
  · as_aux_lemma =>
      intro aA wx p vs hJ hdep hpi hval hfr K hK
      rw [if_pos (show Region.wanted _ _ = true from rfl)]
      have zd0 : aA.tmps.getD 11 undef = .int .i64 b := (hval 6 _ 11 (hdep 6 (by kernel_rfl)) (by rfl) rfl).trans (hJ.v 6 _ rfl (hdep 6 (by kernel_rfl)))
      have zd1 : aA.tmps.getD 13 undef = .int .i64 d := (hval 8 _ 13 (hdep 8 (by kernel_rfl)) (by rfl) rfl).trans (hJ.v 8 _ rfl (hdep 8 (by kernel_rfl)))
      have HJ := Hid.mk' hJ
      clear hval hfr hdep hJ
      simp only [Array.getD_eq_getD_getElem?] at zd0 zd1
      go_simp
      refine (hcon2 _).mono ?_
      rintro e w' ⟨rfl, rfl⟩
      exact hK _ _ (HJ.out.step I42s 9 (Grown.refl _) (fun x hx => by injection hx) trivial)
  · as_aux_lemma =>
      intro aA wx p vs hJ hdep hpi hval hfr K hK
      rw [if_pos (show Region.wanted _ _ = true from rfl)]
      have zd0 : aA.tmps.getD 9 undef = .int .i64 r := (hval 4 _ 9 (hdep 4 (by kernel_rfl)) (by rfl) rfl).trans (hJ.v 4 _ rfl (hdep 4 (by kernel_rfl)))
      have zd1 : aA.tmps.getD 14 undef = .int .i64 s := (hval 9 _ 14 (hdep 9 (by kernel_rfl)) (by rfl) rfl).trans (hJ.v 9 _ rfl (hdep 9 (by kernel_rfl)))
      have HJ := Hid.mk' hJ
      clear hval hfr hdep hJ
      simp only [Array.getD_eq_getD_getElem?] at zd0 zd1
      go_simp
      exact hK _ _ (HJ.out.step I42s 10 ((Grown.refl _).alloc _) (fun x hx => by cases hx) ⟨_, rfl, heap_alloc_new _ _⟩)
  · as_aux_lemma =>
      intro aA wx p vs hJ hdep hpi hval hfr K hK
      rw [if_pos (show Region.wanted _ _ = true from rfl)]
      obtain ⟨gg, hgg, hgh⟩ := hJ.e 10 (hdep 10 (by kernel_rfl))
      have zd0 : aA.tmps.getD 15 undef = .slice (some ⟨gg, 0, none⟩) 2 2 := (hval 10 _ 15 (hdep 10 (by kernel_rfl)) (by rfl) rfl).trans hgg
      have HO := Hid.mk' (or_any gg r s wx (heap_cellv hgh rfl) (heap_cellv hgh rfl))
      have HJ := Hid.mk' hJ
      clear hval hfr hdep hJ
      simp only [Array.getD_eq_getD_getElem?] at zd0
      go_simp
      refine HO.out.mono ?_
      rintro e w' ⟨rfl, rfl⟩
      exact hK _ _ (HJ.out.step I42s 11 (Grown.refl _) (fun x hx => by injection hx) trivial)
  · as_aux_lemma =>
      intro aA wx p vs hJ hdep hpi hval hfr K hK
      rw [if_pos (show Region.wanted _ _ = true from rfl)]
      have zd0 : aA.tmps.getD 16 undef = .int .i64 (or2 r s) := (hval 11 _ 16 (hdep 11 (by kernel_rfl)) (by rfl) rfl).trans (hJ.v 11 _ rfl (hdep 11 (by kernel_rfl)))
      have hJ' := hJ.step I42s 12 (Grown.refl _) (fun x hx => by injection hx) trivial
      clear hval hfr hdep hJ
      simp only [Array.getD_eq_getD_getElem?] at zd0
      go_simp
      exact hK _ _ hJ'
  · intro vs wf hJ
    rw [putL_eq]
    simp only [putsL, List.set_cons_zero, List.set_cons_succ, Nat.zero_add, Nat.reduceAdd]
    have v12 := hJ.v 12 _ rfl rfl
    rw [v12]
    have HG := Hid.mk' (HX.out.trans hJ.g)
    clear hJ v12
    go_wp2
    go_ret
    exact ⟨rfl, HG.out⟩
end Go.Proofs
