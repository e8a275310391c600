/-
  merged: ranges whose beginnings rise become one row of ranges that are apart.
-/
import Derived.RangeFuncNested
import Derived.RangeFuncBound
import Derived.RangeFuncCalls
import Derived.RangeFuncLeaves
import Derived.Shelf.Abstract
import Derived.Shelf.RegionOpen
import Derived.WalkKit
import Derived.WalkSpells
import Derived.WalkLawsBesides
import Derived.OwnWalkIn
import Derived.TacticsInMore
import Derived.LoopNIn
import Derived.LoopIn
import Derived.BigQuiet
import Derived.RegionIn
import Derived.Deep.QuietTactic
import Derived.Deep.RegionWith
import Derived.Lib.OthersKept
import Derived.Maps.AppendAt
import Derived.Lib.SmallJoins
import Derived.Test.YtmgkolelcflcbaaDoorVe
namespace Go.Proofs
open Go.RowKit Go.Shelf

set_option maxRecDepth 100000
attribute [local go_sem] Oper.semAt_some
theorem cells_set {w : World} {g : Nat} {cur : Array Value} {t : TypeId} {j : Nat} {u : Value} (h : w.heap[g]? = some (.cells cur t (0, 0))) : (w.setCell ⟨g, j, none⟩ u).heap[g]? = some (.cells (cur.setIfInBounds j u) t (0, 0)) := by
  have hlt := lt_of_block h
  have h' : w.heap[g] = .cells cur t (0, 0) := by simpa [Array.getElem?_eq_getElem hlt] using h
  show (w.heap.modify g _)[g]? = _
  rw [Array.getElem?_eq_getElem (by simpa using hlt), Array.getElem_modify_self, h']
  rfl
/-- the last range of a row of the call's own ends elsewhere -/
theorem own_set {w : World} {base g n cap : Nat} {q : List (Int × Int)} {x y b : Int} (h : OwnR w base (.slice (some ⟨g, 0, none⟩) n cap) (q ++ [(x, y)])) : OwnR (w.setCell ⟨g, q.length * 2 + 1, none⟩ (.int .i64 b)) base (.slice (some ⟨g, 0, none⟩) n cap) (q ++ [(x, b)]) := by
  obtain ⟨h1, h2⟩ := h
  refine ⟨by rw [fl_length], ?_⟩
  rcases h2 with ⟨h2, _⟩ | ⟨g', cap', cur, hv, hg, hh, hc, hm, hs, ht⟩
  · cases h2
  · cases hv
    refine .inr ⟨g, cap, cur.setIfInBounds (q.length * 2 + 1) (.int .i64 b), by simp, hg, cells_set hh, by simpa using hc, hm, by simpa using hs, ?_⟩
    have hl : (q ++ [(x, b)]).length = (q ++ [(x, y)]).length := by simp
    rw [hl, Array.toList_setIfInBounds, List.take_set, ht, fl_append, fl_append]
    have hz : (fl q).length = q.length * 2 := fl_length q
    rw [List.set_append_right _ _ (by omega), hz]
    simp [fl]
theorem own_cells {w : World} {base g n cap : Nat} {q : List (Int × Int)} {x y : Int} (h : OwnR w base (.slice (some ⟨g, 0, none⟩) n cap) (q ++ [(x, y)])) : w.cell? ⟨g, q.length * 2, none⟩ = some (.int .i64 x) ∧ w.cell? ⟨g, q.length * 2 + 1, none⟩ = some (.int .i64 y) ∧ w.frozen? ⟨g, q.length * 2 + 1, none⟩ = false := by
  have hr := OwnR.reads h q.length (by simp)
  have hx : rg (q ++ [(x, y)]) q.length = (x, y) := by simp [rg]
  rw [hx, Nat.zero_add] at hr
  refine ⟨hr.1, hr.2, ?_⟩
  rcases h.2 with ⟨h2, _⟩ | ⟨g', cap', cur, hv, hg, hh, _⟩
  · cases h2
  · cases hv
    simp [World.frozen?, hh]
/-! the ranges, made one -/
theorem hasU_append (l k : List (Int × Int)) (u : Int) : hasU (l ++ k) u ↔ hasU l u ∨ hasU k u := by
  unfold hasU
  simp only [List.mem_append]
  constructor
  · rintro ⟨x, hx | hx, h⟩
    · exact .inl ⟨x, hx, h⟩
    · exact .inr ⟨x, hx, h⟩
  · rintro (⟨x, hx, h⟩ | ⟨x, hx, h⟩)
    · exact ⟨x, .inl hx, h⟩
    · exact ⟨x, .inr hx, h⟩
theorem hasU_one (a b u : Int) : hasU [(a, b)] u ↔ a ≤ u ∧ u ≤ b := by simp [hasU]
theorem hasU_nil (u : Int) : ¬ hasU [] u := by simp [hasU]
theorem good_snoc {q : List (Int × Int)} {x : Int × Int} : Good (q ++ [x]) ↔ Good q ∧ Whole x ∧ ∀ y ∈ q, y.2 + 2 ≤ x.1 := by
  unfold Good
  rw [List.pairwise_append]
  constructor
  · rintro ⟨h1, h2, _, h3⟩
    exact ⟨⟨fun y hy => h1 y (by simp [hy]), h2⟩, h1 x (by simp), fun y hy => h3 y hy x (by simp)⟩
  · rintro ⟨⟨h1, h2⟩, h3, h4⟩
    refine ⟨fun y hy => ?_, h2, by simp, fun y hy z hz => ?_⟩
    · rw [List.mem_append, List.mem_singleton] at hy
      rcases hy with hy | rfl
      · exact h1 y hy
      · exact h3
    · rw [List.mem_singleton] at hz; subst hz; exact h4 y hy
/-- r is the row of the ranges l, of which none begins behind c -/
def Mrg (l r : List (Int × Int)) : Prop := Good r ∧ (∀ u, hasU r u ↔ hasU l u) ∧ r.length ≤ l.length
theorem mrg_new {l r : List (Int × Int)} {a b : Int} (h : Mrg l r) (hw : Whole (a, b)) (hn : ∀ y ∈ r, y.2 + 2 ≤ a) : Mrg (l ++ [(a, b)]) (r ++ [(a, b)]) :=
  ⟨good_snoc.2 ⟨h.1, hw, hn⟩, fun u => by rw [hasU_append, hasU_append, h.2.1 u], by have := h.2.2; simp; omega⟩
theorem mrg_more {l q : List (Int × Int)} {x y a b : Int} (h : Mrg l (q ++ [(x, y)])) (hw : Whole (a, b)) (h1 : x ≤ a) (h2 : a ≤ y + 1) : Mrg (l ++ [(a, b)]) (q ++ [(x, max y b)]) := by
  obtain ⟨hG, hM, hL⟩ := h
  rw [good_snoc] at hG
  obtain ⟨g1, g2, g3⟩ := hG
  have e1 := (whole_iff _ _).1 g2
  have e2 := (whole_iff _ _).1 hw
  refine ⟨good_snoc.2 ⟨g1, ?_, g3⟩, fun u => ?_, by simp at hL ⊢; omega⟩
  · rw [whole_iff]; omega
  · have := hM u
    rw [hasU_append, hasU_one] at this ⊢
    rw [hasU_append, hasU_one, ← this]
    constructor
    · rintro (h | h)
      · exact .inl (.inl h)
      · by_cases hy : u ≤ y
        · exact .inl (.inr ⟨h.1, hy⟩)
        · exact .inr (by omega)
    · rintro ((h | h) | h)
      · exact .inl h
      · exact .inr (by omega)
      · exact .inr (by omega)
theorem new_cells (W : World) (x y : Value) (t : TypeId) (h : Nat) (hh : W.heap.size = h) : (W.alloc (.cells #[x, y] t)).cell? ⟨h, 0, none⟩ = some x ∧ (W.alloc (.cells #[x, y] t)).cell? ⟨h, 1, none⟩ = some y := by subst hh; simp
theorem size2 {B : Nat} (W : World) (n : Nat) (h : B ≤ W.heap.size) {o o' : Obj} : B ≤ (((W.alloc o).drewN n).alloc o').heap.size := by
  rw [World.size_alloc]
  show B ≤ (W.alloc o).heap.size + 1
  rw [World.size_alloc]; omega
theorem nil_or_snoc (r : List (Int × Int)) : r = [] ∨ ∃ q x, r = q ++ [x] := by
  rcases List.eq_nil_or_concat r with h | ⟨q, x, h⟩
  · exact .inl h
  · exact .inr ⟨q, x, by simpa using h⟩
def Asc (l : List (Int × Int)) : Prop := l.Pairwise (fun x y => x.1 ≤ y.1)
/-- the ranges of r begin no later than those of l from k on -/
def Ahead (l r : List (Int × Int)) (k : Nat) : Prop := ∀ x ∈ r, ∀ j, k ≤ j → j < l.length → x.1 ≤ (rg l j).1
theorem ahead_succ {l r r' : List (Int × Int)} {k : Nat} (hA : Ahead l r k) (hs : Asc l) (hk : k < l.length) (hr : ∀ x ∈ r', x.1 = (rg l k).1 ∨ ∃ y ∈ r, x.1 = y.1) : Ahead l r' (k + 1) := by
  intro x hx j hj hjl
  rcases hr x hx with h | ⟨y, hy, h⟩
  · rw [h, rg_lt hk, rg_lt hjl]
    exact List.pairwise_iff_getElem.1 hs k j hk hjl (by omega)
  · rw [h]; exact hA y hy j (by omega) hjl
theorem take_rg {l : List (Int × Int)} {k : Nat} (hk : k < l.length) : l.take (k + 1) = l.take k ++ [rg l k] := by
  rw [List.take_succ_eq_append_getElem hk, rg_lt hk]
set_option maxHeartbeats 2000000 in
theorem merged_walk (g o c : Nat) (l : List (Int × Int)) (w : World) (h : Reads w g o l) (hg : g < w.heap.size) (hW : ∀ x ∈ l, Whole x) (hs : Asc l) (hn : l.length < 8796093022208) :
    Calls Tryd.prog 47 #[.slice (some ⟨g, o, none⟩) l.length c] w fun e w' => ∃ v r, e = .returned v ∧ Mrg l r ∧ OwnR w' w.heap.size v r ∧ Below w.heap.size w w' := by
  obtain ⟨n, hnn⟩ : ∃ n, l.length = n := ⟨_, rfl⟩
  have HN : Hid (l.length = n) := hnn
  rw [hnn] at hn ⊢
  have HH : Hid (Reads w g o l) := h
  have HW : Hid (∀ x ∈ l, Whole x) := hW
  have HS : Hid (Asc l) := hs
  have hm := mixed
  clear h hW hs hnn
  go_enter Tryd.func47, Tryd.ntmps47
  go_wp2
  go_loopw [3, 9] (fun vs vi wr => ∃ k : Nat, ∃ r : List (Int × Int), vi = .int .i64 k ∧ k ≤ n ∧ Hid (Mrg (l.take k) r) ∧ Hid (Ahead l r k) ∧ OwnR wr w.heap.size vs r ∧ Below w.heap.size w wr) (fun _ vi _ => n - (intOf vi).toNat)
  case atStart => exact ⟨0, [], rfl, by omega, ⟨good_nil, fun u => Iff.rfl, by simp⟩, fun x hx => by simp at hx, OwnR.nil _ _, Below.refl _ _⟩
  case round =>
    obtain ⟨k, r, rfl, hk, hM, hA, hO, hB⟩ := hrel
    have hz := hB.size
    by_cases hlt : k < n
    · have hlt' : (k : Int) < (n : Int) := by omega
      have hpos : (0 : Int) ≤ (k : Int) := by omega
      have hkl : k < l.length := by rw [HN.out]; exact hlt
      obtain ⟨a, b, hab⟩ : ∃ a b : Int, rg l k = (a, b) := ⟨_, _, rfl⟩
      have hrd := HH.out.below hB hg
      obtain ⟨ca, cb⟩ := hrd k hkl
      rw [hab] at ca cb
      simp only at ca cb
      have HWk : Hid (Whole (a, b)) := by show Whole (a, b); rw [← hab, rg_lt hkl]; exact HW.out _ (List.getElem_mem hkl)
      have HTk : Hid (l.take (k + 1) = l.take k ++ [(a, b)]) := by have := take_rg hkl; rw [hab] at this; exact this
      have HAB : Hid (rg l k = (a, b)) := hab
      have hwb : 0 ≤ a ∧ b ≤ 1114367 := by have := (whole_iff _ _).1 HWk.out; omega
      obtain ⟨w1, w2⟩ := hwb
      have hrl : r.length ≤ k := by have := hM.out.2.2; rw [List.length_take] at this; omega
      clear hab hrd
      rcases nil_or_snoc r with rfl | ⟨q, ⟨x, y⟩, rfl⟩
      · rcases Joins.ownsRow_forms hO with ⟨rfl, _⟩ | ⟨gg, cap, rfl⟩
        all_goals
          go_wp2
          go_quiet (fail)
          go_wp2_with (at_builtin; go_must (refine push_R rfl _ _ 22 rfl Tryd.underlying22 w.heap.size _ [] rfl (OwnR.alloc (show OwnR ((wr.alloc _).drewN nq) _ _ _ from hO.alloc _) _) _ _ a b rfl (new_cells ((wr.alloc _).drewN nq) _ _ _ _ (World.size_alloc wr _)).1 (new_cells ((wr.alloc _).drewN nq) _ _ _ _ (World.size_alloc wr _)).2 (by simp) (size2 wr nq hz) ?_); intro v' w3 hO1 _ hb1)
          refine ⟨⟨k + 1, [] ++ [(a, b)], by go_num, by omega, ?_, ?_, hO1, ?_⟩, by simp [intOf]; omega⟩
          · show Mrg _ _
            rw [HTk.out]; exact mrg_new hM.out HWk.out (fun y hy => by simp at hy)
          · exact ahead_succ hA.out HS.out hkl (fun x hx => .inl (by simp at hx; rw [hx, HAB.out]))
          · exact ((below_drewN (hB.alloc hz _) nq).alloc (by show w.heap.size ≤ (wr.alloc _).heap.size; rw [World.size_alloc]; omega) _).trans hb1
      · obtain ⟨gg, cap, rfl⟩ := Joins.ownsRow_form hO (by simp)
        obtain ⟨cx, cy, fz⟩ := own_cells hO
        obtain ⟨m, hm1⟩ : ∃ m, (q ++ [(x, y)]).length = m := ⟨_, rfl⟩
        obtain ⟨j, hj⟩ : ∃ j, q.length = j := ⟨_, rfl⟩
        have hmj : m = j + 1 := by rw [← hm1, ← hj]; simp
        have HJ : Hid (q.length = j) := hj
        rw [hm1] at hO
        simp only [hm1]
        rw [hj] at cx cy fz
        have hq : (m : Int) - 1 = (j : Int) := by omega
        have hm0 : (0 : Int) < (m : Int) := by omega
        have hm2 : 0 < m := by omega
        have hj0 : (0 : Int) ≤ (j : Int) := by omega
        have hjm : (j : Int) < (m : Int) := by omega
        have hyw : Whole (x, y) := hM.out.1.1 _ (by simp)
        have hyb : 0 ≤ x ∧ y ≤ 1114367 ∧ x ≤ y := by have := (whole_iff _ _).1 hyw; omega
        obtain ⟨y1, y2, y3⟩ := hyb
        have hxa : x ≤ a := by have := hA.out (x, y) (by simp) k (Nat.le_refl _) hkl; rw [HAB.out] at this; exact this
        have HXA : Hid (x ≤ a) := hxa
        have hml : m ≤ k := by rw [← hm1]; exact hrl
        have dy := fun ob => cell_up cy ob
        clear hm1 hj hmj hyw hxa hrl cx
        by_cases hc : a ≤ y + 1
        · go_wp2
          go_quiet (fail)
          go_wp2
          obtain ⟨W, hWW⟩ : ∃ W, (wr.alloc (.cells #[.int .i64 a, .int .i64 b] 38)).drewN nq = W := ⟨_, rfl⟩
          have HWW : Hid ((wr.alloc (.cells #[.int .i64 a, .int .i64 b] 38)).drewN nq = W) := hWW
          have e1 : W.cell? ⟨gg, j * 2 + 1, none⟩ = some (.int .i64 y) := by rw [← hWW]; exact cell_up cy _
          have e2 : W.cell? ⟨wr.heap.size, 1, none⟩ = some (.int .i64 b) := by rw [← hWW]; exact (new_cells wr _ _ _ _ rfl).2
          have e3 : W.frozen? ⟨gg, j * 2 + 1, none⟩ = false := by rw [← hWW]; exact (frozen?_alloc_cells wr _ _ _).trans fz
          have HO : Hid (OwnR W w.heap.size (.slice (some ⟨gg, 0, none⟩) m cap) (q ++ [(x, y)])) := by rw [← hWW]; exact hO.alloc _
          have HB : Hid (Below w.heap.size w W) := by rw [← hWW]; exact below_drewN (hB.alloc hz _) nq
          have hgb : w.heap.size ≤ gg := (World.ownsRow.lt hO gg rfl).1
          rw [hWW]
          clear hWW dy cy fz
          go_region
          go_wp2
          refine ⟨⟨k + 1, q ++ [(x, max y b)], by go_num, by omega, ?_, ?_, ?_, ?_⟩, by simp [intOf]; omega⟩
          · show Mrg _ _
            rw [HTk.out]; exact mrg_more hM.out HWk.out HXA.out hc
          · refine ahead_succ hA.out HS.out hkl (fun z hz => ?_)
            rw [List.mem_append, List.mem_singleton] at hz
            rcases hz with hz | rfl
            · exact .inr ⟨z, by simp [hz], rfl⟩
            · exact .inr ⟨(x, y), by simp, rfl⟩
          · have := own_set (b := max y b) HO.out
            rw [HJ.out] at this
            exact this
          · exact (HB.out.setCell (p := ⟨gg, j * 2 + 1, none⟩) hgb _).drew
        · have hd : decide (a ≤ y + 1) = false := by simp; omega
          have hO' : OwnR (wr.alloc (.cells #[.int .i64 a, .int .i64 b] 38)) w.heap.size (.slice (some ⟨gg, 0, none⟩) m cap) (q ++ [(x, y)]) := hO.alloc _
          have hql : (q ++ [(x, y)]).length + 1 ≤ 8796093022208 := by have := hM.out.2.2; rw [List.length_take] at this; omega
          have HO : Hid (OwnR (wr.alloc (.cells #[.int .i64 a, .int .i64 b] 38)) w.heap.size (.slice (some ⟨gg, 0, none⟩) m cap) (q ++ [(x, y)])) := hO'
          have HC : Hid (y + 1 < a) := by show y + 1 < a; omega
          clear hO' hc
          go_wp2
          go_quiet (fail)
          go_wp2_with (at_builtin; go_must (refine push_R rfl _ _ 22 rfl Tryd.underlying22 w.heap.size _ (q ++ [(x, y)]) rfl (OwnR.alloc (show OwnR ((wr.alloc _).drewN nq) _ _ _ from HO.out) _) _ _ a b rfl (new_cells ((wr.alloc _).drewN nq) _ _ _ _ (World.size_alloc wr _)).1 (new_cells ((wr.alloc _).drewN nq) _ _ _ _ (World.size_alloc wr _)).2 hql (size2 wr nq hz) ?_); intro v' w3 hO1 _ hb1)
          refine ⟨⟨k + 1, q ++ [(x, y)] ++ [(a, b)], by go_num, by omega, ?_, ?_, hO1, ?_⟩, by simp [intOf]; omega⟩
          · show Mrg _ _
            rw [HTk.out]
            refine mrg_new hM.out HWk.out (fun z hz => ?_)
            have hg := good_snoc.1 hM.out.1
            have hcc := HC.out
            rw [List.mem_append, List.mem_singleton] at hz
            rcases hz with hz | rfl
            · have := hg.2.2 z hz
              simp only at this
              omega
            · simp only; omega
          · refine ahead_succ hA.out HS.out hkl (fun z hz => ?_)
            rw [List.mem_append, List.mem_singleton] at hz
            rcases hz with hz | rfl
            · exact .inr ⟨z, hz, rfl⟩
            · exact .inl (by rw [HAB.out])
          · exact ((below_drewN (hB.alloc hz _) nq).alloc (by show w.heap.size ≤ (wr.alloc _).heap.size; rw [World.size_alloc]; omega) _).trans hb1
    · have hfin : Mrg l r := by have := hM.out; rw [List.take_of_length_le (by rw [HN.out]; omega)] at this; exact this
      have HF : Hid (Mrg l r) := hfin
      clear hfin hM hA
      go_wp2
      go_ret
      exact ⟨_, r, rfl, HF.out, hO, hB⟩
set_option maxHeartbeats 1000000 in
theorem merged_nil (a : Option Addr) (c : Nat) (w : World) : Calls Tryd.prog 47 #[.slice a 0 c] w fun e w' => e = .returned (.slice none 0 0) ∧ w' = w := by
  go_enter Tryd.func47, Tryd.ntmps47
  go_wp2
  go_loopw [3, 9] (fun vs vi wr => vi = .int .i64 0 ∧ vs = .slice none 0 0 ∧ wr = w) (fun _ _ _ => 0)
  case atStart => exact ⟨rfl, rfl, rfl⟩
  case round =>
    obtain ⟨rfl, rfl, rfl⟩ := hrel
    go_wp2
    go_ret
    exact ⟨rfl, rfl⟩
theorem merged_any (v : Value) (l : List (Int × Int)) (w : World) (h : Rs w v l) (hW : ∀ x ∈ l, Whole x) (hs : Asc l) (hn : l.length < 8796093022208) :
    Calls Tryd.prog 47 #[v] w fun e w' => ∃ v r, e = .returned v ∧ Mrg l r ∧ OwnR w' w.heap.size v r ∧ Below w.heap.size w w' := by
  obtain ⟨a, c, rfl, _, h⟩ := h
  rcases h with rfl | ⟨g, o, rfl, h⟩
  · refine (merged_nil a c w).mono ?_
    rintro e w' ⟨rfl, rfl⟩
    exact ⟨_, [], rfl, ⟨good_nil, fun u => Iff.rfl, Nat.le_refl _⟩, OwnR.nil _ _, Below.refl _ _⟩
  · by_cases h0 : l = []
    · subst h0
      refine (merged_nil _ c w).mono ?_
      rintro e w' ⟨rfl, rfl⟩
      exact ⟨_, [], rfl, ⟨good_nil, fun u => Iff.rfl, Nat.le_refl _⟩, OwnR.nil _ _, Below.refl _ _⟩
    · exact merged_walk g o c l w h (h.lt h0) hW hs hn
end Go.Proofs
