/-
  names: the document's example.
-/
import Derived.Shelf.Abstract
import Derived.Shelf.RegionOpen
import Derived.WalkKit
import Derived.WalkSpells
import Derived.WalkLawsBesides
import Derived.OwnWalk
import Derived.BigQuiet
import Derived.Deep.QuietTactic
import Derived.Deep.LoopGhost
import Derived.Deep.RegionWith
import Derived.Deep.AppendLies
import Derived.Deep.DeepCutAuto
import Derived.Laws.EntriesVeiled
import Derived.Lib.OthersKept
import Derived.Maps.AppendAt
import Derived.Maps.OwnSet
import Derived.StringKeys
import Derived.WalkMore
import Derived.Lib.SmallJoins
import Derived.Test.YtbacejefgpaabaaDoorNw
import Derived.Test.YtbacejefgpaabaaDoorNt
namespace Go.Proofs
open Go.RowKit Go.Shelf

set_option maxRecDepth 100000
attribute [local go_sem] Oper.semAt_some

theorem passes_first {W : World} (hT : Tab W) {lg : Nat} {ls : List (LV × LnK)} (hl : ls.length = 4) (hlg : lg < W.heap.size) (hLn : ∀ (j : Nat) (hj : j < ls.length), LnAt W lg (0 + j * 10) ls[j].1) (hOk : ∀ p ∈ ls, LineOk W p.1 p.2)
    (hPC : ∀ cc n ps, PassesC (ls.map Prod.snd) (fun _ => none) [[]] 0 cc n ps → cc = 0 ∧ n = 0 ∧ ∃ x1 x2 s, ps = [[x1], [x2]] ∧ x2.key = [[(97, 97), (101, 101)]] ∧ x2.res = [⟨3, 0, 0, s⟩]) :
    Calls Tryd.prog 17 #[.slice (some ⟨lg, 0, none⟩) 4 4] W fun e w' => ∃ pg cp rg rc kg kc xg xc A c, e = .returned (.tuple #[.slice (some ⟨pg, 0, none⟩) 2 cp, .int .i64 0, .int .i64 0]) ∧ (w'.cell? ⟨pg, 1, none⟩ = some (.slice (some ⟨rg, 0, none⟩) 1 rc) ∧ w'.cell? ⟨rg, 2, none⟩ = some (.slice (some ⟨kg, 0, none⟩) 1 kc) ∧ w'.cell? ⟨rg, 5, none⟩ = some (.slice (some ⟨xg, 0, none⟩) 1 xc) ∧ w'.cell? ⟨kg, 0, none⟩ = some (.slice A 2 c) ∧ Rs w' (.slice A 2 c) [(97, 97), (101, 101)] ∧ w'.cell? ⟨xg, 2, none⟩ = some (.int .i64 0)) ∧ Below W.heap.size W w' := by
  have h := passes_any lg 0 4 ls W hT (by omega) hlg hLn hOk
  rw [hl] at h
  refine h.mono ?_
  rintro e w' ⟨c, at', ps, a, n, cp, h1, rfl, h3, h4⟩
  obtain ⟨rfl, rfl, x1, x2, s, rfl, hk, hr⟩ := hPC _ _ _ h1
  obtain ⟨pg, rg, rc, kg, kc, xg, xc, sv, rfl, rfl, f1, f2, f3, f4, f5, f6⟩ := pass_facts (h3 rfl) hk hr
  have hf5 := f5
  obtain ⟨A, c, rfl, _⟩ := f5
  exact ⟨pg, cp, rg, rc, kg, kc, xg, xc, A, c, rfl, ⟨f1, f2, f3, f4, hf5, f6⟩, h4⟩
theorem passes_second {W : World} (hT : Tab W) {g dg eg : Nat} {k4 : LnK} (hb : W.heap[g]? = some (.cells (lnc 2 0 ⟨#[]⟩ false false nl (.slice (some ⟨dg, 0, none⟩) 1 1) nl (.slice (some ⟨eg, 0, none⟩) 1 1) 1).toArray 53 (0, 0))) (hOk : LineOk W ⟨2, 0, ⟨#[]⟩, false, false, none, some ⟨dg, 0, none⟩, none, some ⟨eg, 0, none⟩, 0, 1, 0, 1, 0, 1, 0, 1, 1⟩ k4)
    (hPC : ∀ cc n ps, PassesC [k4] (fun _ => none) [[]] 0 cc n ps → cc = 60 ∧ n = 0) : Calls Tryd.prog 17 #[.slice (some ⟨g, 0, none⟩) 1 1] W fun e w' => ∃ a n cp, e = .returned (.tuple #[.slice a n cp, .int .i64 0, .int .i64 60]) ∧ Below W.heap.size W w' := by
  refine (passes_any g 0 1 [(⟨2, 0, ⟨#[]⟩, false, false, none, some ⟨dg, 0, none⟩, none, some ⟨eg, 0, none⟩, 0, 1, 0, 1, 0, 1, 0, 1, 1⟩, k4)] W hT (show 1 ≤ 100000 by decide) (blk_lt hb) (fun j hj => ?_) (fun p hp => ?_)).mono ?_
  · obtain rfl : j = 0 := by have : j < 1 := hj; omega
    exact ⟨(cellB hb _).trans rfl, (cellB hb _).trans rfl, (cellB hb _).trans rfl, (cellB hb _).trans rfl, (cellB hb _).trans rfl, (cellB hb _).trans rfl, (cellB hb _).trans rfl, (cellB hb _).trans rfl, (cellB hb _).trans rfl, (cellB hb _).trans rfl⟩
  · have e : p = (⟨2, 0, ⟨#[]⟩, false, false, none, some ⟨dg, 0, none⟩, none, some ⟨eg, 0, none⟩, 0, 1, 0, 1, 0, 1, 0, 1, 1⟩, k4) := by simpa using hp
    rw [e]
    exact hOk
  · rintro e w' ⟨c, at', ps, a, n, cp, h1, rfl, _, h4⟩
    obtain ⟨rfl, rfl⟩ := hPC _ _ _ h1
    exact ⟨a, n, cp, rfl, h4⟩
theorem set_first {W : World} (hT : Tab W) {g : Nat} (hb : W.heap[g]? = some (.cells (itc 6 0 ⟨#[]⟩ nl 55295 57344 false 0).toArray 24 (0, 0))) : Calls Tryd.prog 9 #[itv 5 0 ⟨#[]⟩ (.slice (some ⟨g, 0, none⟩) 1 1) 0 0 false 0, .map none] W fun e w' => ∃ a c, e = .returned (.tuple #[.slice a 2 c, .int .i64 0]) ∧ Below W.heap.size W w' := by
  refine (set_any xS (.slice (some ⟨g, 0, none⟩) 1 1) [(⟨6, 0, ⟨#[]⟩, 55295, 57344, false, 0⟩, nl)] none (fun _ => none) W hT ⟨by decide, small_nm _ (by decide), ⟨_, _, _, rfl⟩, fun _ => ⟨g, 0, 1, rfl, by simp, fun p hp => ?_, fun _ _ => blk_lt hb, fun j hj => ?_⟩⟩ (.inl ⟨rfl, fun _ => rfl⟩)).mono ?_
  · have e : p = (⟨6, 0, ⟨#[]⟩, 55295, 57344, false, 0⟩, nl) := by simpa using hp
    rw [e]
    exact ⟨by decide, small_nm _ (by decide), _, _, _, rfl⟩
  · obtain rfl : j = 0 := by have : j < 1 := hj; omega
    exact itAtB hb 0 ⟨6, 0, ⟨#[]⟩, 55295, 57344, false, 0⟩ nl rfl
  · rintro e w' ⟨c, r, h1, ⟨v, rfl, h2⟩, h3⟩
    obtain ⟨rfl, rfl⟩ := shown_range rfl rfl ⟨rfl, rfl, rfl⟩ h1
    rw [if_pos rfl] at h2
    obtain ⟨A, cp, rfl, _⟩ := h2.rs
    exact ⟨A, cp, rfl, h3⟩
theorem set_second {W : World} (hT : Tab W) : Calls Tryd.prog 9 #[itv 1 55296 ⟨#[]⟩ nl 0 0 false 0, .map none] W fun e w' => e = .returned (.tuple #[.slice none 0 0, .int .i64 62]) ∧ Below W.heap.size W w' := by
  refine (set_any (xU 55296) nl [] none (fun _ => none) W hT (item_plain (by decide) (by decide) (by decide)) (.inl ⟨rfl, fun _ => rfl⟩)).mono ?_
  rintro e w' ⟨c, r, h1, ⟨v, rfl, h2⟩, h3⟩
  obtain rfl := shown_unit rfl rfl h1
  rw [if_neg (by decide)] at h2
  subst h2
  exact ⟨rfl, h3⟩
set_option maxHeartbeats 8000000 in
theorem shown_any (w : World) (hT : Tab w) : Calls Tryd.prog 6 #[] w fun e w' => e = .returned (.bool true) ∧ Below w.heap.size w w' := by
  have HTab : Hid (∀ W, Below w.heap.size w W → Tab W) := fun W h => hT.below h hT.pos
  have HA : Hid (∀ o, Below w.heap.size w (w.alloc o)) := fun o => (Below.refl _ _).alloc (Nat.le_refl _) _
  clear hT
  go_enter Tryd.func6, Tryd.ntmps6
  go_upto_region 2 with fail
  go_cut [2] (fun s2 wx => ∃ lg, s2 = .slice (some ⟨lg, 0, none⟩) 4 4 ∧ Hid (P35 wx (.slice (some ⟨lg, 0, none⟩) 4 4) ∧ Below w.heap.size w wx))
  case first =>
    rename_i hbig Jx Kz hj hx
    clear hbig
    refine wp_region_grows (by kernel_rfl) (by kernel_rfl) (by kernel_rfl) (by kernel_rfl) shI shI_ext ⟨?_, ?_, ?_, ?_, ?_, ?_, ?_, ?_, ?_, ?_, ?_, ?_, ?_, ?_, ?_, ?_, ?_, ?_, ?_, ?_, ?_, ?_, ?_, trivial⟩ ?_
    · as_aux_lemma =>
          clear hx hj HTab
          intro a W hw hp hf K hK
          clear hp hf
          go_simp
          refine (unit_any 97 W).mono ?_
          rintro e w' ⟨rfl, hb⟩
          exact hK _ _ hb rfl
    · as_aux_lemma =>
          clear hx hj HTab
          intro a W hw hp hf K hK
          clear hp hf
          go_simp
          refine (unit_any 101 W).mono ?_
          rintro e w' ⟨rfl, hb⟩
          exact hK _ _ hb rfl
    · as_aux_lemma =>
          clear hx hj HTab
          intro a W hw hp hf K hK
          have d0 : _ = _ := hp 0 (by kernel_rfl) _ _ (by rfl) rfl
          have d1 : _ = _ := hp 1 (by kernel_rfl) _ _ (by rfl) rfl
          clear hp hf
          refine step_slice rfl 22 24 2 _ rfl 8 Tryd.underlying22 (by kernel_rfl) (by kernel_rfl) (by decide) [itU 97, itU 101] ?_ (by intro v hm; simp only [List.mem_cons, List.not_mem_nil, or_false] at hm; rcases hm with rfl | rfl <;> rfl) rfl (by decide) (by decide) (hK _ _ (Ext_alloc _ _) ⟨W.heap.size, rfl, blk_new rfl⟩)
          rw [Array.toList_map]
          show [(0, a.tmps.getD 14 undef), (1, a.tmps.getD 15 undef)] = _
          rw [d0, d1]
          rfl
    · as_aux_lemma =>
          clear hx hj HTab
          intro a W hw hp hf K hK
          obtain ⟨g, d, h⟩ := hp 2 (by kernel_rfl) _ _ (by rfl) rfl
          clear hp hf
          exact step_value (v := itv 5 0 ⟨#[]⟩ (.slice (some ⟨g, 0, none⟩) 2 2) 0 0 false 0) (w' := W) rfl (fun _ _ h => by cases h) (rho [(16, (.slice (some ⟨g, 0, none⟩) 2 2))]) (rho_of (by intro p hm; simp only [List.mem_cons, List.not_mem_nil, or_false] at hm; rcases hm with rfl; exact d) (by kernel_rfl)) (by kernel_rfl) (hK _ _ (Below.refl _ _) ⟨_, rfl, g, rfl, h⟩)
    · as_aux_lemma =>
          clear hx hj HTab
          intro a W hw hp hf K hK
          obtain ⟨s, d, g, e, h⟩ := hp 3 (by kernel_rfl) _ _ (by rfl) rfl
          subst e
          clear hp hf
          refine step_slice rfl 22 24 1 _ rfl 8 Tryd.underlying22 (by kernel_rfl) (by kernel_rfl) (by decide) [itv 5 0 ⟨#[]⟩ (.slice (some ⟨g, 0, none⟩) 2 2) 0 0 false 0] ?_ (by intro v hm; simp only [List.mem_cons, List.not_mem_nil, or_false] at hm; rcases hm with rfl <;> rfl) rfl (by decide) (by decide) (hK _ _ (Ext_alloc _ _) ⟨(.slice (some ⟨g, 0, none⟩) 2 2), ⟨W.heap.size, rfl, blk_new rfl⟩, SlB.ext ⟨g, rfl, h⟩ (Ext_alloc _ _)⟩)
          rw [Array.toList_map]
          show [(0, a.tmps.getD 17 undef)] = _
          rw [d]
          rfl
    · as_aux_lemma =>
          clear hx hj HTab
          intro a W hw hp hf K hK
          obtain ⟨s1, ⟨g, d, h⟩, h1⟩ := hp 4 (by kernel_rfl) _ _ (by rfl) rfl
          clear hp hf
          exact step_value (v := lnv 1 0 ⟨#[118]⟩ false false nl (.slice (some ⟨g, 0, none⟩) 1 1) nl nl 0) (w' := W) rfl (fun _ _ h => by cases h) (rho [(18, (.slice (some ⟨g, 0, none⟩) 1 1))]) (rho_of (by intro p hm; simp only [List.mem_cons, List.not_mem_nil, or_false] at hm; rcases hm with rfl; exact d) (by kernel_rfl)) (by kernel_rfl) (hK _ _ (Below.refl _ _) ⟨_, rfl, s1, ⟨g, rfl, h⟩, h1⟩)
    · as_aux_lemma =>
          clear hx hj HTab
          intro a W hw hp hf K hK
          clear hp hf
          go_simp
          refine (unit_any 120 W).mono ?_
          rintro e w' ⟨rfl, hb⟩
          exact hK _ _ hb rfl
    · as_aux_lemma =>
          clear hx hj HTab
          intro a W hw hp hf K hK
          have d : _ = _ := hp 6 (by kernel_rfl) _ _ (by rfl) rfl
          clear hp hf
          refine step_slice rfl 22 24 1 _ rfl 8 Tryd.underlying22 (by kernel_rfl) (by kernel_rfl) (by decide) [itv 1 120 ⟨#[]⟩ nl 0 0 false 0] ?_ (by intro v hm; simp only [List.mem_cons, List.not_mem_nil, or_false] at hm; rcases hm with rfl <;> rfl) rfl (by decide) (by decide) (hK _ _ (Ext_alloc _ _) ⟨W.heap.size, rfl, blk_new rfl⟩)
          rw [Array.toList_map]
          show [(0, a.tmps.getD 20 undef)] = _
          rw [d]
          rfl
    · as_aux_lemma =>
          clear hx hj HTab
          intro a W hw hp hf K hK
          clear hp hf
          go_simp
          refine (unit_any 121 W).mono ?_
          rintro e w' ⟨rfl, hb⟩
          exact hK _ _ hb rfl
    · as_aux_lemma =>
          clear hx hj HTab
          intro a W hw hp hf K hK
          have d : _ = _ := hp 8 (by kernel_rfl) _ _ (by rfl) rfl
          clear hp hf
          refine step_slice rfl 22 24 1 _ rfl 8 Tryd.underlying22 (by kernel_rfl) (by kernel_rfl) (by decide) [itv 1 121 ⟨#[]⟩ nl 0 0 false 0] ?_ (by intro v hm; simp only [List.mem_cons, List.not_mem_nil, or_false] at hm; rcases hm with rfl <;> rfl) rfl (by decide) (by decide) (hK _ _ (Ext_alloc _ _) ⟨W.heap.size, rfl, blk_new rfl⟩)
          rw [Array.toList_map]
          show [(0, a.tmps.getD 22 undef)] = _
          rw [d]
          rfl
    · as_aux_lemma =>
          clear hx hj HTab
          intro a W hw hp hf K hK
          obtain ⟨g, d, h⟩ := hp 7 (by kernel_rfl) _ _ (by rfl) rfl
          obtain ⟨g2, d2, h2⟩ := hp 9 (by kernel_rfl) _ _ (by rfl) rfl
          clear hp hf
          exact step_value (v := lnv 2 0 ⟨#[]⟩ false false nl (.slice (some ⟨g, 0, none⟩) 1 1) nl (.slice (some ⟨g2, 0, none⟩) 1 1) 1) (w' := W) rfl (fun _ _ h => by cases h) (rho [(21, (.slice (some ⟨g, 0, none⟩) 1 1)), (23, (.slice (some ⟨g2, 0, none⟩) 1 1))]) (rho_of (by intro p hm; simp only [List.mem_cons, List.not_mem_nil, or_false] at hm; rcases hm with rfl | rfl; exact d; exact d2) (by kernel_rfl)) (by kernel_rfl) (hK _ _ (Below.refl _ _) ⟨_, _, rfl, ⟨g, rfl, h⟩, ⟨g2, rfl, h2⟩⟩)
    · as_aux_lemma =>
          clear hx hj HTab
          intro a W hw hp hf K hK
          clear hp hf
          exact step_value (v := lnv 3 0 ⟨#[]⟩ false false nl nl nl nl 0) (w' := W) rfl (fun _ _ h => by cases h) (rho []) (rho_of (fun p hm => by cases hm) (by kernel_rfl)) (by kernel_rfl) (hK _ _ (Below.refl _ _) rfl)
    · as_aux_lemma =>
          clear hx hj HTab
          intro a W hw hp hf K hK
          have d : _ = _ := hf 1 (by kernel_rfl)
          clear hp hf
          have hb := (hw.block w.heap.size (by simp)).trans (heap_alloc_new w _)
          have hc : ∀ j, W.cell? ⟨w.heap.size, j, none⟩ = (#[.int .i64 2, .int .i64 0, .string ⟨#[118]⟩, nl, .int .i64 0, .int .i64 0, .bool false, .int .i64 0] : Array Value)[j]? := fun j => by simp [World.cell?, hb]
          have c0 := hc 0
          have c1 := hc 1
          have c2 := hc 2
          have c3 := hc 3
          have c4 := hc 4
          have c5 := hc 5
          have c6 := hc 6
          have c7 := hc 7
          simp at c0 c1 c2 c3 c4 c5 c6 c7
          clear hc hb
          simp only [Array.getD_eq_getD_getElem?] at d
          simp at d
          go_simp
          exact hK _ _ (Below.refl _ _) rfl
    · as_aux_lemma =>
          clear hx hj HTab
          intro a W hw hp hf K hK
          have d : _ = _ := hp 12 (by kernel_rfl) _ _ (by rfl) rfl
          clear hp hf
          refine step_slice rfl 22 24 1 _ rfl 8 Tryd.underlying22 (by kernel_rfl) (by kernel_rfl) (by decide) [itv 2 0 ⟨#[118]⟩ nl 0 0 false 0] ?_ (by intro v hm; simp only [List.mem_cons, List.not_mem_nil, or_false] at hm; rcases hm with rfl <;> rfl) rfl (by decide) (by decide) (hK _ _ (Ext_alloc _ _) ⟨W.heap.size, rfl, blk_new rfl⟩)
          rw [Array.toList_map]
          show [(0, a.tmps.getD 26 undef)] = _
          rw [d]
          rfl
    · as_aux_lemma =>
          clear hx hj HTab
          intro a W hw hp hf K hK
          clear hp hf
          exact step_value (v := itv 6 0 ⟨#[]⟩ nl 65 66 false 0) (w' := W) rfl (fun _ _ h => by cases h) (rho []) (rho_of (fun p hm => by cases hm) (by kernel_rfl)) (by kernel_rfl) (hK _ _ (Below.refl _ _) rfl)
    · as_aux_lemma =>
          clear hx hj HTab
          intro a W hw hp hf K hK
          have d : _ = _ := hp 14 (by kernel_rfl) _ _ (by rfl) rfl
          clear hp hf
          refine step_slice rfl 22 24 1 _ rfl 8 Tryd.underlying22 (by kernel_rfl) (by kernel_rfl) (by decide) [itv 6 0 ⟨#[]⟩ nl 65 66 false 0] ?_ (by intro v hm; simp only [List.mem_cons, List.not_mem_nil, or_false] at hm; rcases hm with rfl <;> rfl) rfl (by decide) (by decide) (hK _ _ (Ext_alloc _ _) ⟨W.heap.size, rfl, blk_new rfl⟩)
          rw [Array.toList_map]
          show [(0, a.tmps.getD 28 undef)] = _
          rw [d]
          rfl
    · as_aux_lemma =>
          clear hx hj HTab
          intro a W hw hp hf K hK
          obtain ⟨g, d, h⟩ := hp 15 (by kernel_rfl) _ _ (by rfl) rfl
          clear hp hf
          exact step_value (v := itv 5 0 ⟨#[]⟩ (.slice (some ⟨g, 0, none⟩) 1 1) 0 0 false 0) (w' := W) rfl (fun _ _ h => by cases h) (rho [(29, (.slice (some ⟨g, 0, none⟩) 1 1))]) (rho_of (by intro p hm; simp only [List.mem_cons, List.not_mem_nil, or_false] at hm; rcases hm with rfl; exact d) (by kernel_rfl)) (by kernel_rfl) (hK _ _ (Below.refl _ _) ⟨_, rfl, g, rfl, h⟩)
    · as_aux_lemma =>
          clear hx hj HTab
          intro a W hw hp hf K hK
          obtain ⟨s, d, g, e, h⟩ := hp 16 (by kernel_rfl) _ _ (by rfl) rfl
          subst e
          clear hp hf
          refine step_slice rfl 22 24 1 _ rfl 8 Tryd.underlying22 (by kernel_rfl) (by kernel_rfl) (by decide) [itv 5 0 ⟨#[]⟩ (.slice (some ⟨g, 0, none⟩) 1 1) 0 0 false 0] ?_ (by intro v hm; simp only [List.mem_cons, List.not_mem_nil, or_false] at hm; rcases hm with rfl <;> rfl) rfl (by decide) (by decide) (hK _ _ (Ext_alloc _ _) ⟨(.slice (some ⟨g, 0, none⟩) 1 1), ⟨W.heap.size, rfl, blk_new rfl⟩, SlB.ext ⟨g, rfl, h⟩ (Ext_alloc _ _)⟩)
          rw [Array.toList_map]
          show [(0, a.tmps.getD 30 undef)] = _
          rw [d]
          rfl
    · as_aux_lemma =>
          clear hx hj HTab
          intro a W hw hp hf K hK
          obtain ⟨s1, ⟨g, d, h⟩, h1⟩ := hp 17 (by kernel_rfl) _ _ (by rfl) rfl
          clear hp hf
          exact step_value (v := itv 8 0 ⟨#[]⟩ (.slice (some ⟨g, 0, none⟩) 1 1) 0 0 false 1) (w' := W) rfl (fun _ _ h => by cases h) (rho [(31, (.slice (some ⟨g, 0, none⟩) 1 1))]) (rho_of (by intro p hm; simp only [List.mem_cons, List.not_mem_nil, or_false] at hm; rcases hm with rfl; exact d) (by kernel_rfl)) (by kernel_rfl) (hK _ _ (Below.refl _ _) ⟨_, rfl, s1, ⟨g, rfl, h⟩, h1⟩)
    · as_aux_lemma =>
          clear hx hj HTab
          intro a W hw hp hf K hK
          obtain ⟨s, d, s1, ⟨g, e, h⟩, h1⟩ := hp 18 (by kernel_rfl) _ _ (by rfl) rfl
          subst e
          clear hp hf
          refine step_slice rfl 22 24 1 _ rfl 8 Tryd.underlying22 (by kernel_rfl) (by kernel_rfl) (by decide) [itv 8 0 ⟨#[]⟩ (.slice (some ⟨g, 0, none⟩) 1 1) 0 0 false 1] ?_ (by intro v hm; simp only [List.mem_cons, List.not_mem_nil, or_false] at hm; rcases hm with rfl <;> rfl) rfl (by decide) (by decide) (hK _ _ (Ext_alloc _ _) ⟨(.slice (some ⟨g, 0, none⟩) 1 1), ⟨W.heap.size, rfl, blk_new rfl⟩, P31.ext ⟨s1, ⟨g, rfl, h⟩, h1⟩ (Ext_alloc _ _)⟩)
          rw [Array.toList_map]
          show [(0, a.tmps.getD 32 undef)] = _
          rw [d]
          rfl
    · as_aux_lemma =>
          clear hx hj HTab
          intro a W hw hp hf K hK
          obtain ⟨g, d, h⟩ := hp 13 (by kernel_rfl) _ _ (by rfl) rfl
          obtain ⟨s1, ⟨g2, d2, h2⟩, h3⟩ := hp 19 (by kernel_rfl) _ _ (by rfl) rfl
          clear hp hf
          exact step_value (v := lnv 2 0 ⟨#[]⟩ false false nl (.slice (some ⟨g, 0, none⟩) 1 1) nl (.slice (some ⟨g2, 0, none⟩) 1 1) 1) (w' := W) rfl (fun _ _ h => by cases h) (rho [(27, (.slice (some ⟨g, 0, none⟩) 1 1)), (33, (.slice (some ⟨g2, 0, none⟩) 1 1))]) (rho_of (by intro p hm; simp only [List.mem_cons, List.not_mem_nil, or_false] at hm; rcases hm with rfl | rfl; exact d; exact d2) (by kernel_rfl)) (by kernel_rfl) (hK _ _ (Below.refl _ _) ⟨_, _, rfl, ⟨g, rfl, h⟩, s1, ⟨g2, rfl, h2⟩, h3⟩)
    · as_aux_lemma =>
          clear hx hj HTab
          intro a W hw hp hf K hK
          obtain ⟨s, d, s1, ⟨g, e, h⟩, h1⟩ := hp 5 (by kernel_rfl) _ _ (by rfl) rfl
          obtain ⟨b, c, d2, ⟨gb, eb, hb⟩, ⟨gc, ec, hc⟩⟩ := hp 10 (by kernel_rfl) _ _ (by rfl) rfl
          have d3 : _ = _ := hp 11 (by kernel_rfl) _ _ (by rfl) rfl
          obtain ⟨x, y, d4, ⟨gx, ex, hx⟩, y1, ⟨gy, ey, hy⟩, hy1⟩ := hp 20 (by kernel_rfl) _ _ (by rfl) rfl
          subst e eb ec ex ey
          clear hp hf
          refine step_slice rfl 55 53 4 _ rfl 10 Tryd.underlying55 (by kernel_rfl) (by kernel_rfl) (by decide) [lnv 1 0 ⟨#[118]⟩ false false nl (.slice (some ⟨g, 0, none⟩) 1 1) nl nl 0, lnv 2 0 ⟨#[]⟩ false false nl (.slice (some ⟨gb, 0, none⟩) 1 1) nl (.slice (some ⟨gc, 0, none⟩) 1 1) 1, lnv 3 0 ⟨#[]⟩ false false nl nl nl nl 0, lnv 2 0 ⟨#[]⟩ false false nl (.slice (some ⟨gx, 0, none⟩) 1 1) nl (.slice (some ⟨gy, 0, none⟩) 1 1) 1] ?_ (by intro v hm; simp only [List.mem_cons, List.not_mem_nil, or_false] at hm; rcases hm with rfl | rfl | rfl | rfl <;> rfl) rfl (by decide) (by decide) (hK _ _ (Ext_alloc _ _) ⟨(.slice (some ⟨g, 0, none⟩) 1 1), (.slice (some ⟨gb, 0, none⟩) 1 1), (.slice (some ⟨gc, 0, none⟩) 1 1), (.slice (some ⟨gx, 0, none⟩) 1 1), (.slice (some ⟨gy, 0, none⟩) 1 1), ⟨W.heap.size, rfl, blk_new rfl⟩, P18.ext ⟨s1, ⟨g, rfl, h⟩, h1⟩ (Ext_alloc _ _), SlB.ext ⟨gb, rfl, hb⟩ (Ext_alloc _ _), SlB.ext ⟨gc, rfl, hc⟩ (Ext_alloc _ _), SlB.ext ⟨gx, rfl, hx⟩ (Ext_alloc _ _), P33.ext ⟨y1, ⟨gy, rfl, hy⟩, hy1⟩ (Ext_alloc _ _)⟩)
          rw [Array.toList_map]
          show [(0, a.tmps.getD 19 undef), (1, a.tmps.getD 24 undef), (2, a.tmps.getD 25 undef), (3, a.tmps.getD 34 undef)] = _
          rw [d, d2, d3, d4]
          rfl
    · as_aux_lemma =>
          clear hx hj HTab
          intro a W hw hp hf K hK
          have h : P35 W _ := hp 21 (by kernel_rfl) _ _ (by rfl) rfl
          clear hp hf
          exact step_value (v := a.tmps.getD 35 undef) (w' := W) rfl (fun _ _ h => by cases h) a.eval (fun _ _ => rfl) rfl (hK _ _ (Below.refl _ _) h)
    intro vs W hw hi
    have h22 : P35 W (vs 22) := hi 22 (by decide)
    clear hi
    have hP := h22
    obtain ⟨x1, x2, x3, x4, x5, ⟨lg, hv, _⟩, _⟩ := h22
    rw [hv] at hP
    rw [putL_eq]
    simp only [putsL, List.set_cons_zero, List.set_cons_succ, hv]
    have HP : Hid (P35 W (.slice (some ⟨lg, 0, none⟩) 4 4) ∧ Below w.heap.size w W) := ⟨hP, (HA.out _).trans (hw.mono (HA.out _).size)⟩
    clear hP hw
    go_wp2_with fail
    go_meet
    exact ⟨lg, rfl, HP.out⟩
  case rest =>
    obtain ⟨lg, rfl, HL⟩ := hcut
    obtain ⟨x1, x2, x3, x4, x5, ⟨lg', e, hlg⟩, h1, h2, h3, h4, h5⟩ := HL.out.1
    obtain rfl : lg = lg' := by simpa using e
    obtain ⟨ls, dg, eg, k4, hl4, rfl, rfl, hLn, hOk, hPC, hOk4, hPC4⟩ := lines_ok hlg h1 h2 h3 h4 h5
    have hB := HL.out.2
    have HB : Hid (∀ W, Below wc.heap.size wc W → Below w.heap.size w W) := fun W h => hB.trans (h.mono hB.size)
    have HC1 : Hid (Calls Tryd.prog 17 #[.slice (some ⟨lg, 0, none⟩) 4 4] wc fun e w' => ∃ pg cp rg rc kg kc xg xc A c, e = .returned (.tuple #[.slice (some ⟨pg, 0, none⟩) 2 cp, .int .i64 0, .int .i64 0]) ∧ (w'.cell? ⟨pg, 1, none⟩ = some (.slice (some ⟨rg, 0, none⟩) 1 rc) ∧ w'.cell? ⟨rg, 2, none⟩ = some (.slice (some ⟨kg, 0, none⟩) 1 kc) ∧ w'.cell? ⟨rg, 5, none⟩ = some (.slice (some ⟨xg, 0, none⟩) 1 xc) ∧ w'.cell? ⟨kg, 0, none⟩ = some (.slice A 2 c) ∧ Rs w' (.slice A 2 c) [(97, 97), (101, 101)] ∧ w'.cell? ⟨xg, 2, none⟩ = some (.int .i64 0)) ∧ Below wc.heap.size wc w') := passes_first (HTab.out _ hB) hl4 (blk_lt hlg) hLn hOk hPC
    have HC2 : Hid (∀ W g, Below wc.heap.size wc W → W.heap[g]? = some (.cells (lnc 2 0 ⟨#[]⟩ false false nl (.slice (some ⟨dg, 0, none⟩) 1 1) nl (.slice (some ⟨eg, 0, none⟩) 1 1) 1).toArray 53 (0, 0)) → Calls Tryd.prog 17 #[.slice (some ⟨g, 0, none⟩) 1 1] W fun e w' => ∃ a n cp, e = .returned (.tuple #[.slice a n cp, .int .i64 0, .int .i64 60]) ∧ Below W.heap.size W w') := fun W g hW hb => passes_second (HTab.out _ (HB.out _ hW)) hb (hOk4.below hW) hPC4
    have HLN : Hid (∀ W, Below wc.heap.size wc W → W.cell? ⟨lg, 30, none⟩ = some (.int .i64 2) ∧ W.cell? ⟨lg, 31, none⟩ = some (.int .i64 0) ∧ W.cell? ⟨lg, 32, none⟩ = some (.string ⟨#[]⟩) ∧ W.cell? ⟨lg, 33, none⟩ = some (.bool false) ∧ W.cell? ⟨lg, 34, none⟩ = some (.bool false) ∧ W.cell? ⟨lg, 35, none⟩ = some nl ∧ W.cell? ⟨lg, 36, none⟩ = some (.slice (some ⟨dg, 0, none⟩) 1 1) ∧ W.cell? ⟨lg, 37, none⟩ = some nl ∧ W.cell? ⟨lg, 38, none⟩ = some (.slice (some ⟨eg, 0, none⟩) 1 1) ∧ W.cell? ⟨lg, 39, none⟩ = some (.int .i64 1)) := fun W hW => by
      have hb : W.heap[lg]? = _ := (hW.block lg (blk_lt hlg)).trans hlg
      exact ⟨(cellB hb _).trans rfl, (cellB hb _).trans rfl, (cellB hb _).trans rfl, (cellB hb _).trans rfl, (cellB hb _).trans rfl, (cellB hb _).trans rfl, (cellB hb _).trans rfl, (cellB hb _).trans rfl, (cellB hb _).trans rfl, (cellB hb _).trans rfl⟩
    clear HL hlg h1 h2 h3 h4 h5 hLn hOk hPC hOk4 hPC4 hl4 hB e HA
    go_wp2_with fail
    refine HC1.out.mono ?_
    rintro e w2 ⟨pg, cp, rg, rc, kg, kc, xg, xc, A, c, rfl, hF, hb2⟩
    have HF : Hid (∀ W, Below w2.heap.size w2 W → (W.cell? ⟨pg, 1, none⟩ = some (.slice (some ⟨rg, 0, none⟩) 1 rc) ∧ W.cell? ⟨rg, 2, none⟩ = some (.slice (some ⟨kg, 0, none⟩) 1 kc) ∧ W.cell? ⟨rg, 5, none⟩ = some (.slice (some ⟨xg, 0, none⟩) 1 xc) ∧ W.cell? ⟨kg, 0, none⟩ = some (.slice A 2 c) ∧ W.cell? ⟨xg, 2, none⟩ = some (.int .i64 0)) ∧ Rs W (.slice A 2 c) [(97, 97), (101, 101)]) := fun W hW => ⟨⟨(hW.cell (cell_lt hF.1)).trans hF.1, (hW.cell (cell_lt hF.2.1)).trans hF.2.1, (hW.cell (cell_lt hF.2.2.1)).trans hF.2.2.1, (hW.cell (cell_lt hF.2.2.2.1)).trans hF.2.2.2.1, (hW.cell (cell_lt hF.2.2.2.2.2)).trans hF.2.2.2.2.2⟩, hF.2.2.2.2.1.below hW (Nat.le_refl _)⟩
    obtain ⟨c0, c1, c2, c3, c4, c5, c6, c7, c8, c9⟩ := HLN.out w2 hb2
    have HB2 : Hid (Below wc.heap.size wc w2) := hb2
    have HX : Hid (∀ ob, Below w2.heap.size w2 (w2.alloc ob)) := fun ob => Ext_alloc _ _
    clear hF hb2 HLN HC1
    go_wp2_with fail
    refine (HC2.out _ w2.heap.size (HB2.out.trans ((HX.out _).mono HB2.out.size)) (blk_new rfl)).mono ?_
    rintro e w3 ⟨a3, n3, cp3, rfl, hb3⟩
    have HB3 : Hid (Below w2.heap.size w2 w3) := (HX.out _).trans (hb3.mono (HX.out _).size)
    clear hb3 HC2 HX c0 c1 c2 c3 c4 c5 c6 c7 c8 c9
    go_wp2_with fail
    refine (set_first (W := w3.alloc _) (g := w3.heap.size) (HTab.out _ (HB.out _ (HB2.out.trans ((HB3.out.trans ((Ext_alloc _ _).mono HB3.out.size)).mono HB2.out.size)))) (blk_new rfl)).mono ?_
    rintro e w4 ⟨a4, cp4, rfl, hb4⟩
    have HB4 : Hid (Below w2.heap.size w2 w4) := (HB3.out.trans ((Ext_alloc _ _).mono HB3.out.size)).trans (hb4.mono (HB3.out.trans ((Ext_alloc _ _).mono HB3.out.size)).size)
    clear hb4 HB3
    go_wp2_with fail
    refine (unit_any 55296 w4).mono ?_
    rintro e w5 ⟨rfl, hb5⟩
    have HB5 : Hid (Below w2.heap.size w2 w5) := HB4.out.trans (hb5.mono HB4.out.size)
    clear hb5 HB4
    go_wp2_with fail
    refine (set_second (W := w5) (HTab.out _ (HB.out _ (HB2.out.trans (HB5.out.mono HB2.out.size))))).mono ?_
    rintro e w6 ⟨rfl, hb6⟩
    have HB6 : Hid (Below w2.heap.size w2 w6) := HB5.out.trans (hb6.mono HB5.out.size)
    obtain ⟨⟨f1, f2, f3, f4, f5⟩, _⟩ := HF.out w6 HB6.out
    clear hb6 HB5
    go_wp2_with fail
    have HB7 : Hid (∀ ob, Below w2.heap.size w2 (w6.alloc ob)) := fun ob => HB6.out.trans ((Ext_alloc _ _).mono HB6.out.size)
    have hlit : Rs (w6.alloc (.cells #[.int .i64 97, .int .i64 97, .int .i64 101, .int .i64 101] 48)) (.slice (some ⟨w6.heap.size, 0, none⟩) 2 2) [(97, 97), (101, 101)] := ⟨some ⟨w6.heap.size, 0, none⟩, 2, rfl, Nat.le_refl _, .inr ⟨w6.heap.size, 0, rfl, fun j hj => by
      have hb : (w6.alloc (.cells #[.int .i64 97, .int .i64 97, .int .i64 101, .int .i64 101] 48)).heap[w6.heap.size]? = some (.cells [.int .i64 97, .int .i64 97, .int .i64 101, .int .i64 101].toArray 48 (0, 0)) := blk_new rfl
      have : j = 0 ∨ j = 1 := by have : j < 2 := hj; omega
      rcases this with rfl | rfl
      · exact ⟨(cellB hb _).trans rfl, (cellB hb _).trans rfl⟩
      · exact ⟨(cellB hb _).trans rfl, (cellB hb _).trans rfl⟩⟩⟩
    refine (same_any _ _ [(97, 97), (101, 101)] _ (by decide) (HF.out _ (HB7.out _)).2 hlit).mono ?_
    rintro e w8 ⟨rfl, hG⟩
    have HB8 : Hid (Below w2.heap.size w2 w8) := (HB7.out _).trans (hG.below.mono (HB7.out _).size)
    clear hG hlit HB7 f1 f2 f3 f4 f5
    obtain ⟨⟨f1, f2, f3, f4, f5⟩, _⟩ := HF.out w8 HB8.out
    go_wp2
    exact bodyPost_ret (v := .bool true) (by simp [results, Tryd.f6, go_sem]) rfl ⟨rfl, HB.out _ (HB2.out.trans (HB8.out.mono HB2.out.size))⟩
theorem numbers_any (w : World) (hT : Tab w) : Calls Tryd.prog 5 #[] w fun e w' => e = .returned (.bool true) ∧ Below w.heap.size w w' := by
  have HS : Hid (Calls Tryd.prog 6 #[] w fun e w' => e = .returned (.bool true) ∧ Below w.heap.size w w') := shown_any w hT
  clear hT
  go_enter Tryd.func5, Tryd.ntmps5
  go_wp2_with fail
  refine HS.out.mono ?_
  rintro e w' ⟨rfl, hb⟩
  go_wp2
  go_ret
  exact ⟨rfl, hb⟩
end Go.Proofs
