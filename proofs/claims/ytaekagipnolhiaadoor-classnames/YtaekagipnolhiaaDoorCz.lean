/-
  ClassNames walked: the names are the document's, rising, each with its set, which is valid; what is answered is the caller's.
-/
import Derived.RangeFuncNested
import Derived.RangeFuncBound
import Derived.RangeFuncCalls
import Derived.RangeFuncLeaves
import Derived.Shelf.SlSorted.Search
import Derived.Deep.MidRow
import Derived.Maps.OwnSet
import Derived.Maps.OwnOps
import Derived.Shelf.Abstract
import Derived.Shelf.RegionOpen
import Derived.WalkKit
import Derived.WalkSpells
import Derived.WalkLawsBesides
import Derived.OwnWalkIn
import Derived.TacticsInMore
import Derived.LoopNIn
import Derived.LoopIn
import Derived.BigQuiet
import Derived.RegionIn
import Derived.Deep.QuietTactic
import Derived.Deep.RegionWith
import Derived.Lib.OthersKept
import Derived.Maps.AppendAt
import Derived.Lib.SmallJoins
import Derived.Shelf.SlSortCmp.QuietGrown
import Derived.Deep.DrawnRows
import Derived.Test.YtaekagipnolhiaaDoorCw
import Derived.Test.YtaekagipnolhiaaDoorCg
import Derived.Test.YtaekagipnolhiaaDoorCv
namespace Go.Proofs
open Go.RowKit Go.Shelf

set_option maxRecDepth 100000
attribute [local go_sem] Oper.semAt_some

theorem lt_of_block {w : World} {g : Nat} {o : Obj} (h : w.heap[g]? = some o) : g < w.heap.size := (Array.getElem?_eq_some_iff.1 h).1
theorem cells_set {w : World} {g : Nat} {cur : Array Value} {t : TypeId} {j : Nat} {u : Value} (h : w.heap[g]? = some (.cells cur t (0, 0))) : (w.setCell ⟨g, j, none⟩ u).heap[g]? = some (.cells (cur.setIfInBounds j u) t (0, 0)) := by
  have hlt := lt_of_block h
  have h' : w.heap[g] = .cells cur t (0, 0) := by simpa [Array.getElem?_eq_getElem hlt] using h
  show (w.heap.modify g _)[g]? = _
  rw [Array.getElem?_eq_getElem (by simpa using hlt), Array.getElem_modify_self, h']
  rfl
theorem OwnS.cell {w : World} {base g n cap : Nat} {l : List ByteArray} (h : OwnS w base (.slice (some ⟨g, 0, none⟩) n cap) l) {j : Nat} {s : ByteArray} (hj : l[j]? = some s) : w.cell? ⟨g, j, none⟩ = some (.string s) ∧ w.frozen? ⟨g, j, none⟩ = false := by
  refine ⟨?_, ?_⟩
  · have h1 := h.cells rfl
    have a1 := h1 j (.string s) (by simp [hj])
    rw [add_zero_at] at a1
    exact a1
  · rcases h.2 with ⟨h2, _⟩ | ⟨g', cap', cur, hv, hg, hh, _⟩
    · cases h2
    · cases hv
      simp [World.frozen?, hh]
theorem OwnS.set {w : World} {base g n cap : Nat} {l : List ByteArray} (h : OwnS w base (.slice (some ⟨g, 0, none⟩) n cap) l) (j : Nat) (s : ByteArray) : OwnS (w.setCell ⟨g, j, none⟩ (.string s)) base (.slice (some ⟨g, 0, none⟩) n cap) (l.set j s) := by
  obtain ⟨h1, h2⟩ := h
  refine ⟨by simp, ?_⟩
  rcases h2 with ⟨h2, _⟩ | ⟨g', cap', cur, hv, hg, hh, hc, hm, hs, ht⟩
  · cases h2
  · cases hv
    refine .inr ⟨g, cap, cur.setIfInBounds j (.string s), by simp, hg, cells_set hh, by simpa using hc, hm, by simpa using hs, ?_⟩
    rw [List.length_set, Array.toList_setIfInBounds, List.take_set, ht, List.map_set]
/-- the names lie in block g -/
def SAt (w : World) (g : Nat) : Prop := ∀ j, j < 24 → w.cell? ⟨g, j, none⟩ = some (.string (nmAt j))
theorem SAt.below {w w' : World} {g n : Nat} (h : SAt w g) (k : Below n w w') (hn : g < n) : SAt w' g := fun j hj => (k.cell (p := ⟨g, j, none⟩) hn).trans (h j hj)
theorem nms_at {j : Nat} (hj : j < 24) : nms[j]? = some (nmAt j) := by
  have h2 : j < tbl.length := hj
  simp [nms, nmAt, List.getElem?_eq_getElem h2]
def ovr (i : Nat) : List ByteArray := List.replicate i ⟨#[111, 118, 101, 114]⟩ ++ nms.drop i
theorem ovr_len {i : Nat} (hi : i ≤ 24) : (ovr i).length = 24 := by simp [ovr, nms_len]; omega
theorem ovr_at {i : Nat} (hi : i < 24) : (ovr i)[i]? = some (nmAt i) := by
  unfold ovr
  rw [List.getElem?_append_right (by simp)]
  simp [nms_at hi]
theorem ovr_set {i : Nat} (hi : i < 24) : (ovr i).set i ⟨#[111, 118, 101, 114]⟩ = ovr (i + 1) := by
  unfold ovr
  rw [List.set_append_right _ _ (by simp)]
  have h1 : i < nms.length := hi
  rw [List.length_replicate, Nat.sub_self, List.drop_eq_getElem_cons h1, List.set_cons_zero, List.replicate_succ']
  simp
theorem atOf_nm : ∀ i, i < 24 → atOf (nmAt i) = some i := by decide +kernel
theorem nm_less : ∀ j, j + 1 < 24 → Op.bytesLess (nmAt j).toList (nmAt (j + 1)).toList = true := by
  have h : ∀ j, j < 23 → Op.bytesLess (nmAt j).data.toList (nmAt (j + 1)).data.toList = true := by decide +kernel
  intro j hj
  rw [ByteArray.toList_eq, ByteArray.toList_eq]
  exact h j (by omega)
theorem sp_valid : ∀ i, i < 24 → validB (spOf i) = true := by decide +kernel
set_option maxHeartbeats 8000000 in
theorem namesLaw_any (w : World) (hT : Tab w) : Calls Tryd.prog 4 #[] w fun e w' => e = .returned (.bool true) ∧ Below w.heap.size w w' := by
  go_enter Tryd.func4, Tryd.ntmps4
  go_wp2_with fail
  refine (shown_any _ hT).mono ?_
  rintro e w1 ⟨rfl, hb⟩
  have HB : Hid (Below w.heap.size w w1) := hb
  clear hb hT
  go_wp2_with fail
  refine (rnames_any _).mono ?_
  rintro e w2 ⟨v, rfl, hO, hb⟩
  obtain ⟨g, cap, rfl⟩ := Joins.ownsRow_form hO (by decide)
  rw [nms_len] at hO
  rw [nms_len]
  have HS : Hid (SAt w2 g) := fun j hj => (OwnS.cell hO (nms_at hj)).1
  have hgl : g < w2.heap.size := (World.ownsRow.lt hO g rfl).2
  replace HB : Hid (Below w.heap.size w w2) := HB.out.trans (hb.mono HB.out.size)
  clear hO hb
  go_wp2
  go_loopw [2] (fun vi wr => ∃ k : Nat, vi = .int .i64 k ∧ k ≤ 2 ∧ SAt wr g ∧ Below w.heap.size w wr ∧ g < wr.heap.size) (fun vi _ => 2 - (intOf vi).toNat)
  case atStart => exact ⟨0, rfl, by omega, HS.out, HB.out, hgl⟩
  case round =>
    clear HS HB hgl
    obtain ⟨k, rfl, hk, hS, hBr, hgl⟩ := hrel
    by_cases hk2 : k = 2
    · as_aux_lemma =>
        subst hk2
        have HB : Hid (Below w.heap.size w wr) := hBr
        clear hBr hS hgl
        go_wp2
        go_ret
        exact ⟨rfl, HB.out⟩
    · as_aux_lemma =>
        obtain ⟨wo, rfl⟩ : ∃ wo, wo = wr := ⟨_, rfl⟩
        have HS : Hid (SAt wo g) := hS
        have HB : Hid (Below w.heap.size w wo) := hBr
        have HGL : Hid (g < wo.heap.size) := hgl
        clear hS hBr hgl
        go_wp2_with fail
        refine (names_any _).mono ?_
        rintro e w3 ⟨v3, rfl, hO3, hb3⟩
        obtain ⟨gl, cl, rfl⟩ := Joins.ownsRow_form hO3 (by decide)
        rw [nms_len] at hO3
        rw [nms_len]
        obtain ⟨H0, hH0⟩ : ∃ H0, wo.heap.size = H0 := ⟨_, rfl⟩
        rw [hH0] at hO3 hb3 HGL
        have HB3 : Hid (Below H0 wo w3) := hb3
        have HO3 : Hid (OwnS w3 H0 (.slice (some ⟨gl, 0, none⟩) 24 cl) (ovr 0)) := hO3
        have HS3 : Hid (SAt w3 g) := HS.out.below hb3 HGL.out
        have hcl : 24 ≤ cl := by
          rcases hO3.2 with ⟨h2, _⟩ | ⟨g', cap', cur, hv, _, _, hc, _⟩
          · cases h2
          · cases hv; exact hc
        have HSo : Hid (SAt wo g) := HS.out
        clear hb3 hO3 HS
        go_wp2
        go_loopw [4] (fun vi wx => ∃ i : Nat, vi = .int .i64 i ∧ i ≤ 24 ∧ OwnS wx H0 (.slice (some ⟨gl, 0, none⟩) 24 cl) (ovr i) ∧ SAt wx g ∧ Below H0 wo wx) (fun vi _ => 24 - (intOf vi).toNat)
        case atStart => exact ⟨0, rfl, by omega, HO3.out, HS3.out, HB3.out⟩
        case round =>
          clear HO3 HS3 HB3
          obtain ⟨i, rfl, hi, hO, hS, hBx⟩ := hrel
          obtain ⟨wx, rfl⟩ : ∃ wx, wx = wr := ⟨_, rfl⟩
          have HO : Hid (OwnS wx H0 (.slice (some ⟨gl, 0, none⟩) 24 cl) (ovr i)) := hO
          have HS : Hid (SAt wx g) := hS
          have HX : Hid (Below H0 wo wx) := hBx
          clear hO hS hBx
          by_cases hi4 : i = 24
          · as_aux_lemma =>
              subst hi4
              rw [show ((24 : Nat) : Int) = (24 : Int) from rfl]
              clear HS
              go_wp2
              go_loopw [9, 10] (fun vs vi wy => ∃ (m : Nat) (lst : List ByteArray), vi = .int .i64 m ∧ m ≤ 9 ∧ lst.length = 24 + m ∧ OwnS wy H0 vs lst ∧ Below H0 wo wy) (fun _ vi _ => 9 - (intOf vi).toNat)
              case atStart => exact ⟨0, ovr 24, rfl, by omega, ovr_len (by omega), HO.out, HX.out⟩
              case round =>
                clear HO HX
                obtain ⟨m, lst, rfl, hm, hll, hO, hBy⟩ := hrel
                have hz : H0 ≤ wr.heap.size := by rw [← hH0]; exact hBy.size
                by_cases hm9 : m = 9
                · as_aux_lemma =>
                    subst hm9
                    have HY : Hid (Below H0 wo wr) := hBy
                    clear hO hBy hll
                    go_wp2
                    refine ⟨⟨k + 1, by go_num, by omega, HSo.out.below HY.out HGL.out, HB.out.trans (HY.out.mono ?_), Nat.lt_of_lt_of_le HGL.out hz⟩, by simp [intOf]; omega⟩
                    rw [← hH0]
                    exact HB.out.size
                · as_aux_lemma =>
                    go_wp2_with (at_builtin; go_must (refine push_S rfl _ _ rfl H0 _ _ rfl (hO.alloc _) _ _ ⟨#[98, 101, 104, 105, 110, 100]⟩ rfl (by simp) (by omega) (by simp; omega) ?_); intro v' w8 hO1 _ hb1)
                    exact ⟨⟨m + 1, _, by go_num, by omega, by simp; omega, hO1, (hBy.alloc hz _).trans hb1⟩, by simp [intOf]; omega⟩
          · as_aux_lemma =>
              have cl0 := (OwnS.cell HO.out (ovr_at (i := i) (by omega))).1
              have cw0 := HS.out i (by omega)
              obtain ⟨z, hz⟩ : ∃ z, nmAt i = z := ⟨_, rfl⟩
              rw [hz] at cl0 cw0
              by_cases hi0 : i = 0
              · as_aux_lemma =>
                  subst hi0
                  have HZ : Hid (nmAt (0) = z) := hz
                  have HAT : Hid (atOf z = some (0)) := by show _ = _; rw [← hz]; exact atOf_nm _ (by omega)
                  clear hz
                  go_wp2
                  go_quiet (fail)
                  go_wp2_with fail
                  obtain ⟨W, hW⟩ : ∃ W, wx.drewN nq = W := ⟨_, rfl⟩
                  have hbW : Below wx.heap.size wx W := by rw [← hW]; exact ((Grown.refl wx).drewN nq).below
                  rw [hW]
                  clear hW cl0 cw0
                  have HOx := HO
                  have HXx := HX
                  have HOW : Hid (OwnS W H0 (.slice (some ⟨gl, 0, none⟩) 24 cl) (ovr 0)) := OwnS.below HOx.out hbW (Nat.le_refl _)
                  have HXW : Hid (Below H0 wo W) := HXx.out.trans (hbW.mono (by rw [← hH0]; exact HXx.out.size))
                  have HSW : Hid (SAt W g) := HSo.out.below HXW.out HGL.out
                  clear hbW HOx HXx HO HX HS
                  refine (of_some z 0 W (by rw [← HZ.out]; exact nm_size _ (by omega)) HAT.out).mono ?_
                  rintro e w4 ⟨v5, rfl, hO5, hb5⟩
                  have HOw4 : Hid (OwnS w4 H0 (.slice (some ⟨gl, 0, none⟩) 24 cl) (ovr 0)) := OwnS.below HOW.out hb5 (Nat.le_refl _)
                  have HXw4 : Hid (Below H0 wo w4) := HXW.out.trans (hb5.mono (by rw [← hH0]; exact HXW.out.size))
                  have HSw4 : Hid (SAt w4 g) := HSo.out.below HXw4.out HGL.out
                  have HR : Hid (Rs w4 v5 (spOf 0)) := hO5.rs
                  have cl4 := (OwnS.cell HOw4.out (ovr_at (i := 0) (by omega))).1
                  rw [HZ.out] at cl4
                  clear hO5 hb5 HOW HXW HSW
                  go_wp2_with fail
                  clear cl4
                  refine (rof_some z 0 w4 HAT.out).mono ?_
                  rintro e w5 ⟨v7, rfl, hR7, hG7⟩
                  have HOw5 : Hid (OwnS w5 H0 (.slice (some ⟨gl, 0, none⟩) 24 cl) (ovr 0)) := OwnS.below HOw4.out hG7.below (Nat.le_refl _)
                  have HXw5 : Hid (Below H0 wo w5) := HXw4.out.trans (hG7.below.mono (by rw [← hH0]; exact HXw4.out.size))
                  have HSw5 : Hid (SAt w5 g) := HSo.out.below HXw5.out HGL.out
                  have HR5 : Hid (Rs w5 v5 (spOf 0)) := HR.out.below hG7.below (Nat.le_refl _)
                  have HR7 : Hid (Rs w5 v7 (spOf 0)) := hR7
                  clear hR7 hG7 HOw4 HXw4 HSw4 HR
                  go_wp2_with fail
                  refine (same_any v5 v7 (spOf 0) w5 (Nat.le_trans (sp_len _ (by omega)) (by omega)) HR5.out HR7.out).mono ?_
                  rintro e w6 ⟨rfl, hG8⟩
                  have HOw6 : Hid (OwnS w6 H0 (.slice (some ⟨gl, 0, none⟩) 24 cl) (ovr 0)) := OwnS.below HOw5.out hG8.below (Nat.le_refl _)
                  have HXw6 : Hid (Below H0 wo w6) := HXw5.out.trans (hG8.below.mono (by rw [← hH0]; exact HXw5.out.size))
                  have HSw6 : Hid (SAt w6 g) := HSo.out.below HXw6.out HGL.out
                  have HR6 : Hid (Rs w6 v5 (spOf 0)) := HR5.out.below hG8.below (Nat.le_refl _)
                  clear hG8 HOw5 HXw5 HSw5 HR5 HR7
                  go_wp2_with fail
                  refine (rvalid_any v5 (spOf 0) w6 HR6.out).mono ?_
                  rw [sp_valid _ (by omega)]
                  rintro e w7 ⟨rfl, hG9⟩
                  have HOw7 : Hid (OwnS w7 H0 (.slice (some ⟨gl, 0, none⟩) 24 cl) (ovr 0)) := OwnS.below HOw6.out hG9.below (Nat.le_refl _)
                  have HXw7 : Hid (Below H0 wo w7) := HXw6.out.trans (hG9.below.mono (by rw [← hH0]; exact HXw6.out.size))
                  have HSw7 : Hid (SAt w7 g) := HSo.out.below HXw7.out HGL.out
                  clear hG9 HOw6 HXw6 HSw6 HR6
                  obtain ⟨cc, cf⟩ := OwnS.cell HOw7.out (ovr_at (i := 0) (by omega))
                  have hle : H0 ≤ gl := (World.ownsRow.lt HOw7.out gl rfl).1
                  have HLE : Hid (H0 ≤ gl) := hle
                  have HNX : Hid (OwnS (w7.setCell ⟨gl, 0, none⟩ (.string ⟨#[111, 118, 101, 114]⟩)) H0 (.slice (some ⟨gl, 0, none⟩) 24 cl) (ovr (0 + 1))) := by
                    have := OwnS.set HOw7.out 0 ⟨#[111, 118, 101, 114]⟩
                    rw [ovr_set (by omega)] at this
                    exact this
                  clear hle
                  go_wp2
                  exact ⟨⟨0 + 1, by go_num, by omega, HNX.out, HSw7.out.below ((Below.refl H0 w7).setCell (p := ⟨gl, 0, none⟩) HLE.out _) HGL.out, HXw7.out.setCell (p := ⟨gl, 0, none⟩) HLE.out _⟩, by simp [intOf]⟩
              · as_aux_lemma =>
                  obtain ⟨j, rfl⟩ : ∃ j, i = j + 1 := ⟨i - 1, by omega⟩
                  have cw1 := HS.out j (by omega)
                  obtain ⟨y, hy⟩ : ∃ y, nmAt j = y := ⟨_, rfl⟩
                  have hlt := nm_less j (by omega)
                  rw [hz, hy] at hlt
                  rw [hy] at cw1
                  have HZ : Hid (nmAt (j + 1) = z) := hz
                  have HAT : Hid (atOf z = some (j + 1)) := by show _ = _; rw [← hz]; exact atOf_nm _ (by omega)
                  clear hz
                  clear hy
                  go_wp2
                  go_quiet (fail)
                  go_wp2_with fail
                  obtain ⟨W, hW⟩ : ∃ W, wx.drewN nq = W := ⟨_, rfl⟩
                  have hbW : Below wx.heap.size wx W := by rw [← hW]; exact ((Grown.refl wx).drewN nq).below
                  rw [hW]
                  clear hW cl0 cw0 cw1 hlt
                  have HOx := HO
                  have HXx := HX
                  have HOW : Hid (OwnS W H0 (.slice (some ⟨gl, 0, none⟩) 24 cl) (ovr (j + 1))) := OwnS.below HOx.out hbW (Nat.le_refl _)
                  have HXW : Hid (Below H0 wo W) := HXx.out.trans (hbW.mono (by rw [← hH0]; exact HXx.out.size))
                  have HSW : Hid (SAt W g) := HSo.out.below HXW.out HGL.out
                  clear hbW HOx HXx HO HX HS
                  refine (of_some z (j + 1) W (by rw [← HZ.out]; exact nm_size _ (by omega)) HAT.out).mono ?_
                  rintro e w4 ⟨v5, rfl, hO5, hb5⟩
                  have HOw4 : Hid (OwnS w4 H0 (.slice (some ⟨gl, 0, none⟩) 24 cl) (ovr (j + 1))) := OwnS.below HOW.out hb5 (Nat.le_refl _)
                  have HXw4 : Hid (Below H0 wo w4) := HXW.out.trans (hb5.mono (by rw [← hH0]; exact HXW.out.size))
                  have HSw4 : Hid (SAt w4 g) := HSo.out.below HXw4.out HGL.out
                  have HR : Hid (Rs w4 v5 (spOf (j + 1))) := hO5.rs
                  have cl4 := (OwnS.cell HOw4.out (ovr_at (i := j + 1) (by omega))).1
                  rw [HZ.out] at cl4
                  clear hO5 hb5 HOW HXW HSW
                  go_wp2_with fail
                  clear cl4
                  refine (rof_some z (j + 1) w4 HAT.out).mono ?_
                  rintro e w5 ⟨v7, rfl, hR7, hG7⟩
                  have HOw5 : Hid (OwnS w5 H0 (.slice (some ⟨gl, 0, none⟩) 24 cl) (ovr (j + 1))) := OwnS.below HOw4.out hG7.below (Nat.le_refl _)
                  have HXw5 : Hid (Below H0 wo w5) := HXw4.out.trans (hG7.below.mono (by rw [← hH0]; exact HXw4.out.size))
                  have HSw5 : Hid (SAt w5 g) := HSo.out.below HXw5.out HGL.out
                  have HR5 : Hid (Rs w5 v5 (spOf (j + 1))) := HR.out.below hG7.below (Nat.le_refl _)
                  have HR7 : Hid (Rs w5 v7 (spOf (j + 1))) := hR7
                  clear hR7 hG7 HOw4 HXw4 HSw4 HR
                  go_wp2_with fail
                  refine (same_any v5 v7 (spOf (j + 1)) w5 (Nat.le_trans (sp_len _ (by omega)) (by omega)) HR5.out HR7.out).mono ?_
                  rintro e w6 ⟨rfl, hG8⟩
                  have HOw6 : Hid (OwnS w6 H0 (.slice (some ⟨gl, 0, none⟩) 24 cl) (ovr (j + 1))) := OwnS.below HOw5.out hG8.below (Nat.le_refl _)
                  have HXw6 : Hid (Below H0 wo w6) := HXw5.out.trans (hG8.below.mono (by rw [← hH0]; exact HXw5.out.size))
                  have HSw6 : Hid (SAt w6 g) := HSo.out.below HXw6.out HGL.out
                  have HR6 : Hid (Rs w6 v5 (spOf (j + 1))) := HR5.out.below hG8.below (Nat.le_refl _)
                  clear hG8 HOw5 HXw5 HSw5 HR5 HR7
                  go_wp2_with fail
                  refine (rvalid_any v5 (spOf (j + 1)) w6 HR6.out).mono ?_
                  rw [sp_valid _ (by omega)]
                  rintro e w7 ⟨rfl, hG9⟩
                  have HOw7 : Hid (OwnS w7 H0 (.slice (some ⟨gl, 0, none⟩) 24 cl) (ovr (j + 1))) := OwnS.below HOw6.out hG9.below (Nat.le_refl _)
                  have HXw7 : Hid (Below H0 wo w7) := HXw6.out.trans (hG9.below.mono (by rw [← hH0]; exact HXw6.out.size))
                  have HSw7 : Hid (SAt w7 g) := HSo.out.below HXw7.out HGL.out
                  clear hG9 HOw6 HXw6 HSw6 HR6
                  obtain ⟨cc, cf⟩ := OwnS.cell HOw7.out (ovr_at (i := j + 1) (by omega))
                  have hle : H0 ≤ gl := (World.ownsRow.lt HOw7.out gl rfl).1
                  have HLE : Hid (H0 ≤ gl) := hle
                  have HNX : Hid (OwnS (w7.setCell ⟨gl, j + 1, none⟩ (.string ⟨#[111, 118, 101, 114]⟩)) H0 (.slice (some ⟨gl, 0, none⟩) 24 cl) (ovr (j + 1 + 1))) := by
                    have := OwnS.set HOw7.out (j + 1) ⟨#[111, 118, 101, 114]⟩
                    rw [ovr_set (by omega)] at this
                    exact this
                  clear hle
                  go_wp2
                  exact ⟨⟨j + 1 + 1, by go_num, by omega, HNX.out, HSw7.out.below ((Below.refl H0 w7).setCell (p := ⟨gl, j + 1, none⟩) HLE.out _) HGL.out, HXw7.out.setCell (p := ⟨gl, j + 1, none⟩) HLE.out _⟩, by simp [intOf]; omega⟩
end Go.Proofs
