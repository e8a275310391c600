/-
  How many atoms, and which one.
-/
import Derived.RangeFuncNested
import Derived.RangeFuncBound
import Derived.RangeFuncCalls
import Derived.RangeFuncLeaves
import Derived.Shelf.Abstract
import Derived.Shelf.RegionOpen
import Derived.WalkKit
import Derived.WalkSpells
import Derived.WalkLawsBesides
import Derived.OwnWalkIn
import Derived.TacticsInMore
import Derived.LoopNIn
import Derived.LoopIn
import Derived.BigQuiet
import Derived.RegionIn
import Derived.Deep.QuietTactic
import Derived.Deep.RegionWith
import Derived.Lib.OthersKept
import Derived.Maps.AppendAt
import Derived.Lib.SmallJoins
import Derived.Shelf.SlSortCmp.QuietGrown
import Derived.Test.YtjjkomaokgmkhaaDoorLfn
import Derived.Test.YtjjkomaokgmkhaaDoorAen
import Derived.Test.YtjjkomaokgmkhaaDoorShelfn
namespace Go.Proofs
open Go.RowKit Go.Shelf

set_option maxRecDepth 100000
attribute [local go_sem] Oper.semAt_some
attribute [local go_sem ↓] Go.wp_at_zero Go.wp_at_succ

theorem len11_any {w : World} {base B : Nat} {sv bv pv wv mv : Value} {n mh : Nat} {st bg : List Int} {sps : List (Value × List (Int × Int))} {wh : List Nat} (h : TT w base B sv bv pv wv mv n mh st bg sps wh) : Calls Tryd.prog 11 #[.pointer (some ⟨B, 0, none⟩)] w fun e w' => e = .returned (.int .i64 (sps.length : Int)) ∧ w' = w := by
  obtain ⟨pa, pc, hp⟩ := own_len h.p
  obtain ⟨pn, hpn⟩ : ∃ pn, sps.length = pn := ⟨_, rfl⟩
  rw [hpn] at hp ⊢
  subst hp
  have c3 : w.cell? ⟨B, 3, none⟩ = some (.slice pa pn pc) := heap_cellv h.blk rfl
  clear h hpn
  go_enter Tryd.func11, Tryd.ntmps11
  go_wp2
  go_ret
  exact ⟨rfl, rfl⟩
theorem countP_le (u : Int) : ∀ l : List Int, l.countP (fun x => decide (x ≤ u)) = l.countP (fun x => decide (x < u)) + l.count u
  | [] => rfl
  | x :: l => by
    rw [List.countP_cons, List.countP_cons, List.count_cons, countP_le u l]
    by_cases h1 : x < u
    · simp [h1, show x ≤ u by omega, show ¬ x = u by omega]; omega
    · by_cases h2 : x = u
      · subst h2; simp; omega
      · simp [h1, h2, show ¬ x ≤ u by omega]
theorem count_one {u : Int} {l : List Int} (h : l.Pairwise (· < ·)) : l.count u = if l.contains u then 1 else 0 := by
  have hn : l.Nodup := h.imp fun e => by omega
  by_cases hc : u ∈ l
  · rw [if_pos (by simpa using hc)]
    have h1 := List.count_pos_iff.2 hc
    have h2 := List.nodup_iff_count.1 hn u
    omega
  · rw [if_neg (by simpa using hc), List.count_eq_zero.2 hc]
set_option maxHeartbeats 4000000 in
theorem of_any {w : World} {base B : Nat} {sv bv pv wv mv : Value} {n mh : Nat} {st bg : List Int} {sps : List (Value × List (Int × Int))} {wh : List Nat} (h : TT w base B sv bv pv wv mv n mh st bg sps wh) (hbl : bg.length = st.length) (hinc : st.Pairwise (· < ·)) (hm : st.length ≤ 1000000000000) (u : Int) : Calls Tryd.prog 13 #[.pointer (some ⟨B, 0, none⟩), .int .i64 u] w fun e w' => e = .returned (.int .i64 (ofP st bg u)) ∧ Grown w w' := by
  obtain ⟨sa, sc, hs⟩ := own_len h.s
  obtain ⟨ba, bc, hb⟩ := own_len h.b
  obtain ⟨sn, hsn⟩ : ∃ sn, st.length = sn := ⟨_, rfl⟩
  rw [hsn] at hs hbl hm
  rw [hbl] at hb
  subst hs
  subst hb
  have c1 : w.cell? ⟨B, 1, none⟩ = some (.slice sa sn sc) := heap_cellv h.blk rfl
  have c2 : w.cell? ⟨B, 2, none⟩ = some (.slice ba sn bc) := heap_cellv h.blk rfl
  obtain ⟨cn, hcn⟩ : ∃ cn, st.countP (fun x => decide (x < u)) = cn := ⟨_, rfl⟩
  obtain ⟨fd, hfd⟩ : ∃ fd, st.contains u = fd := ⟨_, rfl⟩
  have hle := countP_le u st
  rw [count_one hinc, hcn, hfd] at hle
  have hcl : st.countP (fun x => decide (x ≤ u)) ≤ sn := by rw [← hsn]; exact List.countP_le_length
  have HBS : Hid (Calls Tryd.prog 28 #[.slice sa sn sc, .int .i64 u] w fun e w' => e = .returned (.tuple #[.int .i64 (cn : Int), .bool fd]) ∧ Grown w w') := by
    show Calls _ _ _ _ _
    by_cases h0 : st = []
    · have hz : sn = 0 := by rw [← hsn, h0]; rfl
      subst hz
      refine (Tryd.slices_BinarySearch_int_empty sa sc u w).mono ?_
      rintro e w' ⟨rfl, rfl⟩
      refine ⟨?_, Grown.refl _⟩
      rw [← hcn, ← hfd, h0]; rfl
    · obtain ⟨g, cur, rfl, hn2, _, hcu, _, _, _, hat⟩ := own_cells h.s h0
      refine (Tryd.slices_BinarySearch_int g 0 sn sc st u w (by omega) (by omega) (fun j hj => heap_cellv hcu (by rw [Nat.zero_add]; exact hat j hj)) (by rw [List.take_of_length_le (by omega)]; exact hinc.imp fun e => by omega)).mono ?_
      rintro e w' ⟨rfl, q, rfl⟩
      rw [List.take_of_length_le (by omega), hcn, hfd]
      exact ⟨rfl, (Grown.refl _).drewN q⟩
  have hcb : ∀ j, j < sn → ∃ bb, ba = some ⟨bb, 0, none⟩ ∧ w.cell? ⟨bb, j, none⟩ = some (.int .i64 (bg.getD j 0)) := fun j hj => by
    obtain ⟨bb, cur, hba, _, _, hcu, _, _, _, hat⟩ := own_cells h.b (fun e => by rw [e] at hbl; simp at hbl; omega)
    exact ⟨bb, hba, heap_cellv hcu (hat j (by omega))⟩
  have HOF : Hid ((cn + (if fd then 1 else 0) = 0 → ofP st bg u = -1) ∧ ∀ j, cn + (if fd then 1 else 0) = j + 1 → ofP st bg u = bg.getD j 0) := by
    refine ⟨fun e => by unfold ofP; rw [hle, if_pos e], fun j e => ?_⟩
    unfold ofP
    rw [hle, if_neg (by omega), e, Nat.add_sub_cancel, List.getD_eq_getElem?_getD, List.getD_eq_getElem?_getD, List.getElem?_eq_getElem (by omega)]
    rfl
  have hcnI : (cn : Int) ≤ 1000000000000 := by omega
  have hcl2 : cn + (if fd then 1 else 0) ≤ sn := by omega
  clear h hcn hfd hle hcl hinc hbl hsn
  go_enter Tryd.func13, Tryd.ntmps13
  have K : ∀ j, j < sn → Hid (∀ W, Grown w W → ∃ bb, ba = some ⟨bb, 0, none⟩ ∧ W.cell? ⟨bb, j, none⟩ = some (.int .i64 (bg.getD j 0))) := fun j hj W hW => by
    obtain ⟨bb, h1, h2⟩ := hcb j hj
    exact ⟨bb, h1, hW.cellv h2⟩
  clear hcb
  cases fd with
  | true =>
    have hj : cn < sn := by simp at hcl2; omega
    have HR := Hid.mk' (HOF.out.2 cn (by simp))
    have HK := K cn hj
    clear K hcl2 HOF
    go_wp2_with (go_at_call 28; refine HBS.out.mono ?_; rintro e w1 ⟨rfl, hg⟩; have HG := Hid.mk' hg; obtain ⟨bb, hba, cb⟩ := HK.out w1 hg; subst hba; have c2' := hg.cellv c2; clear hg)
    go_ret
    exact ⟨by rw [HR.out]; rfl, HG.out⟩
  | false =>
    by_cases h0 : cn = 0
    · subst h0
      have HR := Hid.mk' (HOF.out.1 (by simp))
      clear K hcl2 HOF
      go_wp2_with (go_at_call 28; refine HBS.out.mono ?_; rintro e w1 ⟨rfl, hg⟩; have HG := Hid.mk' hg; clear hg)
      go_ret
      exact ⟨by rw [HR.out]; rfl, HG.out⟩
    · obtain ⟨j, hcj0⟩ : ∃ j, cn = j + 1 := ⟨cn - 1, by omega⟩
      have hj : j < sn := by simp at hcl2; omega
      have HR := Hid.mk' (HOF.out.2 j (by simpa using hcj0))
      have HK := K j hj
      have hcj : (cn : Int) - 1 = (j : Int) := by omega
      have hjI : (j : Int) ≤ 1000000000000 := by omega
      clear K hcl2 HOF h0 hcj0
      go_wp2_with (go_at_call 28; refine HBS.out.mono ?_; rintro e w1 ⟨rfl, hg⟩; have HG := Hid.mk' hg; obtain ⟨bb, hba, cb⟩ := HK.out w1 hg; subst hba; have c2' := hg.cellv c2; clear hg)
      go_ret
      exact ⟨by rw [HR.out]; rfl, HG.out⟩
end Go.Proofs
