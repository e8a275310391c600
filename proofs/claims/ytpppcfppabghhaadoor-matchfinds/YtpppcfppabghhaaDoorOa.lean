/-
  What fits, and what is next: ours and the document are the same.
-/
import Derived.RangeFuncNested
import Derived.RangeFuncBound
import Derived.RangeFuncCalls
import Derived.RangeFuncLeaves
import Derived.Shelf.Abstract
import Derived.Shelf.RegionOpen
import Derived.WalkKit
import Derived.WalkSpells
import Derived.WalkLawsBesides
import Derived.OwnWalkIn
import Derived.TacticsInMore
import Derived.LoopNIn
import Derived.LoopIn
import Derived.BigQuiet
import Derived.RegionIn
import Derived.Deep.QuietTactic
import Derived.Deep.RegionWith
import Derived.Lib.OthersKept
import Derived.Maps.AppendAt
import Derived.Lib.SmallJoins
import Derived.Shelf.SlSortCmp.QuietGrown
import Derived.Test.YtpppcfppabghhaaDoorIb
import Derived.Test.YtpppcfppabghhaaDoorNm
import Derived.Test.YtpppcfppabghhaaDoorNe
import Derived.Test.YtpppcfppabghhaaDoorQb
import Derived.Test.YtpppcfppabghhaaDoorQd
namespace Go.Proofs
open Go.RowKit Go.Shelf

set_option maxRecDepth 100000
attribute [local go_sem] Oper.semAt_some
attribute [local go_sem ↓] Go.wp_at_zero Go.wp_at_succ

theorem stB_iff : ∀ (ls : List (List (Int × Int))) (us : List Int), stB ls us = true ↔ ls.length = us.length ∧ ∀ (i : Nat) (s : List (Int × Int)) (u : Int), ls[i]? = some s → us[i]? = some u → hasB s u = true
  | [], [] => by simp [stB]
  | [], u :: us => by simp [stB]
  | s :: ls, [] => by simp [stB]
  | s :: ls, u :: us => by
    have e : stB (s :: ls) (u :: us) = (hasB s u && stB ls us) := by
      unfold stB
      simp only [List.length_cons, List.zip_cons_cons, List.all_cons, Nat.add_right_cancel_iff]
      cases decide (ls.length = us.length) <;> cases hasB s u <;> simp
    rw [e, Bool.and_eq_true, stB_iff ls us]
    constructor
    · rintro ⟨h1, h2, h3⟩
      refine ⟨by simp [h2], fun i a b ha hb => ?_⟩
      cases i with
      | zero => simp at ha hb; subst ha hb; exact h1
      | succ i => exact h3 i a b (by simpa using ha) (by simpa using hb)
    · rintro ⟨h1, h2⟩
      exact ⟨h2 0 s u rfl rfl, by simpa using h1, fun i a b ha hb => h2 (i + 1) a b (by simpa using ha) (by simpa using hb)⟩
theorem stU_iff : ∀ (ss : List (List (Int × Int))) (us : List Int) (al : Bool), stU us ss al = true ↔ ss.length ≤ us.length ∧ (∀ (i : Nat) (s : List (Int × Int)) (u : Int), ss[i]? = some s → us[i]? = some u → hasB s u = true) ∧ (al = true → us.length ≤ ss.length)
  | [], us, al => by
    rw [stU_end]
    cases us <;> cases al <;> simp
  | s :: ss, [], al => by simp [stU_none]
  | s :: ss, u :: us, al => by
    rw [stU_cons, Bool.and_eq_true, stU_iff ss us al]
    constructor
    · rintro ⟨h1, h2, h3, h4⟩
      refine ⟨by simpa using h2, fun i a b ha hb => ?_, fun h => by simpa using h4 h⟩
      cases i with
      | zero => simp at ha hb; subst ha hb; exact h1
      | succ i => exact h3 i a b (by simpa using ha) (by simpa using hb)
    · rintro ⟨h1, h2, h3⟩
      exact ⟨h2 0 s u rfl rfl, by simpa using h1, fun i a b ha hb => h2 (i + 1) a b (by simpa using ha) (by simpa using hb), fun h => by simpa using h3 h⟩
theorem stF_fit (r : Rl) (d l : List Int) : stF r d l = fitB r d l := by
  rw [Bool.eq_iff_iff]
  unfold fitB stF
  rw [Bool.and_eq_true, stU_iff, stU_iff, List.length_append, List.length_reverse, List.length_reverse]
  by_cases h1 : l.length < r.key.length + r.post.length ∨ d.length < r.ante.length
  · rw [if_pos h1]
    constructor
    · intro h; cases h
    · rintro ⟨⟨a, _⟩, b, _⟩; omega
  · rw [if_neg h1]
    by_cases h2 : (r.bg = true ∧ r.ante.length < d.length) ∨ (r.en = true ∧ r.key.length + r.post.length < l.length)
    · rw [if_pos h2]
      constructor
      · intro h; cases h
      · rintro ⟨⟨_, _, a⟩, _, _, b⟩
        rcases h2 with ⟨e, h⟩ | ⟨e, h⟩
        · have := b e; omega
        · have := a e; omega
    · rw [if_neg h2, Bool.and_eq_true, Bool.and_eq_true, stB_iff, stB_iff, stB_iff]
      have hl1 : r.key.length + r.post.length ≤ l.length := by omega
      have hd1 : r.ante.length ≤ d.length := by omega
      constructor
      · rintro ⟨⟨⟨_, hk⟩, ⟨_, hp⟩⟩, ⟨_, ha⟩⟩
        refine ⟨⟨hl1, fun i s u hs hu => ?_, fun e => ?_⟩, hd1, fun i s u hs hu => ?_, fun e => ?_⟩
        · by_cases hi : i < r.key.length
          · rw [List.getElem?_append_left hi] at hs
            exact hk i s u hs (by rw [List.getElem?_take, if_pos hi]; exact hu)
          · rw [List.getElem?_append_right (by omega)] at hs
            have hip := (List.getElem?_eq_some_iff.1 hs).1
            refine hp (i - r.key.length) s u hs ?_
            rw [List.getElem?_take, if_pos hip, List.getElem?_drop, show r.key.length + (i - r.key.length) = i by omega]
            exact hu
        · rcases Nat.lt_or_ge (r.key.length + r.post.length) l.length with h | h
          · exact absurd (.inr ⟨e, h⟩) h2
          · exact h
        · have hi : i < r.ante.length := by have := (List.getElem?_eq_some_iff.1 hs).1; simpa using this
          rw [List.getElem?_reverse hi] at hs
          rw [List.getElem?_reverse (by omega)] at hu
          refine ha (r.ante.length - 1 - i) s u hs ?_
          rw [List.getElem?_drop, show d.length - r.ante.length + (r.ante.length - 1 - i) = d.length - 1 - i by omega]
          exact hu
        · rcases Nat.lt_or_ge r.ante.length d.length with h | h
          · exact absurd (.inl ⟨e, h⟩) h2
          · exact h
      · rintro ⟨⟨_, hk, _⟩, _, ha, _⟩
        refine ⟨⟨⟨by rw [List.length_take]; omega, fun i s u hs hu => ?_⟩, ⟨by rw [List.length_take, List.length_drop]; omega, fun i s u hs hu => ?_⟩⟩, ⟨by rw [List.length_drop]; omega, fun i s u hs hu => ?_⟩⟩
        · have hi := (List.getElem?_eq_some_iff.1 hs).1
          rw [List.getElem?_take, if_pos hi] at hu
          exact hk i s u (by rw [List.getElem?_append_left hi]; exact hs) hu
        · have hi := (List.getElem?_eq_some_iff.1 hs).1
          rw [List.getElem?_take, if_pos hi, List.getElem?_drop] at hu
          exact hk (r.key.length + i) s u (by rw [List.getElem?_append_right (by omega), show r.key.length + i - r.key.length = i by omega]; exact hs) hu
        · have hi := (List.getElem?_eq_some_iff.1 hs).1
          rw [List.getElem?_drop] at hu
          refine ha (r.ante.length - 1 - i) s u ?_ ?_
          · rw [List.getElem?_reverse (by omega), show r.ante.length - 1 - (r.ante.length - 1 - i) = i by omega]; exact hs
          · rw [List.getElem?_reverse (by omega), show d.length - 1 - (r.ante.length - 1 - i) = d.length - r.ante.length + i by omega]; exact hu
theorem nxtK_fd {rs : List Rl} (d l : List Int) (hO : ∀ r ∈ rs, 0 < r.key.length) : ∀ k, k ≤ rs.length → nxtK rs d l k = (fdK rs d l k).1
  | 0, _ => rfl
  | k + 1, hk => by
    have hkl : k < rs.length := hk
    have h0 := hO _ (List.getElem_mem hkl)
    have e : kl rs (k : Int) = rs[k].key.length := by simp [kl, hkl]
    rw [nxtK, fdK_succ d l hkl, nxtK_fd d l hO k (by omega), List.getElem?_eq_getElem hkl, e]
    have hs : (((some rs[k]).map fun r => stF r d l).getD false) = fitB rs[k] d l := stF_fit _ _ _
    rw [hs]
    rcases fdK_best d l hO k (by omega) with ⟨e1, _⟩ | ⟨j, hj, _, e1, _⟩
    · rw [e1]
      by_cases hf : fitB rs[k] d l = true
      · rw [if_pos ⟨hf, .inl (by decide)⟩, if_pos ⟨h0, hf⟩]
      · rw [if_neg (fun h => hf h.1), if_neg (fun h => hf h.2)]
    · rw [e1]
      have ej : kl rs (j : Int) = rs[j].key.length := by simp [kl, hj]
      simp only [ej]
      by_cases hf : fitB rs[k] d l = true ∧ rs[j].key.length < rs[k].key.length
      · rw [if_pos ⟨hf.1, .inr hf.2⟩, if_pos ⟨hf.2, hf.1⟩]
      · rw [if_neg, if_neg]
        · exact fun h => hf ⟨h.2, h.1⟩
        · rintro ⟨h1, h2 | h2⟩
          · omega
          · exact hf ⟨h1, h2⟩
set_option maxHeartbeats 2000000 in
theorem rfind_any (v dv lv : Value) (rs : List Rl) (d l : List Int) (w : World) (h : PsR w v rs) (hd : IR w dv d) (hl : IR w lv l) (hdn : d.length ≤ 1000000000) (hdw : dv = .slice none 0 0 ∨ ∃ ad n c, dv = .slice (some ad) n c) (hln : l.length ≤ 1000000000) :
    Calls Tryd.prog 12 #[.agg #[v], dv, lv] w fun e w' => e = .returned (.int .i64 (fdF rs d l)) ∧ Grown w w' := by
  have HA : Hid (∀ V, Grown w V → Calls Tryd.prog 25 #[.agg #[v]] V fun e w' => e = .returned (.tuple #[.int .i64 (allE rs).1, .int .i64 (allE rs).2]) ∧ Grown V w') := fun V hg => rall_any v rs V (h.grown hg)
  have HN : Hid (∀ V, Grown w V → (allE rs).2 = 0 → Calls Tryd.prog 26 #[.agg #[v], dv, lv] V fun e w' => e = .returned (.int .i64 (fdF rs d l)) ∧ Grown V w') := fun V hg h0 => by
    have hc := allE_chk h0
    have := rnext_any v dv lv rs d l V (h.grown hg) (fun r hr => chk_ok (hc.2 r hr)) hc.1 (hd.grown hg) (hl.grown hg) hdn hdw hln
    rw [nxtK_fd d l (fun r hr => (chk_ok (hc.2 r hr)).k0) _ (Nat.le_refl _)] at this
    unfold fdF
    rw [if_pos h0]
    exact this
  have HF : Hid ((allE rs).2 ≠ 0 → fdF rs d l = -1) := fun h0 => by
    show fdF rs d l = -1
    unfold fdF; rw [if_neg h0]
  obtain ⟨d1, d2, d3, rfl⟩ := hd.sl
  obtain ⟨l1, l2, l3, rfl⟩ := hl.sl
  obtain ⟨ra, rc, hv, hx1, hx2⟩ := h
  subst hv
  clear hx1 hx2 hd hl hdn hdw hln
  generalize fdF rs d l = F at HN HF ⊢
  generalize (allE rs).1 = E1 at HA
  generalize (allE rs).2 = E2 at HA HN HF
  generalize rs.length = n at HA HN ⊢
  by_cases h0 : E2 = 0
  · subst h0
    go_enter Tryd.func12, Tryd.ntmps12
    go_wp2_with fail
    refine (HA.out _ ((Grown.refl _).alloc _)).mono ?_
    rintro e w1 ⟨rfl, hg1⟩
    have c1 := hg1.cellv (a := ⟨w.heap.size, 0, none⟩) (v := .slice ra n rc) (cell_fst rfl)
    have HG := Hid.mk' (((Grown.refl w).alloc _).trans hg1)
    clear hg1
    go_wp2_with (go_at_call 26; refine (HN.out _ HG.out (by trivial)).mono ?_; rintro e w2 ⟨rfl, hg2⟩)
    go_ret
    exact ⟨rfl, HG.out.trans hg2⟩
  · have h1 : (E2 != 0) = true := by simpa using h0
    have hF := HF.out h0
    subst hF
    clear HN HF
    go_enter Tryd.func12, Tryd.ntmps12
    go_wp2_with (go_at_call 25; refine (HA.out _ ((Grown.refl _).alloc _)).mono ?_; rintro e w1 ⟨rfl, hg1⟩)
    go_ret
    exact ⟨rfl, ((Grown.refl w).alloc _).trans hg1⟩
set_option maxHeartbeats 2000000 in
theorem rfits_any (r : Rl) (av kv pv rv dv lv : Value) (d l : List Int) (w : World) (h : RR w av kv pv rv r) (hd : IR w dv d) (hl : IR w lv l) (hdn : d.length ≤ 1000000000) (hdw : dv = .slice none 0 0 ∨ ∃ ad n c, dv = .slice (some ad) n c) (hln : l.length ≤ 1000000000) :
    Calls Tryd.prog 14 #[.agg #[.bool r.bg, av, kv, pv, .bool r.en, rv, .int .i64 r.cu], dv, lv] w fun e w' => e = .returned (.bool (fitsB r d l)) ∧ Grown w w' := by
  have HC : Hid (∀ V, Grown w V → Calls Tryd.prog 27 #[.agg #[.bool r.bg, av, kv, pv, .bool r.en, rv, .int .i64 r.cu]] V fun e w' => e = .returned (.int .i64 (chk r)) ∧ Grown V w') := fun V hg => rcheck_any r av kv pv rv V (h.grown hg)
  have HF : Hid (∀ V, Grown w V → chk r = 0 → Calls Tryd.prog 28 #[.agg #[.bool r.bg, av, kv, pv, .bool r.en, rv, .int .i64 r.cu], dv, lv] V fun e w' => e = .returned (.bool (fitB r d l)) ∧ Grown V w') := fun V hg h0 => by
    have := rstF_any r av kv pv rv dv lv d l V (h.grown hg) (hd.grown hg) (hl.grown hg) (chk_ok h0) hdn hdw hln
    rw [stF_fit] at this
    exact this
  obtain ⟨d1, d2, d3, rfl⟩ := hd.sl
  obtain ⟨l1, l2, l3, rfl⟩ := hl.sl
  obtain ⟨a1, a2, a3, rfl⟩ := h.a.sl
  obtain ⟨k1, k2, k3, rfl⟩ := h.k.sl
  obtain ⟨p1, p2, p3, rfl⟩ := h.p.sl
  obtain ⟨r1, r2, r3, rfl⟩ := h.r.sl
  unfold fitsB
  obtain ⟨c, hc⟩ : ∃ c, chk r = c := ⟨_, rfl⟩
  obtain ⟨B, hB⟩ : ∃ B, fitB r d l = B := ⟨_, rfl⟩
  rw [hc] at HC HF ⊢
  rw [hB] at HF ⊢
  clear hc hB hd hl h hdn hdw hln
  generalize r.bg = xb at HC HF ⊢
  generalize r.en = xe at HC HF ⊢
  generalize r.cu = xc at HC HF ⊢
  by_cases h0 : c = 0
  · subst h0
    have HX : Hid (∀ o W, Grown (w.alloc o) W → Grown w W) := fun o W hW => ((Grown.refl _).alloc _).trans hW
    go_enter Tryd.func14, Tryd.ntmps14
    go_wp2_with fail
    refine (HC.out _ ((Grown.refl _).alloc _)).mono ?_
    rintro e w1 ⟨rfl, hg1⟩
    have q0 := hg1.cellv (a := ⟨w.heap.size, 0, none⟩) (v := .bool xb) (cell_fst rfl)
    have q1 := hg1.cellv (a := ⟨w.heap.size, 1, none⟩) (v := .slice a1 a2 a3) (cell_fst rfl)
    have q2 := hg1.cellv (a := ⟨w.heap.size, 2, none⟩) (v := .slice k1 k2 k3) (cell_fst rfl)
    have q3 := hg1.cellv (a := ⟨w.heap.size, 3, none⟩) (v := .slice p1 p2 p3) (cell_fst rfl)
    have q4 := hg1.cellv (a := ⟨w.heap.size, 4, none⟩) (v := .bool xe) (cell_fst rfl)
    have q5 := hg1.cellv (a := ⟨w.heap.size, 5, none⟩) (v := .slice r1 r2 r3) (cell_fst rfl)
    have q6 := hg1.cellv (a := ⟨w.heap.size, 6, none⟩) (v := .int .i64 xc) (cell_fst rfl)
    have HG : Hid (Grown w w1) := HX.out _ _ hg1
    clear hg1 HC HX
    go_wp2_with (go_at_call 28; refine (HF.out _ HG.out (by trivial)).mono ?_; rintro e w2 ⟨rfl, hg2⟩)
    go_ret
    exact ⟨by simp, HG.out.trans hg2⟩
  · have hf : (c == 0) = false := by simpa using h0
    have hd : decide (c = 0) = false := by simpa using h0
    rw [hd, Bool.false_and]
    clear hd HF
    go_enter Tryd.func14, Tryd.ntmps14
    go_wp2_with (go_at_call 27; refine (HC.out _ ((Grown.refl _).alloc _)).mono ?_; rintro e w1 ⟨rfl, hg1⟩)
    go_ret
    exact ⟨rfl, ((Grown.refl _).alloc _).trans hg1⟩
end Go.Proofs
