/-
  Rules as they read; Check.
-/
import Derived.RangeFuncNested
import Derived.RangeFuncBound
import Derived.RangeFuncCalls
import Derived.RangeFuncLeaves
import Derived.Shelf.Abstract
import Derived.Shelf.RegionOpen
import Derived.WalkKit
import Derived.WalkSpells
import Derived.WalkLawsBesides
import Derived.OwnWalkIn
import Derived.TacticsInMore
import Derived.LoopNIn
import Derived.LoopIn
import Derived.BigQuiet
import Derived.RegionIn
import Derived.Deep.QuietTactic
import Derived.Deep.RegionWith
import Derived.Lib.OthersKept
import Derived.Maps.AppendAt
import Derived.Lib.SmallJoins
import Derived.Deep.DrawnRows
import Derived.Shelf.SlSortCmp.QuietGrown
import Derived.Deep.DeepCutAuto
import Derived.Laws.CopyOwn
import Derived.Laws.MakeOwn
import Derived.Test.YtkijbaofhodplaaDoorUa
import Derived.Test.YtkijbaofhodplaaDoorVx
namespace Go.Proofs
open Go.RowKit Go.Shelf

set_option maxRecDepth 100000
attribute [local go_sem] Oper.semAt_some
theorem Rs.grown {w w' : World} {v : Value} {l : List (Int × Int)} (h : Rs w v l) (k : Grown w w') : Rs w' v l := h.below k.below (Nat.le_refl _)
theorem cell_lt {w : World} {a : Addr} {v : Value} (h : w.cell? a = some v) : a.block < w.heap.size := by
  obtain ⟨o, ho, _⟩ := cells_of_cell h
  exact (Array.getElem?_eq_some_iff.1 ho).1
theorem cell_below {w w' : World} {n : Nat} {a : Addr} {v : Value} (h : w.cell? a = some v) (hb : Below n w w') (hn : w.heap.size ≤ n) : w'.cell? a = some v :=
  (hb.cell (p := a) (Nat.lt_of_lt_of_le (cell_lt h) hn)).trans h
/-- a slice value -/
def IsSl (v : Value) : Prop := ∃ a n c, v = .slice a n c
theorem Rs.sl {w : World} {v : Value} {l : List (Int × Int)} (h : Rs w v l) : IsSl v := by
  obtain ⟨a, c, rfl, _⟩ := h
  exact ⟨a, _, c, rfl⟩
/-- a row of sets that reads so -/
def SRd (w : World) (g o : Nat) (ls : List (List (Int × Int))) : Prop := ∀ (j : Nat) (hj : j < ls.length), ∃ sv, w.cell? ⟨g, o + j, none⟩ = some sv ∧ Rs w sv ls[j]
def SR (w : World) (v : Value) (ls : List (List (Int × Int))) : Prop :=
  ∃ (a : Option Addr) (cap : Nat), v = .slice a ls.length cap ∧ ls.length ≤ cap ∧ (ls = [] ∨ ∃ g o, a = some ⟨g, o, none⟩ ∧ SRd w g o ls)
theorem SRd.below {w w' : World} {n g o : Nat} {ls : List (List (Int × Int))} (h : SRd w g o ls) (hb : Below n w w') (hn : w.heap.size ≤ n) : SRd w' g o ls := fun j hj => by
  obtain ⟨sv, h1, h2⟩ := h j hj
  exact ⟨sv, cell_below h1 hb hn, h2.below hb hn⟩
theorem SRd.grown {w w' : World} {g o : Nat} {ls : List (List (Int × Int))} (h : SRd w g o ls) (k : Grown w w') : SRd w' g o ls := h.below k.below (Nat.le_refl _)
theorem SR.below {w w' : World} {n : Nat} {v : Value} {ls : List (List (Int × Int))} (h : SR w v ls) (hb : Below n w w') (hn : w.heap.size ≤ n) : SR w' v ls := by
  obtain ⟨a, cap, h1, h2, h3 | ⟨g, o, h3, h4⟩⟩ := h
  · exact ⟨a, cap, h1, h2, .inl h3⟩
  · exact ⟨a, cap, h1, h2, .inr ⟨g, o, h3, h4.below hb hn⟩⟩
theorem SR.grown {w w' : World} {v : Value} {ls : List (List (Int × Int))} (h : SR w v ls) (k : Grown w w') : SR w' v ls := h.below k.below (Nat.le_refl _)
theorem SR.sl {w : World} {v : Value} {ls : List (List (Int × Int))} (h : SR w v ls) : IsSl v := by
  obtain ⟨a, c, rfl, _⟩ := h
  exact ⟨a, _, c, rfl⟩
/-- a piece of a result -/
structure Pc where
  k : Int
  u : Int
  y : Int
  tl : List (Int × Int)
def pcv (k u y : Int) (t : Value) : Value := .agg #[.int .i64 k, .int .i64 u, .int .i64 y, t]
/-- a piece that lies so -/
def PAt (w : World) (g o : Nat) (p : Pc) : Prop := ∃ tv, w.cell? ⟨g, o, none⟩ = some (.int .i64 p.k) ∧ w.cell? ⟨g, o + 1, none⟩ = some (.int .i64 p.u) ∧ w.cell? ⟨g, o + 2, none⟩ = some (.int .i64 p.y) ∧ w.cell? ⟨g, o + 3, none⟩ = some tv ∧ Rs w tv p.tl
theorem PAt.below {w w' : World} {n g o : Nat} {p : Pc} (h : PAt w g o p) (hb : Below n w w') (hn : w.heap.size ≤ n) : PAt w' g o p := by
  obtain ⟨tv, h0, h1, h2, h3, h4⟩ := h
  exact ⟨tv, cell_below h0 hb hn, cell_below h1 hb hn, cell_below h2 hb hn, cell_below h3 hb hn, h4.below hb hn⟩
def PRd (w : World) (g o : Nat) (ps : List Pc) : Prop := ∀ (j : Nat) (hj : j < ps.length), PAt w g (o + j * 4) ps[j]
def PR (w : World) (v : Value) (ps : List Pc) : Prop :=
  ∃ (a : Option Addr) (cap : Nat), v = .slice a ps.length cap ∧ ps.length ≤ cap ∧ (ps = [] ∨ ∃ g o, a = some ⟨g, o, none⟩ ∧ PRd w g o ps)
theorem PRd.below {w w' : World} {n g o : Nat} {ps : List Pc} (h : PRd w g o ps) (hb : Below n w w') (hn : w.heap.size ≤ n) : PRd w' g o ps := fun j hj => (h j hj).below hb hn
theorem PRd.grown {w w' : World} {g o : Nat} {ps : List Pc} (h : PRd w g o ps) (k : Grown w w') : PRd w' g o ps := h.below k.below (Nat.le_refl _)
theorem PR.below {w w' : World} {n : Nat} {v : Value} {ps : List Pc} (h : PR w v ps) (hb : Below n w w') (hn : w.heap.size ≤ n) : PR w' v ps := by
  obtain ⟨a, cap, h1, h2, h3 | ⟨g, o, h3, h4⟩⟩ := h
  · exact ⟨a, cap, h1, h2, .inl h3⟩
  · exact ⟨a, cap, h1, h2, .inr ⟨g, o, h3, h4.below hb hn⟩⟩
theorem PR.grown {w w' : World} {v : Value} {ps : List Pc} (h : PR w v ps) (k : Grown w w') : PR w' v ps := h.below k.below (Nat.le_refl _)
theorem PR.sl {w : World} {v : Value} {ps : List Pc} (h : PR w v ps) : IsSl v := by
  obtain ⟨a, c, rfl, _⟩ := h
  exact ⟨a, _, c, rfl⟩
/-- a rule -/
structure Rl where
  bg : Bool
  en : Bool
  cu : Int
  ante : List (List (Int × Int))
  key : List (List (Int × Int))
  post : List (List (Int × Int))
  res : List Pc
def rlv (bg : Bool) (av kv pv : Value) (en : Bool) (rv : Value) (cu : Int) : Value := .agg #[.bool bg, av, kv, pv, .bool en, rv, .int .i64 cu]
/-- a rule's value that reads so -/
structure RR (w : World) (av kv pv rv : Value) (r : Rl) : Prop where
  a : SR w av r.ante
  k : SR w kv r.key
  p : SR w pv r.post
  r : PR w rv r.res
theorem RR.below {w w' : World} {n : Nat} {av kv pv rv : Value} {r : Rl} (h : RR w av kv pv rv r) (hb : Below n w w') (hn : w.heap.size ≤ n) : RR w' av kv pv rv r := ⟨h.a.below hb hn, h.k.below hb hn, h.p.below hb hn, h.r.below hb hn⟩
theorem RR.grown {w w' : World} {av kv pv rv : Value} {r : Rl} (h : RR w av kv pv rv r) (k : Grown w w') : RR w' av kv pv rv r := h.below k.below (Nat.le_refl _)
/-- a set that has a unit -/
def okS (l : List (Int × Int)) : Bool := validB l && !l.isEmpty
theorem tot_pos {l : List (Int × Int)} (h : ∀ x ∈ l, Whole x) (h0 : l ≠ []) : 0 < tot l := by
  match l, h0 with
  | x :: r, _ =>
    have h1 := (h x (by simp)).1
    have h2 := tot_bound (l := r) (fun y hy => h y (by simp [hy]))
    have h3 : tot (x :: r) = (x.2 - x.1 + 1) + tot r := by simp [tot]
    omega
theorem lenU_ok {l : List (Int × Int)} (h : okS l = true) : 0 < lenU l := by
  simp only [okS, Bool.and_eq_true, Bool.not_eq_true', List.isEmpty_eq_false_iff] at h
  have hv := (validB_iff l).1 h.1
  unfold lenU
  rw [if_pos h.1]
  exact tot_pos hv.2.1 h.2
theorem lenU_no {l : List (Int × Int)} (h : okS l = false) : lenU l = 0 := by
  unfold lenU
  by_cases hv : validB l = true
  · rw [if_pos hv]
    simp only [okS, hv, Bool.true_and, Bool.not_eq_false', List.isEmpty_iff] at h
    rw [h]; rfl
  · rw [if_neg hv]
theorem all_succ {α : Type} (f : α → Bool) {l : List α} {k : Nat} (hk : k < l.length) : (l.take (k + 1)).all f = ((l.take k).all f && f l[k]) := by
  rw [List.take_succ_eq_append_getElem hk, List.all_append]; simp
theorem all_stop {α : Type} (f : α → Bool) {l : List α} {k : Nat} (hk : k < l.length) (h : f l[k] = false) : l.all f = false := by
  rw [List.all_eq_false]
  exact ⟨_, List.getElem_mem hk, by simp [h]⟩
set_option maxHeartbeats 1000000 in
theorem filled_nil (a : Option Addr) (c : Nat) (w : World) : Calls Tryd.prog 85 #[.slice a 0 c] w fun e w' => e = .returned (.bool true) ∧ Grown w w' := by
  go_enter Tryd.func85, Tryd.ntmps85
  go_wp2
  go_loopw [7] (fun vi wr => vi = .int .i64 0 ∧ wr = w) (fun _ _ => 0)
  case atStart => exact ⟨rfl, rfl⟩
  case round =>
    obtain ⟨rfl, rfl⟩ := hrel
    go_wp2
    go_ret
    exact ⟨rfl, Grown.refl _⟩
set_option maxHeartbeats 1000000 in
theorem filled_walk (g o c : Nat) (ls : List (List (Int × Int))) (w : World) (hT : Tab w) (h : SRd w g o ls) (hn1 : ls.length ≤ 1000000) :
    Calls Tryd.prog 85 #[.slice (some ⟨g, o, none⟩) ls.length c] w fun e w' => e = .returned (.bool (ls.all okS)) ∧ Grown w w' := by
  obtain ⟨n, hnn⟩ : ∃ n, ls.length = n := ⟨_, rfl⟩
  have HN : Hid (ls.length = n) := hnn
  rw [hnn] at hn1 ⊢
  obtain ⟨r, hr⟩ : ∃ r : Bool, ls.all okS = r := ⟨_, rfl⟩
  have HR : Hid (ls.all okS = r) := hr
  rw [hr]
  clear hr hnn
  have HH : Hid (SRd w g o ls) := h
  have HT : Hid (Tab w) := hT
  clear h hT
  go_enter Tryd.func85, Tryd.ntmps85
  go_wp2
  go_loopw [7] (fun vi wr => ∃ k : Nat, vi = .int .i64 k ∧ k ≤ n ∧ Hid ((ls.take k).all okS = true) ∧ Grown w wr) (fun vi _ => n - (intOf vi).toNat)
  case atStart => exact ⟨0, rfl, by omega, by simp [Hid], Grown.refl _⟩
  case round =>
    obtain ⟨k, rfl, hk, hG, hB⟩ := hrel
    by_cases hlt : k < n
    · have hlt' : (k : Int) < (n : Int) := by omega
      have hpos : (0 : Int) ≤ (k : Int) := by omega
      have hkl : k < ls.length := by rw [HN.out]; exact hlt
      obtain ⟨sv, hc, hs⟩ := HH.out k hkl
      have hc := hB.cellv hc
      have HC : Hid (∀ W, Grown wr W → Calls Tryd.prog 93 #[sv] W fun e w' => e = .returned (.int .i64 (lenU ls[k])) ∧ Grown W w') := fun W hW => len_any sv _ W (HT.out.grown (hB.trans hW)) ((hs.grown hB).grown hW)
      obtain ⟨sa, sn, sc, rfl⟩ := hs.sl
      by_cases hv : okS ls[k] = true
      · have hp := lenU_ok hv
        have HS : Hid ((ls.take (k + 1)).all okS = true) := by show _ = true; rw [all_succ okS hkl, hG.out, hv]; rfl
        generalize lenU ls[k] = q at HC hp
        have hq : (q == 0) = false := by simp; omega
        clear hs hv hG
        go_wp2_with (go_at_call 93; refine (HC.out _ (Grown.refl _)).mono ?_; rintro e w' ⟨rfl, hb⟩)
        exact ⟨⟨k + 1, by go_num, by omega, HS, hB.trans hb⟩, by simp [intOf]; omega⟩
      · have hv' : okS ls[k] = false := by simpa using hv
        have hrf : r = false := by rw [← HR.out]; exact all_stop okS hkl hv'
        have HF : Hid (r = false) := hrf
        rw [lenU_no hv'] at HC
        clear hs hv hv' hG hrf
        go_wp2_with (go_at_call 93; refine (HC.out _ (Grown.refl _)).mono ?_; rintro e w' ⟨rfl, hb⟩)
        go_ret
        have hrf := HF.out
        exact ⟨by first | rfl | (rw [hrf]; rfl), hB.trans hb⟩
    · have hrt : r = true := by
        rw [← HR.out]
        have := hG.out
        rwa [List.take_of_length_le (by rw [HN.out]; omega)] at this
      have HF : Hid (r = true) := hrt
      clear hG hrt
      go_wp2
      go_ret
      have hrf := HF.out
      exact ⟨by first | rfl | (rw [hrf]; rfl), hB⟩
theorem filled_any (v : Value) (ls : List (List (Int × Int))) (w : World) (hT : Tab w) (h : SR w v ls) (hn : ls.length ≤ 1000000) : Calls Tryd.prog 85 #[v] w fun e w' => e = .returned (.bool (ls.all okS)) ∧ Grown w w' := by
  obtain ⟨a, cap, rfl, _, h⟩ := h
  rcases h with rfl | ⟨g, o, rfl, h⟩
  · exact filled_nil a cap w
  · exact filled_walk g o cap ls w hT h hn
end Go.Proofs
namespace Go.Proofs
open Go.RowKit Go.Shelf

set_option maxRecDepth 100000
attribute [local go_sem] Oper.semAt_some
attribute [local go_sem ↓] Go.wp_at_zero Go.wp_at_succ
def matB (f t : List (Int × Int)) : Bool := validB t && decide (lenU f = lenU t)
set_option maxHeartbeats 1000000 in
theorem matched_any (fv tv : Value) (f t : List (Int × Int)) (w : World) (hT : Tab w) (hf : Rs w fv f) (ht : Rs w tv t) : Calls Tryd.prog 94 #[fv, tv] w fun e w' => e = .returned (.bool (matB f t)) ∧ Grown w w' := by
  have HV : Hid (Calls Tryd.prog 88 #[tv] w fun e w' => e = .returned (.bool (validB t)) ∧ Grown w w') := valid_any tv t w hT ht
  have HF : Hid (∀ W, Grown w W → Calls Tryd.prog 93 #[fv] W fun e w' => e = .returned (.int .i64 (lenU f)) ∧ Grown W w') := fun W hW => len_any fv f W (hT.grown hW) (hf.grown hW)
  have HL : Hid (∀ W, Grown w W → Calls Tryd.prog 93 #[tv] W fun e w' => e = .returned (.int .i64 (lenU t)) ∧ Grown W w') := fun W hW => len_any tv t W (hT.grown hW) (ht.grown hW)
  unfold matB
  generalize lenU f = p at HF
  generalize lenU t = q at HL
  generalize validB t = b at HV
  clear hT hf ht
  cases b with
  | false =>
    go_enter Tryd.func94, Tryd.ntmps94
    go_wp2_with fail
    refine HV.out.mono ?_
    rintro e w1 ⟨rfl, hb1⟩
    go_wp2
    go_ret
    exact ⟨rfl, hb1⟩
  | true =>
    by_cases hpq : p = q
    · subst hpq
      go_enter Tryd.func94, Tryd.ntmps94
      go_wp2_with fail
      refine HV.out.mono ?_
      rintro e w1 ⟨rfl, hb1⟩
      go_wp2_with fail
      refine (HF.out _ hb1).mono ?_
      rintro e w2 ⟨rfl, hb2⟩
      go_wp2_with fail
      refine (HL.out _ (hb1.trans hb2)).mono ?_
      rintro e w3 ⟨rfl, hb3⟩
      go_wp2
      go_ret
      exact ⟨by simp, (hb1.trans hb2).trans hb3⟩
    · have hq : (p == q) = false := by simpa using hpq
      go_enter Tryd.func94, Tryd.ntmps94
      go_wp2_with fail
      refine HV.out.mono ?_
      rintro e w1 ⟨rfl, hb1⟩
      go_wp2_with fail
      refine (HF.out _ hb1).mono ?_
      rintro e w2 ⟨rfl, hb2⟩
      go_wp2_with fail
      refine (HL.out _ (hb1.trans hb2)).mono ?_
      rintro e w3 ⟨rfl, hb3⟩
      go_wp2
      go_ret
      exact ⟨by simp [hpq], (hb1.trans hb2).trans hb3⟩
/-- the set of a key's place -/
def keyAt (key : List (List (Int × Int))) (y : Int) : List (Int × Int) := key[y.toNat]?.getD []
/-- what is wrong with a piece -/
def pcE (key : List (List (Int × Int))) (p : Pc) : Int :=
  if p.k = 1 then (if wd p.u = 0 ∨ p.y ≠ 0 ∨ p.tl ≠ [] then 73 else 0)
  else if p.k = 2 ∨ p.k = 3 then
    (if p.u ≠ 0 ∨ (p.k = 2 ∧ p.tl ≠ []) then 73
    else if p.y < 0 ∨ (key.length : Int) ≤ p.y then 74
    else if p.k = 3 ∧ matB (keyAt key p.y) p.tl = false then 75 else 0)
  else 73
set_option maxHeartbeats 2000000 in
theorem cp_unit (kv : Value) (u y : Int) (ta : Option Addr) (tn tc : Nat) (w : World) : Calls Tryd.prog 86 #[kv, .agg #[.int .i64 1, .int .i64 u, .int .i64 y, .slice ta tn tc]] w fun e w' => e = .returned (.int .i64 (if wd u = 0 ∨ y ≠ 0 ∨ tn ≠ 0 then 73 else 0)) ∧ Grown w w' := by
  have HC := width_any u
  generalize wd u = q at HC
  by_cases h1 : q = 0
  · rw [if_pos (.inl h1)]
    subst h1
    go_enter Tryd.func86, Tryd.ntmps86
    go_wp2_with (go_at_call 35; refine (HC _).mono ?_; rintro e w' ⟨rfl, rfl⟩)
    go_ret
    exact ⟨rfl, (Grown.refl _).alloc _⟩
  · have hq : (q == 0) = false := by simpa using h1
    by_cases h2 : y = 0
    · by_cases h3 : tn = 0
      · rw [if_neg (by simp [h1, h2, h3])]
        subst h2
        subst h3
        go_enter Tryd.func86, Tryd.ntmps86
        go_wp2_with (go_at_call 35; refine (HC _).mono ?_; rintro e w' ⟨rfl, rfl⟩)
        go_ret
        exact ⟨rfl, (Grown.refl _).alloc _⟩
      · rw [if_pos (.inr (.inr h3))]
        subst h2
        have h4 : (0 : Int) < (tn : Int) := by omega
        have h5 : 0 < tn := by omega
        go_enter Tryd.func86, Tryd.ntmps86
        go_wp2_with (go_at_call 35; refine (HC _).mono ?_; rintro e w' ⟨rfl, rfl⟩)
        go_ret
        exact ⟨rfl, (Grown.refl _).alloc _⟩
    · rw [if_pos (.inr (.inl h2))]
      have hq2 : (y != 0) = true := by simpa using h2
      go_enter Tryd.func86, Tryd.ntmps86
      go_wp2_with (go_at_call 35; refine (HC _).mono ?_; rintro e w' ⟨rfl, rfl⟩)
      go_ret
      exact ⟨rfl, (Grown.refl _).alloc _⟩
set_option maxHeartbeats 2000000 in
theorem cp_other (kv : Value) (k u y : Int) (ta : Option Addr) (tn tc : Nat) (w : World) (h1 : k ≠ 1) (h2 : k ≠ 2) (h3 : k ≠ 3) : Calls Tryd.prog 86 #[kv, .agg #[.int .i64 k, .int .i64 u, .int .i64 y, .slice ta tn tc]] w fun e w' => e = .returned (.int .i64 73) ∧ Grown w w' := by
  have e1 : (k == 1) = false := by simpa using h1
  have e2 : (k == 2) = false := by simpa using h2
  have e3 : (k == 3) = false := by simpa using h3
  go_enter Tryd.func86, Tryd.ntmps86
  go_wp2
  go_ret
  exact ⟨rfl, (Grown.refl _).alloc _⟩
set_option maxHeartbeats 2000000 in
theorem cp_copy (ka : Option Addr) (kn kc : Nat) (u y : Int) (ta : Option Addr) (tn tc : Nat) (w : World) : Calls Tryd.prog 86 #[.slice ka kn kc, .agg #[.int .i64 2, .int .i64 u, .int .i64 y, .slice ta tn tc]] w fun e w' => e = .returned (.int .i64 (if u ≠ 0 ∨ tn ≠ 0 then 73 else if y < 0 ∨ (kn : Int) ≤ y then 74 else 0)) ∧ Grown w w' := by
  have hm := mixed
  by_cases h1 : u = 0
  · subst h1
    by_cases h2 : tn = 0
    · subst h2
      rw [if_neg (by simp)]
      by_cases h3 : y < 0
      · rw [if_pos (.inl h3)]
        go_enter Tryd.func86, Tryd.ntmps86
        go_wp2
        go_ret
        exact ⟨rfl, (Grown.refl _).alloc _⟩
      · have d3 : decide (y < 0) = false := by simpa using h3
        by_cases h4 : (kn : Int) ≤ y
        · rw [if_pos (.inr h4)]
          go_enter Tryd.func86, Tryd.ntmps86
          go_wp2
          go_ret
          exact ⟨rfl, (Grown.refl _).alloc _⟩
        · rw [if_neg (by omega)]
          have d4 : decide ((kn : Int) ≤ y) = false := by simpa using h4
          go_enter Tryd.func86, Tryd.ntmps86
          go_wp2
          refine wp_region_quiet_grown hm (by kernel_rfl) ?_
          repeat (go_big_quiet_step (fail))
          refine wpQuiet_nil ?_
          intro _ hw'
          obtain ⟨⟨nq, osq⟩, hw''⟩ := hw'
          subst hw''
          go_wp2
          go_ret
          exact ⟨rfl, ((Grown.refl _).alloc _).quiet _ _⟩
    · rw [if_pos (.inr h2)]
      have h4 : (0 : Int) < (tn : Int) := by omega
      have h5 : 0 < tn := by omega
      go_enter Tryd.func86, Tryd.ntmps86
      go_wp2
      go_ret
      exact ⟨rfl, (Grown.refl _).alloc _⟩
  · rw [if_pos (.inl h1)]
    have hq2 : (u != 0) = true := by simpa using h1
    go_enter Tryd.func86, Tryd.ntmps86
    go_wp2
    go_ret
    exact ⟨rfl, (Grown.refl _).alloc _⟩
set_option maxHeartbeats 2000000 in
theorem cp_pair (kv : Value) (key : List (List (Int × Int))) (u y : Int) (tv : Value) (tl : List (Int × Int)) (w : World) (hT : Tab w) (hk : SR w kv key) (ht : Rs w tv tl) : Calls Tryd.prog 86 #[kv, .agg #[.int .i64 3, .int .i64 u, .int .i64 y, tv]] w fun e w' => e = .returned (.int .i64 (if u ≠ 0 then 73 else if y < 0 ∨ (key.length : Int) ≤ y then 74 else if matB (keyAt key y) tl = false then 75 else 0)) ∧ Grown w w' := by
  have hm := mixed
  have HK : Hid (SR w kv key) := hk
  have HT : Hid (Rs w tv tl) := ht
  obtain ⟨ta, tn, tc, rfl⟩ := ht.sl
  obtain ⟨ka, kc, rfl, hkc, hk⟩ := hk
  clear ht
  obtain ⟨kn, hkn⟩ : ∃ kn, key.length = kn := ⟨_, rfl⟩
  rw [hkn]
  by_cases h1 : u = 0
  · subst h1
    rw [if_neg (by simp)]
    by_cases h3 : y < 0
    · rw [if_pos (.inl h3)]
      clear hk hkn
      go_enter Tryd.func86, Tryd.ntmps86
      go_wp2
      go_ret
      exact ⟨rfl, (Grown.refl _).alloc _⟩
    · have d3 : decide (y < 0) = false := by simpa using h3
      by_cases h4 : (kn : Int) ≤ y
      · rw [if_pos (.inr h4)]
        clear hk hkn
        go_enter Tryd.func86, Tryd.ntmps86
        go_wp2
        go_ret
        exact ⟨rfl, (Grown.refl _).alloc _⟩
      · rw [if_neg (by omega)]
        have d4 : decide ((kn : Int) ≤ y) = false := by simpa using h4
        obtain ⟨j, rfl⟩ : ∃ j : Nat, y = (j : Int) := ⟨y.toNat, by omega⟩
        have hjl : j < key.length := by omega
        rcases hk with rfl | ⟨g, o, rfl, hk⟩
        · simp at hjl
        obtain ⟨sv, hc, hs⟩ := hk j hjl
        have hka : keyAt key (j : Int) = key[j] := by simp [keyAt, hjl]
        rw [hka]
        obtain ⟨ob, hob⟩ : ∃ ob, Obj.cells #[.int .i64 3, .int .i64 0, .int .i64 (j : Int), .slice ta tn tc] 66 = ob := ⟨_, rfl⟩
        have HC : Hid (∀ m os, Calls Tryd.prog 94 #[sv, .slice ta tn tc] (Go.Sort.grow ((w.alloc (.cells #[.int .i64 3, .int .i64 0, .int .i64 (j : Int), .slice ta tn tc] 66)).drewN m) os) fun e w' => e = .returned (.bool (matB key[j] tl)) ∧ Grown (Go.Sort.grow ((w.alloc (.cells #[.int .i64 3, .int .i64 0, .int .i64 (j : Int), .slice ta tn tc] 66)).drewN m) os) w') := fun m os => by
          have hG := ((Grown.refl w).alloc (.cells #[.int .i64 3, .int .i64 0, .int .i64 (j : Int), .slice ta tn tc] 66)).quiet m os
          exact matched_any sv _ key[j] tl _ (hT.grown hG) (hs.grown hG) (HT.out.grown hG)
        have e2 : ∀ m os, (Go.Sort.grow ((w.alloc (.cells #[.int .i64 3, .int .i64 0, .int .i64 (j : Int), .slice ta tn tc] 66)).drewN m) os).cell? ⟨w.heap.size, 2, none⟩ = some (.int .i64 (j : Int)) := fun m os => cell_grown (by simp) (by simp) m os
        have e3 : ∀ m os, (Go.Sort.grow ((w.alloc (.cells #[.int .i64 3, .int .i64 0, .int .i64 (j : Int), .slice ta tn tc] 66)).drewN m) os).cell? ⟨w.heap.size, 3, none⟩ = some (.slice ta tn tc) := fun m os => cell_grown (by simp) (by simp) m os
        have e4 : ∀ m os, (Go.Sort.grow ((w.alloc (.cells #[.int .i64 3, .int .i64 0, .int .i64 (j : Int), .slice ta tn tc] 66)).drewN m) os).cell? ⟨g, o + j, none⟩ = some sv := fun m os => (((Grown.refl _).alloc _).quiet m os).cellv hc
        have hj0 : (0 : Int) ≤ (j : Int) := by omega
        have hj1 : (j : Int) < (kn : Int) := by omega
        generalize matB key[j] tl = b at HC
        clear hk hkn HK HT hs hka hjl hc hT hob
        cases b with
        | true =>
          rw [if_neg (by simp)]
          go_enter Tryd.func86, Tryd.ntmps86
          go_wp2
          refine wp_region_quiet_grown hm (by kernel_rfl) ?_
          repeat (go_big_quiet_step ((go_at_call 94; exact grown_of (HC.out _ _))))
          refine wpQuiet_nil ?_
          intro _ hw'
          obtain ⟨⟨nq, osq⟩, hw''⟩ := hw'
          subst hw''
          go_wp2
          go_ret
          exact ⟨rfl, ((Grown.refl _).alloc _).quiet _ _⟩
        | false =>
          rw [if_pos rfl]
          go_enter Tryd.func86, Tryd.ntmps86
          go_wp2
          refine wp_region_quiet_grown hm (by kernel_rfl) ?_
          repeat (go_big_quiet_step ((go_at_call 94; exact grown_of (HC.out _ _))))
          refine wpQuiet_nil ?_
          intro _ hw'
          obtain ⟨⟨nq, osq⟩, hw''⟩ := hw'
          subst hw''
          go_wp2
          go_ret
          exact ⟨rfl, ((Grown.refl _).alloc _).quiet _ _⟩
  · rw [if_pos h1]
    have hq2 : (u != 0) = true := by simpa using h1
    clear hk hkn
    go_enter Tryd.func86, Tryd.ntmps86
    go_wp2
    go_ret
    exact ⟨rfl, (Grown.refl _).alloc _⟩
theorem len_zero_iff {w : World} {a : Option Addr} {n c : Nat} {l : List (Int × Int)} (h : Rs w (.slice a n c) l) : n = l.length := by
  obtain ⟨a', c', e, _⟩ := h
  cases e; rfl
theorem checkPiece_any (kv : Value) (key : List (List (Int × Int))) (p : Pc) (tv : Value) (w : World) (hT : Tab w) (hk : SR w kv key) (ht : Rs w tv p.tl) : Calls Tryd.prog 86 #[kv, .agg #[.int .i64 p.k, .int .i64 p.u, .int .i64 p.y, tv]] w fun e w' => e = .returned (.int .i64 (pcE key p)) ∧ Grown w w' := by
  obtain ⟨k, u, y, tl⟩ := p
  simp only at ht ⊢
  unfold pcE
  simp only
  by_cases h1 : k = 1
  · subst h1
    rw [if_pos rfl]
    obtain ⟨ta, tn, tc, rfl⟩ := ht.sl
    have := cp_unit kv u y ta tn tc w
    rw [len_zero_iff ht] at this ⊢
    simpa using this
  · rw [if_neg h1]
    by_cases h2 : k = 2
    · subst h2
      rw [if_pos (.inl rfl)]
      obtain ⟨ta, tn, tc, rfl⟩ := ht.sl
      obtain ⟨ka, kc, rfl, _, _⟩ := hk
      have := cp_copy ka key.length kc u y ta tn tc w
      rw [len_zero_iff ht] at this ⊢
      simpa using this
    · by_cases h3 : k = 3
      · subst h3
        rw [if_pos (.inr rfl)]
        have := cp_pair kv key u y tv tl w hT hk ht
        simpa using this
      · rw [if_neg (by omega)]
        obtain ⟨ta, tn, tc, rfl⟩ := ht.sl
        exact cp_other kv k u y ta tn tc w h1 h2 h3
end Go.Proofs
namespace Go.Proofs
open Go.RowKit Go.Shelf

set_option maxRecDepth 100000
attribute [local go_sem] Oper.semAt_some
/-- the first piece that is wrong -/
def fstE (key : List (List (Int × Int))) : List Pc → Int
  | [] => 0
  | p :: r => if pcE key p = 0 then fstE key r else pcE key p
/-- what is wrong with a rule -/
def chk (r : Rl) : Int :=
  if r.key.length = 0 ∨ 8 < r.key.length then 70
  else if 8 < r.ante.length ∨ 8 < r.post.length ∨ 16 < r.res.length then 72
  else if (r.ante.all okS && r.key.all okS && r.post.all okS) = false then 71
  else if fstE r.key r.res ≠ 0 then fstE r.key r.res
  else if r.cu < 0 ∨ (r.res.length : Int) < r.cu then 76 else 0
theorem drop_pc {ps : List Pc} {k : Nat} (h : k < ps.length) : ps.drop k = ps[k] :: ps.drop (k + 1) := List.drop_eq_getElem_cons h
/-- the block of a rule -/
def rcells (bg : Bool) (av kv pv : Value) (en : Bool) (rv : Value) (cu : Int) : Obj := .cells #[.bool bg, av, kv, pv, .bool en, rv, .int .i64 cu] 54
/-- what the pieces, and the cursor behind them, say -/
def tailE (r : Rl) : Int := if fstE r.key r.res ≠ 0 then fstE r.key r.res else if r.cu < 0 ∨ (r.res.length : Int) < r.cu then 76 else 0
set_option maxHeartbeats 4000000 in
theorem check_early (bg en : Bool) (cu : Int) (aa ka pa ra : Option Addr) (an ac kn kc pn pc rn rc : Nat) (w : World) (h : kn = 0 ∨ 8 < kn ∨ 8 < an ∨ 8 < pn ∨ 16 < rn) :
    Calls Tryd.prog 73 #[.agg #[.bool bg, .slice aa an ac, .slice ka kn kc, .slice pa pn pc, .bool en, .slice ra rn rc, .int .i64 cu]] w fun e w' => e = .returned (.int .i64 (if kn = 0 ∨ 8 < kn then 70 else 72)) ∧ Grown w w' := by
  by_cases h1 : kn = 0
  · rw [if_pos (.inl h1)]
    subst h1
    clear h
    go_enter Tryd.func73, Tryd.ntmps73
    go_wp2
    go_ret
    exact ⟨rfl, (Grown.refl _).alloc _⟩
  · have e1 : ((kn : Int) == 0) = false := by simpa using h1
    have e1' : decide (kn = 0) = false := by simpa using h1
    by_cases h2 : 8 < kn
    · rw [if_pos (.inr h2)]
      have h2' : (8 : Int) < (kn : Int) := by omega
      clear h
      go_enter Tryd.func73, Tryd.ntmps73
      go_wp2
      go_ret
      exact ⟨rfl, (Grown.refl _).alloc _⟩
    · rw [if_neg (by omega)]
      have d2 : decide ((8 : Int) < (kn : Int)) = false := by simp; omega
      have d2' : ¬ (8 : Int) < (kn : Int) := by omega
      by_cases h3 : 8 < an
      · have h3' : (8 : Int) < (an : Int) := by omega
        clear h
        go_enter Tryd.func73, Tryd.ntmps73
        go_wp2
        go_ret
        exact ⟨rfl, (Grown.refl _).alloc _⟩
      · have d3 : decide ((8 : Int) < (an : Int)) = false := by simp; omega
        have d3' : ¬ (8 : Int) < (an : Int) := by omega
        by_cases h4 : 8 < pn
        · have h4' : (8 : Int) < (pn : Int) := by omega
          clear h
          go_enter Tryd.func73, Tryd.ntmps73
          go_wp2
          go_ret
          exact ⟨rfl, (Grown.refl _).alloc _⟩
        · have d4 : decide ((8 : Int) < (pn : Int)) = false := by simp; omega
          have d4' : ¬ (8 : Int) < (pn : Int) := by omega
          have h5' : (16 : Int) < (rn : Int) := by omega
          clear h
          go_enter Tryd.func73, Tryd.ntmps73
          go_wp2
          go_ret
          exact ⟨rfl, (Grown.refl _).alloc _⟩
set_option maxHeartbeats 4000000 in
theorem check_sets (r : Rl) (aa ka pa ra : Option Addr) (an ac kn kc pn pc rn rc : Nat) (w : World) (hT : Tab w) (h : RR w (.slice aa an ac) (.slice ka kn kc) (.slice pa pn pc) (.slice ra rn rc) r)
    (h1 : kn ≠ 0) (h2 : kn ≤ 8) (h3 : an ≤ 8) (h4 : pn ≤ 8) (h5 : rn ≤ 16) (hb : (r.ante.all okS && r.key.all okS && r.post.all okS) = false) (ha : an = r.ante.length) (hk : kn = r.key.length) (hp : pn = r.post.length) :
    Calls Tryd.prog 73 #[.agg #[.bool r.bg, .slice aa an ac, .slice ka kn kc, .slice pa pn pc, .bool r.en, .slice ra rn rc, .int .i64 r.cu]] w fun e w' => e = .returned (.int .i64 71) ∧ Grown w w' := by
  have HA : Hid (∀ W, Grown w W → Calls Tryd.prog 85 #[.slice aa an ac] W fun e w' => e = .returned (.bool (r.ante.all okS)) ∧ Grown W w') := fun W hW => filled_any _ _ W (hT.grown hW) (h.a.grown hW) (by omega)
  have HK : Hid (∀ W, Grown w W → Calls Tryd.prog 85 #[.slice ka kn kc] W fun e w' => e = .returned (.bool (r.key.all okS)) ∧ Grown W w') := fun W hW => filled_any _ _ W (hT.grown hW) (h.k.grown hW) (by omega)
  have HP : Hid (∀ W, Grown w W → Calls Tryd.prog 85 #[.slice pa pn pc] W fun e w' => e = .returned (.bool (r.post.all okS)) ∧ Grown W w') := fun W hW => filled_any _ _ W (hT.grown hW) (h.p.grown hW) (by omega)
  generalize r.ante.all okS = b1 at HA hb
  generalize r.key.all okS = b2 at HK hb
  generalize r.post.all okS = b3 at HP hb
  obtain ⟨bg, en, cu, ante, key, post, res⟩ := r
  simp only
  clear ha hk hp h hT
  have e1 : ((kn : Int) == 0) = false := by simpa using h1
  have d2' : ¬ (8 : Int) < (kn : Int) := by omega
  have d3' : ¬ (8 : Int) < (an : Int) := by omega
  have d4' : ¬ (8 : Int) < (pn : Int) := by omega
  have d5' : ¬ (16 : Int) < (rn : Int) := by omega
  clear h2 h3 h4 h5
  cases b1 with
  | false =>
    go_enter Tryd.func73, Tryd.ntmps73
    go_wp2_with fail
    refine (HA.out _ ((Grown.refl _).alloc _)).mono ?_
    rintro e w1 ⟨rfl, hb1⟩
    go_wp2
    go_ret
    exact ⟨rfl, ((Grown.refl _).alloc _).trans hb1⟩
  | true =>
    cases b2 with
    | false =>
      go_enter Tryd.func73, Tryd.ntmps73
      go_wp2_with fail
      refine (HA.out _ ((Grown.refl _).alloc _)).mono ?_
      rintro e w1 ⟨rfl, hb1⟩
      have hc2 := fun j v h => hb1.cellv (a := ⟨w.heap.size, j, none⟩) (v := v) h
      have g2 := hc2 2 (.slice ka kn kc) (by simp)
      go_wp2_with fail
      refine (HK.out _ (((Grown.refl _).alloc _).trans hb1)).mono ?_
      rintro e w2 ⟨rfl, hb2⟩
      go_wp2
      go_ret
      exact ⟨rfl, (((Grown.refl _).alloc _).trans hb1).trans hb2⟩
    | true =>
      obtain rfl : b3 = false := by simpa using hb
      go_enter Tryd.func73, Tryd.ntmps73
      go_wp2_with fail
      refine (HA.out _ ((Grown.refl _).alloc _)).mono ?_
      rintro e w1 ⟨rfl, hb1⟩
      have hc2 := fun j v h => hb1.cellv (a := ⟨w.heap.size, j, none⟩) (v := v) h
      have g2 := hc2 2 (.slice ka kn kc) (by simp)
      have g3 := hc2 3 (.slice pa pn pc) (by simp)
      go_wp2_with fail
      refine (HK.out _ (((Grown.refl _).alloc _).trans hb1)).mono ?_
      rintro e w2 ⟨rfl, hb2⟩
      have g3 := hb2.cellv g3
      go_wp2_with fail
      refine (HP.out _ ((((Grown.refl _).alloc _).trans hb1).trans hb2)).mono ?_
      rintro e w3 ⟨rfl, hb3⟩
      go_wp2
      go_ret
      exact ⟨rfl, ((((Grown.refl _).alloc _).trans hb1).trans hb2).trans hb3⟩
set_option maxHeartbeats 4000000 in
theorem check_tail (r : Rl) (aa ka pa ra : Option Addr) (an ac kn kc pn pc rn rc : Nat) (w : World) (hT : Tab w) (h : RR w (.slice aa an ac) (.slice ka kn kc) (.slice pa pn pc) (.slice ra rn rc) r)
    (h1 : kn ≠ 0) (h2 : kn ≤ 8) (h3 : an ≤ 8) (h4 : pn ≤ 8) (h5 : rn ≤ 16) (hb1 : r.ante.all okS = true) (hb2 : r.key.all okS = true) (hb3 : r.post.all okS = true) (ha : an = r.ante.length) (hk : kn = r.key.length) (hp : pn = r.post.length) (hr : rn = r.res.length) :
    Calls Tryd.prog 73 #[.agg #[.bool r.bg, .slice aa an ac, .slice ka kn kc, .slice pa pn pc, .bool r.en, .slice ra rn rc, .int .i64 r.cu]] w fun e w' => e = .returned (.int .i64 (tailE r)) ∧ Grown w w' := by
  have HA : Hid (∀ W, Grown w W → Calls Tryd.prog 85 #[.slice aa an ac] W fun e w' => e = .returned (.bool true) ∧ Grown W w') := fun W hW => by have := filled_any _ _ W (hT.grown hW) (h.a.grown hW) (by omega); rwa [hb1] at this
  have HK : Hid (∀ W, Grown w W → Calls Tryd.prog 85 #[.slice ka kn kc] W fun e w' => e = .returned (.bool true) ∧ Grown W w') := fun W hW => by have := filled_any _ _ W (hT.grown hW) (h.k.grown hW) (by omega); rwa [hb2] at this
  have HP : Hid (∀ W, Grown w W → Calls Tryd.prog 85 #[.slice pa pn pc] W fun e w' => e = .returned (.bool true) ∧ Grown W w') := fun W hW => by have := filled_any _ _ W (hT.grown hW) (h.p.grown hW) (by omega); rwa [hb3] at this
  have HQ : Hid (∀ W, Grown w W → ∀ (p : Pc) (tv : Value), Rs W tv p.tl → Calls Tryd.prog 86 #[.slice ka kn kc, .agg #[.int .i64 p.k, .int .i64 p.u, .int .i64 p.y, tv]] W fun e w' => e = .returned (.int .i64 (pcE r.key p)) ∧ Grown W w') := fun W hW p tv ht => checkPiece_any _ r.key p tv W (hT.grown hW) (h.k.grown hW) ht
  have HR : Hid (rn = r.res.length ∧ (r.res = [] ∨ ∃ g o, ra = some ⟨g, o, none⟩ ∧ PRd w g o r.res)) := by
    obtain ⟨a', c', e', _, h'⟩ := h.r
    cases e'
    exact ⟨hr, h'⟩
  have HE : Hid (tailE r = if fstE r.key r.res ≠ 0 then fstE r.key r.res else if r.cu < 0 ∨ (rn : Int) < r.cu then 76 else 0) := by unfold tailE; rw [hr]; rfl
  generalize tailE r = E at HE
  obtain ⟨bg, en, cu, ante, key, post, res⟩ := r
  simp only at HE HR HQ ⊢
  clear ha hk hp h hT hb1 hb2 hb3 hr
  have e1 : ((kn : Int) == 0) = false := by simpa using h1
  have d2' : ¬ (8 : Int) < (kn : Int) := by omega
  have d3' : ¬ (8 : Int) < (an : Int) := by omega
  have d4' : ¬ (8 : Int) < (pn : Int) := by omega
  have d5' : ¬ (16 : Int) < (rn : Int) := by omega
  have HM : Hid (rn ≤ 16) := h5
  clear h2 h3 h4 h5
  go_enter Tryd.func73, Tryd.ntmps73
  go_wp2_with fail
  refine (HA.out _ ((Grown.refl _).alloc _)).mono ?_
  rintro e w1 ⟨rfl, hb1⟩
  have hc2 := fun j v h => hb1.cellv (a := ⟨w.heap.size, j, none⟩) (v := v) h
  have g2 := hc2 2 (.slice ka kn kc) (by simp)
  have g3 := hc2 3 (.slice pa pn pc) (by simp)
  have g5 := hc2 5 (.slice ra rn rc) (by simp)
  have g6 := hc2 6 (.int .i64 cu) (by simp)
  go_wp2_with fail
  refine (HK.out _ (((Grown.refl _).alloc _).trans hb1)).mono ?_
  rintro e w2 ⟨rfl, hb2⟩
  have k2 := hb2.cellv g2
  have g3 := hb2.cellv g3
  have k5 := hb2.cellv g5
  have k6 := hb2.cellv g6
  clear hc2 g2 g5 g6
  go_wp2_with fail
  refine (HP.out _ ((((Grown.refl _).alloc _).trans hb1).trans hb2)).mono ?_
  rintro e w3 ⟨rfl, hb3⟩
  have l2 := hb3.cellv k2
  have l5 := hb3.cellv k5
  have l6 := hb3.cellv k6
  have hG3 := ((((Grown.refl w).alloc (rcells bg (.slice aa an ac) (.slice ka kn kc) (.slice pa pn pc) en (.slice ra rn rc) cu)).trans hb1).trans hb2).trans hb3
  clear k2 k5 k6 g3 hb1 hb2 hb3 HA HK HP
  go_wp2
  go_loopw [54] (fun vi wr => ∃ k : Nat, vi = .int .i64 k ∧ k ≤ rn ∧ Hid (fstE key (res.drop k) = fstE key res) ∧ Grown w3 wr) (fun vi _ => rn - (intOf vi).toNat)
  case atStart => exact ⟨0, rfl, by omega, rfl, Grown.refl _⟩
  case round =>
    obtain ⟨k, rfl, hk, hF, hB⟩ := hrel
    have c2 := hB.cellv l2
    have c5 := hB.cellv l5
    have c6 := hB.cellv l6
    have hkI : (0 : Int) ≤ (k : Int) := by omega
    by_cases hlt : k < rn
    · have hlt' : (k : Int) < (rn : Int) := by omega
      have hm16 := HM.out
      have hkI2 : (k : Int) ≤ 16 := by omega
      have hkl : k < res.length := by have := HR.out.1; omega
      obtain ⟨g, o, hra, hP⟩ := HR.out.2.resolve_left (fun e => by rw [e] at hkl; simp at hkl)
      subst hra
      obtain ⟨tv, p0, p1, p2, p3, hRs⟩ := (hP k hkl).below (hG3.trans hB).below (Nat.le_refl _)
      have HC : Hid (∀ W, Grown wr W → Calls Tryd.prog 86 #[.slice ka kn kc, .agg #[.int .i64 res[k].k, .int .i64 res[k].u, .int .i64 res[k].y, tv]] W fun e w' => e = .returned (.int .i64 (pcE key res[k])) ∧ Grown W w') := fun W hW => HQ.out W ((hG3.trans hB).trans hW) res[k] tv (hRs.grown hW)
      have HS : Hid (fstE key (res.drop k) = if pcE key res[k] = 0 then fstE key (res.drop (k + 1)) else pcE key res[k]) := by show _ = _; rw [drop_pc hkl]; rfl
      obtain ⟨ta, tn, tc, rfl⟩ := hRs.sl
      generalize pcE key res[k] = q at HC HS
      generalize res[k].k = xk at HC p0
      generalize res[k].u = xu at HC p1
      generalize res[k].y = xy at HC p2
      have c2' := fun o => cell_up c2 o
      by_cases hq : q = 0
      · subst hq
        have HF2 : Hid (fstE key (res.drop (k + 1)) = fstE key res) := by
          have h := HS.out
          rw [if_pos rfl, hF.out] at h
          exact h.symm
        clear hRs HS hF hP
        go_wp2_with (go_at_call 86; refine (HC.out _ ((Grown.refl _).alloc _)).mono ?_; rintro e w' ⟨rfl, hb⟩)
        exact ⟨⟨k + 1, by go_num, by omega, HF2, (hB.alloc _).trans hb⟩, by simp [intOf]; omega⟩
      · have hq' : (q != 0) = true := by simpa using hq
        have HF2 : Hid (E = q) := by
          have h := HS.out
          rw [if_neg hq, hF.out] at h
          have h2 := HE.out
          rw [if_pos (by rw [h]; exact hq), h] at h2
          exact h2
        clear hRs HS hF hP
        go_wp2_with (go_at_call 86; refine (HC.out _ ((Grown.refl _).alloc _)).mono ?_; rintro e w' ⟨rfl, hb⟩)
        go_ret
        exact ⟨by rw [HF2.out]; rfl, (hG3.trans hB).trans (((Grown.refl _).alloc _).trans hb)⟩
    · have hge : ¬ (k : Int) < (rn : Int) := by omega
      have HE2 : Hid (E = if cu < 0 ∨ (rn : Int) < cu then 76 else 0) := by
        have h := hF.out
        rw [List.drop_eq_nil_of_le (by have := HR.out.1; omega)] at h
        have h2 := HE.out
        rw [if_neg (by rw [← h]; simp [fstE])] at h2
        exact h2
      clear hF
      by_cases u1 : cu < 0
      · have HE3 : Hid (E = 76) := by have := HE2.out; rwa [if_pos (.inl u1)] at this
        go_wp2
        go_ret
        exact ⟨by rw [HE3.out]; rfl, hG3.trans hB⟩
      · have d6 : decide (cu < 0) = false := by simpa using u1
        by_cases u2 : (rn : Int) < cu
        · have HE3 : Hid (E = 76) := by have := HE2.out; rwa [if_pos (.inr u2)] at this
          go_wp2
          go_ret
          exact ⟨by rw [HE3.out]; rfl, hG3.trans hB⟩
        · have d7 : decide ((rn : Int) < cu) = false := by simpa using u2
          have HE3 : Hid (E = 0) := by have := HE2.out; rwa [if_neg (by omega)] at this
          go_wp2
          go_ret
          exact ⟨by rw [HE3.out]; rfl, hG3.trans hB⟩
theorem check_any (r : Rl) (av kv pv rv : Value) (w : World) (hT : Tab w) (h : RR w av kv pv rv r) : Calls Tryd.prog 73 #[.agg #[.bool r.bg, av, kv, pv, .bool r.en, rv, .int .i64 r.cu]] w fun e w' => e = .returned (.int .i64 (chk r)) ∧ Grown w w' := by
  have hh := h
  obtain ⟨⟨aa, ac, rfl, _⟩, ⟨ka, kc, rfl, _⟩, ⟨pa, pc, rfl, _⟩, ⟨ra, rc, rfl, _⟩⟩ := h
  by_cases h1 : r.key.length = 0 ∨ 8 < r.key.length ∨ 8 < r.ante.length ∨ 8 < r.post.length ∨ 16 < r.res.length
  · have := check_early r.bg r.en r.cu aa ka pa ra r.ante.length ac r.key.length kc r.post.length pc r.res.length rc w h1
    have e : chk r = if r.key.length = 0 ∨ 8 < r.key.length then 70 else 72 := by
      unfold chk
      by_cases h2 : r.key.length = 0 ∨ 8 < r.key.length
      · rw [if_pos h2, if_pos h2]
      · rw [if_neg h2, if_neg h2, if_pos (by omega)]
    rw [e]; exact this
  · by_cases hb : (r.ante.all okS && r.key.all okS && r.post.all okS) = false
    · have e : chk r = 71 := by unfold chk; rw [if_neg (by omega), if_neg (by omega), if_pos hb]
      rw [e]
      exact check_sets r aa ka pa ra _ ac _ kc _ pc _ rc w hT hh (by omega) (by omega) (by omega) (by omega) (by omega) hb rfl rfl rfl
    · have e : chk r = tailE r := by unfold chk; rw [if_neg (by omega), if_neg (by omega), if_neg hb]; rfl
      rw [e]
      simp only [Bool.not_eq_false, Bool.and_eq_true] at hb
      exact check_tail r aa ka pa ra _ ac _ kc _ pc _ rc w hT hh (by omega) (by omega) (by omega) (by omega) (by omega) hb.1.1 hb.1.2 hb.2 rfl rfl rfl rfl
end Go.Proofs
namespace Go.Proofs
open Go.RowKit Go.Shelf

set_option maxRecDepth 100000
attribute [local go_sem] Oper.semAt_some
attribute [local go_sem ↓] Go.wp_at_zero Go.wp_at_succ
/-- a row of numbers that reads so -/
def IRd (w : World) (g o : Nat) (l : List Int) : Prop := ∀ (j : Nat) (hj : j < l.length), w.cell? ⟨g, o + j, none⟩ = some (.int .i64 l[j])
def IR (w : World) (v : Value) (l : List Int) : Prop :=
  ∃ (a : Option Addr) (cap : Nat), v = .slice a l.length cap ∧ l.length ≤ cap ∧ (l = [] ∨ ∃ g o, a = some ⟨g, o, none⟩ ∧ IRd w g o l)
theorem IRd.below {w w' : World} {n g o : Nat} {l : List Int} (h : IRd w g o l) (hb : Below n w w') (hn : w.heap.size ≤ n) : IRd w' g o l := fun j hj => cell_below (h j hj) hb hn
theorem IR.below {w w' : World} {n : Nat} {v : Value} {l : List Int} (h : IR w v l) (hb : Below n w w') (hn : w.heap.size ≤ n) : IR w' v l := by
  obtain ⟨a, cap, h1, h2, h3 | ⟨g, o, h3, h4⟩⟩ := h
  · exact ⟨a, cap, h1, h2, .inl h3⟩
  · exact ⟨a, cap, h1, h2, .inr ⟨g, o, h3, h4.below hb hn⟩⟩
theorem IR.grown {w w' : World} {v : Value} {l : List Int} (h : IR w v l) (k : Grown w w') : IR w' v l := h.below k.below (Nat.le_refl _)
theorem IR.sl {w : World} {v : Value} {l : List Int} (h : IR w v l) : IsSl v := by
  obtain ⟨a, c, rfl, _⟩ := h
  exact ⟨a, _, c, rfl⟩
/-- a unit is in a set that may be -/
def hasB (l : List (Int × Int)) (u : Int) : Bool := validB l && decide (hasU l u)
/-- whether units stand at a row of sets -/
def stB (ls : List (List (Int × Int))) (us : List Int) : Bool := decide (ls.length = us.length) && (ls.zip us).all fun x => hasB x.1 x.2
end Go.Proofs
namespace Go.Proofs
open Go.RowKit Go.Shelf

set_option maxRecDepth 100000
attribute [local go_sem] Oper.semAt_some
def ints (l : List Int) : List Value := l.map fun x => .int .i64 x
theorem ints_append (l k : List Int) : ints (l ++ k) = ints l ++ ints k := by simp [ints]
theorem ints_length (l : List Int) : (ints l).length = l.length := by simp [ints]
theorem ints_one (l : List Int) : ∀ u ∈ ints l, u.oneCell' = true := by
  intro u hu
  unfold ints at hu
  obtain ⟨x, _, rfl⟩ := List.mem_map.1 hu
  rfl
/-- a row of numbers of the call's own -/
def OwnI (w : World) (base : Nat) (v : Value) (l : List Int) : Prop := w.ownsRow base 3 1 v l.length (ints l)
theorem OwnI.nil (w : World) (base : Nat) : OwnI w base (.slice none 0 0) [] := World.ownsRow_nil _ _ _ _
theorem OwnI.below {w w' : World} {base n : Nat} {v : Value} {l : List Int} (h : OwnI w base v l) (hb : Below n w w') (hn : w.heap.size ≤ n) : OwnI w' base v l := by
  refine ⟨h.1, ?_⟩
  rcases h.2 with h | ⟨g, cap, cur, rfl, h1, h2, h3⟩
  · exact .inl h
  · have : g < w.heap.size := (Array.getElem?_eq_some_iff.1 h2).1
    exact .inr ⟨g, cap, cur, rfl, h1, (hb.block g (by omega)).trans h2, h3⟩
theorem OwnI.alloc {w : World} {base : Nat} {v : Value} {l : List Int} (h : OwnI w base v l) (o : Obj) : OwnI (w.alloc o) base v l := World.ownsRow.alloc h o
theorem OwnI.le {w : World} {base base' : Nat} {v : Value} {l : List Int} (h : OwnI w base v l) (hb : base' ≤ base) : OwnI w base' v l := Joins.ownsRow_le h hb
theorem OwnI.ir {w : World} {base : Nat} {v : Value} {l : List Int} (h : OwnI w base v l) : IR w v l := by
  rcases h.2 with ⟨rfl, h0⟩ | ⟨g, cap, cur, rfl, _, _, hc, _⟩
  · have : l = [] := List.eq_nil_of_length_eq_zero h0
    subst this
    exact ⟨none, 0, rfl, Nat.le_refl _, .inl rfl⟩
  · refine ⟨_, cap, rfl, hc, .inr ⟨g, 0, rfl, fun j hj => ?_⟩⟩
    have := World.ownsRow.cells h rfl j (.int .i64 l[j]) (by simp [ints, hj])
    rw [add_zero_at] at this
    rw [Nat.zero_add]
    exact this
theorem iinfo3 : (Tryd.prog.info? 3).map (fun i => (i.zero, i.size, i.bytes)) = some (some (.int .i64 0), 1, 8) := by kernel_rfl
/-- one number more behind a row of the call's own -/
theorem push_I {ops : Array Oper} {rest : List Oper} {o : Oper} {a : Act} {Q : Exit → Act → World → Prop} {w : World} (hgd : o.guard = none) (s x : Operand) (t : TypeId)
    (ho : o.op = .call { callee := .builtin .append, args := #[s, x], argTypes := #[t, t] }) (ht : Tryd.prog.underlying t = some (.slice 3))
    (base : Nat) (v : Value) (l : List Int) (hs : a.eval s = v) (hown : OwnI w base v l) (g c : Nat) (p : Int) (hx : a.eval x = .slice (some ⟨g, 0, none⟩) 1 c)
    (hp : w.cell? ⟨g, 0, none⟩ = some (.int .i64 p)) (hl : l.length + 1 ≤ 8796093022208) (hbase : base ≤ w.heap.size)
    (h : ∀ v' w', OwnI w' base v' (l ++ [p]) → Below base w w' → wpList Tryd.prog ops Q rest (a.put o.dst v') w') : wpList Tryd.prog ops Q (o :: rest) a w := by
  obtain ⟨i0, hi, hz0, hz1, hz2⟩ := info_parts iinfo3
  refine wpList_append_own w hgd s x t ho base 3 i0 (.int .i64 0) 1 8 ht hi hz0 hz1 hz2 rfl (by decide) v l.length (ints l) hs hown ⟨g, 0, none⟩ 1 c (ints [p]) hx rfl ?_ (fun u hu => by simp [ints] at hu; subst hu; rfl) (by unfold maxLen; omega) (by omega) hbase (fun v' w' h2 h3 _ => h v' w' ?_ ((Below.refl _ w).grown h3 hbase (fun k hk => (World.ownsRow.lt hown k hk).1)))
  · intro j u hj
    match j, hj with
    | 0, hj => simp [ints] at hj; subst hj; exact hp
  · unfold OwnI
    rw [ints_append, List.length_append]
    exact h2
/-- a row of numbers in a block of its own, as long as that -/
def NewI (w : World) (base : Nat) (v : Value) (l : List Int) : Prop := ∃ g, v = .slice (some ⟨g, 0, none⟩) l.length l.length ∧ base ≤ g ∧ w.heap[g]? = some (.cells (ints l).toArray 3 (0, 0))
theorem NewI.own {w : World} {base : Nat} {v : Value} {l : List Int} (h : NewI w base v l) (hl : l.length ≤ maxLen) : OwnI w base v l := by
  obtain ⟨g, rfl, h1, h2⟩ := h
  exact ⟨by simp [ints], .inr ⟨g, l.length, _, rfl, h1, h2, Nat.le_refl _, hl, by simp [ints], by rw [Nat.mul_one]; exact List.take_of_length_le (by simp [ints])⟩⟩
theorem make_ints (n : Nat) (hn : n ≤ 1000000) : ∃ Z : List Value, Z.length = n ∧ ∀ W : World, (Instr.makeSlice 40 (.int .i64 n) (.int .i64 n)).run Tryd.prog W = .ok (.slice (some ⟨W.heap.size, 0, none⟩) n n) (W.alloc (.cells Z.toArray 3)) := by
  obtain ⟨i0, hi, hz0, hz1, hz2⟩ := info_parts iinfo3
  refine ⟨(madeCells (Value.int .i64 0).cells n).toList, by simp [size_madeCells], fun W => ?_⟩
  have h := run_make (P := Tryd.prog) W 40 3 i0 (.int .i64 0) Tryd.underlying40 hi hz0 .i64 .i64 (n : Int) (n : Int) (by omega) (Int.le_refl _) (by rw [hz2]; omega) (by omega)
  rw [h, show (n : Int).toNat = n by omega, hz1, Nat.mul_one, Array.toArray_toList]
theorem size3 : (Tryd.prog.info? 3).map (·.size) = some 1 := by kernel_rfl
/-! what a rule that may be is -/
theorem fstE_ok {key : List (List (Int × Int))} : ∀ {ps : List Pc}, fstE key ps = 0 → ∀ p ∈ ps, pcE key p = 0
  | [], _, p, hp => by cases hp
  | q :: r, h, p, hp => by
    unfold fstE at h
    by_cases hq : pcE key q = 0
    · rw [if_pos hq] at h
      rcases List.mem_cons.1 hp with rfl | hp
      · exact hq
      · exact fstE_ok h p hp
    · rw [if_neg hq] at h
      exact absurd h hq
structure Ok (r : Rl) : Prop where
  k0 : 0 < r.key.length
  k8 : r.key.length ≤ 8
  a8 : r.ante.length ≤ 8
  p8 : r.post.length ≤ 8
  r16 : r.res.length ≤ 16
  aS : r.ante.all okS = true
  kS : r.key.all okS = true
  pS : r.post.all okS = true
  pc : ∀ p ∈ r.res, pcE r.key p = 0
  c0 : 0 ≤ r.cu
  c1 : r.cu ≤ r.res.length
theorem chk_ok {r : Rl} (h : chk r = 0) : Ok r := by
  unfold chk at h
  by_cases h1 : r.key.length = 0 ∨ 8 < r.key.length
  · rw [if_pos h1] at h; cases h
  rw [if_neg h1] at h
  by_cases h2 : 8 < r.ante.length ∨ 8 < r.post.length ∨ 16 < r.res.length
  · rw [if_pos h2] at h; cases h
  rw [if_neg h2] at h
  by_cases h3 : (r.ante.all okS && r.key.all okS && r.post.all okS) = false
  · rw [if_pos h3] at h; cases h
  rw [if_neg h3] at h
  by_cases h4 : fstE r.key r.res ≠ 0
  · rw [if_pos h4] at h; exact absurd h h4
  rw [if_neg h4] at h
  by_cases h5 : r.cu < 0 ∨ (r.res.length : Int) < r.cu
  · rw [if_pos h5] at h; cases h
  simp only [Bool.not_eq_false, Bool.and_eq_true] at h3
  simp only [ne_eq, Classical.not_not] at h4
  exact ⟨by omega, by omega, by omega, by omega, by omega, h3.1.1, h3.1.2, h3.2, fstE_ok h4, by omega, by omega⟩
theorem pc_ok {key : List (List (Int × Int))} {p : Pc} (h : pcE key p = 0) : (p.k = 1 ∧ wd p.u ≠ 0 ∧ p.y = 0 ∧ p.tl = []) ∨ (p.k = 2 ∧ p.u = 0 ∧ p.tl = [] ∧ 0 ≤ p.y ∧ p.y < key.length) ∨ (p.k = 3 ∧ p.u = 0 ∧ 0 ≤ p.y ∧ p.y < key.length ∧ matB (keyAt key p.y) p.tl = true) := by
  unfold pcE at h
  by_cases h1 : p.k = 1
  · rw [if_pos h1] at h
    by_cases h2 : wd p.u = 0 ∨ p.y ≠ 0 ∨ p.tl ≠ []
    · rw [if_pos h2] at h; cases h
    · simp only [not_or, Classical.not_not, ne_eq] at h2
      exact .inl ⟨h1, h2.1, h2.2.1, h2.2.2⟩
  · rw [if_neg h1] at h
    by_cases h2 : p.k = 2 ∨ p.k = 3
    · rw [if_pos h2] at h
      by_cases h3 : p.u ≠ 0 ∨ (p.k = 2 ∧ p.tl ≠ [])
      · rw [if_pos h3] at h; cases h
      · rw [if_neg h3] at h
        by_cases h4 : p.y < 0 ∨ (key.length : Int) ≤ p.y
        · rw [if_pos h4] at h; cases h
        · rw [if_neg h4] at h
          by_cases h5 : p.k = 3 ∧ matB (keyAt key p.y) p.tl = false
          · rw [if_pos h5] at h; cases h
          · simp only [not_or, not_and, Classical.not_not, ne_eq, Bool.not_eq_false] at h3 h5
            rcases h2 with h2 | h2
            · exact .inr (.inl ⟨h2, h3.1, h3.2 h2, by omega, by omega⟩)
            · exact .inr (.inr ⟨h2, h3.1, by omega, by omega, h5 h2⟩)
    · rw [if_neg h2] at h; cases h
end Go.Proofs
