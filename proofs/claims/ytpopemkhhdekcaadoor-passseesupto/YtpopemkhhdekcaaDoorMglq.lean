/-
  Several texts in one (Na Nm Nb Nc).
-/
import Derived.RangeFuncNested
import Derived.RangeFuncBound
import Derived.RangeFuncCalls
import Derived.RangeFuncLeaves
import Derived.Shelf.Abstract
import Derived.Shelf.RegionOpen
import Derived.WalkKit
import Derived.WalkSpells
import Derived.WalkLawsBesides
import Derived.OwnWalkIn
import Derived.TacticsInMore
import Derived.LoopNIn
import Derived.LoopIn
import Derived.BigQuiet
import Derived.RegionIn
import Derived.Deep.QuietTactic
import Derived.Deep.RegionWith
import Derived.Lib.OthersKept
import Derived.Maps.AppendAt
import Derived.Lib.SmallJoins
import Derived.Shelf.SlSortCmp.QuietGrown
import Derived.Test.YtpopemkhhdekcaaDoorVbq
import Derived.Test.YtpopemkhhdekcaaDoorWdq
import Derived.Test.YtpopemkhhdekcaaDoorWeq
import Derived.Test.YtpopemkhhdekcaaDoorMgaq
import Derived.Test.YtpopemkhhdekcaaDoorMgdq
namespace Go.Proofs
open Go.RowKit Go.Shelf

set_option maxRecDepth 100000
attribute [local go_sem] Oper.semAt_some
attribute [local go_sem ↓] Go.wp_at_zero Go.wp_at_succ

theorem nthI_in (g o n c : Nat) (x : Int) (k : Nat) (w : World) (hk : k < n) (hx : w.cell? ⟨g, o + k, none⟩ = some (.int .i64 x)) :
    Calls Tryd.prog 113 #[.slice (some ⟨g, o, none⟩) n c, .int .i64 k] w fun e w' => e = .returned (.tuple #[.int .i64 x, .bool true]) ∧ w' = w := by
  have i0 : ¬ (k : Int) < 0 := by omega
  have i1 : (0 : Int) ≤ (k : Int) := by omega
  have i2 : (k : Int) < (n : Int) := by omega
  have i3 : ¬ (n : Int) ≤ (k : Int) := by omega
  go_enter Tryd.func113, Tryd.ntmps113
  go_wp2
  go_ret2
  exact ⟨rfl, rfl⟩
theorem nthI_out (a : Option Addr) (n c : Nat) (k : Int) (w : World) (hk : k < 0 ∨ (n : Int) ≤ k) :
    Calls Tryd.prog 113 #[.slice a n c, .int .i64 k] w fun e w' => e = .returned (.tuple #[.int .i64 0, .bool false]) ∧ w' = w := by
  by_cases h0 : k < 0
  · clear hk
    go_enter Tryd.func113, Tryd.ntmps113
    go_wp2
    go_ret2
    exact ⟨rfl, rfl⟩
  · have h1 : (n : Int) ≤ k := by omega
    clear hk
    go_enter Tryd.func113, Tryd.ntmps113
    go_wp2
    go_ret2
    exact ⟨rfl, rfl⟩
theorem nthS_in (g o n c : Nat) (sa : Option Addr) (sn sc : Nat) (k : Nat) (w : World) (hk : k < n) (hx : w.cell? ⟨g, o + k, none⟩ = some (.slice sa sn sc)) :
    Calls Tryd.prog 114 #[.slice (some ⟨g, o, none⟩) n c, .int .i64 k] w fun e w' => e = .returned (.tuple #[.slice sa sn sc, .bool true]) ∧ w' = w := by
  have i0 : ¬ (k : Int) < 0 := by omega
  have i1 : (0 : Int) ≤ (k : Int) := by omega
  have i2 : (k : Int) < (n : Int) := by omega
  have i3 : ¬ (n : Int) ≤ (k : Int) := by omega
  go_enter Tryd.func114, Tryd.ntmps114
  go_wp2
  go_ret2
  exact ⟨rfl, rfl⟩
theorem nthS_out (a : Option Addr) (n c : Nat) (k : Int) (w : World) (hk : k < 0 ∨ (n : Int) ≤ k) :
    Calls Tryd.prog 114 #[.slice a n c, .int .i64 k] w fun e w' => e = .returned (.tuple #[.slice none 0 0, .bool false]) ∧ w' = w := by
  by_cases h0 : k < 0
  · clear hk
    go_enter Tryd.func114, Tryd.ntmps114
    go_wp2
    go_ret2
    exact ⟨rfl, rfl⟩
  · have h1 : (n : Int) ≤ k := by omega
    clear hk
    go_enter Tryd.func114, Tryd.ntmps114
    go_wp2
    go_ret2
    exact ⟨rfl, rfl⟩

theorem allE_chk {rs : List Rl} (h : (allE rs).2 = 0) : rs.length ≤ 256 ∧ ∀ r ∈ rs, chk r = 0 := by
  unfold allE at h
  by_cases hn : 256 < rs.length
  · rw [if_pos hn] at h; cases h
  · rw [if_neg hn] at h
    exact ⟨by omega, fstR_ok h⟩
/-- whether units have what is asked for; alone: and there are no more -/
def stU : List Int → List (List (Int × Int)) → Bool → Bool
  | us, [], al => !al || us.isEmpty
  | [], _ :: _, _ => false
  | u :: us, s :: ss, al => hasB s u && stU us ss al
theorem stU_end (us : List Int) (al : Bool) : stU us [] al = (!al || us.isEmpty) := by cases us <;> rfl
theorem stU_none (s : List (Int × Int)) (ss : List (List (Int × Int))) (al : Bool) : stU [] (s :: ss) al = false := rfl
theorem stU_cons (u : Int) (us : List Int) (s : List (Int × Int)) (ss : List (List (Int × Int))) (al : Bool) : stU (u :: us) (s :: ss) al = (hasB s u && stU us ss al) := rfl
/-- whether a rule that may be fits -/
def fitB (r : Rl) (d l : List Int) : Bool := stU l (r.key ++ r.post) r.en && stU d.reverse r.ante.reverse r.bg
def fitsB (r : Rl) (d l : List Int) : Bool := decide (chk r = 0) && fitB r d l
/-- the best rule of the first ones, and how long its key is -/
def fdK (rs : List Rl) (d l : List Int) : Nat → Int × Nat
  | 0 => (-1, 0)
  | k + 1 => match rs[k]? with
    | none => fdK rs d l k
    | some r => if (fdK rs d l k).2 < r.key.length ∧ fitB r d l = true then ((k : Int), r.key.length) else fdK rs d l k
def fdF (rs : List Rl) (d l : List Int) : Int := if (allE rs).2 = 0 then (fdK rs d l rs.length).1 else -1
theorem fdK_succ {rs : List Rl} (d l : List Int) {k : Nat} (hk : k < rs.length) : fdK rs d l (k + 1) = if (fdK rs d l k).2 < rs[k].key.length ∧ fitB rs[k] d l = true then ((k : Int), rs[k].key.length) else fdK rs d l k := by
  rw [fdK, List.getElem?_eq_getElem hk]
/-- the best of the first k: none fits, or the longest key, the first of these -/
def Best (rs : List Rl) (d l : List Int) (k : Nat) (b : Int × Nat) : Prop :=
  (b = (-1, 0) ∧ ∀ (i : Nat) (hi : i < rs.length), i < k → fitB rs[i] d l = false) ∨
  ∃ (j : Nat) (hj : j < rs.length), j < k ∧ b = ((j : Int), rs[j].key.length) ∧ fitB rs[j] d l = true ∧ ∀ (i : Nat) (hi : i < rs.length), i < k → fitB rs[i] d l = true → rs[i].key.length ≤ rs[j].key.length ∧ (rs[i].key.length = rs[j].key.length → j ≤ i)
theorem fdK_best {rs : List Rl} (d l : List Int) (hO : ∀ r ∈ rs, 0 < r.key.length) : ∀ k, k ≤ rs.length → Best rs d l k (fdK rs d l k)
  | 0, _ => .inl ⟨rfl, fun _ _ h => by omega⟩
  | k + 1, hk => by
    have hkl : k < rs.length := hk
    have h0 := hO _ (List.getElem_mem hkl)
    rw [fdK_succ d l hkl]
    rcases fdK_best d l hO k (by omega) with ⟨e, h⟩ | ⟨j, hj, hjk, e, hf, h⟩
    · rw [e]
      by_cases hc : fitB rs[k] d l = true
      · rw [if_pos ⟨h0, hc⟩]
        refine .inr ⟨k, hkl, by omega, rfl, hc, fun i hi hik hfi => ?_⟩
        rcases Nat.lt_or_ge i k with h1 | h1
        · rw [h i hi h1] at hfi; cases hfi
        · obtain rfl : i = k := by omega
          exact ⟨Nat.le_refl _, fun _ => Nat.le_refl _⟩
      · rw [if_neg (fun h => hc h.2)]
        refine .inl ⟨rfl, fun i hi hik => ?_⟩
        rcases Nat.lt_or_ge i k with h1 | h1
        · exact h i hi h1
        · obtain rfl : i = k := by omega
          simpa using hc
    · rw [e]
      by_cases hc : rs[j].key.length < rs[k].key.length ∧ fitB rs[k] d l = true
      · rw [if_pos hc]
        refine .inr ⟨k, hkl, by omega, rfl, hc.2, fun i hi hik hfi => ?_⟩
        rcases Nat.lt_or_ge i k with h1 | h1
        · have := h i hi h1 hfi
          have h2 := hc.1
          exact ⟨by omega, fun _ => by omega⟩
        · obtain rfl : i = k := by omega
          exact ⟨Nat.le_refl _, fun _ => Nat.le_refl _⟩
      · rw [if_neg hc]
        refine .inr ⟨j, hj, by omega, rfl, hf, fun i hi hik hfi => ?_⟩
        rcases Nat.lt_or_ge i k with h1 | h1
        · exact h i hi h1 hfi
        · obtain rfl : i = k := by omega
          have : ¬ rs[j].key.length < rs[i].key.length := fun h2 => hc ⟨h2, hfi⟩
          exact ⟨by omega, fun _ => by omega⟩
theorem fdF_best {rs : List Rl} (d l : List Int) (h : (allE rs).2 = 0) : ∃ m, Best rs d l rs.length (fdF rs d l, m) := by
  have h1 := (allE_chk h).2
  have h2 := fdK_best d l (fun r hr => (chk_ok (h1 r hr)).k0) rs.length (Nat.le_refl _)
  refine ⟨(fdK rs d l rs.length).2, ?_⟩
  unfold fdF
  rw [if_pos h]
  exact h2

theorem Hid.mk' {p : Prop} (h : p) : Hid p := h
/-- a method that tells the units of one side -/
structure UnitF (w : World) (U : FuncId) (gv : Value) (us : List Int) : Prop where
  sth : ∀ (k : Nat) (x : Int), us[k]? = some x → ∀ W, Grown w W → Calls Tryd.prog U #[gv, .int .i64 k] W fun e w' => e = .returned (.tuple #[.int .i64 x, .bool true]) ∧ Grown W w'
  non : ∀ k : Nat, us.length ≤ k → k ≤ 1000 → ∀ W, Grown w W → Calls Tryd.prog U #[gv, .int .i64 k] W fun e w' => e = .returned (.tuple #[.int .i64 0, .bool false]) ∧ Grown W w'
/-- a method that tells what is asked for there -/
structure AskF (w : World) (A : FuncId) (wv : Value) (ss : List (List (Int × Int))) : Prop where
  sth : ∀ (k : Nat) (s : List (Int × Int)), ss[k]? = some s → ∃ sv, Rs w sv s ∧ ∀ W, Grown w W → Calls Tryd.prog A #[wv, .int .i64 k] W fun e w' => e = .returned (.tuple #[sv, .bool true]) ∧ Grown W w'
  non : ∀ k : Nat, ss.length ≤ k → k ≤ 1000 → ∀ W, Grown w W → Calls Tryd.prog A #[wv, .int .i64 k] W fun e w' => e = .returned (.tuple #[.slice none 0 0, .bool false]) ∧ Grown W w'
theorem behindU {w : World} {dv lv : Value} {l : List Int} (hd : IsSl dv) (hl : IR w lv l) : UnitF w 101 (.agg #[dv, lv]) l := by
  obtain ⟨d1, d2, d3, rfl⟩ := hd
  obtain ⟨la, lc, rfl, _, h⟩ := hl
  constructor
  · intro k x hx W hW
    obtain ⟨hk, hx⟩ := List.getElem?_eq_some_iff.1 hx
    obtain ⟨g, o, rfl, hR⟩ := h.resolve_left (fun e => by rw [e] at hk; simp at hk)
    have hc := hW.cellv (hR k hk)
    rw [hx] at hc
    have HC : Hid (∀ V, Grown W V → Calls Tryd.prog 113 #[.slice (some ⟨g, o, none⟩) l.length lc, .int .i64 k] V fun e w' => e = .returned (.tuple #[.int .i64 x, .bool true]) ∧ w' = V) := fun V hV => nthI_in g o _ lc x k V hk (hV.cellv hc)
    clear hc hR hx h
    go_enter Tryd.func101, Tryd.ntmps101
    go_wp2_with (go_at_call 113; refine (HC.out _ ((Grown.refl _).alloc _)).mono ?_; rintro e w' ⟨rfl, rfl⟩)
    go_ret2
    exact ⟨rfl, (Grown.refl _).alloc _⟩
  · intro k hk hk2 W hW
    have HC : Hid (∀ V, Grown W V → Calls Tryd.prog 113 #[.slice la l.length lc, .int .i64 k] V fun e w' => e = .returned (.tuple #[.int .i64 0, .bool false]) ∧ w' = V) := fun V hV => nthI_out la _ lc k V (.inr (by omega))
    clear h
    go_enter Tryd.func101, Tryd.ntmps101
    go_wp2_with (go_at_call 113; refine (HC.out _ ((Grown.refl _).alloc _)).mono ?_; rintro e w' ⟨rfl, rfl⟩)
    go_ret2
    exact ⟨rfl, (Grown.refl _).alloc _⟩
theorem aheadU {w : World} {dv lv : Value} {d : List Int} (hl : IsSl lv) (hd : IR w dv d) (hn : d.length ≤ 9223372036854775807) : UnitF w 103 (.agg #[dv, lv]) d.reverse := by
  obtain ⟨l1, l2, l3, rfl⟩ := hl
  obtain ⟨da, dc, rfl, _, h⟩ := hd
  obtain ⟨n, hN⟩ : ∃ n, d.length = n := ⟨_, rfl⟩
  have i1 : (n : Int) ≤ 9223372036854775807 := by omega
  have i2 : (0 : Int) ≤ (n : Int) := by omega
  rw [hN]
  constructor
  · intro k x hx W hW
    obtain ⟨hk, hx⟩ := List.getElem?_eq_some_iff.1 hx
    rw [List.length_reverse] at hk
    rw [List.getElem_reverse] at hx
    obtain ⟨g, o, rfl, hR⟩ := h.resolve_left (fun e => by rw [e] at hk; simp at hk)
    have hc := hW.cellv (hR (d.length - 1 - k) (by omega))
    rw [hx, hN] at hc
    have HC : Hid (∀ V, Grown W V → Calls Tryd.prog 113 #[.slice (some ⟨g, o, none⟩) n dc, .int .i64 ((n : Int) - 1 - (k : Int))] V fun e w' => e = .returned (.tuple #[.int .i64 x, .bool true]) ∧ w' = V) := fun V hV => by
      rw [show (n : Int) - 1 - (k : Int) = ((n - 1 - k : Nat) : Int) by omega]
      exact nthI_in g o _ dc x (n - 1 - k) V (by omega) (hV.cellv hc)
    have i3 : (k : Int) < (n : Int) := by omega
    have i4 : (0 : Int) ≤ (k : Int) := by omega
    clear hc hR hx h hk
    go_enter Tryd.func103, Tryd.ntmps103
    go_wp2_with (go_at_call 113; refine (HC.out _ ((Grown.refl _).alloc _)).mono ?_; rintro e w' ⟨rfl, rfl⟩)
    go_ret2
    exact ⟨rfl, (Grown.refl _).alloc _⟩
  · intro k hk hk2 W hW
    rw [List.length_reverse, hN] at hk
    have HC : Hid (∀ V, Grown W V → Calls Tryd.prog 113 #[.slice da n dc, .int .i64 ((n : Int) - 1 - (k : Int))] V fun e w' => e = .returned (.tuple #[.int .i64 0, .bool false]) ∧ w' = V) := fun V hV => nthI_out da _ dc _ V (.inl (by omega))
    have i3 : (k : Int) ≤ 1000 := by omega
    have i4 : (0 : Int) ≤ (k : Int) := by omega
    clear h hk hk2
    go_enter Tryd.func103, Tryd.ntmps103
    go_wp2_with (go_at_call 113; refine (HC.out _ ((Grown.refl _).alloc _)).mono ?_; rintro e w' ⟨rfl, rfl⟩)
    go_ret2
    exact ⟨rfl, (Grown.refl _).alloc _⟩
theorem srd_at {w : World} {a : Option Addr} {n c : Nat} {ls : List (List (Int × Int))} (h : SR w (.slice a n c) ls) {k : Nat} {s : List (Int × Int)} (hs : ls[k]? = some s) : k < n ∧ ∃ g o sv, a = some ⟨g, o, none⟩ ∧ w.cell? ⟨g, o + k, none⟩ = some sv ∧ Rs w sv s := by
  obtain ⟨hk, hx⟩ := List.getElem?_eq_some_iff.1 hs
  obtain ⟨a', c', e, _, h⟩ := h
  injection e with e1 e2 e3
  subst e1 e2 e3
  obtain ⟨g, o, rfl, hR⟩ := h.resolve_left (fun e => by rw [e] at hk; simp at hk)
  obtain ⟨sv, h1, h2⟩ := hR k hk
  exact ⟨hk, g, o, sv, rfl, h1, hx ▸ h2⟩
theorem sr_leng {w : World} {a : Option Addr} {n c : Nat} {ls : List (List (Int × Int))} (h : SR w (.slice a n c) ls) : n = ls.length := by
  obtain ⟨a', c', e, _, _⟩ := h
  injection e with e1 e2 e3
theorem behindA {w : World} {bg en : Bool} {cu : Int} {av kv pv rv : Value} {r : Rl} (h : RR w av kv pv rv r) (hO : Ok r) : AskF w 102 (.agg #[.bool bg, av, kv, pv, .bool en, rv, .int .i64 cu]) (r.key ++ r.post) := by
  have hk8 := hO.k8
  have hp8 := hO.p8
  have HK := Hid.mk' h.k
  have HP := Hid.mk' h.p
  obtain ⟨a1, a2, a3, rfl⟩ := h.a.sl
  obtain ⟨ka, kn, kc, rfl⟩ := h.k.sl
  obtain ⟨pa, pn, pc, rfl⟩ := h.p.sl
  obtain ⟨r1, r2, r3, rfl⟩ := h.r.sl
  have hkn := sr_leng h.k
  have hpn := sr_leng h.p
  rw [← hkn] at hk8
  rw [← hpn] at hp8
  have i1 : (kn : Int) ≤ 8 := by omega
  have i2 : (pn : Int) ≤ 8 := by omega
  have i3 : (0 : Int) ≤ (kn : Int) := by omega
  clear h hO
  constructor
  · intro k s hs
    by_cases hlt : k < kn
    · rw [List.getElem?_append_left (by omega)] at hs
      obtain ⟨_, g, o0, sv, rfl, hc, hR⟩ := srd_at HK.out hs
      refine ⟨sv, hR, fun W hW => ?_⟩
      have hc := hW.cellv hc
      obtain ⟨s1, s2, s3, rfl⟩ := hR.sl
      have i4 : (k : Int) < (kn : Int) := by omega
      have i5 : (0 : Int) ≤ (k : Int) := by omega
      have hc2 : ∀ o, (W.alloc o).cell? ⟨g, o0 + k, none⟩ = some (.slice s1 s2 s3) := fun o => cell_up hc o
      clear hR hs hkn hpn
      go_enter Tryd.func102, Tryd.ntmps102
      go_wp2
      go_ret2
      exact ⟨rfl, (Grown.refl _).alloc _⟩
    · rw [List.getElem?_append_right (by omega), ← hkn] at hs
      obtain ⟨hlt2, g, o, sv, rfl, hc, hR⟩ := srd_at HP.out hs
      refine ⟨sv, hR, fun W hW => ?_⟩
      have hc := hW.cellv hc
      obtain ⟨s1, s2, s3, rfl⟩ := hR.sl
      have HC : Hid (∀ V, Grown W V → Calls Tryd.prog 114 #[.slice (some ⟨g, o, none⟩) pn pc, .int .i64 ((k : Int) - (kn : Int))] V fun e w' => e = .returned (.tuple #[.slice s1 s2 s3, .bool true]) ∧ w' = V) := fun V hV => by
        rw [show (k : Int) - (kn : Int) = ((k - kn : Nat) : Int) by omega]
        exact nthS_in g o _ pc s1 s2 s3 (k - kn) V hlt2 (hV.cellv hc)
      have i4 : ¬ (k : Int) < (kn : Int) := by omega
      have i5 : (k : Int) ≤ 1000 := by omega
      clear hR hs hkn hpn hc
      go_enter Tryd.func102, Tryd.ntmps102
      go_wp2_with (go_at_call 114; refine (HC.out _ ((Grown.refl _).alloc _)).mono ?_; rintro e w' ⟨rfl, rfl⟩)
      go_ret2
      exact ⟨rfl, (Grown.refl _).alloc _⟩
  · intro k hk hk2 W hW
    rw [List.length_append, ← hkn, ← hpn] at hk
    have HC : Hid (∀ V, Grown W V → Calls Tryd.prog 114 #[.slice pa pn pc, .int .i64 ((k : Int) - (kn : Int))] V fun e w' => e = .returned (.tuple #[.slice none 0 0, .bool false]) ∧ w' = V) := fun V hV => nthS_out pa _ pc _ V (.inr (by omega))
    have i4 : ¬ (k : Int) < (kn : Int) := by omega
    have i5 : (k : Int) ≤ 1000 := by omega
    clear hkn hpn
    go_enter Tryd.func102, Tryd.ntmps102
    go_wp2_with (go_at_call 114; refine (HC.out _ ((Grown.refl _).alloc _)).mono ?_; rintro e w' ⟨rfl, rfl⟩)
    go_ret2
    exact ⟨rfl, (Grown.refl _).alloc _⟩
theorem aheadA {w : World} {bg en : Bool} {cu : Int} {av kv pv rv : Value} {r : Rl} (h : RR w av kv pv rv r) (hO : Ok r) : AskF w 104 (.agg #[.bool bg, av, kv, pv, .bool en, rv, .int .i64 cu]) r.ante.reverse := by
  have ha8 := hO.a8
  have HA := Hid.mk' h.a
  obtain ⟨aa, an, ac, rfl⟩ := h.a.sl
  obtain ⟨ka, kn, kc, rfl⟩ := h.k.sl
  obtain ⟨pa, pn, pc, rfl⟩ := h.p.sl
  obtain ⟨r1, r2, r3, rfl⟩ := h.r.sl
  have han := sr_leng h.a
  rw [← han] at ha8
  have i1 : (an : Int) ≤ 8 := by omega
  have i3 : (0 : Int) ≤ (an : Int) := by omega
  clear h hO
  constructor
  · intro k s hs
    obtain ⟨hk, hx⟩ := List.getElem?_eq_some_iff.1 hs
    rw [List.length_reverse] at hk
    rw [List.getElem_reverse] at hx
    have hs : r.ante[an - 1 - k]? = some s := by rw [han, List.getElem?_eq_getElem (by omega), hx]
    obtain ⟨hlt2, g, o, sv, rfl, hc, hR⟩ := srd_at HA.out hs
    refine ⟨sv, hR, fun W hW => ?_⟩
    have hc := hW.cellv hc
    obtain ⟨s1, s2, s3, rfl⟩ := hR.sl
    have HC : Hid (∀ V, Grown W V → Calls Tryd.prog 114 #[.slice (some ⟨g, o, none⟩) an ac, .int .i64 ((an : Int) - 1 - (k : Int))] V fun e w' => e = .returned (.tuple #[.slice s1 s2 s3, .bool true]) ∧ w' = V) := fun V hV => by
      rw [show (an : Int) - 1 - (k : Int) = ((an - 1 - k : Nat) : Int) by omega]
      exact nthS_in g o _ ac s1 s2 s3 (an - 1 - k) V hlt2 (hV.cellv hc)
    have i4 : (k : Int) < (an : Int) := by omega
    have i5 : (0 : Int) ≤ (k : Int) := by omega
    clear hR hs han hc hx hk
    go_enter Tryd.func104, Tryd.ntmps104
    go_wp2_with (go_at_call 114; refine (HC.out _ ((Grown.refl _).alloc _)).mono ?_; rintro e w' ⟨rfl, rfl⟩)
    go_ret2
    exact ⟨rfl, (Grown.refl _).alloc _⟩
  · intro k hk hk2 W hW
    rw [List.length_reverse, ← han] at hk
    have HC : Hid (∀ V, Grown W V → Calls Tryd.prog 114 #[.slice aa an ac, .int .i64 ((an : Int) - 1 - (k : Int))] V fun e w' => e = .returned (.tuple #[.slice none 0 0, .bool false]) ∧ w' = V) := fun V hV => nthS_out aa _ ac _ V (.inl (by omega))
    have i4 : (k : Int) ≤ 1000 := by omega
    have i5 : (0 : Int) ≤ (k : Int) := by omega
    clear han hk hk2
    go_enter Tryd.func104, Tryd.ntmps104
    go_wp2_with (go_at_call 114; refine (HC.out _ ((Grown.refl _).alloc _)).mono ?_; rintro e w' ⟨rfl, rfl⟩)
    go_ret2
    exact ⟨rfl, (Grown.refl _).alloc _⟩

set_option maxHeartbeats 4000000 in
theorem standsB_any (gv wv : Value) (us : List Int) (ss : List (List (Int × Int))) (al : Bool) (w : World) (hT : Tab w) (hU : UnitF w 101 gv us) (hA : AskF w 102 wv ss) (hn : ss.length ≤ 100) :
    Calls Tryd.prog 100 #[.func (.func 101) #[gv] #[], .func (.func 102) #[wv] #[], .bool al] w fun e w' => e = .returned (.bool (stU us ss al)) ∧ Grown w w' := by
  have HU := Hid.mk' hU
  have HA := Hid.mk' hA
  have HT := Hid.mk' hT
  clear hU hA hT
  obtain ⟨R, hR⟩ : ∃ R, stU us ss al = R := ⟨_, rfl⟩
  have HR : Hid (stU us ss al = R) := hR
  rw [hR]
  obtain ⟨n, hN⟩ : ∃ n, ss.length = n := ⟨_, rfl⟩
  have HN : Hid (ss.length = n) := hN
  rw [hN] at hn
  have hnI : (n : Int) ≤ 100 := by omega
  clear hR hN
  go_enter Tryd.func100, Tryd.ntmps100
  go_wp2
  go_loopw [7] (fun vi wr => ∃ k : Nat, vi = .int .i64 k ∧ k ≤ n ∧ Hid (stU (us.drop k) (ss.drop k) al = R) ∧ Grown w wr) (fun vi _ => n - (intOf vi).toNat)
  case atStart => exact ⟨0, rfl, by omega, by simpa using HR, Grown.refl _⟩
  case round =>
    obtain ⟨k, rfl, hk, HQ, hG⟩ := hrel
    have hkI : (k : Int) ≤ 100 := by omega
    have hk0 : (0 : Int) ≤ (k : Int) := by omega
    by_cases hlt : k < n
    · have hkl : k < ss.length := by rw [HN.out]; exact hlt
      obtain ⟨sv, hsv, hC⟩ := HA.out.sth k ss[k] (List.getElem?_eq_getElem hkl)
      have HS := Hid.mk' hsv
      have HC := Hid.mk' hC
      obtain ⟨s1, s2, s3, rfl⟩ := hsv.sl
      have hQ := HQ.out
      rw [List.drop_eq_getElem_cons hkl] at hQ
      clear hsv hC HQ
      by_cases hu : k < us.length
      · have HD : Hid (∀ W, Grown wr W → Calls Tryd.prog 101 #[gv, .int .i64 k] W fun e w' => e = .returned (.tuple #[.int .i64 us[k], .bool true]) ∧ Grown W w') := fun W hW => HU.out.sth k us[k] (List.getElem?_eq_getElem hu) W (hG.trans hW)
        rw [List.drop_eq_getElem_cons hu, stU_cons] at hQ
        have HB : Hid (∀ W, Grown wr W → Calls Tryd.prog 94 #[.slice s1 s2 s3, .int .i64 us[k]] W fun e w' => e = .returned (.bool (hasB ss[k] us[k])) ∧ Grown W w') := fun W hW => has_any _ ss[k] us[k] W (HT.out.grown (hG.trans hW)) (HS.out.grown (hG.trans hW))
        generalize us[k] = u at HD HB hQ
        cases hb : hasB ss[k] u with
        | true =>
          as_aux_lemma =>
            rw [hb, Bool.true_and] at hQ
            have HQ2 : Hid (stU (us.drop (k + 1)) (ss.drop (k + 1)) al = R) := hQ
            rw [hb] at HB
            clear hQ hb hu HS hkl
            go_wp2_with (go_at_call 101; refine (HD.out _ (Grown.refl _)).mono ?_; rintro e w1 ⟨rfl, hg1⟩)
            go_wp2_with (go_at_call 102; refine (HC.out _ (hG.trans hg1)).mono ?_; rintro e w2 ⟨rfl, hg2⟩)
            go_wp2_with (go_at_call 94; refine (HB.out _ (hg1.trans hg2)).mono ?_; rintro e w3 ⟨rfl, hg3⟩)
            exact ⟨⟨k + 1, by go_num, by omega, HQ2, ((hG.trans hg1).trans hg2).trans hg3⟩, by simp [intOf]; omega⟩
        | false =>
          as_aux_lemma =>
            rw [hb, Bool.false_and] at hQ
            rw [hb] at HB
            have HQ2 := Hid.mk' hQ
            clear hQ hb hu HS hkl
            go_wp2_with (go_at_call 101; refine (HD.out _ (Grown.refl _)).mono ?_; rintro e w1 ⟨rfl, hg1⟩)
            go_wp2_with (go_at_call 102; refine (HC.out _ (hG.trans hg1)).mono ?_; rintro e w2 ⟨rfl, hg2⟩)
            go_wp2_with (go_at_call 94; refine (HB.out _ (hg1.trans hg2)).mono ?_; rintro e w3 ⟨rfl, hg3⟩)
            go_ret
            exact ⟨by rw [← HQ2.out]; rfl, ((hG.trans hg1).trans hg2).trans hg3⟩
      · as_aux_lemma =>
          have HD : Hid (∀ W, Grown wr W → Calls Tryd.prog 101 #[gv, .int .i64 k] W fun e w' => e = .returned (.tuple #[.int .i64 0, .bool false]) ∧ Grown W w') := fun W hW => HU.out.non k (by omega) (by omega) W (hG.trans hW)
          rw [List.drop_eq_nil_of_le (by omega), stU_none] at hQ
          have HQ2 := Hid.mk' hQ
          clear hQ hu HS hkl
          go_wp2_with (go_at_call 101; refine (HD.out _ (Grown.refl _)).mono ?_; rintro e w1 ⟨rfl, hg1⟩)
          go_wp2_with (go_at_call 102; refine (HC.out _ (hG.trans hg1)).mono ?_; rintro e w2 ⟨rfl, hg2⟩)
          go_ret
          exact ⟨by rw [← HQ2.out]; rfl, (hG.trans hg1).trans hg2⟩
    · have hkn : ss.length ≤ k := by rw [HN.out]; omega
      have hQ := HQ.out
      rw [List.drop_eq_nil_of_le hkn, stU_end] at hQ
      have HC := Hid.mk' (HA.out.non k hkn (by omega))
      clear HQ hkn
      by_cases hu : k < us.length
      · as_aux_lemma =>
          have HD : Hid (∀ W, Grown wr W → Calls Tryd.prog 101 #[gv, .int .i64 k] W fun e w' => e = .returned (.tuple #[.int .i64 us[k], .bool true]) ∧ Grown W w') := fun W hW => HU.out.sth k us[k] (List.getElem?_eq_getElem hu) W (hG.trans hW)
          rw [List.drop_eq_getElem_cons hu] at hQ
          have hQ2 : (!al) = R := by rw [← hQ]; cases al <;> rfl
          generalize us[k] = u at HD
          have HQ2 := Hid.mk' hQ2
          clear hQ hu hQ2
          cases al with
          | true =>
            go_wp2_with (go_at_call 101; refine (HD.out _ (Grown.refl _)).mono ?_; rintro e w1 ⟨rfl, hg1⟩)
            go_wp2_with (go_at_call 102; refine (HC.out _ (hG.trans hg1)).mono ?_; rintro e w2 ⟨rfl, hg2⟩)
            go_ret
            exact ⟨by rw [← HQ2.out]; rfl, (hG.trans hg1).trans hg2⟩
          | false =>
            go_wp2_with (go_at_call 101; refine (HD.out _ (Grown.refl _)).mono ?_; rintro e w1 ⟨rfl, hg1⟩)
            go_wp2_with (go_at_call 102; refine (HC.out _ (hG.trans hg1)).mono ?_; rintro e w2 ⟨rfl, hg2⟩)
            go_ret
            exact ⟨by rw [← HQ2.out]; rfl, (hG.trans hg1).trans hg2⟩
      · as_aux_lemma =>
          have HD : Hid (∀ W, Grown wr W → Calls Tryd.prog 101 #[gv, .int .i64 k] W fun e w' => e = .returned (.tuple #[.int .i64 0, .bool false]) ∧ Grown W w') := fun W hW => HU.out.non k (by omega) (by omega) W (hG.trans hW)
          rw [List.drop_eq_nil_of_le (by omega)] at hQ
          have hQ2 : true = R := by rw [← hQ]; cases al <;> rfl
          have HQ2 := Hid.mk' hQ2
          clear hQ hu hQ2
          cases al with
          | true =>
            go_wp2_with (go_at_call 101; refine (HD.out _ (Grown.refl _)).mono ?_; rintro e w1 ⟨rfl, hg1⟩)
            go_wp2_with (go_at_call 102; refine (HC.out _ (hG.trans hg1)).mono ?_; rintro e w2 ⟨rfl, hg2⟩)
            go_ret
            exact ⟨by rw [← HQ2.out]; rfl, (hG.trans hg1).trans hg2⟩
          | false =>
            go_wp2_with (go_at_call 101; refine (HD.out _ (Grown.refl _)).mono ?_; rintro e w1 ⟨rfl, hg1⟩)
            go_wp2_with (go_at_call 102; refine (HC.out _ (hG.trans hg1)).mono ?_; rintro e w2 ⟨rfl, hg2⟩)
            go_ret
            exact ⟨by rw [← HQ2.out]; rfl, (hG.trans hg1).trans hg2⟩

set_option maxHeartbeats 4000000 in
theorem standsA_any (gv wv : Value) (us : List Int) (ss : List (List (Int × Int))) (al : Bool) (w : World) (hT : Tab w) (hU : UnitF w 103 gv us) (hA : AskF w 104 wv ss) (hn : ss.length ≤ 100) :
    Calls Tryd.prog 100 #[.func (.func 103) #[gv] #[], .func (.func 104) #[wv] #[], .bool al] w fun e w' => e = .returned (.bool (stU us ss al)) ∧ Grown w w' := by
  have HU := Hid.mk' hU
  have HA := Hid.mk' hA
  have HT := Hid.mk' hT
  clear hU hA hT
  obtain ⟨R, hR⟩ : ∃ R, stU us ss al = R := ⟨_, rfl⟩
  have HR : Hid (stU us ss al = R) := hR
  rw [hR]
  obtain ⟨n, hN⟩ : ∃ n, ss.length = n := ⟨_, rfl⟩
  have HN : Hid (ss.length = n) := hN
  rw [hN] at hn
  have hnI : (n : Int) ≤ 100 := by omega
  clear hR hN
  go_enter Tryd.func100, Tryd.ntmps100
  go_wp2
  go_loopw [7] (fun vi wr => ∃ k : Nat, vi = .int .i64 k ∧ k ≤ n ∧ Hid (stU (us.drop k) (ss.drop k) al = R) ∧ Grown w wr) (fun vi _ => n - (intOf vi).toNat)
  case atStart => exact ⟨0, rfl, by omega, by simpa using HR, Grown.refl _⟩
  case round =>
    obtain ⟨k, rfl, hk, HQ, hG⟩ := hrel
    have hkI : (k : Int) ≤ 100 := by omega
    have hk0 : (0 : Int) ≤ (k : Int) := by omega
    by_cases hlt : k < n
    · have hkl : k < ss.length := by rw [HN.out]; exact hlt
      obtain ⟨sv, hsv, hC⟩ := HA.out.sth k ss[k] (List.getElem?_eq_getElem hkl)
      have HS := Hid.mk' hsv
      have HC := Hid.mk' hC
      obtain ⟨s1, s2, s3, rfl⟩ := hsv.sl
      have hQ := HQ.out
      rw [List.drop_eq_getElem_cons hkl] at hQ
      clear hsv hC HQ
      by_cases hu : k < us.length
      · have HD : Hid (∀ W, Grown wr W → Calls Tryd.prog 103 #[gv, .int .i64 k] W fun e w' => e = .returned (.tuple #[.int .i64 us[k], .bool true]) ∧ Grown W w') := fun W hW => HU.out.sth k us[k] (List.getElem?_eq_getElem hu) W (hG.trans hW)
        rw [List.drop_eq_getElem_cons hu, stU_cons] at hQ
        have HB : Hid (∀ W, Grown wr W → Calls Tryd.prog 94 #[.slice s1 s2 s3, .int .i64 us[k]] W fun e w' => e = .returned (.bool (hasB ss[k] us[k])) ∧ Grown W w') := fun W hW => has_any _ ss[k] us[k] W (HT.out.grown (hG.trans hW)) (HS.out.grown (hG.trans hW))
        generalize us[k] = u at HD HB hQ
        cases hb : hasB ss[k] u with
        | true =>
          as_aux_lemma =>
            rw [hb, Bool.true_and] at hQ
            have HQ2 : Hid (stU (us.drop (k + 1)) (ss.drop (k + 1)) al = R) := hQ
            rw [hb] at HB
            clear hQ hb hu HS hkl
            go_wp2_with (go_at_call 103; refine (HD.out _ (Grown.refl _)).mono ?_; rintro e w1 ⟨rfl, hg1⟩)
            go_wp2_with (go_at_call 104; refine (HC.out _ (hG.trans hg1)).mono ?_; rintro e w2 ⟨rfl, hg2⟩)
            go_wp2_with (go_at_call 94; refine (HB.out _ (hg1.trans hg2)).mono ?_; rintro e w3 ⟨rfl, hg3⟩)
            exact ⟨⟨k + 1, by go_num, by omega, HQ2, ((hG.trans hg1).trans hg2).trans hg3⟩, by simp [intOf]; omega⟩
        | false =>
          as_aux_lemma =>
            rw [hb, Bool.false_and] at hQ
            rw [hb] at HB
            have HQ2 := Hid.mk' hQ
            clear hQ hb hu HS hkl
            go_wp2_with (go_at_call 103; refine (HD.out _ (Grown.refl _)).mono ?_; rintro e w1 ⟨rfl, hg1⟩)
            go_wp2_with (go_at_call 104; refine (HC.out _ (hG.trans hg1)).mono ?_; rintro e w2 ⟨rfl, hg2⟩)
            go_wp2_with (go_at_call 94; refine (HB.out _ (hg1.trans hg2)).mono ?_; rintro e w3 ⟨rfl, hg3⟩)
            go_ret
            exact ⟨by rw [← HQ2.out]; rfl, ((hG.trans hg1).trans hg2).trans hg3⟩
      · as_aux_lemma =>
          have HD : Hid (∀ W, Grown wr W → Calls Tryd.prog 103 #[gv, .int .i64 k] W fun e w' => e = .returned (.tuple #[.int .i64 0, .bool false]) ∧ Grown W w') := fun W hW => HU.out.non k (by omega) (by omega) W (hG.trans hW)
          rw [List.drop_eq_nil_of_le (by omega), stU_none] at hQ
          have HQ2 := Hid.mk' hQ
          clear hQ hu HS hkl
          go_wp2_with (go_at_call 103; refine (HD.out _ (Grown.refl _)).mono ?_; rintro e w1 ⟨rfl, hg1⟩)
          go_wp2_with (go_at_call 104; refine (HC.out _ (hG.trans hg1)).mono ?_; rintro e w2 ⟨rfl, hg2⟩)
          go_ret
          exact ⟨by rw [← HQ2.out]; rfl, (hG.trans hg1).trans hg2⟩
    · have hkn : ss.length ≤ k := by rw [HN.out]; omega
      have hQ := HQ.out
      rw [List.drop_eq_nil_of_le hkn, stU_end] at hQ
      have HC := Hid.mk' (HA.out.non k hkn (by omega))
      clear HQ hkn
      by_cases hu : k < us.length
      · as_aux_lemma =>
          have HD : Hid (∀ W, Grown wr W → Calls Tryd.prog 103 #[gv, .int .i64 k] W fun e w' => e = .returned (.tuple #[.int .i64 us[k], .bool true]) ∧ Grown W w') := fun W hW => HU.out.sth k us[k] (List.getElem?_eq_getElem hu) W (hG.trans hW)
          rw [List.drop_eq_getElem_cons hu] at hQ
          have hQ2 : (!al) = R := by rw [← hQ]; cases al <;> rfl
          generalize us[k] = u at HD
          have HQ2 := Hid.mk' hQ2
          clear hQ hu hQ2
          cases al with
          | true =>
            go_wp2_with (go_at_call 103; refine (HD.out _ (Grown.refl _)).mono ?_; rintro e w1 ⟨rfl, hg1⟩)
            go_wp2_with (go_at_call 104; refine (HC.out _ (hG.trans hg1)).mono ?_; rintro e w2 ⟨rfl, hg2⟩)
            go_ret
            exact ⟨by rw [← HQ2.out]; rfl, (hG.trans hg1).trans hg2⟩
          | false =>
            go_wp2_with (go_at_call 103; refine (HD.out _ (Grown.refl _)).mono ?_; rintro e w1 ⟨rfl, hg1⟩)
            go_wp2_with (go_at_call 104; refine (HC.out _ (hG.trans hg1)).mono ?_; rintro e w2 ⟨rfl, hg2⟩)
            go_ret
            exact ⟨by rw [← HQ2.out]; rfl, (hG.trans hg1).trans hg2⟩
      · as_aux_lemma =>
          have HD : Hid (∀ W, Grown wr W → Calls Tryd.prog 103 #[gv, .int .i64 k] W fun e w' => e = .returned (.tuple #[.int .i64 0, .bool false]) ∧ Grown W w') := fun W hW => HU.out.non k (by omega) (by omega) W (hG.trans hW)
          rw [List.drop_eq_nil_of_le (by omega)] at hQ
          have hQ2 : true = R := by rw [← hQ]; cases al <;> rfl
          have HQ2 := Hid.mk' hQ2
          clear hQ hu hQ2
          cases al with
          | true =>
            go_wp2_with (go_at_call 103; refine (HD.out _ (Grown.refl _)).mono ?_; rintro e w1 ⟨rfl, hg1⟩)
            go_wp2_with (go_at_call 104; refine (HC.out _ (hG.trans hg1)).mono ?_; rintro e w2 ⟨rfl, hg2⟩)
            go_ret
            exact ⟨by rw [← HQ2.out]; rfl, (hG.trans hg1).trans hg2⟩
          | false =>
            go_wp2_with (go_at_call 103; refine (HD.out _ (Grown.refl _)).mono ?_; rintro e w1 ⟨rfl, hg1⟩)
            go_wp2_with (go_at_call 104; refine (HC.out _ (hG.trans hg1)).mono ?_; rintro e w2 ⟨rfl, hg2⟩)
            go_ret
            exact ⟨by rw [← HQ2.out]; rfl, (hG.trans hg1).trans hg2⟩
end Go.Proofs
