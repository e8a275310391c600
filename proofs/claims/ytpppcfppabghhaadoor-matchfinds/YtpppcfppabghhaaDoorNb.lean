/-
  What stands, and what is asked for, on either side of a place: the methods.
-/
import Derived.RangeFuncNested
import Derived.RangeFuncBound
import Derived.RangeFuncCalls
import Derived.RangeFuncLeaves
import Derived.Shelf.Abstract
import Derived.Shelf.RegionOpen
import Derived.WalkKit
import Derived.WalkSpells
import Derived.WalkLawsBesides
import Derived.OwnWalkIn
import Derived.TacticsInMore
import Derived.LoopNIn
import Derived.LoopIn
import Derived.BigQuiet
import Derived.RegionIn
import Derived.Deep.QuietTactic
import Derived.Deep.RegionWith
import Derived.Lib.OthersKept
import Derived.Maps.AppendAt
import Derived.Lib.SmallJoins
import Derived.Shelf.SlSortCmp.QuietGrown
import Derived.Test.YtpppcfppabghhaaDoorNa
import Derived.Test.YtpppcfppabghhaaDoorWd
import Derived.Test.YtpppcfppabghhaaDoorNm
namespace Go.Proofs
open Go.RowKit Go.Shelf

set_option maxRecDepth 100000
attribute [local go_sem] Oper.semAt_some
attribute [local go_sem ↓] Go.wp_at_zero Go.wp_at_succ

theorem Hid.mk' {p : Prop} (h : p) : Hid p := h
/-- a method that tells the units of one side -/
structure UnitF (w : World) (U : FuncId) (gv : Value) (us : List Int) : Prop where
  sth : ∀ (k : Nat) (x : Int), us[k]? = some x → ∀ W, Grown w W → Calls Tryd.prog U #[gv, .int .i64 k] W fun e w' => e = .returned (.tuple #[.int .i64 x, .bool true]) ∧ Grown W w'
  non : ∀ k : Nat, us.length ≤ k → k ≤ 1000 → ∀ W, Grown w W → Calls Tryd.prog U #[gv, .int .i64 k] W fun e w' => e = .returned (.tuple #[.int .i64 0, .bool false]) ∧ Grown W w'
/-- a method that tells what is asked for there -/
structure AskF (w : World) (A : FuncId) (wv : Value) (ss : List (List (Int × Int))) : Prop where
  sth : ∀ (k : Nat) (s : List (Int × Int)), ss[k]? = some s → ∃ sv, Rs w sv s ∧ ∀ W, Grown w W → Calls Tryd.prog A #[wv, .int .i64 k] W fun e w' => e = .returned (.tuple #[sv, .bool true]) ∧ Grown W w'
  non : ∀ k : Nat, ss.length ≤ k → k ≤ 1000 → ∀ W, Grown w W → Calls Tryd.prog A #[wv, .int .i64 k] W fun e w' => e = .returned (.tuple #[.slice none 0 0, .bool false]) ∧ Grown W w'
theorem behindU {w : World} {dv lv : Value} {l : List Int} (hd : IsSl dv) (hl : IR w lv l) : UnitF w 36 (.agg #[dv, lv]) l := by
  obtain ⟨d1, d2, d3, rfl⟩ := hd
  obtain ⟨la, lc, rfl, _, h⟩ := hl
  constructor
  · intro k x hx W hW
    obtain ⟨hk, hx⟩ := List.getElem?_eq_some_iff.1 hx
    obtain ⟨g, o, rfl, hR⟩ := h.resolve_left (fun e => by rw [e] at hk; simp at hk)
    have hc := hW.cellv (hR k hk)
    rw [hx] at hc
    have HC : Hid (∀ V, Grown W V → Calls Tryd.prog 50 #[.slice (some ⟨g, o, none⟩) l.length lc, .int .i64 k] V fun e w' => e = .returned (.tuple #[.int .i64 x, .bool true]) ∧ w' = V) := fun V hV => nthI_in g o _ lc x k V hk (hV.cellv hc)
    clear hc hR hx h
    go_enter Tryd.func36, Tryd.ntmps36
    go_wp2_with (go_at_call 50; refine (HC.out _ ((Grown.refl _).alloc _)).mono ?_; rintro e w' ⟨rfl, rfl⟩)
    go_ret2
    exact ⟨rfl, (Grown.refl _).alloc _⟩
  · intro k hk hk2 W hW
    have HC : Hid (∀ V, Grown W V → Calls Tryd.prog 50 #[.slice la l.length lc, .int .i64 k] V fun e w' => e = .returned (.tuple #[.int .i64 0, .bool false]) ∧ w' = V) := fun V hV => nthI_out la _ lc k V (.inr (by omega))
    clear h
    go_enter Tryd.func36, Tryd.ntmps36
    go_wp2_with (go_at_call 50; refine (HC.out _ ((Grown.refl _).alloc _)).mono ?_; rintro e w' ⟨rfl, rfl⟩)
    go_ret2
    exact ⟨rfl, (Grown.refl _).alloc _⟩
theorem aheadU {w : World} {dv lv : Value} {d : List Int} (hl : IsSl lv) (hd : IR w dv d) (hn : d.length ≤ 9223372036854775807) : UnitF w 38 (.agg #[dv, lv]) d.reverse := by
  obtain ⟨l1, l2, l3, rfl⟩ := hl
  obtain ⟨da, dc, rfl, _, h⟩ := hd
  obtain ⟨n, hN⟩ : ∃ n, d.length = n := ⟨_, rfl⟩
  have i1 : (n : Int) ≤ 9223372036854775807 := by omega
  have i2 : (0 : Int) ≤ (n : Int) := by omega
  rw [hN]
  constructor
  · intro k x hx W hW
    obtain ⟨hk, hx⟩ := List.getElem?_eq_some_iff.1 hx
    rw [List.length_reverse] at hk
    rw [List.getElem_reverse] at hx
    obtain ⟨g, o, rfl, hR⟩ := h.resolve_left (fun e => by rw [e] at hk; simp at hk)
    have hc := hW.cellv (hR (d.length - 1 - k) (by omega))
    rw [hx, hN] at hc
    have HC : Hid (∀ V, Grown W V → Calls Tryd.prog 50 #[.slice (some ⟨g, o, none⟩) n dc, .int .i64 ((n : Int) - 1 - (k : Int))] V fun e w' => e = .returned (.tuple #[.int .i64 x, .bool true]) ∧ w' = V) := fun V hV => by
      rw [show (n : Int) - 1 - (k : Int) = ((n - 1 - k : Nat) : Int) by omega]
      exact nthI_in g o _ dc x (n - 1 - k) V (by omega) (hV.cellv hc)
    have i3 : (k : Int) < (n : Int) := by omega
    have i4 : (0 : Int) ≤ (k : Int) := by omega
    clear hc hR hx h hk
    go_enter Tryd.func38, Tryd.ntmps38
    go_wp2_with (go_at_call 50; refine (HC.out _ ((Grown.refl _).alloc _)).mono ?_; rintro e w' ⟨rfl, rfl⟩)
    go_ret2
    exact ⟨rfl, (Grown.refl _).alloc _⟩
  · intro k hk hk2 W hW
    rw [List.length_reverse, hN] at hk
    have HC : Hid (∀ V, Grown W V → Calls Tryd.prog 50 #[.slice da n dc, .int .i64 ((n : Int) - 1 - (k : Int))] V fun e w' => e = .returned (.tuple #[.int .i64 0, .bool false]) ∧ w' = V) := fun V hV => nthI_out da _ dc _ V (.inl (by omega))
    have i3 : (k : Int) ≤ 1000 := by omega
    have i4 : (0 : Int) ≤ (k : Int) := by omega
    clear h hk hk2
    go_enter Tryd.func38, Tryd.ntmps38
    go_wp2_with (go_at_call 50; refine (HC.out _ ((Grown.refl _).alloc _)).mono ?_; rintro e w' ⟨rfl, rfl⟩)
    go_ret2
    exact ⟨rfl, (Grown.refl _).alloc _⟩
theorem srd_at {w : World} {a : Option Addr} {n c : Nat} {ls : List (List (Int × Int))} (h : SR w (.slice a n c) ls) {k : Nat} {s : List (Int × Int)} (hs : ls[k]? = some s) : k < n ∧ ∃ g o sv, a = some ⟨g, o, none⟩ ∧ w.cell? ⟨g, o + k, none⟩ = some sv ∧ Rs w sv s := by
  obtain ⟨hk, hx⟩ := List.getElem?_eq_some_iff.1 hs
  obtain ⟨a', c', e, _, h⟩ := h
  injection e with e1 e2 e3
  subst e1 e2 e3
  obtain ⟨g, o, rfl, hR⟩ := h.resolve_left (fun e => by rw [e] at hk; simp at hk)
  obtain ⟨sv, h1, h2⟩ := hR k hk
  exact ⟨hk, g, o, sv, rfl, h1, hx ▸ h2⟩
theorem sr_leng {w : World} {a : Option Addr} {n c : Nat} {ls : List (List (Int × Int))} (h : SR w (.slice a n c) ls) : n = ls.length := by
  obtain ⟨a', c', e, _, _⟩ := h
  injection e with e1 e2 e3
theorem behindA {w : World} {bg en : Bool} {cu : Int} {av kv pv rv : Value} {r : Rl} (h : RR w av kv pv rv r) (hO : Ok r) : AskF w 37 (.agg #[.bool bg, av, kv, pv, .bool en, rv, .int .i64 cu]) (r.key ++ r.post) := by
  have hk8 := hO.k8
  have hp8 := hO.p8
  have HK := Hid.mk' h.k
  have HP := Hid.mk' h.p
  obtain ⟨a1, a2, a3, rfl⟩ := h.a.sl
  obtain ⟨ka, kn, kc, rfl⟩ := h.k.sl
  obtain ⟨pa, pn, pc, rfl⟩ := h.p.sl
  obtain ⟨r1, r2, r3, rfl⟩ := h.r.sl
  have hkn := sr_leng h.k
  have hpn := sr_leng h.p
  rw [← hkn] at hk8
  rw [← hpn] at hp8
  have i1 : (kn : Int) ≤ 8 := by omega
  have i2 : (pn : Int) ≤ 8 := by omega
  have i3 : (0 : Int) ≤ (kn : Int) := by omega
  clear h hO
  constructor
  · intro k s hs
    by_cases hlt : k < kn
    · rw [List.getElem?_append_left (by omega)] at hs
      obtain ⟨_, g, o0, sv, rfl, hc, hR⟩ := srd_at HK.out hs
      refine ⟨sv, hR, fun W hW => ?_⟩
      have hc := hW.cellv hc
      obtain ⟨s1, s2, s3, rfl⟩ := hR.sl
      have i4 : (k : Int) < (kn : Int) := by omega
      have i5 : (0 : Int) ≤ (k : Int) := by omega
      have hc2 : ∀ o, (W.alloc o).cell? ⟨g, o0 + k, none⟩ = some (.slice s1 s2 s3) := fun o => cell_up hc o
      clear hR hs hkn hpn
      go_enter Tryd.func37, Tryd.ntmps37
      go_wp2
      go_ret2
      exact ⟨rfl, (Grown.refl _).alloc _⟩
    · rw [List.getElem?_append_right (by omega), ← hkn] at hs
      obtain ⟨hlt2, g, o, sv, rfl, hc, hR⟩ := srd_at HP.out hs
      refine ⟨sv, hR, fun W hW => ?_⟩
      have hc := hW.cellv hc
      obtain ⟨s1, s2, s3, rfl⟩ := hR.sl
      have HC : Hid (∀ V, Grown W V → Calls Tryd.prog 51 #[.slice (some ⟨g, o, none⟩) pn pc, .int .i64 ((k : Int) - (kn : Int))] V fun e w' => e = .returned (.tuple #[.slice s1 s2 s3, .bool true]) ∧ w' = V) := fun V hV => by
        rw [show (k : Int) - (kn : Int) = ((k - kn : Nat) : Int) by omega]
        exact nthS_in g o _ pc s1 s2 s3 (k - kn) V hlt2 (hV.cellv hc)
      have i4 : ¬ (k : Int) < (kn : Int) := by omega
      have i5 : (k : Int) ≤ 1000 := by omega
      clear hR hs hkn hpn hc
      go_enter Tryd.func37, Tryd.ntmps37
      go_wp2_with (go_at_call 51; refine (HC.out _ ((Grown.refl _).alloc _)).mono ?_; rintro e w' ⟨rfl, rfl⟩)
      go_ret2
      exact ⟨rfl, (Grown.refl _).alloc _⟩
  · intro k hk hk2 W hW
    rw [List.length_append, ← hkn, ← hpn] at hk
    have HC : Hid (∀ V, Grown W V → Calls Tryd.prog 51 #[.slice pa pn pc, .int .i64 ((k : Int) - (kn : Int))] V fun e w' => e = .returned (.tuple #[.slice none 0 0, .bool false]) ∧ w' = V) := fun V hV => nthS_out pa _ pc _ V (.inr (by omega))
    have i4 : ¬ (k : Int) < (kn : Int) := by omega
    have i5 : (k : Int) ≤ 1000 := by omega
    clear hkn hpn
    go_enter Tryd.func37, Tryd.ntmps37
    go_wp2_with (go_at_call 51; refine (HC.out _ ((Grown.refl _).alloc _)).mono ?_; rintro e w' ⟨rfl, rfl⟩)
    go_ret2
    exact ⟨rfl, (Grown.refl _).alloc _⟩
theorem aheadA {w : World} {bg en : Bool} {cu : Int} {av kv pv rv : Value} {r : Rl} (h : RR w av kv pv rv r) (hO : Ok r) : AskF w 39 (.agg #[.bool bg, av, kv, pv, .bool en, rv, .int .i64 cu]) r.ante.reverse := by
  have ha8 := hO.a8
  have HA := Hid.mk' h.a
  obtain ⟨aa, an, ac, rfl⟩ := h.a.sl
  obtain ⟨ka, kn, kc, rfl⟩ := h.k.sl
  obtain ⟨pa, pn, pc, rfl⟩ := h.p.sl
  obtain ⟨r1, r2, r3, rfl⟩ := h.r.sl
  have han := sr_leng h.a
  rw [← han] at ha8
  have i1 : (an : Int) ≤ 8 := by omega
  have i3 : (0 : Int) ≤ (an : Int) := by omega
  clear h hO
  constructor
  · intro k s hs
    obtain ⟨hk, hx⟩ := List.getElem?_eq_some_iff.1 hs
    rw [List.length_reverse] at hk
    rw [List.getElem_reverse] at hx
    have hs : r.ante[an - 1 - k]? = some s := by rw [han, List.getElem?_eq_getElem (by omega), hx]
    obtain ⟨hlt2, g, o, sv, rfl, hc, hR⟩ := srd_at HA.out hs
    refine ⟨sv, hR, fun W hW => ?_⟩
    have hc := hW.cellv hc
    obtain ⟨s1, s2, s3, rfl⟩ := hR.sl
    have HC : Hid (∀ V, Grown W V → Calls Tryd.prog 51 #[.slice (some ⟨g, o, none⟩) an ac, .int .i64 ((an : Int) - 1 - (k : Int))] V fun e w' => e = .returned (.tuple #[.slice s1 s2 s3, .bool true]) ∧ w' = V) := fun V hV => by
      rw [show (an : Int) - 1 - (k : Int) = ((an - 1 - k : Nat) : Int) by omega]
      exact nthS_in g o _ ac s1 s2 s3 (an - 1 - k) V hlt2 (hV.cellv hc)
    have i4 : (k : Int) < (an : Int) := by omega
    have i5 : (0 : Int) ≤ (k : Int) := by omega
    clear hR hs han hc hx hk
    go_enter Tryd.func39, Tryd.ntmps39
    go_wp2_with (go_at_call 51; refine (HC.out _ ((Grown.refl _).alloc _)).mono ?_; rintro e w' ⟨rfl, rfl⟩)
    go_ret2
    exact ⟨rfl, (Grown.refl _).alloc _⟩
  · intro k hk hk2 W hW
    rw [List.length_reverse, ← han] at hk
    have HC : Hid (∀ V, Grown W V → Calls Tryd.prog 51 #[.slice aa an ac, .int .i64 ((an : Int) - 1 - (k : Int))] V fun e w' => e = .returned (.tuple #[.slice none 0 0, .bool false]) ∧ w' = V) := fun V hV => nthS_out aa _ ac _ V (.inl (by omega))
    have i4 : (k : Int) ≤ 1000 := by omega
    have i5 : (0 : Int) ≤ (k : Int) := by omega
    clear han hk hk2
    go_enter Tryd.func39, Tryd.ntmps39
    go_wp2_with (go_at_call 51; refine (HC.out _ ((Grown.refl _).alloc _)).mono ?_; rintro e w' ⟨rfl, rfl⟩)
    go_ret2
    exact ⟨rfl, (Grown.refl _).alloc _⟩
end Go.Proofs
