/-
  What a rule puts back, and what units a piece may be.
-/
import Derived.RangeFuncNested
import Derived.RangeFuncBound
import Derived.RangeFuncCalls
import Derived.RangeFuncLeaves
import Derived.Shelf.Abstract
import Derived.Shelf.RegionOpen
import Derived.WalkKit
import Derived.WalkSpells
import Derived.WalkLawsBesides
import Derived.OwnWalkIn
import Derived.TacticsInMore
import Derived.LoopNIn
import Derived.LoopIn
import Derived.BigQuiet
import Derived.RegionIn
import Derived.Deep.QuietTactic
import Derived.Deep.RegionWith
import Derived.Lib.OthersKept
import Derived.Maps.AppendAt
import Derived.Lib.SmallJoins
import Derived.Shelf.SlSortCmp.QuietGrown
import Derived.Test.YtkijbaofhodplaaDoorEy
namespace Go.Proofs
open Go.RowKit Go.Shelf

set_option maxRecDepth 100000
attribute [local go_sem] Oper.semAt_some
attribute [local go_sem ↓] Go.wp_at_zero Go.wp_at_succ
/-- what a rule puts back -/
def backP (r : Rl) : List Pc := r.res.drop r.cu.toNat
/-- the units that a piece may be -/
def mayB (p : Pc) : List (Int × Int) := if p.k = 3 then p.tl else [(p.u, p.u)]
set_option maxHeartbeats 1000000 in
theorem mayBe_any (p : Pc) (tv : Value) (w : World) (base : Nat) (ht : UR w base tv p.tl) : Calls Tryd.prog 75 #[.agg #[.int .i64 p.k, .int .i64 p.u, .int .i64 p.y, tv]] w fun e w' => ∃ v, e = .returned v ∧ UR w' base v (mayB p) ∧ Grown w w' := by
  have HT : Hid (UR w base tv p.tl) := ht
  obtain ⟨ta, tc, rfl, _, _⟩ := ht
  obtain ⟨tn, htn⟩ : ∃ tn, p.tl.length = tn := ⟨_, rfl⟩
  rw [htn] at HT ⊢
  obtain ⟨pk, hpk⟩ : ∃ pk, p.k = pk := ⟨_, rfl⟩
  obtain ⟨pu, hpu⟩ : ∃ pu, p.u = pu := ⟨_, rfl⟩
  have HM : Hid (mayB p = if pk = 3 then p.tl else [(pu, pu)]) := by show _ = _; unfold mayB; rw [hpk, hpu]
  rw [hpk, hpu]
  clear hpk hpu htn
  by_cases h : pk = 3
  · subst h
    go_enter Tryd.func75, Tryd.ntmps75
    go_wp2
    refine bodyPost_ret (v := .slice ta tn tc) (by simp [results, Tryd.f75, go_sem]) rfl ⟨_, rfl, ?_, (Grown.refl _).alloc _⟩
    rw [HM.out]
    simp only [if_true]
    exact HT.out.below ((Grown.refl _).alloc _).below
  · have h' : (pk == 3) = false := by simpa using h
    go_enter Tryd.func75, Tryd.ntmps75
    go_wp2
    refine bodyPost_ret (v := .slice (some ⟨w.heap.size + 1, 0, none⟩) 1 1) (by simp [results, Tryd.f75, go_sem]) rfl ⟨_, rfl, ?_, ((Grown.refl _).alloc _).alloc _⟩
    rw [HM.out, if_neg h]
    refine ⟨_, 1, rfl, Nat.le_refl _, .inr ⟨w.heap.size + 1, 0, rfl, fun j hj => ?_, .inr ⟨#[.int .i64 pu, .int .i64 pu], (0, 0), ?_⟩⟩⟩
    · have : j = 0 := by simp at hj; omega
      subst this
      simp [rg]
    · have := heap_alloc_new (w.alloc (.cells #[.int .i64 pk, .int .i64 pu, .int .i64 p.y, .slice ta tn tc] 66)) (.cells #[.int .i64 pu, .int .i64 pu] 84)
      simpa using this
set_option maxHeartbeats 1000000 in
theorem putBack_some (bg en : Bool) (a1 a2 a3 : Option Addr) (n1 c1 n2 c2 n3 c3 g o n c : Nat) (cu : Nat) (w : World) (hcu : cu ≤ n) (hn : n ≤ c) : Calls Tryd.prog 74 #[.agg #[.bool bg, .slice a1 n1 c1, .slice a2 n2 c2, .slice a3 n3 c3, .bool en, .slice (some ⟨g, o, none⟩) n c, .int .i64 cu]] w fun e w' => ∃ a', e = .returned (.slice a' (n - cu) (c - cu)) ∧ (n - cu = 0 ∨ a' = some ⟨g, o + cu * 4, none⟩) ∧ Grown w w' := by
  have h0 : (0 : Int) ≤ (cu : Int) := by omega
  have h1 : (cu : Int) ≤ (n : Int) := by omega
  have h2 : (n : Int) ≤ (c : Int) := by omega
  go_enter Tryd.func74, Tryd.ntmps74
  go_wp2
  · exact bodyPost_ret (v := .slice (some ⟨g, o, none⟩) (n - cu) 0) (by simp [results, Tryd.f74, go_sem]) rfl ⟨_, rfl, .inl (by omega), (Grown.refl _).alloc _⟩
  · exact bodyPost_ret (v := .slice (some ⟨g, o + cu * 4, none⟩) (n - cu) (c - cu)) (by simp [results, Tryd.f74, go_sem]) rfl ⟨_, rfl, .inr rfl, (Grown.refl _).alloc _⟩
set_option maxHeartbeats 1000000 in
theorem putBack_nil (bg en : Bool) (a1 a2 a3 : Option Addr) (n1 c1 n2 c2 n3 c3 c : Nat) (a : Option Addr) (w : World) : Calls Tryd.prog 74 #[.agg #[.bool bg, .slice a1 n1 c1, .slice a2 n2 c2, .slice a3 n3 c3, .bool en, .slice a 0 c, .int .i64 0]] w fun e w' => ∃ a' c', e = .returned (.slice a' 0 c') ∧ Grown w w' := by
  go_enter Tryd.func74, Tryd.ntmps74
  go_wp2
  exact bodyPost_ret (v := .slice a 0 c) (by simp [results, Tryd.f74, go_sem]) rfl ⟨_, _, rfl, (Grown.refl _).alloc _⟩
theorem putBack_any (r : Rl) (av kv pv rv : Value) (w w0 : World) (h : RR w0 av kv pv rv r) (hc : 0 ≤ r.cu) (hc2 : r.cu ≤ r.res.length) : Calls Tryd.prog 74 #[.agg #[.bool r.bg, av, kv, pv, .bool r.en, rv, .int .i64 r.cu]] w fun e w' => ∃ v, e = .returned v ∧ PR w0 v (backP r) ∧ Grown w w' := by
  obtain ⟨a1, n1, c1, rfl⟩ := h.a.sl
  obtain ⟨a2, n2, c2, rfl⟩ := h.k.sl
  obtain ⟨a3, n3, c3, rfl⟩ := h.p.sl
  obtain ⟨a, c, rfl, hcap, hr⟩ := h.r
  obtain ⟨cu, hcu⟩ : ∃ cu : Nat, r.cu = cu := ⟨r.cu.toNat, by omega⟩
  have hB : backP r = r.res.drop cu := by unfold backP; rw [hcu]; simp
  rw [hcu] at hc2 ⊢
  rw [hB]
  by_cases hn : r.res = []
  · rw [hn] at hc2 ⊢
    have : cu = 0 := by simp at hc2; omega
    subst this
    refine (putBack_nil _ _ _ _ _ _ _ _ _ _ _ _ _ w).mono ?_
    rintro e w' ⟨a', c', rfl, hg⟩
    exact ⟨_, rfl, ⟨a', c', by simp, by simp, .inl (by simp)⟩, hg⟩
  · obtain ⟨g, o, rfl, hd⟩ := hr.resolve_left hn
    refine (putBack_some _ _ _ _ _ _ _ _ _ _ _ g o _ c cu w (by omega) hcap).mono ?_
    rintro e w' ⟨a', rfl, ha, hg⟩
    refine ⟨_, rfl, ⟨a', c - cu, by simp, by simp; omega, ?_⟩, hg⟩
    by_cases hz : r.res.length - cu = 0
    · exact .inl (List.drop_eq_nil_of_le (by omega))
    · refine .inr ⟨g, o + cu * 4, ha.resolve_left hz, fun j hj => ?_⟩
      have hj' : cu + j < r.res.length := by simp at hj; omega
      have := hd (cu + j) hj'
      rw [List.getElem_drop, show o + cu * 4 + j * 4 = o + (cu + j) * 4 by omega]
      exact this
theorem Rs.ur {w0 W : World} {v : Value} {l : List (Int × Int)} (h : Rs w0 v l) (hb : Below w0.heap.size w0 W) : UR W w0.heap.size v l := by
  obtain ⟨a, cap, h1, h2, h3⟩ := h
  refine ⟨a, cap, h1, h2, ?_⟩
  by_cases hl : l = []
  · exact .inl hl
  · obtain ⟨g, o, h4, h5⟩ := h3.resolve_left hl
    have hg := h5.lt hl
    exact .inr ⟨g, o, h4, h5.below hb hg, .inl hg⟩
/-- the pieces of a rule for the scale -/
def pbs (n : Nat) : List Pc → List Pb
  | [] => []
  | p :: l => if p.k = 2 then pbs n l else ⟨n, mayB p, 1⟩ :: pbs n l
theorem pbs_snoc (n : Nat) (l : List Pc) (p : Pc) : pbs n (l ++ [p]) = pbs n l ++ (if p.k = 2 then [] else [⟨n, mayB p, 1⟩]) := by
  induction l with
  | nil => simp [pbs]
  | cons q l ih =>
    simp only [List.cons_append, pbs, ih]
    split <;> simp
theorem pbs_len (n : Nat) (l : List Pc) : (pbs n l).length ≤ l.length := by
  induction l with
  | nil => simp [pbs]
  | cons q l ih =>
    simp only [pbs]
    split <;> simp <;> omega
/-- the first k rules' pieces -/
def bkI (rs : List Rl) : Nat → List Pb
  | 0 => []
  | k + 1 => bkI rs k ++ pbs k ((rs[k]?.map backP).getD [])
def askI (r : Rl) : Int := 2 - (r.key.length : Int) + ((backP r).length : Int)
theorem bkI_len {rs : List Rl} (h : ∀ r ∈ rs, r.res.length ≤ 16) : ∀ k, (bkI rs k).length ≤ 16 * k
  | 0 => by simp [bkI]
  | k + 1 => by
    have h1 := bkI_len h k
    have h2 := pbs_len k ((rs[k]?.map backP).getD [])
    have h3 : ((rs[k]?.map backP).getD []).length ≤ 16 := by
      cases hk : rs[k]? with
      | none => simp
      | some r =>
        have := h r (List.mem_of_getElem? hk)
        simp [backP]; omega
    simp only [bkI, List.length_append]
    omega
end Go.Proofs
