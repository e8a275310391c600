/-
  Turns of a set, appended.
-/
import Derived.RangeFuncNested
import Derived.RangeFuncBound
import Derived.RangeFuncCalls
import Derived.RangeFuncLeaves
import Derived.Shelf.Abstract
import Derived.Shelf.RegionOpen
import Derived.WalkKit
import Derived.WalkSpells
import Derived.WalkLawsBesides
import Derived.OwnWalkIn
import Derived.TacticsInMore
import Derived.LoopNIn
import Derived.LoopIn
import Derived.BigQuiet
import Derived.RegionIn
import Derived.Deep.QuietTactic
import Derived.Deep.RegionWith
import Derived.Lib.OthersKept
import Derived.Maps.AppendAt
import Derived.Lib.SmallJoins
import Derived.Shelf.SlSortCmp.QuietGrown
import Derived.Test.YtjjkomaokgmkhaaDoorGan
import Derived.Test.YtjjkomaokgmkhaaDoorVen
namespace Go.Proofs
open Go.RowKit Go.Shelf

set_option maxRecDepth 100000
attribute [local go_sem] Oper.semAt_some
attribute [local go_sem ↓] Go.wp_at_zero Go.wp_at_succ

/-- a row of turns of the call's own -/
def OwnT (w : World) (base : Nat) (v : Value) (l : List (Int × Int)) : Prop := w.ownsRow base 77 2 v l.length (fl l)
theorem OwnT.nil (w : World) (base : Nat) : OwnT w base (.slice none 0 0) [] := World.ownsRow_nil _ _ _ _
theorem OwnT.alloc {w : World} {base : Nat} {v : Value} {l : List (Int × Int)} (h : OwnT w base v l) (o : Obj) : OwnT (w.alloc o) base v l := World.ownsRow.alloc h o
theorem OwnT.below {w w' : World} {base n : Nat} {v : Value} {l : List (Int × Int)} (h : OwnT w base v l) (hb : Below n w w') (hn : w.heap.size ≤ n) : OwnT w' base v l := by
  refine ⟨h.1, ?_⟩
  rcases h.2 with h | ⟨g, cap, cur, rfl, h1, h2, h3⟩
  · exact .inl h
  · have : g < w.heap.size := (Array.getElem?_eq_some_iff.1 h2).1
    exact .inr ⟨g, cap, cur, rfl, h1, (hb.block g (by omega)).trans h2, h3⟩
theorem OwnT.grown {w w' : World} {base : Nat} {v : Value} {l : List (Int × Int)} (h : OwnT w base v l) (hg : Grown w w') : OwnT w' base v l := h.below hg.below (Nat.le_refl _)
theorem info77 : (Tryd.prog.info? 77).map (fun i => (i.zero, i.size, i.bytes)) = some (some (.agg #[.int .i64 0, .int .i64 0]), 2, 16) := by kernel_rfl
/-- where a row lies behind an append -/
def Loc (w : World) (v v' : Value) : Prop := v'.ownBlock = v.ownBlock ∨ ∃ j, v'.ownBlock = some j ∧ w.heap.size ≤ j
/-- two turns more behind a row of the call's own -/
theorem push_T2 {ops : Array Oper} {rest : List Oper} {o : Oper} {a : Act} {Q : Exit → Act → World → Prop} {w : World} (hgd : o.guard = none) (s x : Operand) (t : TypeId)
    (ho : o.op = .call { callee := .builtin .append, args := #[s, x], argTypes := #[t, t] }) (ht : Tryd.prog.underlying t = some (.slice 77))
    (base : Nat) (v : Value) (l : List (Int × Int)) (hs : a.eval s = v) (hown : OwnT w base v l) (g c : Nat) (p q p' q' : Int) (hx : a.eval x = .slice (some ⟨g, 0, none⟩) 2 c)
    (hc : w.heap[g]? = some (.cells #[.int .i64 p, .int .i64 q, .int .i64 p', .int .i64 q'] 77 (0, 0))) (hl : l.length + 2 ≤ 8796093022208) (hbase : base ≤ w.heap.size)
    (h : ∀ v' w', OwnT w' base v' (l ++ [(p, q), (p', q')]) → w.grownBy w' v.ownBlock → Loc w v v' → wpList Tryd.prog ops Q rest (a.put o.dst v') w') : wpList Tryd.prog ops Q (o :: rest) a w := by
  obtain ⟨i0, hi, hz0, hz1, hz2⟩ := info_parts info77
  refine wpList_append_own_at w hgd s x t ho base 77 i0 (.agg #[.int .i64 0, .int .i64 0]) 2 16 ht hi hz0 hz1 hz2 rfl (by decide) v l.length (fl l) hs hown ⟨g, 0, none⟩ 2 c (fl [(p, q), (p', q')]) hx rfl ?_ (fl_one _) (by unfold maxLen; omega) (by omega) hbase (fun v' w' h2 h3 _ h5 => h v' w' ?_ h3 ?_)
  · intro j u hj
    rw [add_zero_at]
    match j, hj with
    | 0, hj => simp [fl] at hj; subst hj; exact heap_cellv hc rfl
    | 1, hj => simp [fl] at hj; subst hj; exact heap_cellv hc rfl
    | 2, hj => simp [fl] at hj; subst hj; exact heap_cellv hc rfl
    | 3, hj => simp [fl] at hj; subst hj; exact heap_cellv hc rfl
  · unfold OwnT
    rw [fl_append, List.length_append]
    exact h2
  · rcases h5 with h5 | h5
    · exact .inl h5
    · exact .inr ⟨_, h5, Nat.le_refl _⟩
theorem tnS_len (n : Int) (s : List (Int × Int)) : (tnS n s).length = 2 * s.length := by
  induction s with
  | nil => rfl
  | cons x s ih =>
    have e : tnS n (x :: s) = [(x.1, n), (x.2 + 1, n)] ++ tnS n s := by simp [tnS]
    rw [e, List.length_append, ih]; simp; omega
theorem tnS_take (n : Int) {s : List (Int × Int)} {k : Nat} (hk : k < s.length) : tnS n (s.take (k + 1)) = tnS n (s.take k) ++ [((rg s k).1, n), ((rg s k).2 + 1, n)] := by
  rw [List.take_succ_eq_append_getElem hk, ← rg_lt hk]; simp [tnS]
set_option maxHeartbeats 4000000 in
theorem appT_walk (a0 : Option Addr) (n0 c0 : Nat) (n : Int) (l s : List (Int × Int)) (g o N c base : Nat) (w : World) (hN : s.length = N) (hO : OwnT w base (.slice a0 n0 c0) l) (hb : base ≤ w.heap.size) (hs : ∀ W, Fr w W (fun b => (Value.slice a0 n0 c0).ownBlock = some b) → Reads W g o s) (_hc : N ≤ c)
    (hbd : ∀ x ∈ s, 0 ≤ x.1 ∧ x.1 ≤ 1114367 ∧ 0 ≤ x.2 ∧ x.2 ≤ 1114367) (hl : l.length + 2 * N ≤ 4398046511104) :
    Calls Tryd.prog 39 #[.slice a0 n0 c0, .int .i64 n, .slice (some ⟨g, o, none⟩) N c] w fun e w' => ∃ v', e = .returned v' ∧ OwnT w' base v' (l ++ tnS n s) ∧ Fr w w' (fun b => (Value.slice a0 n0 c0).ownBlock = some b) ∧ Loc w (.slice a0 n0 c0) v' := by
  have HS := Hid.mk' hs
  have HO := Hid.mk' hO
  have hNI : (N : Int) ≤ 4398046511104 := by omega
  clear hs hO
  go_enter Tryd.func39, Tryd.ntmps39
  go_wp2
  go_loopw [0, 11] (fun v0 vi wr => ∃ (k : Nat) (a1 : Option Addr) (n1 c1 : Nat), v0 = .slice a1 n1 c1 ∧ vi = .int .i64 k ∧ k ≤ N ∧ Hid (OwnT wr base (.slice a1 n1 c1) (l ++ tnS n (s.take k)) ∧ Fr w wr (fun b => (Value.slice a0 n0 c0).ownBlock = some b) ∧ Loc w (.slice a0 n0 c0) (.slice a1 n1 c1))) (fun _ vi _ => N - (intOf vi).toNat)
  case atStart => exact ⟨0, a0, n0, c0, rfl, rfl, Nat.zero_le _, by rw [List.take_zero]; simpa [tnS] using HO.out, Fr.refl _ _, .inl rfl⟩
  case round =>
    obtain ⟨k, a1, n1, c1, rfl, rfl, hk, HR⟩ := hrel
    have hk0 : (0 : Int) ≤ (k : Int) := by omega
    by_cases hlt : k < N
    · have hltI : (k : Int) < (N : Int) := by omega
      have hks : k < s.length := by omega
      obtain ⟨hO1, hF1, hL1⟩ := HR.out
      obtain ⟨ca, cb⟩ := HS.out wr hF1 k hks
      have hbx := hbd (rg s k) (by rw [rg_lt hks]; exact List.getElem_mem hks)
      have HT : Hid (tnS n (s.take (k + 1)) = tnS n (s.take k) ++ [((rg s k).1, n), ((rg s k).2 + 1, n)]) := tnS_take n hks
      have hlen : (l ++ tnS n (s.take k)).length + 2 ≤ 8796093022208 := by
        rw [List.length_append, tnS_len, List.length_take]; omega
      obtain ⟨lo, hlo⟩ : ∃ lo, (rg s k).1 = lo := ⟨_, rfl⟩
      obtain ⟨hi, hhi⟩ : ∃ hi, (rg s k).2 = hi := ⟨_, rfl⟩
      rw [hlo, hhi] at HT
      rw [hlo] at ca hbx
      rw [hhi] at cb hbx
      obtain ⟨b1, b2, b3, b4⟩ := hbx
      have HBZ : Hid (base ≤ wr.heap.size) := Nat.le_trans hb hF1.size
      clear hO1 hF1 hL1 hlo hhi
      go_wp2_with (at_builtin; go_must (refine push_T2 rfl _ _ 55 rfl Tryd.underlying55 base (.slice a1 n1 c1) _ rfl ((HR.out.1.alloc _).alloc _) _ _ lo n (hi + 1) n rfl (by simpa using heap_alloc_new (wr.alloc _) _) hlen (by have := HBZ.out; simp; omega) ?_; intro v' w' h1 h2 h3; have HW := Hid.mk' (And.intro h1 (And.intro h2 h3)); clear h1 h2 h3))
      obtain ⟨hw1, hw2, hw3⟩ := HW.out
      obtain ⟨a2, c2, hv2⟩ := own_len hw1
      subst hv2
      refine ⟨⟨k + 1, a2, _, c2, rfl, by go_num, by omega, ?_, ?_, ?_⟩, by simp [intOf]; omega⟩
      · rw [HT.out, ← List.append_assoc]; exact hw1
      · obtain ⟨_, hF1, hL1⟩ := HR.out
        have hga : Grown wr ((wr.alloc (.cells #[.int .i64 lo, .int .i64 hi] 29)).alloc (.cells #[.int .i64 lo, .int .i64 n, .int .i64 (hi + 1), .int .i64 n] 77)) := ((Grown.refl _).alloc _).alloc _
        refine (hF1.trans (fr_grown hga _) fun _ _ e => e).trans (fr_by hw2) fun b hb2 e => ?_
        rcases hL1 with h | ⟨j, h, hj⟩
        · rw [← h]; exact e
        · rw [h] at e; injection e with e; omega
      · obtain ⟨_, hF1, hL1⟩ := HR.out
        have hz := hF1.size
        rcases hw3 with h | ⟨j, h, hj⟩
        · rcases hL1 with h4 | ⟨j, h4, hj⟩
          · exact .inl (h.trans h4)
          · exact .inr ⟨j, h.trans h4, hj⟩
        · exact .inr ⟨j, h, by simp at hj; omega⟩
    · have hge : ¬ (k : Int) < (N : Int) := by omega
      have hkN : k = N := by omega
      have HE : Hid (OwnT wr base (.slice a1 n1 c1) (l ++ tnS n s) ∧ Fr w wr (fun b => (Value.slice a0 n0 c0).ownBlock = some b) ∧ Loc w (.slice a0 n0 c0) (.slice a1 n1 c1)) := by
        obtain ⟨h1, h2, h3⟩ := HR.out
        refine ⟨?_, h2, h3⟩
        rwa [List.take_of_length_le (by omega)] at h1
      clear HR hkN
      go_wp2
      go_ret
      exact ⟨_, rfl, HE.out⟩
end Go.Proofs
