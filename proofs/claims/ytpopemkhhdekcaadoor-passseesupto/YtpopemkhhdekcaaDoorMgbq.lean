/-
  Several texts in one (Ed Eh Ee).
-/
import Derived.RangeFuncNested
import Derived.RangeFuncBound
import Derived.RangeFuncCalls
import Derived.RangeFuncLeaves
import Derived.Shelf.Abstract
import Derived.Shelf.RegionOpen
import Derived.WalkKit
import Derived.WalkSpells
import Derived.WalkLawsBesides
import Derived.OwnWalkIn
import Derived.TacticsInMore
import Derived.LoopNIn
import Derived.LoopIn
import Derived.BigQuiet
import Derived.RegionIn
import Derived.Deep.QuietTactic
import Derived.Deep.RegionWith
import Derived.Lib.OthersKept
import Derived.Maps.AppendAt
import Derived.Lib.SmallJoins
import Derived.Shelf.SlSortCmp.QuietGrown
import Derived.Test.YtpopemkhhdekcaaDoorMgaq
namespace Go.Proofs
open Go.RowKit Go.Shelf

set_option maxRecDepth 100000
attribute [local go_sem] Oper.semAt_some
attribute [local go_sem ↓] Go.wp_at_zero Go.wp_at_succ
/-- one block turns -/
def Turns (B : Nat) (W W' : World) : Prop := ∀ b, b ≠ B → W'.heap[b]? = W.heap[b]?
theorem turns_set (W : World) (B j : Nat) (u : Value) : Turns B W (W.setCell ⟨B, j, none⟩ u) := fun b hb => by
  show (W.heap.modify B _)[b]? = _
  rw [Array.getElem?_modify, if_neg (fun e => hb e.symm)]
theorem set_heap {W : World} {B j : Nat} {u : Value} {cs : Array Value} {t : TypeId} {m : Nat × Nat} (h : W.heap[B]? = some (.cells cs t m)) : (W.setCell ⟨B, j, none⟩ u).heap[B]? = some (.cells (cs.setIfInBounds j u) t m) := by
  show (W.heap.modify B _)[B]? = _
  rw [Array.getElem?_modify, if_pos rfl, h]
  rfl
theorem cell_of {W : World} {B j : Nat} {cs : Array Value} {t : TypeId} {m : Nat × Nat} (h : W.heap[B]? = some (.cells cs t m)) : W.cell? ⟨B, j, none⟩ = cs[j]? := by
  simp [World.cell?, h]
theorem cell_same {W W' : World} {B j : Nat} (h : W'.heap[B]? = W.heap[B]?) : W'.cell? ⟨B, j, none⟩ = W.cell? ⟨B, j, none⟩ := by
  simp [World.cell?, h]
theorem ne_obj {W : World} {a b : Nat} {o o' : Obj} (h1 : W.heap[a]? = some o) (h2 : W.heap[b]? = some o') (hne : o ≠ o') : a ≠ b := fun e => by
  subst e
  rw [h1] at h2
  injection h2 with h2
  exact hne h2
/-- a set that stays while blocks of other kinds turn -/
def UR (W : World) (base : Nat) (v : Value) (l : List (Int × Int)) : Prop :=
  ∃ (a : Option Addr) (cap : Nat), v = .slice a l.length cap ∧ l.length ≤ cap ∧ (l = [] ∨ ∃ g o, a = some ⟨g, o, none⟩ ∧ Reads W g o l ∧ (g < base ∨ ∃ cs m, W.heap[g]? = some (.cells cs 92 m)))
theorem UR.rs {W : World} {base : Nat} {v : Value} {l : List (Int × Int)} (h : UR W base v l) : Rs W v l := by
  obtain ⟨a, cap, h1, h2, h3⟩ := h
  exact ⟨a, cap, h1, h2, h3.imp id fun ⟨g, o, h4, h5, _⟩ => ⟨g, o, h4, h5⟩⟩
theorem UR.turn {W W' : World} {base B : Nat} {v : Value} {l : List (Int × Int)} {o : Obj} (h : UR W base v l) (hB : base ≤ B) (ho : W.heap[B]? = some o) (hn : ∀ cs m, o ≠ .cells cs 92 m) (k : Turns B W W') : UR W' base v l := by
  obtain ⟨a, cap, h1, h2, h3⟩ := h
  refine ⟨a, cap, h1, h2, h3.imp id ?_⟩
  rintro ⟨g, o', h4, h5, h6⟩
  have hne : g ≠ B := by
    rcases h6 with h6 | ⟨cs, m, h6⟩
    · omega
    · exact ne_obj h6 ho (fun e => hn cs m e.symm)
  refine ⟨g, o', h4, fun j hj => ?_, h6.imp id fun ⟨cs, m, h6⟩ => ⟨cs, m, (k g hne).trans h6⟩⟩
  rw [cell_same (k g hne), cell_same (k g hne)]
  exact h5 j hj
theorem UR.below {W W' : World} {base : Nat} {v : Value} {l : List (Int × Int)} (h : UR W base v l) (hb : Below W.heap.size W W') : UR W' base v l := by
  obtain ⟨a, cap, h1, h2, h3⟩ := h
  refine ⟨a, cap, h1, h2, ?_⟩
  by_cases hl : l = []
  · exact .inl hl
  · obtain ⟨g, o, h4, h5, h6⟩ := h3.resolve_left hl
    have hg := h5.lt hl
    refine .inr ⟨g, o, h4, h5.below hb hg, h6.imp id fun ⟨cs, m, h6⟩ => ⟨cs, m, (hb.block g hg).trans h6⟩⟩
/-- numbers of pieces in a row that stays -/
def LnR (W : World) (base ga : Nat) (v : Value) (l : List Nat) : Prop :=
  ∃ (a : Option Addr) (cap : Nat), v = .slice a l.length cap ∧ l.length ≤ cap ∧ (l = [] ∨ ∃ g cs m, a = some ⟨g, 0, none⟩ ∧ base ≤ g ∧ g ≠ ga ∧ W.heap[g]? = some (.cells cs 3 m) ∧ ∀ (j : Nat) (h : j < l.length), W.cell? ⟨g, j, none⟩ = some (.int .i64 (l[j] : Nat)))
theorem LnR.turn {W W' : World} {base ga B : Nat} {v : Value} {l : List Nat} {o : Obj} (h : LnR W base ga v l) (ho : W.heap[B]? = some o) (hn : B = ga ∨ ∀ cs m, o ≠ .cells cs 3 m) (k : Turns B W W') : LnR W' base ga v l := by
  obtain ⟨a, cap, h1, h2, h3⟩ := h
  refine ⟨a, cap, h1, h2, h3.imp id ?_⟩
  rintro ⟨g, cs, m, h4, h5, h6, h7, h8⟩
  have hne : g ≠ B := by
    rcases hn with e | hn
    · rw [e]; exact h6
    · exact ne_obj h7 ho (fun e => hn cs m e.symm)
  refine ⟨g, cs, m, h4, h5, h6, (k g hne).trans h7, fun j hj => ?_⟩
  rw [cell_same (k g hne)]
  exact h8 j hj
theorem LnR.below {W W' : World} {base ga : Nat} {v : Value} {l : List Nat} (h : LnR W base ga v l) (hb : Below W.heap.size W W') : LnR W' base ga v l := by
  obtain ⟨a, cap, h1, h2, h3⟩ := h
  refine ⟨a, cap, h1, h2, h3.imp id ?_⟩
  rintro ⟨g, cs, m, h4, h5, h6, h7, h8⟩
  have hg : g < W.heap.size := (Array.getElem?_eq_some_iff.1 h7).1
  have he := hb.block g hg
  exact ⟨g, cs, m, h4, h5, h6, he.trans h7, fun j hj => (cell_same he).trans (h8 j hj)⟩
/-- the pieces' row -/
def BK (W : World) (base : Nat) (v : Value) (bk : List Pb) (uvs : List Value) : Prop :=
  uvs.length = bk.length ∧ ∃ (a : Option Addr) (cap : Nat), v = .slice a bk.length cap ∧ bk.length ≤ cap ∧ (bk = [] ∨ ∃ gb cs, a = some ⟨gb, 0, none⟩ ∧ base ≤ gb ∧ W.heap[gb]? = some (.cells cs 150 (0, 0)) ∧ ∀ (j : Nat) (h : j < bk.length) (h' : j < uvs.length), W.cell? ⟨gb, j * 3, none⟩ = some (.int .i64 (bk[j].r : Nat)) ∧ W.cell? ⟨gb, j * 3 + 1, none⟩ = some uvs[j] ∧ W.cell? ⟨gb, j * 3 + 2, none⟩ = some (.int .i64 bk[j].wt))
theorem BK.turn {W W' : World} {base B : Nat} {v : Value} {bk : List Pb} {uvs : List Value} {o : Obj} (h : BK W base v bk uvs) (ho : W.heap[B]? = some o) (hn : ∀ cs m, o ≠ .cells cs 150 m) (k : Turns B W W') : BK W' base v bk uvs := by
  obtain ⟨h0, a, cap, h1, h2, h3⟩ := h
  refine ⟨h0, a, cap, h1, h2, h3.imp id ?_⟩
  rintro ⟨gb, cs, h4, h5, h6, h7⟩
  have hne : gb ≠ B := ne_obj h6 ho (fun e => hn cs _ e.symm)
  refine ⟨gb, cs, h4, h5, (k gb hne).trans h6, fun j hj hj' => ?_⟩
  rw [cell_same (k gb hne), cell_same (k gb hne), cell_same (k gb hne)]
  exact h7 j hj hj'
theorem BK.below {W W' : World} {base : Nat} {v : Value} {bk : List Pb} {uvs : List Value} (h : BK W base v bk uvs) (hb : Below W.heap.size W W') : BK W' base v bk uvs := by
  obtain ⟨h0, a, cap, h1, h2, h3⟩ := h
  refine ⟨h0, a, cap, h1, h2, h3.imp id ?_⟩
  rintro ⟨gb, cs, h4, h5, h6, h7⟩
  have he := hb.block gb (Array.getElem?_eq_some_iff.1 h6).1
  refine ⟨gb, cs, h4, h5, he.trans h6, fun j hj hj' => ?_⟩
  rw [cell_same he, cell_same he, cell_same he]
  exact h7 j hj hj'
/-- the weights' map -/
def wsF (ws : List Int) : Int → Option Value := fun k => if 0 ≤ k ∧ k.toNat < ws.length then some (.int .i64 (at0 ws k.toNat)) else none
theorem wsF_nat {ws : List Int} {n : Nat} (h : n < ws.length) : wsF ws (n : Int) = some (.int .i64 (at0 ws n)) := by
  unfold wsF
  rw [if_pos ⟨by omega, by simpa using h⟩]
  simp
theorem wsF_set {ws : List Int} {n : Nat} (h : n < ws.length) (x : Int) : updM (wsF ws) n (.int .i64 x) = wsF (ws.set n x) := by
  funext k
  unfold updM wsF
  by_cases e : k = (n : Int)
  · subst e
    rw [if_pos rfl, if_pos ⟨by omega, by simpa using h⟩]
    simp [at0_set h]
  · rw [if_neg e]
    simp only [List.length_set]
    by_cases hk : 0 ≤ k ∧ k.toNat < ws.length
    · rw [if_pos hk, if_pos hk, at0_set h, if_neg (by omega)]
    · rw [if_neg hk, if_neg hk]
theorem wsF_snoc (ws : List Int) (x : Int) : updM (wsF ws) (ws.length : Nat) (.int .i64 x) = wsF (ws ++ [x]) := by
  funext k
  unfold updM wsF
  by_cases e : k = (ws.length : Int)
  · subst e
    rw [if_pos rfl, if_pos ⟨by omega, by simp⟩]
    simp [at0]
  · rw [if_neg e]
    by_cases hk : 0 ≤ k ∧ k.toNat < ws.length
    · rw [if_pos hk, if_pos ⟨hk.1, by simp; omega⟩]
      simp [at0, List.getElem?_append_left hk.2]
    · rw [if_neg hk, if_neg (by simp; omega)]
/-- the scale -/
structure Sc (W w0 : World) (sp m1 ga m2 N1 N2 : Nat) (bv : Value) (uvs : List Value) (rv : Value) (rs : List Rl) (st : St) (ln : Int → Option Value) : Prop where
  blk : W.heap[sp]? = some (.cells #[rv, .map (some m1), .slice (some ⟨ga, 0, none⟩) st.aq.length st.aq.length, bv, .map (some m2)] 147 (0, 0))
  bel : Below w0.heap.size w0 W
  rul : PsR w0 rv rs
  bsp : w0.heap.size ≤ sp
  bm1 : w0.heap.size ≤ m1
  bga : w0.heap.size ≤ ga
  bm2 : w0.heap.size ≤ m2
  m12 : m1 ≠ m2
  wm : IMap W m1 N1 (wsF st.ws)
  asb : W.heap[ga]? = some (.cells (ints st.aq).toArray 3 (0, 0))
  bkr : BK W w0.heap.size bv st.bk uvs
  urs : ∀ (j : Nat) (h : j < st.bk.length) (h' : j < uvs.length), UR W w0.heap.size uvs[j] st.bk[j].us
  lnm : IMap W m2 N2 ln
  lnr : ∀ k v, ln k = some v → 0 ≤ k ∧ LnR W w0.heap.size ga v (leanL rs st.bk k.toNat)
section
variable {W W' w0 : World} {sp m1 ga m2 N1 N2 : Nat} {bv : Value} {uvs : List Value} {rv : Value} {rs : List Rl} {st : St} {ln : Int → Option Value}
theorem Sc.below (h : Sc W w0 sp m1 ga m2 N1 N2 bv uvs rv rs st ln) (hb : Below W.heap.size W W') : Sc W' w0 sp m1 ga m2 N1 N2 bv uvs rv rs st ln := by
  have hl : ∀ {b : Nat} {o : Obj}, W.heap[b]? = some o → W'.heap[b]? = some o := fun {b o} ho => (hb.block b (Array.getElem?_eq_some_iff.1 ho).1).trans ho
  exact ⟨hl h.blk, h.bel.trans (hb.mono h.bel.size), h.rul, h.bsp, h.bm1, h.bga, h.bm2, h.m12, h.wm.kept (fun o ho => hl ho), hl h.asb, h.bkr.below hb, fun j a b => (h.urs j a b).below hb, h.lnm.kept (fun o ho => hl ho), fun k v e => ⟨(h.lnr k v e).1, (h.lnr k v e).2.below hb⟩⟩
theorem Sc.grown (h : Sc W w0 sp m1 ga m2 N1 N2 bv uvs rv rs st ln) (hb : Grown W W') : Sc W' w0 sp m1 ga m2 N1 N2 bv uvs rv rs st ln := h.below hb.below
theorem Sc.mono (h : Sc W w0 sp m1 ga m2 N1 N2 bv uvs rv rs st ln) {K1 K2 : Nat} (h1 : N1 ≤ K1) (h2 : N2 ≤ K2) : Sc W w0 sp m1 ga m2 K1 K2 bv uvs rv rs st ln :=
  ⟨h.blk, h.bel, h.rul, h.bsp, h.bm1, h.bga, h.bm2, h.m12, h.wm.mono h1, h.asb, h.bkr, h.urs, h.lnm.mono h2, h.lnr⟩
/-- the weights' map turns -/
theorem Sc.turn1 (h : Sc W w0 sp m1 ga m2 N1 N2 bv uvs rv rs st ln) {K : Nat} {ws : List Int} (ht : W.mapTurned W' m1) (hm : IMap W' m1 K (wsF ws)) : Sc W' w0 sp m1 ga m2 K N2 bv uvs rv rs ⟨ws, st.aq, st.bk⟩ ln := by
  obtain ⟨es, c, ho⟩ := h.wm.isMap
  have hk : Turns m1 W W' := fun b hb => turned_other ht hb
  have e1 : sp ≠ m1 := ne_obj h.blk ho (by simp)
  have e2 : ga ≠ m1 := ne_obj h.asb ho (by simp)
  exact ⟨(hk _ e1).trans h.blk, h.bel.trans ((turned_below ht h.bm1)), h.rul, h.bsp, h.bm1, h.bga, h.bm2, h.m12, hm, (hk _ e2).trans h.asb, h.bkr.turn ho (by simp) hk, fun j a b => (h.urs j a b).turn h.bm1 ho (by simp) hk, h.lnm.kept (fun o hb => (hk _ (fun e => h.m12 e.symm)).trans hb), fun k v e => ⟨(h.lnr k v e).1, (h.lnr k v e).2.turn ho (.inr (by simp)) hk⟩⟩
/-- what is asked turns -/
theorem Sc.turn2 (h : Sc W w0 sp m1 ga m2 N1 N2 bv uvs rv rs st ln) (i : Nat) (x : Int) : Sc (W.setCell ⟨ga, i, none⟩ (.int .i64 x)) w0 sp m1 ga m2 N1 N2 bv uvs rv rs ⟨st.ws, st.aq.set i x, st.bk⟩ ln := by
  have hk := turns_set W ga i (.int .i64 x)
  obtain ⟨es, c, ho1⟩ := h.wm.isMap
  obtain ⟨es2, c2, ho2⟩ := h.lnm.isMap
  have e1 : sp ≠ ga := ne_obj h.blk h.asb (by simp)
  have e2 : m1 ≠ ga := ne_obj ho1 h.asb (by simp)
  have e3 : m2 ≠ ga := ne_obj ho2 h.asb (by simp)
  refine ⟨?_, h.bel.setCell h.bga _, h.rul, h.bsp, h.bm1, h.bga, h.bm2, h.m12, h.wm.kept (fun o hb => (hk _ e2).trans hb), ?_, h.bkr.turn h.asb (by simp) hk, fun j a b => (h.urs j a b).turn h.bga h.asb (by simp) hk, h.lnm.kept (fun o hb => (hk _ e3).trans hb), fun k v e => ⟨(h.lnr k v e).1, (h.lnr k v e).2.turn h.asb (.inl rfl) hk⟩⟩
  · rw [hk _ e1, h.blk]; simp
  · rw [set_heap h.asb]
    congr 2
    simp [ints, List.map_set]
/-- a piece's weight turns -/
theorem Sc.turn3 (h : Sc W w0 sp m1 ga m2 N1 N2 bv uvs rv rs st ln) {i gb n cap : Nat} (hv : bv = .slice (some ⟨gb, 0, none⟩) n cap) {b : Pb} (hb : st.bk[i]? = some b) (x : Int) : Sc (W.setCell ⟨gb, i * 3 + 2, none⟩ (.int .i64 x)) w0 sp m1 ga m2 N1 N2 bv uvs rv rs ⟨st.ws, st.aq, st.bk.set i ⟨b.r, b.us, x⟩⟩ ln := by
  have hk := turns_set W gb (i * 3 + 2) (.int .i64 x)
  obtain ⟨hi, hbi⟩ := List.getElem?_eq_some_iff.1 hb
  obtain ⟨es, c, ho1⟩ := h.wm.isMap
  obtain ⟨es2, c2, ho2⟩ := h.lnm.isMap
  obtain ⟨k0, a, cp, k1, k2, k3⟩ := h.bkr
  obtain ⟨gb', cs, k4, k5, k6, k7⟩ := k3.resolve_left (fun e => by rw [e] at hi; simp at hi)
  subst k4
  rw [hv] at k1
  injection k1 with q1 q2 q3
  injection q1 with q1
  injection q1 with q1
  subst q1
  have e1 : sp ≠ gb := ne_obj h.blk k6 (by simp)
  have e2 : m1 ≠ gb := ne_obj ho1 k6 (by simp)
  have e3 : m2 ≠ gb := ne_obj ho2 k6 (by simp)
  have e4 : ga ≠ gb := ne_obj h.asb k6 (by simp)
  have hcell : ∀ j, (W.setCell ⟨gb, i * 3 + 2, none⟩ (.int .i64 x)).cell? ⟨gb, j, none⟩ = if j = i * 3 + 2 then some (.int .i64 x) else W.cell? ⟨gb, j, none⟩ := fun j => by
    rw [cell_of (set_heap k6), cell_of k6]
    have hsz : i * 3 + 2 < cs.size := by
      have := (k7 i hi (by omega)).2.2
      rw [cell_of k6] at this
      exact (Array.getElem?_eq_some_iff.1 this).1
    rw [Array.getElem?_setIfInBounds]
    by_cases e : i * 3 + 2 = j
    · rw [if_pos e, if_pos e.symm, if_pos (e ▸ hsz)]
    · rw [if_neg e, if_neg (fun q => e q.symm)]
  have hus : (st.bk.set i ⟨b.r, b.us, x⟩).map Pb.us = st.bk.map Pb.us := map_us_set hb
  refine ⟨?_, h.bel.setCell k5 _, h.rul, h.bsp, h.bm1, h.bga, h.bm2, h.m12, h.wm.kept (fun o hb => (hk _ e2).trans hb), (hk _ e4).trans h.asb, ⟨by simpa using k0, _, cp, by rw [hv, q2, q3]; simp, by simpa using k2, .inr ⟨gb, _, rfl, k5, set_heap k6, fun j hj hj' => ?_⟩⟩, fun j hj hj' => ?_, h.lnm.kept (fun o hb => (hk _ e3).trans hb), fun k v e => ⟨(h.lnr k v e).1, ?_⟩⟩
  · rw [hk _ e1, h.blk]
  · simp only [List.length_set] at hj
    obtain ⟨c1, c2, c3⟩ := k7 j hj hj'
    rw [hcell, hcell, hcell, if_neg (by omega), if_neg (by omega)]
    simp only [List.getElem_set]
    by_cases e : i = j
    · subst e
      rw [hbi] at c1
      rw [if_pos rfl, if_pos rfl]
      exact ⟨c1, c2, rfl⟩
    · rw [if_neg e, if_neg (by omega)]
      exact ⟨c1, c2, c3⟩
  · simp only [List.length_set] at hj
    have := (h.urs j hj hj').turn k5 k6 (by simp) hk
    simp only [List.getElem_set]
    by_cases e : i = j
    · subst e
      rw [if_pos rfl]
      rw [hbi] at this
      exact this
    · rw [if_neg e]; exact this
  · rw [leanL_eq hus]
    exact (h.lnr k v e).2.turn k6 (.inr (by simp)) hk
/-- which pieces lean on a rule is written down -/
theorem Sc.turn4 (h : Sc W w0 sp m1 ga m2 N1 N2 bv uvs rv rs st ln) {K n : Nat} {v : Value} (ht : W.mapTurned W' m2) (hm : IMap W' m2 K (updM ln n v)) (hv : LnR W w0.heap.size ga v (leanL rs st.bk n)) : Sc W' w0 sp m1 ga m2 N1 K bv uvs rv rs st (updM ln n v) := by
  obtain ⟨es, c, ho⟩ := h.lnm.isMap
  have hk : Turns m2 W W' := fun b hb => turned_other ht hb
  have e1 : sp ≠ m2 := ne_obj h.blk ho (by simp)
  have e2 : ga ≠ m2 := ne_obj h.asb ho (by simp)
  refine ⟨(hk _ e1).trans h.blk, h.bel.trans ((turned_below ht h.bm2)), h.rul, h.bsp, h.bm1, h.bga, h.bm2, h.m12, h.wm.kept (fun o hb => (hk _ h.m12).trans hb), (hk _ e2).trans h.asb, h.bkr.turn ho (by simp) hk, fun j a b => (h.urs j a b).turn h.bm2 ho (by simp) hk, hm, fun k u e => ?_⟩
  unfold updM at e
  by_cases ek : k = (n : Int)
  · rw [if_pos ek] at e
    cases e
    subst ek
    exact ⟨by omega, by simpa using hv.turn ho (.inr (by simp)) hk⟩
  · rw [if_neg ek] at e
    exact ⟨(h.lnr k u e).1, (h.lnr k u e).2.turn ho (.inr (by simp)) hk⟩
end
/-- what a rule puts back -/
def backP (r : Rl) : List Pc := r.res.drop r.cu.toNat
/-- the units that a piece may be -/
def mayB (p : Pc) : List (Int × Int) := if p.k = 3 then p.tl else [(p.u, p.u)]
set_option maxHeartbeats 1000000 in
theorem mayBe_any (p : Pc) (tv : Value) (w : World) (base : Nat) (ht : UR w base tv p.tl) : Calls Tryd.prog 84 #[.agg #[.int .i64 p.k, .int .i64 p.u, .int .i64 p.y, tv]] w fun e w' => ∃ v, e = .returned v ∧ UR w' base v (mayB p) ∧ Grown w w' := by
  have HT : Hid (UR w base tv p.tl) := ht
  obtain ⟨ta, tc, rfl, _, _⟩ := ht
  obtain ⟨tn, htn⟩ : ∃ tn, p.tl.length = tn := ⟨_, rfl⟩
  rw [htn] at HT ⊢
  obtain ⟨pk, hpk⟩ : ∃ pk, p.k = pk := ⟨_, rfl⟩
  obtain ⟨pu, hpu⟩ : ∃ pu, p.u = pu := ⟨_, rfl⟩
  have HM : Hid (mayB p = if pk = 3 then p.tl else [(pu, pu)]) := by show _ = _; unfold mayB; rw [hpk, hpu]
  rw [hpk, hpu]
  clear hpk hpu htn
  by_cases h : pk = 3
  · subst h
    go_enter Tryd.func84, Tryd.ntmps84
    go_wp2
    refine bodyPost_ret (v := .slice ta tn tc) (by simp [results, Tryd.f84, go_sem]) rfl ⟨_, rfl, ?_, (Grown.refl _).alloc _⟩
    rw [HM.out]
    simp only [if_true]
    exact HT.out.below ((Grown.refl _).alloc _).below
  · have h' : (pk == 3) = false := by simpa using h
    go_enter Tryd.func84, Tryd.ntmps84
    go_wp2
    refine bodyPost_ret (v := .slice (some ⟨w.heap.size + 1, 0, none⟩) 1 1) (by simp [results, Tryd.f84, go_sem]) rfl ⟨_, rfl, ?_, ((Grown.refl _).alloc _).alloc _⟩
    rw [HM.out, if_neg h]
    refine ⟨_, 1, rfl, Nat.le_refl _, .inr ⟨w.heap.size + 1, 0, rfl, fun j hj => ?_, .inr ⟨#[.int .i64 pu, .int .i64 pu], (0, 0), ?_⟩⟩⟩
    · have : j = 0 := by simp at hj; omega
      subst this
      simp [rg]
    · have := heap_alloc_new (w.alloc (.cells #[.int .i64 pk, .int .i64 pu, .int .i64 p.y, .slice ta tn tc] 59)) (.cells #[.int .i64 pu, .int .i64 pu] 92)
      simpa using this
set_option maxHeartbeats 1000000 in
theorem putBack_some (bg en : Bool) (a1 a2 a3 : Option Addr) (n1 c1 n2 c2 n3 c3 g o n c : Nat) (cu : Nat) (w : World) (hcu : cu ≤ n) (hn : n ≤ c) : Calls Tryd.prog 83 #[.agg #[.bool bg, .slice a1 n1 c1, .slice a2 n2 c2, .slice a3 n3 c3, .bool en, .slice (some ⟨g, o, none⟩) n c, .int .i64 cu]] w fun e w' => ∃ a', e = .returned (.slice a' (n - cu) (c - cu)) ∧ (n - cu = 0 ∨ a' = some ⟨g, o + cu * 4, none⟩) ∧ Grown w w' := by
  have h0 : (0 : Int) ≤ (cu : Int) := by omega
  have h1 : (cu : Int) ≤ (n : Int) := by omega
  have h2 : (n : Int) ≤ (c : Int) := by omega
  go_enter Tryd.func83, Tryd.ntmps83
  go_wp2
  · exact bodyPost_ret (v := .slice (some ⟨g, o, none⟩) (n - cu) 0) (by simp [results, Tryd.f83, go_sem]) rfl ⟨_, rfl, .inl (by omega), (Grown.refl _).alloc _⟩
  · exact bodyPost_ret (v := .slice (some ⟨g, o + cu * 4, none⟩) (n - cu) (c - cu)) (by simp [results, Tryd.f83, go_sem]) rfl ⟨_, rfl, .inr rfl, (Grown.refl _).alloc _⟩
set_option maxHeartbeats 1000000 in
theorem putBack_nil (bg en : Bool) (a1 a2 a3 : Option Addr) (n1 c1 n2 c2 n3 c3 c : Nat) (a : Option Addr) (w : World) : Calls Tryd.prog 83 #[.agg #[.bool bg, .slice a1 n1 c1, .slice a2 n2 c2, .slice a3 n3 c3, .bool en, .slice a 0 c, .int .i64 0]] w fun e w' => ∃ a' c', e = .returned (.slice a' 0 c') ∧ Grown w w' := by
  go_enter Tryd.func83, Tryd.ntmps83
  go_wp2
  exact bodyPost_ret (v := .slice a 0 c) (by simp [results, Tryd.f83, go_sem]) rfl ⟨_, _, rfl, (Grown.refl _).alloc _⟩
theorem putBack_any (r : Rl) (av kv pv rv : Value) (w w0 : World) (h : RR w0 av kv pv rv r) (hc : 0 ≤ r.cu) (hc2 : r.cu ≤ r.res.length) : Calls Tryd.prog 83 #[.agg #[.bool r.bg, av, kv, pv, .bool r.en, rv, .int .i64 r.cu]] w fun e w' => ∃ v, e = .returned v ∧ PR w0 v (backP r) ∧ Grown w w' := by
  obtain ⟨a1, n1, c1, rfl⟩ := h.a.sl
  obtain ⟨a2, n2, c2, rfl⟩ := h.k.sl
  obtain ⟨a3, n3, c3, rfl⟩ := h.p.sl
  obtain ⟨a, c, rfl, hcap, hr⟩ := h.r
  obtain ⟨cu, hcu⟩ : ∃ cu : Nat, r.cu = cu := ⟨r.cu.toNat, by omega⟩
  have hB : backP r = r.res.drop cu := by unfold backP; rw [hcu]; simp
  rw [hcu] at hc2 ⊢
  rw [hB]
  by_cases hn : r.res = []
  · rw [hn] at hc2 ⊢
    have : cu = 0 := by simp at hc2; omega
    subst this
    refine (putBack_nil _ _ _ _ _ _ _ _ _ _ _ _ _ w).mono ?_
    rintro e w' ⟨a', c', rfl, hg⟩
    exact ⟨_, rfl, ⟨a', c', by simp, by simp, .inl (by simp)⟩, hg⟩
  · obtain ⟨g, o, rfl, hd⟩ := hr.resolve_left hn
    refine (putBack_some _ _ _ _ _ _ _ _ _ _ _ g o _ c cu w (by omega) hcap).mono ?_
    rintro e w' ⟨a', rfl, ha, hg⟩
    refine ⟨_, rfl, ⟨a', c - cu, by simp, by simp; omega, ?_⟩, hg⟩
    by_cases hz : r.res.length - cu = 0
    · exact .inl (List.drop_eq_nil_of_le (by omega))
    · refine .inr ⟨g, o + cu * 4, ha.resolve_left hz, fun j hj => ?_⟩
      have hj' : cu + j < r.res.length := by simp at hj; omega
      have := hd (cu + j) hj'
      rw [List.getElem_drop, show o + cu * 4 + j * 4 = o + (cu + j) * 4 by omega]
      exact this
theorem Rs.ur {w0 W : World} {v : Value} {l : List (Int × Int)} (h : Rs w0 v l) (hb : Below w0.heap.size w0 W) : UR W w0.heap.size v l := by
  obtain ⟨a, cap, h1, h2, h3⟩ := h
  refine ⟨a, cap, h1, h2, ?_⟩
  by_cases hl : l = []
  · exact .inl hl
  · obtain ⟨g, o, h4, h5⟩ := h3.resolve_left hl
    have hg := h5.lt hl
    exact .inr ⟨g, o, h4, h5.below hb hg, .inl hg⟩
/-- the pieces of a rule for the scale -/
def pbs (n : Nat) : List Pc → List Pb
  | [] => []
  | p :: l => if p.k = 2 then pbs n l else ⟨n, mayB p, 1⟩ :: pbs n l
theorem pbs_snoc (n : Nat) (l : List Pc) (p : Pc) : pbs n (l ++ [p]) = pbs n l ++ (if p.k = 2 then [] else [⟨n, mayB p, 1⟩]) := by
  induction l with
  | nil => simp [pbs]
  | cons q l ih =>
    simp only [List.cons_append, pbs, ih]
    split <;> simp
theorem pbs_len (n : Nat) (l : List Pc) : (pbs n l).length ≤ l.length := by
  induction l with
  | nil => simp [pbs]
  | cons q l ih =>
    simp only [pbs]
    split <;> simp <;> omega
/-- the first k rules' pieces -/
def bkI (rs : List Rl) : Nat → List Pb
  | 0 => []
  | k + 1 => bkI rs k ++ pbs k ((rs[k]?.map backP).getD [])
def askI (r : Rl) : Int := 2 - (r.key.length : Int) + ((backP r).length : Int)
theorem bkI_len {rs : List Rl} (h : ∀ r ∈ rs, r.res.length ≤ 16) : ∀ k, (bkI rs k).length ≤ 16 * k
  | 0 => by simp [bkI]
  | k + 1 => by
    have h1 := bkI_len h k
    have h2 := pbs_len k ((rs[k]?.map backP).getD [])
    have h3 : ((rs[k]?.map backP).getD []).length ≤ 16 := by
      cases hk : rs[k]? with
      | none => simp
      | some r =>
        have := h r (List.mem_of_getElem? hk)
        simp [backP]; omega
    simp only [bkI, List.length_append]
    omega
theorem zero3 (w : World) : (zeroValue 3).run Tryd.prog w = .ok (.int .i64 0) w := by kernel_rfl
theorem zero40 (w : World) : (zeroValue 72).run Tryd.prog w = .ok (.slice none 0 0) w := by kernel_rfl
/-- what leans on a rule among the first k pieces -/
def leanK (rs : List Rl) (bk : List Pb) (n k : Nat) : List Nat := (List.range k).filter fun i => touchL (fstS rs n) (usAt bk i)
theorem leanK_succ (rs : List Rl) (bk : List Pb) (n k : Nat) : leanK rs bk n (k + 1) = leanK rs bk n k ++ (if touchL (fstS rs n) (usAt bk k) then [k] else []) := by
  unfold leanK
  rw [List.range_succ, List.filter_append]
  congr 1
  simp [List.filter_cons]
theorem leanK_all (rs : List Rl) (bk : List Pb) (n : Nat) : leanK rs bk n bk.length = leanL rs bk n := rfl
theorem leanK_len (rs : List Rl) (bk : List Pb) (n k : Nat) : (leanK rs bk n k).length ≤ k := by
  unfold leanK
  exact Nat.le_trans (List.length_filter_le _ _) (by simp)
def toI (l : List Nat) : List Int := l.map fun x : Nat => (x : Int)
theorem toI_append (l k : List Nat) : toI (l ++ k) = toI l ++ toI k := by simp [toI]
theorem OwnI.lnr {W : World} {B base ga : Nat} {v : Value} {l : List Nat} (h : OwnI W B v (toI l)) (hb : base ≤ B) (hg : ga < B) : LnR W base ga v l := by
  have hlen : (toI l).length = l.length := by simp [toI]
  rcases h.2 with ⟨rfl, h0⟩ | ⟨g, cap, cur, rfl, h1, h2, h3, _⟩
  · have : l = [] := List.eq_nil_of_length_eq_zero (by omega)
    subst this
    exact ⟨none, 0, rfl, Nat.le_refl _, .inl rfl⟩
  · refine ⟨_, cap, by rw [hlen], by omega, .inr ⟨g, cur, (0, 0), rfl, by omega, by omega, h2, fun j hj => ?_⟩⟩
    have := World.ownsRow.cells h rfl j (.int .i64 (l[j] : Nat)) (by simp [ints, toI, hj])
    rw [add_zero_at] at this
    exact this
/-- rules with a key each -/
structure Kok (rs : List Rl) : Prop where
  k0 : ∀ r ∈ rs, 0 < r.key.length
  k1 : ∀ r ∈ rs, (keyAt r.key 0).length ≤ 512
  n : rs.length ≤ 256
theorem fstS_at {rs : List Rl} {n : Nat} (h : n < rs.length) : fstS rs n = keyAt rs[n].key 0 := by simp [fstS, h]
theorem usAt_at {bk : List Pb} {n : Nat} (h : n < bk.length) : usAt bk n = bk[n].us := by simp [usAt, h]
set_option maxHeartbeats 8000000 in
theorem leaning_any {W w0 : World} {sp m1 ga m2 N1 N2 : Nat} {bv : Value} {uvs : List Value} {rv : Value} {rs : List Rl} {st : St} {ln : Int → Option Value} (n : Nat) (hS : Sc W w0 sp m1 ga m2 N1 N2 bv uvs rv rs st ln) (hn : n < rs.length) (hK : Kok rs) (hu : ∀ b ∈ st.bk, b.us.length ≤ 512) (hbl : st.bk.length ≤ 4096) (hN : N2 < 1000000) :
    Calls Tryd.prog 97 #[.pointer (some ⟨sp, 0, none⟩), .int .i64 n] W fun e w' => ∃ v ln', e = .returned v ∧ LnR w' w0.heap.size ga v (leanL rs st.bk n) ∧ Sc w' w0 sp m1 ga m2 N1 (N2 + 1) bv uvs rv rs st ln' := by
  have hnI : InI (n : Int) := ⟨by omega, by have := hK.n; omega⟩
  have HS : Hid (Sc W w0 sp m1 ga m2 N1 N2 bv uvs rv rs st ln) := hS
  have hL := hS.lnm.look_ok (t := 80) (e := 72) Tryd.underlying80 (zero40 W) hnI
  have d0 : W.cell? ⟨sp, 0, none⟩ = some rv := by rw [cell_of hS.blk]; simp
  have d3 : W.cell? ⟨sp, 3, none⟩ = some bv := by rw [cell_of hS.blk]; simp
  have d4 : W.cell? ⟨sp, 4, none⟩ = some (.map (some m2)) := by rw [cell_of hS.blk]; simp
  have hnI' : (n : Int) ≤ 256 := by have := hK.n; omega
  have hn0 : (0 : Int) ≤ (n : Int) := by omega
  cases hf : ln (n : Int) with
  | some v =>
    rw [hf] at hL
    simp only [Option.getD_some, Option.isSome_some] at hL
    have HV : Hid (LnR W w0.heap.size ga v (leanL rs st.bk n)) := by have := (hS.lnr _ _ hf).2; show LnR _ _ _ _ _; simpa using this
    clear hS hf
    go_enter Tryd.func97, Tryd.ntmps97
    go_wp2
    go_ret
    exact ⟨v, ln, rfl, HV.out, HS.out.mono (Nat.le_refl _) (Nat.le_succ _)⟩
  | none =>
    rw [hf] at hL
    simp only [Option.getD_none, Option.isSome_none] at hL
    have HB : Hid (ga < W.heap.size ∧ w0.heap.size ≤ W.heap.size) := ⟨(Array.getElem?_eq_some_iff.1 hS.asb).1, hS.bel.size⟩
    have HK : Hid (Kok rs) := hK
    have HU : Hid (∀ b ∈ st.bk, b.us.length ≤ 512) := hu
    obtain ⟨q0, ba, bc, hbv, _, hbr⟩ := hS.bkr
    obtain ⟨nb, hnb⟩ : ∃ nb, st.bk.length = nb := ⟨_, rfl⟩
    have HNB : Hid (st.bk.length = nb) := hnb
    have HUL : Hid (uvs.length = nb) := q0.trans hnb
    rw [hnb] at hbv hbl
    have hbl' : (nb : Int) ≤ 4096 := by omega
    subst hbv
    obtain ⟨ra, rc, hrv, _, hrr⟩ := hS.rul
    have HR : Hid (∃ g o, ra = some ⟨g, o, none⟩ ∧ ∀ (j : Nat) (hj : j < rs.length), RAt w0 g (o + j * 7) rs[j]) := hrr.resolve_left (fun e => by rw [e] at hn; simp at hn)
    have HRL : Hid (n < rs.length) := hn
    obtain ⟨nr, hnr⟩ : ∃ nr, rs.length = nr := ⟨_, rfl⟩
    have hnn : (n : Int) < (nr : Int) := by omega
    rw [hnr] at hrv
    subst hrv
    have H0 : Hid (OwnI W W.heap.size (.slice none 0 0) (toI (leanK rs st.bk n 0))) := OwnI.nil _ _
    clear hS hf hbr hrr hn hK hu hnb hnr q0
    go_enter Tryd.func97, Tryd.ntmps97
    go_wp2
    go_loopw [5, 25] (fun vl vi wr => ∃ k : Nat, vi = .int .i64 k ∧ k ≤ nb ∧ Hid (OwnI wr W.heap.size vl (toI (leanK rs st.bk n k))) ∧ Hid (Below W.heap.size W wr)) (fun _ vi _ => nb - (intOf vi).toNat)
    case atStart => exact ⟨0, rfl, by omega, H0, Below.refl _ _⟩
    case round =>
      obtain ⟨k, rfl, hk, HO, HBW⟩ := hrel
      clear H0
      have hk0 : (0 : Int) ≤ (k : Int) := by omega
      by_cases hlt : k < nb
      · have hlt' : (k : Int) < (nb : Int) := by omega
        have hkb : k < st.bk.length := by rw [HNB.out]; exact hlt
        have hku : k < uvs.length := by rw [HUL.out]; exact hlt
        have hSr := HS.out.below HBW.out
        obtain ⟨_, a', c', e', _, hbr⟩ := hSr.bkr
        obtain ⟨gb, cs, ha, _, hgb, hcells⟩ := hbr.resolve_left (fun e => by rw [e] at hkb; simp at hkb)
        injection e' with e1 e2 e3
        clear e2 e3
        rw [ha] at e1
        subst e1
        obtain ⟨c0, c1, c2⟩ := hcells k hkb hku
        obtain ⟨g, o, hra, hRA⟩ := HR.out
        subst hra
        have hnl : n < rs.length := HRL.out
        have hRn := (hRA n hnl).below hSr.bel (Nat.le_refl _)
        obtain ⟨r, hr⟩ : ∃ r, rs[n] = r := ⟨_, rfl⟩
        have hkl := HK.out.k0 _ (List.getElem_mem hnl)
        have hk1 := HK.out.k1 _ (List.getElem_mem hnl)
        have hfs := fstS_at hnl
        rw [hr] at hRn hkl hk1 hfs
        obtain ⟨av, kv, pv, rv', r0, r1, r2, r3, r4, r5, r6, hRR⟩ := hRn
        obtain ⟨ka, kc, hkv, _, hkk⟩ := hRR.k
        obtain ⟨kg, ko, hka, hkd⟩ := hkk.resolve_left (fun e => by rw [e] at hkl; simp at hkl)
        subst hka
        obtain ⟨sv, hs0, hsr⟩ := hkd 0 hkl
        rw [Nat.add_zero] at hs0
        subst hkv
        have hky : keyAt r.key 0 = r.key[0] := by simp [keyAt, hkl]
        rw [hky] at hfs hk1
        have hur := hSr.urs k hkb hku
        have hul := HU.out _ (List.getElem_mem hkb)
        have HT : Hid (∀ wx, Grown wr wx → Calls Tryd.prog 110 #[sv, uvs[k]] wx fun e w' => e = .returned (.bool (touchL (fstS rs n) (usAt st.bk k))) ∧ Grown wx w') := fun wx hx => by
          rw [hfs, usAt_at hkb]
          exact touch_any _ _ _ _ _ (hsr.grown hx) (hur.rs.grown hx) (by omega) (by omega)
        obtain ⟨s1, s2, s3, rfl⟩ := hsr.sl
        obtain ⟨u1, u2, u3, hu4⟩ := hur.rs.sl
        rw [hu4] at c1 HT
        have hkn : (0 : Int) < (r.key.length : Int) := by omega
        clear hSr hbr hgb hcells hRA hRR hkk hkd hsr hur hu4 r0 r1 r3 r4 r5 r6 hky hfs hk1 hul hr hnl
        clear hkl
        generalize r.key.length = kn at *
        generalize (st.bk[k].r : Nat) = xr at *
        generalize st.bk[k].wt = xw at *
        have HKS : Hid (leanK rs st.bk n (k + 1) = leanK rs st.bk n k ++ (if touchL (fstS rs n) (usAt st.bk k) then [k] else [])) := leanK_succ _ _ _ _
        have d0r := (cell_below d0 HBW.out (Nat.le_refl _))
        obtain ⟨tb, htb⟩ : ∃ tb, touchL (fstS rs n) (usAt st.bk k) = tb := ⟨_, rfl⟩
        rw [htb] at HT HKS
        clear htb
        obtain ⟨W5, hW5⟩ : ∃ W5, W5 = wr.alloc (.cells #[.int .i64 xr, .slice u1 u2 u3, .int .i64 xw] 150) := ⟨_, rfl⟩
        have hG5 : Grown wr W5 := by rw [hW5]; exact (Grown.refl _).alloc _
        have p1 : W5.cell? ⟨wr.heap.size, 1, none⟩ = some (.slice u1 u2 u3) := by rw [hW5]; simp
        have f0 := fun m os => (hG5.quiet m os).cellv d0r
        have f1 := fun m os => (hG5.quiet m os).cellv r2
        have f2 := fun m os => (hG5.quiet m os).cellv hs0
        have f3 := fun m os => ((Grown.refl W5).quiet m os).cellv p1
        have HQ : Hid (∀ m os, Grown wr (Go.Sort.grow (W5.drewN m) os)) := fun m os => hG5.quiet m os
        go_wp2
        rw [show wr.alloc (.cells #[.int .i64 xr, .slice u1 u2 u3, .int .i64 xw] 150) = W5 from hW5.symm]
        clear hW5 d0r r2 hs0 p1 c0 c1 c2
        refine wp_region_quiet_grown mixed (by kernel_rfl) ?_
        repeat (go_big_quiet_step ((go_at_call 110; exact grown_of (HT.out _ (HQ.out _ _)))))
        refine wpQuiet_nil ?_
        intro _ hw'
        obtain ⟨⟨nq, osq⟩, hw''⟩ := hw'
        subst hw''
        obtain ⟨w6, hw6⟩ : ∃ w6, w6 = Go.Sort.grow (W5.drewN nq) osq := ⟨_, rfl⟩
        have HG6 : Hid (Grown wr w6) := by rw [hw6]; exact HQ.out _ _
        rw [← hw6]
        clear hw6 HQ f0 f1 f2 f3 hG5 HT
        cases tb with
        | false =>
          have HO2 : Hid (OwnI w6 W.heap.size u5 (toI (leanK rs st.bk n (k + 1)))) := by
            rw [HKS.out]
            simp only [Bool.false_eq_true, if_false, List.append_nil]
            exact HO.out.below HG6.out.below (Nat.le_refl _)
          have HB2 : Hid (Below W.heap.size W w6) := HBW.out.trans (HG6.out.below.mono HBW.out.size)
          go_wp2
          exact ⟨⟨k + 1, by go_num, by omega, HO2, HB2⟩, by simp [intOf]; omega⟩
        | true =>
          have HO2 : Hid (∀ ob, OwnI (w6.alloc ob) W.heap.size u5 (toI (leanK rs st.bk n k))) := fun ob => (HO.out.below HG6.out.below (Nat.le_refl _)).alloc ob
          have HB2 : Hid (∀ ob, Below W.heap.size W (w6.alloc ob)) := fun ob => (HBW.out.trans (HG6.out.below.mono HBW.out.size)).alloc (Nat.le_trans HBW.out.size HG6.out.size) _
          have hlen : (toI (leanK rs st.bk n k)).length ≤ 4096 := by have := leanK_len rs st.bk n k; simp only [toI, List.length_map]; omega
          have HLE : Hid ((toI (leanK rs st.bk n k)).length ≤ 4096) := hlen
          have HSZ : Hid (W.heap.size ≤ w6.heap.size) := Nat.le_trans HBW.out.size HG6.out.size
          clear hlen
          go_wp2_with (at_builtin; go_must (refine push_I rfl _ _ 72 rfl Tryd.underlying72 W.heap.size u5 (toI (leanK rs st.bk n k)) rfl (HO2.out _) w6.heap.size 1 k rfl (by simp) (by have := HLE.out; omega) (by have := HSZ.out; simp; omega) ?_; intro v' w7 hO7 hB7))
          have HO3 : Hid (OwnI w7 W.heap.size v' (toI (leanK rs st.bk n (k + 1)))) := by
            rw [HKS.out, toI_append]
            exact hO7
          exact ⟨⟨k + 1, by go_num, by omega, HO3, (HB2.out _).trans hB7⟩, by simp [intOf]; omega⟩
      · have hge : ¬ (k : Int) < (nb : Int) := by omega
        have hkn : k = nb := by omega
        have HV : Hid (LnR wr w0.heap.size ga u5 (leanL rs st.bk n)) := by
          have := HO.out
          rw [hkn, ← HNB.out, leanK_all] at this
          exact this.lnr HB.out.2 HB.out.1
        have hSr := HS.out.below HBW.out
        obtain ⟨w8, hrun, hI, ht⟩ := hSr.lnm.store (by omega) Tryd.underlying80 hnI u5
        have d4r := cell_below d4 HBW.out (Nat.le_refl _)
        have HF : Hid (LnR w8 w0.heap.size ga u5 (leanL rs st.bk n) ∧ Sc w8 w0 sp m1 ga m2 N1 (N2 + 1) (.slice ba nb bc) uvs (.slice ra nr rc) rs st (updM ln n u5)) := by
          obtain ⟨es, c, ho⟩ := hSr.lnm.isMap
          exact ⟨HV.out.turn ho (.inr (by simp)) (fun b hb => turned_other ht hb), hSr.turn4 ht hI HV.out⟩
        clear hSr hI ht HV HO hkn
        go_wp2
        go_ret
        exact ⟨u5, rfl, HF.out.1, _, HF.out.2⟩
end Go.Proofs
