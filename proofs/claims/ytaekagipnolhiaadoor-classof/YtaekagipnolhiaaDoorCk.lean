/-
  Rows of ranges of the call's own: written into, grown, kept; and a row of sets.
-/
import Derived.RangeFuncNested
import Derived.RangeFuncBound
import Derived.RangeFuncCalls
import Derived.RangeFuncLeaves
import Derived.Shelf.SlSorted.Search
import Derived.Deep.MidRow
import Derived.Maps.OwnSet
import Derived.Maps.OwnOps
import Derived.Shelf.Abstract
import Derived.Shelf.RegionOpen
import Derived.WalkKit
import Derived.WalkSpells
import Derived.WalkLawsBesides
import Derived.OwnWalkIn
import Derived.TacticsInMore
import Derived.LoopNIn
import Derived.LoopIn
import Derived.BigQuiet
import Derived.RegionIn
import Derived.Deep.QuietTactic
import Derived.Deep.RegionWith
import Derived.Lib.OthersKept
import Derived.Maps.AppendAt
import Derived.Lib.SmallJoins
import Derived.Shelf.SlSortCmp.QuietGrown
import Derived.Deep.DrawnRows
import Derived.ArgAppend
import Derived.Test.YtaekagipnolhiaaDoorCw
import Derived.Test.YtaekagipnolhiaaDoorCg
namespace Go.Proofs
open Go.RowKit Go.Shelf

set_option maxRecDepth 100000
attribute [local go_sem] Oper.semAt_some

/-- the set of a name, and the number beside it -/
def spN (s : ByteArray) : List (Int × Int) := match atOf s with | some k => spOf k | none => []
def erN (s : ByteArray) : Int := match atOf s with | some _ => 0 | none => 30
theorem spN_len (s : ByteArray) : (spN s).length ≤ 10 := by
  unfold spN
  cases h : atOf s with
  | none => simp
  | some k => exact sp_len k (atOf_some h).1
theorem of_any (s : ByteArray) (w : World) (hs : s.size ≤ maxLen) : Calls Tryd.prog 8 #[.string s] w fun e w' => ∃ v, e = .returned (.tuple #[v, .int .i64 (erN s)]) ∧ OwnR w' w.heap.size v (spN s) ∧ Below w.heap.size w w' := by
  unfold spN erN
  cases h : atOf s with
  | none => exact (of_none s w hs h).mono fun _ _ ⟨h1, h2⟩ => ⟨_, h1, OwnR.nil _ _, h2⟩
  | some k => exact of_some s k w hs h
theorem rof_any (s : ByteArray) (w : World) : Calls Tryd.prog 9 #[.string s] w fun e w' => ∃ v, e = .returned (.tuple #[v, .int .i64 (erN s)]) ∧ Rs w' v (spN s) ∧ Grown w w' := by
  unfold spN erN
  cases h : atOf s with
  | none => exact (rof_none s w h).mono fun _ _ ⟨h1, h2⟩ => ⟨_, h1, (OwnR.nil _ 0).rs, h2⟩
  | some k => exact rof_some s k w h
/-- a slice value that reads as these ranges, from its block's head on -/
def R0 (w : World) (v : Value) (l : List (Int × Int)) : Prop := ∃ (a : Option Addr) (cap : Nat), v = .slice a l.length cap ∧ l.length ≤ cap ∧ (l = [] ∨ ∃ g, a = some ⟨g, 0, none⟩ ∧ Reads w g 0 l)
theorem OwnR.r0 {w : World} {base : Nat} {v : Value} {l : List (Int × Int)} (h : OwnR w base v l) : R0 w v l := by
  rcases h.2 with ⟨rfl, h0⟩ | ⟨g, cap, cur, rfl, _, _, hc, _⟩
  · have : l = [] := List.eq_nil_of_length_eq_zero h0
    subst this
    exact ⟨none, 0, rfl, Nat.le_refl _, .inl rfl⟩
  · exact ⟨_, cap, rfl, hc, .inr ⟨g, rfl, OwnR.reads h⟩⟩
theorem R0.below {w w' : World} {v : Value} {l : List (Int × Int)} (h : R0 w v l) {n : Nat} (k : Below n w w') (hn : w.heap.size ≤ n) : R0 w' v l := by
  obtain ⟨a, cap, h1, h2, h3⟩ := h
  refine ⟨a, cap, h1, h2, h3.imp id fun ⟨g, e, hr⟩ => ⟨g, e, fun j hj => ?_⟩⟩
  have cellv : ∀ {a : Addr} {v : Value}, w.cell? a = some v → w'.cell? a = some v := fun {a v} hv => by
    obtain ⟨o, ho, _⟩ := cells_of_cell hv
    rw [k.cell (Nat.lt_of_lt_of_le (Array.getElem?_eq_some_iff.1 ho).1 hn)]; exact hv
  exact ⟨cellv (hr j hj).1, cellv (hr j hj).2⟩
theorem Reads.kept {w w' : World} {g o : Nat} {l : List (Int × Int)} {row : Option Nat} (h : Reads w g o l) (k : w.grownBy w' row) (hne : row ≠ some g) : Reads w' g o l := fun j hj => by
  obtain ⟨ob, ho, _⟩ := cells_of_cell (h j hj).1
  have hb := k.block g (Array.getElem?_eq_some_iff.1 ho).1 (fun e => hne e.symm)
  exact ⟨(World.cell?_of_block (w := w) hb).trans (h j hj).1, (World.cell?_of_block (w := w) hb).trans (h j hj).2⟩
theorem R0.kept {w w' : World} {v : Value} {l : List (Int × Int)} {row : Option Nat} (h : R0 w v l) (k : w.grownBy w' row) (hne : l = [] ∨ row ≠ v.ownBlock) : R0 w' v l := by
  obtain ⟨a, cap, rfl, h2, h3⟩ := h
  refine ⟨a, cap, rfl, h2, ?_⟩
  rcases hne with rfl | hne
  · exact .inl rfl
  · exact h3.imp id fun ⟨g, e, hr⟩ => ⟨g, e, hr.kept k (by subst e; exact hne)⟩
theorem rg_prefix {a b : List (Int × Int)} {j : Nat} (h : a <+: b) (hj : j < a.length) : rg b j = rg a j := by
  obtain ⟨c, rfl⟩ := h
  simp only [rg]
  rw [List.getElem?_append_left hj]
/-- one range more behind a row of the call's own: whatever read as its beginning does so still -/
theorem push_keep {ops : Array Oper} {rest : List Oper} {o : Oper} {a : Act} {Q : Exit → Act → World → Prop} {w : World} (hgd : o.guard = none) (s x : Operand)
    (ho : o.op = .call { callee := .builtin .append, args := #[s, x], argTypes := #[25, 25] })
    (base : Nat) (v : Value) (l : List (Int × Int)) (hs : a.eval s = v) (hown : OwnR w base v l) (g c : Nat) (p q : Int) (hx : a.eval x = .slice (some ⟨g, 0, none⟩) 1 c)
    (hp : w.cell? ⟨g, 0, none⟩ = some (.int .i64 p)) (hq : w.cell? ⟨g, 1, none⟩ = some (.int .i64 q)) (hl : l.length + 1 ≤ 8796093022208) (hbase : base ≤ w.heap.size)
    (h : ∀ v' w', OwnR w' base v' (l ++ [(p, q)]) → Below base w w' → (∀ u r, r <+: l → R0 w u r → R0 w' u r) → wpList Tryd.prog ops Q rest (a.put o.dst v') w') : wpList Tryd.prog ops Q (o :: rest) a w := by
  obtain ⟨i0, hi, hz0, hz1, hz2⟩ := info_parts info31
  have hnews : ∀ (j : Nat) (u : Value), (fl [(p, q)])[j]? = some u → w.cell? ((⟨g, 0, none⟩ : Addr).add j) = some u := by
    intro j u hj
    match j, hj with
    | 0, hj => simp [fl] at hj; subst hj; exact hp
    | 1, hj => simp [fl] at hj; subst hj; exact hq
  have grows : ∀ (A : Option Addr) (cap : Nat), v = .slice A l.length cap → (A = none → l.length = 0 ∧ cap = 0) → (∀ b, A = some b → ∀ j u, (fl l)[j]? = some u → w.cell? (b.add j) = some u) → cap < l.length + 1 → wpList Tryd.prog ops Q (o :: rest) a w := by
    intro A cap hv hA hc hcap
    refine wpList_append_grows w hgd s x 25 ho 31 i0 (.agg #[.int .i64 0, .int .i64 0]) 2 16 Tryd.underlying25 hi hz0 hz1 hz2 rfl (by decide) A l.length cap (fl l) (hs.trans hv) hA (fl_length l) hc ⟨g, 0, none⟩ 1 c (fl [(p, q)]) hx rfl hnews (fl_one _) hcap (by unfold maxLen; omega) (by omega) (fun v' w' h2 h3 => ?_)
    refine h v' w' ?_ ((Below.refl _ w).grown h3 hbase (fun k hk => by cases hk)) (fun u r _ hr => hr.kept h3 (by
      by_cases hr0 : r = []
      · exact .inl hr0
      · right
        obtain ⟨A', c', rfl, _, h5⟩ := hr
        obtain ⟨g', rfl, _⟩ := h5.resolve_left hr0
        simp [Value.ownBlock]))
    unfold OwnR
    rw [fl_append, List.length_append]
    exact Joins.ownsRow_le h2 hbase
  rcases hown.2 with ⟨hv, h0⟩ | ⟨g', cap, cur, hv, hg, hh, hc, hm, hsz, ht⟩
  · have hl0 : l = [] := List.eq_nil_of_length_eq_zero h0
    subst hl0
    exact grows none 0 hv (fun _ => ⟨rfl, rfl⟩) (fun b e => by cases e) (by simp)
  · by_cases hroom : l.length + 1 ≤ cap
    · subst hv
      refine wpList_append_fits w hgd s x 25 ho base 31 i0 2 Tryd.underlying25 hi hz1 g' l.length cap (fl l) hs hown ⟨g, 0, none⟩ 1 c (fl [(p, q)]) hx rfl hnews (fl_one _) hroom (fun w' h2 h3 => ?_)
      have hO : OwnR w' base (.slice (some ⟨g', 0, none⟩) (l.length + 1) cap) (l ++ [(p, q)]) := by
        unfold OwnR
        rw [fl_append, List.length_append]
        exact h2
      refine h _ w' hO ((Below.refl _ w).grown h3 hbase (fun k hk => by cases hk; exact hg)) (fun u r hpre hr => ?_)
      by_cases hr0 : r = []
      · exact hr.kept h3 (.inl hr0)
      · obtain ⟨A', c', rfl, h4, h5⟩ := hr
        obtain ⟨g2, rfl, h6⟩ := h5.resolve_left hr0
        by_cases e : g2 = g'
        · subst e
          refine ⟨_, c', rfl, h4, .inr ⟨g2, rfl, fun j hj => ?_⟩⟩
          have hle := hpre.length_le
          have := OwnR.reads hO j (by simp; omega)
          rw [rg_prefix (hpre.trans (List.prefix_append l _)) hj] at this
          exact this
        · exact ⟨_, c', rfl, h4, .inr ⟨g2, rfl, h6.kept h3 (fun h => e (by injection h with h; exact h.symm))⟩⟩
    · exact grows _ cap hv (fun e => by cases e) (fun b e j u hj => by cases e; exact World.ownsRow.cells hown (g := g') (by rw [hv]; rfl) j u hj) (by omega)
theorem lt_of_block {w : World} {g : Nat} {o : Obj} (h : w.heap[g]? = some o) : g < w.heap.size := (Array.getElem?_eq_some_iff.1 h).1
theorem cells_set {w : World} {g : Nat} {cur : Array Value} {t : TypeId} {j : Nat} {u : Value} (h : w.heap[g]? = some (.cells cur t (0, 0))) : (w.setCell ⟨g, j, none⟩ u).heap[g]? = some (.cells (cur.setIfInBounds j u) t (0, 0)) := by
  have hlt := lt_of_block h
  have h' : w.heap[g] = .cells cur t (0, 0) := by simpa [Array.getElem?_eq_getElem hlt] using h
  show (w.heap.modify g _)[g]? = _
  rw [Array.getElem?_eq_getElem (by simpa using hlt), Array.getElem_modify_self, h']
  rfl
theorem fl_set : ∀ (l : List (Int × Int)) (j : Nat) (x y : Int), j < l.length → fl (l.set j (x, y)) = ((fl l).set (j * 2) (.int .i64 x)).set (j * 2 + 1) (.int .i64 y)
  | [], j, x, y, h => by simp at h
  | z :: l, 0, x, y, _ => by simp [fl]
  | z :: l, j + 1, x, y, h => by
    have ih := fl_set l j x y (by simpa using h)
    have e : ∀ r, fl (z :: r) = [Value.int .i64 z.1, .int .i64 z.2] ++ fl r := fun r => by simp [fl]
    rw [List.set_cons_succ, e, e, ih, show (j + 1) * 2 = j * 2 + 2 by omega, List.set_append_right _ _ (by simp), List.set_append_right _ _ (by simp)]
    simp
/-- a range of a row of the call's own, written anew -/
theorem own_put {w : World} {base g n cap : Nat} {l : List (Int × Int)} (h : OwnR w base (.slice (some ⟨g, 0, none⟩) n cap) l) (j : Nat) (hj : j < l.length) (x y : Int) :
    OwnR ((w.setCell ⟨g, j * 2, none⟩ (.int .i64 x)).setCell ⟨g, j * 2 + 1, none⟩ (.int .i64 y)) base (.slice (some ⟨g, 0, none⟩) n cap) (l.set j (x, y)) := by
  obtain ⟨h1, h2⟩ := h
  refine ⟨by rw [fl_length], ?_⟩
  rcases h2 with ⟨h2, _⟩ | ⟨g', cap', cur, hv, hg, hh, hc, hm, hs, ht⟩
  · cases h2
  · cases hv
    refine .inr ⟨g, cap, (cur.setIfInBounds (j * 2) (.int .i64 x)).setIfInBounds (j * 2 + 1) (.int .i64 y), by simp, hg, cells_set (cells_set hh), by simpa using hc, hm, by simpa using hs, ?_⟩
    rw [List.length_set, Array.toList_setIfInBounds, Array.toList_setIfInBounds, List.take_set, List.take_set, ht, fl_set l j x y hj]
theorem own_at {w : World} {base g n cap : Nat} {l : List (Int × Int)} (h : OwnR w base (.slice (some ⟨g, 0, none⟩) n cap) l) (j : Nat) (hj : j < l.length) :
    (w.cell? ⟨g, j * 2, none⟩).isSome = true ∧ (w.cell? ⟨g, j * 2 + 1, none⟩).isSome = true ∧ w.frozen? ⟨g, j * 2, none⟩ = false ∧ w.frozen? ⟨g, j * 2 + 1, none⟩ = false := by
  have hr := OwnR.reads h j hj
  rw [Nat.zero_add] at hr
  refine ⟨by rw [hr.1]; rfl, by rw [hr.2]; rfl, ?_⟩
  rcases h.2 with ⟨h2, _⟩ | ⟨g', cap', cur, hv, hg, hh, _⟩
  · cases h2
  · cases hv
    exact ⟨by simp [World.frozen?, hh], by simp [World.frozen?, hh]⟩
/-- the first i ranges written anew -/
def wrt (k : Int) (l : List (Int × Int)) (i : Nat) : List (Int × Int) := List.replicate i (-k, k) ++ l.drop i
theorem wrt_len {k : Int} {l : List (Int × Int)} {i : Nat} (hi : i ≤ l.length) : (wrt k l i).length = l.length := by simp [wrt]; omega
theorem wrt_set {k : Int} {l : List (Int × Int)} {i : Nat} (hi : i < l.length) : (wrt k l i).set i (-k, k) = wrt k l (i + 1) := by
  unfold wrt
  rw [List.set_append_right _ _ (by simp), List.length_replicate, Nat.sub_self, List.drop_eq_getElem_cons hi, List.set_cons_zero, List.replicate_succ']
  simp
theorem wrt_all {k : Int} {l : List (Int × Int)} : wrt k l l.length = List.replicate l.length (-k, k) := by simp [wrt]
/-- a row of sets of the call's own -/
def OwnV (w : World) (base : Nat) (v : Value) (l : List Value) : Prop := w.ownsRow base 25 1 v l.length l
theorem OwnV.below {w w' : World} {base n : Nat} {v : Value} {l : List Value} (h : OwnV w base v l) (hb : Below n w w') (hn : w.heap.size ≤ n) : OwnV w' base v l := by
  refine ⟨h.1, ?_⟩
  rcases h.2 with h | ⟨g, cap, cur, rfl, h1, h2, h3⟩
  · exact .inl h
  · have : g < w.heap.size := (Array.getElem?_eq_some_iff.1 h2).1
    exact .inr ⟨g, cap, cur, rfl, h1, (hb.block g (by omega)).trans h2, h3⟩
theorem OwnV.cell {w : World} {base g n cap : Nat} {l : List Value} (h : OwnV w base (.slice (some ⟨g, 0, none⟩) n cap) l) {j : Nat} {s : Value} (hj : l[j]? = some s) : w.cell? ⟨g, j, none⟩ = some s := by
  have h1 := h.cells rfl
  have a1 := h1 j s hj
  rw [add_zero_at] at a1
  exact a1
theorem info25 : (Tryd.prog.info? 25).map (fun i => (i.zero, i.size, i.bytes)) = some (some (.slice none 0 0), 1, 24) := by kernel_rfl
theorem push_V {ops : Array Oper} {rest : List Oper} {o : Oper} {a : Act} {Q : Exit → Act → World → Prop} {w : World} (hgd : o.guard = none) (s x : Operand)
    (ho : o.op = .call { callee := .builtin .append, args := #[s, x], argTypes := #[23, 23] })
    (base : Nat) (v : Value) (l : List Value) (hs : a.eval s = v) (hown : OwnV w base v l) (g c : Nat) (p : Value) (hp1 : p.oneCell' = true) (hx : a.eval x = .slice (some ⟨g, 0, none⟩) 1 c)
    (hp : w.cell? ⟨g, 0, none⟩ = some p) (hl : l.length + 1 ≤ 1000) (hbase : base ≤ w.heap.size)
    (h : ∀ v' w', OwnV w' base v' (l ++ [p]) → w.grownBy w' v.ownBlock → (v'.ownBlock = v.ownBlock ∨ v'.ownBlock = some w.heap.size) → wpList Tryd.prog ops Q rest (a.put o.dst v') w') : wpList Tryd.prog ops Q (o :: rest) a w := by
  obtain ⟨i0, hi, hz0, hz1, hz2⟩ := info_parts info25
  refine wpList_append_own_at w hgd s x 23 ho base 25 i0 (.slice none 0 0) 1 24 Tryd.underlying23 hi hz0 hz1 hz2 rfl (by decide) v l.length l hs hown ⟨g, 0, none⟩ 1 c [p] hx rfl ?_ (by simpa using hp1) (by unfold maxLen; omega) (by omega) hbase (fun v' w' h2 h3 _ h5 => h v' w' ?_ h3 h5)
  · intro j u hj
    match j, hj with
    | 0, hj => simp at hj; subst hj; exact hp
  · unfold OwnV
    rw [List.length_append]
    exact h2
/-- what the j-th set told must read as, behind all that was written -/
def It (w : World) (bo : Option Nat) (j : Nat) (v : Value) : Prop := ∃ n : Nat, n ≤ 10 ∧ R0 w v (List.replicate n (-(j : Int), (j : Int))) ∧ (n = 0 ∨ bo ≠ v.ownBlock)
theorem It.below {w w' : World} {bo : Option Nat} {j n : Nat} {v : Value} (h : It w bo j v) (k : Below n w w') (hn : w.heap.size ≤ n) : It w' bo j v := by
  obtain ⟨m, h1, h2, h3⟩ := h
  exact ⟨m, h1, h2.below k hn, h3⟩
theorem R0.lt {w : World} {v : Value} {l : List (Int × Int)} (h : R0 w v l) (h0 : l ≠ []) {g : Nat} (e : v.ownBlock = some g) : g < w.heap.size := by
  obtain ⟨a, c, rfl, _, h3⟩ := h
  obtain ⟨g', rfl, hr⟩ := h3.resolve_left h0
  cases e
  exact hr.lt h0
theorem It.pushed {w w' : World} {bo bo' : Option Nat} {j : Nat} {v : Value} (h : It w bo j v) (k : w.grownBy w' bo) (e : bo' = bo ∨ bo' = some w.heap.size) : It w' bo' j v := by
  obtain ⟨m, h1, h2, h3⟩ := h
  by_cases hm : m = 0
  · subst hm
    exact ⟨0, h1, h2.kept k (.inl rfl), .inl rfl⟩
  · have h3' := h3.resolve_left hm
    refine ⟨m, h1, h2.kept k (.inr h3'), .inr ?_⟩
    rcases e with rfl | rfl
    · exact h3'
    · intro he
      have := h2.lt (by simpa using hm) he.symm
      omega
end Go.Proofs
