/-
  The law AtomsTells walked.
-/
import Derived.BigQuiet
import Derived.Deep.QuietTactic
import Derived.Below
import Derived.Test.YtjjkomaokgmkhaaDoorVan
import Derived.RangeFuncNested
import Derived.RangeFuncBound
import Derived.RangeFuncCalls
import Derived.RangeFuncLeaves
import Derived.Shelf.Abstract
import Derived.Shelf.RegionOpen
import Derived.WalkKit
import Derived.WalkSpells
import Derived.WalkLawsBesides
import Derived.OwnWalkIn
import Derived.TacticsInMore
import Derived.LoopNIn
import Derived.LoopIn
import Derived.RegionIn
import Derived.Deep.RegionWith
import Derived.Lib.OthersKept
import Derived.Maps.AppendAt
import Derived.Lib.SmallJoins
import Derived.Shelf.SlSortCmp.QuietGrown
import Derived.Test.YtjjkomaokgmkhaaDoorNxn
import Derived.Test.YtjjkomaokgmkhaaDoorOxn
import Derived.Laws.OwnMore
import Derived.Laws.MakeOwn
import Derived.Laws.CopyOwn
import Derived.Test.YtjjkomaokgmkhaaDoorOkn
namespace Go.Proofs
open Go.RowKit Go.Shelf

/-- a world behind w in which nothing that lay has turned -/
structure BelowOf (w : World) where
  world : World
  below : Below w.heap.size w world
instance (w : World) : Inhabited (BelowOf w) := ⟨⟨w, Below.refl _ w⟩⟩
theorem below_drew (w : World) (n : Nat) : Below w.heap.size w (w.drewN n) := ⟨rfl, rfl, rfl, Nat.le_refl _, fun _ _ => rfl⟩
theorem wp_region_quiet_below {P : Program} {id : Nat} {Q : Exit → Act → World → Prop} {a : Act} {w : World} {l : List Oper} (hm : P.follows .mixedOrders = true) (hB : Region.lexB .any l.toArray = true)
    (h : wpQuiet P l.toArray (fun w' => ∃ p : BelowOf w, w' = p.world) (fun a' => ∀ w', (∃ p : BelowOf w, w' = p.world) → Q .normal a' w') l a) : (Code.region id l.toArray true).wp P Q a w :=
  wp_region_quiet (C := fun w' => ∃ p : BelowOf w, w' = p.world) hm hB ⟨⟨w.drewN 1, below_drew w 1⟩, rfl⟩ (by simpa using h)
/-- a callee in such a region -/
theorem below_of {P : Program} {f : FuncId} {args : Array Value} {w : World} {p : BelowOf w} {v : Value}
    (h : Calls P f args p.world fun e w' => e = .returned v ∧ Below p.world.heap.size p.world w') : Calls P f args p.world fun e w'' => e = .returned v ∧ ∃ q : BelowOf w, w'' = q.world :=
  h.mono fun _ w' ⟨he, hb⟩ => ⟨he, ⟨w', p.below.trans (hb.mono p.below.size)⟩, rfl⟩
theorem below_same {P : Program} {f : FuncId} {args : Array Value} {w : World} {p : BelowOf w} {v : Value}
    (h : Calls P f args p.world fun e w' => e = .returned v ∧ w' = p.world) : Calls P f args p.world fun e w'' => e = .returned v ∧ ∃ q : BelowOf w, w'' = q.world :=
  h.mono fun _ _ ⟨he, hb⟩ => ⟨he, p, hb⟩
end Go.Proofs
namespace Go.Proofs
open Go.RowKit Go.Shelf

set_option maxRecDepth 100000
attribute [local go_sem] Oper.semAt_some
attribute [local go_sem ↓] Go.wp_at_zero Go.wp_at_succ

def cpv (gs : List Nat) (ss : List (List (Int × Int))) : List Value := List.zipWith (fun g (s : List (Int × Int)) => Value.slice (some ⟨g, 0, none⟩) s.length (s.length + 1)) gs ss
theorem cpv_at {gs : List Nat} {ss : List (List (Int × Int))} {j g : Nat} {s : List (Int × Int)} (hg : gs[j]? = some g) (hs : ss[j]? = some s) : (cpv gs ss)[j]? = some (.slice (some ⟨g, 0, none⟩) s.length (s.length + 1)) := by simp [cpv, List.getElem?_zipWith, hg, hs]
theorem cpv_len {gs : List Nat} {ss : List (List (Int × Int))} (h : gs.length = ss.length) : (cpv gs ss).length = gs.length := by simp [cpv, h]
theorem cpv_snoc {gs : List Nat} {ss : List (List (Int × Int))} (h : gs.length = ss.length) (g : Nat) (s : List (Int × Int)) : cpv (gs ++ [g]) (ss ++ [s]) = cpv gs ss ++ [.slice (some ⟨g, 0, none⟩) s.length (s.length + 1)] := by
  unfold cpv
  rw [List.zipWith_append h]; rfl
/-- copies of sets, each with a mark behind it; those from i on not written yet -/
structure CP (W : World) (base : Nat) (ov : Value) (gs : List Nat) (ss : List (List (Int × Int))) (i : Nat) : Prop where
  gl : gs.length = ss.length
  own : W.ownsRow base 27 1 ov gs.length (cpv gs ss)
  nd : gs.Nodup
  ty : ∀ (j g : Nat) s, gs[j]? = some g → ss[j]? = some s → base ≤ g ∧ ∃ cur : Array Value, W.heap[g]? = some (.cells cur 29 (0, 0)) ∧ cur.size = (s.length + 1) * 2 ∧ (i ≤ j → cur = (fl (s ++ [(-77, 0)])).toArray)
theorem CP.mem {W : World} {base : Nat} {ov : Value} {gs : List Nat} {ss : List (List (Int × Int))} {i : Nat} (h : CP W base ov gs ss i) {g : Nat} (hg : g ∈ gs) : base ≤ g ∧ g < W.heap.size ∧ ∃ cur, W.heap[g]? = some (.cells cur 29 (0, 0)) := by
  obtain ⟨j, hj, rfl⟩ := List.getElem_of_mem hg
  obtain ⟨h1, cur, h2, _⟩ := h.ty j _ _ (List.getElem?_eq_getElem hj) (List.getElem?_eq_getElem (by rw [← h.gl]; exact hj))
  exact ⟨h1, blk_lt h2, cur, h2⟩
theorem CP.ne {W : World} {base : Nat} {ov : Value} {gs : List Nat} {ss : List (List (Int × Int))} {i : Nat} (h : CP W base ov gs ss i) {b : Nat} (hb : ov.ownBlock = some b) : b ∉ gs := fun hm => by
  obtain ⟨_, _, cur, h1⟩ := h.mem hm
  obtain ⟨cur2, h2⟩ := own_at h.own hb
  rw [h1] at h2
  injection h2 with h2
  injection h2 with _ h2
  cases h2
theorem CP.fr {W W' : World} {base : Nat} {ov : Value} {gs : List Nat} {ss : List (List (Int × Int))} {i : Nat} (h : CP W base ov gs ss i) {D : Nat → Prop} (hf : Fr W W' D) (hD : ∀ g ∈ gs, ¬ D g) (hO : ∀ b, ov.ownBlock = some b → ¬ D b) : CP W' base ov gs ss i :=
  ⟨h.gl, own_fr h.own hf hO, h.nd, fun j g s hg hs => by
    obtain ⟨h1, cur, h2, h3, h4⟩ := h.ty j g s hg hs
    exact ⟨h1, cur, (hf.block g (blk_lt h2) (hD g (List.mem_of_getElem? hg))).trans h2, h3, h4⟩⟩
theorem CP.below {W W' : World} {base : Nat} {ov : Value} {gs : List Nat} {ss : List (List (Int × Int))} {i : Nat} (h : CP W base ov gs ss i) {m : Nat} (hb : Below m W W') (hm : W.heap.size ≤ m) : CP W' base ov gs ss i :=
  h.fr (fr_below hb hm fun _ => False) (fun _ _ e => e) fun _ _ e => e
theorem CP.start (W : World) : CP (W.alloc (.cells #[] 27)) W.heap.size (.slice (some ⟨W.heap.size, 0, none⟩) 0 0) [] [] 0 :=
  ⟨rfl, ⟨rfl, .inr ⟨W.heap.size, 0, #[], rfl, Nat.le_refl _, heap_alloc_new _ _, Nat.le_refl _, Nat.zero_le _, rfl, rfl⟩⟩, by simp, fun j g s hg => by simp at hg⟩
/-- one more -/
theorem CP.push {W W1 W2 : World} {base : Nat} {ov v' : Value} {gs : List Nat} {ss : List (List (Int × Int))} {s : List (Int × Int)} (h : CP W base ov gs ss 0) (hb : base ≤ W.heap.size) (h1 : Below W.heap.size W W1) (hg : W1.heap[W.heap.size]? = some (.cells (fl (s ++ [(-77, 0)])).toArray 29 (0, 0)))
    (h2 : W2.ownsRow base 27 1 v' (gs.length + 1) (cpv gs ss ++ [.slice (some ⟨W.heap.size, 0, none⟩) s.length (s.length + 1)])) (hf : Fr W1 W2 (fun k => ov.ownBlock = some k)) : CP W2 base v' (gs ++ [W.heap.size]) (ss ++ [s]) 0 := by
  have hc1 := h.below h1 (Nat.le_refl _)
  have hov : ∀ b, ov.ownBlock = some b → b < W.heap.size := fun b hb => (World.ownsRow.lt h.own b hb).2
  refine ⟨by simp [h.gl], ?_, ?_, fun j g t hj ht => ?_⟩
  · rw [cpv_snoc h.gl, List.length_append]; exact h2
  · rw [List.nodup_append]
    refine ⟨h.nd, by simp, fun a ha b hb => ?_⟩
    have := (h.mem ha).2.1
    simp at hb
    omega
  · by_cases hjl : j < gs.length
    · rw [List.getElem?_append_left hjl] at hj
      rw [List.getElem?_append_left (by rw [← h.gl]; exact hjl)] at ht
      obtain ⟨e1, cur, e2, e3, e4⟩ := hc1.ty j g t hj ht
      exact ⟨e1, cur, (hf.block g (blk_lt e2) (fun e => hc1.ne e (List.mem_of_getElem? hj))).trans e2, e3, e4⟩
    · rw [List.getElem?_append_right (by omega)] at hj
      rw [List.getElem?_append_right (by rw [← h.gl]; omega), ← h.gl] at ht
      have m1 := List.mem_of_getElem? hj
      have m2 := List.mem_of_getElem? ht
      simp at m1 m2
      subst m1
      subst m2
      refine ⟨hb, _, (hf.block _ (blk_lt hg) (fun e => ?_)).trans hg, by simp [fl_length], fun _ => rfl⟩
      have := hov _ e
      omega
/-- one of them is written over -/
theorem CP.write {W W' : World} {base : Nat} {ov : Value} {gs : List Nat} {ss : List (List (Int × Int))} {i g : Nat} {s : List (Int × Int)} (h : CP W base ov gs ss i) (hg : gs[i]? = some g) (hs : ss[i]? = some s) (hf : Fr W W' (fun k => k = g)) (hn : ∃ cur : Array Value, W'.heap[g]? = some (.cells cur 29 (0, 0)) ∧ cur.size = (s.length + 1) * 2) : CP W' base ov gs ss (i + 1) := by
  refine ⟨h.gl, own_fr h.own hf fun b hb e => h.ne hb (e ▸ List.mem_of_getElem? hg), h.nd, fun j g' s' hg' hs' => ?_⟩
  obtain ⟨e1, cur, e2, e3, e4⟩ := h.ty j g' s' hg' hs'
  by_cases hj : j = i
  · subst hj
    rw [hg] at hg'
    injection hg' with hg'
    subst hg'
    rw [hs] at hs'
    injection hs' with hs'
    subst hs'
    obtain ⟨c2, n1, n2⟩ := hn
    exact ⟨e1, c2, n1, n2, fun e => by omega⟩
  · refine ⟨e1, cur, (hf.block g' (blk_lt e2) fun e => ?_).trans e2, e3, fun hi => e4 (by omega)⟩
    subst e
    have j1 := (List.getElem?_eq_some_iff.1 hg).1
    exact hj ((List.getElem?_inj j1 h.nd).1 (hg.trans hg'.symm)).symm
theorem CP.cell {W : World} {base : Nat} {ov : Value} {gs : List Nat} {ss : List (List (Int × Int))} {i : Nat} (h : CP W base ov gs ss i) {j g : Nat} {s : List (Int × Int)} (hg : gs[j]? = some g) (hs : ss[j]? = some s) : ∃ b c, ov = .slice (some ⟨b, 0, none⟩) gs.length c ∧ gs.length ≤ c ∧ W.cell? ⟨b, j, none⟩ = some (.slice (some ⟨g, 0, none⟩) s.length (s.length + 1)) := by
  have hj := (List.getElem?_eq_some_iff.1 hg).1
  rcases h.own.2 with ⟨_, h0⟩ | ⟨b, c, cur, e, _, h1, h2, _, h3, h4⟩
  · omega
  · refine ⟨b, c, e, h2, heap_cellv h1 ?_⟩
    have h5 := cpv_at hg hs
    rw [← h4, List.getElem?_take, if_pos (by omega), Array.getElem?_toList] at h5
    exact h5
theorem CP.marks {W : World} {base : Nat} {ov : Value} {gs : List Nat} {ss : List (List (Int × Int))} {i : Nat} (h : CP W base ov gs ss i) {j g : Nat} {s : List (Int × Int)} (hi : i ≤ j) (hg : gs[j]? = some g) (hs : ss[j]? = some s) : Rs W (.slice (some ⟨g, 0, none⟩) s.length (s.length + 1)) s ∧ W.cell? ⟨g, s.length * 2, none⟩ = some (.int .i64 (-77)) ∧ W.cell? ⟨g, s.length * 2 + 1, none⟩ = some (.int .i64 0) := by
  obtain ⟨_, cur, h2, h3, h4⟩ := h.ty j g s hg hs
  rw [h4 hi] at h2
  have hr : Reads W g 0 (s ++ [(-77, 0)]) := fun k hk => by
    obtain ⟨a1, a2⟩ := fl_at (s ++ [(-77, 0)]) hk
    exact ⟨heap_cellv h2 (by simpa using a1), heap_cellv h2 (by simpa using a2)⟩
  refine ⟨⟨_, _, rfl, by omega, .inr ⟨g, 0, rfl, fun k hk => ?_⟩⟩, ?_⟩
  · have := hr k (by simp; omega)
    have e : rg (s ++ [(-77, 0)]) k = rg s k := by simp only [rg]; rw [List.getElem?_append_left hk]
    rw [e] at this; exact this
  · have := hr s.length (by simp)
    have e : rg (s ++ [(-77, 0)]) s.length = (-77, 0) := by simp [rg]
    rw [e, Nat.zero_add] at this; exact this
theorem CP.sr {W : World} {base : Nat} {ov : Value} {gs : List Nat} {ss : List (List (Int × Int))} (h : CP W base ov gs ss 0) : SR W ov ss := by
  have hl := cpv_len h.gl
  refine own_sr (vals := cpv gs ss) (by rw [hl]; exact h.own) (by rw [hl, h.gl]) fun j v s hv hs => ?_
  have hj := (List.getElem?_eq_some_iff.1 hs).1
  have hg := List.getElem?_eq_getElem (l := gs) (i := j) (by rw [h.gl]; exact hj)
  rw [cpv_at hg hs] at hv
  injection hv with hv
  subst hv
  exact (h.marks (Nat.zero_le _) hg hs).1
end Go.Proofs
namespace Go.Proofs
open Go.RowKit Go.Shelf

set_option maxRecDepth 100000
attribute [local go_sem] Oper.semAt_some
attribute [local go_sem ↓] Go.wp_at_zero Go.wp_at_succ

/-- our table and the document's, side by side -/
def TW (W : World) (b2 B R : Nat) (ss : List (List (Int × Int))) (LL : List Nat) (L0 : Nat) (all : List (Int × Int)) (s : FS) (L : List (List Bool × List (Int × Int))) : Prop :=
  Atm W b2 B ss LL L0 all s ∧ ∃ b3 A n c vals la ln lc ats, b2 ≤ b3 ∧ RT W b3 R A n c vals ss la ln lc ats L
theorem TW.fr {W : World} {b2 B R : Nat} {ss : List (List (Int × Int))} {LL : List Nat} {L0 : Nat} {all : List (Int × Int)} {s : FS} {L : List (List Bool × List (Int × Int))} (h : TW W b2 B R ss LL L0 all s L) {W' : World} {D : Nat → Prop} (hf : Fr W W' D) (hD : ∀ k, D k → k < b2 ∨ W.heap.size ≤ k) : TW W' b2 B R ss LL L0 all s L := by
  obtain ⟨h1, b3, A, n, c, vals, la, ln, lc, ats, hb, h2⟩ := h
  exact ⟨h1.fr hf hD, b3, A, n, c, vals, la, ln, lc, ats, hb, h2.fr hf fun k hk => by rcases hD k hk with e | e <;> omega⟩
theorem TW.below {W : World} {b2 B R : Nat} {ss : List (List (Int × Int))} {LL : List Nat} {L0 : Nat} {all : List (Int × Int)} {s : FS} {L : List (List Bool × List (Int × Int))} (h : TW W b2 B R ss LL L0 all s L) {W' : World} {m : Nat} (hb : Below m W W') (hm : W.heap.size ≤ m) : TW W' b2 B R ss LL L0 all s L := h.fr (fr_below hb hm fun _ => False) fun _ e => e.elim
theorem TW.grown {W : World} {b2 B R : Nat} {ss : List (List (Int × Int))} {LL : List Nat} {L0 : Nat} {all : List (Int × Int)} {s : FS} {L : List (List Bool × List (Int × Int))} (h : TW W b2 B R ss LL L0 all s L) {W' : World} (hg : Grown W W') : TW W' b2 B R ss LL L0 all s L := h.below hg.below (Nat.le_refl _)
theorem TW.lens {W : World} {b2 B R : Nat} {ss : List (List (Int × Int))} {LL : List Nat} {L0 : Nat} {all : List (Int × Int)} {s : FS} {L : List (List Bool × List (Int × Int))} (h : TW W b2 B R ss LL L0 all s L) {Q : List (Int × Int)} (hP : Pcs ss Q) (hL : RI ss Q L) : Calls Tryd.prog 11 #[.pointer (some ⟨B, 0, none⟩)] W (fun e w' => e = .returned (.int .i64 (L.length : Int)) ∧ w' = W) ∧ Calls Tryd.prog 12 #[.pointer (some ⟨R, 0, none⟩)] W (fun e w' => e = .returned (.int .i64 (L.length : Int)) ∧ w' = W) := by
  obtain ⟨h1, b3, A, n, c, vals, la, ln, lc, ats, hb, h2⟩ := h
  have e := (both_same h1.done hP hL).2.1
  have := h1.len
  rw [e] at this
  exact ⟨this, h2.len⟩
theorem TW.ofs {W : World} {b2 B R : Nat} {ss : List (List (Int × Int))} {LL : List Nat} {L0 : Nat} {all : List (Int × Int)} {s : FS} {L : List (List Bool × List (Int × Int))} (h : TW W b2 B R ss LL L0 all s L) {Q : List (Int × Int)} (hP : Pcs ss Q) (hL : RI ss Q L) (u : Int) : Calls Tryd.prog 13 #[.pointer (some ⟨B, 0, none⟩), .int .i64 u] W (fun e w' => e = .returned (.int .i64 (rofP ss L u)) ∧ Below W.heap.size W w') ∧ Calls Tryd.prog 14 #[.pointer (some ⟨R, 0, none⟩), .int .i64 u] W (fun e w' => e = .returned (.int .i64 (rofP ss L u)) ∧ Below W.heap.size W w') := by
  obtain ⟨h1, b3, A, n, c, vals, la, ln, lc, ats, hb, h2⟩ := h
  have e := (both_same h1.done hP hL).1 u
  have t1 := h1.of u
  rw [e] at t1
  have t2 := h2.of u
  rw [fnd_of hP hL u] at t2
  exact ⟨t1.mono fun e w' ⟨a, b⟩ => ⟨a, b.below⟩, t2⟩
/-- what a Set answers -/
def SetP (W : World) (l : List (Int × Int)) (is : Bool) (e : Ending) (w' : World) : Prop := ∃ a c, e = .returned (.tuple #[.slice a l.length c, .bool is]) ∧ OwnR w' W.heap.size (.slice a l.length c) l ∧ Below W.heap.size W w'
theorem TW.sets {b2 B R : Nat} {ss : List (List (Int × Int))} {LL : List Nat} {L0 : Nat} {all : List (Int × Int)} {s : FS} {L : List (List Bool × List (Int × Int))} {W0 : World} (h0 : TW W0 b2 B R ss LL L0 all s L) {Q : List (Int × Int)} (hP : Pcs ss Q) (hL : RI ss Q L) (i : Int) : ∃ l is, l.length ≤ 10000 ∧ ∀ W, TW W b2 B R ss LL L0 all s L → Calls Tryd.prog 15 #[.pointer (some ⟨B, 0, none⟩), .int .i64 i] W (SetP W l is) ∧ Calls Tryd.prog 16 #[.pointer (some ⟨R, 0, none⟩), .int .i64 i] W (SetP W l is) := by
  have hbs := both_same h0.1.done hP hL
  by_cases hi : 0 ≤ i ∧ i < (L.length : Int)
  · obtain ⟨k, rfl⟩ : ∃ k : Nat, i = (k : Int) := ⟨i.toNat, by omega⟩
    have hk : k < L.length := by omega
    have hk2 : k < s.wh.length := by rw [hbs.2.1]; exact hk
    obtain ⟨l0, ⟨r1, r2, r3⟩, _⟩ := h0.1.set hk2
    have e0 := hbs.2.2.1 k hk l0 r1 r2
    refine ⟨L[k].2, true, by rw [← e0]; exact r3, fun W h => ?_⟩
    obtain ⟨h1, b3, A, n, c, vals, la, ln, lc, ats, hb, h2⟩ := h
    obtain ⟨l, ⟨q1, q2, q3⟩, hc⟩ := h1.set hk2
    have e := hbs.2.2.1 k hk l q1 q2
    rw [e] at hc
    have hc2 := h2.set (List.getElem?_eq_getElem hk) (by rw [← e]; omega)
    constructor
    · refine hc.mono ?_
      rintro e' w' ⟨v, rfl, ho, hbb⟩
      obtain ⟨a, c, rfl⟩ := own_len ho
      exact ⟨a, c, rfl, ho, hbb⟩
    · refine hc2.mono ?_
      rintro e' w' ⟨v, rfl, ho, hbb⟩
      obtain ⟨a, c, rfl⟩ := own_len ho
      exact ⟨a, c, rfl, ho, hbb⟩
  · refine ⟨[], false, by simp, fun W h => ?_⟩
    obtain ⟨h1, b3, A, n, c, vals, la, ln, lc, ats, hb, h2⟩ := h
    constructor
    · refine (h1.setno i (by rw [hbs.2.1]; exact hi)).mono ?_
      rintro e' w' ⟨rfl, rfl⟩
      exact ⟨none, 0, rfl, OwnR.nil _ _, Below.refl _ _⟩
    · refine (h2.setno i hi).mono ?_
      rintro e' w' ⟨rfl, rfl⟩
      exact ⟨none, 0, rfl, OwnR.nil _ _, Below.refl _ _⟩
theorem TW.ins {b2 B R : Nat} {ss : List (List (Int × Int))} {LL : List Nat} {L0 : Nat} {all : List (Int × Int)} {s : FS} {L : List (List Bool × List (Int × Int))} {W0 : World} (h0 : TW W0 b2 B R ss LL L0 all s L) {Q : List (Int × Int)} (hP : Pcs ss Q) (hL : RI ss Q L) (i m : Int) : ∃ b : Bool, ∀ W, TW W b2 B R ss LL L0 all s L → Calls Tryd.prog 17 #[.pointer (some ⟨B, 0, none⟩), .int .i64 i, .int .i64 m] W (fun e w' => e = .returned (.bool b) ∧ Grown W w') ∧ Calls Tryd.prog 18 #[.pointer (some ⟨R, 0, none⟩), .int .i64 i, .int .i64 m] W (fun e w' => e = .returned (.bool b) ∧ Grown W w') := by
  have hbs := both_same h0.1.done hP hL
  by_cases hi : 0 ≤ i ∧ i < (L.length : Int) ∧ 0 ≤ m ∧ m < (ss.length : Int)
  · obtain ⟨k, rfl⟩ : ∃ k : Nat, i = (k : Int) := ⟨i.toNat, by omega⟩
    obtain ⟨j, rfl⟩ : ∃ j : Nat, m = (j : Int) := ⟨m.toNat, by omega⟩
    have hk : k < L.length := by omega
    have hj : j < ss.length := by omega
    obtain ⟨u, hu, hin⟩ := hbs.2.2.2 k hk
    refine ⟨L[k].1.getD j false, fun W h => ?_⟩
    obtain ⟨h1, b3, A, n, c, vals, la, ln, lc, ats, hb, h2⟩ := h
    obtain ⟨b, hb1, hc⟩ := h1.inyes hu hj
    have e : b = L[k].1.getD j false := by rw [Bool.eq_iff_iff, hb1, hin j hj]
    rw [e] at hc
    exact ⟨hc, h2.inyes (List.getElem?_eq_getElem hk) (by rw [← h2.sn]; exact hj)⟩
  · refine ⟨false, fun W h => ?_⟩
    obtain ⟨h1, b3, A, n, c, vals, la, ln, lc, ats, hb, h2⟩ := h
    exact ⟨h1.inno i m (by rw [hbs.2.1]; exact hi), h2.inno i m (by rw [← h2.sn]; exact hi)⟩
theorem make2 (n : Nat) (hn : n ≤ 8796093022208) : ∃ Z : List Value, Z.length = (n + 1) * 2 ∧ ∀ W : World, (Instr.makeSlice 27 (.int .i64 ((n : Int) + 1)) (.int .i64 ((n : Int) + 1))).run Tryd.prog W = .ok (.slice (some ⟨W.heap.size, 0, none⟩) (n + 1) (n + 1)) (W.alloc (.cells Z.toArray 29)) := by
  obtain ⟨i0, hi, hz0, hz1, hz2⟩ := info_parts info38
  refine ⟨(madeCells (Value.agg #[.int .i64 0, .int .i64 0]).cells ((n + 1) * 2)).toList, by simp [size_madeCells], fun W => ?_⟩
  have h := run_make (P := Tryd.prog) W 27 29 i0 (.agg #[.int .i64 0, .int .i64 0]) Tryd.underlying27 hi hz0 .i64 .i64 ((n : Int) + 1) ((n : Int) + 1) (by omega) (Int.le_refl _) (by rw [hz2]; omega) (by omega)
  rw [h, show ((n : Int) + 1).toNat = n + 1 by omega, hz1, Array.toArray_toList]
theorem run_copy2 (w : World) (g dLen dCap : Nat) (a : Addr) (sLen sCap : Nat) (cur : Array Value) (t : TypeId) (cs : List Value)
    (hg : w.heap[g]? = some (.cells cur t (0, 0))) (hn : cs.length = Nat.min sLen dLen * 2)
    (hsrc : ∀ j v, cs[j]? = some v → w.cell? (a.add j) = some v) (hfit : 0 + cs.length ≤ cur.size) (h1 : ∀ v ∈ cs, v.oneCell' = true) :
    (Builtin.copy_ #[27, 27] 3 #[.slice (some ⟨g, 0, none⟩) dLen dCap, .slice (some a) sLen sCap]).run Tryd.prog w =
      .ok (goInt (Nat.min sLen dLen)) (w.setRow g (cs ++ cur.toList.drop cs.length).toArray) := by
  obtain ⟨i0, hi, hz0, hz1, hz2⟩ := info_parts info38
  have hl := run_loadCells_list (P := Tryd.prog) w a cs hsrc
  have hst := run_storeCells_at Tryd.prog g 0 t cs 0 cur w hg (by simpa using hfit) h1
  simp [Builtin.copy_, run_underlying Tryd.underlying27, Builtin.lenOf, Builtin.firstCells, sizeOf, typeInfo, hi, hz1, ← hn, hl, hst]
theorem run_copy2_zero (w : World) (g dLen dCap : Nat) (a : Option Addr) (sCap : Nat) :
    (Builtin.copy_ #[27, 27] 3 #[.slice (some ⟨g, 0, none⟩) dLen dCap, .slice a 0 sCap]).run Tryd.prog w = .ok (goInt 0) w := by
  obtain ⟨i0, hi, -, -, -⟩ := info_parts info38
  have hl : ∀ (x : Addr), (loadCells x 0).run Tryd.prog w = .ok #[] w := fun x => by simpa using run_loadCells_list (P := Tryd.prog) w x [] (by simp)
  cases a <;> simp [Builtin.copy_, run_underlying Tryd.underlying27, Builtin.lenOf, Builtin.firstCells, sizeOf, typeInfo, hi, storeCells, hl]
/-- a copy into a fresh row of one more -/
theorem copy2_own (W : World) (g n cap : Nat) (a : Option Addr) (Z : List Value) (l : List (Int × Int)) (hg : W.heap[g]? = some (.cells Z.toArray 29 (0, 0))) (hl : l.length = n) (hZ : Z.length = (n + 1) * 2) (hv : Rs W (.slice a n cap) l) (B : Nat) (hB : B ≤ g) :
    ∃ w2, (Builtin.copy_ #[27, 27] 3 #[.slice (some ⟨g, 0, none⟩) (n + 1) (n + 1), .slice a n cap]).run Tryd.prog W = .ok (.int .i64 n) w2 ∧ w2.heap[g]? = some (.cells (fl l ++ Z.drop (fl l).length).toArray 29 (0, 0)) ∧ Below B W w2 := by
  have hfl : (fl l).length = n * 2 := by rw [fl_length, hl]
  by_cases h0 : n = 0
  · have hl0 : l = [] := List.eq_nil_of_length_eq_zero (by omega)
    subst h0 hl0
    exact ⟨W, run_copy2_zero W g 1 1 a cap, by simpa [fl] using hg, Below.refl _ _⟩
  · obtain ⟨a', c', e, hcap, hc⟩ := hv
    injection e with e1 e2 e3
    subst e1 e3
    obtain ⟨gs, os, rfl, hr⟩ := hc.resolve_left (fun e => by rw [e] at hl; simp at hl; omega)
    have hrun := run_copy2 W g (n + 1) (n + 1) ⟨gs, os, none⟩ n cap Z.toArray 29 (fl l) hg (by rw [hfl]; congr 1; exact (Nat.min_eq_left (by omega)).symm) (fun j u hj => by
      have hjl : j < n * 2 := by rw [← hfl]; exact (List.getElem?_eq_some_iff.1 hj).1
      have hadd : (⟨gs, os, none⟩ : Addr).add j = ⟨gs, os + j, none⟩ := by unfold Addr.add; split <;> simp_all
      rw [hadd]
      obtain ⟨i, hi⟩ : ∃ i, j = i * 2 ∨ j = i * 2 + 1 := ⟨j / 2, by omega⟩
      have hil : i < l.length := by omega
      have h1 := hr i hil
      have h2 := fl_at l hil
      rcases hi with rfl | rfl
      · rw [h2.1] at hj; injection hj with hj; subst hj; exact h1.1
      · rw [h2.2] at hj; injection hj with hj; subst hj; rw [← Nat.add_assoc]; exact h1.2) (by simp [hfl, hZ]; omega) (fl_one l)
    refine ⟨W.setRow g (fl l ++ Z.drop (fl l).length).toArray, by rw [hrun]; simp [goInt], setRow_heap W g _ _ 29 _ hg, below_setRow (Below.refl _ W) hB _⟩
theorem set_two (A Z : List Value) (u v : Value) (hZ : Z.length = 2) : (((A ++ Z).toArray.setIfInBounds A.length u).setIfInBounds (A.length + 1) v).toList = A ++ [u, v] := by
  match Z, hZ with
  | [z0, z1], _ =>
    simp only [Array.toList_setIfInBounds]
    rw [List.set_append_right _ _ (Nat.le_refl _), Nat.sub_self, List.set_cons_zero, List.set_append_right _ _ (by omega), show A.length + 1 - A.length = 1 by omega]
    rfl
/-- a set copied into a row with one more behind it, and that marked -/
theorem copied (w : World) (n cap : Nat) (a : Option Addr) (l : List (Int × Int)) (hl : l.length = n) (hn : n ≤ 1048576) (hv : Rs w (.slice a n cap) l) (h : Nat) (hh : w.heap.size = h) : ∃ (Z : Array Value) (w2 : World),
    (Instr.makeSlice 27 (.int .i64 ((n : Int) + 1)) (.int .i64 ((n : Int) + 1))).run Tryd.prog w = .ok (.slice (some ⟨h, 0, none⟩) (n + 1) (n + 1)) (w.alloc (.cells Z 29)) ∧
    (Builtin.copy_ #[27, 27] 3 #[.slice (some ⟨h, 0, none⟩) (n + 1) (n + 1), .slice a n cap]).run Tryd.prog (w.alloc (.cells Z 29)) = .ok (.int .i64 n) w2 ∧ Below h w w2 ∧
    (∃ z0 z1, w2.cell? ⟨h, n * 2, none⟩ = some z0 ∧ w2.cell? ⟨h, n * 2 + 1, none⟩ = some z1) ∧ w2.frozen? ⟨h, n * 2, none⟩ = false ∧ w2.frozen? ⟨h, n * 2 + 1, none⟩ = false ∧
    ((w2.setCell ⟨h, n * 2, none⟩ (.int .i64 (-77))).setCell ⟨h, n * 2 + 1, none⟩ (.int .i64 0)).heap[h]? = some (.cells (fl (l ++ [(-77, 0)])).toArray 29 (0, 0)) ∧ Below h w ((w2.setCell ⟨h, n * 2, none⟩ (.int .i64 (-77))).setCell ⟨h, n * 2 + 1, none⟩ (.int .i64 0)) := by
  obtain ⟨Z, hZl, hmk⟩ := make2 n (by omega)
  have hmk1 := hmk w
  rw [hh] at hmk1
  have hb1 : Below h w (w.alloc (.cells Z.toArray 29)) := (Below.refl _ w).alloc (Nat.le_of_eq hh.symm) _
  obtain ⟨w2, hcp, hrow, hb2⟩ := copy2_own (w.alloc (.cells Z.toArray 29)) h n cap a Z l (by rw [← hh]; exact heap_alloc_new w _) hl hZl (hv.below hb1 (by omega)) h (Nat.le_refl _)
  have hfl : (fl l).length = n * 2 := by rw [fl_length, hl]
  have hZd : (Z.drop (fl l).length).length = 2 := by rw [List.length_drop, hfl]; omega
  obtain ⟨Zd, hzd⟩ : ∃ Zd, Z.drop (fl l).length = Zd := ⟨_, rfl⟩
  rw [hzd] at hrow hZd
  have hs := set_two (fl l) Zd (.int .i64 (-77)) (.int .i64 0) hZd
  rw [hfl] at hs
  have hB2 := hb1.trans hb2
  refine ⟨Z.toArray, w2, hmk1, hcp, hB2, ?_, by simp [World.frozen?, hrow], by simp [World.frozen?, hrow], ?_, (hB2.setCell (p := ⟨h, n * 2, none⟩) (Nat.le_refl _) _).setCell (p := ⟨h, n * 2 + 1, none⟩) (Nat.le_refl _) _⟩
  · have e : ∀ j, j < (fl l ++ Zd).length → ∃ z, w2.cell? ⟨h, j, none⟩ = some z := fun j hj => ⟨(fl l ++ Zd)[j], by simp only [World.cell?, hrow]; simp [List.getElem?_eq_getElem hj]⟩
    have hlen : (fl l ++ Zd).length = n * 2 + 2 := by rw [List.length_append, hZd, hfl]
    obtain ⟨z0, e0⟩ := e (n * 2) (by omega)
    obtain ⟨z1, e1⟩ := e (n * 2 + 1) (by omega)
    exact ⟨z0, z1, e0, e1⟩
  · rw [set_heap (set_heap hrow), fl_append]
    have : ((fl l ++ Zd).toArray.setIfInBounds (n * 2) (.int .i64 (-77))).setIfInBounds (n * 2 + 1) (.int .i64 0) = (fl l ++ fl [(-77, 0)]).toArray := by
      rw [← Array.toList_inj, hs]; rfl
    rw [this]
/-- one copy behind a row of the call's own -/
theorem push_V4 {ops : Array Oper} {rest : List Oper} {o : Oper} {a : Act} {Q : Exit → Act → World → Prop} {w : World} (hgd : o.guard = none) (s x : Operand)
    (ho : o.op = .call { callee := .builtin .append, args := #[s, x], argTypes := #[22, 22] })
    (base : Nat) (v : Value) (n : Nat) (xs : List Value) (hs : a.eval s = v) (hown : w.ownsRow base 27 1 v n xs) (g c : Nat) (y : Value) (hx : a.eval x = .slice (some ⟨g, 0, none⟩) 1 c)
    (hc : w.cell? ⟨g, 0, none⟩ = some y) (h1 : y.oneCell' = true) (hn : n ≤ 1000000) (hbase : base ≤ w.heap.size)
    (h : ∀ gg cap w', w'.ownsRow base 27 1 (.slice (some ⟨gg, 0, none⟩) (n + 1) cap) (n + 1) (xs ++ [y]) → Fr w w' (fun k => v.ownBlock = some k) → wpList Tryd.prog ops Q rest (a.put o.dst (.slice (some ⟨gg, 0, none⟩) (n + 1) cap)) w') : wpList Tryd.prog ops Q (o :: rest) a w := by
  obtain ⟨i0, hi, hz0, hz1, hz2⟩ := info_parts info27
  refine wpList_append_own_at w hgd s x 22 ho base 27 i0 (.slice none 0 0) 1 24 Tryd.underlying22 hi hz0 hz1 hz2 rfl (by decide) v n xs hs hown ⟨g, 0, none⟩ 1 c [y] hx (by simp) ?_ (fun u hu => by simp at hu; rw [hu]; exact h1) (by unfold maxLen; omega) (by omega) hbase (fun v' w' h2 h3 _ _ => ?_)
  · intro j u hj
    match j, hj with
    | 0, hj => simp at hj; subst hj; exact hc
  · rcases h2.2 with ⟨_, e0⟩ | ⟨gg, cap, cur, e1, _⟩
    · omega
    · subst e1
      exact h gg cap w' h2 (fr_by h3)
theorem fl_set2 : ∀ (l : List (Int × Int)) (k : Nat) (x y : Int), ((fl l).set (k * 2) (.int .i64 x)).set (k * 2 + 1) (.int .i64 y) = fl (l.set k (x, y))
  | [], k, x, y => by simp [fl]
  | p :: l, 0, x, y => by simp [fl]
  | p :: l, k + 1, x, y => by
    have := fl_set2 l k x y
    have e1 : (k + 1) * 2 = k * 2 + 1 + 1 := by omega
    have e : ∀ (q : Int × Int) (r : List (Int × Int)), fl (q :: r) = .int .i64 q.1 :: .int .i64 q.2 :: fl r := fun q r => by simp [fl]
    rw [e, e1, List.set_cons_succ, List.set_cons_succ, List.set_cons_succ, List.set_cons_succ, this, List.set_cons_succ, e]
/-- a range of a row of the call's own is written over -/
theorem OwnR.wrote {w : World} {base g n cap : Nat} {l : List (Int × Int)} (h : OwnR w base (.slice (some ⟨g, 0, none⟩) n cap) l) (hn : l.length = n) {k : Nat} (hk : k < n) (x y : Int) : (∃ z0 z1, w.cell? ⟨g, k * 2, none⟩ = some z0 ∧ w.cell? ⟨g, k * 2 + 1, none⟩ = some z1) ∧ (w.frozen? ⟨g, k * 2, none⟩ = false ∧ w.frozen? ⟨g, k * 2 + 1, none⟩ = false) ∧ OwnR ((w.setCell ⟨g, k * 2, none⟩ (.int .i64 x)).setCell ⟨g, k * 2 + 1, none⟩ (.int .i64 y)) base (.slice (some ⟨g, 0, none⟩) n cap) (l.set k (x, y)) := by
  subst hn
  obtain ⟨r1, r2⟩ := h.reads k hk
  rw [Nat.zero_add] at r1 r2
  refine ⟨⟨_, _, r1, r2⟩, ⟨World.ownsRow.frozenAt h _, World.ownsRow.frozenAt h _⟩, ?_⟩
  unfold OwnR
  rw [List.length_set, ← fl_set2]
  have s1 := (World.ownsRow.stored h (k * 2) (.int .i64 x)).1
  exact (World.ownsRow.stored s1 (k * 2 + 1) (.int .i64 y)).1
end Go.Proofs
namespace Go.Proofs
open Go.RowKit Go.Shelf

set_option maxRecDepth 100000
attribute [local go_sem] Oper.semAt_some
attribute [local go_sem ↓] Go.wp_at_zero Go.wp_at_succ

theorem CP.le {W : World} {base base' : Nat} {ov : Value} {gs : List Nat} {ss : List (List (Int × Int))} {i : Nat} (h : CP W base ov gs ss i) (hb : base' ≤ base) : CP W base' ov gs ss i :=
  ⟨h.gl, Joins.ownsRow_le h.own hb, h.nd, fun j g s hg hs => by
    obtain ⟨e1, r⟩ := h.ty j g s hg hs
    exact ⟨by omega, r⟩⟩
theorem totS_at (ss : List (List (Int × Int))) {k : Nat} (hk : k < ss.length) : ss[k].length ≤ totS ss := by
  have h1 := totS_take ss hk
  have h2 := totS_le ss (k + 1)
  omega
def GrB (n : Nat) (ss : List (List (Int × Int))) (w : World) (e : Ending) (w' : World) : Prop := ∃ b, e = .returned (.bool b) ∧ w' = w ∧ (b = false → n + totS ss ≤ 1500)
set_option maxHeartbeats 2000000 in
theorem great_bd (A : Option Addr) (n c : Nat) (vals : List Value) (ss : List (List (Int × Int))) (w : World) (hN : ss.length = n) (h : LV w A vals ss) (hb : ∀ s ∈ ss, s.length ≤ 1048576) : Calls Tryd.prog 7 #[.slice A n c] w (GrB n ss w) := by
  by_cases hn : n ≤ 1500
  · have HL := Hid.mk' h
    have HN := Hid.mk' hN
    have HB := Hid.mk' hb
    have hnI : (n : Int) ≤ 1500 := by omega
    clear h hN hb
    go_enter Tryd.func7, Tryd.ntmps7
    go_wp2
    go_loopg [3, 4] n (fun q s3 s4 wr => ∃ (i : Nat) (nv : Int), s3 = .int .i64 nv ∧ s4 = .int .i64 (i : Int) ∧ i ≤ n ∧ n - i ≤ q ∧ Hid (wr = w ∧ nv = ((n + totS (ss.take i) : Nat) : Int)))
    case atStart => exact ⟨0, _, rfl, rfl, by omega, by omega, rfl, by simp [totS]⟩
    case round =>
      obtain ⟨i, nv, rfl, rfl, hi1, hi2, HR⟩ := hrel
      obtain ⟨hwe, hal⟩ := HR.out
      subst hwe
      clear HR
      have hiI : (i : Int) ≤ 1500 := by omega
      by_cases hil : i < n
      · have hilI : (i : Int) < (n : Int) := by omega
        by_cases hnv : nv ≤ 1500
        · have his : i < ss.length := by rw [HN.out]; exact hil
          have hiv : i < vals.length := by rw [HL.out.len]; exact his
          obtain ⟨g, o, hA, hc⟩ := HL.out.rd i vals[i] (List.getElem?_eq_getElem hiv)
          subst hA
          obtain ⟨sa, sc, hse, hcap, _⟩ := HL.out.rs i vals[i] ss[i] (List.getElem?_eq_getElem hiv) (List.getElem?_eq_getElem his)
          rw [hse] at hc
          obtain ⟨L, hL⟩ : ∃ L, ss[i].length = L := ⟨_, rfl⟩
          rw [hL] at hc
          have ht := totS_take ss his
          rw [hL] at ht
          have hL2 : L ≤ 1048576 := by rw [← hL]; exact HB.out _ (List.getElem_mem his)
          have hn0 : 0 ≤ nv := by omega
          have HTT : Hid (nv + (L : Int) = ((n + totS (ss.take (i + 1)) : Nat) : Int)) := by show _ = _; omega
          have hLI : (L : Int) ≤ 1048576 := by omega
          clear hal hse hL ht hiv hcap
          go_wp2
          go_roundg (n - (i + 1))
          case measure => omega
          case rel => exact ⟨i + 1, _, rfl, rfl, by omega, Nat.le_refl _, rfl, HTT.out⟩
        · have hnv2 : (1500 : Int) < nv := by omega
          clear hal
          go_wp2
          go_ret
          exact ⟨_, rfl, rfl, fun e => by cases e⟩
      · have hilI : ¬ (i : Int) < (n : Int) := by omega
        have hie : i = n := by omega
        subst hie
        rw [List.take_of_length_le (by have := HN.out; omega)] at hal
        have HA := Hid.mk' hal
        clear hal
        by_cases hnv : (1500 : Int) < nv
        · go_wp2
          go_ret
          exact ⟨_, rfl, rfl, fun e => by cases e⟩
        · have HNV := Hid.mk' hnv
          go_wp2
          go_ret
          refine ⟨_, rfl, rfl, fun _ => ?_⟩
          have := HA.out
          have := HNV.out
          omega
  · refine (great_big A n c w (by omega)).mono ?_
    rintro e w' ⟨rfl, rfl⟩
    exact ⟨_, rfl, rfl, fun e => by cases e⟩

theorem blk_up {w : World} {g : Nat} {o : Obj} (h : w.heap[g]? = some o) (p : Obj) : (w.alloc p).heap[g]? = some o := (Below.heap_alloc w p g (blk_lt h)).trans h
set_option maxHeartbeats 16000000 in
theorem tells_walk (A : Option Addr) (n c : Nat) (vals : List Value) (ss : List (List (Int × Int))) (ua : Option Addr) (un uc : Nat) (us : List Int) (m : Int) (w : World) (hT : Tab w) (hN : ss.length = n) (h : LV w A vals ss) (hbd : ∀ s ∈ ss, s.length ≤ 1048576) (hu : IR w (.slice ua un uc) us) (hul : us.length = un) (hub : un ≤ 1048576) :
    Calls Tryd.prog 3 #[.slice A n c, .slice ua un uc, .int .i64 m] w fun e w' => e = .returned (.bool true) ∧ Below w.heap.size w w' := by
  have HL := Hid.mk' h
  have HN := Hid.mk' hN
  have HT := Hid.mk' hT
  have HU := Hid.mk' (And.intro hu hul)
  have HS := Hid.mk' (shown_any w hT)
  obtain ⟨B, hB⟩ : ∃ B, w.heap.size = B := ⟨_, rfl⟩
  have HB := Hid.mk' hB
  have HGR : Hid (∀ W, Below B w W → Calls Tryd.prog 7 #[.slice A n c] W (GrB n ss W)) := fun W hW => great_bd A n c vals ss W hN (h.below hW (Nat.le_of_eq hB)) hbd
  rw [hB] at HS ⊢
  clear h hN hT hu hul hB hbd
  go_enter Tryd.func3, Tryd.ntmps3
  go_wp2_with (go_at_call 6; refine HS.out.mono ?_; rintro e w1 ⟨rfl, hb1⟩; have HB1 : Hid (Below B w w1) := hb1; clear hb1)
  refine (HGR.out w1 HB1.out).mono ?_
  rintro e w2 ⟨gb, rfl, rfl, hf⟩
  cases gb with
  | true =>
    clear hf
    go_wp2
    go_ret
    exact ⟨rfl, HB1.out⟩
  | false =>
  have HF := Hid.mk' (hf rfl)
  have hn15 : n ≤ 1500 := by have := HF.out; omega
  have hnI : (n : Int) ≤ 1500 := by omega
  clear hf HS HGR
  go_wp2
  go_loopg [8, 9] n (fun q s8 s9 wr => ∃ (i : Nat) (gs : List Nat) (oa : Option Addr) (oc : Nat), s8 = .slice oa i oc ∧ s9 = .int .i64 (i : Int) ∧ i ≤ n ∧ n - i ≤ q ∧ Hid (CP wr B (.slice oa i oc) gs (ss.take i) 0 ∧ Below B w wr))
  case atStart => exact ⟨0, [], _, _, rfl, rfl, by omega, by omega, (CP.start _).le (by have := HB1.out.size; have := HB.out; omega), HB1.out.alloc (by have := HB1.out.size; have := HB.out; omega) _⟩
  case round =>
    obtain ⟨ws, hren⟩ : ∃ x, x = wr := ⟨_, rfl⟩
    subst hren
    obtain ⟨i, gs, oa, oc, rfl, rfl, hi1, hi2, HR⟩ := hrel
    have hiI : (i : Int) ≤ 1500 := by omega
    by_cases hil : i < n
    · as_aux_lemma =>
        have hilI : (i : Int) < (n : Int) := by omega
        have his : i < ss.length := by rw [HN.out]; exact hil
        have hiv : i < vals.length := by rw [HL.out.len]; exact his
        obtain ⟨hcp, hbw⟩ := HR.out
        obtain ⟨g, o, hA, hc⟩ := HL.out.rd i vals[i] (List.getElem?_eq_getElem hiv)
        subst hA
        have hrs := HL.out.rs i vals[i] ss[i] (List.getElem?_eq_getElem hiv) (List.getElem?_eq_getElem his)
        obtain ⟨sa, sc, hse, _⟩ := id hrs
        obtain ⟨L, hL⟩ : ∃ L, ss[i].length = L := ⟨_, rfl⟩
        rw [hL] at hse
        rw [hse] at hc hrs
        have hLb : L ≤ 1500 := by have := totS_at ss his; rw [hL] at this; have := HF.out; omega
        have hLI : (L : Int) ≤ 1500 := by omega
        obtain ⟨hs, hhs⟩ : ∃ hs, ws.heap.size = hs := ⟨_, rfl⟩
        have hBs : B ≤ hs := by have := hbw.size; have := HB.out; omega
        have hrs2 := hrs.below hbw (Nat.le_of_eq HB.out)
        obtain ⟨Z, wz, hmk, hcpy, hb2, ⟨z0, z1, c0, c1⟩, f0, f1, hblk, hb3⟩ := copied ws L sc sa ss[i] hL (by omega) hrs2 hs hhs
        have q0 := cell_below hc hbw (Nat.le_of_eq HB.out)
        have q1 : (ws.alloc (.cells Z 29)).cell? ⟨g, o + i, none⟩ = some (.slice sa L sc) := cell_up q0 _
        have q2 := cell_below q0 hb2 (by omega)
        have q3 := cell_below q0 hb3 (by omega)
        obtain ⟨wy, hwy⟩ : ∃ wy, (wz.setCell ⟨hs, L * 2, none⟩ (.int .i64 (-77))).setCell ⟨hs, L * 2 + 1, none⟩ (.int .i64 0) = wy := ⟨_, rfl⟩
        rw [hwy] at hblk hb3 q3
        have hgl : gs.length = i := by rw [hcp.gl, List.length_take]; omega
        have HX : Hid (CP ws B (.slice oa i oc) gs (ss.take i) 0 ∧ Below B w ws ∧ ws.heap.size = hs ∧ wy.heap[hs]? = some (.cells (fl (ss[i] ++ [(-77, 0)])).toArray 29 (0, 0)) ∧ Below hs ws wy ∧ ss[i].length = L ∧ gs.length = i) := ⟨hcp, hbw, hhs, hblk, hb3, hL, hgl⟩
        have HO : Hid ((wy.alloc (.cells #[.slice (some ⟨hs, 0, none⟩) L (L + 1)] 27)).ownsRow B 27 1 (.slice oa i oc) i (cpv gs (ss.take i))) := by
          have := (hcp.below hb3 (Nat.le_of_eq hhs)).own
          rw [hgl] at this
          exact World.ownsRow.alloc this _
        have hys : B ≤ wy.heap.size := by have := hb3.size; omega
        clear hcp hbw hhs hblk hb2 hb3 hL hc hrs hrs2 hse HR hgl hiv
        go_wp2_with (at_builtin; go_must (refine push_V4 rfl _ _ rfl B (.slice oa i oc) i (cpv gs (ss.take i)) rfl HO.out _ _ (.slice (some ⟨hs, 0, none⟩) L (L + 1)) rfl (by simp) rfl (by omega) (by simp; omega) ?_; intro gg cap wn hq1 hq2; have HQ := Hid.mk' (And.intro hq1 hq2); clear hq1 hq2))
        go_roundg (n - (i + 1))
        case measure => omega
        case rel =>
          refine ⟨i + 1, gs ++ [hs], _, _, rfl, rfl, by omega, Nat.le_refl _, ?_⟩
          obtain ⟨x1, x2, x3, x4, x5, x6, x7⟩ := HX.out
          obtain ⟨y1, y2⟩ := HQ.out
          have hb4 : Below hs ws (wy.alloc (.cells #[.slice (some ⟨hs, 0, none⟩) L (L + 1)] 27)) := x5.alloc (by have := x5.size; omega) _
          have hb5 := (hb4.mono hBs).trans (y2.below (fun k hk => (World.ownsRow.lt HO.out k hk).1) (by simp; omega))
          refine ⟨?_, x2.trans hb5⟩
          rw [List.take_succ_eq_append_getElem his]
          have := x1.push (s := ss[i]) (W1 := wy.alloc (.cells #[.slice (some ⟨hs, 0, none⟩) L (L + 1)] 27)) (W2 := wn) (by omega) (by rw [x3]; exact hb4) (by rw [x3]; exact blk_up x4 _) (by rw [x3, x6, x7]; exact y1) y2
          rw [x3] at this
          exact this
    · have hie : n = i := by omega
      subst hie
      have hge : ¬ (n : Int) < (n : Int) := by omega
      obtain ⟨hcp, hbw⟩ := HR.out
      rw [List.take_of_length_le (by have := HN.out; omega)] at hcp
      have hpos : 0 < B := by have := HT.out.pos; have := HB.out; omega
      have HNW := Hid.mk' (new_any (.slice oa n oc) ss ws (HT.out.below hbw hpos) hcp.sr (by have := HF.out; have := HN.out; omega) (fun hv => by have := HF.out; rw [allT_len]; omega))
      have HRN : Hid (∀ W, Below ws.heap.size ws W → Calls Tryd.prog 9 #[.slice A n c] W (RNQ W ss)) := fun W hW => rnew_walk A n c vals ss W HN.out hn15 (HL.out.below (hbw.trans (hW.mono (by have := hbw.size; have := HB.out; omega))) (Nat.le_of_eq HB.out))
      obtain ⟨b2, hb2⟩ : ∃ b2, ws.heap.size = b2 := ⟨_, rfl⟩
      have HGB : Hid (∀ g ∈ gs, g < b2) := fun g hg => by rw [← hb2]; exact (hcp.mem hg).2.1
      have hBb : B ≤ b2 := by have := hbw.size; have := HB.out; omega
      have HCP := Hid.mk' (And.intro hcp (And.intro hbw hb2))
      have HN2 : Hid (ws.heap.size = b2) := hb2
      clear hcp hbw hb2 HR HB1
      go_wp2_with (go_at_call 8; refine HNW.out.mono ?_; rintro e w3 (⟨hv, Bt, rfl, hq⟩ | ⟨hv, rfl, hg⟩))
      rotate_left
      · as_aux_lemma =>
          have hb3 : Below b2 ws w3 := by rw [← HN2.out]; exact hg.below
          refine (HRN.out w3 hg.below).mono ?_
          rintro e w4 (⟨hv2, _⟩ | ⟨_, rfl, hb4⟩)
          · obtain ⟨s', hs', hf'⟩ := hv
            exact absurd (hv2 s' hs') (by rw [hf']; simp)
          have hb34 : Below b2 ws w4 := hb3.trans (hb4.mono (by have := hb3.size; have := HN2.out; omega))
          have HST : Hid (CP w4 B (.slice oa n oc) gs ss 0 ∧ Below B w w4) := ⟨HCP.out.1.below hb34 (Nat.le_of_eq HN2.out), HCP.out.2.1.trans (hb34.mono hBb)⟩
          clear hb3 hb4 hb34 hg hv HNW HRN HCP
          go_wp2
          go_loopg [15] n (fun q s15 wl => ∃ i : Nat, s15 = .int .i64 (i : Int) ∧ i ≤ n ∧ n - i ≤ q ∧ Hid (CP wl B (.slice oa n oc) gs ss i ∧ Below B w wl))
          case atStart => exact ⟨0, rfl, by omega, by omega, HST.out⟩
          case round =>
            obtain ⟨wl, hren⟩ : ∃ x, x = wr := ⟨_, rfl⟩
            subst hren
            obtain ⟨i, rfl, hi1, hi2, HR⟩ := hrel
            clear HST
            have hiI : (i : Int) ≤ 1500 := by omega
            by_cases hil : i < n
            · as_aux_lemma =>
                have hilI : (i : Int) < (n : Int) := by omega
                have his : i < ss.length := by rw [HN.out]; exact hil
                have hiv : i < vals.length := by rw [HL.out.len]; exact his
                obtain ⟨hcp, hbw⟩ := HR.out
                obtain ⟨g, o, hA, hc⟩ := HL.out.rd i vals[i] (List.getElem?_eq_getElem hiv)
                subst hA
                have hrs := HL.out.rs i vals[i] ss[i] (List.getElem?_eq_getElem hiv) (List.getElem?_eq_getElem his)
                obtain ⟨sa, sc, hse, _⟩ := id hrs
                obtain ⟨L, hL⟩ : ∃ L, ss[i].length = L := ⟨_, rfl⟩
                rw [hL] at hse
                rw [hse] at hc hrs
                have hLb : L ≤ 1500 := by have := totS_at ss his; rw [hL] at this; have := HF.out; omega
                have hLI : (L : Int) ≤ 1500 := by omega
                obtain ⟨gi, hgi⟩ : ∃ gi, gs[i]? = some gi := ⟨_, List.getElem?_eq_getElem (by rw [hcp.gl]; exact his)⟩
                have hsi : ss[i]? = some ss[i] := List.getElem?_eq_getElem his
                obtain ⟨ob, oc2, hov, hoc, hcell⟩ := hcp.cell hgi hsi
                obtain ⟨hrg, m0, m1⟩ := hcp.marks (Nat.le_refl _) hgi hsi
                have hobne : ob ≠ gi := fun e => hcp.ne (b := ob) (by rw [hov]; rfl) (e ▸ List.mem_of_getElem? hgi)
                injection hov with hov1 hov2 hov3
                subst hov1
                clear hov2 hov3 hoc
                rw [hL] at hcell m0 m1 hrg
                have q0 := cell_below hc hbw (Nat.le_of_eq HB.out)
                have hrl := hrs.below hbw (Nat.le_of_eq HB.out)
                have HRG : Hid (∀ q os, Calls Tryd.prog 10 #[.slice (some ⟨gi, 0, none⟩) L (L + 1), .slice sa L sc] (Go.Sort.grow (wl.drewN q) os) fun e w' => e = .returned (.bool true) ∧ Grown (Go.Sort.grow (wl.drewN q) os) w') := fun q os => by
                  have hg := ((Grown.refl wl).quiet q os).below
                  have := ranges_walk (some ⟨gi, 0, none⟩) L (L + 1) sa L sc ss[i] ss[i] _ (hrg.below hg (Nat.le_refl _)) (hrl.below hg (Nat.le_refl _)) (by omega)
                  rw [show decide (ss[i] = ss[i]) = true by simp] at this
                  exact this
                have cO : ∀ q os, (Go.Sort.grow (wl.drewN q) os).cell? ⟨ob, i, none⟩ = some (.slice (some ⟨gi, 0, none⟩) L (L + 1)) := fun q os => ((Grown.refl wl).quiet q os).cellv hcell
                have cL : ∀ q os, (Go.Sort.grow (wl.drewN q) os).cell? ⟨g, o + i, none⟩ = some (.slice sa L sc) := fun q os => ((Grown.refl wl).quiet q os).cellv q0
                have cm0 : ∀ q os, (Go.Sort.grow (wl.drewN q) os).cell? ⟨gi, L * 2, none⟩ = some (.int .i64 (-77)) := fun q os => ((Grown.refl wl).quiet q os).cellv m0
                have cm1 : ∀ q os, (Go.Sort.grow (wl.drewN q) os).cell? ⟨gi, L * 2 + 1, none⟩ = some (.int .i64 0) := fun q os => ((Grown.refl wl).quiet q os).cellv m1
                obtain ⟨tb, tcur, tblk, tsz, _⟩ := hcp.ty i gi ss[i] hgi hsi
                rw [hL] at tsz
                have HX : Hid ((CP wl B (.slice (some ⟨ob, 0, none⟩) n oc) gs ss i ∧ Below B w wl) ∧ gs[i]? = some gi ∧ ss[i]? = some ss[i] ∧ ss[i].length = L ∧ wl.cell? ⟨ob, i, none⟩ = some (.slice (some ⟨gi, 0, none⟩) L (L + 1)) ∧ ob ≠ gi ∧ B ≤ gi ∧ wl.heap[gi]? = some (.cells tcur 29 (0, 0)) ∧ tcur.size = (L + 1) * 2) := ⟨HR.out, hgi, hsi, hL, hcell, hobne, tb, tblk, tsz⟩
                clear hcp hbw hc hrs hse hL hgi hsi hcell hrg hrl m0 m1 q0 HR hiv hobne tb tblk tsz
                go_wp2
                refine wp_region_quiet_grown mixed (by kernel_rfl) ?_
                repeat (go_big_quiet_step ((go_at_call 10; exact grown_of (HRG.out _ _))))
                refine wpQuiet_nil ?_
                intro _ hw'
                obtain ⟨⟨nq, osq⟩, hw''⟩ := hw'
                subst hw''
                have cO := cO nq osq
                have cL := cL nq osq
                have cm0 := cm0 nq osq
                have cm1 := cm1 nq osq
                go_wp2
                go_big_quiet (fail)
                go_wp2
                clear cO cL cm0 cm1 HRG
                go_loopg [17] L (fun q s17 wi => ∃ k : Nat, s17 = .int .i64 (k : Int) ∧ k ≤ L ∧ L - k ≤ q ∧ Hid (Fr wl wi (fun x => x = gi) ∧ ∃ cur : Array Value, wi.heap[gi]? = some (.cells cur 29 (0, 0)) ∧ cur.size = (L + 1) * 2))
                case atStart =>
                  have hG : ∀ a b, Grown wl ((Go.Sort.grow (wl.drewN a) osq).drewN b) := fun a b => ((Grown.refl wl).quiet a osq).drewN b
                  exact ⟨0, rfl, by omega, by omega, fr_grown (hG _ _) _, tcur, ((hG _ _).below.block _ (blk_lt HX.out.2.2.2.2.2.2.2.1)).trans HX.out.2.2.2.2.2.2.2.1, HX.out.2.2.2.2.2.2.2.2⟩
                case round =>
                  obtain ⟨wi, hren⟩ : ∃ x, x = wr := ⟨_, rfl⟩
                  subst hren
                  obtain ⟨k, rfl, hk1, hk2, HK⟩ := hrel
                  have hkI : (k : Int) ≤ 1500 := by omega
                  obtain ⟨hfr, cur, hblk, hsz⟩ := HK.out
                  have hco : wi.cell? ⟨ob, i, none⟩ = some (.slice (some ⟨gi, 0, none⟩) L (L + 1)) := (cell_fr hfr (cell_lt (a := ⟨ob, i, none⟩) HX.out.2.2.2.2.1) HX.out.2.2.2.2.2.1).trans HX.out.2.2.2.2.1
                  by_cases hkl : k < L
                  · have hklI : (k : Int) < (L : Int) := by omega
                    have c0 : wi.cell? ⟨gi, k * 2, none⟩ = some cur[k * 2] := heap_cellv hblk (Array.getElem?_eq_getElem (by omega))
                    have c1 : wi.cell? ⟨gi, k * 2 + 1, none⟩ = some cur[k * 2 + 1] := heap_cellv hblk (Array.getElem?_eq_getElem (by omega))
                    generalize cur[k * 2] = y0 at c0
                    generalize cur[k * 2 + 1] = y1 at c1
                    have f0 : wi.frozen? ⟨gi, k * 2, none⟩ = false := free_of hblk
                    have f1 : wi.frozen? ⟨gi, k * 2 + 1, none⟩ = false := free_of hblk
                    clear hfr hblk hsz
                    go_wp2
                    go_roundg (L - (k + 1))
                    case measure => omega
                    case rel =>
                      obtain ⟨hfr, cur, hblk, hsz⟩ := HK.out
                      exact ⟨k + 1, rfl, by omega, Nat.le_refl _, (hfr.trans (fr_set _ _ _ _) fun _ _ e => e).trans (fr_set _ _ _ _) fun _ _ e => e, _, set_heap (set_heap hblk), by simpa using hsz⟩
                  · have hkl2 : k = L := by omega
                    subst hkl2
                    have hge : ¬ (k : Int) < (k : Int) := by omega
                    clear hfr hblk hsz
                    go_wp2
                    go_roundg (n - (i + 1))
                    case measure => omega
                    case rel =>
                      obtain ⟨hfr, cur, hblk, hsz⟩ := HK.out
                      obtain ⟨⟨x1, x2⟩, x4, x5, x6, x7, x8, x9, x10, x11⟩ := HX.out
                      have hlt := blk_lt x10
                      exact ⟨i + 1, rfl, by omega, Nat.le_refl _, x1.write x4 x5 hfr ⟨cur, hblk, by rw [x6]; exact hsz⟩, x2.trans (hfr.below (fun y e => by have e : y = gi := e; omega) (by omega))⟩
            · have hie : n = i := by omega
              subst hie
              have hge : ¬ (n : Int) < (n : Int) := by omega
              go_wp2
              go_ret
              exact ⟨rfl, HR.out.2⟩
      obtain ⟨LL, L0, all, s, ha, hb3⟩ := hq.out.atm (by have := HN.out; omega)
      refine (HRN.out w3 hb3).mono ?_
      rintro e w4 (⟨_, R, rA, rn, rc, rvals, la, ln, lc, ats, P, rfl, hrt, hP, hb4⟩ | ⟨⟨s', hs', hf'⟩, _⟩)
      rotate_left
      · exact absurd (hv s' hs') (by rw [hf']; simp)
      obtain ⟨LL2, hL2⟩ : ∃ LL2, rfill ss P = LL2 := ⟨_, rfl⟩
      have hRI : RI ss P LL2 := by
        have := rfill_RI hP P.length (Nat.le_refl _)
        rw [List.take_of_length_le (Nat.le_refl _), hL2] at this
        exact this
      rw [hL2] at hrt
      have hb3' : Below b2 ws w3 := by rw [← HN2.out]; exact hb3
      have hb34 : Below b2 ws w4 := hb3'.trans (hb4.mono (by have := hb3'.size; have := HN2.out; omega))
      have htw : TW w4 b2 Bt R ss LL L0 all s LL2 := by
        rw [← HN2.out]
        exact ⟨ha.below hb4 (Nat.le_refl _), w3.heap.size, rA, rn, rc, rvals, la, ln, lc, ats, hb3.size, hrt⟩
      have HST : Hid (CP w4 B (.slice oa n oc) gs ss 0 ∧ Below B w w4 ∧ TW w4 b2 Bt R ss LL L0 all s LL2) := ⟨HCP.out.1.below hb34 (Nat.le_of_eq HN2.out), HCP.out.2.1.trans (hb34.mono hBb), htw⟩
      have HPR : Hid (Pcs ss P ∧ RI ss P LL2) := ⟨hP, hRI⟩
      have HT0 := Hid.mk' htw
      obtain ⟨N, hNe⟩ : ∃ N, LL2.length = N := ⟨_, rfl⟩
      have HNE := Hid.mk' hNe
      have hN10 : N ≤ 10000 := by rw [← hNe, ← (both_same ha.done hP hRI).2.1]; exact ha.b2
      have HLN : Hid (∀ W, TW W b2 Bt R ss LL L0 all s LL2 → Calls Tryd.prog 11 #[.pointer (some ⟨Bt, 0, none⟩)] W (fun e w' => e = .returned (.int .i64 (N : Int)) ∧ w' = W) ∧ Calls Tryd.prog 12 #[.pointer (some ⟨R, 0, none⟩)] W (fun e w' => e = .returned (.int .i64 (N : Int)) ∧ w' = W)) := fun W hW => by
        have := hW.lens HPR.out.1 HPR.out.2
        rw [HNE.out] at this; exact this
      clear hb3 hb4 hb34 hb3' hv hq ha hrt hP hRI hL2 htw hNe HNW HRN HCP
      go_wp2
      go_loopg [15] n (fun q s15 wl => ∃ i : Nat, s15 = .int .i64 (i : Int) ∧ i ≤ n ∧ n - i ≤ q ∧ Hid (CP wl B (.slice oa n oc) gs ss i ∧ Below B w wl ∧ TW wl b2 Bt R ss LL L0 all s LL2))
      case atStart => exact ⟨0, rfl, by omega, by omega, HST.out⟩
      case round =>
        obtain ⟨wl, hren⟩ : ∃ x, x = wr := ⟨_, rfl⟩
        subst hren
        obtain ⟨i, rfl, hi1, hi2, HR⟩ := hrel
        clear HST
        have hiI : (i : Int) ≤ 1500 := by omega
        by_cases hil : i < n
        · as_aux_lemma =>
            have hilI : (i : Int) < (n : Int) := by omega
            have his : i < ss.length := by rw [HN.out]; exact hil
            have hiv : i < vals.length := by rw [HL.out.len]; exact his
            obtain ⟨hcp, hbw, htw⟩ := HR.out
            obtain ⟨g, o, hA, hc⟩ := HL.out.rd i vals[i] (List.getElem?_eq_getElem hiv)
            subst hA
            have hrs := HL.out.rs i vals[i] ss[i] (List.getElem?_eq_getElem hiv) (List.getElem?_eq_getElem his)
            obtain ⟨sa, sc, hse, _⟩ := id hrs
            obtain ⟨L, hL⟩ : ∃ L, ss[i].length = L := ⟨_, rfl⟩
            rw [hL] at hse
            rw [hse] at hc hrs
            have hLb : L ≤ 1500 := by have := totS_at ss his; rw [hL] at this; have := HF.out; omega
            have hLI : (L : Int) ≤ 1500 := by omega
            obtain ⟨gi, hgi⟩ : ∃ gi, gs[i]? = some gi := ⟨_, List.getElem?_eq_getElem (by rw [hcp.gl]; exact his)⟩
            have hsi : ss[i]? = some ss[i] := List.getElem?_eq_getElem his
            obtain ⟨ob, oc2, hov, hoc, hcell⟩ := hcp.cell hgi hsi
            obtain ⟨hrg, m0, m1⟩ := hcp.marks (Nat.le_refl _) hgi hsi
            have hobne : ob ≠ gi := fun e => hcp.ne (b := ob) (by rw [hov]; rfl) (e ▸ List.mem_of_getElem? hgi)
            injection hov with hov1 hov2 hov3
            subst hov1
            clear hov2 hov3 hoc
            rw [hL] at hcell m0 m1 hrg
            have q0 := cell_below hc hbw (Nat.le_of_eq HB.out)
            have hrl := hrs.below hbw (Nat.le_of_eq HB.out)
            have HRG : Hid (∀ q os, Calls Tryd.prog 10 #[.slice (some ⟨gi, 0, none⟩) L (L + 1), .slice sa L sc] (Go.Sort.grow (wl.drewN q) os) fun e w' => e = .returned (.bool true) ∧ Grown (Go.Sort.grow (wl.drewN q) os) w') := fun q os => by
              have hg := ((Grown.refl wl).quiet q os).below
              have := ranges_walk (some ⟨gi, 0, none⟩) L (L + 1) sa L sc ss[i] ss[i] _ (hrg.below hg (Nat.le_refl _)) (hrl.below hg (Nat.le_refl _)) (by omega)
              rw [show decide (ss[i] = ss[i]) = true by simp] at this
              exact this
            have cO : ∀ q os, (Go.Sort.grow (wl.drewN q) os).cell? ⟨ob, i, none⟩ = some (.slice (some ⟨gi, 0, none⟩) L (L + 1)) := fun q os => ((Grown.refl wl).quiet q os).cellv hcell
            have cL : ∀ q os, (Go.Sort.grow (wl.drewN q) os).cell? ⟨g, o + i, none⟩ = some (.slice sa L sc) := fun q os => ((Grown.refl wl).quiet q os).cellv q0
            have cm0 : ∀ q os, (Go.Sort.grow (wl.drewN q) os).cell? ⟨gi, L * 2, none⟩ = some (.int .i64 (-77)) := fun q os => ((Grown.refl wl).quiet q os).cellv m0
            have cm1 : ∀ q os, (Go.Sort.grow (wl.drewN q) os).cell? ⟨gi, L * 2 + 1, none⟩ = some (.int .i64 0) := fun q os => ((Grown.refl wl).quiet q os).cellv m1
            obtain ⟨tb, tcur, tblk, tsz, _⟩ := hcp.ty i gi ss[i] hgi hsi
            rw [hL] at tsz
            have HX : Hid ((CP wl B (.slice (some ⟨ob, 0, none⟩) n oc) gs ss i ∧ Below B w wl ∧ TW wl b2 Bt R ss LL L0 all s LL2) ∧ gs[i]? = some gi ∧ ss[i]? = some ss[i] ∧ ss[i].length = L ∧ wl.cell? ⟨ob, i, none⟩ = some (.slice (some ⟨gi, 0, none⟩) L (L + 1)) ∧ ob ≠ gi ∧ B ≤ gi ∧ wl.heap[gi]? = some (.cells tcur 29 (0, 0)) ∧ tcur.size = (L + 1) * 2) := ⟨HR.out, hgi, hsi, hL, hcell, hobne, tb, tblk, tsz⟩
            clear hcp hbw hc hrs hse hL hgi hsi hcell hrg hrl m0 m1 q0 HR hiv hobne tb tblk tsz
            go_wp2
            refine wp_region_quiet_grown mixed (by kernel_rfl) ?_
            repeat (go_big_quiet_step ((go_at_call 10; exact grown_of (HRG.out _ _))))
            refine wpQuiet_nil ?_
            intro _ hw'
            obtain ⟨⟨nq, osq⟩, hw''⟩ := hw'
            subst hw''
            have cO := cO nq osq
            have cL := cL nq osq
            have cm0 := cm0 nq osq
            have cm1 := cm1 nq osq
            go_wp2
            go_big_quiet (fail)
            go_wp2
            clear cO cL cm0 cm1 HRG
            go_loopg [17] L (fun q s17 wi => ∃ k : Nat, s17 = .int .i64 (k : Int) ∧ k ≤ L ∧ L - k ≤ q ∧ Hid (Fr wl wi (fun x => x = gi) ∧ ∃ cur : Array Value, wi.heap[gi]? = some (.cells cur 29 (0, 0)) ∧ cur.size = (L + 1) * 2))
            case atStart =>
              have hG : ∀ a b, Grown wl ((Go.Sort.grow (wl.drewN a) osq).drewN b) := fun a b => ((Grown.refl wl).quiet a osq).drewN b
              exact ⟨0, rfl, by omega, by omega, fr_grown (hG _ _) _, tcur, ((hG _ _).below.block _ (blk_lt HX.out.2.2.2.2.2.2.2.1)).trans HX.out.2.2.2.2.2.2.2.1, HX.out.2.2.2.2.2.2.2.2⟩
            case round =>
              obtain ⟨wi, hren⟩ : ∃ x, x = wr := ⟨_, rfl⟩
              subst hren
              obtain ⟨k, rfl, hk1, hk2, HK⟩ := hrel
              have hkI : (k : Int) ≤ 1500 := by omega
              obtain ⟨hfr, cur, hblk, hsz⟩ := HK.out
              have hco : wi.cell? ⟨ob, i, none⟩ = some (.slice (some ⟨gi, 0, none⟩) L (L + 1)) := (cell_fr hfr (cell_lt (a := ⟨ob, i, none⟩) HX.out.2.2.2.2.1) HX.out.2.2.2.2.2.1).trans HX.out.2.2.2.2.1
              by_cases hkl : k < L
              · have hklI : (k : Int) < (L : Int) := by omega
                have c0 : wi.cell? ⟨gi, k * 2, none⟩ = some cur[k * 2] := heap_cellv hblk (Array.getElem?_eq_getElem (by omega))
                have c1 : wi.cell? ⟨gi, k * 2 + 1, none⟩ = some cur[k * 2 + 1] := heap_cellv hblk (Array.getElem?_eq_getElem (by omega))
                generalize cur[k * 2] = y0 at c0
                generalize cur[k * 2 + 1] = y1 at c1
                have f0 : wi.frozen? ⟨gi, k * 2, none⟩ = false := free_of hblk
                have f1 : wi.frozen? ⟨gi, k * 2 + 1, none⟩ = false := free_of hblk
                clear hfr hblk hsz
                go_wp2
                go_roundg (L - (k + 1))
                case measure => omega
                case rel =>
                  obtain ⟨hfr, cur, hblk, hsz⟩ := HK.out
                  exact ⟨k + 1, rfl, by omega, Nat.le_refl _, (hfr.trans (fr_set _ _ _ _) fun _ _ e => e).trans (fr_set _ _ _ _) fun _ _ e => e, _, set_heap (set_heap hblk), by simpa using hsz⟩
              · have hkl2 : k = L := by omega
                subst hkl2
                have hge : ¬ (k : Int) < (k : Int) := by omega
                clear hfr hblk hsz
                go_wp2
                go_roundg (n - (i + 1))
                case measure => omega
                case rel =>
                  obtain ⟨hfr, cur, hblk, hsz⟩ := HK.out
                  obtain ⟨⟨x1, x2, x3⟩, x4, x5, x6, x7, x8, x9, x10, x11⟩ := HX.out
                  have hlt := blk_lt x10
                  exact ⟨i + 1, rfl, by omega, Nat.le_refl _, x1.write x4 x5 hfr ⟨cur, hblk, by rw [x6]; exact hsz⟩, x2.trans (hfr.below (fun y e => by have e : y = gi := e; omega) (by omega)), x3.fr hfr fun y e => .inl (by have e : y = gi := e; rw [e]; exact HGB.out gi (List.mem_of_getElem? x4))⟩
        · have hie : n = i := by omega
          subst hie
          have hge : ¬ (n : Int) < (n : Int) := by omega
          have HW : Hid (Below B w wl ∧ TW wl b2 Bt R ss LL L0 all s LL2) := HR.out.2
          clear HR
          go_wp2_with (first | (go_at_call 11; refine (HLN.out _ HW.out.2).1.mono ?_; rintro e wx ⟨rfl, rfl⟩) | (go_at_call 12; refine (HLN.out _ HW.out.2).2.mono ?_; rintro e wx ⟨rfl, rfl⟩))
          have HOF : Hid (∀ W x, TW W b2 Bt R ss LL L0 all s LL2 → ∃ y, Calls Tryd.prog 13 #[.pointer (some ⟨Bt, 0, none⟩), .int .i64 x] W (fun e w' => e = .returned (.int .i64 y) ∧ Below W.heap.size W w') ∧ Calls Tryd.prog 14 #[.pointer (some ⟨R, 0, none⟩), .int .i64 x] W (fun e w' => e = .returned (.int .i64 y) ∧ Below W.heap.size W w')) := fun W x hW => ⟨_, hW.ofs HPR.out.1 HPR.out.2 x⟩
          go_loopg [18] un (fun q s18 wu => ∃ i : Nat, s18 = .int .i64 (i : Int) ∧ i ≤ un ∧ un - i ≤ q ∧ Hid (Below B w wu ∧ TW wu b2 Bt R ss LL L0 all s LL2))
          case atStart => exact ⟨0, rfl, by omega, by omega, HW.out⟩
          case round =>
            obtain ⟨wu, hren⟩ : ∃ x, x = wr := ⟨_, rfl⟩
            subst hren
            obtain ⟨i, rfl, hi1, hi2, HR⟩ := hrel
            clear HW
            have hiI : (i : Int) ≤ 1048576 := by omega
            by_cases hil : i < un
            · as_aux_lemma =>
                have hilI : (i : Int) < (un : Int) := by omega
                obtain ⟨hbw, htw⟩ := HR.out
                obtain ⟨⟨ua', uc', hue, hucap, hur⟩, hulen⟩ := HU.out
                injection hue with hue1 hue2 hue3
                subst hue1
                have hiu : i < us.length := by omega
                obtain ⟨ug, uo, hua, hrd⟩ := hur.resolve_left (fun e => by rw [e] at hiu; simp at hiu)
                subst hua
                have hcu := hrd i hiu
                generalize us[i] = x at hcu
                obtain ⟨bu, hbu⟩ : ∃ bu, wu.heap.size = bu := ⟨_, rfl⟩
                have htp : ∀ p : BelowOf wu, TW p.world b2 Bt R ss LL L0 all s LL2 := fun p => htw.below p.below (Nat.le_refl _)
                have HO : Hid (∃ y, ∀ p : BelowOf wu, Calls Tryd.prog 13 #[.pointer (some ⟨Bt, 0, none⟩), .int .i64 x] p.world (fun e w' => e = .returned (.int .i64 y) ∧ Below p.world.heap.size p.world w') ∧ Calls Tryd.prog 14 #[.pointer (some ⟨R, 0, none⟩), .int .i64 x] p.world (fun e w' => e = .returned (.int .i64 y) ∧ Below p.world.heap.size p.world w')) := ⟨rofP ss LL2 x, fun p => (htp p).ofs HPR.out.1 HPR.out.2 x⟩
                obtain ⟨y, HO⟩ := HO.out
                have HO := Hid.mk' HO
                have cU : ∀ p : BelowOf wu, p.world.cell? ⟨ug, uo + i, none⟩ = some (.int .i64 x) := fun p => cell_below (cell_below hcu hbw (Nat.le_of_eq HB.out)) p.below (Nat.le_refl _)
                clear hucap hue2 hue3 hur hrd hcu htp hulen hiu hbw htw hbu
                go_wp2
                refine wp_region_quiet_below mixed (by kernel_rfl) ?_
                repeat (go_big_quiet_step (first | (go_at_call 13; exact below_of (HO.out _).1) | (go_at_call 14; exact below_of (HO.out _).2)))
                refine wpQuiet_nil ?_
                intro W2 hw'
                have HB2 : Hid (Below wu.heap.size wu W2) := by obtain ⟨⟨W', h⟩, e⟩ := hw'; rw [e]; exact h
                clear hw' cU
                go_wp2
                go_roundg (un - (i + 1))
                case measure => omega
                case rel =>
                  obtain ⟨hbw, htw⟩ := HR.out
                  exact ⟨i + 1, rfl, by omega, Nat.le_refl _, hbw.trans (HB2.out.mono (by have := hbw.size; have := HB.out; omega)), htw.below HB2.out (Nat.le_refl _)⟩
            · have hge : ¬ (i : Int) < (un : Int) := by omega
              have HW := Hid.mk' HR.out
              clear HR HOF
              go_wp2
              go_loopg [19] (N + 2) (fun q s19 wl => ∃ z : Int, s19 = .int .i64 z ∧ -1 ≤ z ∧ z ≤ N + 1 ∧ (N + 1 - z).toNat ≤ q ∧ Hid (Below B w wl ∧ TW wl b2 Bt R ss LL L0 all s LL2))
              case atStart => exact ⟨-1, rfl, by omega, by omega, by omega, HW.out⟩
              case round =>
                obtain ⟨wl, hren⟩ : ∃ x, x = wr := ⟨_, rfl⟩
                subst hren
                obtain ⟨z, rfl, hz1, hz2, hz3, HR⟩ := hrel
                clear HW
                by_cases hzN : z ≤ (N : Int)
                · by_cases hz2h : z < 200
                  · as_aux_lemma =>
                      obtain ⟨l, is, hlen, hset⟩ := HT0.out.sets HPR.out.1 HPR.out.2 z
                      obtain ⟨bn, hin⟩ := HT0.out.ins HPR.out.1 HPR.out.2 z m
                      obtain ⟨ln, hln⟩ : ∃ ln, l.length = ln := ⟨_, rfl⟩
                      have HLL := Hid.mk' hln
                      have HSET : Hid (∀ W, TW W b2 Bt R ss LL L0 all s LL2 → Calls Tryd.prog 15 #[.pointer (some ⟨Bt, 0, none⟩), .int .i64 z] W (fun e w' => ∃ a c, e = .returned (.tuple #[.slice a ln c, .bool is]) ∧ OwnR w' W.heap.size (.slice a ln c) l ∧ Below W.heap.size W w') ∧ Calls Tryd.prog 16 #[.pointer (some ⟨R, 0, none⟩), .int .i64 z] W (fun e w' => ∃ a c, e = .returned (.tuple #[.slice a ln c, .bool is]) ∧ OwnR w' W.heap.size (.slice a ln c) l ∧ Below W.heap.size W w')) := fun W hW => by
                        have := hset W hW
                        unfold SetP at this
                        rw [hln] at this
                        exact this
                      have HIN := Hid.mk' hin
                      have HRW : Hid (∀ W a1 c1 a2 c2, Rs W (.slice a1 ln c1) l → Rs W (.slice a2 ln c2) l → Calls Tryd.prog 10 #[.slice a1 ln c1, .slice a2 ln c2] W fun e w' => e = .returned (.bool true) ∧ Grown W w') := fun W a1 c1 a2 c2 r1 r2 => by
                        have := ranges_walk a1 ln c1 a2 ln c2 l l W r1 r2 (by omega)
                        rw [show decide (l = l) = true by simp] at this
                        exact this
                      have hlnb : ln ≤ 10000 := by omega
                      have hlnI : (ln : Int) ≤ 10000 := by omega
                      obtain ⟨bl, hbl⟩ : ∃ bl, wl.heap.size = bl := ⟨_, rfl⟩
                      have HBL := Hid.mk' hbl
                      have HTL : Hid (∀ W, Below bl wl W → TW W b2 Bt R ss LL L0 all s LL2) := fun W hW => HR.out.2.below hW (Nat.le_of_eq hbl)
                      clear hset hin hln hbl hlen
                      have HV : Hid (Below bl wl wl) := Below.refl _ _
                      go_wp2_with (go_at_call 12; refine (HLN.out _ HR.out.2).2.mono ?_; rintro e wx ⟨rfl, hx⟩; have hx := hx.symm; subst hx)
                      refine (HSET.out _ (HTL.out _ HV.out)).1.mono ?_
                      rintro e wa ⟨aa, ac, rfl, hoa, hba⟩
                      rw [HBL.out] at hoa hba
                      have HA := Hid.mk' (And.intro hoa hba)
                      clear hoa hba HV
                      go_wp2_with fail
                      refine (HSET.out _ (HTL.out _ HA.out.2)).2.mono ?_
                      rintro e wb ⟨ba, bc, rfl, hob, hbb⟩
                      obtain ⟨sz, hsz⟩ : ∃ sz, wa.heap.size = sz := ⟨_, rfl⟩
                      rw [hsz] at hob hbb
                      have hszb : bl ≤ sz := by have := HA.out.2.size; have := HBL.out; omega
                      have HAB : Hid (OwnR wb bl (.slice aa ln ac) l ∧ OwnR wb sz (.slice ba ln bc) l ∧ Below bl wl wb ∧ sz ≤ wb.heap.size ∧ ∀ b, (Value.slice aa ln ac).ownBlock = some b → b < sz) := ⟨HA.out.1.below hbb (by omega), hob, HA.out.2.trans (hbb.mono hszb), by have := hbb.size; omega, fun b hb => by have := (World.ownsRow.lt HA.out.1 b hb).2; omega⟩
                      clear hob hbb hsz HA
                      go_wp2_with fail
                      refine (HRW.out _ _ _ _ _ HAB.out.1.rs HAB.out.2.1.rs).mono ?_
                      rintro e wc ⟨rfl, hgc⟩
                      have HGC := Hid.mk' hgc
                      clear hgc
                      have HTC : Hid (TW wc b2 Bt R ss LL L0 all s LL2) := (HTL.out _ HAB.out.2.2.1).grown HGC.out
                      go_wp2_with (first
                        | (go_at_call 17; refine (HIN.out _ HTC.out).1.mono ?_; rintro e wd ⟨rfl, hg⟩; have HG1 := Hid.mk' hg; clear hg)
                        | (go_at_call 18; refine (HIN.out _ (HTC.out.grown HG1.out)).2.mono ?_; rintro e we ⟨rfl, hg⟩; have HG2 := Hid.mk' hg; clear hg))
                      have HGE : Hid (Grown wb we) := (HGC.out.trans HG1.out).trans HG2.out
                      have HAE : Hid (OwnR we bl (.slice aa ln ac) l ∧ OwnR we sz (.slice ba ln bc) l ∧ Below bl wl we ∧ sz ≤ we.heap.size ∧ ∀ b, (Value.slice aa ln ac).ownBlock = some b → b < sz) := by
                        obtain ⟨a1, a2, a3, a4, a5⟩ := HAB.out
                        have hb := HGE.out.below
                        exact ⟨a1.below hb (Nat.le_refl _), a2.below hb (Nat.le_refl _), a3.trans (hb.mono (by have := HBL.out; omega)), by have := hb.size; omega, a5⟩
                      clear HGE HG1 HG2 HGC HTC HAB
                      go_loopg [25] ln (fun q s25 wi => ∃ k : Nat, s25 = .int .i64 (k : Int) ∧ k ≤ ln ∧ ln - k ≤ q ∧ Hid (∃ l' : List (Int × Int), l'.length = ln ∧ OwnR wi bl (.slice aa ln ac) l' ∧ Fr we wi (fun x => (Value.slice aa ln ac).ownBlock = some x)))
                      case atStart => exact ⟨0, rfl, by omega, by omega, l, HLL.out, HAE.out.1, Fr.refl _ _⟩
                      case round =>
                        obtain ⟨wi, hren⟩ : ∃ x, x = wr := ⟨_, rfl⟩
                        subst hren
                        obtain ⟨k, rfl, hk1, hk2, HK⟩ := hrel
                        have hkI : (k : Int) ≤ 10000 := by omega
                        obtain ⟨l', hl', hown, hfr⟩ := HK.out
                        by_cases hkl : k < ln
                        · have hklI : (k : Int) < (ln : Int) := by omega
                          obtain ⟨ga, gc, hae, _⟩ := own_form (n := ln) (by rw [← hl']; exact hown) (by omega)
                          injection hae with hae1 hae2 hae3
                          subst hae1
                          clear hae2 hae3
                          obtain ⟨⟨y0, y1, c0, c1⟩, ⟨f0, f1⟩, hown2⟩ := hown.wrote hl' hkl (-9) 0
                          have HO2 : Hid (l'.length = ln ∧ OwnR ((wi.setCell ⟨ga, k * 2, none⟩ (.int .i64 (-9))).setCell ⟨ga, k * 2 + 1, none⟩ (.int .i64 0)) bl (.slice (some ⟨ga, 0, none⟩) ln ac) (l'.set k (-9, 0)) ∧ Fr we wi (fun x => (Value.slice (some ⟨ga, 0, none⟩) ln ac).ownBlock = some x)) := ⟨hl', hown2, hfr⟩
                          clear hown hfr hown2 hl' HK
                          go_wp2
                          go_roundg (ln - (k + 1))
                          case measure => omega
                          case rel =>
                            obtain ⟨x1, x2, x3⟩ := HO2.out
                            exact ⟨k + 1, rfl, by omega, Nat.le_refl _, _, by rw [List.length_set]; exact x1, x2, (x3.trans (fr_set _ _ _ _) fun i _ e => by rw [show i = ga from e]; rfl).trans (fr_set _ _ _ _) fun i _ e => by rw [show i = ga from e]; rfl⟩
                        · have hkl2 : k = ln := by omega
                          subst hkl2
                          have hge : ¬ (k : Int) < (k : Int) := by omega
                          have HOW : Hid (l'.length = k ∧ OwnR wi bl (.slice aa k ac) l' ∧ OwnR wi sz (.slice ba k bc) l ∧ Below bl wl wi ∧ sz ≤ wi.heap.size ∧ ∀ b, (Value.slice aa k ac).ownBlock = some b → b < sz) := by
                            obtain ⟨a1, a2, a3, a4, a5⟩ := HAE.out
                            refine ⟨hl', hown, own_fr a2 hfr (fun b hb e => ?_), a3.trans (hfr.below (fun x hx => (World.ownsRow.lt a1 x hx).1) (by omega)), by have := hfr.size; omega, a5⟩
                            have := a5 b e
                            have := (World.ownsRow.lt a2 b hb).1
                            omega
                          have hwis : bl ≤ wi.heap.size := by have := HOW.out.2.2.2.2.1; omega
                          clear hown hfr hl' HK HAE
                          go_wp2_with (at_builtin; go_must (refine push_R rfl _ _ 27 rfl Tryd.underlying27 bl (.slice aa k ac) l' rfl (HOW.out.2.1.alloc _) _ _ (-8) 0 rfl (by simp) (by simp) (by have := HOW.out.1; omega) (by simp; omega) ?_; intro v' wf hq1 hq2 hq3; have HQ := Hid.mk' (And.intro hq1 (And.intro hq2 hq3)); clear hq1 hq2 hq3))
                          obtain ⟨va, vc, hve⟩ := own_len HQ.out.1
                          rw [List.length_append, HOW.out.1, List.length_singleton] at hve
                          subst hve
                          have HOF : Hid (OwnR wf sz (.slice ba k bc) l ∧ Below bl wl wf ∧ sz ≤ wf.heap.size) := by
                            obtain ⟨a0, a1, a2, a3, a4, a5⟩ := HOW.out
                            obtain ⟨q1, q2, q3⟩ := HQ.out
                            refine ⟨own_fr (OwnR.alloc a2 _) (fr_by q2) (fun b hb e => ?_), (a3.alloc hwis _).trans q3, ?_⟩
                            · have := a5 b e
                              have := (World.ownsRow.lt a2 b hb).1
                              omega
                            · have := q3.size
                              have e2 : (wi.alloc (.cells #[.int .i64 (-8), .int .i64 0] 29)).heap.size = wi.heap.size + 1 := by simp
                              omega
                          clear HQ HOW
                          go_wp2_with fail
                          refine (HSET.out _ (HTL.out _ HOF.out.2.1)).1.mono ?_
                          rintro e wg ⟨ca, cc, rfl, hoc2, hbc2⟩
                          have HCG : Hid (OwnR wg wf.heap.size (.slice ca k cc) l ∧ OwnR wg sz (.slice ba k bc) l ∧ Below bl wl wg) := ⟨hoc2, HOF.out.1.below hbc2 (Nat.le_refl _), HOF.out.2.1.trans (hbc2.mono (by have := HOF.out.2.2; omega))⟩
                          clear hoc2 hbc2 HOF
                          go_wp2_with fail
                          refine (HRW.out _ _ _ _ _ HCG.out.1.rs HCG.out.2.1.rs).mono ?_
                          rintro e wh ⟨rfl, hgh⟩
                          have HGH : Hid (Below bl wl wh) := HCG.out.2.2.trans (hgh.below.mono (by have := HCG.out.2.2.size; have := HBL.out; omega))
                          clear hgh HCG
                          go_wp2
                          go_loopg [28] (n + 2) (fun q s28 wk => ∃ y : Int, s28 = .int .i64 y ∧ -1 ≤ y ∧ y ≤ n + 1 ∧ (n + 1 - y).toNat ≤ q ∧ Hid (Below bl wl wk))
                          case atStart => exact ⟨-1, rfl, by omega, by omega, by omega, HGH.out⟩
                          case round =>
                            obtain ⟨wk, hren⟩ : ∃ x, x = wr := ⟨_, rfl⟩
                            subst hren
                            obtain ⟨y, rfl, hy1, hy2, hy3, HY⟩ := hrel
                            clear HGH
                            by_cases hyn : y ≤ (n : Int)
                            · by_cases hy40 : y < 40
                              · obtain ⟨bk, hbk⟩ := HT0.out.ins HPR.out.1 HPR.out.2 z y
                                have HBK := Hid.mk' hbk
                                clear hbk
                                have HTY := Hid.mk' (HTL.out _ HY.out)
                                go_wp2_with (first
                                  | (go_at_call 17; refine (HBK.out _ HTY.out).1.mono ?_; rintro e wp ⟨rfl, hg⟩; have HG1 := Hid.mk' hg; clear hg)
                                  | (go_at_call 18; refine (HBK.out _ (HTY.out.grown HG1.out)).2.mono ?_; rintro e wq ⟨rfl, hg⟩; have HG2 := Hid.mk' hg; clear hg))
                                go_roundg ((n + 1 - (y + 1)).toNat)
                                case measure => omega
                                case rel => exact ⟨y + 1, rfl, by omega, by omega, Nat.le_refl _, HY.out.trans ((HG1.out.trans HG2.out).below.mono (by have := HY.out.size; have := HBL.out; omega))⟩
                              · go_wp2
                                go_roundg ((N + 1 - (z + 1)).toNat)
                                case measure => omega
                                case rel => exact ⟨z + 1, rfl, by omega, by omega, Nat.le_refl _, HR.out.1.trans (HY.out.mono (by have := HR.out.1.size; have := HBL.out; have := HB.out; omega)), HTL.out _ HY.out⟩
                            · go_wp2
                              go_roundg ((N + 1 - (z + 1)).toNat)
                              case measure => omega
                              case rel => exact ⟨z + 1, rfl, by omega, by omega, Nat.le_refl _, HR.out.1.trans (HY.out.mono (by have := HR.out.1.size; have := HBL.out; have := HB.out; omega)), HTL.out _ HY.out⟩
                  · as_aux_lemma =>
                      obtain ⟨be, hbe⟩ := HT0.out.ins HPR.out.1 HPR.out.2 m 0
                      have HBE := Hid.mk' hbe
                      clear hbe
                      have HX := Hid.mk' HR.out
                      go_wp2_with (first
                        | (go_at_call 12; refine (HLN.out _ HX.out.2).2.mono ?_; rintro e wx ⟨rfl, hx⟩; have hx := hx.symm; subst hx)
                        | (go_at_call 17; refine (HBE.out _ HX.out.2).1.mono ?_; rintro e wx ⟨rfl, hg⟩; have HG := Hid.mk' hg; clear hg)
                        | (go_at_call 18; refine (HBE.out _ (HX.out.2.grown HG.out)).2.mono ?_; rintro e wy ⟨rfl, hg⟩; have HG2 := Hid.mk' hg; clear hg))
                      go_ret
                      exact ⟨by simp, (HX.out.1.trans (HG.out.below.mono (by have := HX.out.1.size; have := HB.out; omega))).trans (HG2.out.below.mono (by have := HX.out.1.size; have := HG.out.size; have := HB.out; omega))⟩
                · as_aux_lemma =>
                    obtain ⟨be, hbe⟩ := HT0.out.ins HPR.out.1 HPR.out.2 m 0
                    have HBE := Hid.mk' hbe
                    clear hbe
                    have HX := Hid.mk' HR.out
                    go_wp2_with (first
                      | (go_at_call 12; refine (HLN.out _ HX.out.2).2.mono ?_; rintro e wx ⟨rfl, hx⟩; have hx := hx.symm; subst hx)
                      | (go_at_call 17; refine (HBE.out _ HX.out.2).1.mono ?_; rintro e wx ⟨rfl, hg⟩; have HG := Hid.mk' hg; clear hg)
                      | (go_at_call 18; refine (HBE.out _ (HX.out.2.grown HG.out)).2.mono ?_; rintro e wy ⟨rfl, hg⟩; have HG2 := Hid.mk' hg; clear hg))
                    go_ret
                    exact ⟨by simp, (HX.out.1.trans (HG.out.below.mono (by have := HX.out.1.size; have := HB.out; omega))).trans (HG2.out.below.mono (by have := HX.out.1.size; have := HG.out.size; have := HB.out; omega))⟩
end Go.Proofs
