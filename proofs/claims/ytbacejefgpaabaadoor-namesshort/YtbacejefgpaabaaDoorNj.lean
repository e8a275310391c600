/-
  names: pieces of a result.
-/
import Derived.Shelf.Abstract
import Derived.Shelf.RegionOpen
import Derived.WalkKit
import Derived.WalkSpells
import Derived.WalkLawsBesides
import Derived.OwnWalk
import Derived.BigQuiet
import Derived.Deep.QuietTactic
import Derived.Deep.LoopGhost
import Derived.Deep.RegionWith
import Derived.Deep.DeepCutAuto
import Derived.Laws.EntriesVeiled
import Derived.Lib.OthersKept
import Derived.Maps.AppendAt
import Derived.WalkMore
import Derived.RangeFuncBox
import Derived.Lib.SmallJoins
import Derived.Test.YtbacejefgpaabaaDoorNi
namespace Go.Proofs
open Go.RowKit Go.Shelf

set_option maxRecDepth 100000
attribute [local go_sem] Oper.semAt_some

abbrev pcv (k u y : Int) (a : Option Addr) (n c : Nat) : Value := .agg #[.int .i64 k, .int .i64 u, .int .i64 y, .slice a n c]
/-- a piece in a block of its own -/
def PB (W : World) (B : Nat) (k u y : Int) (a : Option Addr) (n c : Nat) : Prop := W.heap[B]? = some (.cells #[.int .i64 k, .int .i64 u, .int .i64 y, .slice a n c] 66 (0, 0))
theorem PB.cells {W : World} {B : Nat} {k u y : Int} {a : Option Addr} {n c : Nat} (h : PB W B k u y a n c) :
    W.cell? ⟨B, 0, none⟩ = some (.int .i64 k) ∧ W.cell? ⟨B, 1, none⟩ = some (.int .i64 u) ∧ W.cell? ⟨B, 2, none⟩ = some (.int .i64 y) ∧ W.cell? ⟨B, 3, none⟩ = some (.slice a n c) := by
  simp [World.cell?, show W.heap[B]? = _ from h]
theorem PB.frozen {W : World} {B : Nat} {k u y : Int} {a : Option Addr} {n c : Nat} (h : PB W B k u y a n c) :
    W.frozen? ⟨B, 0, none⟩ = false ∧ W.frozen? ⟨B, 1, none⟩ = false ∧ W.frozen? ⟨B, 2, none⟩ = false ∧ W.frozen? ⟨B, 3, none⟩ = false := by
  simp [World.frozen?, show W.heap[B]? = _ from h]
theorem cells_setS {w : World} {g : Nat} {cur : Array Value} {t : TypeId} {j : Nat} {u : Value} (h : w.heap[g]? = some (.cells cur t (0, 0))) : (w.setCell ⟨g, j, none⟩ u).heap[g]? = some (.cells (cur.setIfInBounds j u) t (0, 0)) := by
  show (w.heap.modify g _)[g]? = _
  rw [Array.getElem?_modify, if_pos rfl, h]
  rfl
abbrev set4 (W : World) (B : Nat) (k u y : Int) (a : Option Addr) (n c : Nat) : World := (((W.setCell ⟨B, 0, none⟩ (.int .i64 k)).setCell ⟨B, 1, none⟩ (.int .i64 u)).setCell ⟨B, 2, none⟩ (.int .i64 y)).setCell ⟨B, 3, none⟩ (.slice a n c)
theorem PB.set {W : World} {B : Nat} {k u y : Int} {a : Option Addr} {n c : Nat} (h : PB W B k u y a n c) (k' u' y' : Int) (a' : Option Addr) (n' c' : Nat) : PB (set4 W B k' u' y' a' n' c') B k' u' y' a' n' c' := by
  have := cells_setS (j := 3) (u := .slice a' n' c') (cells_setS (j := 2) (u := .int .i64 y') (cells_setS (j := 1) (u := .int .i64 u') (cells_setS (j := 0) (u := .int .i64 k') h)))
  simpa [PB, set4] using this
theorem below_set4 {m : Nat} {w W : World} {B : Nat} (h : Below m w W) (hm : m ≤ B) (k u y : Int) (a : Option Addr) (n c : Nat) : Below m w (set4 W B k u y a n c) :=
  (((h.setCell (p := ⟨B, 0, none⟩) hm _).setCell (p := ⟨B, 1, none⟩) hm _).setCell (p := ⟨B, 2, none⟩) hm _).setCell (p := ⟨B, 3, none⟩) hm _
theorem kt_set4 {t : TypeId} {W : World} {B : Nat} {k u y : Int} {a : Option Addr} {n c : Nat} (h : PB W B k u y a n c) (ht : 66 ≠ t) (k' u' y' : Int) (a' : Option Addr) (n' c' : Nat) : KT t W (set4 W B k' u' y' a' n' c') := by
  have h0 : ∀ {V : World} {cur : Array Value}, V.heap[B]? = some (.cells cur 66 (0, 0)) → ∀ cs m, V.heap[B]? ≠ some (.cells cs t m) := fun hV cs m e => by rw [hV] at e; cases e; exact ht rfl
  have g0 := cells_setS (j := 0) (u := .int .i64 k') h
  have g1 := cells_setS (j := 1) (u := .int .i64 u') g0
  have g2 := cells_setS (j := 2) (u := .int .i64 y') g1
  exact (((KT.set W B 0 _ (h0 h)).trans (KT.set _ B 1 _ (h0 g0))).trans (KT.set _ B 2 _ (h0 g1))).trans (KT.set _ B 3 _ (h0 g2))
theorem ret_pc {fn : Func} {p q : Tmp} {W : World} {B : Nat} {tmps : Array Value} {k u y : Int} {a : Option Addr} {n c : Nat} {e : Int} {R : Ending → World → Prop} (hr : fn.results = #[.cell p 66, .tmp q]) (hp : tmps.getD p undef = .pointer (some ⟨B, 0, none⟩)) (hq : tmps.getD q undef = .int .i64 e) (h : PB W B k u y a n c)
    (K : R (.returned (.tuple #[pcv k u y a n c, .int .i64 e])) W) : bodyPost Tryd.prog fn R Exit.ret { tmps := tmps, defers := [] } W := by
  refine bodyPost_ret (v := .tuple #[pcv k u y a n c, .int .i64 e]) ?_ rfl K
  rw [results_cell_tmp hr]
  simp only [hp, hq]
  obtain ⟨c0, c1, c2, c3⟩ := h.cells
  simp [go_sem, Result.andThen, c0, c1, c2, c3]
/-- an item of a result: a unit, a copy, a pair with its one part -/
structure RIt where
  x : It
  v : Value
  q : PIt
def RItOk (W : World) (r : RIt) : Prop :=
  (∃ a n c, r.v = .slice a n c) ∧ (r.x.k = 1 ∨ (r.x.k = 7 ∧ 1 ≤ r.x.ky ∧ r.x.ky ≤ 4611686018427387904) ∨ (r.x.k = 8 ∧ 1 ≤ r.x.ky ∧ r.x.ky ≤ 4611686018427387904 ∧ (∃ a n c, r.q.v = .slice a n c) ∧ ∃ g o cp, r.v = .slice (some ⟨g, o, none⟩) 1 cp ∧ g < W.heap.size ∧ ItAt W g o r.q.x r.q.v ∧ ItemOk W r.q.x r.q.v r.q.l))
/-- a piece -/
structure Pc where
  k : Int
  u : Int
  y : Int
  tl : List (Int × Int)
/-- the piece of an item -/
def PieceC (K : ByteArray → Option (List (Int × Int))) (r : RIt) (c : Int) (p : Pc) : Prop :=
  (r.x.k = 1 ∧ c = spanC r.x.u r.x.u ∧ p = ⟨1, r.x.u, 0, []⟩) ∨ (r.x.k = 7 ∧ c = 0 ∧ p = ⟨2, 0, r.x.ky - 1, []⟩) ∨ (r.x.k = 8 ∧ ∃ s, SetC K r.q.x (r.q.l.map Prod.fst) c s ∧ p = ⟨3, 0, r.x.ky - 1, s⟩)
theorem ritOk_below {W W' : World} {r : RIt} (h : RItOk W r) (hb : Below W.heap.size W W') : RItOk W' r := ⟨h.1, h.2.imp id (fun h => h.imp id (fun ⟨a, b, b2, b3, g, o, cp, e, hg, hi, hk⟩ => ⟨a, b, b2, b3, g, o, cp, e, Nat.lt_of_lt_of_le hg hb.size, hi.below hb hg, hk.below hb⟩))⟩
set_option maxHeartbeats 2000000 in
theorem piece_unit (u : Int) (nm : ByteArray) (pa : Option Addr) (pn pp : Nat) (lo hi : Int) (nt : Bool) (ky : Int) (mb : Nat) (w : World) (hT : Tab w) :
    Calls Tryd.prog 60 #[.pointer (some ⟨mb, 0, none⟩), itv 1 u nm (.slice pa pn pp) lo hi nt ky] w fun e w' => e = .returned (.tuple #[pcv 1 u 0 none 0 0, .int .i64 (spanC u u)]) ∧ Below w.heap.size w w' := by
  have HB : Hid (∀ o o2, Below w.heap.size w ((w.alloc o).alloc o2) ∧ ((w.alloc o).alloc o2).heap.size = w.heap.size + 1 + 1) := fun o o2 => ⟨((Below.refl _ _).alloc (Nat.le_refl _) _).alloc (by simp) _, by simp⟩
  have HS : Hid (∀ W, Below w.heap.size w W → Calls Tryd.prog 48 #[.int .i64 u, .int .i64 u] W fun e w' => ∃ v, e = .returned (.tuple #[v, .int .i64 (spanC u u)]) ∧ Below W.heap.size W w') := fun W hW => (span_any u u W (hT.below hW hT.pos)).mono (by
    rintro e w' ⟨⟨v, rfl, _⟩, hb⟩
    exact ⟨v, rfl, hb⟩)
  obtain ⟨c, hc⟩ : ∃ c, spanC u u = c := ⟨_, rfl⟩
  rw [hc] at HS ⊢
  clear hc hT
  go_enter Tryd.func60, Tryd.ntmps60
  go_wp2_with fail
  refine (HS.out _ (HB.out _ _).1).mono ?_
  rintro e w1 ⟨v, rfl, hb⟩
  have hu := hb.cell (p := ⟨w.heap.size, 1, none⟩) (by simp; omega)
  have HPB : Hid (PB w1 (w.heap.size + 1) 0 0 0 none 0 0) := (hb.block (w.heap.size + 1) (by simp)).trans (blk_new (by simp))
  have HB1 : Hid (Below w.heap.size w w1) := (HB.out _ _).1.trans (hb.mono (by simp; omega))
  obtain ⟨c0, c1, c2, c3⟩ := HPB.out.cells
  obtain ⟨f0, f1, f2, f3⟩ := HPB.out.frozen
  simp at hu
  clear hb
  go_wp2
  exact ret_pc rfl rfl rfl (HPB.out.set 1 u 0 none 0 0) ⟨rfl, below_set4 HB1.out (by omega) _ _ _ _ _ _⟩
set_option maxHeartbeats 2000000 in
theorem piece_copy (u : Int) (nm : ByteArray) (pa : Option Addr) (pn pp : Nat) (lo hi : Int) (nt : Bool) (ky : Int) (mb : Nat) (w : World) (h1 : 1 ≤ ky) (h2 : ky ≤ 4611686018427387904) :
    Calls Tryd.prog 60 #[.pointer (some ⟨mb, 0, none⟩), itv 7 u nm (.slice pa pn pp) lo hi nt ky] w fun e w' => e = .returned (.tuple #[pcv 2 0 (ky - 1) none 0 0, .int .i64 0]) ∧ Below w.heap.size w w' := by
  go_enter Tryd.func60, Tryd.ntmps60
  go_wp2
  exact ret_pc rfl rfl rfl (blk_new (by simp)) ⟨rfl, ((Below.refl _ _).alloc (Nat.le_refl _) _).alloc (by simp) _⟩
set_option maxHeartbeats 4000000 in
theorem piece_pair (u : Int) (nm : ByteArray) (g o pp : Nat) (lo hi : Int) (nt : Bool) (ky : Int) (q : PIt) (mb p1 p3 : Nat) (mv : Value) (K : ByteArray → Option (List (Int × Int))) (w : World) (hT : Tab w) (h1 : 1 ≤ ky) (h2 : ky ≤ 4611686018427387904) (hqv : ∃ a n c, q.v = .slice a n c) (hg : g < w.heap.size) (hI : ItAt w g o q.x q.v) (hOk : ItemOk w q.x q.v q.l)
    (hmb : w.cell? ⟨mb, 1, none⟩ = some (.func (.func 34) #[] #[.pointer (some ⟨p3, 0, none⟩), .pointer (some ⟨p1, 0, none⟩)])) (hR : Reader w (.func (.func 34) #[] #[.pointer (some ⟨p3, 0, none⟩), .pointer (some ⟨p1, 0, none⟩)]) mv) (hK : KnownV w mv K) :
    Calls Tryd.prog 60 #[.pointer (some ⟨mb, 0, none⟩), itv 8 u nm (.slice (some ⟨g, o, none⟩) 1 pp) lo hi nt ky] w fun e w' => ∃ c s a n cp, SetC K q.x (q.l.map Prod.fst) c s ∧ e = .returned (.tuple #[pcv 3 0 (ky - 1) a n cp, .int .i64 c]) ∧ (c = 0 → OwnR w' w.heap.size (.slice a n cp) s) ∧ Below w.heap.size w w' := by
  have HB : Hid (∀ o o2, Below w.heap.size w ((w.alloc o).alloc o2) ∧ ((w.alloc o).alloc o2).heap.size = w.heap.size + 1 + 1) := fun o o2 => ⟨((Below.refl _ _).alloc (Nat.le_refl _) _).alloc (by simp) _, by simp⟩
  have HI : Hid (∀ W, Below w.heap.size w W → Calls Tryd.prog 34 #[q.x.val q.v, .pointer (some ⟨p3, 0, none⟩), .pointer (some ⟨p1, 0, none⟩)] W fun e w' => ∃ c r a n cp, SetC K q.x (q.l.map Prod.fst) c r ∧ e = .returned (.tuple #[.slice a n cp, .int .i64 c]) ∧ (c = 0 → OwnR w' w.heap.size (.slice a n cp) r) ∧ Below W.heap.size W w') := fun W hW =>
    (item_any q.x q.v q.l _ mv K W (hT.below hW hT.pos) (hOk.below hW) p1 p3 (hR.kt (KT.below hW) (KT.below hW)) rfl (hK.below hW)).mono (by
      rintro e w' ⟨c, r, h1, ⟨v, h2, h3⟩, h4⟩
      by_cases h0 : c = 0
      · rw [if_pos h0] at h3
        obtain ⟨A, cp, e2, _⟩ := h3.rs
        subst e2
        exact ⟨c, r, A, _, cp, h1, h2, fun _ => h3.le hW.size, h4⟩
      · rw [if_neg h0] at h3
        subst h3
        exact ⟨c, r, none, 0, 0, h1, h2, fun e => absurd e h0, h4⟩)
  have hmb' : ∀ o o2, ((w.alloc o).alloc o2).cell? ⟨mb, 1, none⟩ = some (.func (.func 34) #[] #[.pointer (some ⟨p3, 0, none⟩), .pointer (some ⟨p1, 0, none⟩)]) := fun o o2 => cell_up (cell_up hmb o) o2
  obtain ⟨⟨xk, xu, xnm, xlo, xhi, xnt, xky⟩, qv, ql⟩ := q
  obtain ⟨qa, qn, qc, hqv⟩ := hqv
  simp only at hqv
  subst hqv
  have hc := fun ob ob2 => hI.below (HB.out ob ob2).1 hg
  have c0 := fun ob ob2 => (hc ob ob2).1
  have c1 := fun ob ob2 => (hc ob ob2).2.1
  have c2 := fun ob ob2 => (hc ob ob2).2.2.1
  have c3 := fun ob ob2 => (hc ob ob2).2.2.2.1
  have c4 := fun ob ob2 => (hc ob ob2).2.2.2.2.1
  have c5 := fun ob ob2 => (hc ob ob2).2.2.2.2.2.1
  have c6 := fun ob ob2 => (hc ob ob2).2.2.2.2.2.2.1
  have c7 := fun ob ob2 => (hc ob ob2).2.2.2.2.2.2.2
  simp only at c0 c1 c2 c3 c4 c5 c6 c7
  clear hc hI hOk hR hK hT hmb
  go_enter Tryd.func60, Tryd.ntmps60
  have HBd : Hid (∀ o o2, Below w.heap.size w ((w.alloc o).alloc o2).drew) := fun o o2 => (HB.out o o2).1.drew
  have HPx : Hid (∀ ob W, Below ((w.alloc ob).alloc (.cells #[.int .i64 0, .int .i64 0, .int .i64 0, .slice none 0 0] 66)).drew.heap.size ((w.alloc ob).alloc (.cells #[.int .i64 0, .int .i64 0, .int .i64 0, .slice none 0 0] 66)).drew W → PB W (w.heap.size + 1) 0 0 0 none 0 0) := fun ob W h => (h.block (w.heap.size + 1) (by simp [World.drew])).trans (blk_new (by simp))
  have HBx : Hid (∀ o o2 W, Below ((w.alloc o).alloc o2).drew.heap.size ((w.alloc o).alloc o2).drew W → Below w.heap.size w W) := fun o o2 W h => (HBd.out o o2).trans (h.mono (by simp [World.drew]; omega))
  go_wp2
  go_region_with (go_at_call 34; go_must (refine (HI.out _ (HBd.out _ _)).mono ?_; rintro e w1 ⟨c, r, a, n, cp, hSC, rfl, hO, hb⟩; have hu := hb.cell (p := ⟨w.heap.size, 7, none⟩) (by simp; omega); simp at hu; obtain ⟨d0, d1, d2, d3⟩ := (HPx.out _ _ hb).cells; obtain ⟨f0, f1, f2, f3⟩ := (HPx.out _ _ hb).frozen; have HV : Hid (SetC K ⟨xk, xu, xnm, xlo, xhi, xnt, xky⟩ (ql.map Prod.fst) c r ∧ (c = 0 → OwnR w1 w.heap.size (.slice a n cp) r) ∧ PB w1 (w.heap.size + 1) 0 0 0 none 0 0 ∧ Below w.heap.size w w1) := ⟨hSC, hO, HPx.out _ _ hb, HBx.out _ _ _ hb⟩; clear hSC hO hb))
  all_goals (go_wp2; exact ret_pc rfl rfl rfl (HV.out.2.2.1.set 3 0 (ky - 1) a n cp) ⟨c, r, a, n, cp, HV.out.1, rfl, fun h0 => (HV.out.2.1 h0).kt (kt_set4 HV.out.2.2.1 (by decide) _ _ _ _ _ _), below_set4 HV.out.2.2.2 (by omega) _ _ _ _ _ _⟩)
theorem piece_any (r : RIt) (mb p1 p3 : Nat) (mv : Value) (K : ByteArray → Option (List (Int × Int))) (w : World) (hT : Tab w) (hr : RItOk w r)
    (hmb : w.cell? ⟨mb, 1, none⟩ = some (.func (.func 34) #[] #[.pointer (some ⟨p3, 0, none⟩), .pointer (some ⟨p1, 0, none⟩)])) (hR : Reader w (.func (.func 34) #[] #[.pointer (some ⟨p3, 0, none⟩), .pointer (some ⟨p1, 0, none⟩)]) mv) (hK : KnownV w mv K) :
    Calls Tryd.prog 60 #[.pointer (some ⟨mb, 0, none⟩), r.x.val r.v] w fun e w' => ∃ c p a n cp, PieceC K r c p ∧ e = .returned (.tuple #[pcv p.k p.u p.y a n cp, .int .i64 c]) ∧ (c = 0 → OwnR w' w.heap.size (.slice a n cp) p.tl) ∧ Below w.heap.size w w' := by
  obtain ⟨⟨k, u, nm, lo, hi, nt, ky⟩, v, q⟩ := r
  obtain ⟨⟨pa, pn, pp, hv⟩, h⟩ := hr
  simp only at hv
  subst hv
  rcases h with h | ⟨h, h1, h2⟩ | ⟨h, h1, h2, h3, g, o, cp, e, hg, hi2, hk⟩
  · simp only at h
    subst h
    refine (piece_unit u nm pa pn pp lo hi nt ky mb w hT).mono ?_
    rintro e w' ⟨rfl, hb⟩
    exact ⟨_, ⟨1, u, 0, []⟩, none, 0, 0, .inl ⟨rfl, rfl, rfl⟩, rfl, fun _ => OwnR.nil _ _, hb⟩
  · simp only at h
    subst h
    refine (piece_copy u nm pa pn pp lo hi nt ky mb w h1 h2).mono ?_
    rintro e w' ⟨rfl, hb⟩
    exact ⟨_, ⟨2, 0, ky - 1, []⟩, none, 0, 0, .inr (.inl ⟨rfl, rfl, rfl⟩), rfl, fun _ => OwnR.nil _ _, hb⟩
  · simp only at h
    subst h
    simp only [Value.slice.injEq] at e
    obtain ⟨rfl, rfl, rfl⟩ := e
    refine (piece_pair u nm g o pp lo hi nt ky q mb p1 p3 mv K w hT h1 h2 h3 hg hi2 hk hmb hR hK).mono ?_
    rintro e w' ⟨c, s, a, n, cp, hS, rfl, hO, hb⟩
    exact ⟨c, ⟨3, 0, ky - 1, s⟩, a, n, cp, .inr (.inr ⟨rfl, s, hS, rfl⟩), rfl, hO, hb⟩
end Go.Proofs
