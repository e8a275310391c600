/-
  The book: what lies where while it is written into.
-/
import Derived.RangeFuncNested
import Derived.RangeFuncBound
import Derived.RangeFuncCalls
import Derived.RangeFuncLeaves
import Derived.Shelf.Abstract
import Derived.Shelf.RegionOpen
import Derived.WalkKit
import Derived.WalkSpells
import Derived.WalkLawsBesides
import Derived.OwnWalkIn
import Derived.TacticsInMore
import Derived.LoopNIn
import Derived.LoopIn
import Derived.BigQuiet
import Derived.RegionIn
import Derived.Deep.QuietTactic
import Derived.Deep.RegionWith
import Derived.Lib.OthersKept
import Derived.Maps.AppendAt
import Derived.Maps.OwnIn
import Derived.Lib.SmallJoins
import Derived.Deep.Upon
import Derived.Deep.AppendLies
import Derived.Test.YtmgkolelcflcbaaDoorB6
import Derived.Test.YtmgkolelcflcbaaDoorB4
namespace Go.Proofs
open Go.RowKit Go.Shelf

set_option maxRecDepth 100000
attribute [local go_sem] Oper.semAt_some
attribute [local go_sem ↓] Go.wp_at_zero Go.wp_at_succ
/-- what lies where while the book is written into -/
structure W1 (w : World) (base hb : Nat) (ov wv : Value) (es : List BE) (f n : Nat) (W : World) : Prop where
  bk : ∃ es', Bok W base hb ov wv es' f f n ∧ Alike es es'
  bel : Below base w W
theorem W1.grown {w : World} {base hb : Nat} {ov wv : Value} {es : List BE} {f n : Nat} {W W' : World} (h : W1 w base hb ov wv es f n W) (k : Grown W W') : W1 w base hb ov wv es f n W' := by
  obtain ⟨es', h1, h2⟩ := h.bk
  exact ⟨⟨es', h1.grown k, h2⟩, h.bel.trans (k.below.mono (Nat.le_trans h1.bz (Nat.le_refl _)))⟩
theorem row_same {W : World} {base n c m : Nat} {a : Option Addr} {e : TypeId} {xs : List Value} (h : W.ownsRow base e 1 (.slice a n c) m xs) (hm : m ≠ 0) : ∃ g, a = some ⟨g, 0, none⟩ ∧ n = m ∧ m ≤ c ∧ ∀ (j : Nat) (u : Value), xs[j]? = some u → W.cell? ⟨g, j, none⟩ = some u := by
  obtain ⟨g, cap, e1, _, h2, h3⟩ := row_some h hm
  injection e1 with e1 e2 e3
  subst e3
  exact ⟨g, e1, e2, h2, h3⟩

theorem W1.mark {w : World} {base hb : Nat} {ov wv : Value} {es es' : List BE} {f n : Nat} {W : World} (h : Bok W base hb ov wv es' f f n) (hA : Alike es es') (hb' : Below base w W) {i k : Nat} {e : BE} (he : es'[i]? = some e) (hf : f ≤ i) (hn : i < n) (x : Int × Int) {go oo no co gw nw cw : Nat} (ho : e.o = .slice (some ⟨go, oo, none⟩) no co) (hw : e.w = .slice (some ⟨gw, 0, none⟩) nw cw) : W1 w base hb ov wv es f n (set2 (set2 W go (oo + k * 2) x) gw (k * 2) x) := by
  have hm := List.mem_of_getElem? he
  refine ⟨⟨_, h.mark he hf hn x ho hw, hA.trans (alike_set he k x)⟩, ?_⟩
  exact (hb'.trans (set2_below ((h.ro e hm).typ (b := go) (by rw [ho]; rfl)).1)).trans (set2_below (row_typ (h.rw e hm) (b := gw) (by rw [hw]; rfl)).1)
/-- what the second of two marks finds -/
theorem second {base hb : Nat} {ov wv : Value} {es : List BE} {f u n : Nat} {W : World} (h : Bok W base hb ov wv es f u n) {i k : Nat} {e : BE} (he : es[i]? = some e) (x : Int × Int) {go oo no co gw nw cw : Nat} (ho : e.o = .slice (some ⟨go, oo, none⟩) no co) (hw : e.w = .slice (some ⟨gw, 0, none⟩) nw cw) (hk : k < e.l.length) (a : Int) :
    (set2 W go (oo + k * 2) x).cell? ⟨hb, 1, none⟩ = some wv ∧ (∀ (g1 : Nat), wv.ownBlock = some g1 → ∀ j, (set2 W go (oo + k * 2) x).cell? ⟨g1, j, none⟩ = W.cell? ⟨g1, j, none⟩) ∧ Two (set2 W go (oo + k * 2) x) gw (k * 2) a := by
  have hm := List.mem_of_getElem? he
  have hbo : e.o.ownBlock = some go := by rw [ho]; rfl
  have hbw : e.w.ownBlock = some gw := by rw [hw]; rfl
  obtain ⟨_, d1, ht1⟩ := (h.ro e hm).typ hbo
  have T : ∀ b, b ≠ go → (set2 W go (oo + k * 2) x).heap[b]? = W.heap[b]? := fun b hb' => set2_other W go _ x b hb'
  have hne : gw ≠ go := fun e1 => (h.aw i i e e gw he he hbw).2 (by rw [hbo, e1])
  have cs : ∀ b j, b ≠ go → (set2 W go (oo + k * 2) x).cell? ⟨b, j, none⟩ = W.cell? ⟨b, j, none⟩ := fun b j hb' => by simp only [World.cell?]; rw [T b hb']
  have h1 := h.rw e hm
  rw [hw] at h1
  obtain ⟨cur, q1, q2⟩ := h1.toS.two hk
  refine ⟨(cs hb 1 (typ_ne h.bk ht1 (by decide))).trans h.cell.2.1, fun g1 hg1 j => ?_, ?_⟩
  · obtain ⟨_, d, h2⟩ := row_typ h.want hg1
    exact cs g1 j (typ_ne h2 ht1 (by decide))
  · exact two_of (t := 38) ((T gw hne).trans q1) (by omega) a
section
variable {W w6 W3 : World} {base hb f u t i : Nat} {ov wv : Value} {es : List BE} {lv mv ov' : Value} {ll : List (Int × Int)}
theorem R30.aw (h : R30 W base hb ov wv es f u t i lv ll mv ll) : AW (es ++ [(⟨lv, mv, ll⟩ : BE)]) := by
  refine aw_snoc h.bk.aw h.ma fun b hb' e' he' e1 => ?_
  rcases h.la with hla | ⟨e, g, o, m, n, c, he, ho, hl, _⟩
  · exact hla b hb' (blks_mem.2 ⟨e', he', .inr e1⟩)
  · obtain ⟨j, hj⟩ := List.mem_iff_getElem?.1 he'
    refine (h.bk.aw j i e' e b hj he e1).2 ?_
    rw [ho]
    have hb2 : lv.ownBlock = some b := hb'
    rw [hl] at hb2
    exact hb2
theorem R30.ao (h : R30 W base hb ov wv es f u t i lv ll mv ll) (ht : t ≤ es.length) : AO (es ++ [(⟨lv, mv, ll⟩ : BE)]) (i + 1) t := by
  have h0 : AO es (i + 1) t := fun a b e e' x h1 => h.bk.ao a b e e' x (by have := h.iu; omega)
  refine ao_snoc h0 ht fun j e' b hj hjt hje hb' e1 => ?_
  rcases h.la with hla | ⟨e, g, o, m, n, c, he, ho, hl, _⟩
  · exact hla b e1 (blks_mem.2 ⟨e', List.mem_of_getElem? hje, .inl hb'⟩)
  · refine h.bk.ao i j e e' b h.iu h.it (by omega) he hje ?_ hb'
    rw [ho]
    have hb2 : lv.ownBlock = some b := e1
    rw [hl] at hb2
    exact hb2
theorem R30.done (h : R30 W base hb ov wv es f u t i lv ll mv ll) (ht : t ≤ es.length) (hn : ll.length ≤ 900000) (hes : es.length ≤ 99) (k : K1 W base hb ov wv es f lv ll ov' w6) {g c : Nat} {ob : Obj} (ho : W3.ownsRow base 29 1 (.slice (some ⟨g, 0, none⟩) (es.length + 1) c) (es.length + 1) (es.map BE.w ++ [mv])) (hg : (w6.alloc ob).grownBy W3 wv.ownBlock) (hG : wv.ownBlock = some g ∨ g = (w6.alloc ob).heap.size) :
    W3.heap[hb]? = some (.cells #[ov', wv, .int .i64 f] 27 (0, 0)) ∧ Bok (W3.setCell ⟨hb, 1, none⟩ (.slice (some ⟨g, 0, none⟩) (es.length + 1) c)) base hb ov' (.slice (some ⟨g, 0, none⟩) (es.length + 1) c) (es ++ [⟨lv, mv, ll⟩]) f (i + 1) t ∧ Below base W (W3.setCell ⟨hb, 1, none⟩ (.slice (some ⟨g, 0, none⟩) (es.length + 1) c)) := by
  have hb6 := (Array.getElem?_eq_some_iff.1 k.bk).1
  have hsz : (w6.alloc ob).heap.size = w6.heap.size + 1 := Array.size_push _
  have hg' : w6.grownBy W3 wv.ownBlock := ⟨hg.os, hg.tape, hg.output, by have := hg.size; omega, fun b hb' hne => (hg.block b (by omega) hne).trans (Below.heap_alloc w6 ob b hb')⟩
  have h3b : W3.heap[hb]? = some (.cells #[ov', wv, .int .i64 f] 27 (0, 0)) := (hg'.block hb hb6 (fun e => h.bk.nw e.symm)).trans k.bk
  have hm : OwnR W3 base mv ll := ownR_stays h.mo fun b cur h1 _ h3 => by
    have e1 := k.blk b (Array.getElem?_eq_some_iff.1 h3).1 (typ_ne h3 h.bk.bk (by decide)) (fun e => by obtain ⟨_, d, h2⟩ := row_typ h.bk.out e; exact typ_ne h3 h2 (by decide) rfl)
    have h6 := e1.trans h3
    rw [hg'.block b (Array.getElem?_eq_some_iff.1 h6).1 (fun e => by obtain ⟨_, d, h2⟩ := row_typ h.bk.want e.symm; exact typ_ne h3 h2 (by decide) rfl)]
    exact h6
  have := k2_of h.bk h.lo h.aw (h.ao ht) hn hes k hm ho hg' (hG.imp id fun e => by omega)
  exact ⟨h3b, this.1, this.2.2.1⟩
end
/-- what lies where while the lists of the book grow -/
def W2 (w : World) (base hb f n N i : Nat) (W : World) : Prop :=
  ∃ ov wv es, Bok W base hb ov wv es f i n ∧ es.length = n + (i - f) ∧ (∀ (j : Nat) (e : BE), j < n → es[j]? = some e → e.l.length ≤ N) ∧ (∀ e ∈ es, e.l.length ≤ N + 20) ∧ Below base w W
theorem W1.w2 {w : World} {base hb : Nat} {ov wv : Value} {es : List BE} {f n N : Nat} {W : World} (h : W1 w base hb ov wv es f n W) (hn : es.length = n) (hs : ∀ e ∈ es, e.l.length ≤ N) : W2 w base hb f n N f W := by
  obtain ⟨es', h1, h2⟩ := h.bk
  have hl : ∀ (j : Nat) (e : BE), es'[j]? = some e → e.l.length ≤ N := fun j e he => by
    have hj : j < es.length := by rw [← h2.len]; exact (List.getElem?_eq_some_iff.1 he).1
    obtain ⟨e', h3, _, _, h4⟩ := h2.at (i := j) (e := es[j]) (by simp [hj])
    rw [he] at h3
    injection h3 with h3
    rw [h3, h4]
    exact hs _ (List.getElem_mem hj)
  refine ⟨ov, wv, es', h1, by rw [h2.len]; omega, fun j e _ he => hl j e he, fun e he => ?_, h.bel⟩
  obtain ⟨j, hj⟩ := List.mem_iff_getElem?.1 he
  have := hl j e hj
  omega
/-- two lists that grow side by side, so many steps -/
def T30 (w : World) (base hb : Nat) (ov wv : Value) (es : List BE) (f n i L : Nat) (lv mv : Value) (k : Nat) (W : World) : Prop :=
  ∃ ll, R30 W base hb ov wv es f i n i lv ll mv ll ∧ ll.length = L + k ∧ Below base w W
end Go.Proofs
