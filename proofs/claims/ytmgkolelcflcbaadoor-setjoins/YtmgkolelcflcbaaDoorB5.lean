/-
  A mark in the book.
-/
import Derived.RangeFuncNested
import Derived.RangeFuncBound
import Derived.RangeFuncCalls
import Derived.RangeFuncLeaves
import Derived.Shelf.Abstract
import Derived.Shelf.RegionOpen
import Derived.WalkKit
import Derived.WalkSpells
import Derived.WalkLawsBesides
import Derived.OwnWalkIn
import Derived.TacticsInMore
import Derived.LoopNIn
import Derived.LoopIn
import Derived.BigQuiet
import Derived.RegionIn
import Derived.Deep.QuietTactic
import Derived.Deep.RegionWith
import Derived.Lib.OthersKept
import Derived.Maps.AppendAt
import Derived.Maps.OwnIn
import Derived.Lib.SmallJoins
import Derived.Deep.Upon
import Derived.Deep.AppendLies
import Derived.Test.YtmgkolelcflcbaaDoorB3
namespace Go.Proofs
open Go.RowKit Go.Shelf

set_option maxRecDepth 100000
attribute [local go_sem] Oper.semAt_some
attribute [local go_sem ↓] Go.wp_at_zero Go.wp_at_succ
/-- the same lists, whatever they hold -/
structure Alike (es es' : List BE) : Prop where
  o : es'.map BE.o = es.map BE.o
  w : es'.map BE.w = es.map BE.w
  l : es'.map (fun e => e.l.length) = es.map fun e => e.l.length
theorem Alike.refl (es : List BE) : Alike es es := ⟨rfl, rfl, rfl⟩
theorem Alike.trans {a b c : List BE} (h : Alike a b) (k : Alike b c) : Alike a c := ⟨k.o.trans h.o, k.w.trans h.w, k.l.trans h.l⟩
theorem Alike.len {a b : List BE} (h : Alike a b) : b.length = a.length := by simpa using congrArg List.length h.o
theorem Alike.at {a b : List BE} (h : Alike a b) {i : Nat} {e : BE} (he : a[i]? = some e) : ∃ e', b[i]? = some e' ∧ e'.o = e.o ∧ e'.w = e.w ∧ e'.l.length = e.l.length := by
  have hi := (List.getElem?_eq_some_iff.1 he).1
  have hi' : i < b.length := by rw [h.len]; exact hi
  have h1 := congrArg (·[i]?) h.o
  have h2 := congrArg (·[i]?) h.w
  have h3 := congrArg (·[i]?) h.l
  simp [hi', he] at h1 h2 h3
  exact ⟨b[i], by simp [hi'], h1, h2, h3⟩
theorem alike_set {es : List BE} {i : Nat} {e : BE} (he : es[i]? = some e) (k : Nat) (x : Int × Int) : Alike es (es.set i ⟨e.o, e.w, e.l.set k x⟩) := by
  obtain ⟨hi, rfl⟩ := List.getElem?_eq_some_iff.1 he
  refine ⟨?_, ?_, ?_⟩ <;> apply List.ext_getElem <;> simp <;> intro j hj <;> (simp only [List.getElem_set]; split <;> simp_all)
theorem Alike.symm {a b : List BE} (h : Alike a b) : Alike b a := ⟨h.o.symm, h.w.symm, h.l.symm⟩
theorem aw_alike {es es' : List BE} (h : Alike es es') (k : AW es) : AW es' := by
  intro i j e e' b hi hj hb
  obtain ⟨a, ha, h1, h2, _⟩ := h.symm.at hi
  obtain ⟨a', ha', h1', h2', _⟩ := h.symm.at hj
  have := k i j a a' b ha ha' (by rw [h2]; exact hb)
  rw [h1', h2'] at this
  exact this
theorem ao_alike {es es' : List BE} {u t : Nat} (h : Alike es es') (k : AO es u t) : AO es' u t := by
  intro i j e e' b hu ht hne hi hj hb
  obtain ⟨a, ha, h1, h2, _⟩ := h.symm.at hi
  obtain ⟨a', ha', h1', h2', _⟩ := h.symm.at hj
  have := k i j a a' b hu ht hne ha ha' (by rw [h1]; exact hb)
  rw [h1'] at this
  exact this
attribute [local irreducible] set2

section
variable {W W' : World} {base hb f u t : Nat} {ov wv : Value} {es : List BE}
set_option maxHeartbeats 2000000 in
theorem Bok.mark (h : Bok W base hb ov wv es f u t) {i k : Nat} {e : BE} (he : es[i]? = some e) (hu : u ≤ i) (ht : i < t) (x : Int × Int) {go oo no co gw nw cw : Nat} (ho : e.o = .slice (some ⟨go, oo, none⟩) no co) (hw : e.w = .slice (some ⟨gw, 0, none⟩) nw cw) :
    Bok (set2 (set2 W go (oo + k * 2) x) gw (k * 2) x) base hb ov wv (es.set i ⟨e.o, e.w, e.l.set k x⟩) f u t := by
  have hm := List.mem_of_getElem? he
  have hbo : e.o.ownBlock = some go := by rw [ho]; rfl
  have hbw : e.w.ownBlock = some gw := by rw [hw]; rfl
  obtain ⟨_, d1, ht1⟩ := (h.ro e hm).typ hbo
  obtain ⟨_, d2, ht2⟩ := row_typ (h.rw e hm) hbw
  have T : ∀ b, b ≠ go → b ≠ gw → (set2 (set2 W go (oo + k * 2) x) gw (k * 2) x).heap[b]? = W.heap[b]? := fun b h1 h2 => by
    rw [set2_other _ gw _ _ b h2, set2_other _ go _ _ b h1]
  have TO : ∀ (b : Nat) (cur : Array Value) (y : TypeId), W.heap[b]? = some (Obj.cells cur y (0, 0)) → y ≠ 38 → (set2 (set2 W go (oo + k * 2) x) gw (k * 2) x).heap[b]? = some (Obj.cells cur y (0, 0)) := fun b cur y hc hy => by
    rw [T b (typ_ne hc ht1 hy) (typ_ne hc ht2 hy)]
    exact hc
  have hA := alike_set he k x
  have hgw : go ≠ gw := fun e1 => (h.aw i i e e gw he he hbw).2 (by rw [hbo, e1])
  have hel : ∀ e' ∈ es.set i ⟨e.o, e.w, e.l.set k x⟩, OwnS (set2 (set2 W go (oo + k * 2) x) gw (k * 2) x) base e'.o e'.l ∧ OwnR (set2 (set2 W go (oo + k * 2) x) gw (k * 2) x) base e'.w e'.l ∧ e'.l.length ≤ 900000 := fun e' he' => by
    obtain ⟨j, hj⟩ := List.mem_iff_getElem?.1 he'
    by_cases hij : i = j
    · subst hij
      have hi := (List.getElem?_eq_some_iff.1 he).1
      rw [List.getElem?_set_self hi] at hj
      injection hj with hj
      subst hj
      refine ⟨?_, ?_, by simpa using h.sm e hm⟩
      · have h1 := h.ro e hm
        show OwnS _ base e.o _
        rw [ho] at h1 ⊢
        refine ownS_stays (own_set2 (k := k) h1 x) fun b cur h2 _ h4 => ?_
        have : go = b := by simpa [Value.ownBlock] using h2
        subst this
        rw [set2_other _ gw _ _ go hgw]
        exact h4
      · have h1 : OwnR (set2 W go (oo + k * 2) x) base e.w e.l := ownR_stays (h.rw e hm) fun b cur h2 _ h4 => by
          rw [hbw] at h2
          injection h2 with h2
          subst h2
          rw [set2_other _ go _ _ gw hgw.symm]
          exact h4
        show OwnR _ base e.w _
        rw [hw] at h1 ⊢
        exact own_setR (k := k) h1 x
    · rw [List.getElem?_set_ne hij] at hj
      have hm' := List.mem_of_getElem? hj
      have a1 := h.ao i j e e' go hu ht hij he hj hbo
      have a2 : e'.w.ownBlock ≠ some go := fun e1 => (h.aw j i e' e go hj he e1).2 hbo
      have a3 := h.aw i j e e' gw he hj hbw
      refine ⟨ownS_stays (h.ro e' hm') fun b cur h2 _ h4 => ?_, ownR_stays (h.rw e' hm') fun b cur h2 _ h4 => ?_, h.sm e' hm'⟩
      · rw [T b (fun e1 => a1 (by rw [h2, e1])) (fun e1 => a3.2 (by rw [h2, e1]))]
        exact h4
      · rw [T b (fun e1 => a2 (by rw [h2, e1])) (fun e1 => a3.1 hij (by rw [h2, e1]))]
        exact h4
  refine ⟨TO _ _ _ h.bk (by decide), h.hb, ?_, ?_, fun e' he' => (hel e' he').1, fun e' he' => (hel e' he').2.1, aw_alike hA h.aw, ao_alike hA h.ao, h.ow, by rw [hA.len]; exact h.few, fun e' he' => (hel e' he').2.2, by rw [hA.len]; exact h.fr⟩
  · rw [hA.len, hA.o]
    exact ownR_stays h.out fun b cur _ _ h4 => TO b cur _ h4 (by decide)
  · rw [hA.len, hA.w]
    exact ownR_stays h.want fun b cur _ _ h4 => TO b cur _ h4 (by decide)
/-- a row of blocks that is none of the book's grows -/
theorem Bok.row (h : Bok W base hb ov wv es f u t) {x : Option Nat} (hg : W.grownBy W' x) (hx : ∀ b, x = some b → b ∉ blksO es ∧ ∃ cur, W.heap[b]? = some (.cells cur 38 (0, 0))) : Bok W' base hb ov wv es f u t := by
  have K : ∀ (b : Nat) (cur : Array Value) (y : TypeId), W.heap[b]? = some (Obj.cells cur y (0, 0)) → (y ≠ 38 ∨ b ∈ blksO es) → W'.heap[b]? = some (Obj.cells cur y (0, 0)) := fun b cur y hc hy => by
    rw [hg.block b (Array.getElem?_eq_some_iff.1 hc).1 (fun e => ?_)]
    · exact hc
    · obtain ⟨h1, d, h2⟩ := hx b e.symm
      rcases hy with hy | hy
      · exact typ_ne hc h2 hy rfl
      · exact h1 hy
  exact ⟨K _ _ _ h.bk (.inl (by decide)), h.hb, ownR_stays h.out fun b cur _ _ h2 => K b cur 29 h2 (.inl (by decide)), ownR_stays h.want fun b cur _ _ h2 => K b cur 29 h2 (.inl (by decide)), fun e he => ownS_stays (h.ro e he) fun b cur h1 _ h2 => K b cur 38 h2 (.inr (blks_mem.2 ⟨e, he, .inl h1⟩)), fun e he => ownR_stays (h.rw e he) fun b cur h1 _ h2 => K b cur 38 h2 (.inr (blks_mem.2 ⟨e, he, .inr h1⟩)), h.aw, h.ao, h.ow, h.few, h.sm, h.fr⟩
end
end Go.Proofs
