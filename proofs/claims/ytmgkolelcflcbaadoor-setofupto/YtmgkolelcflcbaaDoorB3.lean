/-
  The book: one list more.
-/
import Derived.RangeFuncNested
import Derived.RangeFuncBound
import Derived.RangeFuncCalls
import Derived.RangeFuncLeaves
import Derived.Shelf.Abstract
import Derived.Shelf.RegionOpen
import Derived.WalkKit
import Derived.WalkSpells
import Derived.WalkLawsBesides
import Derived.OwnWalkIn
import Derived.TacticsInMore
import Derived.LoopNIn
import Derived.LoopIn
import Derived.BigQuiet
import Derived.RegionIn
import Derived.Deep.QuietTactic
import Derived.Deep.RegionWith
import Derived.Lib.OthersKept
import Derived.Maps.AppendAt
import Derived.Maps.OwnIn
import Derived.Lib.SmallJoins
import Derived.Deep.Upon
import Derived.Deep.AppendLies
import Derived.Test.YtmgkolelcflcbaaDoorB2
namespace Go.Proofs
open Go.RowKit Go.Shelf

set_option maxRecDepth 100000
attribute [local go_sem] Oper.semAt_some
attribute [local go_sem ↓] Go.wp_at_zero Go.wp_at_succ
section
variable {W W' : World} {base hb f u t : Nat} {ov wv : Value} {es : List BE}
theorem Bok.no (h : Bok W base hb ov wv es f u t) : ov.ownBlock ≠ some hb := fun e => by
  obtain ⟨_, cur, h2⟩ := row_typ h.out e
  rw [h.bk] at h2
  injection h2 with h2
  injection h2 with _ h2 _
  cases h2
theorem Bok.nw (h : Bok W base hb ov wv es f u t) : wv.ownBlock ≠ some hb := fun e => by
  obtain ⟨_, cur, h2⟩ := row_typ h.want e
  rw [h.bk] at h2
  injection h2 with h2
  injection h2 with _ h2 _
  cases h2
end
/-- what keep touches: the book and its two rows -/
structure Tch (hb : Nat) (ov wv : Value) (W W' : World) : Prop where
  size : W.heap.size ≤ W'.heap.size
  block : ∀ b, b < W.heap.size → b ≠ hb → ov.ownBlock ≠ some b → wv.ownBlock ≠ some b → W'.heap[b]? = W.heap[b]?
/-- a row's block is the one it was, or a new one -/
def Mvd (n : Nat) (v v' : Value) : Prop := v'.ownBlock = v.ownBlock ∨ ∃ g, v'.ownBlock = some g ∧ n ≤ g
/-- after the first of keep's two appends -/
structure K1 (w : World) (base hb : Nat) (ov wv : Value) (es : List BE) (f : Nat) (lv : Value) (l : List (Int × Int)) (ov' : Value) (W : World) : Prop where
  bel : Below base w W
  bk : W.heap[hb]? = some (.cells #[ov', wv, .int .i64 f] 27 (0, 0))
  out : W.ownsRow base 29 1 ov' (es.length + 1) (es.map BE.o ++ [lv])
  ob : ov'.ownBlock = ov.ownBlock ∨ ∃ g, ov'.ownBlock = some g ∧ w.heap.size ≤ g
  blk : ∀ b, b < w.heap.size → b ≠ hb → ov.ownBlock ≠ some b → W.heap[b]? = w.heap[b]?
theorem k1_of {w w5 : World} {base hb : Nat} {ov wv : Value} {es : List BE} {f u t : Nat} {lv : Value} {l : List (Int × Int)} (h : Bok w base hb ov wv es f u t) {g c : Nat} {ob : Obj} (ho : w5.ownsRow base 29 1 (.slice (some ⟨g, 0, none⟩) (es.length + 1) c) (es.length + 1) (es.map BE.o ++ [lv])) (hg : (w.alloc ob).grownBy w5 ov.ownBlock) (hG : ov.ownBlock = some g ∨ g = (w.alloc ob).heap.size) :
    w5.heap[hb]? = some (.cells #[ov, wv, .int .i64 f] 27 (0, 0)) ∧ K1 w base hb ov wv es f lv l (.slice (some ⟨g, 0, none⟩) (es.length + 1) c) (w5.setCell ⟨hb, 0, none⟩ (.slice (some ⟨g, 0, none⟩) (es.length + 1) c)) := by
  have hlt := (Array.getElem?_eq_some_iff.1 h.bk).1
  have hB : base ≤ w.heap.size := by have := h.hb; omega
  have hal : ∀ b, b < w.heap.size → (w.alloc ob).heap[b]? = w.heap[b]? := fun b hb => Below.heap_alloc w ob b hb
  have hsz : (w.alloc ob).heap.size = w.heap.size + 1 := Array.size_push _
  have h5 : ∀ b, b < w.heap.size → ov.ownBlock ≠ some b → w5.heap[b]? = w.heap[b]? := fun b hb hne => (hg.block b (by omega) (fun e => hne e.symm)).trans (hal b hb)
  have h5b : w5.heap[hb]? = some (.cells #[ov, wv, .int .i64 f] 27 (0, 0)) := (h5 hb hlt h.no).trans h.bk
  refine ⟨h5b, ?_, ?_, ?_, ?_, ?_⟩
  · exact (((Below.refl base w).alloc hB _).grown hg (by omega) (fun k hk => (World.ownsRow.lt h.out k hk).1)).setCell (p := ⟨hb, 0, none⟩) h.hb _
  · have := cells_setS (j := 0) (u := .slice (some ⟨g, 0, none⟩) (es.length + 1) c) h5b
    simpa using this
  · refine ownR_stays ho fun b cur _ _ h3 => ?_
    rw [turns_set _ hb 0 _ b (fun e => by subst e; rw [h5b] at h3; injection h3 with h3; injection h3 with _ h3 _; cases h3)]
    exact h3
  · rcases hG with hG | hG
    · exact .inl (by rw [hG]; rfl)
    · exact .inr ⟨g, rfl, by rw [hG, hsz]; omega⟩
  · intro b hb1 hb2 hb3
    rw [turns_set _ hb 0 _ b hb2]
    exact h5 b hb1 hb3
theorem mem_bl {v : Value} {b : Nat} : b ∈ blO v ↔ v.ownBlock = some b := by simp [blO]
theorem blks_mem {es : List BE} {b : Nat} : b ∈ blksO es ↔ ∃ e ∈ es, e.o.ownBlock = some b ∨ e.w.ownBlock = some b := by
  simp only [blksO, List.mem_flatMap, List.mem_append, mem_bl]
theorem blks_lt {w : World} {base hb : Nat} {ov wv : Value} {es : List BE} {f u t : Nat} (h : Bok w base hb ov wv es f u t) {b : Nat} (hb' : b ∈ blksO es) : ∃ cur, w.heap[b]? = some (.cells cur 38 (0, 0)) := by
  obtain ⟨e, he, h1 | h1⟩ := blks_mem.1 hb'
  · exact ((h.ro e he).typ h1).2
  · exact (row_typ (h.rw e he) h1).2
theorem snoc_at {es : List BE} {e e' : BE} {i : Nat} (h : (es ++ [e])[i]? = some e') : (i < es.length ∧ es[i]? = some e') ∨ (i = es.length ∧ e' = e) := by
  by_cases hi : i < es.length
  · rw [List.getElem?_append_left hi] at h; exact .inl ⟨hi, h⟩
  · rw [List.getElem?_append_right (by omega)] at h
    obtain ⟨h1, h2⟩ := List.getElem?_eq_some_iff.1 h
    simp at h1 h2
    exact .inr ⟨by omega, h2.symm⟩
theorem aw_snoc {es : List BE} {e : BE} (h : AW es) (h1 : ∀ b, e.w.ownBlock = some b → b ∉ blksO es ∧ e.o.ownBlock ≠ some b) (h2 : ∀ b, e.o.ownBlock = some b → ∀ e' ∈ es, e'.w.ownBlock ≠ some b) : AW (es ++ [e]) := by
  intro i j a a' b hi hj hb
  rcases snoc_at hi with ⟨i1, i2⟩ | ⟨i1, i2⟩ <;> rcases snoc_at hj with ⟨j1, j2⟩ | ⟨j1, j2⟩
  · exact h i j a a' b i2 j2 hb
  · subst j2
    have hm := blks_mem.2 ⟨a, List.mem_of_getElem? i2, .inr hb⟩
    exact ⟨fun _ e => (h1 b e).1 hm, fun e => h2 b e a (List.mem_of_getElem? i2) hb⟩
  · subst i2
    have := (h1 b hb).1
    exact ⟨fun _ e => this (blks_mem.2 ⟨a', List.mem_of_getElem? j2, .inr e⟩), fun e => this (blks_mem.2 ⟨a', List.mem_of_getElem? j2, .inl e⟩)⟩
  · subst i2
    subst j2
    exact ⟨fun hne => absurd (i1.trans j1.symm) hne, (h1 b hb).2⟩
theorem ao_snoc {es : List BE} {e : BE} {u t : Nat} (h : AO es u t) (ht : t ≤ es.length) (h1 : ∀ i e' b, u ≤ i → i < t → es[i]? = some e' → e'.o.ownBlock = some b → e.o.ownBlock ≠ some b) : AO (es ++ [e]) u t := by
  intro i j a a' b hu hit hne hi hj hb
  rcases snoc_at hi with ⟨i1, i2⟩ | ⟨i1, i2⟩
  · rcases snoc_at hj with ⟨j1, j2⟩ | ⟨j1, j2⟩
    · exact h i j a a' b hu hit hne i2 j2 hb
    · subst j2; exact h1 i a b hu hit i2 hb
  · omega
theorem ao_keep {es : List BE} {e : BE} {u : Nat} (h : AO es u es.length) (h1 : ∀ b, e.o.ownBlock = some b → ∀ e' ∈ es, e'.o.ownBlock ≠ some b) : AO (es ++ [e]) u (es.length + 1) := by
  intro i j a a' b hu hit hne hi hj hb
  rcases snoc_at hi with ⟨i1, i2⟩ | ⟨i1, i2⟩ <;> rcases snoc_at hj with ⟨j1, j2⟩ | ⟨j1, j2⟩
  · exact h i j a a' b hu i1 hne i2 j2 hb
  · subst j2; exact fun e1 => h1 b e1 a (List.mem_of_getElem? i2) hb
  · subst i2; exact h1 b hb a' (List.mem_of_getElem? j2)
  · omega
theorem k2_of {w w6 W3 : World} {base hb : Nat} {ov wv : Value} {es : List BE} {f u u' t t' : Nat} {lv ov' mv : Value} {l : List (Int × Int)} (h : Bok w base hb ov wv es f u t) (hl : OwnS w base lv l) (haw : AW (es ++ [(⟨lv, mv, l⟩ : BE)])) (hao : AO (es ++ [(⟨lv, mv, l⟩ : BE)]) u' t') (hn : l.length ≤ 900000) (hes : es.length ≤ 99) (k : K1 w base hb ov wv es f lv l ov' w6) (hm : OwnR W3 base mv l) {g c : Nat} (ho : W3.ownsRow base 29 1 (.slice (some ⟨g, 0, none⟩) (es.length + 1) c) (es.length + 1) (es.map BE.w ++ [mv])) (hg : w6.grownBy W3 wv.ownBlock) (hG : wv.ownBlock = some g ∨ w6.heap.size ≤ g) :
    Bok (W3.setCell ⟨hb, 1, none⟩ (.slice (some ⟨g, 0, none⟩) (es.length + 1) c)) base hb ov' (.slice (some ⟨g, 0, none⟩) (es.length + 1) c) (es ++ [⟨lv, mv, l⟩]) f u' t' ∧ Tch hb ov wv w (W3.setCell ⟨hb, 1, none⟩ (.slice (some ⟨g, 0, none⟩) (es.length + 1) c)) ∧ Below base w (W3.setCell ⟨hb, 1, none⟩ (.slice (some ⟨g, 0, none⟩) (es.length + 1) c)) ∧ Mvd w.heap.size ov ov' ∧ Mvd w.heap.size wv (.slice (some ⟨g, 0, none⟩) (es.length + 1) c) := by
  have hbl := (Array.getElem?_eq_some_iff.1 h.bk).1
  have hB : base ≤ w.heap.size := by have := h.hb; omega
  have hs6 := k.bel.size
  have h3b : W3.heap[hb]? = some (.cells #[ov', wv, .int .i64 f] 27 (0, 0)) := (hg.block hb (by omega) (fun e => h.nw e.symm)).trans k.bk
  have T := turns_set W3 hb 1 (.slice (some ⟨g, 0, none⟩) (es.length + 1) c)
  have S : ∀ b, b < w.heap.size → b ≠ hb → ov.ownBlock ≠ some b → wv.ownBlock ≠ some b → (W3.setCell ⟨hb, 1, none⟩ (.slice (some ⟨g, 0, none⟩) (es.length + 1) c)).heap[b]? = w.heap[b]? := fun b h1 h2 h3 h4 => by
    rw [T b h2, hg.block b (by omega) (fun e => h4 e.symm)]
    exact k.blk b h1 h2 h3
  have S3 : ∀ (b : Nat) (cur : Array Value), w.heap[b]? = some (Obj.cells cur 38 (0, 0)) → (W3.setCell ⟨hb, 1, none⟩ (.slice (some ⟨g, 0, none⟩) (es.length + 1) c)).heap[b]? = some (Obj.cells cur 38 (0, 0)) := fun b cur hc =>
    (S b (Array.getElem?_eq_some_iff.1 hc).1 (typ_ne hc h.bk (by decide)) (fun e => by obtain ⟨_, d, h2⟩ := row_typ h.out e; exact typ_ne hc h2 (by decide) rfl) (fun e => by obtain ⟨_, d, h2⟩ := row_typ h.want e; exact typ_ne hc h2 (by decide) rfl)).trans hc
  refine ⟨⟨?_, h.hb, ?_, ?_, ?_, ?_, ?_, ?_, ?_, ?_, ?_, ?_⟩, ⟨?_, S⟩, ?_, k.ob, hG.imp (fun e => e.symm) fun e => ⟨g, rfl, by omega⟩⟩
  · have := cells_setS (j := 1) (u := .slice (some ⟨g, 0, none⟩) (es.length + 1) c) h3b
    simpa using this
  · have e1 : (es ++ [(⟨lv, mv, l⟩ : BE)]).length = es.length + 1 := by simp
    rw [e1, List.map_append]
    refine ownR_stays k.out fun b cur h1 h2 h3 => ?_
    rw [T b (typ_ne h3 k.bk (by decide)), hg.block b (Array.getElem?_eq_some_iff.1 h3).1 (fun e => ?_)]
    · exact h3
    · rcases k.ob with h4 | ⟨g', h4, h5⟩
      · rw [h1] at h4
        rcases h.ow with h6 | h6
        · rw [h6] at h4; cases h4
        · exact h6 (h4.symm.trans e)
      · rw [h1] at h4
        injection h4 with h4
        have := (World.ownsRow.lt h.want b e.symm).2
        omega
  · have e1 : (es ++ [(⟨lv, mv, l⟩ : BE)]).length = es.length + 1 := by simp
    rw [e1, List.map_append]
    refine ownR_stays ho fun b cur h1 h2 h3 => ?_
    rw [T b (typ_ne h3 h3b (by decide))]
    exact h3
  · intro e he
    rcases List.mem_append.1 he with he | he
    · exact ownS_stays (h.ro e he) fun b cur _ _ h3 => S3 b cur h3
    · obtain rfl := List.mem_singleton.1 he
      exact ownS_stays hl fun b cur _ _ h3 => S3 b cur h3
  · intro e he
    rcases List.mem_append.1 he with he | he
    · exact ownR_stays (h.rw e he) fun b cur _ _ h3 => S3 b cur h3
    · obtain rfl := List.mem_singleton.1 he
      refine ownR_stays hm fun b cur _ _ h3 => ?_
      rw [T b (typ_ne h3 h3b (by decide))]
      exact h3
  · exact haw
  · exact hao
  · right
    intro e
    have e2 : ov'.ownBlock = some g := e
    rcases hG with hG | hG
    · rcases k.ob with h4 | ⟨g', h4, h5⟩
      · rw [e2] at h4
        rcases h.ow with h6 | h6
        · rw [h6] at h4; cases h4
        · exact h6 (h4.symm.trans hG.symm)
      · rw [e2] at h4
        injection h4 with h4
        have := (World.ownsRow.lt h.want g hG).2
        omega
    · have := (World.ownsRow.lt k.out g e2).2
      omega
  · simp; omega
  · intro e he
    rcases List.mem_append.1 he with he | he
    · exact h.sm e he
    · obtain rfl := List.mem_singleton.1 he
      show l.length ≤ 900000
      omega
  · have := h.fr
    simp
    omega
  · show w.heap.size ≤ (W3.setCell _ _).heap.size
    have h1 : (W3.setCell ⟨hb, 1, none⟩ (.slice (some ⟨g, 0, none⟩) (es.length + 1) c)).heap.size = W3.heap.size := by simp [World.setCell]
    have := hg.size
    omega
  · exact (k.bel.grown hg (by omega) (fun b hb' => (World.ownsRow.lt h.want b hb').1)).setCell (p := ⟨hb, 1, none⟩) h.hb _
end Go.Proofs
