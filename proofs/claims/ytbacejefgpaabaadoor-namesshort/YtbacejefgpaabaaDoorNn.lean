/-
  names: a rule more in the last pass.
-/
import Derived.Shelf.Abstract
import Derived.WalkKit
import Derived.WalkSpells
import Derived.WalkLawsBesides
import Derived.OwnWalk
import Derived.Lib.OthersKept
import Derived.Maps.AppendAt
import Derived.WalkMore
import Derived.Lib.SmallJoins
import Derived.Test.YtbacejefgpaabaaDoorNl
namespace Go.Proofs
open Go.RowKit Go.Shelf

set_option maxRecDepth 100000

/-- what a rule's line leaves of memory -/
def Frame (base : Nat) (w w' : World) : Prop := Below base w w' ∧ (∀ t, t ≠ 62 → t ≠ 59 → KT t w w') ∧ ∀ (b : Nat) (o : Obj), w.heap[b]? = some o → o.isCells = false → w'.heap[b]? = some o
theorem own_block {W : World} {base : Nat} {e : TypeId} {size n : Nat} {v : Value} {xs : List Value} (h : W.ownsRow base e size v n xs) {b : Nat} (hb : v.ownBlock = some b) : ∃ cur, W.heap[b]? = some (.cells cur e (0, 0)) ∧ base ≤ b := by
  rcases h.2 with ⟨rfl, _⟩ | ⟨g, cap, cur, rfl, h1, h2, _⟩
  · simp [Value.ownBlock] at hb
  · simp only [Value.ownBlock, Option.some.injEq] at hb
    subst hb
    exact ⟨cur, h2, h1⟩
theorem rule_done {w wc w3 : World} {base pg pcap gg cap' : Nat} {ps : List (List Rl)} {q : List Rl} {vs : List Value} {v0 : Value} {es : List RlV} {e : RlV} {ob : Obj} (hb : base ≤ w.heap.size) (hbel : Below w.heap.size w wc)
    (hvl : vs.length = ps.length + 1) (hv2 : wc.ownsRow base 62 1 (.slice (some ⟨pg, 0, none⟩) (ps.length + 1) pcap) vs.length vs) (hv3 : ∀ (j : Nat) (h1 : j < vs.length) (h2 : j < (ps ++ [q]).length), RulesRow wc base vs[j] (ps ++ [q])[j])
    (hv4 : ∀ (i j : Nat) (hi : i < vs.length) (hj : j < vs.length), i ≠ j → vs[i].ownBlock = none ∨ vs[i].ownBlock ≠ vs[j].ownBlock) (hv0 : vs[ps.length]? = some v0) (he1 : es.map RlV.r = q) (he3 : ∀ e ∈ es, RuleM wc base e) (hW : wc.ownsRow base 59 7 v0 es.length (fr es)) (hM : RuleM wc base e)
    (hown : w3.ownsRow base 59 7 (.slice (some ⟨gg, 0, none⟩) (es.length + 1) cap') (es.length + 1) (fr es ++ fr1 e)) (hgrow : (wc.alloc ob).drew.drew.grownBy w3 v0.ownBlock) (hat : v0.ownBlock = some gg ∨ gg = wc.heap.size + 1) :
    PassRow (w3.setCell ⟨pg, ps.length, none⟩ (.slice (some ⟨gg, 0, none⟩) (es.length + 1) cap')) base (.slice (some ⟨pg, 0, none⟩) (ps.length + 1) pcap) (ps ++ [q ++ [e.r]]) ∧ Frame base w (w3.setCell ⟨pg, ps.length, none⟩ (.slice (some ⟨gg, 0, none⟩) (es.length + 1) cap')) := by
  obtain ⟨nv, hnv⟩ : ∃ nv, Value.slice (some ⟨gg, 0, none⟩) (es.length + 1) cap' = nv := ⟨_, rfl⟩
  have hnb : nv.ownBlock = some gg := by rw [← hnv]; rfl
  rw [hnv] at hown ⊢
  -- the blocks that are kept
  have keep : ∀ (b : Nat) (o : Obj), wc.heap[b]? = some o → v0.ownBlock ≠ some b → w3.heap[b]? = some o := fun b o h hne =>
    (hgrow.block b (Nat.lt_of_lt_of_le (Array.getElem?_eq_some_iff.1 h).1 (by simp [World.drew])) (fun e => hne e.symm)).trans (blk_up h ob)
  have kt3 : ∀ t, t ≠ 59 → KT t wc w3 := fun t ht b cs m h => keep b _ h (fun e => by
    obtain ⟨cur, h2, _⟩ := own_block hW e
    rw [h] at h2; cases h2; exact ht rfl)
  obtain ⟨cur, hpg, hbp⟩ := own_block hv2 (b := pg) rfl
  have hpg3 : w3.heap[pg]? = some (.cells cur 62 (0, 0)) := kt3 62 (by decide) _ _ _ hpg
  have kt4 : ∀ t, t ≠ 62 → KT t w3 (w3.setCell ⟨pg, ps.length, none⟩ nv) := fun t ht => KT.set _ _ _ _ (fun cs m h => by rw [hpg3] at h; cases h; exact ht rfl)
  have kt : ∀ t, t ≠ 62 → t ≠ 59 → KT t wc (w3.setCell ⟨pg, ps.length, none⟩ nv) := fun t h1 h2 => (kt3 t h2).trans (kt4 t h1)
  have hpg4 := cells_setS (j := ps.length) (u := nv) hpg3
  have hlast : ps.length < vs.length := by omega
  have hv0' : vs[ps.length] = v0 := by
    rw [List.getElem?_eq_getElem hlast] at hv0
    exact Option.some.inj hv0
  refine ⟨⟨vs.set ps.length nv, by simp [hvl], ?_, ?_, ?_⟩, ?_⟩
  · rcases hv2.2 with ⟨e0, _⟩ | ⟨g, cap, cur', e0, g1, g2, g3, g4, g5, g6⟩
    · cases e0
    · have eg : pg = g := by simpa [Value.ownBlock] using congrArg Value.ownBlock e0
      subst eg
      rw [hpg] at g2
      cases g2
      have ec : pcap = cap := by
        simp only [Value.slice.injEq] at e0
        exact e0.2.2
      subst ec
      refine ⟨by simp, .inr ⟨pg, pcap, cur.setIfInBounds ps.length nv, by rw [List.length_set, hvl], g1, hpg4, by rw [List.length_set]; exact g3, g4, by simpa using g5, ?_⟩⟩
      rw [List.length_set, Array.toList_setIfInBounds, List.take_set, g6]
  · intro j h1 h2
    by_cases hj : j = ps.length
    · subst hj
      have e1 : (vs.set ps.length nv)[ps.length]'h1 = nv := by simp
      have e2 : (ps ++ [q ++ [e.r]])[ps.length]'h2 = q ++ [e.r] := by simp
      rw [e1, e2]
      refine ⟨es ++ [e], by simp [he1], ?_, fun y hy => ?_⟩
      · have h := own_kept_t hown (kt4 59 (by decide))
        simpa [fr] using h
      · rw [List.mem_append] at hy
        rcases hy with hy | hy
        · exact (he3 y hy).kt (kt 30 (by decide) (by decide)) (kt 48 (by decide) (by decide)) (kt 66 (by decide) (by decide))
        · obtain rfl : y = e := by simpa using hy
          exact hM.kt (kt 30 (by decide) (by decide)) (kt 48 (by decide) (by decide)) (kt 66 (by decide) (by decide))
    · have h1' : j < vs.length := by simpa using h1
      have hjp : j < ps.length := by omega
      have e1 : (vs.set ps.length nv)[j]'h1 = vs[j] := by rw [List.getElem_set_ne (fun e => hj e.symm)]
      have e2 : (ps ++ [q ++ [e.r]])[j]'h2 = ps[j] := List.getElem_append_left hjp
      have e3 : (ps ++ [q])[j]'(by simp; omega) = ps[j] := List.getElem_append_left hjp
      have h := hv3 j h1' (by simp; omega)
      rw [e3] at h
      rw [e1, e2]
      refine h.kept (fun b cs m hvb hbk => ?_) (kt 30 (by decide) (by decide)) (kt 48 (by decide) (by decide)) (kt 66 (by decide) (by decide))
      refine kt4 59 (by decide) b cs m (keep b _ hbk (fun e => ?_))
      rcases hv4 j ps.length h1' hlast hj with h5 | h5
      · rw [hvb] at h5; cases h5
      · rw [hvb, hv0', e] at h5; exact h5 rfl
  · intro i j hi hj hij
    have hi' : i < vs.length := by simpa using hi
    have hj' : j < vs.length := by simpa using hj
    have old : ∀ (x : Nat) (hx : x < vs.length), x ≠ ps.length → vs[x].ownBlock = none ∨ vs[x].ownBlock ≠ some gg := fun x hx hne => by
      cases hxb : vs[x].ownBlock with
      | none => exact .inl rfl
      | some b =>
        refine .inr (fun e => ?_)
        cases e
        rcases hat with h | h
        · rcases hv4 x ps.length hx hlast hne with h5 | h5
          · rw [hxb] at h5; cases h5
          · rw [hxb, hv0', h] at h5; exact h5 rfl
        · obtain ⟨es', _, ho, _⟩ := hv3 x hx (by rw [List.length_append]; simpa [hvl] using hx)
          obtain ⟨cur', hc, _⟩ := own_block ho hxb
          have := (Array.getElem?_eq_some_iff.1 hc).1
          omega
    by_cases h1 : i = ps.length
    · subst h1
      have e1 : (vs.set ps.length nv)[ps.length]'hi = nv := by simp
      have e2 : (vs.set ps.length nv)[j]'hj = vs[j] := by rw [List.getElem_set_ne hij]
      rw [e1, e2, hnb]
      rcases old j hj' (fun e => hij e.symm) with h | h
      · rw [h]; exact .inr (by simp)
      · exact .inr (fun e => h e.symm)
    · have e1 : (vs.set ps.length nv)[i]'hi = vs[i] := by rw [List.getElem_set_ne (fun e => h1 e.symm)]
      rw [e1]
      by_cases h2 : j = ps.length
      · subst h2
        have e2 : (vs.set ps.length nv)[ps.length]'hj = nv := by simp
        rw [e2, hnb]
        exact old i hi' h1
      · have e2 : (vs.set ps.length nv)[j]'hj = vs[j] := by rw [List.getElem_set_ne (fun e => h2 e.symm)]
        rw [e2]
        exact hv4 i j hi' hj' hij
  · refine ⟨?_, fun t h1 h2 => (KT.below hbel).trans (kt t h1 h2), fun b o ho hc => ?_⟩
    · have b1 : Below base w (wc.alloc ob).drew.drew := ((hbel.mono hb).alloc (Nat.le_trans hb hbel.size) ob).drew.drew
      have b2 : Below base w w3 := b1.grown hgrow (by simp [World.drew]; have := hbel.size; omega) (fun k ek => (own_block hW ek).choose_spec.2)
      exact b2.setCell (p := ⟨pg, ps.length, none⟩) hbp _
    · have h1 : wc.heap[b]? = some o := (hbel.block b (Array.getElem?_eq_some_iff.1 ho).1).trans ho
      have h2 := keep b o h1 (fun e => by
        obtain ⟨cur', hc', _⟩ := own_block hW e
        rw [h1] at hc'; cases hc'; cases hc)
      exact set_other h2 (fun e => by subst e; rw [hpg3] at h2; cases h2; cases hc)
end Go.Proofs
