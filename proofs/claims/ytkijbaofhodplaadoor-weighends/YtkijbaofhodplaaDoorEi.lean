/-
  The scale grows by a piece.
-/
import Derived.RangeFuncNested
import Derived.RangeFuncBound
import Derived.RangeFuncCalls
import Derived.RangeFuncLeaves
import Derived.Shelf.Abstract
import Derived.Shelf.RegionOpen
import Derived.WalkKit
import Derived.WalkSpells
import Derived.WalkLawsBesides
import Derived.OwnWalkIn
import Derived.TacticsInMore
import Derived.LoopNIn
import Derived.LoopIn
import Derived.BigQuiet
import Derived.RegionIn
import Derived.Deep.QuietTactic
import Derived.Deep.RegionWith
import Derived.Lib.OthersKept
import Derived.Maps.AppendAt
import Derived.Lib.SmallJoins
import Derived.Shelf.SlSortCmp.QuietGrown
import Derived.Deep.AppendLies
import Derived.Test.YtkijbaofhodplaaDoorEh
import Derived.Test.YtkijbaofhodplaaDoorEf
namespace Go.Proofs
open Go.RowKit Go.Shelf

set_option maxRecDepth 100000
attribute [local go_sem] Oper.semAt_some
attribute [local go_sem ↓] Go.wp_at_zero Go.wp_at_succ
def fb1 (b : Pb) (u : Value) : List Value := [.int .i64 (b.r : Nat), u, .int .i64 b.wt]
def fbk : List Pb → List Value → List Value
  | b :: l, u :: us => fb1 b u ++ fbk l us
  | _, _ => []
theorem fbk_snoc : ∀ (l : List Pb) (us : List Value) (b : Pb) (u : Value), us.length = l.length → fbk (l ++ [b]) (us ++ [u]) = fbk l us ++ fb1 b u
  | [], [], b, u, _ => by simp [fbk]
  | [], _ :: _, _, _, h => by simp at h
  | _ :: _, [], _, _, h => by simp at h
  | c :: l, v :: us, b, u, h => by
    have := fbk_snoc l us b u (by simpa using h)
    simp only [List.cons_append, fbk, this, List.append_assoc]
theorem fbk_at : ∀ (l : List Pb) (us : List Value) (j : Nat) (h : j < l.length) (h' : j < us.length), (fbk l us)[j * 3]? = some (.int .i64 (l[j].r : Nat)) ∧ (fbk l us)[j * 3 + 1]? = some us[j] ∧ (fbk l us)[j * 3 + 2]? = some (.int .i64 l[j].wt)
  | [], _, j, h, _ => by simp at h
  | _ :: _, [], j, _, h => by simp at h
  | b :: l, u :: us, 0, _, _ => by simp [fbk, fb1]
  | b :: l, u :: us, j + 1, h, h' => by
    have := fbk_at l us j (by simpa using h) (by simpa using h')
    rw [show (j + 1) * 3 = j * 3 + 3 by omega]
    simpa [fbk, fb1] using this
/-- the pieces' row, of the call's own -/
def BKo (W : World) (base : Nat) (v : Value) (bk : List Pb) (uvs : List Value) : Prop := uvs.length = bk.length ∧ W.ownsRow base 121 3 v bk.length (fbk bk uvs)
theorem BKo.bk {W : World} {base : Nat} {v : Value} {bk : List Pb} {uvs : List Value} (h : BKo W base v bk uvs) : BK W base v bk uvs := by
  obtain ⟨h0, h⟩ := h
  have hc := @World.ownsRow.cells
  rcases h.2 with ⟨rfl, h1⟩ | ⟨g, cap, cur, rfl, h1, h2, h3, _⟩
  · have hb : bk = [] := List.eq_nil_of_length_eq_zero h1
    subst hb
    exact ⟨h0, none, 0, rfl, Nat.le_refl _, .inl rfl⟩
  · refine ⟨h0, _, cap, rfl, h3, .inr ⟨g, cur, rfl, h1, h2, fun j hj hj' => ?_⟩⟩
    obtain ⟨a1, a2, a3⟩ := fbk_at bk uvs j hj hj'
    have b1 := World.ownsRow.cells h rfl _ _ a1
    have b2 := World.ownsRow.cells h rfl _ _ a2
    have b3 := World.ownsRow.cells h rfl _ _ a3
    rw [add_zero_at] at b1 b2 b3
    exact ⟨b1, b2, b3⟩
theorem BKo.turn {W W' : World} {base B : Nat} {v : Value} {bk : List Pb} {uvs : List Value} {o : Obj} (h : BKo W base v bk uvs) (ho : W.heap[B]? = some o) (hn : ∀ cs m, o ≠ .cells cs 121 m) (k : Turns B W W') : BKo W' base v bk uvs := by
  refine ⟨h.1, h.2.1, ?_⟩
  rcases h.2.2 with h | ⟨g, cap, cur, e1, h1, h2, h3⟩
  · exact .inl h
  · exact .inr ⟨g, cap, cur, e1, h1, (k g (ne_obj h2 ho (fun e => hn cur _ e.symm))).trans h2, h3⟩
theorem BKo.below {W W' : World} {base : Nat} {v : Value} {bk : List Pb} {uvs : List Value} (h : BKo W base v bk uvs) (hb : Below W.heap.size W W') : BKo W' base v bk uvs := by
  refine ⟨h.1, h.2.1, ?_⟩
  rcases h.2.2 with h | ⟨g, cap, cur, e1, h1, h2, h3⟩
  · exact .inl h
  · exact .inr ⟨g, cap, cur, e1, h1, (hb.block g (Array.getElem?_eq_some_iff.1 h2).1).trans h2, h3⟩
theorem BKo.row {W : World} {base : Nat} {v : Value} {bk : List Pb} {uvs : List Value} (h : BKo W base v bk uvs) {b : Nat} (hb : v.ownBlock = some b) : base ≤ b ∧ ∃ cs, W.heap[b]? = some (.cells cs 121 (0, 0)) := by
  rcases h.2.2 with ⟨rfl, _⟩ | ⟨g, cap, cur, rfl, h1, h2, _⟩
  · simp [Value.ownBlock] at hb
  · simp [Value.ownBlock] at hb
    subst hb
    exact ⟨h1, cur, h2⟩
theorem UR.keep {W W' : World} {base : Nat} {v : Value} {l : List (Int × Int)} (h : UR W base v l) (hk : ∀ g, g < W.heap.size → (g < base ∨ ∃ cs m, W.heap[g]? = some (.cells cs 84 m)) → W'.heap[g]? = W.heap[g]?) : UR W' base v l := by
  obtain ⟨a, cap, h1, h2, h3⟩ := h
  refine ⟨a, cap, h1, h2, ?_⟩
  by_cases hl : l = []
  · exact .inl hl
  · obtain ⟨g, o, h4, h5, h6⟩ := h3.resolve_left hl
    have he := hk g (h5.lt hl) h6
    refine .inr ⟨g, o, h4, fun j hj => ?_, h6.imp id fun ⟨cs, m, h6⟩ => ⟨cs, m, he.trans h6⟩⟩
    rw [cell_same he, cell_same he]
    exact h5 j hj
section
variable {W W1 w0 : World} {sp m1 ga m2 N1 N2 : Nat} {bv : Value} {uvs : List Value} {rv : Value} {rs : List Rl} {st : St} {ln : Int → Option Value}
/-- one piece more -/
theorem Sc.turn5 (h : Sc W w0 sp m1 ga m2 N1 N2 bv uvs rv rs st (fun _ => none)) (ho : BKo W w0.heap.size bv st.bk uvs) {g cap n : Nat} {b : Pb} {uv : Value} (hn : st.bk.length = n) (hown : W1.ownsRow w0.heap.size 121 3 (.slice (some ⟨g, 0, none⟩) (n + 1) cap) (n + 1) (fbk st.bk uvs ++ fb1 b uv)) (hgr : W.grownBy W1 bv.ownBlock) (hu : UR W w0.heap.size uv b.us) :
    Sc (W1.setCell ⟨sp, 3, none⟩ (.slice (some ⟨g, 0, none⟩) (n + 1) cap)) w0 sp m1 ga m2 N1 N2 (.slice (some ⟨g, 0, none⟩) (n + 1) cap) (uvs ++ [uv]) rv rs ⟨st.ws, st.aq, st.bk ++ [b]⟩ (fun _ => none) ∧ BKo (W1.setCell ⟨sp, 3, none⟩ (.slice (some ⟨g, 0, none⟩) (n + 1) cap)) w0.heap.size (.slice (some ⟨g, 0, none⟩) (n + 1) cap) (st.bk ++ [b]) (uvs ++ [uv]) ∧ Below w0.heap.size W1 (W1.setCell ⟨sp, 3, none⟩ (.slice (some ⟨g, 0, none⟩) (n + 1) cap)) := by
  have hk : ∀ {x : Nat} {o : Obj}, W.heap[x]? = some o → (∀ cs m, o ≠ .cells cs 121 m) → W1.heap[x]? = some o := fun {x o} hx hne => by
    refine (hgr.block x (Array.getElem?_eq_some_iff.1 hx).1 (fun e => ?_)).trans hx
    obtain ⟨_, cs, hc⟩ := ho.row e.symm
    rw [hx] at hc
    injection hc with hc
    exact hne _ _ hc
  have hB1 : Below w0.heap.size W W1 := (Below.refl _ W).grown hgr h.bel.size (fun x hx => (ho.row hx).1)
  have hblk := hk h.blk (by simp)
  obtain ⟨es, c, ho1⟩ := h.wm.isMap
  obtain ⟨es2, c2, ho2⟩ := h.lnm.isMap
  have hk1 := hk ho1 (by simp)
  have hk2 := hk ho2 (by simp)
  have hka := hk h.asb (by simp)
  have ht := turns_set W1 sp 3 (.slice (some ⟨g, 0, none⟩) (n + 1) cap)
  have e1 : m1 ≠ sp := ne_obj hk1 hblk (by simp)
  have e2 : m2 ≠ sp := ne_obj hk2 hblk (by simp)
  have e3 : ga ≠ sp := ne_obj hka hblk (by simp)
  have hbl : (st.bk ++ [b]).length = n + 1 := by simp [hn]
  have hBK1 : BKo W1 w0.heap.size (.slice (some ⟨g, 0, none⟩) (n + 1) cap) (st.bk ++ [b]) (uvs ++ [uv]) := by
    refine ⟨by simp [ho.1], ?_⟩
    rw [hbl, fbk_snoc _ _ _ _ ho.1]
    exact hown
  have hBK := hBK1.turn hblk (by simp) ht
  have hur : ∀ {v : Value} {l : List (Int × Int)}, UR W w0.heap.size v l → UR (W1.setCell ⟨sp, 3, none⟩ (.slice (some ⟨g, 0, none⟩) (n + 1) cap)) w0.heap.size v l := fun {v l} hv => by
    have h1 : UR W1 w0.heap.size v l := hv.keep (fun x hx hc => by
      refine hgr.block x hx (fun e => ?_)
      obtain ⟨hb, cs, hcs⟩ := ho.row e.symm
      rcases hc with hc | ⟨cs', m, hc⟩
      · omega
      · rw [hc] at hcs; simp at hcs)
    exact h1.turn h.bsp hblk (by simp) ht
  refine ⟨⟨?_, (h.bel.trans hB1).setCell h.bsp _, h.rul, h.bsp, h.bm1, h.bga, h.bm2, h.m12, h.wm.kept (fun o hb => (ht _ e1).trans (by rw [ho1] at hb; cases hb; exact hk1)), (ht _ e3).trans hka, hBK.bk, fun j hj hj' => ?_, h.lnm.kept (fun o hb => (ht _ e2).trans (by rw [ho2] at hb; cases hb; exact hk2)), fun k v e => by cases e⟩, hBK, (Below.refl _ _).setCell h.bsp _⟩
  · rw [set_heap hblk]; simp
  · by_cases hlt : j < st.bk.length
    · rw [List.getElem_append_left hlt, List.getElem_append_left (by rw [ho.1]; exact hlt)]
      exact hur (h.urs j hlt (by rw [ho.1]; exact hlt))
    · have hje : j = st.bk.length := by simp at hj; omega
      subst hje
      rw [List.getElem_append_right (Nat.le_refl _), List.getElem_append_right (by rw [ho.1]; exact Nat.le_refl _)]
      simpa using hur hu
end
end Go.Proofs
