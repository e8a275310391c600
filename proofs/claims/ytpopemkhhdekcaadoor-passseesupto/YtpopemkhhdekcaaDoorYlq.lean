/-
  PassSees walked.
-/
import Derived.RangeFuncNested
import Derived.RangeFuncBound
import Derived.RangeFuncCalls
import Derived.RangeFuncLeaves
import Derived.Shelf.Abstract
import Derived.Shelf.RegionOpen
import Derived.WalkKit
import Derived.WalkSpells
import Derived.WalkLawsBesides
import Derived.OwnWalkIn
import Derived.TacticsInMore
import Derived.LoopNIn
import Derived.LoopIn
import Derived.BigQuiet
import Derived.RegionIn
import Derived.Deep.QuietTactic
import Derived.Deep.RegionWith
import Derived.Lib.OthersKept
import Derived.Maps.AppendAt
import Derived.Lib.SmallJoins
import Derived.Shelf.SlSortCmp.QuietGrown
import Derived.RangeFuncWrites
import Derived.RangeFuncBox
import Derived.Maps.OwnIn
import Derived.Test.YtpopemkhhdekcaaDoorMgtq
import Derived.Test.YtpopemkhhdekcaaDoorMguq
namespace Go.Proofs
open Go.RowKit Go.Shelf

set_option maxRecDepth 100000
attribute [local go_sem] Oper.semAt_some
attribute [local go_sem ↓] Go.wp_at_zero Go.wp_at_succ

/-- the iterator's blocks, and what the law keeps: a row of steps in a box -/
def SI (W3 : World) (S0 sb h : Nat) (pre : List Stp) (F : Nat → Prop) (W : World) : Prop :=
  Below W3.heap.size W3 W ∧ (∀ k, F k → W3.heap.size ≤ k ∧ k < W.heap.size) ∧ ¬ F sb ∧ ∃ sv, W.heap[sb]? = some (.cells #[sv] 32 (0, 0)) ∧ OwnS W S0 sv pre ∧ ∀ b, sv.ownBlock = some b → ¬ F b ∧ b ≠ h ∧ b ≠ h + 1 ∧ b ≠ sb
theorem SI.stab {W3 : World} {S0 sb h : Nat} (hs : sb < h) (h3 : W3.heap.size ≤ h) {pre : List Stp} {F F' : Nat → Prop} {X Y : World} (hX : SI W3 S0 sb h pre F X) (hf : Fr X Y fun k => F k ∨ k = h + 1) (hn : ∀ k, F' k → F k ∨ X.heap.size ≤ k) (hlt : (∀ k, F k → k < X.heap.size) → ∀ k, F' k → k < Y.heap.size) : SI W3 S0 sb h pre F' Y := by
  obtain ⟨h1, h2, h4, sv, h5, h6, h7⟩ := hX
  have nF : ∀ k, k < X.heap.size → ¬ F k → ¬ F' k := fun k hk hn' hf' => by rcases hn k hf' with e | e; exact hn' e; omega
  refine ⟨h1.trans (hf.below (fun k hk => ?_) h1.size), fun k hk => ⟨?_, hlt (fun k hk => (h2 k hk).2) k hk⟩, nF _ (blk_lt h5) h4, sv, (hf.block _ (blk_lt h5) fun e => ?_).trans h5, own_fr h6 hf fun b hb e => ?_, fun b hb => ⟨nF _ (World.ownsRow.lt h6 b hb).2 (h7 b hb).1, (h7 b hb).2⟩⟩
  · rcases hk with e | e
    · exact (h2 k e).1
    · omega
  · rcases hn k hk with e | e
    · exact (h2 k e).1
    · have := h1.size; omega
  · rcases e with e | e
    · exact h4 e
    · omega
  · have := h7 b hb
    rcases e with e | e
    · exact this.1 e
    · exact this.2.2.1 e
theorem SI.pushed {W3 X w' : World} {S0 sb h : Nat} (hs : sb < h) (hS : W3.heap.size ≤ S0) (hSb : S0 ≤ sb) {pre : List Stp} {x : Stp} {F : Nat → Prop} {sv sv' : Value} {o : Obj} {gg : Nat} (h1 : Below W3.heap.size W3 X) (h2 : ∀ k, F k → W3.heap.size ≤ k ∧ k < X.heap.size) (h4 : ¬ F sb) (h5 : X.heap[sb]? = some (.cells #[sv] 32 (0, 0))) (h6 : OwnS X S0 sv pre) (h7 : ∀ b, sv.ownBlock = some b → ¬ F b ∧ b ≠ h ∧ b ≠ h + 1 ∧ b ≠ sb) (hsz : h + 2 ≤ X.heap.size)
    (q1 : OwnS w' S0 sv' (pre ++ [x])) (q2 : (X.alloc o).grownBy w' sv.ownBlock) (hv : sv'.ownBlock = some gg) (q3 : some gg = sv.ownBlock ∨ gg = (X.alloc o).heap.size) :
    KAll (ZF F h) W3.heap.size X (w'.setCell ⟨sb, 0, none⟩ sv') ∧ SI W3 S0 sb h (pre ++ [x]) F (w'.setCell ⟨sb, 0, none⟩ sv') ∧ w'.cell? ⟨sb, 0, none⟩ = some sv ∧ w'.frozen? ⟨sb, 0, none⟩ = false := by
  have ha : (X.alloc o).heap.size = X.heap.size + 1 := by simp
  have g0 : Grown X (X.alloc o) := (Grown.refl X).alloc o
  have hsv : ∀ b, sv.ownBlock = some b → S0 ≤ b := fun b hb => (World.ownsRow.lt h6 b hb).1
  have fr1 := fr_by q2
  have fr2 : Fr X w' fun k => sv.ownBlock = some k := (fr_grown g0 _).trans fr1 fun _ _ e => e
  have fr3 : Fr X (w'.setCell ⟨sb, 0, none⟩ sv') fun k => sv.ownBlock = some k ∨ k = sb := (fr2.mono fun _ _ e => .inl e).trans (fr_set w' sb 0 sv') fun _ _ e => .inr e
  have hb5 : w'.heap[sb]? = some (.cells #[sv] 32 (0, 0)) := (fr2.block _ (blk_lt h5) fun e => (h7 _ e).2.2.2 rfl).trans h5
  have hbel : Below W3.heap.size X (w'.setCell ⟨sb, 0, none⟩ sv') := fr3.below (fun k e => by
    rcases e with e | e
    · have := hsv k e; omega
    · omega) h1.size
  have hgn : ¬ F gg ∧ gg ≠ h ∧ gg ≠ h + 1 ∧ gg ≠ sb := by
    rcases q3 with e | e
    · exact h7 gg e.symm
    · exact ⟨fun hf => by have := (h2 gg hf).2; omega, by omega, by omega, by have := blk_lt h5; omega⟩
  refine ⟨⟨hbel, fun k ob hk ho => (fr3.block k (blk_lt ho) fun e => ?_).trans ho⟩, ⟨h1.trans hbel, fun k hk => ⟨(h2 k hk).1, Nat.lt_of_lt_of_le (h2 k hk).2 fr3.size⟩, h4, sv', ?_, own_fr q1 (fr_set w' sb 0 sv') (fun b hb e => ?_), fun b hb => ?_⟩, ?_, free_of hb5⟩
  · rcases e with e | e
    · have := h7 k e
      rcases hk with hk | hk | hk
      · exact this.1 hk
      · exact this.2.1 hk
      · exact this.2.2.1 hk
    · rcases hk with hk | hk | hk
      · exact h4 (e ▸ hk)
      · omega
      · omega
  · rw [set_heap hb5]; rfl
  · rw [hv] at hb
    injection hb with hb
    subst hb
    exact hgn.2.2.2 e
  · rw [hv] at hb
    injection hb with hb
    subst hb
    exact hgn
  · rw [cell_of hb5]; rfl
theorem ownS_form {w : World} {base : Nat} {v : Value} {l : List Stp} (h : OwnS w base v l) : ∃ a c, v = .slice a l.length c := by
  rcases h.2 with ⟨e, h0⟩ | ⟨g, cap, cur, e, _⟩
  · exact ⟨none, 0, by rw [e, h0]⟩
  · exact ⟨_, cap, e⟩
theorem short_of {xs p : List Stp} (hp : p <+: xs) (hall : ∀ x ∈ p, 19 < x.l) (hend : p = xs ∨ ∃ x, p ++ [x] <+: xs ∧ x.l ≤ 19) : shortK xs = p.length := by
  have key : ∀ r : List Stp, (p ++ r).takeWhile (fun x => decide (19 < x.l)) = p ++ r.takeWhile (fun x => decide (19 < x.l)) := fun r => List.takeWhile_append_of_pos fun x hx => by simpa using hall x hx
  unfold shortK
  rcases hend with rfl | ⟨x, ⟨r, hr⟩, hx⟩
  · have := key []
    simp only [List.append_nil, List.takeWhile_nil] at this
    rw [this]
  · have hk := key ([x] ++ r)
    rw [← List.append_assoc, hr] at hk
    rw [hk]
    have : ¬ 19 < x.l := by omega
    simp [this]
theorem short_pure {xs ys p : List Stp} (h : shortK xs ≤ ys.length ∧ ∀ (j : Nat) x y, j < shortK xs → xs[j]? = some x → ys[j]? = some y → Alk x y) (hp : p <+: xs) (hk : shortK xs = p.length) : p.length ≤ ys.length ∧ ∀ (j : Nat) x y, p[j]? = some x → ys[j]? = some y → Alk x y := by
  rw [hk] at h
  refine ⟨h.1, fun j x y hx hy => h.2 j x y (List.getElem?_eq_some_iff.1 hx).1 ?_ hy⟩
  obtain ⟨r, rfl⟩ := hp
  rw [List.getElem?_append_left (List.getElem?_eq_some_iff.1 hx).1]
  exact hx
theorem fs_at (l : List Stp) {j : Nat} (hj : j < l.length) (i : Nat) (hi : i < 6) : (fs l)[j * 6 + i]? = (fs1 l[j])[i]? := by
  induction l generalizing j with
  | nil => simp at hj
  | cons x l ih =>
    have e : fs (x :: l) = fs1 x ++ fs l := by simp [fs]
    have h6 : (fs1 x).length = 6 := rfl
    rw [e]
    match j with
    | 0 =>
      rw [List.getElem?_append_left (by omega), Nat.zero_mul, Nat.zero_add]
      rfl
    | j + 1 =>
      rw [List.getElem?_append_right (by omega), h6, show (j + 1) * 6 + i - 6 = j * 6 + i by omega]
      exact ih (by simpa using hj)
theorem ownS_cell {w : World} {base g n c : Nat} {l : List Stp} (h : OwnS w base (.slice (some ⟨g, 0, none⟩) n c) l) {j : Nat} (hj : j < l.length) {i : Nat} {v : Value} (hi : i < 6) (hv : (fs1 l[j])[i]? = some v) : w.cell? ⟨g, j * 6 + i, none⟩ = some v := by
  have hn : l.length = n := by
    obtain ⟨a, c', e⟩ := ownS_form h
    injection e with _ e _
    exact e.symm
  subst hn
  rw [World.ownsRow.cellAt h _ (by omega), fs_at l hj i hi]
  exact hv
theorem repD : (Array.replicate 110 undef : Array Value) = #[undef, undef, undef, undef, undef, undef, undef, undef, undef, undef, undef, undef, undef, undef, undef, undef, undef, undef, undef, undef, undef, undef, undef, undef, undef, undef, undef, undef, undef, undef, undef, undef, undef, undef, undef, undef, undef, undef, undef, undef, undef, undef, undef, undef, undef, undef, undef, undef, undef, undef, undef, undef, undef, undef, undef, undef, undef, undef, undef, undef, undef, undef, undef, undef, undef, undef, undef, undef, undef, undef, undef, undef, undef, undef, undef, undef, undef, undef, undef, undef, undef, undef, undef, undef, undef, undef, undef, undef, undef, undef, undef, undef, undef, undef, undef, undef, undef, undef, undef, undef, undef, undef, undef, undef, undef, undef, undef, undef, undef, undef] := by kernel_rfl
set_option maxHeartbeats 16000000 in
theorem sees_law (v : Value) (rs : List Rl) (s t : ByteArray) (w : World) (hT : Tab w) (hP : PsR w v rs) (hl : rs.length ≤ maxLen) (hz : ∀ r ∈ rs, Go.Proofs.YtpopemkhhdekcaaDoor.Lz r) (hst : s.size + t.size ≤ 1048576) :
    Calls Tryd.prog 3 #[.agg #[v], .string s, .string t] w fun e w' => e = .returned (.bool true) ∧ Below w.heap.size w w' := by
  have HB : Hid (∀ W, Grown w W → Calls Tryd.prog 6 #[.agg #[v]] W (BeyQ W)) := fun W hg => beyond_any v rs W (hP.grown hg) hl hz
  have HSh : Hid (∀ W, Below w.heap.size w W → Calls Tryd.prog 7 #[] W fun e w' => e = .returned (.bool true) ∧ Below W.heap.size W w') := fun W hb => shown_any W (hT.below hb hT.pos) (Nat.lt_of_lt_of_le hT.pos hb.size)
  have H13 : Hid (∀ W x, Below w.heap.size w W → Calls Tryd.prog 8 #[.agg #[v], .string x] W (StpQ W rs x)) := fun W x hb => steps_any v rs x W (hT.below hb hT.pos) (hP.below hb (Nat.le_refl _))
  have HTab := Hid.mk' hT
  obtain ⟨va, vc, hv, hx1, hx2⟩ := hP
  clear hx1 hx2
  obtain ⟨n, hn⟩ : ∃ n, rs.length = n := ⟨_, rfl⟩
  rw [hn] at hv hl
  subst hv
  clear hT hn hz
  refine (callsIn_wide (n := 6)).1 ?_
  refine callsIn_of_wp_marks Tryd.func3 rfl trivial ?_ rfl
  simp only [Tryd.ntmps3, List.size_toArray, List.length_cons, List.length_nil, Nat.reduceAdd, Nat.reduceSub]
  rw [repD]
  simp only [List.append_toArray, List.nil_append, List.cons_append]
  obtain ⟨W0, hW0⟩ : ∃ W0, W0 = (w.alloc (.cells #[.slice va n vc] 24)).alloc (.cells #[.bool false] 4) := ⟨_, rfl⟩
  have HG0 : Hid (Grown w W0) := by show Grown _ _; rw [hW0]; exact ((Grown.refl _).alloc _).alloc _
  have hr0 : W0.heap[w.heap.size + 1]? = some (.cells #[.bool false] 4 (0, 0)) := by rw [hW0]; have := heap_alloc_new (w.alloc (.cells #[.slice va n vc] 24)) (.cells #[.bool false] 4); simpa using this
  have hb0 : W0.heap[w.heap.size]? = some (.cells #[.slice va n vc] 24 (0, 0)) := by rw [hW0]; exact (Below.heap_alloc _ _ _ (by simp)).trans (heap_alloc_new w _)
  gi_wp2_with fail
  rw [← hW0]
  clear hW0
  refine ⟨trivial, ?_⟩
  refine (callsIn_wide.2 (HB.out W0 HG0.out)).mono ?_
  rintro e W1 ⟨bb, rfl, hg1⟩
  have hr1 := (hg1.below.block _ (blk_lt hr0)).trans hr0
  have hb1 := (hg1.below.block _ (blk_lt hb0)).trans hb0
  have HB1 : Hid (Below w.heap.size w W1) := HG0.out.below.trans (hg1.below.mono HG0.out.size)
  clear hg1 HB HG0 hr0 hb0
  cases bb with
  | true =>
    have hrr : (W1.setCell ⟨w.heap.size + 1, 0, none⟩ (.bool true)).heap[w.heap.size + 1]? = some (.cells #[.bool true] 4 (0, 0)) := (set_heap hr1).trans rfl
    have c0 : (W1.setCell ⟨w.heap.size + 1, 0, none⟩ (.bool true)).cell? ⟨w.heap.size + 1, 0, none⟩ = some (.bool true) := (cell_of hrr).trans rfl
    have fx : W1.frozen? ⟨w.heap.size + 1, 0, none⟩ = false := free_of hr1
    have cx : W1.cell? ⟨w.heap.size + 1, 0, none⟩ = some (.bool false) := by rw [cell_of hr1]; rfl
    have HE1 : Hid (Below w.heap.size w (W1.setCell ⟨w.heap.size + 1, 0, none⟩ (.bool true))) := Below.setCell (p := ⟨w.heap.size + 1, 0, none⟩) HB1.out (by simp) _
    clear hb1
    gi_wp2
    refine ⟨.bool true, ?_, rfl, HE1.out⟩
    have hr : Tryd.f3.results = #[.cell 6 4] := rfl
    simp only [results, hr]
    simp [go_sem, c0]
  | false =>
  gi_wp2_with fail
  refine ⟨trivial, ?_⟩
  refine (callsIn_wide.2 (HSh.out W1 HB1.out)).mono ?_
  rintro e W2 ⟨rfl, hg2⟩
  have hr2 := (hg2.block _ (blk_lt hr1)).trans hr1
  have hb2 := (hg2.block _ (blk_lt hb1)).trans hb1
  have HB2 : Hid (Below w.heap.size w W2) := HB1.out.trans (hg2.mono HB1.out.size)
  have d2 : W2.cell? ⟨w.heap.size, 0, none⟩ = some (.slice va n vc) := by rw [cell_of hb2]; rfl
  clear hg2 HB1 HSh hr1 hb1
  gi_wp2_with fail
  refine ⟨trivial, ?_⟩
  refine (callsIn_wide.2 (H13.out W2 s HB2.out)).mono ?_
  rintro e W3 ⟨hg3, hs3⟩
  have hr3 := (hg3.block _ (blk_lt hr2)).trans hr2
  have hrl3 : w.heap.size + 1 < W3.heap.size := blk_lt hr3
  have hb3 := (hg3.block _ (blk_lt hb2)).trans hb2
  have HB3 : Hid (Below w.heap.size w W3) := HB2.out.trans (hg3.mono HB2.out.size)
  have d3 : W3.cell? ⟨w.heap.size, 0, none⟩ = some (.slice va n vc) := by rw [cell_of hb3]; rfl
  have HS3 := Hid.mk' hs3
  clear hg3 HB2 hr2 hb2 d2 hs3
  rcases HS3.out with ⟨hne, rfl⟩ | ⟨he0, b1, b2, vv, rfl, hlb1, hlb2, hx1, hx2, hrob⟩
  · -- the first text is refused
    obtain ⟨E, hE⟩ : ∃ E, mayE rs s = E := ⟨_, rfl⟩
    rw [hE] at hne
    rw [hE]
    have hne2 : (E != 0) = true := by simpa using hne
    clear HS3
    gi_wp2_with fail
    refine ⟨trivial, ?_⟩
    refine (callsIn_wide.2 (H13.out W3 (s ++ t) HB3.out)).mono ?_
    rintro e W4 ⟨hg4, hs4⟩
    have hr4 := (hg4.block _ (blk_lt hr3)).trans hr3
    have HB4 : Hid (Below w.heap.size w W4) := HB3.out.trans (hg4.mono HB3.out.size)
    have hnf : ∀ W, (binOp .eql 28 .nilFunc .nilFunc).run Tryd.prog W = .ok (.bool true) W := fun W => by kernel_rfl
    clear hg4 hr3 hb3 d3 HB3 H13 hE
    rcases hs4 with ⟨_, rfl⟩ | ⟨_, c1, c2, vw, rfl, _⟩
    · generalize mayE rs (s ++ t) = E2
      have hrr : (W4.setCell ⟨w.heap.size + 1, 0, none⟩ (.bool true)).heap[w.heap.size + 1]? = some (.cells #[.bool true] 4 (0, 0)) := (set_heap hr4).trans rfl
      have c0 : (W4.setCell ⟨w.heap.size + 1, 0, none⟩ (.bool true)).cell? ⟨w.heap.size + 1, 0, none⟩ = some (.bool true) := (cell_of hrr).trans rfl
      have fx : W4.frozen? ⟨w.heap.size + 1, 0, none⟩ = false := free_of hr4
      have cx : W4.cell? ⟨w.heap.size + 1, 0, none⟩ = some (.bool false) := by rw [cell_of hr4]; rfl
      have HE1 : Hid (Below w.heap.size w (W4.setCell ⟨w.heap.size + 1, 0, none⟩ (.bool true))) := Below.setCell (p := ⟨w.heap.size + 1, 0, none⟩) HB4.out (by simp) _
      skip
      gi_wp2
      refine ⟨.bool true, ?_, rfl, HE1.out⟩
      have hr : Tryd.f3.results = #[.cell 6 4] := rfl
      simp only [results, hr]
      simp [go_sem, c0]
    · skip
      have hrr : (W4.setCell ⟨w.heap.size + 1, 0, none⟩ (.bool true)).heap[w.heap.size + 1]? = some (.cells #[.bool true] 4 (0, 0)) := (set_heap hr4).trans rfl
      have c0 : (W4.setCell ⟨w.heap.size + 1, 0, none⟩ (.bool true)).cell? ⟨w.heap.size + 1, 0, none⟩ = some (.bool true) := (cell_of hrr).trans rfl
      have fx : W4.frozen? ⟨w.heap.size + 1, 0, none⟩ = false := free_of hr4
      have cx : W4.cell? ⟨w.heap.size + 1, 0, none⟩ = some (.bool false) := by rw [cell_of hr4]; rfl
      have HE1 : Hid (Below w.heap.size w (W4.setCell ⟨w.heap.size + 1, 0, none⟩ (.bool true))) := Below.setCell (p := ⟨w.heap.size + 1, 0, none⟩) HB4.out (by simp) _
      skip
      gi_wp2
      refine ⟨.bool true, ?_, rfl, HE1.out⟩
      have hr : Tryd.f3.results = #[.cell 6 4] := rfl
      simp only [results, hr]
      simp [go_sem, c0]
  -- the first text is run
  clear HS3
  obtain ⟨st, hM⟩ := made_of HTab.out HTab.out.pos HB3.out he0 hx1 hx2 hrob.now
  have HM := Hid.mk' hM
  have HE0 := Hid.mk' he0
  clear hM hx1 hx2 hrob hlb1 hlb2 he0
  gi_wp2_with fail
  refine ⟨trivial, ?_⟩
  refine (callsIn_wide.2 (H13.out W3 (s ++ t) HB3.out)).mono ?_
  rintro e W4 ⟨hg4, hs4⟩
  have hr4 := (hg4.block _ (blk_lt hr3)).trans hr3
  have HB4 : Hid (Below w.heap.size w W4) := HB3.out.trans (hg4.mono HB3.out.size)
  have HB34 : Hid (Below W3.heap.size W3 W4) := hg4
  clear hg4 hr3 hb3 d3 H13
  rcases hs4 with ⟨hne, rfl⟩ | ⟨he1, c1, c2, vw, rfl, hlb1, hlb2, hx1, hx2, hrob⟩
  · obtain ⟨E2, hE⟩ : ∃ E2, mayE rs (s ++ t) = E2 := ⟨_, rfl⟩
    rw [hE] at hne
    rw [hE]
    have hne2 : (E2 != 0) = true := by simpa using hne
    have hnf : ∀ W, (binOp .eql 28 .nilFunc .nilFunc).run Tryd.prog W = .ok (.bool true) W := fun W => by kernel_rfl
    clear hE
    have hrr : (W4.setCell ⟨w.heap.size + 1, 0, none⟩ (.bool true)).heap[w.heap.size + 1]? = some (.cells #[.bool true] 4 (0, 0)) := (set_heap hr4).trans rfl
    have c0 : (W4.setCell ⟨w.heap.size + 1, 0, none⟩ (.bool true)).cell? ⟨w.heap.size + 1, 0, none⟩ = some (.bool true) := (cell_of hrr).trans rfl
    have fx : W4.frozen? ⟨w.heap.size + 1, 0, none⟩ = false := free_of hr4
    have cx : W4.cell? ⟨w.heap.size + 1, 0, none⟩ = some (.bool false) := by rw [cell_of hr4]; rfl
    have HE1 : Hid (Below w.heap.size w (W4.setCell ⟨w.heap.size + 1, 0, none⟩ (.bool true))) := Below.setCell (p := ⟨w.heap.size + 1, 0, none⟩) HB4.out (by simp) _
    skip
    gi_wp2
    refine ⟨.bool true, ?_, rfl, HE1.out⟩
    have hr : Tryd.f3.results = #[.cell 6 4] := rfl
    simp only [results, hr]
    simp [go_sem, c0]
  obtain ⟨st2, hM2⟩ := made_of HTab.out HTab.out.pos HB4.out he1 hx1 hx2 hrob.now
  have HM2 := Hid.mk' hM2
  clear hx1 hx2 hrob hlb1 hlb2
  -- what is known of both runs
  obtain ⟨xs, hxs⟩ : ∃ xs, (endOf rs s).1 = xs := ⟨_, rfl⟩
  obtain ⟨ys, hys⟩ : ∃ ys, (endOf rs (s ++ t)).1 = ys := ⟨_, rfl⟩
  have HPure : Hid (shortK xs ≤ ys.length ∧ ∀ (j : Nat) x y, j < shortK xs → xs[j]? = some x → ys[j]? = some y → Alk x y) := by
    obtain ⟨P, q1, q2, e1, e2, e3⟩ := units_more0 s t
    have g1 := HM.out.end3
    have g2 := hM2.end3
    rw [hxs] at g1
    rw [hys] at g2
    exact sees_pure HM.out.pw.ck e1 e2 e3 g1 g2
  have HLen : Hid (xs.length ≤ 1048576) := by
    have g1 := HM.out.end3
    rw [hxs] at g1
    have := g1.lens HM.out.pw.fin HM.out.pw.ck
    have hl0 : (intsU (units s)).length ≤ 16384 := by rw [intsU_length]; have := units_len s; have := HM.out.sz; omega
    show _ ≤ _
    omega
  have HXS : Hid ((endOf rs s).1 = xs ∧ (endOf rs (s ++ t)).1 = ys) := ⟨hxs, hys⟩
  clear hM2 hxs hys he1
  have HR4 := Hid.mk' hr4
  have hrlt : w.heap.size + 1 < W3.heap.size := hrl3
  clear hr4
  have hnf1 : ∀ W, (binOp .eql 28 (.func (.func 22) #[] #[.pointer (some ⟨b1, 0, none⟩), .pointer (some ⟨b2, 0, none⟩)]) .nilFunc).run Tryd.prog W = .ok (.bool false) W := fun W => by kernel_rfl
  have hnf2 : ∀ W, (binOp .eql 28 (.func (.func 22) #[] #[.pointer (some ⟨c1, 0, none⟩), .pointer (some ⟨c2, 0, none⟩)]) .nilFunc).run Tryd.prog W = .ok (.bool false) W := fun W => by kernel_rfl
  gi_wp2
  obtain ⟨S0, hS0⟩ : ∃ S0, S0 = W4.heap.size := ⟨_, rfl⟩
  rw [← hS0]
  obtain ⟨W5, hW5⟩ : ∃ W5, W5 = (W4.alloc (.cells #[] 34)).alloc (.cells #[.slice (some ⟨S0, 0, none⟩) 0 0] 32) := ⟨_, rfl⟩
  rw [← hW5]
  have h5s : W5.heap.size = S0 + 2 := by rw [hW5, hS0]; simp
  have g45 : Grown W4 W5 := by rw [hW5]; exact ((Grown.refl _).alloc _).alloc _
  have h5a : W5.heap[S0]? = some (.cells #[] 34 (0, 0)) := by
    rw [hW5, hS0]
    exact (Below.heap_alloc _ _ _ (by simp)).trans (heap_alloc_new W4 _)
  have h5b : W5.heap[S0 + 1]? = some (.cells #[.slice (some ⟨S0, 0, none⟩) 0 0] 32 (0, 0)) := by
    have := heap_alloc_new (W4.alloc (.cells #[] 34)) (.cells #[.slice (some ⟨S0, 0, none⟩) 0 0] 32)
    rw [hW5]
    simpa [hS0] using this
  have h35 : W3.heap.size ≤ S0 := by rw [hS0]; exact HB34.out.size
  have h45b := g45.below
  have HB35 : Hid (Below W3.heap.size W3 W5) := HB34.out.trans (g45.below.mono HB34.out.size)
  have HI0 : Hid (∀ V, Grown W5 V → SI W4 S0 (S0 + 1) (S0 + 2) [] (fun _ => False) V) := fun V hg => by
    refine ⟨h45b.trans (hg.below.mono h45b.size), fun _ e => e.elim, fun e => e, .slice (some ⟨S0, 0, none⟩) 0 0, (hg.below.block _ (blk_lt h5b)).trans h5b, ⟨rfl, .inr ⟨S0, 0, #[], rfl, Nat.le_refl _, (hg.below.block _ (blk_lt h5a)).trans h5a, Nat.le_refl _, Nat.zero_le _, rfl, rfl⟩⟩, fun b hb => ?_⟩
    have hb : some S0 = some b := hb
    injection hb with hb
    subst hb
    exact ⟨fun e => e, by omega, by omega, by omega⟩
  have HBW5 : Hid (Below w.heap.size w W5 ∧ W5.heap[w.heap.size + 1]? = some (.cells #[.bool false] 4 (0, 0)) ∧ w.heap.size + 1 < W3.heap.size ∧ Below W4.heap.size W4 W5) := ⟨HB3.out.trans (HB35.out.mono HB3.out.size), (g45.below.block _ (blk_lt HR4.out)).trans HR4.out, hrlt, g45.below⟩
  have HS0 := Hid.mk' hS0
  clear hW5 h5a h5b g45 hS0 h45b
  refine wpIn_overF (enc := encS) (by omega) (gf := 22) (pa := #[]) (lb := #[.pointer (some ⟨b1, 0, none⟩), .pointer (some ⟨b2, 0, none⟩)]) rfl (enters_of Tryd.func22 (by kernel_rfl) rfl) (xf := xs) (b := W3.heap.size) (h := S0 + 2) (F0 := fun _ => False) (E := fun _ _ => True) h5s.symm (by omega) (fun _ e => e.elim)
    (fun r => by
      have := steps1_seqF (V := (W5.alloc (.deferred (some []))).alloc (.loop r)) HM.out (HB35.out.trans ((((Grown.refl W5).alloc _).alloc _).below.mono HB35.out.size)) 5 (S0 + 2 + 1) (by omega)
      rw [HXS.out.1] at this
      exact this)
    (fun _ _ _ _ _ => trivial) (fun _ => rfl)
    (fun pre F W => SI W4 S0 (S0 + 1) (S0 + 2) pre F W ∧ ∀ x ∈ pre, 19 < x.l)
    (fun c pre F W => c = .exit 0 ∧ ∃ p x, pre = p ++ [x] ∧ x.l ≤ 19 ∧ (∀ x ∈ p, 19 < x.l) ∧ SI W4 S0 (S0 + 1) (S0 + 2) p F W)
    (fun pre F F' X Y hX z0 z1 hf hn hlt => ⟨hX.1.stab (by omega) (by have := HS0.out; omega) hf hn hlt, hX.2⟩)
    (fun c pre F F' X Y hX z0 z1 hf hn hlt => by
      obtain ⟨e1, p, x, e2, e3, e4, e5⟩ := hX
      exact ⟨e1, p, x, e2, e3, e4, e5.stab (by omega) (by have := HS0.out; omega) hf hn hlt⟩)
    (fun r => ⟨HI0.out _ (((Grown.refl W5).alloc _).alloc _), by simp⟩) ?round ?done ?stop
  case round =>
    rintro pre x F W hpre hWs z0 z1 _
    rw [show (#[56] : Array Tmp).zip (encS x) = #[(56, Value.agg (fs1 x).toArray)] from zip1 _ _]
    have hplen : pre.length + 1 ≤ 1048576 := by have h1 := hpre.length_le; have h2 := HLen.out; rw [List.length_append, List.length_singleton] at h1; omega
    unfold fs1
    gi_wp2
    refine ⟨(Grown.refl _).alloc _, ?_⟩
    rintro X ⟨hI, hall⟩ hXs hXk _
    have hcx : X.heap[W.heap.size]? = some (.cells #[.int .i64 x.r, .int .i64 x.d, .int .i64 x.l, .int .i64 x.t, .int .i64 x.a, .int .i64 x.b] 34 (0, 0)) := by rw [hXk _ (by omega)]; exact heap_alloc_new W _
    have k0 : X.cell? ⟨W.heap.size, 0, none⟩ = some (.int .i64 x.r) := by rw [cell_of hcx]; rfl
    have k1 : X.cell? ⟨W.heap.size, 1, none⟩ = some (.int .i64 x.d) := by rw [cell_of hcx]; rfl
    have k2 : X.cell? ⟨W.heap.size, 2, none⟩ = some (.int .i64 x.l) := by rw [cell_of hcx]; rfl
    have k3 : X.cell? ⟨W.heap.size, 3, none⟩ = some (.int .i64 x.t) := by rw [cell_of hcx]; rfl
    have k4 : X.cell? ⟨W.heap.size, 4, none⟩ = some (.int .i64 x.a) := by rw [cell_of hcx]; rfl
    have k5 : X.cell? ⟨W.heap.size, 5, none⟩ = some (.int .i64 x.b) := by rw [cell_of hcx]; rfl
    have hXsz : S0 + 2 + 2 ≤ X.heap.size := by rw [hXs]; simp; omega
    obtain ⟨q1, q2, q3, sv, q4, q5, q6⟩ := id hI
    obtain ⟨ra, rc, hsv⟩ := ownS_form q5
    subst hsv
    obtain ⟨ln, hln⟩ : ∃ ln, pre.length = ln := ⟨_, rfl⟩
    rw [hln] at q4 q5 q6
    have cs : X.cell? ⟨S0 + 1, 0, none⟩ = some (.slice ra ln rc) := by rw [cell_of q4]; rfl
    have HX : Hid ((SI W4 S0 (S0 + 1) (S0 + 2) pre F X ∧ ∀ x ∈ pre, 19 < x.l) ∧ Below W4.heap.size W4 X ∧ (∀ k, F k → W4.heap.size ≤ k ∧ k < X.heap.size) ∧ ¬ F (S0 + 1) ∧ X.heap[S0 + 1]? = some (.cells #[.slice ra ln rc] 32 (0, 0)) ∧ OwnS X S0 (.slice ra ln rc) pre ∧ ∀ b, (Value.slice ra ln rc).ownBlock = some b → ¬ F b ∧ b ≠ S0 + 2 ∧ b ≠ S0 + 2 + 1 ∧ b ≠ S0 + 1) := ⟨⟨hI, hall⟩, q1, q2, q3, q4, q5, q6⟩
    have HLN : Hid (pre.length = ln) := hln
    clear hI hall q1 q2 q3 q4 q5 q6 hXs hXk hcx hln
    by_cases hx : x.l ≤ 19
    · gi_wp2
      exact ⟨KAll.refl _ _ _, rfl, pre, x, rfl, hx, HX.out.1.2, HX.out.1.1⟩
    · gi_wp2_with (gi_at_builtin; go_must (refine pushIn_S rfl _ _ rfl S0 (.slice ra ln rc) pre rfl (World.ownsRow.alloc HX.out.2.2.2.2.2.1 _) X.heap.size _ x rfl (heap_alloc_new X _) (by omega) (by simp; omega) ?_; intro gg cap w' h1 h2 h3; obtain ⟨y1, y2, y3, y4⟩ := SI.pushed (h := S0 + 2) (by omega) (Nat.le_of_eq HS0.out.symm) (by omega) HX.out.2.1 HX.out.2.2.1 HX.out.2.2.2.1 HX.out.2.2.2.2.1 HX.out.2.2.2.2.2.1 HX.out.2.2.2.2.2.2 hXsz h1 h2 rfl h3; have HY := Hid.mk' (And.intro y1 y2); clear y1 y2 h1 h2 h3))
      first
        | (refine ⟨HY.out.1.mono (fun _ e => e) HB34.out.size, HY.out.2, fun y hy => ?_⟩
           rcases List.mem_append.1 hy with e | e
           · exact HX.out.1.2 y e
           · simp at e; subst e; omega)
  case done =>
    rintro F W z0 z1 ⟨hSI, hall⟩ _ hK
    have hsk := short_of (xs := xs) (List.prefix_refl xs) hall (.inl rfl)
    obtain ⟨p, hpx⟩ : ∃ p, p = xs := ⟨_, rfl⟩
    have HLP : Hid (p.length ≤ xs.length) := by rw [hpx]; exact Nat.le_refl _
    have HLen2 := HLen
    have HSP : Hid (p.length ≤ ys.length ∧ ∀ (j : Nat) x y, p[j]? = some x → ys[j]? = some y → Alk x y) := by rw [hpx]; exact short_pure HPure.out (List.prefix_refl xs) hsk
    rw [← hpx] at hSI
    have HSI := Hid.mk' hSI
    have HLP : Hid (p.length ≤ 1048576) := Nat.le_trans HLP.out HLen.out
    clear hSI hall hsk hpx HLen2
    have HRT : Hid (W.heap[w.heap.size + 1]? = some (.cells #[.bool false] 4 (0, 0)) ∧ Below w.heap.size w W ∧ w.heap.size + 1 < S0) := by
      have hb4 := HSI.out.1
      exact ⟨(hb4.block _ (blk_lt HR4.out)).trans HR4.out, HB4.out.trans (hb4.mono HB4.out.size), by have := HBW5.out.2.2.1; omega⟩
    obtain ⟨_, _, _, sv, q4, q5, _⟩ := id HSI.out
    obtain ⟨ra, rc, hsv⟩ := ownS_form q5
    subst hsv
    obtain ⟨kk, hkk⟩ : ∃ kk, p.length = kk := ⟨_, rfl⟩
    rw [hkk] at q4 q5
    have HKK := Hid.mk' hkk
    have hkb : kk ≤ 1048576 := by have := HLP.out; omega
    have hkI : (kk : Int) ≤ 1048576 := by omega
    have HQ := Hid.mk' (And.intro q4 q5)
    clear q4 q5 hkk
    gi_wp2
    obtain ⟨nb, hnb⟩ : ∃ nb, nb = W.heap.size := ⟨_, rfl⟩
    rw [← hnb]
    obtain ⟨W6, hW6⟩ : ∃ W6, W6 = W.alloc (.cells #[.int .i64 0] 3) := ⟨_, rfl⟩
    rw [← hW6]
    have h6s : W6.heap.size = nb + 1 := by rw [hW6, hnb]; simp
    have g6 : Grown W W6 := by rw [hW6]; exact (Grown.refl _).alloc _
    have h6b : W6.heap[nb]? = some (.cells #[.int .i64 0] 3 (0, 0)) := by rw [hW6, hnb]; exact heap_alloc_new _ _
    have hnS : S0 + 2 < nb := by rw [hnb]; exact blk_lt hK
    have HN : Hid (nb = W.heap.size) := hnb
    have HB6 : Hid (Below nb W W6) := by show Below nb W W6; rw [hnb]; exact g6.below
    have HB46 : Hid (Below W4.heap.size W4 W6) := HSI.out.1.trans (g6.below.mono HSI.out.1.size)
    have HK := Hid.mk' hK
    clear hW6 g6 hnb hK
    refine wpIn_overF (enc := encS) (by omega) (gf := 22) (pa := #[]) (lb := #[.pointer (some ⟨c1, 0, none⟩), .pointer (some ⟨c2, 0, none⟩)]) rfl (enters_of Tryd.func22 (by kernel_rfl) rfl) (xf := ys) (b := W4.heap.size) (h := nb + 1) (F0 := fun _ => False) (E := fun _ _ => True) h6s.symm (by have := HS0.out; omega) (fun _ e => e.elim)
      (fun r => by
        have := steps1_seqF (V := (W6.alloc (.deferred (some []))).alloc (.loop r)) HM2.out (HB46.out.trans ((((Grown.refl W6).alloc _).alloc _).below.mono HB46.out.size)) 5 (nb + 1 + 1) (by omega)
        rw [HXS.out.2] at this
        exact this)
      (fun _ _ _ _ _ => trivial) (fun _ => rfl)
      (fun pre F W' => (Below nb W W' ∧ W'.heap[nb]? = some (.cells #[.int .i64 pre.length] 3 (0, 0)) ∧ ∀ k, F k → nb + 1 ≤ k) ∧ pre.length ≤ kk)
      (fun c pre F W' => c = .exit 2 ∧ (Below nb W W' ∧ W'.heap[nb]? = some (.cells #[.int .i64 kk] 3 (0, 0)) ∧ ∀ k, F k → nb + 1 ≤ k))
      (fun pre F F' X Y hX z0 z1 hf hn hlt => by
        obtain ⟨⟨h1, h2, h3⟩, h4⟩ := hX
        have hl := blk_lt h2
        exact ⟨⟨h1.trans (hf.below (fun k hk => by rcases hk with e | e; have := h3 k e; omega; omega) (by have := HN.out; have := h1.size; omega)), (hf.block _ hl fun e => by rcases e with e | e; have := h3 _ e; omega; omega).trans h2, fun k hk => by rcases hn k hk with e | e; exact h3 k e; omega⟩, h4⟩)
      (fun c pre F F' X Y hX z0 z1 hf hn hlt => by
        obtain ⟨h0, h1, h2, h3⟩ := hX
        have hl := blk_lt h2
        exact ⟨h0, h1.trans (hf.below (fun k hk => by rcases hk with e | e; have := h3 k e; omega; omega) (by have := HN.out; have := h1.size; omega)), (hf.block _ hl fun e => by rcases e with e | e; have := h3 _ e; omega; omega).trans h2, fun k hk => by rcases hn k hk with e | e; exact h3 k e; omega⟩)
      (fun r => by
        have hg : Grown W6 ((W6.alloc (.deferred (some []))).alloc (.loop r)) := ((Grown.refl W6).alloc _).alloc _
        exact ⟨⟨HB6.out.trans (hg.below.mono (by omega)), (hg.below.block _ (blk_lt h6b)).trans h6b, fun _ e => e.elim⟩, Nat.zero_le _⟩) ?round2 ?done2 ?stop2
    case round2 =>
      as_aux_lemma =>
        rintro pre y F V hpre hWs z0 z1 _
        rw [show (#[65] : Array Tmp).zip (encS y) = #[(65, Value.agg (fs1 y).toArray)] from zip1 _ _]
        have hyj : ys[pre.length]? = some y := by
          obtain ⟨r, hr⟩ := hpre
          rw [← hr]; simp
        unfold fs1
        gi_wp2
        refine ⟨(Grown.refl _).alloc _, ?_⟩
        rintro X ⟨⟨h1, h2, h3⟩, h4⟩ hXs hXk _
        have hcx : X.heap[V.heap.size]? = some (.cells #[.int .i64 y.r, .int .i64 y.d, .int .i64 y.l, .int .i64 y.t, .int .i64 y.a, .int .i64 y.b] 34 (0, 0)) := by rw [hXk _ (by omega)]; exact heap_alloc_new V _
        have k0 : ∀ o, (X.alloc o).cell? ⟨V.heap.size, 0, none⟩ = some (.int .i64 y.r) := fun o => cell_up (by rw [cell_of hcx]; rfl) o
        have k1 : ∀ o, (X.alloc o).cell? ⟨V.heap.size, 1, none⟩ = some (.int .i64 y.d) := fun o => cell_up (by rw [cell_of hcx]; rfl) o
        have k3 : ∀ o, (X.alloc o).cell? ⟨V.heap.size, 3, none⟩ = some (.int .i64 y.t) := fun o => cell_up (by rw [cell_of hcx]; rfl) o
        have k4 : ∀ o, (X.alloc o).cell? ⟨V.heap.size, 4, none⟩ = some (.int .i64 y.a) := fun o => cell_up (by rw [cell_of hcx]; rfl) o
        have k5 : ∀ o, (X.alloc o).cell? ⟨V.heap.size, 5, none⟩ = some (.int .i64 y.b) := fun o => cell_up (by rw [cell_of hcx]; rfl) o
        have hXsz : nb + 1 + 2 ≤ X.heap.size := by rw [hXs]; simp; omega
        obtain ⟨j, hj⟩ : ∃ j, pre.length = j := ⟨_, rfl⟩
        rw [hj] at h2 h4 hyj
        have hjI : (j : Int) ≤ 1048576 := by omega
        have hsb : X.heap[S0 + 1]? = some (.cells #[.slice ra kk rc] 32 (0, 0)) := (h1.block _ (by omega)).trans HQ.out.1
        have cs : X.cell? ⟨S0 + 1, 0, none⟩ = some (.slice ra kk rc) := by rw [cell_of hsb]; rfl
        have cn : X.cell? ⟨nb, 0, none⟩ = some (.int .i64 j) := by rw [cell_of h2]; rfl
        have HX : Hid (Below nb W X ∧ X.heap[nb]? = some (.cells #[.int .i64 j] 3 (0, 0)) ∧ ∀ k, F k → nb + 1 ≤ k) := ⟨h1, h2, h3⟩
        have HJ : Hid (pre.length = j) := hj
        by_cases hjk : j = kk
        · have hjkI : (j : Int) = (kk : Int) := by omega
          clear h1 h2 h3 hXs hXk hcx hj hsb k0 k1 k3 k4 k5
          subst hjk
          gi_wp2
          exact ⟨KAll.refl _ _ _, rfl, HX.out⟩
        · have hjl : j < kk := by omega
          have hjlI : (j : Int) < (kk : Int) := by omega
          have hneI : ¬ (j : Int) = (kk : Int) := by omega
          have hjp : j < p.length := by rw [HKK.out]; exact hjl
          obtain ⟨x, hx⟩ : ∃ x, p[j] = x := ⟨_, rfl⟩
          obtain ⟨a1, a2, a3, a4, a5⟩ := HSP.out.2 j x y (by rw [List.getElem?_eq_getElem hjp, hx]) hyj
          have hOX : OwnS X S0 (.slice ra kk rc) p := own_fr HQ.out.2 (fr_below h1 (Nat.le_of_eq HN.out.symm) fun _ => False) fun _ _ e => e
          obtain ⟨rg', hra⟩ : ∃ g, ra = some ⟨g, 0, none⟩ := by
            rcases hOX.2 with ⟨e, h0⟩ | ⟨g, cap, cur, e, _⟩
            · omega
            · injection e with e _ _; exact ⟨g, e⟩
          subst hra
          have r0 : X.cell? ⟨rg', j * 6, none⟩ = some (.int .i64 x.r) := by have := ownS_cell hOX hjp (i := 0) (v := .int .i64 x.r) (by decide) (by rw [hx]; rfl); simpa using this
          have r1 : X.cell? ⟨rg', j * 6 + 1, none⟩ = some (.int .i64 x.d) := ownS_cell hOX hjp (by decide) (by rw [hx]; rfl)
          have r2 : X.cell? ⟨rg', j * 6 + 2, none⟩ = some (.int .i64 x.l) := ownS_cell hOX hjp (by decide) (by rw [hx]; rfl)
          have r3 : X.cell? ⟨rg', j * 6 + 3, none⟩ = some (.int .i64 x.t) := ownS_cell hOX hjp (by decide) (by rw [hx]; rfl)
          have r4 : X.cell? ⟨rg', j * 6 + 4, none⟩ = some (.int .i64 x.a) := ownS_cell hOX hjp (by decide) (by rw [hx]; rfl)
          have r5 : X.cell? ⟨rg', j * 6 + 5, none⟩ = some (.int .i64 x.b) := ownS_cell hOX hjp (by decide) (by rw [hx]; rfl)
          rw [a1] at k0
          rw [a2] at k1
          rw [a3] at k3
          rw [a4] at k4
          rw [a5] at k5
          have cn' : ∀ o, (X.alloc o).cell? ⟨nb, 0, none⟩ = some (.int .i64 j) := fun o => cell_up cn o
          have fn' : ∀ o, (X.alloc o).frozen? ⟨nb, 0, none⟩ = false := fun o => free_of (((Grown.refl X).alloc o).below.block nb (blk_lt h2) |>.trans h2)
          have HJK : Hid (j < kk) := hjl
          clear h1 h2 h3 hXs hXk hcx hj hsb hOX hx a1 a2 a3 a4 a5 hjp hyj
          gi_wp2
          have gz : Grown X (X.alloc (.cells #[.int .i64 x.r, .int .i64 x.d, .int .i64 x.l, .int .i64 x.t, .int .i64 x.a, .int .i64 x.b] 34)) := (Grown.refl X).alloc _
          obtain ⟨z1', z2', z3'⟩ := HX.out
          have fz := (fr_grown gz (fun k => k = nb)).trans (fr_set (X.alloc (.cells #[.int .i64 x.r, .int .i64 x.d, .int .i64 x.l, .int .i64 x.t, .int .i64 x.a, .int .i64 x.b] 34)) nb 0 (.int .i64 ((j : Int) + 1))) fun _ _ e => e
          have hbz : Below nb X _ := fz.below (fun k e => by have e : k = nb := e; omega) (by omega)
          refine ⟨⟨hbz.mono (by have := HS0.out; omega), fun k o hk ho => (fz.block k (blk_lt ho) fun e => ?_).trans ho⟩, ⟨z1'.trans hbz, ?_, z3'⟩, by rw [List.length_append, List.length_singleton, HJ.out]; have := HJK.out; omega⟩
          · have e : k = nb := e
            subst e
            rcases hk with hk | hk | hk
            · have := z3' k hk; omega
            · omega
            · omega
          · rw [set_heap ((gz.below.block nb (blk_lt z2')).trans z2'), List.length_append, List.length_singleton, HJ.out]
            rfl
    case done2 =>
      rintro F W' z0 z1 ⟨⟨h1, h2, h3⟩, h4⟩ _ hK2
      have hyk : ys.length = kk := by have := HSP.out.1; rw [HKK.out] at this; omega
      rw [hyk] at h2
      have cn : W'.cell? ⟨nb, 0, none⟩ = some (.int .i64 kk) := by rw [cell_of h2]; rfl
      have hsb : W'.heap[S0 + 1]? = some (.cells #[.slice ra kk rc] 32 (0, 0)) := (h1.block _ (by omega)).trans HQ.out.1
      have cs : W'.cell? ⟨S0 + 1, 0, none⟩ = some (.slice ra kk rc) := by rw [cell_of hsb]; rfl
      have hR : W'.heap[w.heap.size + 1]? = some (.cells #[.bool false] 4 (0, 0)) := (h1.block _ (by have := HRT.out.2.2; omega)).trans HRT.out.1
      have cr : W'.cell? ⟨w.heap.size + 1, 0, none⟩ = some (.bool false) := by rw [cell_of hR]; rfl
      have fr : W'.frozen? ⟨w.heap.size + 1, 0, none⟩ = false := free_of hR
      have hK1 : W'.heap[S0 + 2]? = some (.deferred (some [])) := (h1.block _ (by omega)).trans HK.out
      have HW := Hid.mk' (And.intro h1 (And.intro hR (And.intro hK1 hK2)))
      clear h1 h2 h3 hsb hR hK1 hK2
      gi_wp2
      have hrw := HRT.out.2.2
      obtain ⟨y1, y2, y3, y4⟩ := HW.out
      have hA : (W'.setCell ⟨w.heap.size + 1, 0, none⟩ (.bool true)).heap[nb + 1]? = some (.deferred (some [])) := (Below.heap_setCell W' ⟨w.heap.size + 1, 0, none⟩ _ (nb + 1) (by simp only; omega)).trans y4
      have hB : ((W'.setCell ⟨w.heap.size + 1, 0, none⟩ (.bool true)).putObj (nb + 1) (.deferred none)).heap[S0 + 2]? = some (.deferred (some [])) := (World.putObj_heap_other (by omega)).trans ((Below.heap_setCell W' ⟨w.heap.size + 1, 0, none⟩ _ (S0 + 2) (by simp only; omega)).trans y3)
      refine ⟨by simp, .inl ⟨_, _, rfl, run_takeDeferred hA, ?_⟩⟩
      refine ⟨by simp, .inl ⟨_, _, rfl, run_takeDeferred hB, ?_⟩⟩
      have hR3 : (((W'.setCell ⟨w.heap.size + 1, 0, none⟩ (.bool true)).putObj (nb + 1) (.deferred none)).putObj (S0 + 2) (.deferred none)).heap[w.heap.size + 1]? = some (.cells #[.bool true] 4 (0, 0)) := (World.putObj_heap_other (by omega)).trans ((World.putObj_heap_other (by omega)).trans ((set_heap y2).trans rfl))
      have c0 : (((W'.setCell ⟨w.heap.size + 1, 0, none⟩ (.bool true)).putObj (nb + 1) (.deferred none)).putObj (S0 + 2) (.deferred none)).cell? ⟨w.heap.size + 1, 0, none⟩ = some (.bool true) := (cell_of hR3).trans rfl
      refine ⟨.bool true, ?_, rfl, ?_⟩
      · have hr : Tryd.f3.results = #[.cell 6 4] := rfl
        simp only [results, hr]
        simp [go_sem, c0]
      · have hs0 := HRT.out.2.1.size
        have hbw : Below w.heap.size w W' := HRT.out.2.1.trans (y1.mono (by have := HN.out; omega))
        have hb2 : Below w.heap.size w (W'.setCell ⟨w.heap.size + 1, 0, none⟩ (.bool true)) := Below.setCell (p := ⟨w.heap.size + 1, 0, none⟩) hbw (by simp) _
        have hb3 := hb2.trans ((fr_put (X := W'.setCell ⟨w.heap.size + 1, 0, none⟩ (.bool true)) (l := nb + 1) (.deferred none)).below (base := w.heap.size) (fun k e => by have e : k = nb + 1 := e; omega) (by have := hb2.size; omega))
        exact hb3.trans ((fr_put (l := S0 + 2) (.deferred none)).below (base := w.heap.size) (fun k e => by have e : k = S0 + 2 := e; omega) (by have := hb3.size; omega))
    case stop2 =>
      rintro c pre F W' hpre z0 z1 ⟨rfl, h1, h2, h3⟩ hK2
      have cn : W'.cell? ⟨nb, 0, none⟩ = some (.int .i64 kk) := by rw [cell_of h2]; rfl
      have hsb : W'.heap[S0 + 1]? = some (.cells #[.slice ra kk rc] 32 (0, 0)) := (h1.block _ (by omega)).trans HQ.out.1
      have cs : W'.cell? ⟨S0 + 1, 0, none⟩ = some (.slice ra kk rc) := by rw [cell_of hsb]; rfl
      have hR : W'.heap[w.heap.size + 1]? = some (.cells #[.bool false] 4 (0, 0)) := (h1.block _ (by have := HRT.out.2.2; omega)).trans HRT.out.1
      have cr : W'.cell? ⟨w.heap.size + 1, 0, none⟩ = some (.bool false) := by rw [cell_of hR]; rfl
      have fr : W'.frozen? ⟨w.heap.size + 1, 0, none⟩ = false := free_of hR
      have hK1 : W'.heap[S0 + 2]? = some (.deferred (some [])) := (h1.block _ (by omega)).trans HK.out
      have HW := Hid.mk' (And.intro h1 (And.intro hR (And.intro hK1 hK2)))
      clear h1 h2 h3 hsb hR hK1 hK2
      gi_wp2
      have hrw := HRT.out.2.2
      obtain ⟨y1, y2, y3, y4⟩ := HW.out
      have hA : (W'.setCell ⟨w.heap.size + 1, 0, none⟩ (.bool true)).heap[nb + 1]? = some (.deferred (some [])) := (Below.heap_setCell W' ⟨w.heap.size + 1, 0, none⟩ _ (nb + 1) (by simp only; omega)).trans y4
      have hB : ((W'.setCell ⟨w.heap.size + 1, 0, none⟩ (.bool true)).putObj (nb + 1) (.deferred none)).heap[S0 + 2]? = some (.deferred (some [])) := (World.putObj_heap_other (by omega)).trans ((Below.heap_setCell W' ⟨w.heap.size + 1, 0, none⟩ _ (S0 + 2) (by simp only; omega)).trans y3)
      refine ⟨by simp, .inl ⟨_, _, rfl, run_takeDeferred hA, ?_⟩⟩
      refine ⟨by simp, .inl ⟨_, _, rfl, run_takeDeferred hB, ?_⟩⟩
      have hR3 : (((W'.setCell ⟨w.heap.size + 1, 0, none⟩ (.bool true)).putObj (nb + 1) (.deferred none)).putObj (S0 + 2) (.deferred none)).heap[w.heap.size + 1]? = some (.cells #[.bool true] 4 (0, 0)) := (World.putObj_heap_other (by omega)).trans ((World.putObj_heap_other (by omega)).trans ((set_heap y2).trans rfl))
      have c0 : (((W'.setCell ⟨w.heap.size + 1, 0, none⟩ (.bool true)).putObj (nb + 1) (.deferred none)).putObj (S0 + 2) (.deferred none)).cell? ⟨w.heap.size + 1, 0, none⟩ = some (.bool true) := (cell_of hR3).trans rfl
      refine ⟨.bool true, ?_, rfl, ?_⟩
      · have hr : Tryd.f3.results = #[.cell 6 4] := rfl
        simp only [results, hr]
        simp [go_sem, c0]
      · have hs0 := HRT.out.2.1.size
        have hbw : Below w.heap.size w W' := HRT.out.2.1.trans (y1.mono (by have := HN.out; omega))
        have hb2 : Below w.heap.size w (W'.setCell ⟨w.heap.size + 1, 0, none⟩ (.bool true)) := Below.setCell (p := ⟨w.heap.size + 1, 0, none⟩) hbw (by simp) _
        have hb3 := hb2.trans ((fr_put (X := W'.setCell ⟨w.heap.size + 1, 0, none⟩ (.bool true)) (l := nb + 1) (.deferred none)).below (base := w.heap.size) (fun k e => by have e : k = nb + 1 := e; omega) (by have := hb2.size; omega))
        exact hb3.trans ((fr_put (l := S0 + 2) (.deferred none)).below (base := w.heap.size) (fun k e => by have e : k = S0 + 2 := e; omega) (by have := hb3.size; omega))
  case stop =>
    rintro c pre F W hpre z0 z1 ⟨rfl, p, x, rfl, hx, hall, hSI⟩ hK
    have hpp : p <+: xs := (List.prefix_append p [x]).trans hpre.1
    have hsk := short_of hpp hall (.inr ⟨x, hpre.1, hx⟩)
    have HSP : Hid (p.length ≤ ys.length ∧ ∀ (j : Nat) x y, p[j]? = some x → ys[j]? = some y → Alk x y) := short_pure HPure.out hpp hsk
    have HSI := Hid.mk' hSI
    have HLP : Hid (p.length ≤ 1048576) := Nat.le_trans hpp.length_le HLen.out
    clear hSI hall hsk hpp hpre hx
    have HRT : Hid (W.heap[w.heap.size + 1]? = some (.cells #[.bool false] 4 (0, 0)) ∧ Below w.heap.size w W ∧ w.heap.size + 1 < S0) := by
      have hb4 := HSI.out.1
      exact ⟨(hb4.block _ (blk_lt HR4.out)).trans HR4.out, HB4.out.trans (hb4.mono HB4.out.size), by have := HBW5.out.2.2.1; omega⟩
    obtain ⟨_, _, _, sv, q4, q5, _⟩ := id HSI.out
    obtain ⟨ra, rc, hsv⟩ := ownS_form q5
    subst hsv
    obtain ⟨kk, hkk⟩ : ∃ kk, p.length = kk := ⟨_, rfl⟩
    rw [hkk] at q4 q5
    have HKK := Hid.mk' hkk
    have hkb : kk ≤ 1048576 := by have := HLP.out; omega
    have hkI : (kk : Int) ≤ 1048576 := by omega
    have HQ := Hid.mk' (And.intro q4 q5)
    clear q4 q5 hkk
    gi_wp2
    obtain ⟨nb, hnb⟩ : ∃ nb, nb = W.heap.size := ⟨_, rfl⟩
    rw [← hnb]
    obtain ⟨W6, hW6⟩ : ∃ W6, W6 = W.alloc (.cells #[.int .i64 0] 3) := ⟨_, rfl⟩
    rw [← hW6]
    have h6s : W6.heap.size = nb + 1 := by rw [hW6, hnb]; simp
    have g6 : Grown W W6 := by rw [hW6]; exact (Grown.refl _).alloc _
    have h6b : W6.heap[nb]? = some (.cells #[.int .i64 0] 3 (0, 0)) := by rw [hW6, hnb]; exact heap_alloc_new _ _
    have hnS : S0 + 2 < nb := by rw [hnb]; exact blk_lt hK
    have HN : Hid (nb = W.heap.size) := hnb
    have HB6 : Hid (Below nb W W6) := by show Below nb W W6; rw [hnb]; exact g6.below
    have HB46 : Hid (Below W4.heap.size W4 W6) := HSI.out.1.trans (g6.below.mono HSI.out.1.size)
    have HK := Hid.mk' hK
    clear hW6 g6 hnb hK
    refine wpIn_overF (enc := encS) (by omega) (gf := 22) (pa := #[]) (lb := #[.pointer (some ⟨c1, 0, none⟩), .pointer (some ⟨c2, 0, none⟩)]) rfl (enters_of Tryd.func22 (by kernel_rfl) rfl) (xf := ys) (b := W4.heap.size) (h := nb + 1) (F0 := fun _ => False) (E := fun _ _ => True) h6s.symm (by have := HS0.out; omega) (fun _ e => e.elim)
      (fun r => by
        have := steps1_seqF (V := (W6.alloc (.deferred (some []))).alloc (.loop r)) HM2.out (HB46.out.trans ((((Grown.refl W6).alloc _).alloc _).below.mono HB46.out.size)) 5 (nb + 1 + 1) (by omega)
        rw [HXS.out.2] at this
        exact this)
      (fun _ _ _ _ _ => trivial) (fun _ => rfl)
      (fun pre F W' => (Below nb W W' ∧ W'.heap[nb]? = some (.cells #[.int .i64 pre.length] 3 (0, 0)) ∧ ∀ k, F k → nb + 1 ≤ k) ∧ pre.length ≤ kk)
      (fun c pre F W' => c = .exit 2 ∧ (Below nb W W' ∧ W'.heap[nb]? = some (.cells #[.int .i64 kk] 3 (0, 0)) ∧ ∀ k, F k → nb + 1 ≤ k))
      (fun pre F F' X Y hX z0 z1 hf hn hlt => by
        obtain ⟨⟨h1, h2, h3⟩, h4⟩ := hX
        have hl := blk_lt h2
        exact ⟨⟨h1.trans (hf.below (fun k hk => by rcases hk with e | e; have := h3 k e; omega; omega) (by have := HN.out; have := h1.size; omega)), (hf.block _ hl fun e => by rcases e with e | e; have := h3 _ e; omega; omega).trans h2, fun k hk => by rcases hn k hk with e | e; exact h3 k e; omega⟩, h4⟩)
      (fun c pre F F' X Y hX z0 z1 hf hn hlt => by
        obtain ⟨h0, h1, h2, h3⟩ := hX
        have hl := blk_lt h2
        exact ⟨h0, h1.trans (hf.below (fun k hk => by rcases hk with e | e; have := h3 k e; omega; omega) (by have := HN.out; have := h1.size; omega)), (hf.block _ hl fun e => by rcases e with e | e; have := h3 _ e; omega; omega).trans h2, fun k hk => by rcases hn k hk with e | e; exact h3 k e; omega⟩)
      (fun r => by
        have hg : Grown W6 ((W6.alloc (.deferred (some []))).alloc (.loop r)) := ((Grown.refl W6).alloc _).alloc _
        exact ⟨⟨HB6.out.trans (hg.below.mono (by omega)), (hg.below.block _ (blk_lt h6b)).trans h6b, fun _ e => e.elim⟩, Nat.zero_le _⟩) ?round2 ?done2 ?stop2
    case round2 =>
      as_aux_lemma =>
        rintro pre y F V hpre hWs z0 z1 _
        rw [show (#[65] : Array Tmp).zip (encS y) = #[(65, Value.agg (fs1 y).toArray)] from zip1 _ _]
        have hyj : ys[pre.length]? = some y := by
          obtain ⟨r, hr⟩ := hpre
          rw [← hr]; simp
        unfold fs1
        gi_wp2
        refine ⟨(Grown.refl _).alloc _, ?_⟩
        rintro X ⟨⟨h1, h2, h3⟩, h4⟩ hXs hXk _
        have hcx : X.heap[V.heap.size]? = some (.cells #[.int .i64 y.r, .int .i64 y.d, .int .i64 y.l, .int .i64 y.t, .int .i64 y.a, .int .i64 y.b] 34 (0, 0)) := by rw [hXk _ (by omega)]; exact heap_alloc_new V _
        have k0 : ∀ o, (X.alloc o).cell? ⟨V.heap.size, 0, none⟩ = some (.int .i64 y.r) := fun o => cell_up (by rw [cell_of hcx]; rfl) o
        have k1 : ∀ o, (X.alloc o).cell? ⟨V.heap.size, 1, none⟩ = some (.int .i64 y.d) := fun o => cell_up (by rw [cell_of hcx]; rfl) o
        have k3 : ∀ o, (X.alloc o).cell? ⟨V.heap.size, 3, none⟩ = some (.int .i64 y.t) := fun o => cell_up (by rw [cell_of hcx]; rfl) o
        have k4 : ∀ o, (X.alloc o).cell? ⟨V.heap.size, 4, none⟩ = some (.int .i64 y.a) := fun o => cell_up (by rw [cell_of hcx]; rfl) o
        have k5 : ∀ o, (X.alloc o).cell? ⟨V.heap.size, 5, none⟩ = some (.int .i64 y.b) := fun o => cell_up (by rw [cell_of hcx]; rfl) o
        have hXsz : nb + 1 + 2 ≤ X.heap.size := by rw [hXs]; simp; omega
        obtain ⟨j, hj⟩ : ∃ j, pre.length = j := ⟨_, rfl⟩
        rw [hj] at h2 h4 hyj
        have hjI : (j : Int) ≤ 1048576 := by omega
        have hsb : X.heap[S0 + 1]? = some (.cells #[.slice ra kk rc] 32 (0, 0)) := (h1.block _ (by omega)).trans HQ.out.1
        have cs : X.cell? ⟨S0 + 1, 0, none⟩ = some (.slice ra kk rc) := by rw [cell_of hsb]; rfl
        have cn : X.cell? ⟨nb, 0, none⟩ = some (.int .i64 j) := by rw [cell_of h2]; rfl
        have HX : Hid (Below nb W X ∧ X.heap[nb]? = some (.cells #[.int .i64 j] 3 (0, 0)) ∧ ∀ k, F k → nb + 1 ≤ k) := ⟨h1, h2, h3⟩
        have HJ : Hid (pre.length = j) := hj
        by_cases hjk : j = kk
        · have hjkI : (j : Int) = (kk : Int) := by omega
          clear h1 h2 h3 hXs hXk hcx hj hsb k0 k1 k3 k4 k5
          subst hjk
          gi_wp2
          exact ⟨KAll.refl _ _ _, rfl, HX.out⟩
        · have hjl : j < kk := by omega
          have hjlI : (j : Int) < (kk : Int) := by omega
          have hneI : ¬ (j : Int) = (kk : Int) := by omega
          have hjp : j < p.length := by rw [HKK.out]; exact hjl
          obtain ⟨x, hx⟩ : ∃ x, p[j] = x := ⟨_, rfl⟩
          obtain ⟨a1, a2, a3, a4, a5⟩ := HSP.out.2 j x y (by rw [List.getElem?_eq_getElem hjp, hx]) hyj
          have hOX : OwnS X S0 (.slice ra kk rc) p := own_fr HQ.out.2 (fr_below h1 (Nat.le_of_eq HN.out.symm) fun _ => False) fun _ _ e => e
          obtain ⟨rg', hra⟩ : ∃ g, ra = some ⟨g, 0, none⟩ := by
            rcases hOX.2 with ⟨e, h0⟩ | ⟨g, cap, cur, e, _⟩
            · omega
            · injection e with e _ _; exact ⟨g, e⟩
          subst hra
          have r0 : X.cell? ⟨rg', j * 6, none⟩ = some (.int .i64 x.r) := by have := ownS_cell hOX hjp (i := 0) (v := .int .i64 x.r) (by decide) (by rw [hx]; rfl); simpa using this
          have r1 : X.cell? ⟨rg', j * 6 + 1, none⟩ = some (.int .i64 x.d) := ownS_cell hOX hjp (by decide) (by rw [hx]; rfl)
          have r2 : X.cell? ⟨rg', j * 6 + 2, none⟩ = some (.int .i64 x.l) := ownS_cell hOX hjp (by decide) (by rw [hx]; rfl)
          have r3 : X.cell? ⟨rg', j * 6 + 3, none⟩ = some (.int .i64 x.t) := ownS_cell hOX hjp (by decide) (by rw [hx]; rfl)
          have r4 : X.cell? ⟨rg', j * 6 + 4, none⟩ = some (.int .i64 x.a) := ownS_cell hOX hjp (by decide) (by rw [hx]; rfl)
          have r5 : X.cell? ⟨rg', j * 6 + 5, none⟩ = some (.int .i64 x.b) := ownS_cell hOX hjp (by decide) (by rw [hx]; rfl)
          rw [a1] at k0
          rw [a2] at k1
          rw [a3] at k3
          rw [a4] at k4
          rw [a5] at k5
          have cn' : ∀ o, (X.alloc o).cell? ⟨nb, 0, none⟩ = some (.int .i64 j) := fun o => cell_up cn o
          have fn' : ∀ o, (X.alloc o).frozen? ⟨nb, 0, none⟩ = false := fun o => free_of (((Grown.refl X).alloc o).below.block nb (blk_lt h2) |>.trans h2)
          have HJK : Hid (j < kk) := hjl
          clear h1 h2 h3 hXs hXk hcx hj hsb hOX hx a1 a2 a3 a4 a5 hjp hyj
          gi_wp2
          have gz : Grown X (X.alloc (.cells #[.int .i64 x.r, .int .i64 x.d, .int .i64 x.l, .int .i64 x.t, .int .i64 x.a, .int .i64 x.b] 34)) := (Grown.refl X).alloc _
          obtain ⟨z1', z2', z3'⟩ := HX.out
          have fz := (fr_grown gz (fun k => k = nb)).trans (fr_set (X.alloc (.cells #[.int .i64 x.r, .int .i64 x.d, .int .i64 x.l, .int .i64 x.t, .int .i64 x.a, .int .i64 x.b] 34)) nb 0 (.int .i64 ((j : Int) + 1))) fun _ _ e => e
          have hbz : Below nb X _ := fz.below (fun k e => by have e : k = nb := e; omega) (by omega)
          refine ⟨⟨hbz.mono (by have := HS0.out; omega), fun k o hk ho => (fz.block k (blk_lt ho) fun e => ?_).trans ho⟩, ⟨z1'.trans hbz, ?_, z3'⟩, by rw [List.length_append, List.length_singleton, HJ.out]; have := HJK.out; omega⟩
          · have e : k = nb := e
            subst e
            rcases hk with hk | hk | hk
            · have := z3' k hk; omega
            · omega
            · omega
          · rw [set_heap ((gz.below.block nb (blk_lt z2')).trans z2'), List.length_append, List.length_singleton, HJ.out]
            rfl
    case done2 =>
      rintro F W' z0 z1 ⟨⟨h1, h2, h3⟩, h4⟩ _ hK2
      have hyk : ys.length = kk := by have := HSP.out.1; rw [HKK.out] at this; omega
      rw [hyk] at h2
      have cn : W'.cell? ⟨nb, 0, none⟩ = some (.int .i64 kk) := by rw [cell_of h2]; rfl
      have hsb : W'.heap[S0 + 1]? = some (.cells #[.slice ra kk rc] 32 (0, 0)) := (h1.block _ (by omega)).trans HQ.out.1
      have cs : W'.cell? ⟨S0 + 1, 0, none⟩ = some (.slice ra kk rc) := by rw [cell_of hsb]; rfl
      have hR : W'.heap[w.heap.size + 1]? = some (.cells #[.bool false] 4 (0, 0)) := (h1.block _ (by have := HRT.out.2.2; omega)).trans HRT.out.1
      have cr : W'.cell? ⟨w.heap.size + 1, 0, none⟩ = some (.bool false) := by rw [cell_of hR]; rfl
      have fr : W'.frozen? ⟨w.heap.size + 1, 0, none⟩ = false := free_of hR
      have hK1 : W'.heap[S0 + 2]? = some (.deferred (some [])) := (h1.block _ (by omega)).trans HK.out
      have HW := Hid.mk' (And.intro h1 (And.intro hR (And.intro hK1 hK2)))
      clear h1 h2 h3 hsb hR hK1 hK2
      gi_wp2
      have hrw := HRT.out.2.2
      obtain ⟨y1, y2, y3, y4⟩ := HW.out
      have hA : (W'.setCell ⟨w.heap.size + 1, 0, none⟩ (.bool true)).heap[nb + 1]? = some (.deferred (some [])) := (Below.heap_setCell W' ⟨w.heap.size + 1, 0, none⟩ _ (nb + 1) (by simp only; omega)).trans y4
      have hB : ((W'.setCell ⟨w.heap.size + 1, 0, none⟩ (.bool true)).putObj (nb + 1) (.deferred none)).heap[S0 + 2]? = some (.deferred (some [])) := (World.putObj_heap_other (by omega)).trans ((Below.heap_setCell W' ⟨w.heap.size + 1, 0, none⟩ _ (S0 + 2) (by simp only; omega)).trans y3)
      refine ⟨by simp, .inl ⟨_, _, rfl, run_takeDeferred hA, ?_⟩⟩
      refine ⟨by simp, .inl ⟨_, _, rfl, run_takeDeferred hB, ?_⟩⟩
      have hR3 : (((W'.setCell ⟨w.heap.size + 1, 0, none⟩ (.bool true)).putObj (nb + 1) (.deferred none)).putObj (S0 + 2) (.deferred none)).heap[w.heap.size + 1]? = some (.cells #[.bool true] 4 (0, 0)) := (World.putObj_heap_other (by omega)).trans ((World.putObj_heap_other (by omega)).trans ((set_heap y2).trans rfl))
      have c0 : (((W'.setCell ⟨w.heap.size + 1, 0, none⟩ (.bool true)).putObj (nb + 1) (.deferred none)).putObj (S0 + 2) (.deferred none)).cell? ⟨w.heap.size + 1, 0, none⟩ = some (.bool true) := (cell_of hR3).trans rfl
      refine ⟨.bool true, ?_, rfl, ?_⟩
      · have hr : Tryd.f3.results = #[.cell 6 4] := rfl
        simp only [results, hr]
        simp [go_sem, c0]
      · have hs0 := HRT.out.2.1.size
        have hbw : Below w.heap.size w W' := HRT.out.2.1.trans (y1.mono (by have := HN.out; omega))
        have hb2 : Below w.heap.size w (W'.setCell ⟨w.heap.size + 1, 0, none⟩ (.bool true)) := Below.setCell (p := ⟨w.heap.size + 1, 0, none⟩) hbw (by simp) _
        have hb3 := hb2.trans ((fr_put (X := W'.setCell ⟨w.heap.size + 1, 0, none⟩ (.bool true)) (l := nb + 1) (.deferred none)).below (base := w.heap.size) (fun k e => by have e : k = nb + 1 := e; omega) (by have := hb2.size; omega))
        exact hb3.trans ((fr_put (l := S0 + 2) (.deferred none)).below (base := w.heap.size) (fun k e => by have e : k = S0 + 2 := e; omega) (by have := hb3.size; omega))
    case stop2 =>
      rintro c pre F W' hpre z0 z1 ⟨rfl, h1, h2, h3⟩ hK2
      have cn : W'.cell? ⟨nb, 0, none⟩ = some (.int .i64 kk) := by rw [cell_of h2]; rfl
      have hsb : W'.heap[S0 + 1]? = some (.cells #[.slice ra kk rc] 32 (0, 0)) := (h1.block _ (by omega)).trans HQ.out.1
      have cs : W'.cell? ⟨S0 + 1, 0, none⟩ = some (.slice ra kk rc) := by rw [cell_of hsb]; rfl
      have hR : W'.heap[w.heap.size + 1]? = some (.cells #[.bool false] 4 (0, 0)) := (h1.block _ (by have := HRT.out.2.2; omega)).trans HRT.out.1
      have cr : W'.cell? ⟨w.heap.size + 1, 0, none⟩ = some (.bool false) := by rw [cell_of hR]; rfl
      have fr : W'.frozen? ⟨w.heap.size + 1, 0, none⟩ = false := free_of hR
      have hK1 : W'.heap[S0 + 2]? = some (.deferred (some [])) := (h1.block _ (by omega)).trans HK.out
      have HW := Hid.mk' (And.intro h1 (And.intro hR (And.intro hK1 hK2)))
      clear h1 h2 h3 hsb hR hK1 hK2
      gi_wp2
      have hrw := HRT.out.2.2
      obtain ⟨y1, y2, y3, y4⟩ := HW.out
      have hA : (W'.setCell ⟨w.heap.size + 1, 0, none⟩ (.bool true)).heap[nb + 1]? = some (.deferred (some [])) := (Below.heap_setCell W' ⟨w.heap.size + 1, 0, none⟩ _ (nb + 1) (by simp only; omega)).trans y4
      have hB : ((W'.setCell ⟨w.heap.size + 1, 0, none⟩ (.bool true)).putObj (nb + 1) (.deferred none)).heap[S0 + 2]? = some (.deferred (some [])) := (World.putObj_heap_other (by omega)).trans ((Below.heap_setCell W' ⟨w.heap.size + 1, 0, none⟩ _ (S0 + 2) (by simp only; omega)).trans y3)
      refine ⟨by simp, .inl ⟨_, _, rfl, run_takeDeferred hA, ?_⟩⟩
      refine ⟨by simp, .inl ⟨_, _, rfl, run_takeDeferred hB, ?_⟩⟩
      have hR3 : (((W'.setCell ⟨w.heap.size + 1, 0, none⟩ (.bool true)).putObj (nb + 1) (.deferred none)).putObj (S0 + 2) (.deferred none)).heap[w.heap.size + 1]? = some (.cells #[.bool true] 4 (0, 0)) := (World.putObj_heap_other (by omega)).trans ((World.putObj_heap_other (by omega)).trans ((set_heap y2).trans rfl))
      have c0 : (((W'.setCell ⟨w.heap.size + 1, 0, none⟩ (.bool true)).putObj (nb + 1) (.deferred none)).putObj (S0 + 2) (.deferred none)).cell? ⟨w.heap.size + 1, 0, none⟩ = some (.bool true) := (cell_of hR3).trans rfl
      refine ⟨.bool true, ?_, rfl, ?_⟩
      · have hr : Tryd.f3.results = #[.cell 6 4] := rfl
        simp only [results, hr]
        simp [go_sem, c0]
      · have hs0 := HRT.out.2.1.size
        have hbw : Below w.heap.size w W' := HRT.out.2.1.trans (y1.mono (by have := HN.out; omega))
        have hb2 : Below w.heap.size w (W'.setCell ⟨w.heap.size + 1, 0, none⟩ (.bool true)) := Below.setCell (p := ⟨w.heap.size + 1, 0, none⟩) hbw (by simp) _
        have hb3 := hb2.trans ((fr_put (X := W'.setCell ⟨w.heap.size + 1, 0, none⟩ (.bool true)) (l := nb + 1) (.deferred none)).below (base := w.heap.size) (fun k e => by have e : k = nb + 1 := e; omega) (by have := hb2.size; omega))
        exact hb3.trans ((fr_put (l := S0 + 2) (.deferred none)).below (base := w.heap.size) (fun k e => by have e : k = S0 + 2 := e; omega) (by have := hb3.size; omega))
end Go.Proofs
