/-
  A table in memory: a number more, an atom more; what holds while it is filled.
-/
import Derived.RangeFuncNested
import Derived.RangeFuncBound
import Derived.RangeFuncCalls
import Derived.RangeFuncLeaves
import Derived.Shelf.Abstract
import Derived.Shelf.RegionOpen
import Derived.WalkKit
import Derived.WalkSpells
import Derived.WalkLawsBesides
import Derived.OwnWalkIn
import Derived.TacticsInMore
import Derived.LoopNIn
import Derived.LoopIn
import Derived.BigQuiet
import Derived.RegionIn
import Derived.Deep.QuietTactic
import Derived.Deep.RegionWith
import Derived.Lib.OthersKept
import Derived.Maps.AppendAt
import Derived.Lib.SmallJoins
import Derived.Shelf.SlSortCmp.QuietGrown
import Derived.Test.YtjjkomaokgmkhaaDoorLgn
import Derived.Test.YtjjkomaokgmkhaaDoorAgn
import Derived.Test.YtjjkomaokgmkhaaDoorHen
namespace Go.Proofs
open Go.RowKit Go.Shelf

set_option maxRecDepth 100000
attribute [local go_sem] Oper.semAt_some
attribute [local go_sem ↓] Go.wp_at_zero Go.wp_at_succ

theorem push_W2 {ops : Array Oper} {rest : List Oper} {o : Oper} {a : Act} {Q : Exit → Act → World → Prop} {w : World} (hgd : o.guard = none) (s x : Operand) (t : TypeId)
    (ho : o.op = .call { callee := .builtin .append, args := #[s, x], argTypes := #[t, t] }) (ht : Tryd.prog.underlying t = some (.slice 70))
    (base : Nat) (v : Value) (l : List Nat) (hs : a.eval s = v) (hown : w.ownsRow base 70 1 v l.length (uwv l)) (g c : Nat) (p : Nat) (hx : a.eval x = .slice (some ⟨g, 0, none⟩) 1 c)
    (hc : w.heap[g]? = some (.cells #[.int .u64 (p : Int)] 70 (0, 0))) (hl : l.length + 1 ≤ 8796093022208) (hbase : base ≤ w.heap.size)
    (h : ∀ v' w', w'.ownsRow base 70 1 v' (l ++ [p]).length (uwv (l ++ [p])) → w.grownBy w' v.ownBlock → Loc w v v' → wpList Tryd.prog ops Q rest (a.put o.dst v') w') : wpList Tryd.prog ops Q (o :: rest) a w := by
  obtain ⟨i0, hi, hz0, hz1, hz2⟩ := info_parts info70
  refine wpList_append_own_at w hgd s x t ho base 70 i0 (.int .u64 0) 1 8 ht hi hz0 hz1 hz2 rfl (by decide) v l.length (uwv l) hs hown ⟨g, 0, none⟩ 1 c (uwv [p]) hx rfl ?_ (fun u hu => by simp [uwv] at hu; rw [hu]; rfl) (by unfold maxLen; omega) (by omega) hbase (fun v' w' h2 h3 _ h5 => h v' w' ?_ h3 ?_)
  · intro j u hj
    rw [add_zero_at]
    match j, hj with
    | 0, hj => simp [uwv] at hj; subst hj; exact heap_cellv hc rfl
  · have e : uwv (l ++ [p]) = uwv l ++ uwv [p] := by simp [uwv]
    rw [List.length_append, e]; exact h2
  · rcases h5 with h5 | h5
    · exact .inl h5
    · exact .inr ⟨_, h5, Nat.le_refl _⟩
theorem info27 : (Tryd.prog.info? 27).map (fun i => (i.zero, i.size, i.bytes)) = some (some (.slice none 0 0), 1, 24) := by kernel_rfl
theorem push_N2 {ops : Array Oper} {rest : List Oper} {o : Oper} {a : Act} {Q : Exit → Act → World → Prop} {w : World} (hgd : o.guard = none) (s x : Operand) (t : TypeId)
    (ho : o.op = .call { callee := .builtin .append, args := #[s, x], argTypes := #[t, t] }) (ht : Tryd.prog.underlying t = some (.slice 27))
    (base : Nat) (v : Value) (l : List (Value × List (Int × Int))) (hs : a.eval s = v) (hown : w.ownsRow base 27 1 v l.length (l.map Prod.fst)) (g c : Nat) (hx : a.eval x = .slice (some ⟨g, 0, none⟩) 1 c)
    (hc : w.heap[g]? = some (.cells #[.slice none 0 0] 27 (0, 0))) (hl : l.length + 1 ≤ 4398046511104) (hbase : base ≤ w.heap.size)
    (h : ∀ v' w', w'.ownsRow base 27 1 v' (l ++ [((.slice none 0 0 : Value), ([] : List (Int × Int)))]).length ((l ++ [((.slice none 0 0 : Value), ([] : List (Int × Int)))]).map Prod.fst) → w.grownBy w' v.ownBlock → Loc w v v' → wpList Tryd.prog ops Q rest (a.put o.dst v') w') : wpList Tryd.prog ops Q (o :: rest) a w := by
  obtain ⟨i0, hi, hz0, hz1, hz2⟩ := info_parts info27
  refine wpList_append_own_at w hgd s x t ho base 27 i0 (.slice none 0 0) 1 24 ht hi hz0 hz1 hz2 rfl (by decide) v l.length (l.map Prod.fst) hs hown ⟨g, 0, none⟩ 1 c [.slice none 0 0] hx rfl ?_ (fun u hu => by simp at hu; rw [hu]; rfl) (by unfold maxLen; omega) (by omega) hbase (fun v' w' h2 h3 _ h5 => h v' w' ?_ h3 ?_)
  · intro j u hj
    rw [add_zero_at]
    match j, hj with
    | 0, hj => simp at hj; subst hj; exact heap_cellv hc rfl
  · rw [List.length_append, List.map_append]; exact h2
  · rcases h5 with h5 | h5
    · exact .inl h5
    · exact .inr ⟨_, h5, Nat.le_refl _⟩
/-- another row of numbers -/
theorem TT.wh1 {w W : World} {base B : Nat} {sv bv pv wv mv : Value} {n mh : Nat} {st bg : List Int} {sps : List (Value × List (Int × Int))} {wh : List Nat} (h : TT w base B sv bv pv wv mv n mh st bg sps wh) (hf : Fr w W (fun k => wv.ownBlock = some k)) {v' : Value} {wh' : List Nat} (hown : W.ownsRow base 70 1 v' wh'.length (uwv wh')) :
    W.heap[B]? = some (.cells #[.int .i64 (n : Int), sv, bv, pv, wv, mv, .int .i64 (mh : Int)] 53 (0, 0)) ∧ TT (W.setCell ⟨B, 4, none⟩ v') base B sv bv pv v' mv n mh st bg sps wh' ∧ Fr w (W.setCell ⟨B, 4, none⟩ v') (fun k => k = B ∨ wv.ownBlock = some k) := by
  have e4 : W.heap[B]? = some (.cells #[.int .i64 (n : Int), sv, bv, pv, wv, mv, .int .i64 (mh : Int)] 53 (0, 0)) := (hf.block _ (blk_lt h.blk) (own_not h.wo h.blk (by decide))).trans h.blk
  have f5 : Fr w (W.setCell ⟨B, 4, none⟩ v') (fun k => k = B ∨ wv.ownBlock = some k) := (hf.mono fun _ _ e => .inr e).trans (fr_set _ _ _ _) fun _ _ e => .inl e
  have hvB := own_not hown e4 (by decide)
  refine ⟨e4, ⟨h.tb, (set_heap e4).trans rfl, ?_, ?_, ?_, fun x hx => ?_, h.nd, own_fr hown (fr_set _ _ _ _) fun b hb e => hvB (by rw [← (show b = B from e)]; exact hb), h.sb⟩, f5⟩
  · exact own_fr h.s f5 fun b hb e => e.elim (fun e => own_not h.s h.blk (by decide) (by rw [← e]; exact hb)) fun e => own_ne h.wo h.s (by decide) e hb
  · exact own_fr h.b f5 fun b hb e => e.elim (fun e => own_not h.b h.blk (by decide) (by rw [← e]; exact hb)) fun e => own_ne h.wo h.b (by decide) e hb
  · exact own_fr h.p f5 fun b hb e => e.elim (fun e => own_not h.p h.blk (by decide) (by rw [← e]; exact hb)) fun e => own_ne h.wo h.p (by decide) e hb
  · exact own_fr (h.r x hx) f5 fun b hb e => e.elim (fun e => own_not (h.r x hx) h.blk (by decide) (by rw [← e]; exact hb)) fun e => own_ne h.wo (h.r x hx) (by decide) e hb
/-- an atom more, without ranges -/
theorem TT.sp0 {w W : World} {base B : Nat} {sv bv pv wv mv : Value} {n mh : Nat} {st bg : List Int} {sps : List (Value × List (Int × Int))} {wh : List Nat} (h : TT w base B sv bv pv wv mv n mh st bg sps wh) (hf : Fr w W (fun k => pv.ownBlock = some k)) {v' : Value} (hown : W.ownsRow base 27 1 v' (sps ++ [((.slice none 0 0 : Value), ([] : List (Int × Int)))]).length ((sps ++ [((.slice none 0 0 : Value), ([] : List (Int × Int)))]).map Prod.fst)) :
    W.heap[B]? = some (.cells #[.int .i64 (n : Int), sv, bv, pv, wv, mv, .int .i64 (mh : Int)] 53 (0, 0)) ∧ TT (W.setCell ⟨B, 3, none⟩ v') base B sv bv v' wv mv n mh st bg (sps ++ [((.slice none 0 0 : Value), ([] : List (Int × Int)))]) wh ∧ Fr w (W.setCell ⟨B, 3, none⟩ v') (fun k => k = B ∨ pv.ownBlock = some k) := by
  have e4 : W.heap[B]? = some (.cells #[.int .i64 (n : Int), sv, bv, pv, wv, mv, .int .i64 (mh : Int)] 53 (0, 0)) := (hf.block _ (blk_lt h.blk) (own_not h.p h.blk (by decide))).trans h.blk
  have f5 : Fr w (W.setCell ⟨B, 3, none⟩ v') (fun k => k = B ∨ pv.ownBlock = some k) := (hf.mono fun _ _ e => .inr e).trans (fr_set _ _ _ _) fun _ _ e => .inl e
  have hvB := own_not hown e4 (by decide)
  have at0 : ∀ {i : Nat} {x : Value × List (Int × Int)} {k : Nat}, (sps ++ [((.slice none 0 0 : Value), ([] : List (Int × Int)))])[i]? = some x → x.1.ownBlock = some k → sps[i]? = some x := fun {i x k} hx hk => by
    by_cases e : i < sps.length
    · rw [List.getElem?_append_left e] at hx; exact hx
    · rw [List.getElem?_append_right (by omega)] at hx
      have := List.mem_of_getElem? hx
      simp at this
      subst this
      simp [Value.ownBlock] at hk
  refine ⟨e4, ⟨h.tb, (set_heap e4).trans rfl, ?_, ?_, own_fr hown (fr_set _ _ _ _) fun b hb e => hvB (by rw [← (show b = B from e)]; exact hb), fun x hx => ?_, fun i j x y k hx hy hkx hky => h.nd i j x y k (at0 hx hkx) (at0 hy hky) hkx hky, ?_, h.sb⟩, f5⟩
  · exact own_fr h.s f5 fun b hb e => e.elim (fun e => own_not h.s h.blk (by decide) (by rw [← e]; exact hb)) fun e => own_ne h.p h.s (by decide) e hb
  · exact own_fr h.b f5 fun b hb e => e.elim (fun e => own_not h.b h.blk (by decide) (by rw [← e]; exact hb)) fun e => own_ne h.p h.b (by decide) e hb
  · rcases List.mem_append.1 hx with hx | hx
    · exact own_fr (h.r x hx) f5 fun b hb e => e.elim (fun e => own_not (h.r x hx) h.blk (by decide) (by rw [← e]; exact hb)) fun e => own_ne h.p (h.r x hx) (by decide) e hb
    · simp at hx; subst hx; exact OwnR.nil _ _
  · exact own_fr h.wo f5 fun b hb e => e.elim (fun e => own_not h.wo h.blk (by decide) (by rw [← e]; exact hb)) fun e => own_ne h.p h.wo (by decide) e hb
theorem TT.low {w : World} {base B : Nat} {sv bv pv wv mv : Value} {n mh : Nat} {st bg : List Int} {sps : List (Value × List (Int × Int))} {wh : List Nat} (h : TT w base B sv bv pv wv mv n mh st bg sps wh) {k : Nat} (hk : TTB B sv bv pv wv sps k) : base ≤ k ∧ k < w.heap.size := by
  rcases hk with hk | hk | hk | hk | hk | ⟨x, hx, hk⟩
  · subst hk; exact ⟨h.tb, blk_lt h.blk⟩
  · exact World.ownsRow.lt h.s k hk
  · exact World.ownsRow.lt h.b k hk
  · exact World.ownsRow.lt h.p k hk
  · exact World.ownsRow.lt h.wo k hk
  · exact World.ownsRow.lt (h.r x hx) k hk
theorem TL.low {w : World} {base T : Nat} {pv rv uv : Value} {hi M : Nat} {ps : List (Nat × Nat)} {rows : List (Nat × List Nat)} {ts : List Int} (h : TL w base T pv rv uv hi M ps rows ts) {k : Nat} (hk : TLB T pv rv uv M rows k) : base ≤ k ∧ k < w.heap.size := by
  rcases hk with hk | hk | hk | hk | hk | ⟨x, hx, hk⟩
  · subst hk; exact ⟨h.tb, blk_lt h.blk⟩
  · subst hk
    obtain ⟨es, c, e⟩ := h.mp.isMap
    exact ⟨h.mb, blk_lt e⟩
  · exact World.ownsRow.lt h.pr k hk
  · exact World.ownsRow.lt h.rr k hk
  · exact World.ownsRow.lt h.tu k hk
  · subst hk; exact ⟨(h.rw x hx).1, blk_lt (h.rw x hx).2⟩
/-- the atoms by their numbers, as a map has them -/
def atF (wh : List Nat) (x : Nat) : Option Value := if knw wh x then some (.int .i64 (atm wh x)) else none
theorem atF_zero : updM (κ := Nat) (fun _ => none) 0 (.int .i64 (-1)) = atF [] := by
  funext x
  unfold updM atF knw atm
  by_cases e : x = 0
  · subst e; simp
  · simp [e]
theorem atF_add (wh : List Nat) (x : Nat) (h : knw wh x = false) : updM (atF wh) x (.int .i64 (wh.length : Int)) = atF (wh ++ [x]) := by
  simp only [knw, Bool.or_eq_false_iff, decide_eq_false_iff_not] at h
  funext y
  unfold updM atF knw atm
  by_cases e : y = x
  · subst e
    simp only [if_true, h.1, decide_false, Bool.false_or, if_false]
    rw [if_pos (by simp), List.idxOf_append, if_neg h.2]
    simp
  · by_cases e0 : y = 0
    · subst e0; simp [e]
    · by_cases hy : y ∈ wh
      · simp [e, e0, hy, List.idxOf_append]
      · simp [e, e0, hy]
/-- a table that was made -/
def Tbl (W : World) (base B n : Nat) (s : FS) (hi : Nat) : Prop := ∃ sv bv pv wv mv sps, TT W base B sv bv pv wv mv n hi s.st s.bg sps s.wh ∧ sps.map Prod.snd = s.sp ∧ W.ownsRow base 93 2 mv s.ps.length (pcs s.ps)
theorem Tbl.fr {W W' : World} {base B n : Nat} {s : FS} {hi : Nat} (h : Tbl W base B n s hi) {D : Nat → Prop} (hf : Fr W W' D) (hD : ∀ k, D k → k < base ∨ W.heap.size ≤ k) : Tbl W' base B n s hi := by
  obtain ⟨sv, bv, pv, wv, mv, sps, h1, h2, h3⟩ := h
  refine ⟨sv, bv, pv, wv, mv, sps, h1.fr hf (fun k hk hd => ?_), h2, own_fr h3 hf fun k hk hd => ?_⟩
  · have := h1.low hk
    rcases hD k hd with e | e <;> omega
  · have := World.ownsRow.lt h3 k hk
    rcases hD k hd with e | e <;> omega
theorem Tbl.grown {W W' : World} {base B n : Nat} {s : FS} {hi : Nat} (h : Tbl W base B n s hi) (hg : Grown W W') : Tbl W' base B n s hi := h.fr (fr_grown hg fun _ => False) fun _ e => e.elim
/-- what holds while a table is filled -/
structure FLI (w W : World) (base B T M2 hi n : Nat) (s : FS) (mw : List Nat) (sv bv pv wv : Value) (sps : List (Value × List (Int × Int))) (qv rv uv : Value) (M b0 : Nat) (ups : List (Nat × List Nat)) (ts : List Int) : Prop where
  tt : TT W base B sv bv pv wv (.slice none 0 0) n 0 s.st s.bg sps s.wh
  sp : sps.map Prod.snd = s.sp
  tl : TL W w.heap.size T qv rv uv hi M s.ps ((b0, s.r0) :: ups) ts
  up : ups.map Prod.snd = s.up
  mp : GMap 70 ok1 (fun n => .int .u64 (n : Int)) W M2 (mw.length + 1) (atF mw)
  lo : ∀ k, TTB B sv bv pv wv sps k → k = B ∨ w.heap.size ≤ k
  ml : w.heap.size ≤ M2
  ap : ∀ k, TTB B sv bv pv wv sps k → ¬ TLB T qv rv uv M ((b0, s.r0) :: ups) k
  m1 : ¬ TTB B sv bv pv wv sps M2
  m2 : ¬ TLB T qv rv uv M ((b0, s.r0) :: ups) M2
  fr : Fr w W (fun k => k = B)
/-- the turns at one place -/
theorem grp_len (x : Int × Int) (l : List (Int × Int)) : 1 ≤ (grp x.1 (x :: l)).length ∧ (grp x.1 (x :: l)).length ≤ (x :: l).length ∧ (x :: l).take (grp x.1 (x :: l)).length = grp x.1 (x :: l) ∧ (∀ j, j < (grp x.1 (x :: l)).length → (rg (x :: l) j).1 = x.1) ∧ ((grp x.1 (x :: l)).length < (x :: l).length → (rg (x :: l) (grp x.1 (x :: l)).length).1 ≠ x.1) := by
  obtain ⟨h1, h2⟩ := grp_split (a := x.1) (l := x :: l)
  have h3 : 1 ≤ (grp x.1 (x :: l)).length := by simp [grp]
  have h4 : (grp x.1 (x :: l)).length ≤ (x :: l).length := by have := congrArg List.length h1; rw [List.length_append] at this; omega
  refine ⟨h3, h4, ?_, fun j hj => ?_, fun hlt he => ?_⟩
  · have e := congrArg (List.take (grp x.1 (x :: l)).length) h1
    rw [List.take_left] at e; exact e.symm
  · have e : (x :: l)[j]? = (grp x.1 (x :: l))[j]? := by
      conv => lhs; rw [← h1]
      rw [List.getElem?_append_left hj]
    rw [rg, e, List.getElem?_eq_getElem hj]
    exact h2 _ (List.getElem_mem hj)
  · have key : ∀ (l : List (Int × Int)), (grp x.1 l).length < l.length → (rg l (grp x.1 l).length).1 ≠ x.1 := by
      intro l
      induction l with
      | nil => simp [grp]
      | cons y l ih =>
        intro hh
        by_cases e : y.1 = x.1
        · have e2 : grp x.1 (y :: l) = y :: grp x.1 l := by simp [grp, e]
          rw [e2] at hh ⊢
          simp only [List.length_cons, rg, List.getElem?_cons_succ] at hh ⊢
          exact ih (by omega)
        · have e2 : grp x.1 (y :: l) = [] := by simp [grp, e]
          rw [e2]
          simpa [rg] using e
    exact key _ hlt he
/-- a place more -/
theorem fill_step {LL : List Nat} {L0 : Nat} (hS : Shp LL) {D : List (Int × Int)} {x : Int × Int} {l : List (Int × Int)} {s : FS} (h : FI LL L0 D s) (hp : (D ++ x :: l).Pairwise ltT) (hb : ∀ y ∈ x :: l, 0 ≤ y.2 ∧ y.2.toNat / 64 < L0) (hlt : ∀ y ∈ s.st, ∀ z ∈ x :: l, y < z.1) :
    FI LL L0 (D ++ grp x.1 (x :: l)) (fstep s x.1 (setsN (grp x.1 (x :: l)))) ∧ (∀ y ∈ (fstep s x.1 (setsN (grp x.1 (x :: l)))).st, ∀ z ∈ (x :: l).drop (grp x.1 (x :: l)).length, y < z.1) ∧ (D ++ grp x.1 (x :: l)) ++ (x :: l).drop (grp x.1 (x :: l)).length = D ++ x :: l ∧ (fstep s x.1 (setsN (grp x.1 (x :: l)))).ps.length ≤ s.ps.length + LL.length * (grp x.1 (x :: l)).length := by
  obtain ⟨g1, g2⟩ := grp_split (a := x.1) (l := x :: l)
  have hps := (List.pairwise_append.1 hp).2.1
  have g3 := grp_rest (a := x.1) hps (fun y hy => by
    simp only [List.mem_cons] at hy
    rcases hy with rfl | hy
    · exact Int.le_refl _
    · have := (List.pairwise_cons.1 hps).1 y hy
      unfold ltT at this
      omega)
  obtain ⟨G, hG⟩ : ∃ G, grp x.1 (x :: l) = G := ⟨_, rfl⟩
  have hG0 : G ≠ [] := by rw [← hG]; simp [grp]
  rw [hG] at g1 g2 g3 ⊢
  obtain ⟨R, hR⟩ : ∃ R, (x :: l).drop G.length = R := ⟨_, rfl⟩
  rw [hR] at g1 g3 ⊢
  have hGs : ∀ y ∈ G, y ∈ x :: l := fun y hy => by rw [← g1]; exact List.mem_append_left _ hy
  have hRs : ∀ y ∈ R, y ∈ x :: l := fun y hy => by rw [← g1]; exact List.mem_append_right _ hy
  have hGb : ∀ n ∈ setsN G, n / 64 < L0 := fun n hn => by
    obtain ⟨y, hy, rfl⟩ := List.mem_map.1 hn
    exact (hb y (hGs y hy)).2
  have hstep := h.step hS x.1 G hG0 g2 (by
    have hGp : G.Pairwise ltT := by rw [← g1] at hps; exact (List.pairwise_append.1 hps).1
    unfold setsN
    rw [List.Nodup, List.pairwise_map]
    refine hGp.imp_of_mem ?_
    intro a b ha hb' hab e
    have h1 := (hb a (hGs a ha)).1
    have h2 := (hb b (hGs b hb')).1
    have h3 := g2 a ha
    have h4 := g2 b hb'
    unfold ltT at hab
    omega) hGb (fun y hy => hlt y hy x (by simp))
  refine ⟨hstep, fun y hy z hz => ?_, by rw [List.append_assoc, g1], ?_⟩
  · have hy : y ∈ s.st ++ [x.1] := hy
    rcases List.mem_append.1 hy with h1 | h1
    · exact hlt y h1 z (hRs z hz)
    · simp at h1; subst h1; exact g3 z hz
  · have hXb : ∀ y ∈ setsN G, y / 64 < s.r0.length := fun y hy => by rw [h.r0len]; exact hGb y hy
    obtain ⟨_, _, _, _, c5⟩ := levs_chn s.up s.ps s.r0 (flips s.r0 (setsN G)) ((setsN G).map (· / 64)) h.nd h.chn (flips_len _ _).symm (fun j hj => flips_other hXb (fun y hy e => hj (List.mem_map.2 ⟨y, hy, e⟩))) (fun j hj => by
      obtain ⟨y, hy, rfl⟩ := List.mem_map.1 hj
      rw [flips_len]; exact hXb y hy)
    show (levs s.ps (flips s.r0 (setsN G)) s.up ((setsN G).map (· / 64))).1.length ≤ _
    have e1 : s.up.length = LL.length := by rw [← h.len]; simp
    have e2 : ((setsN G).map (· / 64)).length = G.length := by simp [setsN]
    rw [e1, e2] at c5
    exact c5
end Go.Proofs
