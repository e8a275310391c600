/-
  What holds while a table is filled, step by step.
-/
import Derived.RangeFuncNested
import Derived.RangeFuncBound
import Derived.RangeFuncCalls
import Derived.RangeFuncLeaves
import Derived.Shelf.Abstract
import Derived.Shelf.RegionOpen
import Derived.WalkKit
import Derived.WalkSpells
import Derived.WalkLawsBesides
import Derived.OwnWalkIn
import Derived.TacticsInMore
import Derived.LoopNIn
import Derived.LoopIn
import Derived.BigQuiet
import Derived.RegionIn
import Derived.Deep.QuietTactic
import Derived.Deep.RegionWith
import Derived.Lib.OthersKept
import Derived.Maps.AppendAt
import Derived.Lib.SmallJoins
import Derived.Shelf.SlSortCmp.QuietGrown
import Derived.Test.YtjjkomaokgmkhaaDoorLhn
namespace Go.Proofs
open Go.RowKit Go.Shelf

set_option maxRecDepth 100000
attribute [local go_sem] Oper.semAt_some
attribute [local go_sem ↓] Go.wp_at_zero Go.wp_at_succ

theorem FLI.m2lt {w W : World} {base B T M2 hi n : Nat} {s : FS} {mw : List Nat} {sv bv pv wv : Value} {sps : List (Value × List (Int × Int))} {qv rv uv : Value} {M b0 : Nat} {ups : List (Nat × List Nat)} {ts : List Int} (h : FLI w W base B T M2 hi n s mw sv bv pv wv sps qv rv uv M b0 ups ts) : M2 < W.heap.size := by
  obtain ⟨es, c, e⟩ := h.mp.isMap
  exact blk_lt e
theorem FLI.tab {w W : World} {base B T M2 hi n : Nat} {s : FS} {mw : List Nat} {sv bv pv wv : Value} {sps : List (Value × List (Int × Int))} {qv rv uv : Value} {M b0 : Nat} {ups : List (Nat × List Nat)} {ts : List Int} (h : FLI w W base B T M2 hi n s mw sv bv pv wv sps qv rv uv M b0 ups ts) {W' : World} {s' : FS} {sv' bv' pv' wv' : Value} {sps' : List (Value × List (Int × Int))} (ht : TT W' base B sv' bv' pv' wv' (.slice none 0 0) n 0 s'.st s'.bg sps' s'.wh) (hs : sps'.map Prod.snd = s'.sp) (e1 : s'.ps = s.ps) (e2 : s'.r0 = s.r0) (e3 : s'.up = s.up) (hf : Fr W W' (TTB B sv bv pv wv sps)) (hn : ∀ k, TTB B sv' bv' pv' wv' sps' k → TTB B sv bv pv wv sps k ∨ W.heap.size ≤ k) : FLI w W' base B T M2 hi n s' mw sv' bv' pv' wv' sps' qv rv uv M b0 ups ts where
  tt := ht
  sp := hs
  tl := by rw [e1, e2]; exact h.tl.fr hf fun k hk hb => h.ap k hb hk
  up := by rw [e3]; exact h.up
  mp := h.mp.kept fun o ho => (hf.block _ (blk_lt ho) h.m1).trans ho
  lo := fun k hk => by
    rcases hn k hk with e | e
    · exact h.lo k e
    · have := h.fr.size; exact .inr (by omega)
  ml := h.ml
  ap := fun k hk hb => by
    rw [e2] at hb
    rcases hn k hk with e | e
    · exact h.ap k e hb
    · have := (h.tl.low hb).2; omega
  m1 := fun hk => by
    rcases hn _ hk with e | e
    · exact h.m1 e
    · have := h.m2lt; omega
  m2 := by rw [e2]; exact h.m2
  fr := h.fr.trans hf fun i hi hb => by
    rcases h.lo i hb with e | e
    · exact e
    · omega
theorem FLI.grown {w W : World} {base B T M2 hi n : Nat} {s : FS} {mw : List Nat} {sv bv pv wv : Value} {sps : List (Value × List (Int × Int))} {qv rv uv : Value} {M b0 : Nat} {ups : List (Nat × List Nat)} {ts : List Int} (h : FLI w W base B T M2 hi n s mw sv bv pv wv sps qv rv uv M b0 ups ts) {W' : World} (hg : Grown W W') : FLI w W' base B T M2 hi n s mw sv bv pv wv sps qv rv uv M b0 ups ts :=
  h.tab (h.tt.grown hg) h.sp rfl rfl rfl (fr_grown hg _) fun _ hk => .inl hk
theorem FLI.tal {w W : World} {base B T M2 hi n : Nat} {s : FS} {mw : List Nat} {sv bv pv wv : Value} {sps : List (Value × List (Int × Int))} {qv rv uv : Value} {M b0 : Nat} {ups : List (Nat × List Nat)} {ts : List Int} (h : FLI w W base B T M2 hi n s mw sv bv pv wv sps qv rv uv M b0 ups ts) {W' : World} {s' : FS} {qv' uv' : Value} {ups' : List (Nat × List Nat)} {ts' : List Int} (ht : TL W' w.heap.size T qv' rv uv' hi M s'.ps ((b0, s'.r0) :: ups') ts') (hu : ups'.map Prod.snd = s'.up) (hb : ups'.map Prod.fst = ups.map Prod.fst) (e1 : s'.st = s.st) (e2 : s'.bg = s.bg) (e3 : s'.sp = s.sp) (e4 : s'.wh = s.wh) (hf : Fr W W' (TLB T qv rv uv M ((b0, s.r0) :: ups))) (l1 : Loc W qv qv') (l2 : Loc W uv uv') : FLI w W' base B T M2 hi n s' mw sv bv pv wv sps qv' rv uv' M b0 ups' ts' := by
  have hn : ∀ k, TLB T qv' rv uv' M ((b0, s'.r0) :: ups') k → TLB T qv rv uv M ((b0, s.r0) :: ups) k ∨ W.heap.size ≤ k := fun k hk => by
    rcases hk with hk | hk | hk | hk | hk | ⟨x, hx, hk⟩
    · exact .inl (.inl hk)
    · exact .inl (.inr (.inl hk))
    · rcases l1 with l1 | ⟨j, l1, hj⟩
      · exact .inl (.inr (.inr (.inl (l1 ▸ hk))))
      · rw [hk] at l1; injection l1 with l1; exact .inr (by omega)
    · exact .inl (.inr (.inr (.inr (.inl hk))))
    · rcases l2 with l2 | ⟨j, l2, hj⟩
      · exact .inl (.inr (.inr (.inr (.inr (.inl (l2 ▸ hk))))))
      · rw [hk] at l2; injection l2 with l2; exact .inr (by omega)
    · have hm : k ∈ (b0 :: ups.map Prod.fst) := by
        rw [← hb, ← hk]
        have := List.mem_map_of_mem (f := Prod.fst) hx
        simpa using this
      simp only [List.mem_cons, List.mem_map] at hm
      rcases hm with hm | ⟨y, hy, hm⟩
      · exact .inl (.inr (.inr (.inr (.inr (.inr ⟨_, List.mem_cons_self, hm.symm⟩)))))
      · exact .inl (.inr (.inr (.inr (.inr (.inr ⟨y, List.mem_cons_of_mem _ hy, hm⟩)))))
  refine ⟨by rw [e1, e2, e4]; exact h.tt.fr hf fun k hk hb => h.ap k hk hb, by rw [e3]; exact h.sp, ht, hu, h.mp.kept fun o ho => (hf.block _ (blk_lt ho) h.m2).trans ho, h.lo, h.ml, fun k hk hb => ?_, h.m1, fun hk => ?_, h.fr.trans hf fun i hi hb => ?_⟩
  · rcases hn k hb with e | e
    · exact h.ap k hk e
    · have := (h.tt.low hk).2; omega
  · rcases hn _ hk with e | e
    · exact h.m2 e
    · have := h.m2lt; omega
  · have := (h.tl.low hb).1; omega
theorem FLI.map {w W : World} {base B T M2 hi n : Nat} {s : FS} {mw : List Nat} {sv bv pv wv : Value} {sps : List (Value × List (Int × Int))} {qv rv uv : Value} {M b0 : Nat} {ups : List (Nat × List Nat)} {ts : List Int} (h : FLI w W base B T M2 hi n s mw sv bv pv wv sps qv rv uv M b0 ups ts) {W' : World} {mw' : List Nat} (hm : GMap 70 ok1 (fun n => .int .u64 (n : Int)) W' M2 (mw'.length + 1) (atF mw')) (hf : Fr W W' (fun k => k = M2)) : FLI w W' base B T M2 hi n s mw' sv bv pv wv sps qv rv uv M b0 ups ts where
  tt := h.tt.fr hf fun k hk e => h.m1 (by rw [← (show k = M2 from e)]; exact hk)
  sp := h.sp
  tl := h.tl.fr hf fun k hk e => h.m2 (by rw [← (show k = M2 from e)]; exact hk)
  up := h.up
  mp := hm
  lo := h.lo
  ml := h.ml
  ap := h.ap
  m1 := h.m1
  m2 := h.m2
  fr := h.fr.trans hf fun i hi e => by have := h.ml; have e : i = M2 := e; omega
theorem FLI.wh1 {w W : World} {base B T M2 hi n : Nat} {s : FS} {mw : List Nat} {sv bv pv wv : Value} {sps : List (Value × List (Int × Int))} {qv rv uv : Value} {M b0 : Nat} {ups : List (Nat × List Nat)} {ts : List Int} (h : FLI w W base B T M2 hi n s mw sv bv pv wv sps qv rv uv M b0 ups ts) {W' : World} (hf : W.grownBy W' wv.ownBlock) {v' : Value} {x : Nat} (hown : W'.ownsRow base 70 1 v' (s.wh ++ [x]).length (uwv (s.wh ++ [x]))) (hl : Loc W wv v') :
    W'.heap[B]? = some (.cells #[.int .i64 (n : Int), sv, bv, pv, wv, .slice none 0 0, .int .i64 ((0 : Nat) : Int)] 53 (0, 0)) ∧ FLI w (W'.setCell ⟨B, 4, none⟩ v') base B T M2 hi n ⟨s.st, s.bg, s.sp, s.wh ++ [x], s.ps, s.r0, s.up⟩ mw sv bv pv v' sps qv rv uv M b0 ups ts := by
  obtain ⟨e4, t1, f1⟩ := h.tt.wh1 (fr_by hf) hown
  refine ⟨e4, h.tab (s' := ⟨s.st, s.bg, s.sp, s.wh ++ [x], s.ps, s.r0, s.up⟩) t1 h.sp rfl rfl rfl (f1.mono fun k _ e => ?_) fun k hk => ?_⟩
  · rcases e with e | e
    · exact .inl e
    · exact .inr (.inr (.inr (.inr (.inl e))))
  · rcases hk with hk | hk | hk | hk | hk | hk
    · exact .inl (.inl hk)
    · exact .inl (.inr (.inl hk))
    · exact .inl (.inr (.inr (.inl hk)))
    · exact .inl (.inr (.inr (.inr (.inl hk))))
    · rcases hl with l2 | ⟨j, l2, hj⟩
      · exact .inl (.inr (.inr (.inr (.inr (.inl (l2 ▸ hk))))))
      · rw [hk] at l2; injection l2 with l2; exact .inr (by omega)
    · exact .inl (.inr (.inr (.inr (.inr (.inr hk)))))
theorem FLI.sp0 {w W : World} {base B T M2 hi n : Nat} {s : FS} {mw : List Nat} {sv bv pv wv : Value} {sps : List (Value × List (Int × Int))} {qv rv uv : Value} {M b0 : Nat} {ups : List (Nat × List Nat)} {ts : List Int} (h : FLI w W base B T M2 hi n s mw sv bv pv wv sps qv rv uv M b0 ups ts) {W' : World} (hf : W.grownBy W' pv.ownBlock) {v' : Value} (hown : W'.ownsRow base 27 1 v' (sps ++ [((.slice none 0 0 : Value), ([] : List (Int × Int)))]).length ((sps ++ [((.slice none 0 0 : Value), ([] : List (Int × Int)))]).map Prod.fst)) (hl : Loc W pv v') :
    W'.heap[B]? = some (.cells #[.int .i64 (n : Int), sv, bv, pv, wv, .slice none 0 0, .int .i64 ((0 : Nat) : Int)] 53 (0, 0)) ∧ FLI w (W'.setCell ⟨B, 3, none⟩ v') base B T M2 hi n ⟨s.st, s.bg, s.sp ++ [[]], s.wh, s.ps, s.r0, s.up⟩ mw sv bv v' wv (sps ++ [((.slice none 0 0 : Value), ([] : List (Int × Int)))]) qv rv uv M b0 ups ts := by
  obtain ⟨e4, t1, f1⟩ := h.tt.sp0 (fr_by hf) hown
  refine ⟨e4, h.tab (s' := ⟨s.st, s.bg, s.sp ++ [[]], s.wh, s.ps, s.r0, s.up⟩) t1 (by rw [List.map_append, h.sp]; rfl) rfl rfl rfl (f1.mono fun k _ e => ?_) fun k hk => ?_⟩
  · rcases e with e | e
    · exact .inl e
    · exact .inr (.inr (.inr (.inl e)))
  · rcases hk with hk | hk | hk | hk | hk | ⟨y, hy, hk⟩
    · exact .inl (.inl hk)
    · exact .inl (.inr (.inl hk))
    · exact .inl (.inr (.inr (.inl hk)))
    · rcases hl with l2 | ⟨j, l2, hj⟩
      · exact .inl (.inr (.inr (.inr (.inl (l2 ▸ hk)))))
      · rw [hk] at l2; injection l2 with l2; exact .inr (by omega)
    · exact .inl (.inr (.inr (.inr (.inr (.inl hk)))))
    · rcases List.mem_append.1 hy with hy | hy
      · exact .inl (.inr (.inr (.inr (.inr (.inr ⟨y, hy, hk⟩)))))
      · simp at hy; subst hy; simp [Value.ownBlock] at hk
/-- an atom begins -/
theorem FLI.beg {w W : World} {base B T M2 hi n : Nat} {s : FS} {mw : List Nat} {sv bv pv wv : Value} {sps : List (Value × List (Int × Int))} {qv rv uv : Value} {M b0 : Nat} {ups : List (Nat × List Nat)} {ts : List Int} (h : FLI w W base B T M2 hi n s mw sv bv pv wv sps qv rv uv M b0 ups ts) {W' : World} {a x : Int} (hq : BQ W base B sv bv pv wv (.slice none 0 0) n 0 s.st s.bg sps s.wh a x W') : ∃ sv' bv' sps', FLI w W' base B T M2 hi n ⟨s.st ++ [a], s.bg ++ [x], endA s.st s.bg a s.sp, s.wh, s.ps, s.r0, s.up⟩ mw sv' bv' pv wv sps' qv rv uv M b0 ups ts := by
  obtain ⟨sv', bv', sps', t1, e1, f1, n1⟩ := hq
  exact ⟨sv', bv', sps', h.tab (s' := ⟨s.st ++ [a], s.bg ++ [x], endA s.st s.bg a s.sp, s.wh, s.ps, s.r0, s.up⟩) t1 (by rw [e1, h.sp]) rfl rfl rfl f1 n1⟩
/-- towers of noughts -/
theorem chn_zero : ∀ {up : List (List Nat)} {r : List Nat}, Chn [(0, 0)] r up → ∀ x ∈ up, x = List.replicate x.length 0
  | [], _, _, x, hx => by simp at hx
  | ab :: up, r, ⟨_, h1, h2, h3⟩, x, hx => by
    simp only [List.mem_cons] at hx
    rcases hx with rfl | hx
    · apply List.ext_getElem (by simp)
      intro i hi _
      rw [List.getElem_replicate]
      have hd : x.getD i 0 = x[i] := by simp [List.getD, hi]
      rw [← hd]
      by_cases e : 2 * i + 1 < r.length
      · have := (List.getElem?_eq_some_iff.1 (h1 i e).2).1
        simp only [List.length_cons, List.length_nil] at this
        omega
      · exact h2 i (by omega)
    · exact chn_zero h3 x hx
theorem rows_eq {a b : List (List Nat)} (ha : ∀ x ∈ a, x = List.replicate x.length 0) (hb : ∀ x ∈ b, x = List.replicate x.length 0) (h : a.map List.length = b.map List.length) : a = b := by
  have hl : a.length = b.length := by have := congrArg List.length h; simpa using this
  apply List.ext_getElem hl
  intro i hi hi'
  rw [ha _ (List.getElem_mem hi), hb _ (List.getElem_mem hi')]
  congr 1
  have := congrArg (fun l => l[i]?) h
  simpa [hi, hi'] using this
/-- lengths of rows above one another -/
theorem rows_len {ps : List (Nat × Nat)} {r0 : List Nat} {b0 : Nat} {ups : List (Nat × List Nat)} (h : Chn ps r0 (ups.map Prod.snd)) : ∀ k x y, ((b0, r0) :: ups)[k]? = some x → ((b0, r0) :: ups)[k + 1]? = some y → x.2.length % 2 = 0 ∧ x.2.length ≤ 2 * y.2.length := fun k x y hx hy => by
  have hy2 : ups[k]? = some y := by simpa using hy
  have hk := (List.getElem?_eq_some_iff.1 hy2).1
  obtain ⟨e1, e2⟩ := h.row k (by simpa using hk)
  have g1 : (r0 :: ups.map Prod.snd).getD k [] = x.2 := by
    have : (((b0, r0) :: ups).map Prod.snd)[k]? = some x.2 := by rw [List.getElem?_map, hx]; rfl
    rw [List.getD_eq_getElem?_getD]
    simp only [List.map_cons] at this
    rw [this]; rfl
  have g2 : (ups.map Prod.snd).getD k [] = y.2 := by rw [List.getD_eq_getElem?_getD, List.getElem?_map, hy2]; rfl
  rw [g1] at e1 e2
  rw [g2] at e2
  refine ⟨e1, ?_⟩
  rcases Nat.lt_or_ge (2 * y.2.length) x.2.length with hlt | hge
  · have := (e2 y.2.length (by omega)).1; omega
  · exact hge
/-- the row at the top -/
theorem top_at {LL : List Nat} (hS : Shp LL) {b0 : Nat} {r0 : List Nat} {ups : List (Nat × List Nat)} (h : (ups.map Prod.snd).map List.length = LL) : ∃ b, ((b0, r0) :: ups)[ups.length]? = some (b, topOf (ups.map Prod.snd) :: []) := by
  obtain ⟨h1, h2⟩ := top_last hS h
  have hne : ups ≠ [] := fun e => h1 (by rw [e]; rfl)
  have hl := List.length_pos_iff.2 hne
  rw [List.getLast?_map, List.getLast?_eq_some_getLast hne] at h2
  refine ⟨(ups.getLast hne).1, ?_⟩
  rw [show ups.length = (ups.length - 1) + 1 by omega, List.getElem?_cons_succ, ← List.getLast?_eq_getElem?, List.getLast?_eq_some_getLast hne]
  simp only [Option.map_some, Option.getD_some] at h2
  rw [← h2]
theorem Reads.off {w W : World} {g o B : Nat} {l : List (Int × Int)} (h : Reads w g o l) (hl : g < w.heap.size) (hf : Fr w W (fun k => k = B)) (hg : g ≠ B) : Reads W g o l := fun j hj => by
  have e := hf.block g hl hg
  have c : ∀ i, W.cell? ⟨g, i, none⟩ = w.cell? ⟨g, i, none⟩ := fun i => by simp only [World.cell?, e]
  rw [c, c]; exact h j hj
theorem Reads.drop {w : World} {g o : Nat} {l : List (Int × Int)} (h : Reads w g o l) (d : Nat) : Reads w g (o + d * 2) (l.drop d) := fun j hj => by
  have := h (d + j) (by rw [List.length_drop] at hj; omega)
  have e : rg (l.drop d) j = rg l (d + j) := by simp [rg]
  rw [e, show o + d * 2 + j * 2 = o + (d + j) * 2 by omega]; exact this
theorem Reads.take {w : World} {g o : Nat} {l : List (Int × Int)} (h : Reads w g o l) (d : Nat) : Reads w g o (l.take d) := fun j hj => by
  rw [List.length_take] at hj
  have := h j (by omega)
  have e : rg (l.take d) j = rg l j := by simp [rg, show j < d by omega]
  rw [e]; exact this
end Go.Proofs
