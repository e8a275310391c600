/-
  A pair gets its number.
-/
import Derived.RangeFuncNested
import Derived.RangeFuncBound
import Derived.RangeFuncCalls
import Derived.RangeFuncLeaves
import Derived.Shelf.Abstract
import Derived.Shelf.RegionOpen
import Derived.WalkKit
import Derived.WalkSpells
import Derived.WalkLawsBesides
import Derived.OwnWalkIn
import Derived.TacticsInMore
import Derived.LoopNIn
import Derived.LoopIn
import Derived.BigQuiet
import Derived.RegionIn
import Derived.Deep.QuietTactic
import Derived.Deep.RegionWith
import Derived.Lib.OthersKept
import Derived.Maps.AppendAt
import Derived.Lib.SmallJoins
import Derived.Shelf.SlSortCmp.QuietGrown
import Derived.Test.YtjjkomaokgmkhaaDoorHbn
namespace Go.Proofs
open Go.RowKit Go.Shelf

set_option maxRecDepth 100000
attribute [local go_sem] Oper.semAt_some
attribute [local go_sem ↓] Go.wp_at_zero Go.wp_at_succ
def val49a (T _Bx M : Nat) (a b : Nat) (nv : Int) (kb : Bool) : Nat → Option Value
  | 0 => some (.pointer (some ⟨T, 0, none⟩))
  | 1 => some (.pointer (some ⟨T, 0, none⟩))
  | 2 => some (.pointer (some ⟨T, 3, none⟩))
  | 3 => some (.map (some M))
  | 4 => some (.agg #[.int .u64 (a : Int), .int .u64 (b : Int)])
  | 5 => some (.tuple #[.int .u64 nv, .bool kb])
  | 6 => some (.tuple #[.int .u64 nv, .bool kb])
  | 7 => some (.int .u64 nv)
  | 8 => some (.bool kb)
  | 9 => some (.int .u64 nv)
  | 10 => some (.bool kb)
  | _ => none
def val49b (T _Bx M pn : Nat) (a b : Nat) : Nat → Option Value
  | 0 => some (.pointer (some ⟨T, 0, none⟩))
  | 1 => some (.pointer (some ⟨T, 0, none⟩))
  | 2 => some (.pointer (some ⟨T, 3, none⟩))
  | 3 => some (.map (some M))
  | 4 => some (.agg #[.int .u64 (a : Int), .int .u64 (b : Int)])
  | 5 => some (.int .u64 (pn : Int))
  | _ => none
def val49c (T _Bx pn : Nat) (pa : Option Addr) (pc a b : Nat) : Nat → Option Value
  | 0 => some (.pointer (some ⟨T, 0, none⟩))
  | 1 => some (.pointer (some ⟨T, 0, none⟩))
  | 2 => some (.pointer (some ⟨T, 0, none⟩))
  | 3 => some (.pointer (some ⟨T, 0, none⟩))
  | 4 => some (.pointer (some ⟨T, 0, none⟩))
  | 5 => some (.slice pa pn pc)
  | 6 => some (.agg #[.int .u64 (a : Int), .int .u64 (b : Int)])
  | 9 => some (.pointer (some ⟨T, 0, none⟩))
  | 10 => some (.pointer (some ⟨T, 0, none⟩))
  | 11 => some (.pointer (some ⟨T, 0, none⟩))
  | _ => none

def E49 (a b : Nat) : Nat → Value → World → Prop
  | 7, v, W => ∃ g, v = .slice (some ⟨g, 0, none⟩) 1 1 ∧ W.heap[g]? = some (.cells #[.int .u64 (a : Int), .int .u64 (b : Int)] 93 (0, 0))
  | _, _, _ => True
theorem E49s {a b : Nat} : ∀ i v W W', E49 a b i v W → Grown W W' → E49 a b i v W' := fun i v W W' h hg => by
  unfold E49 at h ⊢
  split
  · obtain ⟨g, h1, h2⟩ := h
    exact ⟨g, h1, (hg.below.block _ (blk_lt h2)).trans h2⟩
  · trivial
def PA49 (X : World) (base : Nat) (pv : Value) (ps : List (Nat × Nat)) (a b : Nat) (v : Value) (W : World) : Prop := ∃ W3, Grown X W3 ∧ W.ownsRow base 93 2 v (ps.length + 1) (pcs ps ++ [.int .u64 (a : Int), .int .u64 (b : Int)]) ∧ W3.grownBy W pv.ownBlock ∧ Loc W3 pv v

/-- a row's block is a row's -/
theorem own_obj {w : World} {base : Nat} {e : TypeId} {size : Nat} {v : Value} {n : Nat} {xs : List Value} (h : w.ownsRow base e size v n xs) {b : Nat} (hb : v.ownBlock = some b) : ∃ cs, w.heap[b]? = some (.cells cs e (0, 0)) := by
  rcases h.2 with ⟨rfl, _⟩ | ⟨g, cap, cur, rfl, _, hg, _⟩
  · cases hb
  · injection hb with hb
    simp only at hb
    subst hb
    exact ⟨_, hg⟩
theorem TL.neT {w : World} {base T : Nat} {pv rv uv : Value} {hi M : Nat} {ps : List (Nat × Nat)} {rows : List (Nat × List Nat)} {ts : List Int} (h : TL w base T pv rv uv hi M ps rows ts) : T ≠ M := fun e => by
  obtain ⟨es, c, hm⟩ := h.mp.isMap
  rw [← e, h.blk] at hm
  cases hm
theorem TL.pv_ne {w : World} {base T : Nat} {pv rv uv : Value} {hi M : Nat} {ps : List (Nat × Nat)} {rows : List (Nat × List Nat)} {ts : List Int} (h : TL w base T pv rv uv hi M ps rows ts) {b : Nat} (hb : pv.ownBlock = some b) : b ≠ T ∧ b ≠ M ∧ rv.ownBlock ≠ some b ∧ uv.ownBlock ≠ some b ∧ ∀ x ∈ rows, x.1 ≠ b := by
  obtain ⟨cs, ho⟩ := own_obj h.pr hb
  obtain ⟨es, c, hm⟩ := h.mp.isMap
  refine ⟨fun e => ?_, fun e => ?_, own_ne h.pr h.rr (by decide) hb, own_ne h.pr h.tu (by decide) hb, fun x hx e => ?_⟩
  · rw [e, h.blk] at ho; injection ho with ho; injection ho with _ ho _; cases ho
  · rw [e, hm] at ho; cases ho
  · have := (h.rw x hx).2; rw [e, ho] at this; injection this with this; injection this with _ this _; cases this
theorem TL.M_ne {w : World} {base T : Nat} {pv rv uv : Value} {hi M : Nat} {ps : List (Nat × Nat)} {rows : List (Nat × List Nat)} {ts : List Int} (h : TL w base T pv rv uv hi M ps rows ts) : pv.ownBlock ≠ some M ∧ rv.ownBlock ≠ some M ∧ uv.ownBlock ≠ some M ∧ ∀ x ∈ rows, x.1 ≠ M := by
  obtain ⟨es, c, hm⟩ := h.mp.isMap
  refine ⟨fun e => ?_, fun e => ?_, fun e => ?_, fun x hx e => ?_⟩
  · obtain ⟨cs, ho⟩ := own_obj h.pr e; rw [hm] at ho; cases ho
  · obtain ⟨cs, ho⟩ := own_obj h.rr e; rw [hm] at ho; cases ho
  · obtain ⟨cs, ho⟩ := own_obj h.tu e; rw [hm] at ho; cases ho
  · have := (h.rw x hx).2; rw [e, hm] at this; cases this
theorem TL.T_ne {w : World} {base T : Nat} {pv rv uv : Value} {hi M : Nat} {ps : List (Nat × Nat)} {rows : List (Nat × List Nat)} {ts : List Int} (h : TL w base T pv rv uv hi M ps rows ts) : pv.ownBlock ≠ some T ∧ rv.ownBlock ≠ some T ∧ uv.ownBlock ≠ some T ∧ ∀ x ∈ rows, x.1 ≠ T := by
  refine ⟨fun e => ?_, fun e => ?_, fun e => ?_, fun x hx e => ?_⟩
  · obtain ⟨cs, ho⟩ := own_obj h.pr e; rw [h.blk] at ho; injection ho with ho; injection ho with _ ho _; cases ho
  · obtain ⟨cs, ho⟩ := own_obj h.rr e; rw [h.blk] at ho; injection ho with ho; injection ho with _ ho _; cases ho
  · obtain ⟨cs, ho⟩ := own_obj h.tu e; rw [h.blk] at ho; injection ho with ho; injection ho with _ ho _; cases ho
  · have := (h.rw x hx).2; rw [e, h.blk] at this; injection this with this; injection this with _ this _; cases this
/-- a pair more: the map, the row, the field -/
theorem TL.add {w W1 W2 W3 W4 : World} {base T : Nat} {pv rv uv : Value} {hi M : Nat} {ps : List (Nat × Nat)} {rows : List (Nat × List Nat)} {ts : List Int} (h : TL w base T pv rv uv hi M ps rows ts) {p : Nat × Nat} (hp : ok2 p) (hn : p ∉ ps) (g1 : Grown w W1) (tu : W1.mapTurned W2 M) (gm : GMap 93 ok2 klit W2 M (ps.length + 1) (updM (numF ps) p (.int .u64 (ps.length : Int))))
    (g3 : Grown W2 W3) {v' : Value} (hap : W3.grownBy W4 pv.ownBlock) (hown : W4.ownsRow base 93 2 v' (ps.length + 1) (pcs ps ++ [.int .u64 (p.1 : Int), .int .u64 (p.2 : Int)])) (hloc : Loc W3 pv v') :
    W4.heap[T]? = some (.cells #[pv, .int .i64 (hi : Int), rv, .map (some M), uv] 83 (0, 0)) ∧ TL (W4.setCell ⟨T, 0, none⟩ v') base T v' rv uv hi M (addP ps p) rows ts ∧ Fr w (W4.setCell ⟨T, 0, none⟩ v') (fun k => k = T ∨ k = M ∨ pv.ownBlock = some k) ∧ Loc w pv v' := by
  have f2 : Fr w W2 (fun k => k = M) := (fr_grown g1 _).trans (turned_fr tu) fun _ _ e => e
  have f3 : Fr w W3 (fun k => k = M) := f2.trans (fr_grown g3 _) fun _ _ e => e
  have f4 : Fr w W4 (fun k => k = M ∨ pv.ownBlock = some k) := (f3.mono fun _ _ e => .inl e).trans (fr_by hap) fun _ _ e => .inr e
  have hTM := h.neT
  have hT := h.T_ne
  have hM := h.M_ne
  have e4 : W4.heap[T]? = some (.cells #[pv, .int .i64 (hi : Int), rv, .map (some M), uv] 83 (0, 0)) := (f4.block _ (blk_lt h.blk) (fun e => e.elim hTM hT.1)).trans h.blk
  have f5 : Fr w (W4.setCell ⟨T, 0, none⟩ v') (fun k => k = T ∨ k = M ∨ pv.ownBlock = some k) := (f4.mono fun _ _ e => .inr e).trans (fr_set _ _ _ _) fun _ _ e => .inl e
  have hvT : v'.ownBlock ≠ some T := fun e => by obtain ⟨cs, ho⟩ := own_obj hown e; rw [e4] at ho; injection ho with ho; injection ho with _ ho _; cases ho
  have hadd : addP ps p = ps ++ [p] := by unfold addP; rw [if_neg hn]
  refine ⟨e4, ⟨h.tb, ?_, ?_, ?_, fun x hx => ?_, h.nd, h.mb, ?_, ?_, h.w6, fun q hq => ?_⟩, f5, ?_⟩
  · exact (set_heap e4).trans rfl
  · rw [hadd, List.length_append, pcs_append]
    exact own_fr hown (fr_set _ _ _ _) fun b hb e => hvT (by rw [← (show b = T from e)]; exact hb)
  · exact own_fr h.rr f5 fun b hb e => by
      rcases e with e | e | e
      · exact hT.2.1 (by rw [← e]; exact hb)
      · exact hM.2.1 (by rw [← e]; exact hb)
      · exact (h.pv_ne e).2.2.1 hb
  · refine ⟨(h.rw x hx).1, (f5.block _ (blk_lt (h.rw x hx).2) fun e => ?_).trans (h.rw x hx).2⟩
    rcases e with e | e | e
    · exact hT.2.2.2 x hx e
    · exact hM.2.2.2 x hx e
    · exact (h.pv_ne e).2.2.2.2 x hx rfl
  · rw [hadd, List.length_append, ← hadd, ← numF_add ps p hn]
    refine gm.kept fun o ho => ?_
    have h3 := (g3.below.block _ (blk_lt ho)).trans ho
    have h4 := (hap.block _ (blk_lt h3) (fun e => hM.1 e.symm)).trans h3
    exact (Below.heap_setCell W4 ⟨T, 0, none⟩ v' M (Ne.symm hTM)).trans h4
  · exact own_fr h.tu f5 fun b hb e => by
      rcases e with e | e | e
      · exact hT.2.2.1 (by rw [← e]; exact hb)
      · exact hM.2.2.1 (by rw [← e]; exact hb)
      · exact (h.pv_ne e).2.2.2.1 hb
  · rw [hadd] at hq
    rcases List.mem_append.1 hq with hq | hq
    · exact h.p6 q hq
    · simp at hq; subst hq; exact hp
  · have hz := f3.size
    rcases hloc with h5 | ⟨j, h5, hj⟩
    · exact .inl h5
    · exact .inr ⟨j, h5, by omega⟩

theorem JGs : ∀ (i : Nat) (v : Value) (W W' : World), (fun (_ : Nat) (_ : Value) (_ : World) => True) i v W → Grown W W' → (fun (_ : Nat) (_ : Value) (_ : World) => True) i v W' := fun _ _ _ _ _ _ => trivial
set_option maxHeartbeats 4000000 in
theorem number_walk {w : World} {base T : Nat} {pv rv uv : Value} {hi M : Nat} {ps : List (Nat × Nat)} {rows : List (Nat × List Nat)} {ts : List Int} (h : TL w base T pv rv uv hi M ps rows ts) {a b : Nat} (hp : ok2 (a, b)) (hn : ps.length < 1000000000) :
    Calls Tryd.prog 49 #[.pointer (some ⟨T, 0, none⟩), .agg #[.int .u64 (a : Int), .int .u64 (b : Int)]] w fun e w' => e = .returned (.int .u64 ((ps.idxOf (a, b) : Nat) : Int)) ∧ ∃ pv', TL w' base T pv' rv uv hi M (addP ps (a, b)) rows ts ∧ Fr w w' (fun k => k = T ∨ k = M ∨ pv.ownBlock = some k) ∧ Loc w pv pv' := by
  obtain ⟨pa, pc, hpv⟩ := own_len h.pr
  obtain ⟨pn, hpn⟩ : ∃ pn, ps.length = pn := ⟨_, rfl⟩
  rw [hpn] at hpv
  subst hpv
  obtain ⟨nv, kb, hnk⟩ : ∃ (nv : Int) (kb : Bool), Value.tuple #[(numF ps (a, b)).getD (.int .u64 0), .bool (numF ps (a, b)).isSome] = .tuple #[.int .u64 nv, .bool kb] := by
    unfold numF
    split
    · exact ⟨_, true, rfl⟩
    · exact ⟨0, false, rfl⟩
  have HLK : Hid (∀ W, Grown w W → (Instr.lookup 81 (.map (some M)) (.agg #[.int .u64 (a : Int), .int .u64 (b : Int)]) true).run Tryd.prog W = .ok (.tuple #[.int .u64 nv, .bool kb]) W) := fun W hg => by
    have := (h.grown hg).mp.look_ok kz93 (t := 81) (e := 70) (z := .int .u64 0) Tryd.underlying81 (by kernel_rfl) hp
    rw [hnk] at this
    exact this
  have HNK : Hid ((kb = true → nv = ((ps.idxOf (a, b) : Nat) : Int) ∧ (a, b) ∈ ps) ∧ (kb = false → (a, b) ∉ ps)) := by
    unfold numF at hnk
    by_cases hm : (a, b) ∈ ps
    · rw [if_pos hm] at hnk
      simp at hnk
      refine ⟨fun _ => ⟨by omega, hm⟩, fun e => ?_⟩
      rw [hnk.2] at e; cases e
    · rw [if_neg hm] at hnk
      simp at hnk
      refine ⟨fun e => ?_, fun _ => hm⟩
      rw [hnk.2] at e; cases e
  have HTL := Hid.mk' h
  have HP2 := Hid.mk' hp
  have HPN := Hid.mk' hpn
  have hpnI : (pn : Int) < 1000000000 := by omega
  have eT := h.blk
  clear h hp hnk hpn
  go_enter Tryd.func49, Tryd.ntmps49
  go_wp2
  obtain ⟨X, hX⟩ : ∃ X, X = w.alloc (.cells #[.int .u64 (a : Int), .int .u64 (b : Int)] 93) := ⟨_, rfl⟩
  have HX : Hid (Grown w X) := by show Grown _ _; rw [hX]; exact (Grown.refl _).alloc _
  have hBx : X.heap[w.heap.size]? = some (.cells #[.int .u64 (a : Int), .int .u64 (b : Int)] 93 (0, 0)) := by rw [hX]; exact heap_alloc_new _ _
  have eTX := (HX.out.below.block _ (blk_lt eT)).trans eT
  have cT0 : X.cell? ⟨T, 0, none⟩ = some (.slice pa pn pc) := heap_cellv eTX rfl
  have cT3 : X.cell? ⟨T, 3, none⟩ = some (.map (some M)) := heap_cellv eTX rfl
  have cB0 : X.cell? ⟨w.heap.size, 0, none⟩ = some (.int .u64 (a : Int)) := heap_cellv hBx rfl
  have cB1 : X.cell? ⟨w.heap.size, 1, none⟩ = some (.int .u64 (b : Int)) := heap_cellv hBx rfl
  rw [← hX]
  clear hX
  refine wp_region_inv mixed (by kernel_rfl) (by kernel_rfl) (by kernel_rfl) (JG X (val49a T w.heap.size M a b nv kb) (fun _ _ _ => True)) JG.start ⟨?_, ?_, ?_, ?_, ?_, ?_, ?_, ?_, ?_, ?_, ?_, trivial⟩ ?_
  · as_aux_lemma =>
      intro aA wx p vs hJ hdep hpi hval hfr K hK
      rw [if_pos (show Region.wanted _ _ = true from rfl)]
      have zd0 : aA.tmps.getD 0 undef = .pointer (some ⟨T, 0, none⟩) := hfr 0 (by kernel_rfl)
      have hJ' := hJ.step JGs 0 (Grown.refl _) (fun x hx => by injection hx) trivial
      clear hval hfr hdep hJ
      simp only [Array.getD_eq_getD_getElem?] at zd0
      go_simp
      exact hK _ _ hJ'
  · as_aux_lemma =>
      intro aA wx p vs hJ hdep hpi hval hfr K hK
      rw [if_pos (show Region.wanted _ _ = true from rfl)]
      have zd0 : aA.tmps.getD 8 undef = .pointer (some ⟨T, 0, none⟩) := (hval 0 _ 8 (hdep 0 (by kernel_rfl)) (by rfl) rfl).trans (hJ.v 0 _ rfl (hdep 0 (by kernel_rfl)))
      have hJ' := hJ.step JGs 1 (Grown.refl _) (fun x hx => by injection hx) trivial
      clear hval hfr hdep hJ
      simp only [Array.getD_eq_getD_getElem?] at zd0
      go_simp
      exact hK _ _ hJ'
  · as_aux_lemma =>
      intro aA wx p vs hJ hdep hpi hval hfr K hK
      rw [if_pos (show Region.wanted _ _ = true from rfl)]
      have zd0 : aA.tmps.getD 9 undef = .pointer (some ⟨T, 0, none⟩) := (hval 1 _ 9 (hdep 1 (by kernel_rfl)) (by rfl) rfl).trans (hJ.v 1 _ rfl (hdep 1 (by kernel_rfl)))
      have hJ' := hJ.step JGs 2 (Grown.refl _) (fun x hx => by injection hx) trivial
      clear hval hfr hdep hJ
      simp only [Array.getD_eq_getD_getElem?] at zd0
      go_simp
      exact hK _ _ hJ'
  · as_aux_lemma =>
      intro aA wx p vs hJ hdep hpi hval hfr K hK
      rw [if_pos (show Region.wanted _ _ = true from rfl)]
      have zd0 : aA.tmps.getD 10 undef = .pointer (some ⟨T, 3, none⟩) := (hval 2 _ 10 (hdep 2 (by kernel_rfl)) (by rfl) rfl).trans (hJ.v 2 _ rfl (hdep 2 (by kernel_rfl)))
      have hgx := hJ.g
      have cc := hgx.cellv cT3
      have hJ' := hJ.step JGs 3 (Grown.refl _) (fun x hx => by injection hx) trivial
      clear hval hfr hdep hJ
      simp only [Array.getD_eq_getD_getElem?] at zd0
      go_simp
      exact hK _ _ hJ'
  · as_aux_lemma =>
      intro aA wx p vs hJ hdep hpi hval hfr K hK
      rw [if_pos (show Region.wanted _ _ = true from rfl)]
      have zd0 : aA.tmps.getD 3 undef = .pointer (some ⟨w.heap.size, 0, none⟩) := hfr 3 (by kernel_rfl)
      have hgx := hJ.g
      have cc0 := hgx.cellv cB0
      have cc1 := hgx.cellv cB1
      have hJ' := hJ.step JGs 4 (Grown.refl _) (fun x hx => by injection hx) trivial
      clear hval hfr hdep hJ
      simp only [Array.getD_eq_getD_getElem?] at zd0
      go_simp
      exact hK _ _ hJ'
  · as_aux_lemma =>
      intro aA wx p vs hJ hdep hpi hval hfr K hK
      rw [if_pos (show Region.wanted _ _ = true from rfl)]
      have zd0 : aA.tmps.getD 11 undef = .map (some M) := (hval 3 _ 11 (hdep 3 (by kernel_rfl)) (by rfl) rfl).trans (hJ.v 3 _ rfl (hdep 3 (by kernel_rfl)))
      have zd1 : aA.tmps.getD 12 undef = .agg #[.int .u64 (a : Int), .int .u64 (b : Int)] := (hval 4 _ 12 (hdep 4 (by kernel_rfl)) (by rfl) rfl).trans (hJ.v 4 _ rfl (hdep 4 (by kernel_rfl)))
      have HJ := Hid.mk' hJ
      clear hval hfr hdep hJ
      simp only [Array.getD_eq_getD_getElem?] at zd0 zd1
      have hl := HLK.out wx (HX.out.trans HJ.out.g)
      go_simp
      exact hK _ _ (HJ.out.step JGs 5 (Grown.refl _) (fun x hx => by injection hx) trivial)
  · as_aux_lemma =>
      intro aA wx p vs hJ hdep hpi hval hfr K hK
      rw [if_pos (show Region.wanted _ _ = true from rfl)]
      have zd0 : aA.tmps.getD 13 undef = .tuple #[.int .u64 nv, .bool kb] := (hval 5 _ 13 (hdep 5 (by kernel_rfl)) (by rfl) rfl).trans (hJ.v 5 _ rfl (hdep 5 (by kernel_rfl)))
      have hJ' := hJ.step JGs 6 (Grown.refl _) (fun x hx => by injection hx) trivial
      clear hval hfr hdep hJ
      simp only [Array.getD_eq_getD_getElem?] at zd0
      go_simp
      exact hK _ _ hJ'
  · as_aux_lemma =>
      intro aA wx p vs hJ hdep hpi hval hfr K hK
      rw [if_pos (show Region.wanted _ _ = true from rfl)]
      have zd0 : aA.tmps.getD 7 undef = .tuple #[.int .u64 nv, .bool kb] := (hval 6 _ 7 (hdep 6 (by kernel_rfl)) (by rfl) rfl).trans (hJ.v 6 _ rfl (hdep 6 (by kernel_rfl)))
      have hJ' := hJ.step JGs 7 (Grown.refl _) (fun x hx => by injection hx) trivial
      clear hval hfr hdep hJ
      simp only [Array.getD_eq_getD_getElem?] at zd0
      go_simp
      exact hK _ _ hJ'
  · as_aux_lemma =>
      intro aA wx p vs hJ hdep hpi hval hfr K hK
      rw [if_pos (show Region.wanted _ _ = true from rfl)]
      have zd0 : aA.tmps.getD 7 undef = .tuple #[.int .u64 nv, .bool kb] := (hval 6 _ 7 (hdep 6 (by kernel_rfl)) (by rfl) rfl).trans (hJ.v 6 _ rfl (hdep 6 (by kernel_rfl)))
      have hJ' := hJ.step JGs 8 (Grown.refl _) (fun x hx => by injection hx) trivial
      clear hval hfr hdep hJ
      simp only [Array.getD_eq_getD_getElem?] at zd0
      go_simp
      exact hK _ _ hJ'
  · as_aux_lemma =>
      intro aA wx p vs hJ hdep hpi hval hfr K hK
      rw [if_pos (show Region.wanted _ _ = true from rfl)]
      have zd0 : aA.tmps.getD 14 undef = .int .u64 nv := (hval 7 _ 14 (hdep 7 (by kernel_rfl)) (by rfl) rfl).trans (hJ.v 7 _ rfl (hdep 7 (by kernel_rfl)))
      have hJ' := hJ.step JGs 9 (Grown.refl _) (fun x hx => by injection hx) trivial
      clear hval hfr hdep hJ
      simp only [Array.getD_eq_getD_getElem?] at zd0
      go_simp
      exact hK _ _ hJ'
  · as_aux_lemma =>
      intro aA wx p vs hJ hdep hpi hval hfr K hK
      rw [if_pos (show Region.wanted _ _ = true from rfl)]
      have zd0 : aA.tmps.getD 15 undef = .bool kb := (hval 8 _ 15 (hdep 8 (by kernel_rfl)) (by rfl) rfl).trans (hJ.v 8 _ rfl (hdep 8 (by kernel_rfl)))
      have hJ' := hJ.step JGs 10 (Grown.refl _) (fun x hx => by injection hx) trivial
      clear hval hfr hdep hJ
      simp only [Array.getD_eq_getD_getElem?] at zd0
      go_simp
      exact hK _ _ hJ'
  · intro vs wf hJ
    rw [putL_eq]
    simp only [putsL, List.set_cons_zero, List.set_cons_succ, Nat.zero_add, Nat.reduceAdd]
    have v9 := hJ.v 9 _ rfl rfl
    have v10 := hJ.v 10 _ rfl rfl
    rw [v9, v10]
    have HG1 := Hid.mk' (HX.out.trans hJ.g)
    have HGX := Hid.mk' hJ.g
    clear hJ v9 v10 HLK
    cases kb with
    | true =>
      obtain ⟨hnv, hmem⟩ := HNK.out.1 rfl
      have HR : Hid (Ending.returned (.int .u64 nv) = .returned (.int .u64 ((ps.idxOf (a, b) : Nat) : Int)) ∧ addP ps (a, b) = ps) := ⟨by rw [hnv], by unfold addP; rw [if_pos hmem]⟩
      clear hnv
      go_wp2
      go_ret
      refine ⟨HR.out.1, .slice pa pn pc, ?_, fr_grown HG1.out _, .inl rfl⟩
      rw [HR.out.2]
      exact HTL.out.grown HG1.out
    | false =>
      have hnm := HNK.out.2 rfl
      have cT0' := HGX.out.cellv cT0
      have hTf := (HGX.out.below.block _ (blk_lt eTX)).trans eTX
      have hBf := (HGX.out.below.block _ (blk_lt hBx)).trans hBx
      have eT3 : wf.cell? ⟨T, 3, none⟩ = some (.map (some M)) := heap_cellv hTf rfl
      have eB0 : wf.cell? ⟨w.heap.size, 0, none⟩ = some (.int .u64 (a : Int)) := heap_cellv hBf rfl
      have eB1 : wf.cell? ⟨w.heap.size, 1, none⟩ = some (.int .u64 (b : Int)) := heap_cellv hBf rfl
      go_wp2
      clear cT0'
      refine wp_region_clo mixed (by kernel_rfl) (by kernel_rfl) (by kernel_rfl) (JA wf (val49b T w.heap.size M pn a b) (fun _ _ _ => True) 6 6 (fun _ _ => True) (fun W => ∃ W1, Grown wf W1 ∧ W1.mapTurned W M ∧ GMap 93 ok2 klit W M (ps.length + 1) (updM (numF ps) (a, b) (.int .u64 (pn : Int))))) JA.start ⟨?_, ?_, ?_, ?_, ?_, ?_, ?_, trivial⟩ ?_
      · as_aux_lemma =>
          intro aA wx p vs hJ hdep hpi hcl hval hfr K hK
          rw [if_pos (show Region.wanted _ _ = true from rfl)]
          have zd0 : aA.tmps.getD 0 undef = .pointer (some ⟨T, 0, none⟩) := hfr 0 (by kernel_rfl)
          have hJ' := hJ.pure 0 (by decide) (by decide) rfl (fun _ _ => trivial)
          clear hval hfr hdep hJ hcl
          simp only [Array.getD_eq_getD_getElem?] at zd0
          go_simp
          exact hK _ _ hJ'
      · as_aux_lemma =>
          intro aA wx p vs hJ hdep hpi hcl hval hfr K hK
          rw [if_pos (show Region.wanted _ _ = true from rfl)]
          have zd0 : aA.tmps.getD 25 undef = .pointer (some ⟨T, 0, none⟩) := (hval 0 _ 25 (hdep 0 (by kernel_rfl)) (by rfl) rfl).trans (hJ.v 0 _ rfl (hdep 0 (by kernel_rfl)))
          have hJ' := hJ.pure 1 (by decide) (by decide) rfl (fun _ _ => trivial)
          clear hval hfr hdep hJ hcl
          simp only [Array.getD_eq_getD_getElem?] at zd0
          go_simp
          exact hK _ _ hJ'
      · as_aux_lemma =>
          intro aA wx p vs hJ hdep hpi hcl hval hfr K hK
          rw [if_pos (show Region.wanted _ _ = true from rfl)]
          have zd0 : aA.tmps.getD 26 undef = .pointer (some ⟨T, 0, none⟩) := (hval 1 _ 26 (hdep 1 (by kernel_rfl)) (by rfl) rfl).trans (hJ.v 1 _ rfl (hdep 1 (by kernel_rfl)))
          have hJ' := hJ.pure 2 (by decide) (by decide) rfl (fun _ _ => trivial)
          clear hval hfr hdep hJ hcl
          simp only [Array.getD_eq_getD_getElem?] at zd0
          go_simp
          exact hK _ _ hJ'
      · as_aux_lemma =>
          intro aA wx p vs hJ hdep hpi hcl hval hfr K hK
          rw [if_pos (show Region.wanted _ _ = true from rfl)]
          have hnS : p 6 = false := by
            cases e : p 6 with
            | false => rfl
            | true =>
              have z0 := hcl 6 _ (by rfl) e 3 (by kernel_rfl)
              rw [hpi] at z0; cases z0
          have hnA := hnS
          have zd0 : aA.tmps.getD 27 undef = .pointer (some ⟨T, 3, none⟩) := (hval 2 _ 27 (hdep 2 (by kernel_rfl)) (by rfl) rfl).trans (hJ.v 2 _ rfl (hdep 2 (by kernel_rfl)))
          have hgx := hJ.g hnA hnS
          have cc := hgx.cellv eT3
          have hJ' := hJ.pure 3 (by decide) (by decide) rfl (fun _ _ => trivial)
          clear hval hfr hdep hJ hcl
          simp only [Array.getD_eq_getD_getElem?] at zd0
          go_simp
          exact hK _ _ hJ'
      · as_aux_lemma =>
          intro aA wx p vs hJ hdep hpi hcl hval hfr K hK
          rw [if_pos (show Region.wanted _ _ = true from rfl)]
          have hnS : p 6 = false := by
            cases e : p 6 with
            | false => rfl
            | true =>
              have z0 := hcl 6 _ (by rfl) e 4 (by kernel_rfl)
              rw [hpi] at z0; cases z0
          have hnA := hnS
          have zd0 : aA.tmps.getD 3 undef = .pointer (some ⟨w.heap.size, 0, none⟩) := hfr 3 (by kernel_rfl)
          have hgx := hJ.g hnA hnS
          have cc0 := hgx.cellv eB0
          have cc1 := hgx.cellv eB1
          have hJ' := hJ.pure 4 (by decide) (by decide) rfl (fun _ _ => trivial)
          clear hval hfr hdep hJ hcl
          simp only [Array.getD_eq_getD_getElem?] at zd0
          go_simp
          exact hK _ _ hJ'
      · as_aux_lemma =>
          intro aA wx p vs hJ hdep hpi hcl hval hfr K hK
          rw [if_pos (show Region.wanted _ _ = true from rfl)]
          have zd0 : aA.tmps.getD 5 undef = .int .u64 (pn : Int) := hfr 5 (by kernel_rfl)
          have hJ' := hJ.pure 5 (by decide) (by decide) rfl (fun _ _ => trivial)
          clear hval hfr hdep hJ hcl
          simp only [Array.getD_eq_getD_getElem?] at zd0
          go_simp
          exact hK _ _ hJ'
      · as_aux_lemma =>
          intro aA wx p vs hJ hdep hpi hcl hval hfr K hK
          rw [if_pos (show Region.wanted _ _ = true from rfl)]
          have zd0 : aA.tmps.getD 28 undef = .map (some M) := (hval 3 _ 28 (hdep 3 (by kernel_rfl)) (by rfl) rfl).trans (hJ.v 3 _ rfl (hdep 3 (by kernel_rfl)))
          have zd1 : aA.tmps.getD 29 undef = .agg #[.int .u64 (a : Int), .int .u64 (b : Int)] := (hval 4 _ 29 (hdep 4 (by kernel_rfl)) (by rfl) rfl).trans (hJ.v 4 _ rfl (hdep 4 (by kernel_rfl)))
          have zd2 : aA.tmps.getD 30 undef = .int .u64 (pn : Int) := (hval 5 _ 30 (hdep 5 (by kernel_rfl)) (by rfl) rfl).trans (hJ.v 5 _ rfl (hdep 5 (by kernel_rfl)))
          have hgx := hJ.g hpi hpi
          obtain ⟨w', hru, hgm, htu⟩ := ((HTL.out.grown HG1.out).grown hgx).mp.store kz93 (t := 81) (e := 70) (by omega) Tryd.underlying81 HP2.out (.int .u64 (pn : Int))
          have hru2 : (Instr.mapUpdate 81 (.map (some M)) (.agg #[.int .u64 (a : Int), .int .u64 (b : Int)]) (.int .u64 (pn : Int))).run Tryd.prog wx = .ok () w' := hru
          have HPS := Hid.mk' (And.intro hgx (And.intro htu hgm))
          clear hru hgm htu hgx
          have HJ := Hid.mk' hJ
          clear hval hfr hdep hJ hcl
          simp only [Array.getD_eq_getD_getElem?] at zd0 zd1 zd2
          go_simp
          exact hK undef _ (HJ.out.atS rfl ⟨_, HPS.out.1, HPS.out.2.1, HPS.out.2.2⟩)
      · intro vs wg hJ
        obtain ⟨w1, hg1, htu, hgm⟩ := hJ.s rfl
        rw [putL_eq]
        simp only [putsL, List.set_cons_zero, List.set_cons_succ, Nat.zero_add, Nat.reduceAdd]
        have HS4 := Hid.mk' (And.intro hg1 (And.intro htu hgm))
        have hfw : Fr wf wg (fun k => k = M) := (fr_grown hg1 _).trans (turned_fr htu) fun _ _ e => e
        have nTM := HTL.out.neT
        have hTg := (hfw.block _ (blk_lt hTf) nTM).trans hTf
        have hBM : w.heap.size ≠ M := by obtain ⟨es, c, hm⟩ := HTL.out.mp.isMap; have := blk_lt hm; omega
        have hBg := (hfw.block _ (blk_lt hBf) hBM).trans hBf
        have gT0 : wg.cell? ⟨T, 0, none⟩ = some (.slice pa pn pc) := heap_cellv hTg rfl
        have gB0 : wg.cell? ⟨w.heap.size, 0, none⟩ = some (.int .u64 (a : Int)) := heap_cellv hBg rfl
        have gB1 : wg.cell? ⟨w.heap.size, 1, none⟩ = some (.int .u64 (b : Int)) := heap_cellv hBg rfl
        have HOG := Hid.mk' (own_fr HTL.out.pr ((fr_grown HG1.out (fun k => k = M)).trans hfw fun _ _ e => e) (fun bb hb e => HTL.out.M_ne.1 (by rw [← (show bb = M from e)]; exact hb)))
        have hbz : base ≤ wg.heap.size := by have := HTL.out.tb; have := blk_lt hTg; omega
        clear hJ hg1 htu hgm hfw eT3 eB0 eB1
        go_wp2
        refine wp_region_clo mixed (by kernel_rfl) (by kernel_rfl) (by kernel_rfl) (JA wg (val49c T w.heap.size pn pa pc a b) (E49 a b) 8 12 (PA49 wg base (.slice pa pn pc) ps a b) (fun W => ∃ pv', TL W base T pv' rv uv hi M (addP ps (a, b)) rows ts ∧ Fr w W (fun k => k = T ∨ k = M ∨ (Value.slice pa pn pc).ownBlock = some k) ∧ Loc w (.slice pa pn pc) pv')) JA.start ⟨?_, ?_, ?_, ?_, ?_, ?_, ?_, ?_, ?_, ?_, ?_, ?_, ?_, trivial⟩ ?_
        · as_aux_lemma =>
            intro aA wx p vs hJ hdep hpi hcl hval hfr K hK
            rw [if_pos (show Region.wanted _ _ = true from rfl)]
            have zd0 : aA.tmps.getD 0 undef = .pointer (some ⟨T, 0, none⟩) := hfr 0 (by kernel_rfl)
            have hJ' := hJ.pure 0 (by decide) (by decide) rfl (fun _ _ => trivial)
            clear hval hfr hdep hJ hcl
            simp only [Array.getD_eq_getD_getElem?] at zd0
            go_simp
            exact hK _ _ hJ'
        · as_aux_lemma =>
            intro aA wx p vs hJ hdep hpi hcl hval hfr K hK
            rw [if_pos (show Region.wanted _ _ = true from rfl)]
            have zd0 : aA.tmps.getD 0 undef = .pointer (some ⟨T, 0, none⟩) := hfr 0 (by kernel_rfl)
            have hJ' := hJ.pure 1 (by decide) (by decide) rfl (fun _ _ => trivial)
            clear hval hfr hdep hJ hcl
            simp only [Array.getD_eq_getD_getElem?] at zd0
            go_simp
            exact hK _ _ hJ'
        · as_aux_lemma =>
            intro aA wx p vs hJ hdep hpi hcl hval hfr K hK
            rw [if_pos (show Region.wanted _ _ = true from rfl)]
            have zd0 : aA.tmps.getD 32 undef = .pointer (some ⟨T, 0, none⟩) := (hval 1 _ 32 (hdep 1 (by kernel_rfl)) (by rfl) rfl).trans (hJ.v 1 _ rfl (hdep 1 (by kernel_rfl)))
            have hJ' := hJ.pure 2 (by decide) (by decide) rfl (fun _ _ => trivial)
            clear hval hfr hdep hJ hcl
            simp only [Array.getD_eq_getD_getElem?] at zd0
            go_simp
            exact hK _ _ hJ'
        · as_aux_lemma =>
            intro aA wx p vs hJ hdep hpi hcl hval hfr K hK
            rw [if_pos (show Region.wanted _ _ = true from rfl)]
            have zd0 : aA.tmps.getD 33 undef = .pointer (some ⟨T, 0, none⟩) := (hval 2 _ 33 (hdep 2 (by kernel_rfl)) (by rfl) rfl).trans (hJ.v 2 _ rfl (hdep 2 (by kernel_rfl)))
            have hJ' := hJ.pure 3 (by decide) (by decide) rfl (fun _ _ => trivial)
            clear hval hfr hdep hJ hcl
            simp only [Array.getD_eq_getD_getElem?] at zd0
            go_simp
            exact hK _ _ hJ'
        · as_aux_lemma =>
            intro aA wx p vs hJ hdep hpi hcl hval hfr K hK
            rw [if_pos (show Region.wanted _ _ = true from rfl)]
            have zd0 : aA.tmps.getD 34 undef = .pointer (some ⟨T, 0, none⟩) := (hval 3 _ 34 (hdep 3 (by kernel_rfl)) (by rfl) rfl).trans (hJ.v 3 _ rfl (hdep 3 (by kernel_rfl)))
            have hJ' := hJ.pure 4 (by decide) (by decide) rfl (fun _ _ => trivial)
            clear hval hfr hdep hJ hcl
            simp only [Array.getD_eq_getD_getElem?] at zd0
            go_simp
            exact hK _ _ hJ'
        · as_aux_lemma =>
            intro aA wx p vs hJ hdep hpi hcl hval hfr K hK
            rw [if_pos (show Region.wanted _ _ = true from rfl)]
            have hnA : p 8 = false := by
              cases e : p 8 with
              | false => rfl
              | true =>
                have z0 := hcl 8 _ (by rfl) e 5 (by kernel_rfl)
                rw [hpi] at z0; cases z0
            have hnS : p 12 = false := by
              cases e : p 12 with
              | false => rfl
              | true =>
                have z0 := hcl 12 _ (by rfl) e 5 (by kernel_rfl)
                rw [hpi] at z0; cases z0
            have zd0 : aA.tmps.getD 35 undef = .pointer (some ⟨T, 0, none⟩) := (hval 4 _ 35 (hdep 4 (by kernel_rfl)) (by rfl) rfl).trans (hJ.v 4 _ rfl (hdep 4 (by kernel_rfl)))
            have hgx := hJ.g hnA hnS
            have cc := hgx.cellv gT0
            have hJ' := hJ.pure 5 (by decide) (by decide) rfl (fun _ _ => trivial)
            clear hval hfr hdep hJ hcl
            simp only [Array.getD_eq_getD_getElem?] at zd0
            go_simp
            exact hK _ _ hJ'
        · as_aux_lemma =>
            intro aA wx p vs hJ hdep hpi hcl hval hfr K hK
            rw [if_pos (show Region.wanted _ _ = true from rfl)]
            have hnA : p 8 = false := by
              cases e : p 8 with
              | false => rfl
              | true =>
                have z0 := hcl 8 _ (by rfl) e 7 (by kernel_rfl)
                have z1 := hcl 7 _ (by rfl) z0 6 (by kernel_rfl)
                rw [hpi] at z1; cases z1
            have hnS : p 12 = false := by
              cases e : p 12 with
              | false => rfl
              | true =>
                have z0 := hcl 12 _ (by rfl) e 6 (by kernel_rfl)
                rw [hpi] at z0; cases z0
            have zd0 : aA.tmps.getD 3 undef = .pointer (some ⟨w.heap.size, 0, none⟩) := hfr 3 (by kernel_rfl)
            have hgx := hJ.g hnA hnS
            have cc0 := hgx.cellv gB0
            have cc1 := hgx.cellv gB1
            have hJ' := hJ.pure 6 (by decide) (by decide) rfl (fun _ _ => trivial)
            clear hval hfr hdep hJ hcl
            simp only [Array.getD_eq_getD_getElem?] at zd0
            go_simp
            exact hK _ _ hJ'
        · as_aux_lemma =>
            intro aA wx p vs hJ hdep hpi hcl hval hfr K hK
            rw [if_pos (show Region.wanted _ _ = true from rfl)]
            have hnA : p 8 = false := by
              cases e : p 8 with
              | false => rfl
              | true =>
                have z0 := hcl 8 _ (by rfl) e 7 (by kernel_rfl)
                rw [hpi] at z0; cases z0
            have hnS : p 12 = false := by
              cases e : p 12 with
              | false => rfl
              | true =>
                have z0 := hcl 12 _ (by rfl) e 7 (by kernel_rfl)
                rw [hpi] at z0; cases z0
            have zd0 : aA.tmps.getD 37 undef = .agg #[.int .u64 (a : Int), .int .u64 (b : Int)] := (hval 6 _ 37 (hdep 6 (by kernel_rfl)) (by rfl) rfl).trans (hJ.v 6 _ rfl (hdep 6 (by kernel_rfl)))
            have HJ := Hid.mk' hJ
            clear hval hfr hdep hJ hcl
            simp only [Array.getD_eq_getD_getElem?] at zd0
            go_simp
            exact hK _ _ (HJ.out.grow E49s 7 (by decide) (by decide) hnA hnS (fun y hy => by cases hy) ((Grown.refl _).alloc _) ⟨_, rfl, heap_alloc_new _ _⟩)
        · as_aux_lemma =>
            intro aA wx p vs hJ hdep hpi hcl hval hfr K hK
            rw [if_pos (show Region.wanted _ _ = true from rfl)]
            have hnS : p 12 = false := by
              cases e : p 12 with
              | false => rfl
              | true =>
                have z0 := hcl 12 _ (by rfl) e 8 (by kernel_rfl)
                rw [hpi] at z0; cases z0
            obtain ⟨gg, hgg, hgh⟩ := hJ.e hpi hnS 7 (hdep 7 (by kernel_rfl))
            have hgx := hJ.g hpi hnS
            have zd0 : aA.tmps.getD 36 undef = .slice pa pn pc := (hval 5 _ 36 (hdep 5 (by kernel_rfl)) (by rfl) rfl).trans (hJ.v 5 _ rfl (hdep 5 (by kernel_rfl)))
            have zd1 : aA.tmps.getD 38 undef = .slice (some ⟨gg, 0, none⟩) 1 1 := (hval 7 _ 38 (hdep 7 (by kernel_rfl)) (by rfl) rfl).trans hgg
            obtain ⟨v', w', hru, h2, h3, h4⟩ := run_app (ty := 49) base info93 Tryd.underlying49 rfl (by decide) (own_fr HOG.out (fr_grown hgx fun _ => False) fun _ _ e => e) (m := 1) (c := 1) (news := [.int .u64 (a : Int), .int .u64 (b : Int)]) rfl hgh (fun u hu => by simp at hu; rcases hu with rfl | rfl <;> rfl) (by unfold maxLen; have := HPN.out; omega) (by have := HPN.out; omega) (by have := hgx.size; omega)
            have HPA : Hid (PA49 wg base (.slice pa pn pc) ps a b v' w') := ⟨wx, hgx, h2, h3, h4⟩
            clear h2 h3 h4 hgx hgh
            have HJ := Hid.mk' hJ
            clear hval hfr hdep hJ hcl
            exact op_append rfl zd0 zd1 hru (hK _ _ (HJ.out.atA (by decide) hnS rfl HPA.out))
        · as_aux_lemma =>
            intro aA wx p vs hJ hdep hpi hcl hval hfr K hK
            rw [if_pos (show Region.wanted _ _ = true from rfl)]
            have zd0 : aA.tmps.getD 31 undef = .pointer (some ⟨T, 0, none⟩) := (hval 0 _ 31 (hdep 0 (by kernel_rfl)) (by rfl) rfl).trans (hJ.v 0 _ rfl (hdep 0 (by kernel_rfl)))
            have hJ' := hJ.pure 9 (by decide) (by decide) rfl (fun _ _ => trivial)
            clear hval hfr hdep hJ hcl
            simp only [Array.getD_eq_getD_getElem?] at zd0
            go_simp
            exact hK _ _ hJ'
        · as_aux_lemma =>
            intro aA wx p vs hJ hdep hpi hcl hval hfr K hK
            rw [if_pos (show Region.wanted _ _ = true from rfl)]
            have zd0 : aA.tmps.getD 40 undef = .pointer (some ⟨T, 0, none⟩) := (hval 9 _ 40 (hdep 9 (by kernel_rfl)) (by rfl) rfl).trans (hJ.v 9 _ rfl (hdep 9 (by kernel_rfl)))
            have hJ' := hJ.pure 10 (by decide) (by decide) rfl (fun _ _ => trivial)
            clear hval hfr hdep hJ hcl
            simp only [Array.getD_eq_getD_getElem?] at zd0
            go_simp
            exact hK _ _ hJ'
        · as_aux_lemma =>
            intro aA wx p vs hJ hdep hpi hcl hval hfr K hK
            rw [if_pos (show Region.wanted _ _ = true from rfl)]
            have zd0 : aA.tmps.getD 41 undef = .pointer (some ⟨T, 0, none⟩) := (hval 10 _ 41 (hdep 10 (by kernel_rfl)) (by rfl) rfl).trans (hJ.v 10 _ rfl (hdep 10 (by kernel_rfl)))
            have hJ' := hJ.pure 11 (by decide) (by decide) rfl (fun _ _ => trivial)
            clear hval hfr hdep hJ hcl
            simp only [Array.getD_eq_getD_getElem?] at zd0
            go_simp
            exact hK _ _ hJ'
        · as_aux_lemma =>
            intro aA wx p vs hJ hdep hpi hcl hval hfr K hK
            rw [if_pos (show Region.wanted _ _ = true from rfl)]
            have hA8 : p 8 = true := hdep 8 (by kernel_rfl)
            have hpa := hJ.a hA8 hpi
            obtain ⟨w3, hg3, hown, hap, hloc⟩ := hpa
            obtain ⟨sa, sc, hvs⟩ := own_len hown
            have zd0 : aA.tmps.getD 42 undef = .pointer (some ⟨T, 0, none⟩) := (hval 11 _ 42 (hdep 11 (by kernel_rfl)) (by rfl) rfl).trans (hJ.v 11 _ rfl (hdep 11 (by kernel_rfl)))
            have zd1 : aA.tmps.getD 39 undef = .slice sa (ps.length + 1) sc := (hval 8 _ 39 (hdep 8 (by kernel_rfl)) (by rfl) rfl).trans hvs
            rw [hvs] at hown hloc
            obtain ⟨e4, htl, hfr4, hlc⟩ := HTL.out.add HP2.out hnm (HG1.out.trans HS4.out.1) HS4.out.2.1 (by have := HS4.out.2.2; rw [← HPN.out] at this; exact this) hg3 hap hown hloc
            have HFI := Hid.mk' (And.intro htl (And.intro hfr4 hlc))
            have cc : wx.cell? ⟨T, 0, none⟩ = some (.slice pa pn pc) := heap_cellv e4 rfl
            have cf : wx.frozen? ⟨T, 0, none⟩ = false := free_of e4
            clear htl hfr4 hlc hown hap hloc e4 hg3
            have HJ := Hid.mk' hJ
            clear hval hfr hdep hJ hcl
            simp only [Array.getD_eq_getD_getElem?] at zd0 zd1
            go_simp
            exact hK undef _ (HJ.out.atS rfl ⟨_, HFI.out⟩)
        · intro vs wh hJ
          have HS5 := Hid.mk' (hJ.s rfl)
          rw [putL_eq]
          simp only [putsL, List.set_cons_zero, List.set_cons_succ, Nat.zero_add, Nat.reduceAdd]
          have HR : Hid (Ending.returned (.int .u64 (pn : Int)) = .returned (.int .u64 ((ps.idxOf (a, b) : Nat) : Int))) := by show _ = _; rw [List.idxOf_eq_length hnm, HPN.out]
          clear hJ
          go_wp2
          go_ret
          obtain ⟨pv', h1, h2, h3⟩ := HS5.out
          exact ⟨HR.out, pv', h1, h2, h3⟩
end Go.Proofs
