/-
  Several texts in one (Gg B8 Q2).
-/
import Derived.RangeFuncNested
import Derived.RangeFuncBound
import Derived.RangeFuncCalls
import Derived.RangeFuncLeaves
import Derived.Shelf.Abstract
import Derived.Shelf.RegionOpen
import Derived.WalkKit
import Derived.WalkSpells
import Derived.WalkLawsBesides
import Derived.OwnWalkIn
import Derived.TacticsInMore
import Derived.LoopNIn
import Derived.LoopIn
import Derived.BigQuiet
import Derived.RegionIn
import Derived.Deep.QuietTactic
import Derived.Deep.RegionWith
import Derived.Lib.OthersKept
import Derived.Maps.AppendAt
import Derived.Lib.SmallJoins
import Derived.Shelf.SlSortCmp.QuietGrown
import Derived.RangeFuncWrites
import Derived.RangeFuncBox
import Derived.Maps.OwnIn
import Derived.Deep.DrawnRows
import Derived.Test.YtknaoahokopplaaGreatDoorGrc
import Derived.Deep.Upon
import Derived.Deep.AppendLies
import Derived.Deep.DeepCutAuto
import Derived.Test.YtknaoahokopplaaGreatDoorMgbc
import Derived.Test.YtknaoahokopplaaGreatDoorShc
namespace Go.Proofs
open Go.RowKit Go.Shelf

set_option maxRecDepth 100000
attribute [local go_sem] Oper.semAt_some
attribute [local go_sem ↓] Go.wp_at_zero Go.wp_at_succ
/-- one operation, whenever it comes up -/
def GStep (P : Program) (ops : Array Oper) (Q : Exit → Act → World → Prop) (I : Nat → Value → World → Prop) (a0 : Act) (w0 : World) (i : Nat) (o : Oper) : Prop :=
  ∀ (a : Act) (w : World), Ext w0 w → (∀ j, (o.after.any fun e => Region.binds .any e && e.on == j) = true → ∀ (oj : Oper) (d : Tmp), ops[j]? = some oj → oj.dst = some d → I j (a.tmps.getD d undef) w) → (∀ d, (ops.all fun p => !decide (p.dst = some d)) = true → a.tmps.getD d undef = a0.tmps.getD d undef) →
    ∀ K : Act → World → Prop, (∀ v w', Ext w w' → I i v w' → K (a.put o.dst v) w') → if Region.wanted o (yielded ops a.tmps) = true then Oper.wp P o a w K Q else K (a.put o.dst undef) w
def GSteps (P : Program) (ops : Array Oper) (Q : Exit → Act → World → Prop) (I : Nat → Value → World → Prop) (a0 : Act) (w0 : World) : List Oper → Nat → Prop
  | [], _ => True
  | o :: l, k => GStep P ops Q I a0 w0 k o ∧ GSteps P ops Q I a0 w0 l (k + 1)
theorem gsteps_at {P : Program} {ops : Array Oper} {Q : Exit → Act → World → Prop} {I : Nat → Value → World → Prop} {a0 : Act} {w0 : World} : ∀ (l : List Oper) (k : Nat), GSteps P ops Q I a0 w0 l k → ∀ (i : Nat) (o : Oper), l[i]? = some o → GStep P ops Q I a0 w0 (k + i) o
  | [], _, _, i, o, h => by simp at h
  | x :: l, k, hs, i, o, h => by
    cases i with
    | zero => simp at h; subst h; exact hs.1
    | succ i =>
      have := gsteps_at l (k + 1) hs.2 i o (by simpa using h)
      rwa [show k + 1 + i = k + (i + 1) by omega] at this
theorem wpAny_grows {P : Program} {ops : Array Oper} {Q : Exit → Act → World → Prop} {I : Nat → Value → World → Prop} {a0 : Act} {w0 : World} (hd : Once ops) (he : Early ops) (hsz : ∀ (i : Nat) (o : Oper) (d : Tmp), ops[i]? = some o → o.dst = some d → d < a0.tmps.size) (hI : ∀ i v w w', I i v w → Ext w w' → I i v w')
    (hst : ∀ (i : Nat) (o : Oper), ops[i]? = some o → GStep P ops Q I a0 w0 i o) (hfin : ∀ vs w, Ext w0 w → (∀ i, i < ops.size → I i (vs i) w) → Q .normal (putL vs ops.toList 0 a0) w) :
    ∀ (fuel : Nat) (listed : Array Bool) (w : World) (l m : List Nat) (vs : Nat → Value), m.length = fuel → (l ++ m).Perm (List.range ops.size) → (∀ i, i < ops.size → listed.getD i true = decide (i ∈ l)) → listed.size = ops.size → Ext w0 w → (∀ i ∈ l, I i (vs i) w) →
      wpAny P .any ops Q fuel listed (l.foldl (put1 ops vs) a0) w := by
  have fin : ∀ (l m : List Nat) (vs : Nat → Value) (w : World), m = [] → (l ++ m).Perm (List.range ops.size) → Ext w0 w → (∀ i ∈ l, I i (vs i) w) → Q .normal (l.foldl (put1 ops vs) a0) w := by
    intro l m vs w hm hp hw hl
    subst hm
    rw [List.append_nil] at hp
    rw [hp.foldl_eq' (fun x _ y _ z => put1_comm hd x y z)]
    have : List.range ops.size = List.range' 0 ops.toList.length := by rw [Array.length_toList, List.range_eq_range']
    rw [this, fold_range vs ops ops.toList 0 a0 (fun j => by simp)]
    exact hfin vs w hw (fun i hi => hl i (hp.mem_iff.2 (by simpa using hi)))
  have nodup : ∀ (l m : List Nat), (l ++ m).Perm (List.range ops.size) → (l ++ m).Nodup := fun l m hp => hp.nodup_iff.2 List.nodup_range
  have stuck : ∀ (l m : List Nat) (listed : Array Bool), (l ++ m).Perm (List.range ops.size) → (∀ i, i < ops.size → listed.getD i true = decide (i ∈ l)) → listed.size = ops.size → Region.ready .any ops listed = [] → m = [] := by
    intro l m listed hp hl hs hr
    have all : ∀ i, i < ops.size → i ∈ l := by
      intro i
      induction i using Nat.strongRecOn with
      | _ i ih =>
        intro hi
        refine Classical.byContradiction fun hn => ?_
        have hmem : i ∈ Region.ready .any ops listed := by
          rw [mem_ready]
          refine ⟨by rw [hl i hi]; simp [hn], ops[i], by simp [hi], fun e hme hb => ?_⟩
          have hlt := he i ops[i] (by simp [hi]) e hme hb
          have h1 := ih e.on hlt (by omega)
          have h2 := hl e.on (by omega)
          rw [decide_eq_true h1] at h2
          have h3 : e.on < listed.size := by omega
          simpa [h3] using h2
        rw [hr] at hmem
        cases hmem
    cases m with
    | nil => rfl
    | cons x m =>
      have hx : x < ops.size := by
        have : x ∈ List.range ops.size := hp.mem_iff.1 (by simp)
        simpa using this
      have h1 := all x hx
      have h2 := nodup l (x :: m) hp
      rw [List.nodup_append] at h2
      exact absurd rfl (h2.2.2 x h1 x (by simp))
  intro fuel
  induction fuel with
  | zero =>
    intro listed w l m vs hm hp hl hs hw hi
    have hm0 := List.eq_nil_of_length_eq_zero hm
    refine ⟨?_, fin l m vs w hm0 hp hw hi⟩
    rw [List.eq_nil_iff_forall_not_mem]
    intro j hj
    rw [mem_ready] at hj
    obtain ⟨h1, o, ho, _⟩ := hj
    have hlt := (Array.getElem?_eq_some_iff.1 ho).1
    rw [hl j hlt] at h1
    subst hm0
    rw [List.append_nil] at hp
    exact absurd (hp.mem_iff.2 (by simpa using hlt)) (of_decide_eq_false h1)
  | succ fuel ih =>
    intro listed w l m vs hm hp hl hs hw hi
    refine ⟨fun hr => fin l m vs w (stuck l m listed hp hl hs hr) hp hw hi, fun i hir => ?_⟩
    rw [mem_ready] at hir
    obtain ⟨h1, o, ho, hall⟩ := hir
    have hlt := (Array.getElem?_eq_some_iff.1 ho).1
    rw [hl i hlt] at h1
    have hil : i ∉ l := of_decide_eq_false h1
    have him : i ∈ m := by
      have : i ∈ l ++ m := hp.mem_iff.2 (by simpa using hlt)
      rw [List.mem_append] at this
      exact this.resolve_left hil
    refine wpOp_step ho (fun K hK => hst i o ho _ w hw ?_ ?_ K (fun v w' hww hv => hK _ _ ?_))
    · intro j hj oj d hoj hod
      have hjl : j ∈ l := by
        rw [Array.any_eq_true'] at hj
        obtain ⟨e, hme, h2⟩ := hj
        simp only [Bool.and_eq_true, beq_iff_eq] at h2
        obtain ⟨hb, rfl⟩ := h2
        have h3 := hall e hme hb
        have hjlt := (Array.getElem?_eq_some_iff.1 hoj).1
        have h4 := hl e.on hjlt
        have h5 : e.on < listed.size := by omega
        have h6 : listed.getD e.on true = true := by simpa [h5] using h3
        rw [h6] at h4
        exact of_decide_eq_true h4.symm
      rw [fold_get hd hjl hoj hod (hsz j oj d hoj hod)]
      exact hi j hjl
    · intro d hfree
      refine fold_other (fun k p hp2 h2 => ?_) a0
      rw [Array.all_eq_true_iff_forall_mem] at hfree
      have := hfree p (Array.mem_of_getElem? hp2)
      simp [h2] at this
    · let us : Nat → Value := fun j => if j = i then v else vs j
      have hus : ∀ j ∈ l, us j = vs j := fun j hj => by
        show (if j = i then v else vs j) = vs j
        rw [if_neg (fun e => hil (by rw [← e]; exact hj))]
      have hui : us i = v := by show (if i = i then v else vs i) = v; rw [if_pos rfl]
      have e1 : (l.foldl (put1 ops vs) a0).put o.dst v = (l ++ [i]).foldl (put1 ops us) a0 := by
        rw [List.foldl_append, fold_congr hus]
        show _ = put1 ops us _ i
        unfold put1
        rw [ho, hui]
      rw [e1]
      refine ih (listed.setIfInBounds i true) w' (l ++ [i]) (m.erase i) us (by rw [List.length_erase_of_mem him]; omega) ?_ ?_ (by simpa using hs) (hw.trans hww) ?_
      · rw [List.append_assoc]
        exact (List.Perm.append_left l (List.perm_cons_erase him).symm).trans hp
      · intro j hj
        by_cases hji : j = i
        · subst hji
          have h5 : j < listed.size := by omega
          simp [h5]
        · have h5 : j < listed.size := by omega
          have := hl j hj
          simp only [Array.getD_eq_getD_getElem?] at this ⊢
          rw [Array.getElem?_setIfInBounds_ne (fun e => hji e.symm), this]
          simp [hji]
      · intro j hj
        rw [List.mem_append] at hj
        rcases hj with hj | hj
        · rw [hus j hj]
          exact hI j _ _ _ (hi j hj) hww
        · obtain rfl : j = i := by simpa using hj
          rw [hui]
          exact hv
theorem wp_region_grows {P : Program} {id : Nat} {l : List Oper} {Q : Exit → Act → World → Prop} {a0 : Act} {w0 : World} (hm : P.follows .mixedOrders = true) (h1 : onceB l = true) (h2 : earlyB 0 l = true) (h3 : (l.all fun o => match o.dst with | none => true | some d => decide (d < a0.tmps.size)) = true)
    (I : Nat → Value → World → Prop) (hI : ∀ i v w w', I i v w → Ext w w' → I i v w') (hst : GSteps P l.toArray Q I a0 w0 l 0) (hfin : ∀ vs w, Ext w0 w → (∀ i, i < l.length → I i (vs i) w) → Q .normal (putL vs l 0 a0) w) : (Code.region id l.toArray true).wp P Q a0 w0 := by
  refine wp_region_any hm ?_
  have h := wpAny_grows (P := P) (ops := l.toArray) (Q := Q) (I := I) (a0 := a0) (w0 := w0) (once_of h1) (early_of h2) (fun i o d ho hod => by
      have := List.all_eq_true.1 h3 o (List.mem_of_getElem? (by simpa using ho))
      rw [hod] at this
      exact of_decide_eq_true this) hI (fun i o ho => by
      have := gsteps_at l 0 hst i o (by simpa using ho)
      rwa [Nat.zero_add] at this) (fun vs w hw hi => hfin vs w hw (fun i hl => hi i (by simpa using hl)))
      l.toArray.size (Array.replicate l.toArray.size false) { w0 with drawn := w0.drawn + 1 } [] (List.range l.toArray.size) (fun _ => undef) (by simp) (by simp) (fun i hi => by simp at hi; simp [hi]) (by simp) ⟨rfl, rfl, rfl, Nat.le_refl _, fun _ _ => rfl⟩ (by simp)
  exact h
/-- six cells that can be written one after the other -/
def Six (W : World) (g o : Nat) (x : Tok) : Prop :=
  (∃ y, W.cell? ⟨g, o, none⟩ = some y) ∧ W.frozen? ⟨g, o, none⟩ = false ∧
  (∃ y, (W.setCell ⟨g, o, none⟩ (.int .i64 x.k)).cell? ⟨g, o + 1, none⟩ = some y) ∧ (W.setCell ⟨g, o, none⟩ (.int .i64 x.k)).frozen? ⟨g, o + 1, none⟩ = false ∧
  (∃ y, ((W.setCell ⟨g, o, none⟩ (.int .i64 x.k)).setCell ⟨g, o + 1, none⟩ (.int .i64 x.a)).cell? ⟨g, o + 2, none⟩ = some y) ∧ ((W.setCell ⟨g, o, none⟩ (.int .i64 x.k)).setCell ⟨g, o + 1, none⟩ (.int .i64 x.a)).frozen? ⟨g, o + 2, none⟩ = false ∧
  (∃ y, (((W.setCell ⟨g, o, none⟩ (.int .i64 x.k)).setCell ⟨g, o + 1, none⟩ (.int .i64 x.a)).setCell ⟨g, o + 2, none⟩ (.int .i64 x.l)).cell? ⟨g, o + 3, none⟩ = some y) ∧ (((W.setCell ⟨g, o, none⟩ (.int .i64 x.k)).setCell ⟨g, o + 1, none⟩ (.int .i64 x.a)).setCell ⟨g, o + 2, none⟩ (.int .i64 x.l)).frozen? ⟨g, o + 3, none⟩ = false ∧
  (∃ y, ((((W.setCell ⟨g, o, none⟩ (.int .i64 x.k)).setCell ⟨g, o + 1, none⟩ (.int .i64 x.a)).setCell ⟨g, o + 2, none⟩ (.int .i64 x.l)).setCell ⟨g, o + 3, none⟩ (.int .i64 x.u)).cell? ⟨g, o + 4, none⟩ = some y) ∧ ((((W.setCell ⟨g, o, none⟩ (.int .i64 x.k)).setCell ⟨g, o + 1, none⟩ (.int .i64 x.a)).setCell ⟨g, o + 2, none⟩ (.int .i64 x.l)).setCell ⟨g, o + 3, none⟩ (.int .i64 x.u)).frozen? ⟨g, o + 4, none⟩ = false ∧
  (∃ y, (((((W.setCell ⟨g, o, none⟩ (.int .i64 x.k)).setCell ⟨g, o + 1, none⟩ (.int .i64 x.a)).setCell ⟨g, o + 2, none⟩ (.int .i64 x.l)).setCell ⟨g, o + 3, none⟩ (.int .i64 x.u)).setCell ⟨g, o + 4, none⟩ (.string x.t)).cell? ⟨g, o + 5, none⟩ = some y) ∧ (((((W.setCell ⟨g, o, none⟩ (.int .i64 x.k)).setCell ⟨g, o + 1, none⟩ (.int .i64 x.a)).setCell ⟨g, o + 2, none⟩ (.int .i64 x.l)).setCell ⟨g, o + 3, none⟩ (.int .i64 x.u)).setCell ⟨g, o + 4, none⟩ (.string x.t)).frozen? ⟨g, o + 5, none⟩ = false
theorem blk_cellB {W : World} {g k : Nat} {cur : Array Value} {t : TypeId} (h : W.heap[g]? = some (.cells cur t (0, 0))) (hk : k < cur.size) : (∃ y, W.cell? ⟨g, k, none⟩ = some y) ∧ W.frozen? ⟨g, k, none⟩ = false := by
  refine ⟨⟨cur[k], ?_⟩, by simp [World.frozen?, h]⟩
  simp only [World.cell?, h, Array.getElem?_eq_getElem hk]
  rfl
theorem set_blkB {W : World} {g j : Nat} {cur : Array Value} {t : TypeId} {u : Value} (h : W.heap[g]? = some (.cells cur t (0, 0))) : ∃ cur', (W.setCell ⟨g, j, none⟩ u).heap[g]? = some (.cells cur' t (0, 0)) ∧ cur'.size = cur.size := ⟨_, cells_setS h, by simp⟩
theorem six_of {W : World} {g o : Nat} {cur : Array Value} {t : TypeId} (h : W.heap[g]? = some (.cells cur t (0, 0))) (hk : o + 5 < cur.size) (x : Tok) : Six W g o x := by
  obtain ⟨c1, h1, s1⟩ := set_blkB (j := o) (u := .int .i64 x.k) h
  obtain ⟨c2, h2, s2⟩ := set_blkB (j := o + 1) (u := .int .i64 x.a) h1
  obtain ⟨c3, h3, s3⟩ := set_blkB (j := o + 2) (u := .int .i64 x.l) h2
  obtain ⟨c4, h4, s4⟩ := set_blkB (j := o + 3) (u := .int .i64 x.u) h3
  obtain ⟨c5, h5, s5⟩ := set_blkB (j := o + 4) (u := .string x.t) h4
  obtain ⟨x0, y0⟩ := blk_cellB h (k := o) (by omega)
  obtain ⟨x1, y1⟩ := blk_cellB h1 (k := o + 1) (by omega)
  obtain ⟨x2, y2⟩ := blk_cellB h2 (k := o + 2) (by omega)
  obtain ⟨x3, y3⟩ := blk_cellB h3 (k := o + 3) (by omega)
  obtain ⟨x4, y4⟩ := blk_cellB h4 (k := o + 4) (by omega)
  obtain ⟨x5, y5⟩ := blk_cellB h5 (k := o + 5) (by omega)
  exact ⟨x0, y0, x1, y1, x2, y2, x3, y3, x4, y4, x5, y5⟩
theorem own_cur {W : World} {base g n c : Nat} {l : List Tok} (h : OwnT W base (.slice (some ⟨g, 0, none⟩) n c) l) : ∃ cur, W.heap[g]? = some (.cells cur 52 (0, 0)) ∧ l.length * 6 ≤ cur.size := by
  rcases h.2 with ⟨e, _⟩ | ⟨g', cap, cur, e, k1, k2, k3, k4, k5, k6⟩
  · cases e
  · injection e with e1 e2 e3
    injection e1 with e1
    injection e1 with e1
    subst e1
    exact ⟨cur, k2, by rw [k5]; exact Nat.mul_le_mul_right _ k3⟩
theorem six {W : World} {base g n c : Nat} {l : List Tok} (h : OwnT W base (.slice (some ⟨g, 0, none⟩) n c) l) {k : Nat} (hk : k < l.length) (x : Tok) : Six W g (k * 6) x := by
  obtain ⟨cur, h1, h2⟩ := own_cur h
  exact six_of h1 (by omega) x
theorem second4 {base hb : Nat} {ov wv : Value} {es : List BE} {f u n : Nat} {W : World} (h : Bok W base hb ov wv es f u n) {i k : Nat} {e : BE} (he : es[i]? = some e) (x : Tok) {go no co gw nw cw : Nat} (ho : e.o = .slice (some ⟨go, 0, none⟩) no co) (hw : e.w = .slice (some ⟨gw, 0, none⟩) nw cw) (hk : k < e.l.length) (z : Tok) :
    (set4 W go (k * 6) x).cell? ⟨hb, 1, none⟩ = some wv ∧ (∀ (g1 : Nat), wv.ownBlock = some g1 → ∀ j, (set4 W go (k * 6) x).cell? ⟨g1, j, none⟩ = W.cell? ⟨g1, j, none⟩) ∧ Six (set4 W go (k * 6) x) gw (k * 6) z := by
  have hm := List.mem_of_getElem? he
  obtain ⟨h1, h2, _, _⟩ := second h he x ho hw hk
  refine ⟨h1, h2, ?_⟩
  have hr := h.rw e hm
  rw [hw] at hr
  obtain ⟨cur, k1, k2⟩ := own_cur hr
  have hne : gw ≠ go := fun e1 => (h.aw i i e e gw he he (by rw [hw]; rfl)).2 (by rw [ho, e1]; rfl)
  exact six_of (cur := cur) (t := 52) ((set4_other W go _ x gw hne).trans k1) (by omega) z
theorem kat_new (w : World) (b : Tok) (t : TypeId) : KAt (w.alloc (.cells #[.int .i64 b.k, .int .i64 b.a, .int .i64 b.l, .int .i64 b.u, .string b.t, .int .i64 b.n] t)) w.heap.size 0 b := by
  have := heap_new w (.cells #[.int .i64 b.k, .int .i64 b.a, .int .i64 b.l, .int .i64 b.u, .string b.t, .int .i64 b.n] t)
  refine ⟨?_, ?_, ?_, ?_, ?_, ?_⟩ <;> (simp only [World.cell?]; rw [this]; rfl)

theorem kat_grow (w : World) (i : Int) (t : TypeId) : KAt (w.alloc (.cells #[.int .i64 (-4), .int .i64 i, .int .i64 0, .int .i64 0, .string ⟨#[]⟩, .int .i64 0] t)) w.heap.size 0 ⟨-4, i, 0, 0, ⟨#[]⟩, 0⟩ := kat_new w ⟨-4, i, 0, 0, ⟨#[]⟩, 0⟩ t
theorem cell_below {W W' : World} {n g o : Nat} {v : Value} (h : W.cell? ⟨g, o, none⟩ = some v) (hb : Below n W W') (hn : W.heap.size ≤ n) : W'.cell? ⟨g, o, none⟩ = some v := by
  obtain ⟨ob, ho, _⟩ := cells_of_cell h
  exact (hb.cell (p := ⟨g, o, none⟩) (Nat.lt_of_lt_of_le (Array.getElem?_eq_some_iff.1 ho).1 hn)).trans h
set_option maxHeartbeats 8000000 in
theorem writeB_any (base hb : Nat) (ov wv : Value) (es : List BE) (f N : Nat) (w : World) (h : Bok w base hb ov wv es f f es.length) (hes : es.length ≤ 40) (hN : N ≤ 800000) (hsm : ∀ e ∈ es, e.l.length ≤ N) :
    Calls Tryz.prog 11 #[.pointer (some ⟨hb, 0, none⟩)] w fun e w' => e = .returned (.bool true) ∧ ∃ ov' wv' es', Bok w' base hb ov' wv' es' es'.length es'.length es'.length ∧ es'.length ≤ 2 * es.length ∧ (∀ e ∈ es', e.l.length ≤ N + 40) ∧ Below base w w' := by
  obtain ⟨n, hnn⟩ : ∃ n, es.length = n := ⟨_, rfl⟩
  have HN : Hid (es.length = n) := hnn
  obtain ⟨oa, oc, rfl⟩ := row_nil h.out
  obtain ⟨wa, wc, rfl⟩ := row_nil h.want
  have HH : Hid (∀ W ov wv es f u t, Bok W base hb ov wv es f u t → Calls Tryz.prog 27 #[.pointer (some ⟨hb, 0, none⟩)] W fun e w' => e = .returned (.bool true) ∧ Grown W w') := fun W ov wv es f u t k => holds_any base hb ov wv es f u t W k
  have HB : Hid (Bok w base hb (.slice oa n oc) (.slice wa n wc) es f f n) := by rw [hnn] at h; exact h
  have HSM : Hid (∀ e ∈ es, e.l.length ≤ N) := hsm
  have HF : Hid (f ≤ n) := by have := h.fr; rw [hnn] at this; exact this
  have hnI : (n : Int) ≤ 40 := by omega
  have hfI : (f : Int) ≤ (n : Int) := by have := HF.out; omega
  clear h hsm hnn
  go_enter Tryz.func11, Tryz.ntmps11
  go_wp2_with fail
  refine (HH.out w _ _ _ _ _ _ HB.out).mono ?_
  rintro e w3 ⟨rfl, hg3⟩
  have HB3 : Hid (W1 w base hb (.slice oa n oc) (.slice wa n wc) es f n w3) := W1.grown ⟨⟨es, HB.out, Alike.refl _⟩, Below.refl _ _⟩ hg3
  have c0 : w3.cell? ⟨hb, 0, none⟩ = some (.slice oa n oc) := (HB.out.grown hg3).cell.1
  have c2 : w3.cell? ⟨hb, 2, none⟩ = some (.int .i64 f) := (HB.out.grown hg3).cell.2.2
  clear hg3
  go_wp2
  go_quiet (fail)
  go_wp2
  go_loopw [6] (fun vi wr => ∃ i : Nat, vi = .int .i64 i ∧ f ≤ i ∧ i ≤ n ∧ Hid (W1 w base hb (.slice oa n oc) (.slice wa n wc) es f n wr)) (fun vi _ => n - (intOf vi).toNat)
  case atStart => exact ⟨f, rfl, Nat.le_refl _, HF.out, HB3.out.grown ((Grown.refl _).drewN _)⟩
  case round =>
    obtain ⟨i, rfl, hfi, hin, HW⟩ := hrel
    clear c0 c2 HB3
    have hpos : (0 : Int) ≤ (i : Int) := by omega
    have hiI : (i : Int) ≤ 40 := by omega
    by_cases hlt : i < n
    · as_aux_lemma =>
        have hlt' : (i : Int) < (n : Int) := by omega
        obtain ⟨es', hB', hA'⟩ := HW.out.bk
        have hlen : es'.length = n := hA'.len.trans HN.out
        have hn0 : es'.length ≠ 0 := by omega
        obtain ⟨g0, rfl, _, hoc, hoe⟩ := row_same hB'.out hn0
        obtain ⟨g1, rfl, _, hwc, hwe⟩ := row_same hB'.want hn0
        rw [hlen] at hoc hwc
        have hil : i < es'.length := by omega
        obtain ⟨ei, hei⟩ : ∃ e, es'[i]? = some e := ⟨es'[i], by simp [hil]⟩
        have hmi := List.mem_of_getElem? hei
        obtain ⟨ea, ec, heo⟩ := row_nilK (hB'.ro ei hmi)
        obtain ⟨fa, fc, hew⟩ := row_nilK (hB'.rw ei hmi)
        have c0 := hB'.cell.1
        have ci : wr.cell? ⟨g0, i, none⟩ = some ei.o := hoe i _ (by simp [hei])
        rw [heo] at ci
        have hLs := hB'.sm ei hmi
        have HBel : Hid (Below base w wr) := HW.out.bel
        have HB2 : Hid (W1 w base hb (.slice (some ⟨g0, 0, none⟩) n oc) (.slice (some ⟨g1, 0, none⟩) n wc) es' f n wr) := ⟨⟨es', hB', Alike.refl _⟩, HW.out.bel⟩
        have HA : Hid (Alike es es') := hA'
        have HFI : Hid (f ≤ i ∧ i < n) := ⟨hfi, hlt⟩
        obtain ⟨L, hL⟩ : ∃ L, ei.l.length = L := ⟨_, rfl⟩
        rw [hL] at hLs ci heo hew
        have HL : Hid (ei.l.length = L ∧ ei.o = .slice ea L ec ∧ ei.w = .slice fa L fc ∧ es'[i]? = some ei) := ⟨hL, heo, hew, hei⟩
        have hLI : (L : Int) ≤ 2000000 := by omega
        clear hB' hA' hlen hn0 hoe hwe hil hei hmi heo hew hL HW
        go_wp2
        go_loopw [36] (fun vk wr2 => ∃ k : Nat, vk = .int .i64 k ∧ k ≤ L ∧ Hid (W1 w base hb (.slice (some ⟨g0, 0, none⟩) n oc) (.slice (some ⟨g1, 0, none⟩) n wc) es' f n wr2)) (fun vk _ => L - (intOf vk).toNat)
        case atStart => exact ⟨0, rfl, Nat.zero_le _, HB2⟩
        case round =>
          obtain ⟨k, rfl, hk, HW⟩ := hrel
          clear c0 ci HB2 HBel
          have hkp : (0 : Int) ≤ (k : Int) := by omega
          by_cases hkl : k < L
          · as_aux_lemma =>
              have hkl' : (k : Int) < (L : Int) := by omega
              obtain ⟨es2, hB2, hA2⟩ := HW.out.bk
              obtain ⟨hL, heo, hew, hei⟩ := HL.out
              obtain ⟨e2, he2, eo, ew, el⟩ := hA2.at hei
              have hm2 := List.mem_of_getElem? he2
              have hL2 : e2.l.length = L := el.trans hL
              have h1 := hB2.ro e2 hm2
              rw [eo, heo] at h1
              have h2 := hB2.rw e2 hm2
              rw [ew, hew] at h2
              obtain ⟨ga, rfl, _, hca⟩ := row_sameK h1 (by omega)
              obtain ⟨gw, rfl, _, hcw⟩ := row_sameK h2 (by omega)
              rw [hL2] at hca hcw
              have q0 := six h1 (k := k) (by omega) (⟨-3, (i : Int), 0, 0, ⟨#[]⟩, 0⟩ : Tok)
              have c0 := hB2.cell.1
              have ho2 : es2.length ≠ 0 := by have := (List.getElem?_eq_some_iff.1 he2).1; omega
              have ci : wr.cell? ⟨g0, i, none⟩ = some (.slice (some ⟨ga, 0, none⟩) L ec) := by
                obtain ⟨g, e, _, _, hoe⟩ := row_same hB2.out ho2
                injection e with e
                injection e with e
                subst e
                rw [hoe i e2.o (by simp [he2]), eo, heo]
              have di : wr.cell? ⟨g1, i, none⟩ = some (.slice (some ⟨gw, 0, none⟩) L fc) := by
                obtain ⟨g, e, _, _, hoe⟩ := row_same hB2.want ho2
                injection e with e
                injection e with e
                subst e
                rw [hoe i e2.w (by simp [he2]), ew, hew]
              have HSec : Hid ((set4 wr ga (k * 6) (⟨-3, (i : Int), 0, 0, ⟨#[]⟩, 0⟩ : Tok)).cell? ⟨hb, 1, none⟩ = some (.slice (some ⟨g1, 0, none⟩) n wc) ∧ (set4 wr ga (k * 6) (⟨-3, (i : Int), 0, 0, ⟨#[]⟩, 0⟩ : Tok)).cell? ⟨g1, i, none⟩ = some (.slice (some ⟨gw, 0, none⟩) L fc) ∧ Six (set4 wr ga (k * 6) (⟨-3, (i : Int), 0, 0, ⟨#[]⟩, 0⟩ : Tok)) gw (k * 6) (⟨-3, (i : Int), 0, 0, ⟨#[]⟩, 0⟩ : Tok)) := by
                obtain ⟨a1, a2, a3⟩ := second4 hB2 he2 (k := k) (⟨-3, (i : Int), 0, 0, ⟨#[]⟩, 0⟩ : Tok) (eo.trans heo) (ew.trans hew) (by omega) (⟨-3, (i : Int), 0, 0, ⟨#[]⟩, 0⟩ : Tok)
                exact ⟨a1, (a2 g1 rfl i).trans di, a3⟩
              have HMk : Hid (W1 w base hb (.slice (some ⟨g0, 0, none⟩) n oc) (.slice (some ⟨g1, 0, none⟩) n wc) es' f n (set4 (set4 wr ga (k * 6) (⟨-3, (i : Int), 0, 0, ⟨#[]⟩, 0⟩ : Tok)) gw (k * 6) (⟨-3, (i : Int), 0, 0, ⟨#[]⟩, 0⟩ : Tok))) := W1.mark hB2 hA2 HW.out.bel he2 HFI.out.1 HFI.out.2 _ (eo.trans heo) (ew.trans hew)
              obtain ⟨⟨y0, u0⟩, v0, ⟨y1, u1⟩, v1, ⟨y2, u2⟩, v2, ⟨y3, u3⟩, v3, ⟨y4, u4⟩, v4, ⟨y5, u5⟩, v5⟩ := q0
              simp only at u1 v1 u2 v2 u3 v3 u4 v4 u5 v5
              clear hB2 hA2 hL heo hew hei he2 eo ew el hm2 hL2 h1 h2 ho2 di HW HL HA
              go_upto_region 10 with fail
              obtain ⟨w5, hw5⟩ : ∃ w5, w5 = set4 wr ga (k * 6) (⟨-3, (i : Int), 0, 0, ⟨#[]⟩, 0⟩ : Tok) := ⟨_, rfl⟩
              have hw5' : w5 = (((((wr.setCell ⟨ga, k * 6, none⟩ (.int .i64 (-3))).setCell ⟨ga, k * 6 + 1, none⟩ (.int .i64 (i : Int))).setCell ⟨ga, k * 6 + 2, none⟩ (.int .i64 0)).setCell ⟨ga, k * 6 + 3, none⟩ (.int .i64 0)).setCell ⟨ga, k * 6 + 4, none⟩ (.string ⟨#[]⟩)).setCell ⟨ga, k * 6 + 5, none⟩ (.int .i64 0) := hw5
              rw [← hw5] at HSec HMk
              rw [← hw5']
              clear hw5 hw5' u0 v0 u1 v1 u2 v2 u3 v3 u4 v4 u5 v5 y0 y1 y2 y3 y4 y5 c0 ci
              obtain ⟨d1, d2, ⟨z0, u0⟩, v0, ⟨z1, u1⟩, v1, ⟨z2, u2⟩, v2, ⟨z3, u3⟩, v3, ⟨z4, u4⟩, v4, ⟨z5, u5⟩, v5⟩ := HSec.out
              simp only at u1 v1 u2 v2 u3 v3 u4 v4 u5 v5
              clear HSec
              go_wp2
              exact ⟨⟨k + 1, by go_num, by omega, HMk⟩, by simp [intOf]; omega⟩
          · as_aux_lemma =>
              have hge : ¬ (k : Int) < (L : Int) := by omega
              have HX : Hid (W1 w base hb (.slice (some ⟨g0, 0, none⟩) n oc) (.slice (some ⟨g1, 0, none⟩) n wc) es f n wr) := by
                obtain ⟨es2, h1, h2⟩ := HW.out.bk
                exact ⟨⟨es2, h1, HA.out.trans h2⟩, HW.out.bel⟩
              clear HW HL HA
              go_wp2
              exact ⟨⟨i + 1, by go_num, by omega, by omega, HX⟩, by simp [intOf]; omega⟩
    · obtain rfl : i = n := by omega
      have HX : Hid (W2 w base hb f i N f wr) := HW.out.w2 HN.out HSM.out
      have hge : ¬ (i : Int) < (i : Int) := by omega
      clear HW HSM hfi hin hpos hlt HB
      obtain ⟨n, hnn⟩ : ∃ n, n = i := ⟨_, rfl⟩
      go_wp2
      subst hnn
      go_loopw [8] (fun vi wr => ∃ i : Nat, vi = .int .i64 i ∧ f ≤ i ∧ i ≤ n ∧ Hid (W2 w base hb f n N i wr)) (fun vi _ => n - (intOf vi).toNat)
      case atStart => exact ⟨f, rfl, Nat.le_refl _, HF.out, HX⟩
      case round =>
        obtain ⟨i, rfl, hfi, hin, HW⟩ := hrel
        clear HX hge
        have hpos : (0 : Int) ≤ (i : Int) := by omega
        have hiJ : (i : Int) ≤ 40 := by omega
        by_cases hlt : i < n
        · have hlt' : (i : Int) < (n : Int) := by omega
          obtain ⟨ov2, wv2, es2, hB2, hl2, hs2, ht2, hb2⟩ := HW.out
          have hil : i < es2.length := by omega
          have hm0 : es2.length ≠ 0 := by omega
          obtain ⟨ei, hei⟩ : ∃ e, es2[i]? = some e := ⟨es2[i], by simp [hil]⟩
          have hmi := List.mem_of_getElem? hei
          obtain ⟨oa2, oc2, rfl⟩ := row_nil hB2.out
          obtain ⟨wa2, wc2, rfl⟩ := row_nil hB2.want
          obtain ⟨g0, rfl, _, hoc, hoe⟩ := row_same hB2.out hm0
          obtain ⟨g1, rfl, _, hwc, hwe⟩ := row_same hB2.want hm0
          obtain ⟨ea, ec, heo⟩ := row_nilK (hB2.ro ei hmi)
          obtain ⟨fa, fc, hew⟩ := row_nilK (hB2.rw ei hmi)
          have hLN := hs2 i ei hlt hei
          have ci : wr.cell? ⟨g0, i, none⟩ = some ei.o := hoe i _ (by simp [hei])
          have di : wr.cell? ⟨g1, i, none⟩ = some ei.w := hwe i _ (by simp [hei])
          have hiw := (hB2.rw ei hmi).kr
          have hoo := hB2.ro ei hmi
          rw [heo] at ci hoo
          rw [hew] at di hiw
          obtain ⟨L, hL⟩ : ∃ L, ei.l.length = L := ⟨_, rfl⟩
          obtain ⟨m, hm⟩ : ∃ m, es2.length = m := ⟨_, rfl⟩
          have c0 := hB2.cell.1
          have c1 := hB2.cell.2.1
          rw [hL] at ci di hoo hiw hLN
          rw [hm] at c0 c1 hB2 hoc hwc
          have HM : Hid (es2.length = m ∧ m = n + (i - f) ∧ ei.l.length = L ∧ L ≤ N) := ⟨hm, by omega, hL, hLN⟩
          have him : (i : Int) < (m : Int) := by omega
          have hmI : (m : Int) ≤ 80 := by have := HN.out; omega
          have hmN : m ≤ 2000000 := by omega
          have HR15 : Hid (wr.cell? ⟨hb, 0, none⟩ = some (.slice (some ⟨g0, 0, none⟩) m oc2) ∧ wr.cell? ⟨g0, i, none⟩ = some (.slice ea L ec) ∧ wr.cell? ⟨hb, 1, none⟩ = some (.slice (some ⟨g1, 0, none⟩) m wc2) ∧ wr.cell? ⟨g1, i, none⟩ = some (.slice fa L fc) ∧ RT wr (.slice fa L fc) ei.l ∧ ei.l.length ≤ N) := ⟨c0, ci, c1, di, hiw, by omega⟩
          have HB2 : Hid (Bok wr base hb (.slice (some ⟨g0, 0, none⟩) m oc2) (.slice (some ⟨g1, 0, none⟩) m wc2) es2 f i n ∧ (es2[i]? = some ei ∧ ei.o = .slice ea L ec) ∧ OwnT wr base (.slice ea L ec) ei.l ∧ (∀ (j : Nat) (e : BE), j < n → es2[j]? = some e → e.l.length ≤ N) ∧ (∀ e ∈ es2, e.l.length ≤ N + 40) ∧ Below base w wr) := ⟨hB2, ⟨hei, by rw [heo, hL]⟩, hoo, hs2, ht2, hb2⟩
          clear hB2 hl2 hs2 ht2 hb2 hil hm0 hei hmi hoe hwe heo hew hLN ci di hiw hoo c0 c1 hL hm HW
          go_upto_region 15 with fail
          rename_i Kx hKx
          refine wp_region_grows (by kernel_rfl) (by kernel_rfl) (by kernel_rfl) (by kernel_rfl) (I15 wr hb g0 g1 i (.slice (some ⟨g0, 0, none⟩) m oc2) (.slice (some ⟨g1, 0, none⟩) m wc2) (.slice ea L ec) (.slice fa L fc) ei.l) (fun j v a b h he => I15.ext j v a b h he) ⟨?_, ?_, ?_, ?_, ?_, ?_, ?_, ?_, ?_, ?_, ?_, ?_, ?_, ?_, ?_, ?_, ?_, trivial⟩ ?_
          · as_aux_lemma =>
              intro a wx hE hval hfr K hK
              have d : a.tmps.getD 0 undef = (.pointer (some ⟨hb, 0, none⟩)) := hfr 0 (by kernel_rfl)
              exact step_value (v := (.pointer (some ⟨hb, 0, none⟩))) (w' := wx) rfl (fun _ _ h => by cases h) (rho [(0, (.pointer (some ⟨hb, 0, none⟩)))]) (rho_of (by intro q hm; simp only [List.mem_cons, List.not_mem_nil, or_false] at hm; rcases hm with rfl; exact d) (by kernel_rfl)) (by kernel_rfl) (hK _ _ (Below.refl _ _) rfl)
          · as_aux_lemma =>
              intro a wx hE hval hfr K hK
              have d0 : a.tmps.getD 68 undef = .pointer (some ⟨hb, 0, none⟩) := hval 0 (by kernel_rfl) _ 68 (by rfl) rfl
              have hKK := fun v h => hK v wx (Below.refl _ _) h
              clear hval hfr hE hK HR15
              simp only [Array.getD_eq_getD_getElem?] at d0
              go_simp
              exact hKK _ rfl
          · as_aux_lemma =>
              intro a wx hE hval hfr K hK
              have d0 : a.tmps.getD 69 undef = .pointer (some ⟨hb, 0, none⟩) := hval 1 (by kernel_rfl) _ 69 (by rfl) rfl
              have hKK := fun v h => hK v wx (Below.refl _ _) h
              clear hval hfr hE hK HR15
              simp only [Array.getD_eq_getD_getElem?] at d0
              go_simp
              exact hKK _ rfl
          · as_aux_lemma =>
              intro a wx hE hval hfr K hK
              have d0 : a.tmps.getD 70 undef = .pointer (some ⟨hb, 0, none⟩) := hval 2 (by kernel_rfl) _ 70 (by rfl) rfl
              have hc : wx.cell? ⟨hb, 0, none⟩ = some (.slice (some ⟨g0, 0, none⟩) m oc2) := cell_below HR15.out.1 hE (Nat.le_refl _)
              have hKK := fun v h => hK v wx (Below.refl _ _) h
              clear hval hfr hE hK HR15
              simp only [Array.getD_eq_getD_getElem?] at d0
              go_simp
              exact hKK _ rfl
          · as_aux_lemma =>
              intro a wx hE hval hfr K hK
              have d : a.tmps.getD 8 undef = (.int .i64 (i : Int)) := hfr 8 (by kernel_rfl)
              exact step_value (v := (.int .i64 (i : Int))) (w' := wx) rfl (fun _ _ h => by cases h) (rho [(8, (.int .i64 (i : Int)))]) (rho_of (by intro q hm; simp only [List.mem_cons, List.not_mem_nil, or_false] at hm; rcases hm with rfl; exact d) (by kernel_rfl)) (by kernel_rfl) (hK _ _ (Below.refl _ _) rfl)
          · as_aux_lemma =>
              intro a wx hE hval hfr K hK
              have d0 : a.tmps.getD 71 undef = .slice (some ⟨g0, 0, none⟩) m oc2 := hval 3 (by kernel_rfl) _ 71 (by rfl) rfl
              have d1 : a.tmps.getD 72 undef = .int .i64 (i : Int) := hval 4 (by kernel_rfl) _ 72 (by rfl) rfl
              have hKK := fun v h => hK v wx (Below.refl _ _) h
              clear hval hfr hE hK HR15
              simp only [Array.getD_eq_getD_getElem?] at d0
              simp only [Array.getD_eq_getD_getElem?] at d1
              go_simp
              exact hKK _ rfl
          · as_aux_lemma =>
              intro a wx hE hval hfr K hK
              have d0 : a.tmps.getD 73 undef = .pointer (some ⟨g0, i, none⟩) := hval 5 (by kernel_rfl) _ 73 (by rfl) rfl
              have hc : wx.cell? ⟨g0, i, none⟩ = some (.slice ea L ec) := cell_below HR15.out.2.1 hE (Nat.le_refl _)
              have hKK := fun v h => hK v wx (Below.refl _ _) h
              clear hval hfr hE hK HR15
              simp only [Array.getD_eq_getD_getElem?] at d0
              go_simp
              exact hKK _ rfl
          · as_aux_lemma =>
              intro a wx hE hval hfr K hK
              have d : a.tmps.getD 0 undef = (.pointer (some ⟨hb, 0, none⟩)) := hfr 0 (by kernel_rfl)
              exact step_value (v := (.pointer (some ⟨hb, 0, none⟩))) (w' := wx) rfl (fun _ _ h => by cases h) (rho [(0, (.pointer (some ⟨hb, 0, none⟩)))]) (rho_of (by intro q hm; simp only [List.mem_cons, List.not_mem_nil, or_false] at hm; rcases hm with rfl; exact d) (by kernel_rfl)) (by kernel_rfl) (hK _ _ (Below.refl _ _) rfl)
          · as_aux_lemma =>
              intro a wx hE hval hfr K hK
              have d0 : a.tmps.getD 75 undef = .pointer (some ⟨hb, 0, none⟩) := hval 7 (by kernel_rfl) _ 75 (by rfl) rfl
              have hKK := fun v h => hK v wx (Below.refl _ _) h
              clear hval hfr hE hK HR15
              simp only [Array.getD_eq_getD_getElem?] at d0
              go_simp
              exact hKK _ rfl
          · as_aux_lemma =>
              intro a wx hE hval hfr K hK
              have d0 : a.tmps.getD 76 undef = .pointer (some ⟨hb, 0, none⟩) := hval 8 (by kernel_rfl) _ 76 (by rfl) rfl
              have hKK := fun v h => hK v wx (Below.refl _ _) h
              clear hval hfr hE hK HR15
              simp only [Array.getD_eq_getD_getElem?] at d0
              go_simp
              exact hKK _ rfl
          · as_aux_lemma =>
              intro a wx hE hval hfr K hK
              have d0 : a.tmps.getD 77 undef = .pointer (some ⟨hb, 1, none⟩) := hval 9 (by kernel_rfl) _ 77 (by rfl) rfl
              have hc : wx.cell? ⟨hb, 1, none⟩ = some (.slice (some ⟨g1, 0, none⟩) m wc2) := cell_below HR15.out.2.2.1 hE (Nat.le_refl _)
              have hKK := fun v h => hK v wx (Below.refl _ _) h
              clear hval hfr hE hK HR15
              simp only [Array.getD_eq_getD_getElem?] at d0
              go_simp
              exact hKK _ rfl
          · as_aux_lemma =>
              intro a wx hE hval hfr K hK
              have d : a.tmps.getD 8 undef = (.int .i64 (i : Int)) := hfr 8 (by kernel_rfl)
              exact step_value (v := (.int .i64 (i : Int))) (w' := wx) rfl (fun _ _ h => by cases h) (rho [(8, (.int .i64 (i : Int)))]) (rho_of (by intro q hm; simp only [List.mem_cons, List.not_mem_nil, or_false] at hm; rcases hm with rfl; exact d) (by kernel_rfl)) (by kernel_rfl) (hK _ _ (Below.refl _ _) rfl)
          · as_aux_lemma =>
              intro a wx hE hval hfr K hK
              have d0 : a.tmps.getD 78 undef = .slice (some ⟨g1, 0, none⟩) m wc2 := hval 10 (by kernel_rfl) _ 78 (by rfl) rfl
              have d1 : a.tmps.getD 79 undef = .int .i64 (i : Int) := hval 11 (by kernel_rfl) _ 79 (by rfl) rfl
              have hKK := fun v h => hK v wx (Below.refl _ _) h
              clear hval hfr hE hK HR15
              simp only [Array.getD_eq_getD_getElem?] at d0
              simp only [Array.getD_eq_getD_getElem?] at d1
              go_simp
              exact hKK _ rfl
          · as_aux_lemma =>
              intro a wx hE hval hfr K hK
              have d0 : a.tmps.getD 80 undef = .pointer (some ⟨g1, i, none⟩) := hval 12 (by kernel_rfl) _ 80 (by rfl) rfl
              have hc : wx.cell? ⟨g1, i, none⟩ = some (.slice fa L fc) := cell_below HR15.out.2.2.2.1 hE (Nat.le_refl _)
              have hKK := fun v h => hK v wx (Below.refl _ _) h
              clear hval hfr hE hK HR15
              simp only [Array.getD_eq_getD_getElem?] at d0
              go_simp
              exact hKK _ rfl
          · as_aux_lemma =>
              intro a wx hE hval hfr K hK
              have d : a.eval (.tmp 81) = .slice fa L fc := hval 13 (by kernel_rfl) _ 81 (by rfl) rfl
              refine step_copyI rfl _ rfl _ ei.l d (HR15.out.2.2.2.2.1.below hE (Nat.le_refl _)) (by have := HR15.out.2.2.2.2.2; omega) ?_
              intro v' w' h1 h2
              exact hK _ _ h2 (OwnT.le h1 hE.size)
          · as_aux_lemma =>
              intro a wx hE hval hfr K hK
              have d : a.tmps.getD 74 undef = .slice ea L ec := hval 6 (by kernel_rfl) _ 74 (by rfl) rfl
              exact step_value (v := .slice ea L ec) (w' := wx) rfl (fun _ _ h => by cases h) (rho [(74, .slice ea L ec)]) (rho_of (by intro q hm; simp only [List.mem_cons, List.not_mem_nil, or_false] at hm; rcases hm with rfl; exact d) (by kernel_rfl)) (by kernel_rfl) (hK _ _ (Below.refl _ _) rfl)
          · as_aux_lemma =>
              intro a wx hE hval hfr K hK
              have d : OwnT wx wr.heap.size (a.tmps.getD 82 undef) ei.l := hval 14 (by kernel_rfl) _ 82 (by rfl) rfl
              obtain ⟨v, hv⟩ : ∃ v, a.tmps.getD 82 undef = v := ⟨_, rfl⟩
              rw [hv] at d
              exact step_value (v := v) (w' := wx) rfl (fun _ _ h => by cases h) (rho [(82, v)]) (rho_of (by intro q hm; simp only [List.mem_cons, List.not_mem_nil, or_false] at hm; rcases hm with rfl; exact hv) (by kernel_rfl)) (by kernel_rfl) (hK _ _ (Below.refl _ _) d)
          · intro vs w5 hE hv
            have h15 : vs 15 = .slice ea L ec := hv 15 (by decide)
            have h16 : OwnT w5 wr.heap.size (vs 16) ei.l := hv 16 (by decide)
            obtain ⟨ma, mc, hmv⟩ := row_nilK h16
            rw [HM.out.2.2.1] at hmv
            have HT : Hid (T30 w base hb (.slice (some ⟨g0, 0, none⟩) m oc2) (.slice (some ⟨g1, 0, none⟩) m wc2) es2 f n i L (.slice ea L ec) (.slice ma L mc) 0 w5) := by
              obtain ⟨b1, b2, b3, _, _, b6⟩ := HB2.out
              rw [hmv] at h16
              refine ⟨ei.l, ⟨b1.below hE (Nat.le_refl _), b3.below hE (Nat.le_refl _), h16.le b1.bz, ?_, fun b hb' => ?_, Nat.le_refl _, hlt⟩, HM.out.2.2.1, b6.trans (hE.mono b1.bz)⟩
              · rcases b3.2 with ⟨e, _⟩ | ⟨g, cap, cur, e, _⟩
                · exact .inl fun b hb' => by rw [e] at hb'; cases hb'
                · exact .inr ⟨ei, g, _, _, cap, b2.1, b2.2.trans e, e, Nat.le_refl _⟩
              have h1 := (row_typ h16 hb').1
              exact ⟨blks_size b1 h1, fun e => by have := (World.ownsRow.lt b3 b e).2; omega⟩
            have HS2 : Hid ((∀ (j : Nat) (e : BE), j < n → es2[j]? = some e → e.l.length ≤ N) ∧ ∀ e ∈ es2, e.l.length ≤ N + 40) := ⟨HB2.out.2.2.2.1, HB2.out.2.2.2.2.1⟩
            rw [putL_eq]
            simp only [putsL, List.set_cons_zero, List.set_cons_succ, Nat.zero_add, Nat.reduceAdd]
            rw [h15, hmv]
            clear h15 h16 hmv hv hE HB2 HR15
            generalize vs 0 = y0
            generalize vs 1 = y1
            generalize vs 2 = y2
            generalize vs 3 = y3
            generalize vs 4 = y4
            generalize vs 5 = y5
            generalize vs 6 = y6
            generalize vs 7 = y7
            generalize vs 8 = y8
            generalize vs 9 = y9
            generalize vs 10 = y10
            generalize vs 11 = y11
            generalize vs 12 = y12
            generalize vs 13 = y13
            generalize vs 14 = y14
            clear vs
            refine hKx _ _ ?_
            clear hKx
            go_wp2
            go_loopw [9, 10, 83] (fun sl sm vk wr => ∃ (lv mv : Value) (k : Nat), lv = sl ∧ mv = sm ∧ vk = .int .i64 k ∧ k ≤ 40 ∧ Hid (T30 w base hb (.slice (some ⟨g0, 0, none⟩) m oc2) (.slice (some ⟨g1, 0, none⟩) m wc2) es2 f n i L lv mv k wr)) (fun _ _ vk _ => 40 - (intOf vk).toNat)
            case atStart => exact ⟨_, _, 0, rfl, rfl, rfl, by omega, HT⟩
            case round =>
              obtain ⟨lv, mv, k, rfl, rfl, rfl, hk, HW⟩ := hrel
              clear HT
              have hkp : (0 : Int) ≤ (k : Int) := by omega
              by_cases hk40 : k < 40
              · have hkI : (k : Int) < 40 := by omega
                obtain ⟨ll, hR, hll, hbl⟩ := HW.out
                obtain ⟨la, lc, rfl⟩ := row_nilK hR.lo
                obtain ⟨mma, mmc, rfl⟩ := row_nilK hR.mo
                have HR := Hid.mk2 hR
                have HLL : Hid (ll.length = L + k ∧ Below base w wr ∧ base ≤ wr.heap.size) := ⟨hll, hbl, hR.bk.bz⟩
                have hl3 : ll.length ≤ 3000000 := by have := HM.out; omega
                clear hR hll hbl HW
                generalize (ll.length) = q at HR ⊢
                go_upto_region 19 with (at_builtin; go_must (refine push_L30 rfl _ _ rfl rfl (HR.out.grown ((Grown.refl _).alloc _)) _ _ (⟨-4, (i : Int), 0, 0, ⟨#[]⟩, 0⟩ : Tok) rfl (kat_grow _ (i : Int) _) hl3 ?_; intro v1 w1 hR1 hB1 hs1; have HR1 := Hid.mk2 hR1; have HB1 := Hid.mk2 (((Below.refl _ wr).alloc HLL.out.2.2 _).trans hB1); obtain ⟨t1, t2, t3, ht1⟩ := hs1; subst ht1; clear hR1 hB1))
                have hz1 : base ≤ w1.heap.size := HR1.out.bk.bz
                clear HR
                go_upto_region 20 with (at_builtin; go_must (refine push_M30 rfl _ _ rfl rfl (HR1.out.grown ((Grown.refl _).alloc _)) _ _ (⟨-4, (i : Int), 0, 0, ⟨#[]⟩, 0⟩ : Tok) rfl (kat_grow _ (i : Int) _) hl3 ?_; intro v2 w2 hR2 hB2 hs2; have HR2 := Hid.mk2 hR2; have HB2 := Hid.mk2 (((Below.refl _ w1).alloc hz1 _).trans hB2); obtain ⟨u1, u2, u3, ht2⟩ := hs2; subst ht2; clear hR2 hB2))
                have HF : Hid (T30 w base hb (.slice (some ⟨g0, 0, none⟩) m oc2) (.slice (some ⟨g1, 0, none⟩) m wc2) es2 f n i L (.slice t1 t2 t3) (.slice u1 u2 u3) (k + 1) w2) := by
                  refine ⟨ll ++ [(⟨-4, (i : Int), 0, 0, ⟨#[]⟩, 0⟩ : Tok)], ?_, ?_, HLL.out.2.1.trans (HB1.out.trans HB2.out)⟩
                  · have := HR2.out
                    simpa using this
                  · have := HLL.out.1
                    simp
                    omega
                clear HR1 HR2 HB1 HB2 HLL
                go_wp2
                exact ⟨⟨_, _, k + 1, rfl, rfl, by go_num, by omega, HF⟩, by simp [intOf]; omega⟩
              · as_aux_lemma =>
                  obtain rfl : k = 40 := by omega
                  obtain ⟨ll, hR, hll, hbl⟩ := HW.out
                  obtain ⟨la, lc, rfl⟩ := row_nilK hR.lo
                  obtain ⟨mma, mmc, rfl⟩ := row_nilK hR.mo
                  obtain ⟨q, hq⟩ : ∃ q, ll.length = q := ⟨_, rfl⟩
                  have hqL : q = L + 40 := by omega
                  have hlq : ll.length ≤ N + 40 := by have := HM.out; omega
                  rw [hq] at hR
                  have hR' : R30 wr base hb (.slice (some ⟨g0, 0, none⟩) m oc2) (.slice (some ⟨g1, 0, none⟩) m wc2) es2 f i n i (.slice la q lc) ll (.slice mma q mmc) ll := hR
                  have hB0 := hR'.bk
                  have c0 := hB0.cell.1
                  have HO : Hid (∀ ob, (wr.alloc ob).ownsRow base 47 1 (.slice (some ⟨g0, 0, none⟩) m oc2) m (es2.map BE.o) ∧ base ≤ (wr.alloc ob).heap.size) := fun ob => by
                    have := hB0.out
                    rw [HM.out.1] at this
                    exact ⟨World.ownsRow.alloc this ob, by have h1 : (wr.alloc ob).heap.size = wr.heap.size + 1 := Array.size_push _; have h2 := hB0.bz; omega⟩
                  have HK1 : Hid (∀ (g c : Nat) (ob : Obj) (w5 : World), w5.ownsRow base 47 1 (.slice (some ⟨g, 0, none⟩) (m + 1) c) (m + 1) (es2.map BE.o ++ [(.slice la q lc)]) → (wr.alloc ob).grownBy w5 (Value.ownBlock (.slice (some ⟨g0, 0, none⟩) m oc2)) → (Value.ownBlock (.slice (some ⟨g0, 0, none⟩) m oc2) = some g ∨ g = (wr.alloc ob).heap.size) → w5.heap[hb]? = some (.cells #[(.slice (some ⟨g0, 0, none⟩) m oc2), (.slice (some ⟨g1, 0, none⟩) m wc2), .int .i64 f] 26 (0, 0)) ∧ K1 wr base hb (.slice (some ⟨g0, 0, none⟩) m oc2) (.slice (some ⟨g1, 0, none⟩) m wc2) es2 f (.slice la q lc) ll (.slice (some ⟨g, 0, none⟩) (m + 1) c) (w5.setCell ⟨hb, 0, none⟩ (.slice (some ⟨g, 0, none⟩) (m + 1) c))) := fun g c ob w5 a b d => by
                    have := k1_of (l := ll) (lv := (.slice la q lc)) hB0 (g := g) (c := c) (ob := ob) (w5 := w5)
                    rw [HM.out.1] at this
                    exact this a b d
                  have HDn : Hid (∀ (ov' : Value) (w6 : World) (g c : Nat) (ob : Obj) (W3 : World), K1 wr base hb (.slice (some ⟨g0, 0, none⟩) m oc2) (.slice (some ⟨g1, 0, none⟩) m wc2) es2 f (.slice la q lc) ll ov' w6 → W3.ownsRow base 47 1 (.slice (some ⟨g, 0, none⟩) (m + 1) c) (m + 1) (es2.map BE.w ++ [(.slice mma q mmc)]) → (w6.alloc ob).grownBy W3 (Value.ownBlock (.slice (some ⟨g1, 0, none⟩) m wc2)) → (Value.ownBlock (.slice (some ⟨g1, 0, none⟩) m wc2) = some g ∨ g = (w6.alloc ob).heap.size) → W3.heap[hb]? = some (.cells #[ov', (.slice (some ⟨g1, 0, none⟩) m wc2), .int .i64 f] 26 (0, 0)) ∧ W2 w base hb f n N (i + 1) (W3.setCell ⟨hb, 1, none⟩ (.slice (some ⟨g, 0, none⟩) (m + 1) c))) := fun ov' w6 g c ob W3 k1 a b d => by
                    have hm := HM.out
                    have hd := R30.done (ob := ob) (g := g) (c := c) (W3 := W3) hR' (by omega) (by omega) (by omega) k1
                    rw [hm.1] at hd
                    obtain ⟨z1, z2, z3⟩ := hd a b d
                    refine ⟨z1, _, _, _, z2, by simp; omega, fun j e hj he => ?_, fun e he => ?_, hbl.trans z3⟩
                    · rw [List.getElem?_append_left (by omega)] at he
                      exact HS2.out.1 j e hj he
                    · rcases List.mem_append.1 he with he | he
                      · exact HS2.out.2 e he
                      · obtain rfl := List.mem_singleton.1 he
                        exact hlq
                  have HWt : Hid (∀ (ov' : Value) (w6 : World), K1 wr base hb (.slice (some ⟨g0, 0, none⟩) m oc2) (.slice (some ⟨g1, 0, none⟩) m wc2) es2 f (.slice la q lc) ll ov' w6 → w6.cell? ⟨hb, 1, none⟩ = some (.slice (some ⟨g1, 0, none⟩) m wc2) ∧ ∀ ob, (w6.alloc ob).ownsRow base 47 1 (.slice (some ⟨g1, 0, none⟩) m wc2) m (es2.map BE.w) ∧ base ≤ (w6.alloc ob).heap.size) := fun ov' w6 k1 => by
                    refine ⟨by simp [World.cell?, k1.bk], fun ob => ?_⟩
                    have := k1.want hB0
                    rw [HM.out.1] at this
                    exact ⟨World.ownsRow.alloc this ob, by have h1 : (w6.alloc ob).heap.size = w6.heap.size + 1 := Array.size_push _; have h2 := hB0.bz; have h3 := k1.bel.size; omega⟩
                  rw [hq]
                  clear hR hR' hB0 hll hbl hq hqL hlq HW HS2
                  go_upto_region 22 with (at_builtin; go_must (refine app_L rfl _ _ rfl base (.slice (some ⟨g0, 0, none⟩) m oc2) m (es2.map BE.o) rfl (HO.out _).1 _ _ (.slice la q lc) rfl (cell_new1 _ _ _) ⟨_, _, _, rfl⟩ hmN (HO.out _).2 ?_; intro g c w5 ho5 hg5 hG5; have HX := Hid.mk2 (HK1.out g c _ w5 ho5 hg5 hG5); clear ho5 hg5 hG5; have c5 : w5.cell? ⟨hb, 0, none⟩ = some (.slice (some ⟨g0, 0, none⟩) m oc2) := (by simp [World.cell?, HX.out.1]); have f5 : w5.frozen? ⟨hb, 0, none⟩ = false := (by simp [World.frozen?, HX.out.1])))
                  obtain ⟨w6, hw6⟩ : ∃ w6, w6 = w5.setCell ⟨hb, 0, none⟩ (.slice (some ⟨g, 0, none⟩) (m + 1) c) := ⟨_, rfl⟩
                  rw [← hw6]
                  have HK := Hid.mk2 HX.out.2
                  rw [← hw6] at HK
                  clear hw6 c5 f5 HX HK1 HO c0
                  have c1 := (HWt.out _ _ HK.out).1
                  have HO := Hid.mk2 (HWt.out _ _ HK.out).2
                  have HD2 : Hid (∀ (g2 c2 : Nat) (ob : Obj) (W3 : World), W3.ownsRow base 47 1 (.slice (some ⟨g2, 0, none⟩) (m + 1) c2) (m + 1) (es2.map BE.w ++ [(.slice mma q mmc)]) → (w6.alloc ob).grownBy W3 (Value.ownBlock (.slice (some ⟨g1, 0, none⟩) m wc2)) → (Value.ownBlock (.slice (some ⟨g1, 0, none⟩) m wc2) = some g2 ∨ g2 = (w6.alloc ob).heap.size) → W3.heap[hb]? = some (.cells #[.slice (some ⟨g, 0, none⟩) (m + 1) c, (.slice (some ⟨g1, 0, none⟩) m wc2), .int .i64 f] 26 (0, 0)) ∧ W2 w base hb f n N (i + 1) (W3.setCell ⟨hb, 1, none⟩ (.slice (some ⟨g2, 0, none⟩) (m + 1) c2))) := fun g2 c2 ob W3 a b d => HDn.out _ w6 g2 c2 ob W3 HK.out a b d
                  clear HDn HWt HK
                  go_upto_region 14 with (at_builtin; go_must (refine app_L rfl _ _ rfl base (.slice (some ⟨g1, 0, none⟩) m wc2) m (es2.map BE.w) rfl (HO.out _).1 _ _ (.slice mma q mmc) rfl (cell_new1 _ _ _) ⟨_, _, _, rfl⟩ hmN (HO.out _).2 ?_; intro g2 c2 w7 ho7 hg7 hG7; have HX := Hid.mk2 (HD2.out g2 c2 _ w7 ho7 hg7 hG7); clear ho7 hg7 hG7; have c7 : w7.cell? ⟨hb, 1, none⟩ = some (.slice (some ⟨g1, 0, none⟩) m wc2) := (by simp [World.cell?, HX.out.1]); have f7 : w7.frozen? ⟨hb, 1, none⟩ = false := (by simp [World.frozen?, HX.out.1])))
                  have HF := Hid.mk2 HX.out.2
                  obtain ⟨w8, hw8⟩ : ∃ w8, w8 = w7.setCell ⟨hb, 1, none⟩ (.slice (some ⟨g2, 0, none⟩) (m + 1) c2) := ⟨_, rfl⟩
                  rw [← hw8] at HF ⊢
                  clear hw8 c7 f7 HX HD2 HO c1
                  go_wp2
                  exact ⟨⟨i + 1, by go_num, by omega, by omega, HF⟩, by simp [intOf]; omega⟩
        · as_aux_lemma =>
            have hge : ¬ (i : Int) < (n : Int) := by omega
            obtain rfl : i = n := by omega
            obtain ⟨ov2, wv2, es2, hB2, hl2, hs2, ht2, hb2⟩ := HW.out
            obtain ⟨oa2, oc2, rfl⟩ := row_nil hB2.out
            have c0 := hB2.cell.1
            have c2 := hB2.cell.2.2
            have f2 : wr.frozen? ⟨hb, 2, none⟩ = false := by simp [World.frozen?, hB2.bk]
            have HFr := Hid.mk2 hB2.fresh
            have HS : Hid (es2.length ≤ 2 * es.length ∧ (∀ e ∈ es2, e.l.length ≤ N + 40) ∧ Below base w (wr.setCell ⟨hb, 2, none⟩ (.int .i64 es2.length))) := ⟨by have := HN.out; omega, ht2, hb2.setCell (p := ⟨hb, 2, none⟩) hB2.hb _⟩
            clear hB2 hl2 hs2 ht2 hb2 HW
            obtain ⟨m, hm⟩ : ∃ m, es2.length = m := ⟨_, rfl⟩
            have HM : Hid (es2.length = m) := hm
            rw [hm] at c0 HFr HS
            clear hm
            go_upto_region 24 with fail
            obtain ⟨w5, hw5⟩ : ∃ w5, w5 = wr.setCell ⟨hb, 2, none⟩ (.int .i64 (m : Int)) := ⟨_, rfl⟩
            rw [← hw5] at HFr HS ⊢
            clear hw5 c0 c2 f2
            go_wp2_with fail
            refine (HH.out _ _ _ _ _ _ _ HFr.out).mono ?_
            rintro e w7 ⟨rfl, hg7⟩
            go_wp2
            go_ret
            exact ⟨rfl, _, _, es2, by rw [HM.out]; exact HFr.out.grown hg7, by rw [HM.out]; exact HS.out.1, HS.out.2.1, HS.out.2.2.trans (hg7.below.mono HFr.out.bz)⟩
/-- the book, so many lists in it -/
def PJ (w3 : World) (k f N : Nat) (W : World) : Prop :=
  (∃ ov wv es, Bok W w3.heap.size w3.heap.size ov wv es f f es.length ∧ es.length = k ∧ ∀ e ∈ es, e.l.length ≤ N) ∧ Below w3.heap.size w3 W
theorem PJ.start (w3 : World) : PJ w3 0 0 32768 (w3.alloc (.cells #[.slice none 0 0, .slice none 0 0, .int .i64 0] 26)) := by
  refine ⟨⟨.slice none 0 0, .slice none 0 0, [], ⟨?_, Nat.le_refl _, World.ownsRow_nil _ _ _ _, World.ownsRow_nil _ _ _ _, fun e he => (by cases he), fun e he => (by cases he), fun i j e e' b h => (by simp at h), fun i j e e' b _ h => (by simp at h), .inl rfl, (by simp), fun e he => (by cases he), Nat.le_refl _⟩, rfl, fun e he => (by cases he)⟩, (Below.refl _ _).alloc (Nat.le_refl _) _⟩
  exact heap_new _ _
theorem PJ.scan {w3 : World} (s : ByteArray) {k f N : Nat} (hk : k ≤ 90) (h1 : 32768 ≤ N) {W : World} (h : PJ w3 k f N W) :
    Calls Tryz.prog 10 #[.pointer (some ⟨w3.heap.size, 0, none⟩), .string s] W fun e w' => e = .returned (.bool true) ∧ PJ w3 (k + 1) f N w' := by
  obtain ⟨L, fa, fe, hS⟩ := scan_any s
  obtain ⟨⟨ov, wv, es, hK, hl, hs⟩, hW⟩ := h
  refine (scanB_any w3.heap.size w3.heap.size ov wv es f f N s L fa fe W hK (by omega) h1 hs hS).mono ?_
  rintro e w' ⟨rfl, ov', wv', es', g1, g2, g3, g4⟩
  exact ⟨rfl, ⟨ov', wv', es', g1, by omega, g3⟩, hW.trans g4⟩
theorem PJ.write {w3 : World} {k f N : Nat} (hk : k ≤ 40) (h2 : N ≤ 700000) {W : World} (h : PJ w3 k f N W) :
    Calls Tryz.prog 11 #[.pointer (some ⟨w3.heap.size, 0, none⟩)] W fun e w' => e = .returned (.bool true) ∧ ∃ k', k' ≤ 2 * k ∧ PJ w3 k' k' (N + 40) w' := by
  obtain ⟨⟨ov, wv, es, hB, hl, hs⟩, hW⟩ := h
  refine (writeB_any w3.heap.size w3.heap.size ov wv es f N W hB (by omega) (by omega) hs).mono ?_
  rintro e w' ⟨rfl, ov', wv', es', g1, g2, g3, g4⟩
  exact ⟨rfl, es'.length, by omega, ⟨ov', wv', es', g1, rfl, g3⟩, hW.trans g4⟩
set_option maxHeartbeats 8000000 in
theorem textsLaw_any (s t : ByteArray) (w : World) (hT : TabB w) :
    Calls Tryz.prog 3 #[.string s, .string t] w fun e w' => e = .returned (.bool true) ∧ Below w.heap.size w w' := by
  have H7 := Hid.mk2 (shown_any w hT)
  clear hT
  go_enter Tryz.func3, Tryz.ntmps3
  go_wp2_with fail
  refine H7.out.mono ?_
  rintro e w3 ⟨rfl, hb3⟩
  have HR3 := Hid.mk2 hb3
  clear hb3 H7
  have HP0 := Hid.mk2 (PJ.start w3)
  go_upto_region 4 with fail
  obtain ⟨w4, hw4⟩ : ∃ w4, w4 = w3.alloc (.cells #[.slice none 0 0, .slice none 0 0, .int .i64 0] 26) := ⟨_, rfl⟩
  rw [← hw4] at HP0 ⊢
  clear hw4
  have HFin : Hid (∀ k f N W, PJ w3 k f N W → Below w.heap.size w W) := fun k f N W p => HR3.out.trans (p.2.mono HR3.out.size)
  clear HR3
  go_wp2_with fail
  refine (PJ.scan s (by omega) (by omega) HP0.out).mono ?_
  rintro e w10 ⟨rfl, hP⟩
  have HP1 := Hid.mk2 hP
  clear hP HP0
  go_wp2_with fail
  refine (PJ.scan s (by omega) (by omega) HP1.out).mono ?_
  rintro e w11 ⟨rfl, hP⟩
  have HP2 := Hid.mk2 hP
  clear hP HP1
  go_wp2_with fail
  refine (PJ.scan t (by omega) (by omega) HP2.out).mono ?_
  rintro e w12 ⟨rfl, hP⟩
  have HP3 := Hid.mk2 hP
  clear hP HP2
  go_wp2_with fail
  refine (PJ.scan s (by omega) (by omega) HP3.out).mono ?_
  rintro e w13 ⟨rfl, hP⟩
  have HP4 := Hid.mk2 hP
  clear hP HP3
  go_wp2_with fail
  refine (PJ.write (by omega) (by omega) HP4.out).mono ?_
  rintro e w14 ⟨rfl, k4, hk4, hP⟩
  have HP5 := Hid.mk2 hP
  clear hP HP4
  go_wp2_with fail
  refine (PJ.scan s (by omega) (by omega) HP5.out).mono ?_
  rintro e w15 ⟨rfl, hP⟩
  have HP6 := Hid.mk2 hP
  clear hP HP5
  go_wp2_with fail
  refine (PJ.scan t (by omega) (by omega) HP6.out).mono ?_
  rintro e w16 ⟨rfl, hP⟩
  have HP7 := Hid.mk2 hP
  clear hP HP6
  go_wp2_with fail
  refine (PJ.write (by omega) (by omega) HP7.out).mono ?_
  rintro e w17 ⟨rfl, k7, hk7, hP⟩
  have HP8 := Hid.mk2 hP
  clear hP HP7
  go_wp2
  go_ret
  exact ⟨rfl, HFin.out _ _ _ _ HP8.out⟩
end Go.Proofs
