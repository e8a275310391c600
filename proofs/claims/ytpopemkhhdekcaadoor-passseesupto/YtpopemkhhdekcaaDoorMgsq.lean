/-
  Several texts in one (Tv Rz).
-/
import Derived.RangeFuncNested
import Derived.RangeFuncBound
import Derived.RangeFuncCalls
import Derived.RangeFuncLeaves
import Derived.Shelf.Abstract
import Derived.Shelf.RegionOpen
import Derived.WalkKit
import Derived.WalkSpells
import Derived.WalkLawsBesides
import Derived.OwnWalkIn
import Derived.TacticsInMore
import Derived.LoopNIn
import Derived.LoopIn
import Derived.BigQuiet
import Derived.RegionIn
import Derived.Deep.QuietTactic
import Derived.Deep.RegionWith
import Derived.Lib.OthersKept
import Derived.Maps.AppendAt
import Derived.Lib.SmallJoins
import Derived.Shelf.SlSortCmp.QuietGrown
import Derived.Test.YtpopemkhhdekcaaDoorMgqq
import Derived.Test.YtpopemkhhdekcaaDoorCdq
import Derived.RangeFuncWrites
import Derived.RangeFuncBox
import Derived.Test.YtpopemkhhdekcaaDoorMgoq
namespace Go.Proofs
open Go.RowKit Go.Shelf

set_option maxRecDepth 100000
attribute [local go_sem] Oper.semAt_some
attribute [local go_sem ↓] Go.wp_at_zero Go.wp_at_succ

theorem zip1 (t : Tmp) (v : Value) : (#[t] : Array Tmp).zip #[v] = #[(t, v)] := by simp [List.zip_toArray]
/-- an iterator that was made: where the rules lie that it goes by, and the text -/
structure Made (W0 : World) (rs : List Rl) (s : ByteArray) (b1 b2 : Nat) (v : Value) (st : St) : Prop where
  pw : PW W0 v rs st
  c1 : W0.cell? ⟨b1, 0, none⟩ = some v
  c2 : W0.cell? ⟨b2, 0, none⟩ = some (.string s)
  sz : s.size ≤ 16384
  end3 : G3 rs (intsU (units s)) (endOf rs s).1 (endOf rs s).2 []
set_option maxHeartbeats 8000000 in
theorem steps1_seq {W0 V : World} {rs : List Rl} {s : ByteArray} {b1 b2 : Nat} {v : Value} {st : St} (h : Made W0 rs s b1 b2 v st) (hV : Below W0.heap.size W0 V) (n l : Nat) (hn : 2 ≤ n) :
    SeqZ n 22 #[] #[.pointer (some ⟨b1, 0, none⟩), .pointer (some ⟨b2, 0, none⟩)] encS (endOf rs s).1 W0.heap.size (fun k => V.heap.size ≤ k) (fun _ => True) V l := by
  intro J Jx hJ hJx hY h0
  have hn1 : 1 ≤ n := by omega
  have hsl : IsSl v := by
    obtain ⟨a, c, e, _⟩ := h.pw.psr
    exact ⟨a, _, c, e⟩
  obtain ⟨v1, v2, v3, hv⟩ := hsl
  subst hv
  have c1 : V.cell? ⟨b1, 0, none⟩ = some (.slice v1 v2 v3) := cell_below h.c1 hV (Nat.le_refl _)
  have c2 : V.cell? ⟨b2, 0, none⟩ = some (.string s) := cell_below h.c2 hV (Nat.le_refl _)
  have c1' := fun o => cell_up c1 o
  have c2' := fun o => cell_up c2 o
  have hs := h.sz
  have HSt : Hid (∀ W, Grown V W → Calls Tryd.prog 23 #[.slice v1 v2 v3, .string s] W (StE W rs (.slice v1 v2 v3) s)) := fun W hg => start_any _ rs s W ((h.pw.psr.below hV (Nat.le_refl _)).grown hg) (by have := h.pw.fin.n; omega) (fun r hr => by have := (chk_ok (h.pw.ck r hr)).k8; omega) (by omega)
  obtain ⟨xf, hxf⟩ : ∃ xf, (endOf rs s).1 = xf := ⟨_, rfl⟩
  obtain ⟨df, hdf⟩ : ∃ df, (endOf rs s).2 = df := ⟨_, rfl⟩
  have HM := Hid.mk' h
  have hG := h.end3
  rw [hxf, hdf] at hG
  rw [hxf] at hY ⊢
  have HG := Hid.mk' hG
  have HHY := Hid.mk' hY
  clear hY h hG hxf hdf
  refine callsIn_of_wp_marks Tryd.func22 rfl trivial ?_ rfl
  simp only [Tryd.ntmps22, List.size_toArray, List.length_cons, List.length_nil, Nat.reduceAdd, Nat.reduceSub, Array.replicate_succ, Array.replicate_zero, List.push_toArray, List.append_toArray, List.nil_append, List.cons_append]
  gi_wp2_with (refine ⟨trivial, ?_⟩; gi_at_call 23; refine (callsIn_wide.2 (HSt.out _ (by (repeat (first | exact Grown.refl _ | refine Grown.alloc ?_ _ | refine Grown.drew ?_))))).mono ?_; rintro e w2 ⟨wb, mb, lv, uv, d, rfl, hQ⟩; have HQ := Hid.mk' hQ; clear hQ)
  obtain ⟨w1, hw1⟩ : ∃ w1, w1 = V.alloc (.cells #[.func (.yield l) #[] #[]] 65) := ⟨_, rfl⟩
  have hw1s : w1.heap.size = V.heap.size + 1 := by rw [hw1]; simp
  have hgV : Grown V w1 := by rw [hw1]; exact (Grown.refl _).alloc _
  have hbx1 : w1.heap[V.heap.size]? = some (.cells #[.func (.yield l) #[] #[]] 65 (0, 0)) := by rw [hw1]; exact heap_alloc_new _ _
  rw [← hw1] at HQ
  obtain ⟨h, hh⟩ : ∃ h, h = w2.heap.size := ⟨_, rfl⟩
  have hb12 : w1.heap.size ≤ h := by rw [hh]; exact HQ.out.bel.size
  have hl0 : (intsU (units s)).length ≤ 16384 := by rw [intsU_length]; have := units_len s; omega
  have hW0 := hV.size
  have hZb : ∀ k, (ZW w1.heap.size h k ∨ h ≤ k) → V.heap.size + 1 ≤ k := fun k hk => by rcases hk with (hk | hk) | hk <;> omega
  have hb1 : Below W0.heap.size W0 w1 := hV.trans (hgV.below.mono hW0)
  have hf12 : ∀ X, Fr V w2 X := fun X => (fr_grown hgV X).trans (fr_below HQ.out.bel (Nat.le_refl _) X) fun _ _ e => e
  have hbx2 : w2.heap[V.heap.size]? = some (.cells #[.func (.yield l) #[] #[]] 65 (0, 0)) := (HQ.out.bel.block _ (by omega)).trans hbx1
  clear hw1 c1 c2 c1' c2' hbx1
  refine wpIn_overZ (enc := encS) (by omega) (gf := 24) (pa := #[.pointer (some ⟨wb, 0, none⟩)]) (lb := #[]) rfl (enters_of Tryd.func24 (by kernel_rfl) rfl) (xf := xf) (b := W0.heap.size) (h := h) (Z := ZW w1.heap.size h) (E := fun Y => WkAt (ZW w1.heap.size h) (h + 2) W0 Y w1.heap.size wb mb (.slice v1 v2 v3) lv rs d (intsU (units s)) xf df []) hh (by omega)
    (fun e => by rcases e with e | e <;> omega) (fun e => by rcases e with e | e <;> omega)
    (fun r => steps_seq HM.out.pw hl0 (units_all s) HG.out (by
      have := wk_start HM.out.pw hs hb1 HQ.out (((Grown.refl w2).alloc (.deferred (some []))).alloc (.loop r)) (by simp)
      rw [← hh] at this
      exact this) (Nat.le_refl _) _ _ (by omega))
    (fun X o hX => by
      obtain ⟨dv, uv, n, room, uu, f, hk⟩ := hX
      exact ⟨dv, uv, n, room, uu, f, hk.keep (KAll.put o (fun e => by rcases e with e | e <;> omega) (by omega)) (Nat.le_refl _)⟩)
    (fun _ => rfl) (fun pre W => J pre W ∧ W.heap[V.heap.size]? = some (.cells #[.func (.yield l) #[] #[]] 65 (0, 0))) (fun c pre W => c = .ret ∧ Jx pre W)
    (fun pre X Y hX hf => ⟨hJ _ _ _ hX.1 (hf.mono fun k _ hk => by have := hZb k hk; omega), (hf.block _ (blk_lt hX.2) (fun hk => by have := hZb _ hk; omega)).trans hX.2⟩)
    (fun c pre X Y hX hf => ⟨hX.1, hJx _ _ _ hX.2 (hf.mono fun k _ hk => by have := hZb k hk; omega)⟩)
    ⟨hJ _ _ _ h0 (hf12 _), hbx2⟩
    (fun x W => { tmps := #[.func (.yield l) #[] #[], .pointer (some ⟨b1, 0, none⟩), .pointer (some ⟨b2, 0, none⟩), .pointer (some ⟨V.heap.size, 0, none⟩), .pointer (some ⟨W.heap.size, 0, none⟩), .slice v1 v2 v3, .string s, .pointer (some ⟨wb, 0, none⟩), .func (.func 24) #[.pointer (some ⟨wb, 0, none⟩)] #[], .agg (fs1 x).toArray, undef, undef, undef, undef], defers := [] })
    (fun x W => W.alloc (.cells (fs1 x).toArray 34)) (fun _ W => (Grown.refl W).alloc _) ?assign ?body ?done ?stop
  case assign =>
    intro l x W K hK
    rw [show (#[9] : Array Tmp).zip (encS x) = #[(9, Value.agg (fs1 x).toArray)] from zip1 _ _]
    unfold fs1 at hK ⊢
    gi_wp2
    first | exact hK | (simp only [List.foldl_toArray, List.foldl_cons, List.foldl_nil, List.setIfInBounds_toArray, List.set_cons_succ, List.set_cons_zero]; gi_wp2; exact hK)
  case body =>
    rintro l' pre x W X ⟨hI, hbox⟩ hpre hWs hXs hXk
    have cb : X.cell? ⟨V.heap.size, 0, none⟩ = some (.func (.yield l) #[] #[]) := by rw [cell_of hbox]; rfl
    have hcx : X.heap[W.heap.size]? = some (.cells (fs1 x).toArray 34 (0, 0)) := by rw [hXk _ (by omega)]; exact heap_alloc_new W _
    have k0 : X.cell? ⟨W.heap.size, 0, none⟩ = some (.int .i64 x.r) := by rw [cell_of hcx]; rfl
    have k1 : X.cell? ⟨W.heap.size, 1, none⟩ = some (.int .i64 x.d) := by rw [cell_of hcx]; rfl
    have k2 : X.cell? ⟨W.heap.size, 2, none⟩ = some (.int .i64 x.l) := by rw [cell_of hcx]; rfl
    have k3 : X.cell? ⟨W.heap.size, 3, none⟩ = some (.int .i64 x.t) := by rw [cell_of hcx]; rfl
    have k4 : X.cell? ⟨W.heap.size, 4, none⟩ = some (.int .i64 x.a) := by rw [cell_of hcx]; rfl
    have k5 : X.cell? ⟨W.heap.size, 5, none⟩ = some (.int .i64 x.b) := by rw [cell_of hcx]; rfl
    obtain ⟨fn, tmps, assign, bd, hy, hR⟩ := yield_wide (l1 := l') (m' := n - 1 - 1 - 1) (HHY.out pre x X hI hpre)
    dsimp only [encS] at hy
    unfold fs1 at hy
    have HR := Hid.mk' hR
    have HBX := Hid.mk' hbox
    clear hR hcx hbox hI hXk hXs
    gi_wp2
    refine ⟨fun h => absurd h (by simp [Fence.wide]), ?_⟩
    refine HR.out.mono ?_
    have hwk : ∀ {Y : World}, KAll (fun k => V.heap.size ≤ k) W0.heap.size X Y → KAll (fun k => ZW w1.heap.size h k ∨ h ≤ k) W0.heap.size X Y ∧ Y.heap[V.heap.size]? = some (.cells #[.func (.yield l) #[] #[]] 65 (0, 0)) := fun hk => ⟨hk.mono (fun k hz => by have := hZb k hz; omega) (Nat.le_refl _), hk.same _ _ (Nat.le_refl _) HBX.out⟩
    rintro e Y (⟨rfl, hJ3, hk3⟩ | ⟨rfl, hJx3, hk3⟩)
    · gi_wp2
      exact ⟨(hwk hk3).1, hJ3, (hwk hk3).2⟩
    · gi_wp2
      exact ⟨(hwk hk3).1, rfl, hJx3⟩
  case done =>
    rintro D W hD ⟨hI, _⟩ hE hK
    clear hE
    gi_wp2
    refine ⟨by simp, .inl ⟨_, _, rfl, run_takeDeferred hK, ?_⟩⟩
    refine ⟨_, results_none rfl _ _ _, ⟨_, rfl⟩, .inl ⟨?_, trivial⟩⟩
    exact hJ _ _ _ hI ((fr_put _).mono fun k _ e => by omega)
  case stop =>
    rintro D c pre W hD hpre ⟨rfl, hx⟩ hK
    gi_wp2
    refine ⟨by simp, .inl ⟨_, _, rfl, run_takeDeferred hK, ?_⟩⟩
    refine ⟨_, results_none rfl _ _ _, ⟨_, rfl⟩, .inr ⟨pre, hpre, ?_⟩⟩
    exact hJx _ _ _ hx ((fr_put _).mono fun k _ e => by omega)
/-- what Steps answers -/
def StpQ (w : World) (rs : List Rl) (s : ByteArray) (e : Ending) (w' : World) : Prop :=
  Below w.heap.size w w' ∧ ((mayE rs s ≠ 0 ∧ e = .returned (.tuple #[.nilFunc, .int .i64 (mayE rs s)])) ∨ (mayE rs s = 0 ∧ ∃ b1 b2 v, e = .returned (.tuple #[.func (.func 22) #[] #[.pointer (some ⟨b1, 0, none⟩), .pointer (some ⟨b2, 0, none⟩)], .int .i64 0]) ∧ w.heap.size ≤ b1 ∧ w.heap.size ≤ b2 ∧ w'.heap[b1]? = some (.cells #[v] 22 (0, 0)) ∧ w'.heap[b2]? = some (.cells #[.string s] 9 (0, 0)) ∧ Rob (fun k => k < w.heap.size) w' (fun W => PsR W v rs)))
set_option maxHeartbeats 4000000 in
theorem steps_any (v : Value) (rs : List Rl) (s : ByteArray) (w : World) (hT : Tab w) (h : PsR w v rs) : Calls Tryd.prog 8 #[.agg #[v], .string s] w (StpQ w rs s) := by
  have HC : Hid (∀ W, Grown w W → Calls Tryd.prog 20 #[.agg #[v], .string s] W fun e w' => e = .returned (.int .i64 (mayE rs s)) ∧ Below W.heap.size W w') := fun W hg => may_any v rs s W (hT.grown hg) (h.grown hg)
  obtain ⟨E, hE2⟩ : ∃ E, mayE rs s = E := ⟨_, rfl⟩
  have HE := Hid.mk' hE2
  rw [hE2] at HC
  have HP := Hid.mk' h
  obtain ⟨ra, rc, hv, hx1, hx2⟩ := h
  subst hv
  obtain ⟨n, hn⟩ : ∃ n, rs.length = n := ⟨_, rfl⟩
  rw [hn] at HC HP ⊢
  by_cases hE : E = 0
  · subst hE
    obtain ⟨st, hw, hs, hF, hall, hck, hG⟩ := may_ok hE2
    have HOw : Hid (∀ W, Below w.heap.size w W → Calls Tryd.prog 21 #[.slice ra n rc] W fun e w' => ∃ y1 y2 y3, e = .returned (.slice y1 y2 y3) ∧ Rob (fun k => k < W.heap.size) w' (fun V => PsR V (.slice y1 y2 y3) rs) ∧ Below W.heap.size W w') := fun W hb => (ownRules_any _ rs W (HP.out.below hb (Nat.le_refl _)) hF.n fun r hr => chk_ok (hck r hr)).mono (by
      rintro e w' ⟨v', rfl, ⟨y1, y2, y3, rfl⟩, h1, h2⟩
      exact ⟨y1, y2, y3, rfl, h1, h2⟩)
    clear hx1 hx2 hE2 hT hw hs hF hall hck hG hn
    go_enter Tryd.func8, Tryd.ntmps8
    go_wp2_with fail
    refine (HC.out _ (by (repeat (first | exact Grown.refl _ | refine Grown.alloc ?_ _ | refine Grown.drew ?_)))).mono ?_
    rintro e w1 ⟨rfl, hB⟩
    have hz : ((w.alloc (.cells #[.slice ra n rc] 24)).alloc (.cells #[.string s] 9)).heap.size = w.heap.size + 2 := by simp
    have hk1 : w1.heap[w.heap.size]? = some (.cells #[.slice ra n rc] 24 (0, 0)) := by
      rw [hB.block w.heap.size (by omega)]
      exact (((Grown.refl (w.alloc (.cells #[.slice ra n rc] 24))).alloc (.cells #[.string s] 9)).below.block w.heap.size (by simp)).trans (heap_alloc_new w _)
    have hk2 : w1.heap[w.heap.size + 1]? = some (.cells #[.string s] 9 (0, 0)) := by
      rw [hB.block (w.heap.size + 1) (by omega)]
      simpa using heap_alloc_new (w.alloc (.cells #[.slice ra n rc] 24)) (.cells #[.string s] 9)
    have c1 : w1.cell? ⟨w.heap.size, 0, none⟩ = some (.slice ra n rc) := (cell_of hk1).trans rfl
    have HK2 := Hid.mk' hk2
    have HB : Hid (Below w.heap.size w w1) := (((Grown.refl w).alloc _).alloc _).below.trans (hB.mono (by omega))
    clear hB hk1 hk2 hz
    go_wp2_with (go_at_call 21; refine (HOw.out _ HB.out).mono ?_; rintro e w2 ⟨y1, y2, y3, rfl, hr2, hb2⟩; have H2 := Hid.mk' (And.intro hr2 hb2); clear hr2 hb2)
    go_ret2
    have hb2 := H2.out.2
    have hbb : Below w.heap.size w w2 := HB.out.trans (hb2.mono HB.out.size)
    have hgr : Grown w2 (w2.alloc (.cells #[.slice y1 y2 y3] 22)) := (Grown.refl _).alloc _
    refine ⟨hbb.trans (hgr.below.mono hbb.size), .inr ⟨HE.out, w2.heap.size, w.heap.size + 1, .slice y1 y2 y3, rfl, hbb.size, by omega, heap_alloc_new _ _, ?_, ?_⟩⟩
    · exact (hgr.below.block _ (by have := blk_lt HK2.out; have := hb2.size; omega)).trans ((hb2.block _ (blk_lt HK2.out)).trans HK2.out)
    · exact (H2.out.1.less fun k _ hk => Nat.lt_of_lt_of_le hk HB.out.size).fr (fr_grown hgr fun _ => False) fun _ _ e => e.elim
  · have hE3 : (E != 0) = true := by simpa using hE
    clear hx1 hx2 hE2 hT hn HP
    go_enter Tryd.func8, Tryd.ntmps8
    go_wp2_with (go_at_call 20; refine (HC.out _ (by (repeat (first | exact Grown.refl _ | refine Grown.alloc ?_ _ | refine Grown.drew ?_)))).mono ?_; rintro e w1 ⟨rfl, hB⟩; have HB : Hid (Below w.heap.size w w1) := (((Grown.refl w).alloc _).alloc _).below.trans (hB.mono (by simp; omega)); clear hB)
    go_ret2
    exact ⟨HB.out, .inl ⟨by rw [HE.out]; exact hE, by rw [HE.out]; rfl⟩⟩

/-- a move of the iterator: it touches its own blocks F; behind it its blocks are F' -/
structure MvF (F F' : Nat → Prop) (X Y : World) : Prop where
  fr : Fr X Y F
  nw : ∀ k, F' k → F k ∨ X.heap.size ≤ k
  lt : (∀ k, F k → k < X.heap.size) → ∀ k, F' k → k < Y.heap.size
theorem MvF.grown {F : Nat → Prop} {X Y : World} (h : Grown X Y) : MvF F F X Y := ⟨fr_grown h _, fun _ h => .inl h, fun hl k hk => Nat.lt_of_lt_of_le (hl k hk) h.size⟩
/-- what stays so whatever the iterator does -/
def StabF {α : Type} (J : List α → (Nat → Prop) → World → Prop) : Prop := ∀ s F F' X Y, J s F X → MvF F F' X Y → J s F' Y
/-- an iterator that hands out the elements of xf, in this world, to the loop l -/
def SeqF {α : Type} (n g : Nat) (pa lb : Array Value) (enc : α → Array Value) (xf : List α) (b : Nat) (F0 : Nat → Prop) (E : (Nat → Prop) → World → Prop) (V : World) (l : Nat) : Prop :=
  ∀ (J Jx : List α → (Nat → Prop) → World → Prop), StabF J → StabF Jx →
    (∀ pre x F X, J pre F X → pre ++ [x] <+: xf → YieldAt Fence.wide (n - 1) Tryd.prog l (enc x) X fun e Y => (e = .returned (.bool true) ∧ J (pre ++ [x]) F Y ∧ KAll F b X Y) ∨ (e = .returned (.bool false) ∧ Jx (pre ++ [x]) F Y ∧ KAll F b X Y)) →
    J [] F0 V → CallsIn Fence.wide n Tryd.prog g (pa ++ #[.func (.yield l) #[] #[]] ++ lb) V fun e Y => (∃ v, e = .returned v) ∧ ((∃ F, J xf F Y ∧ E F Y) ∨ ∃ pre F, (pre <+: xf ∧ pre ≠ []) ∧ Jx pre F Y)
/-- what a round leaves alone: the iterator's blocks, and the loop's -/
def ZF (F : Nat → Prop) (h k : Nat) : Prop := F k ∨ k = h ∨ k = h + 1
/-- how a round ends -/
def wPostF {α : Type} (h b : Nat) (I : List α → (Nat → Prop) → World → Prop) (Ix : Code → List α → (Nat → Prop) → World → Prop) (s : List α) (F : Nat → Prop) (X : World) : Exit → Act → World → Prop
  | .normal, _, Y => KAll (ZF F h) b X Y ∧ I s F Y
  | .ret, _, Y => KAll (ZF F h) b X Y ∧ Ix .ret s F Y
  | .exit id, _, Y => KAll (ZF F h) b X Y ∧ Ix (.exit id) s F Y
  | .goto t, _, Y => KAll (ZF F h) b X Y ∧ Ix (.goto t) s F Y
  | .panic _, _, _ => False
  | .outgrown, _, _ => False
/-- what stays so whatever the iterator and the loop's record do -/
def StabI {α : Type} (h : Nat) (I : List α → (Nat → Prop) → World → Prop) : Prop := ∀ s F F' X Y, I s F X → ¬ F h → ¬ F (h + 1) → Fr X Y (fun k => F k ∨ k = h + 1) → (∀ k, F' k → F k ∨ X.heap.size ≤ k) → ((∀ k, F k → k < X.heap.size) → ∀ k, F' k → k < Y.heap.size) → I s F' Y
theorem wpIn_overF {α : Type} {enc : α → Array Value} {n : Nat} {g : Operand} {ps : Array Tmp} {assign body : Code} {Q : Exit → Act → World → Prop} {a : Act} {w : World} (h1 : 1 ≤ n) {gf : Nat} {pa lb : Array Value}
    (hg : a.eval g = .func (.func gf) pa lb) (eg : ∀ args w, (callFunc gf args).run Tryd.prog w = .ok (.enter gf args) w) {xf : List α} {b h : Nat} {F0 : Nat → Prop} {E : (Nat → Prop) → World → Prop} (hh : h = w.heap.size) (hbh : b ≤ h) (hF0 : ∀ k, F0 k → k < h)
    (hseq : ∀ r : Loop, SeqF (n - 1) gf pa lb enc xf b F0 E ((w.alloc (.deferred (some []))).alloc (.loop r)) (h + 1)) (hE : ∀ F X o, ¬ F (h + 1) → E F X → E F (X.putObj (h + 1) o)) (hps : ∀ x, (enc x).size = ps.size)
    (I : List α → (Nat → Prop) → World → Prop) (Ix : Code → List α → (Nat → Prop) → World → Prop) (hI : StabI h I) (hIx : ∀ c, StabI h (Ix c)) (h0 : ∀ r : Loop, I [] F0 ((w.alloc (.deferred (some []))).alloc (.loop r)))
    (hround : ∀ (pre : List α) (x : α) (F : Nat → Prop) (W : World), pre ++ [x] <+: xf → h + 2 ≤ W.heap.size → ¬ F h → ¬ F (h + 1) → I pre F W → assign.wpIn (Fence.wide.inRound (h + 1)) (n - 1 - 1) Tryd.prog (Exit.then (fun a' W' => Grown W W' ∧ ∀ X, I pre F X → X.heap.size = W'.heap.size → (∀ k, k ≠ h + 1 → X.heap[k]? = W'.heap[k]?) → (∃ r, X.heap[h + 1]? = some (.loop r)) → body.wpIn (Fence.wide.inRound (h + 1)) (n - 1 - 1) Tryd.prog (wPostF h b I Ix (pre ++ [x]) F X) a' X) (fun _ _ _ => False)) { tmps := (ps.zip (enc x)).foldl (fun t (p, v) => t.setIfInBounds p v) a.tmps, defers := [] } W)
    (hdone : ∀ (F : Nat → Prop) (W : World), ¬ F h → ¬ F (h + 1) → I xf F W → E F W → W.heap[h]? = some (.deferred (some [])) → Q .normal { a with defers := { target := .collected h, args := #[] } :: a.defers } W)
    (hstop : ∀ (c : Code) (pre : List α) (F : Nat → Prop) (W : World), (pre <+: xf ∧ pre ≠ []) → ¬ F h → ¬ F (h + 1) → Ix c pre F W → W.heap[h]? = some (.deferred (some [])) → c.wpIn Fence.wide n Tryd.prog Q { a with defers := { target := .collected h, args := #[] } :: a.defers } W) :
    (Code.rangeFunc g ps assign body).wpIn Fence.wide n Tryd.prog Q a w := by
  refine wpIn_rangeFunc ?_
  intro fn hfn
  let rc : LoopState → Option Code → Loop := fun st pe => { state := st, pending := pe, fn, tmps := a.tmps, params := ps, assign, body, defers := h }
  let V : World := (w.alloc (.deferred (some []))).alloc (.loop (rc .ready none))
  have hV : V.heap.size = h + 2 := by simp [V, hh]
  have hV1 : V.heap[h + 1]? = some (.loop (rc .ready none)) := by
    have e := World.alloc_heap_new (w.alloc (.deferred (some []))) (.loop (rc .ready none))
    rw [World.size_alloc, ← hh] at e; exact e
  have hV0 : V.heap[h]? = some (.deferred (some [])) := by
    have e := World.alloc_heap_new w (.deferred (some []))
    rw [← hh] at e
    exact (Below.heap_alloc _ _ _ (by simp [hh])).trans e
  have n0 : ¬ F0 h := fun e => by have := hF0 _ e; omega
  have n1 : ¬ F0 (h + 1) := fun e => by have := hF0 _ e; omega
  have wide : ∀ {F : Nat → Prop} {X Y : World}, Fr X Y F → Fr X Y fun k => F k ∨ k = h + 1 := fun {F X Y} hf => hf.mono fun _ _ e => .inl e
  have putI : ∀ {F : Nat → Prop} {X : World} {s : List α} (o : Obj), ¬ F h → ¬ F (h + 1) → I s F X → I s F (X.putObj (h + 1) o) := fun {F X s} o z0 z1 hi => hI s F F X _ hi z0 z1 ((fr_put o).mono fun k _ e => .inr e) (fun _ e => .inl e) (fun hl k hk => by simpa using hl k hk)
  have putIx : ∀ {F : Nat → Prop} {X : World} {s : List α} {c : Code} (o : Obj), ¬ F h → ¬ F (h + 1) → Ix c s F X → Ix c s F (X.putObj (h + 1) o) := fun {F X s c} o z0 z1 hi => hIx c s F F X _ hi z0 z1 ((fr_put o).mono fun k _ e => .inr e) (fun _ e => .inl e) (fun hl k hk => by simpa using hl k hk)
  refine ⟨h + 1, [{ target := .collected h, args := #[] }], V, { target := .fn (.func gf) lb, args := pa ++ #[.func (.yield (h + 1)) #[] #[]] }, V, gf, pa ++ #[.func (.yield (h + 1)) #[] #[]] ++ lb, V, ?_, ?_, ?_, ?_, fun _ => h1, ?_⟩
  · have e := run_enterLoop_outer (P := Tryd.prog) (w := w) fn a.tmps ps assign body
    rw [← hh] at e
    exact e
  · simp only [resolve, hg]
    simp [go_sem]
  · intro f' _; trivial
  · simp [invoke, go_sem, eg]
  · refine (hseq (rc .ready none) (fun pre F W => (I pre F W ∧ ¬ F h ∧ ¬ F (h + 1)) ∧ W.heap[h + 1]? = some (.loop (rc .ready none)) ∧ W.heap[h]? = some (.deferred (some [])))
      (fun pre F W => ∃ c, (Ix c pre F W ∧ ¬ F h ∧ ¬ F (h + 1)) ∧ W.heap[h + 1]? = some (.loop (rc .done (some c))) ∧ W.heap[h]? = some (.deferred (some [])))
      (fun s F F' X Y hs hf => by
        obtain ⟨⟨hi, z0, z1⟩, e1, e0⟩ := hs
        have l1 := blk_lt e1
        have nF : ∀ k, k < X.heap.size → ¬ F k → ¬ F' k := fun k hk hn hf' => by rcases hf.nw k hf' with e | e; exact hn e; omega
        exact ⟨⟨hI s F F' X Y hi z0 z1 (wide hf.fr) hf.nw hf.lt, nF _ (by omega) z0, nF _ l1 z1⟩, (hf.fr.block _ l1 z1).trans e1, (hf.fr.block _ (by omega) z0).trans e0⟩)
      (fun s F F' X Y hs hf => by
        obtain ⟨c, ⟨hi, z0, z1⟩, e1, e0⟩ := hs
        have l1 := blk_lt e1
        have nF : ∀ k, k < X.heap.size → ¬ F k → ¬ F' k := fun k hk hn hf' => by rcases hf.nw k hf' with e | e; exact hn e; omega
        exact ⟨c, ⟨hIx c s F F' X Y hi z0 z1 (wide hf.fr) hf.nw hf.lt, nF _ (by omega) z0, nF _ l1 z1⟩, (hf.fr.block _ l1 z1).trans e1, (hf.fr.block _ (by omega) z0).trans e0⟩) ?_
      ⟨⟨h0 (rc .ready none), n0, n1⟩, hV1, hV0⟩).mono ?_
    · rintro pre x F X ⟨⟨hi, z0, z1⟩, e1, e0⟩ hlen
      have hy := run_yield (P := Tryd.prog) (args := enc x) e1 (by simp [rc, hps])
      have hlt : h + 1 < X.heap.size := blk_lt e1
      refine ⟨fn, _, assign, body, hy, roundIn_of_wpIn hfn (wpIn_mono (hround pre x F X hlen (by omega) z0 z1 hi) ?_)⟩
      clear hy
      rintro ee a' W' hp'
      cases ee with
      | exit id => exact hp'.elim
      | goto t => exact hp'.elim
      | ret => exact hp'.elim
      | panic ch => exact hp'.elim
      | outgrown => exact hp'.elim
      | normal =>
      obtain ⟨hgx, hbody⟩ := hp'
      have e1' : W'.heap[h + 1]? = some (.loop (rc .ready none)) := (hgx.below.block _ hlt).trans e1
      have e0' : W'.heap[h]? = some (.deferred (some [])) := (hgx.below.block _ (by omega)).trans e0
      refine ⟨_, run_beginRound e1' rfl, ?_⟩
      let X2 : World := W'.putObj (h + 1) (.loop { rc .ready none with state := .busy })
      have f1 : X2.heap[h + 1]? = some (.loop { rc .ready none with state := .busy }) := World.putObj_heap_same (blk_lt e1')
      have f0 : X2.heap[h]? = some (.deferred (some [])) := (World.putObj_heap_other (by omega)).trans e0'
      have fk : KAll F b X X2 := (KAll.grown hgx (by omega)).trans (KAll.put _ z1 (by omega))
      have hi2 : I pre F X2 := putI _ z0 z1 (hI _ _ _ _ _ hi z0 z1 (fr_grown hgx _) (fun _ e => .inl e) fun hl k hk => Nat.lt_of_lt_of_le (hl k hk) hgx.size)
      -- how a round ends
      have fin : ∀ (jump : Option Code) (Y : World), KAll (ZF F h) b X2 Y → ∃ V', (Instr.endRound (h + 1) jump).run Tryd.prog Y = .ok (.bool jump.isNone) V' ∧ V' = Y.putObj (h + 1) (.loop (rc (if jump.isNone then .ready else .done) jump)) ∧
          V'.heap[h + 1]? = some (.loop (rc (if jump.isNone then .ready else .done) jump)) ∧ V'.heap[h]? = some (.deferred (some [])) ∧ KAll F b X V' := fun jump Y hY => by
        have y1 := hY.same _ _ (.inr (.inr rfl)) f1
        have y0 := hY.same _ _ (.inr (.inl rfl)) f0
        exact ⟨_, run_endRound jump y1, rfl, World.putObj_heap_same (blk_lt y1), (World.putObj_heap_other (by omega)).trans y0, (fk.trans (hY.mono (fun _ e => .inl e) (Nat.le_refl _))).trans (KAll.put _ z1 (by omega))⟩
      refine wpIn_mono (hbody X2 hi2 (by simp [X2]) (fun k hk => World.putObj_heap_other hk) ⟨_, f1⟩) ?_
      rintro e a3 Y hp
      cases e with
      | normal =>
        obtain ⟨k1, k3⟩ := hp
        obtain ⟨V', hr, rfl, y1, y0, kz⟩ := fin none Y k1
        exact ⟨_, _, hr, .inl ⟨rfl, ⟨⟨putI _ z0 z1 k3, z0, z1⟩, y1, y0⟩, kz⟩⟩
      | ret =>
        obtain ⟨k1, k3⟩ := hp
        obtain ⟨V', hr, rfl, y1, y0, kz⟩ := fin (some .ret) Y k1
        exact ⟨_, _, hr, .inr ⟨rfl, ⟨.ret, ⟨putIx _ z0 z1 k3, z0, z1⟩, y1, y0⟩, kz⟩⟩
      | exit id =>
        obtain ⟨k1, k3⟩ := hp
        obtain ⟨V', hr, rfl, y1, y0, kz⟩ := fin (some (.exit id)) Y k1
        exact ⟨_, _, hr, .inr ⟨rfl, ⟨.exit id, ⟨putIx _ z0 z1 k3, z0, z1⟩, y1, y0⟩, kz⟩⟩
      | goto t =>
        obtain ⟨k1, k3⟩ := hp
        obtain ⟨V', hr, rfl, y1, y0, kz⟩ := fin (some (.goto t)) Y k1
        exact ⟨_, _, hr, .inr ⟨rfl, ⟨.goto t, ⟨putIx _ z0 z1 k3, z0, z1⟩, y1, y0⟩, kz⟩⟩
      | panic ch => exact hp.elim
      | outgrown => exact hp.elim
    · rintro e Y ⟨⟨v, rfl⟩, (⟨F, ⟨⟨hi, z0, z1⟩, e1, e0⟩, hEY⟩ | ⟨pre, F, hSp, c, ⟨hi, z0, z1⟩, e1, e0⟩)⟩
      · exact ⟨none, _, run_endLoop e1 (by simp [rc]), hdone F _ z0 z1 (putI _ z0 z1 hi) (hE _ _ _ z1 hEY) ((World.putObj_heap_other (by omega)).trans e0)⟩
      · exact ⟨some c, _, run_endLoop e1 (by simp [rc]), hstop c pre F _ hSp z0 z1 (putIx _ z0 z1 hi) ((World.putObj_heap_other (by omega)).trans e0)⟩
theorem wpIn_overFZ {α : Type} {enc : α → Array Value} {n : Nat} {g : Operand} {ps : Array Tmp} {assign body : Code} {Q : Exit → Act → World → Prop} {a : Act} {w : World} (h1 : 1 ≤ n) {gf : Nat} {pa lb : Array Value}
    (hg : a.eval g = .func (.func gf) pa lb) (eg : ∀ args w, (callFunc gf args).run Tryd.prog w = .ok (.enter gf args) w) {xf : List α} {b h : Nat} {F0 : Nat → Prop} {E : (Nat → Prop) → World → Prop} (hh : h = w.heap.size) (hbh : b ≤ h) (hF0 : ∀ k, F0 k → k < h)
    (hseq : ∀ r : Loop, SeqF (n - 1) gf pa lb enc xf b F0 E ((w.alloc (.deferred (some []))).alloc (.loop r)) (h + 1)) (hE : ∀ F X o, ¬ F (h + 1) → E F X → E F (X.putObj (h + 1) o)) (hps : ∀ x, (enc x).size = ps.size)
    (I : List α → (Nat → Prop) → World → Prop) (Ix : Code → List α → (Nat → Prop) → World → Prop) (hI : StabI h I) (hIx : ∀ c, StabI h (Ix c)) (h0 : ∀ r : Loop, I [] F0 ((w.alloc (.deferred (some []))).alloc (.loop r))) (a₁ : α → World → Act) (gw : α → World → World) (hgw : ∀ x W, Grown W (gw x W))
    (hassign : ∀ (l : Nat) (x : α) (W : World) (K : Act → World → Prop), K (a₁ x W) (gw x W) → assign.wpIn (Fence.wide.inRound l) (n - 1 - 1) Tryd.prog (Exit.then K (fun _ _ _ => False)) { tmps := (ps.zip (enc x)).foldl (fun t (p, v) => t.setIfInBounds p v) a.tmps, defers := [] } W)
    (hbody : ∀ (pre : List α) (x : α) (F : Nat → Prop) (W X : World), I pre F X → pre ++ [x] <+: xf → h + 2 ≤ W.heap.size → ¬ F h → ¬ F (h + 1) → X.heap.size = (gw x W).heap.size → (∀ k, k ≠ h + 1 → X.heap[k]? = (gw x W).heap[k]?) → I pre F W → body.wpIn (Fence.wide.inRound (h + 1)) (n - 1 - 1) Tryd.prog (wPostF h b I Ix (pre ++ [x]) F X) (a₁ x W) X)
    (hdone : ∀ (F : Nat → Prop) (W : World), ¬ F h → ¬ F (h + 1) → I xf F W → E F W → W.heap[h]? = some (.deferred (some [])) → Q .normal { a with defers := { target := .collected h, args := #[] } :: a.defers } W)
    (hstop : ∀ (c : Code) (pre : List α) (F : Nat → Prop) (W : World), (pre <+: xf ∧ pre ≠ []) → ¬ F h → ¬ F (h + 1) → Ix c pre F W → W.heap[h]? = some (.deferred (some [])) → c.wpIn Fence.wide n Tryd.prog Q { a with defers := { target := .collected h, args := #[] } :: a.defers } W) :
    (Code.rangeFunc g ps assign body).wpIn Fence.wide n Tryd.prog Q a w :=
  wpIn_overF h1 hg eg hh hbh hF0 hseq hE hps I Ix hI hIx h0 (fun pre x F W hp hW z0 z1 hIW => hassign (h + 1) x W _ ⟨hgw x W, fun X hX hs hk _ => hbody pre x F W X hX hp hW z0 z1 hs hk hIW⟩) hdone hstop
end Go.Proofs
