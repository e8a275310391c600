/-
  names: sameSets, sameRule, samePass and samePasses say true of what is the same.
-/
import Derived.Shelf.Abstract
import Derived.Shelf.RegionOpen
import Derived.WalkKit
import Derived.WalkSpells
import Derived.WalkLawsBesides
import Derived.OwnWalk
import Derived.BigQuiet
import Derived.Deep.QuietTactic
import Derived.Deep.LoopGhost
import Derived.Deep.RegionWith
import Derived.Deep.AppendLies
import Derived.Deep.DeepCutAuto
import Derived.Laws.EntriesVeiled
import Derived.Lib.OthersKept
import Derived.Maps.AppendAt
import Derived.Maps.OwnSet
import Derived.StringKeys
import Derived.WalkMore
import Derived.Lib.SmallJoins
import Derived.Test.YtbacejefgpaabaaDoorNt
import Derived.Test.YtbacejefgpaabaaDoorNp
namespace Go.Proofs
open Go.RowKit Go.Shelf

set_option maxRecDepth 100000
attribute [local go_sem] Oper.semAt_some

/-- a row of sets, cell by cell -/
def SCells (w : World) (g : Nat) (ls : List (List (Int × Int))) : Prop := ∀ (j : Nat) (hj : j < ls.length), ∃ a n c, w.cell? ⟨g, j, none⟩ = some (.slice a n c) ∧ Rs w (.slice a n c) ls[j]
theorem SRow.get {W : World} {base : Nat} {v : Value} {ls : List (List (Int × Int))} (h : SRow W base v ls) : (ls = [] ∧ ∃ A c, v = .slice A 0 c) ∨ ∃ g c, v = .slice (some ⟨g, 0, none⟩) ls.length c ∧ SCells W g ls := by
  obtain ⟨vs, h1, h2, h3, h4⟩ := h
  by_cases h0 : ls = []
  · subst h0
    have hv0 : vs = [] := List.eq_nil_of_length_eq_zero h1
    subst hv0
    left
    refine ⟨rfl, ?_⟩
    rcases h2.2 with ⟨rfl, _⟩ | ⟨g, cap, cur, rfl, _⟩
    · exact ⟨_, _, rfl⟩
    · exact ⟨_, _, rfl⟩
  · right
    have hpos : 0 < vs.length := by rw [h1]; exact List.length_pos_iff.2 h0
    obtain ⟨g, cap, rfl, _, _⟩ := h2.form hpos
    refine ⟨g, cap, by rw [h1], fun j hj => ?_⟩
    have hjv : j < vs.length := by omega
    obtain ⟨a, n, c, e⟩ := h3 vs[j] (List.getElem_mem hjv)
    have hc := h2.cells (g := g) rfl j vs[j] (by rw [List.getElem?_eq_getElem hjv])
    have hr := (h4 j hjv hj).rs
    rw [e] at hc hr
    rw [add_zero_at] at hc
    exact ⟨a, n, c, hc, hr⟩
theorem SCells.below {w w' : World} {g : Nat} {ls : List (List (Int × Int))} (h : SCells w g ls) (hb : Below w.heap.size w w') : SCells w' g ls := fun j hj => by
  obtain ⟨a, n, c, h1, h2⟩ := h j hj
  exact ⟨a, n, c, (hb.cell (p := ⟨g, j, none⟩) (cell_lt h1)).trans h1, h2.below hb (Nat.le_refl _)⟩
set_option maxHeartbeats 2000000 in
theorem sets_nil (a b : Option Addr) (c d : Nat) (w : World) : Calls Tryd.prog 61 #[.slice a 0 c, .slice b 0 d] w fun e w' => e = .returned (.bool true) ∧ Below w.heap.size w w' := by
  go_enter Tryd.func61, Tryd.ntmps61
  go_wp2
  refine wp_loop_rounds 1 ?_
  rw [rounds_succ]
  go_wp2
  go_ret
  exact ⟨rfl, Below.refl _ _⟩
set_option maxHeartbeats 4000000 in
theorem sets_walk (g h c d n : Nat) (ls : List (List (Int × Int))) (w : World) (hn : ls.length = n) (hn5 : n ≤ 1000000) (h1 : SCells w g ls) (h2 : SCells w h ls) (h512 : ∀ l ∈ ls, l.length ≤ 512) :
    Calls Tryd.prog 61 #[.slice (some ⟨g, 0, none⟩) n c, .slice (some ⟨h, 0, none⟩) n d] w fun e w' => e = .returned (.bool true) ∧ Below w.heap.size w w' := by
  have H1 : Hid (∀ W, Below w.heap.size w W → SCells W g ls) := fun W hW => h1.below hW
  have H2 : Hid (∀ W, Below w.heap.size w W → SCells W h ls) := fun W hW => h2.below hW
  have H5 : Hid (∀ l ∈ ls, l.length ≤ 512) := h512
  have HN : Hid (ls.length = n) := hn
  have hnI : (n : Int) ≤ 1000000 := by omega
  clear h1 h2 h512 hn
  go_enter Tryd.func61, Tryd.ntmps61
  go_wp2
  go_loopw [5] (fun vi wr => ∃ k : Nat, vi = .int .i64 k ∧ k ≤ n ∧ Hid (Below w.heap.size w wr)) (fun vi _ => n - (intOf vi).toNat)
  case atStart => exact ⟨0, rfl, by omega, Below.refl _ _⟩
  case round =>
    obtain ⟨k, rfl, hk, HG⟩ := hrel
    have hk0 : (0 : Int) ≤ (k : Int) := by omega
    have hkI : (k : Int) ≤ 1000000 := by omega
    by_cases hkn : k = n
    · subst hkn
      go_wp2
      go_ret
      exact ⟨rfl, HG.out⟩
    · have hlt : k < n := by omega
      have hltI : (k : Int) < (n : Int) := by omega
      have hkl : k < ls.length := by rw [HN.out]; exact hlt
      obtain ⟨a1, m1, e1, f1, r1⟩ := H1.out wr HG.out k hkl
      obtain ⟨a2, m2, e2, f2, r2⟩ := H2.out wr HG.out k hkl
      have h5 := H5.out ls[k] (List.getElem_mem hkl)
      have HC : Hid (Calls Tryd.prog 11 #[.slice a1 m1 e1, .slice a2 m2 e2] wr.drew fun e w' => e = .returned (.bool true) ∧ Below w.heap.size w w') := (same_any _ _ ls[k] wr.drew h5 (r1.below (Below.refl _ _).drew (Nat.le_refl _)) (r2.below (Below.refl _ _).drew (Nat.le_refl _))).mono (fun e w' ⟨h1, h2⟩ => ⟨h1, HG.out.drew.trans (h2.below.mono HG.out.drew.size)⟩)
      clear r1 r2 h5 HN H1 H2 H5
      go_upto_region 6 with fail
      go_cut [26] (fun s26 wx => s26 = .bool false ∧ Hid (Below w.heap.size w wx))
      case first =>
        go_region_with (go_at_call 11; go_must (refine HC.out.mono ?_; rintro e w2 ⟨rfl, hb⟩; have HV : Hid (Below w.heap.size w w2) := hb; clear hb))
        all_goals (go_wp2_with fail; go_meet; exact ⟨rfl, HV.out⟩)
      case rest =>
        obtain ⟨rfl, HV⟩ := hcut
        go_wp2
        exact ⟨⟨k + 1, by go_num, by omega, HV.out⟩, by simp [intOf]; omega⟩
theorem sets_any (v u : Value) (ls : List (List (Int × Int))) (b1 b2 : Nat) (w : World) (hn : ls.length ≤ 1000000) (h1 : SRow w b1 v ls) (h2 : SRow w b2 u ls) (h512 : ∀ l ∈ ls, l.length ≤ 512) : Calls Tryd.prog 61 #[v, u] w fun e w' => e = .returned (.bool true) ∧ Below w.heap.size w w' := by
  rcases h1.get with ⟨rfl, A, c, rfl⟩ | ⟨g, c, rfl, g1⟩
  · rcases h2.get with ⟨_, B, d, rfl⟩ | ⟨h, d, rfl, _⟩
    · exact sets_nil A B c d w
    · exact sets_nil A _ c d w
  · rcases h2.get with ⟨rfl, B, d, rfl⟩ | ⟨h, d, rfl, g2⟩
    · exact sets_nil _ B c d w
    · exact sets_walk g h c d _ ls w rfl hn g1 g2 h512
end Go.Proofs
namespace Go.Proofs
open Go.RowKit Go.Shelf

set_option maxRecDepth 100000
attribute [local go_sem] Oper.semAt_some

/-- a row of pieces, cell by cell -/
def PCells (w : World) (g : Nat) (ps : List Pc) : Prop := ∀ (j : Nat) (hj : j < ps.length), ∃ a n c, (w.cell? ⟨g, j * 4, none⟩ = some (.int .i64 ps[j].k) ∧ w.cell? ⟨g, j * 4 + 1, none⟩ = some (.int .i64 ps[j].u) ∧ w.cell? ⟨g, j * 4 + 2, none⟩ = some (.int .i64 ps[j].y) ∧ w.cell? ⟨g, j * 4 + 3, none⟩ = some (.slice a n c)) ∧ Rs w (.slice a n c) ps[j].tl
theorem fp_get : ∀ (es : List PcV) (j : Nat) (hj : j < es.length) (i : Nat), i < 4 → (fp es)[j * 4 + i]? = (fp1 es[j])[i]?
  | [], j, hj, _, _ => by simp at hj
  | e :: es, 0, _, i, hi => by
    show (fp1 e ++ fp es)[0 * 4 + i]? = _
    rw [List.getElem?_append_left (by simp [fp1]; omega)]
    simp
  | e :: es, j + 1, hj, i, hi => by
    show (fp1 e ++ fp es)[(j + 1) * 4 + i]? = _
    rw [List.getElem?_append_right (by simp [fp1]; omega)]
    have e1 : (j + 1) * 4 + i - (fp1 e).length = j * 4 + i := by simp [fp1]; omega
    rw [e1, fp_get es j (by simpa using hj) i hi]
    simp
theorem PcRow.get {W : World} {base : Nat} {v : Value} {ps : List Pc} (h : PcRow W base v ps) : (ps = [] ∧ ∃ A c, v = .slice A 0 c) ∨ ∃ g c, v = .slice (some ⟨g, 0, none⟩) ps.length c ∧ PCells W g ps := by
  obtain ⟨es, rfl, h2, h3⟩ := h
  by_cases h0 : es = []
  · subst h0
    left
    refine ⟨rfl, ?_⟩
    rcases h2.2 with ⟨rfl, _⟩ | ⟨g, cap, cur, rfl, _⟩
    · exact ⟨_, _, rfl⟩
    · exact ⟨_, _, rfl⟩
  · right
    obtain ⟨g, cap, rfl, _, _⟩ := h2.form (List.length_pos_iff.2 h0)
    refine ⟨g, cap, by simp, fun j hj => ?_⟩
    have hje : j < es.length := by simpa using hj
    have key : ∀ (i : Nat) (u : Value), i < 4 → (fp1 es[j])[i]? = some u → W.cell? ⟨g, j * 4 + i, none⟩ = some u := fun i u hi hu => by
      have := h2.cells (g := g) rfl (j * 4 + i) u (by rw [fp_get es j hje i hi]; exact hu)
      rwa [add_zero_at] at this
    have e : (es.map PcV.p)[j] = es[j].p := by simp
    rw [e]
    exact ⟨es[j].a, es[j].n, es[j].c, ⟨key 0 _ (by omega) rfl, key 1 _ (by omega) rfl, key 2 _ (by omega) rfl, key 3 _ (by omega) rfl⟩, (h3 es[j] (List.getElem_mem hje)).rs⟩
theorem PCells.below {w w' : World} {g : Nat} {ps : List Pc} (h : PCells w g ps) (hb : Below w.heap.size w w') : PCells w' g ps := fun j hj => by
  obtain ⟨a, n, c, ⟨h0, h1, h2, h3⟩, h4⟩ := h j hj
  exact ⟨a, n, c, ⟨(hb.cell (cell_lt h0)).trans h0, (hb.cell (cell_lt h1)).trans h1, (hb.cell (cell_lt h2)).trans h2, (hb.cell (cell_lt h3)).trans h3⟩, h4.below hb (Nat.le_refl _)⟩
/-- a result's slice: none, or a row -/
def PSl (w : World) (v : Value) (ps : List Pc) : Prop := ∃ A c, v = .slice A ps.length c ∧ (ps = [] ∨ ∃ g, A = some ⟨g, 0, none⟩ ∧ PCells w g ps)
theorem PcRow.psl {W : World} {base : Nat} {v : Value} {ps : List Pc} (h : PcRow W base v ps) : PSl W v ps := by
  rcases h.get with ⟨rfl, A, c, rfl⟩ | ⟨g, c, rfl, h'⟩
  · exact ⟨A, c, rfl, .inl rfl⟩
  · exact ⟨_, c, rfl, .inr ⟨g, rfl, h'⟩⟩
/-- sets and pieces that are no longer than sets are -/
structure Small (r : Rl) : Prop where
  a : r.ante.length ≤ 1000000 ∧ ∀ l ∈ r.ante, l.length ≤ 512
  k : r.key.length ≤ 1000000 ∧ ∀ l ∈ r.key, l.length ≤ 512
  p : r.post.length ≤ 1000000 ∧ ∀ l ∈ r.post, l.length ≤ 512
  x : r.res.length ≤ 1000000 ∧ ∀ p ∈ r.res, p.tl.length ≤ 512
abbrev rlval (r : Rl) (a k p x : Value) : Value := .agg #[.bool r.bg, a, k, p, .bool r.en, x, .int .i64 r.cu]
/-- two boxes behind w -/
def BX (w W : World) (c1 c2 : List Value) (t : TypeId) : Prop := W.heap[w.heap.size]? = some (.cells c1.toArray t (0, 0)) ∧ W.heap[w.heap.size + 1]? = some (.cells c2.toArray t (0, 0)) ∧ Below w.heap.size w W
theorem BX.start (w : World) (c1 c2 : List Value) (t : TypeId) : BX w ((w.alloc (.cells c1.toArray t)).alloc (.cells c2.toArray t)) c1 c2 t :=
  ⟨blk_up (blk_new rfl) _, blk_new (by simp), ((Below.refl _ _).alloc (Nat.le_refl _) _).alloc (by simp) _⟩
theorem BX.call {w W W' : World} {c1 c2 : List Value} {t : TypeId} (h : BX w W c1 c2 t) (hb : Below W.heap.size W W') : BX w W' c1 c2 t :=
  ⟨(hb.block _ (Array.getElem?_eq_some_iff.1 h.1).1).trans h.1, (hb.block _ (Array.getElem?_eq_some_iff.1 h.2.1).1).trans h.2.1, h.2.2.trans (hb.mono h.2.2.size)⟩
theorem BX.c {w W : World} {c1 c2 : List Value} {t : TypeId} (h : BX w W c1 c2 t) (j : Nat) : W.cell? ⟨w.heap.size, j, none⟩ = c1[j]? ∧ W.cell? ⟨w.heap.size + 1, j, none⟩ = c2[j]? := by
  simp [World.cell?, h.1, h.2.1]
set_option maxHeartbeats 8000000 in
theorem rule_same (r : Rl) (a1 k1 p1 x1 a2 k2 p2 x2 : Value) (b1 b2 : Nat) (w : World) (hs : Small r) (h1 : RuleM w b1 ⟨r, a1, k1, p1, x1⟩) (h2 : RuleM w b2 ⟨r, a2, k2, p2, x2⟩) :
    Calls Tryd.prog 46 #[rlval r a1 k1 p1 x1, rlval r a2 k2 p2 x2] w fun e w' => e = .returned (.bool true) ∧ Below w.heap.size w w' := by
  have HA : Hid (∀ W, Below w.heap.size w W → Calls Tryd.prog 61 #[a1, a2] W fun e w' => e = .returned (.bool true) ∧ Below W.heap.size W w') := fun W hW => sets_any a1 a2 r.ante b1 b2 W hs.a.1 (h1.1.kt (KT.below hW) (KT.below hW)) (h2.1.kt (KT.below hW) (KT.below hW)) hs.a.2
  have HK : Hid (∀ W, Below w.heap.size w W → Calls Tryd.prog 61 #[k1, k2] W fun e w' => e = .returned (.bool true) ∧ Below W.heap.size W w') := fun W hW => sets_any k1 k2 r.key b1 b2 W hs.k.1 (h1.2.1.kt (KT.below hW) (KT.below hW)) (h2.2.1.kt (KT.below hW) (KT.below hW)) hs.k.2
  have HP : Hid (∀ W, Below w.heap.size w W → Calls Tryd.prog 61 #[p1, p2] W fun e w' => e = .returned (.bool true) ∧ Below W.heap.size W w') := fun W hW => sets_any p1 p2 r.post b1 b2 W hs.p.1 (h1.2.2.1.kt (KT.below hW) (KT.below hW)) (h2.2.2.1.kt (KT.below hW) (KT.below hW)) hs.p.2
  obtain ⟨aa, an, ac, rfl⟩ := h1.1.sl
  obtain ⟨ba, bn, bc, rfl⟩ := h2.1.sl
  obtain ⟨ka, kn, kc, rfl⟩ := h1.2.1.sl
  obtain ⟨la, ln, lc, rfl⟩ := h2.2.1.sl
  obtain ⟨pa, pn, pc, rfl⟩ := h1.2.2.1.sl
  obtain ⟨qa, qn, qc, rfl⟩ := h2.2.2.1.sl
  have q1 : PSl w x1 r.res := h1.2.2.2.psl
  have q2 : PSl w x2 r.res := h2.2.2.2.psl
  obtain ⟨X1, xc1, rfl, hx1⟩ := q1
  obtain ⟨X2, xc2, rfl, hx2⟩ := q2
  have H5 : Hid (∀ p ∈ r.res, p.tl.length ≤ 512) := hs.x.2
  obtain ⟨n, hn⟩ : ∃ n, r.res.length = n := ⟨_, rfl⟩
  have hn5 : n ≤ 1000000 := by have := hs.x.1; omega
  have hnI : (n : Int) ≤ 1000000 := by omega
  have HX1 : Hid (r.res = [] ∨ ∃ g, X1 = some ⟨g, 0, none⟩ ∧ ∀ W, Below w.heap.size w W → PCells W g r.res) := hx1.imp id (fun ⟨g, e, h⟩ => ⟨g, e, fun W hW => h.below hW⟩)
  have HX2 : Hid (r.res = [] ∨ ∃ g, X2 = some ⟨g, 0, none⟩ ∧ ∀ W, Below w.heap.size w W → PCells W g r.res) := hx2.imp id (fun ⟨g, e, h⟩ => ⟨g, e, fun W hW => h.below hW⟩)
  have HN : Hid (r.res.length = n) := hn
  obtain ⟨bg, en, cu, ra, rk, rp, rr⟩ := r
  simp only at hn HX1 HX2 HN H5
  simp only [hn]
  clear h1 h2 hs hx1 hx2 hn
  go_enter Tryd.func46, Tryd.ntmps46
  have HS : Hid (BX w ((w.alloc (.cells [.bool bg, .slice aa an ac, .slice ka kn kc, .slice pa pn pc, .bool en, .slice X1 n xc1, .int .i64 cu].toArray 59)).alloc (.cells [.bool bg, .slice ba bn bc, .slice la ln lc, .slice qa qn qc, .bool en, .slice X2 n xc2, .int .i64 cu].toArray 59)) [.bool bg, .slice aa an ac, .slice ka kn kc, .slice pa pn pc, .bool en, .slice X1 n xc1, .int .i64 cu] [.bool bg, .slice ba bn bc, .slice la ln lc, .slice qa qn qc, .bool en, .slice X2 n xc2, .int .i64 cu] 59) := BX.start _ _ _ _
  go_wp2_with fail
  refine (HA.out _ HS.out.2.2).mono ?_
  rintro e w1 ⟨rfl, hb1⟩
  have hx1 : BX w w1 [.bool bg, .slice aa an ac, .slice ka kn kc, .slice pa pn pc, .bool en, .slice X1 n xc1, .int .i64 cu] [.bool bg, .slice ba bn bc, .slice la ln lc, .slice qa qn qc, .bool en, .slice X2 n xc2, .int .i64 cu] 59 := HS.out.call hb1
  have HX : Hid (BX w w1 [.bool bg, .slice aa an ac, .slice ka kn kc, .slice pa pn pc, .bool en, .slice X1 n xc1, .int .i64 cu] [.bool bg, .slice ba bn bc, .slice la ln lc, .slice qa qn qc, .bool en, .slice X2 n xc2, .int .i64 cu] 59) := hx1
  have z21 : w1.cell? ⟨w.heap.size, 2, none⟩ = some (.slice ka kn kc) := (hx1.c 2).1
  have z22 : w1.cell? ⟨w.heap.size + 1, 2, none⟩ = some (.slice la ln lc) := (hx1.c 2).2
  have z31 : w1.cell? ⟨w.heap.size, 3, none⟩ = some (.slice pa pn pc) := (hx1.c 3).1
  have z32 : w1.cell? ⟨w.heap.size + 1, 3, none⟩ = some (.slice qa qn qc) := (hx1.c 3).2
  clear hx1 hb1 HS HA
  go_wp2_with fail
  refine (HK.out _ HX.out.2.2).mono ?_
  rintro e w2 ⟨rfl, hb1⟩
  have HY : Hid (BX w w2 [.bool bg, .slice aa an ac, .slice ka kn kc, .slice pa pn pc, .bool en, .slice X1 n xc1, .int .i64 cu] [.bool bg, .slice ba bn bc, .slice la ln lc, .slice qa qn qc, .bool en, .slice X2 n xc2, .int .i64 cu] 59) := HX.out.call hb1
  clear z21 z22 z31 z32
  have z21 : w2.cell? ⟨w.heap.size, 2, none⟩ = some (.slice ka kn kc) := (HY.out.c 2).1
  have z22 : w2.cell? ⟨w.heap.size + 1, 2, none⟩ = some (.slice la ln lc) := (HY.out.c 2).2
  have z31 : w2.cell? ⟨w.heap.size, 3, none⟩ = some (.slice pa pn pc) := (HY.out.c 3).1
  have z32 : w2.cell? ⟨w.heap.size + 1, 3, none⟩ = some (.slice qa qn qc) := (HY.out.c 3).2
  clear hb1 HX HK
  go_wp2_with fail
  refine (HP.out _ HY.out.2.2).mono ?_
  rintro e w3 ⟨rfl, hb1⟩
  have HZ : Hid (BX w w3 [.bool bg, .slice aa an ac, .slice ka kn kc, .slice pa pn pc, .bool en, .slice X1 n xc1, .int .i64 cu] [.bool bg, .slice ba bn bc, .slice la ln lc, .slice qa qn qc, .bool en, .slice X2 n xc2, .int .i64 cu] 59) := HY.out.call hb1
  clear z21 z22 z31 z32 hb1 HY HP
  go_wp2
  go_loopw [5] (fun vi wr => ∃ k : Nat, vi = .int .i64 k ∧ k ≤ n ∧ Hid (BX w wr [.bool bg, .slice aa an ac, .slice ka kn kc, .slice pa pn pc, .bool en, .slice X1 n xc1, .int .i64 cu] [.bool bg, .slice ba bn bc, .slice la ln lc, .slice qa qn qc, .bool en, .slice X2 n xc2, .int .i64 cu] 59)) (fun vi _ => n - (intOf vi).toNat)
  case atStart => exact ⟨0, rfl, by omega, HZ.out⟩
  case round =>
    obtain ⟨k, rfl, hk, HG⟩ := hrel
    have hk0 : (0 : Int) ≤ (k : Int) := by omega
    have hkI : (k : Int) ≤ 1000000 := by omega
    have y1 : wr.cell? ⟨w.heap.size, 5, none⟩ = some (.slice X1 n xc1) := (HG.out.c 5).1
    have y2 : ∀ o, (wr.alloc o).cell? ⟨w.heap.size + 1, 5, none⟩ = some (.slice X2 n xc2) := fun o => cell_up (HG.out.c 5).2 o
    by_cases hkn : k = n
    · subst hkn
      go_wp2
      go_ret
      exact ⟨rfl, HG.out.2.2⟩
    · have hlt : k < n := by omega
      have hltI : (k : Int) < (n : Int) := by omega
      have hkl : k < rr.length := by rw [HN.out]; exact hlt
      have hne : rr ≠ [] := fun e => by rw [e] at hkl; simp at hkl
      obtain ⟨g1, rfl, hc1⟩ := HX1.out.resolve_left hne
      obtain ⟨g2, rfl, hc2⟩ := HX2.out.resolve_left hne
      obtain ⟨a1, m1, e1, ⟨q0, q1, q2, q3⟩, s1⟩ := hc1 wr HG.out.2.2 k hkl
      obtain ⟨a2, m2, e2, ⟨r0, r1, r2, r3⟩, s2⟩ := hc2 wr HG.out.2.2 k hkl
      have h5 := H5.out rr[k] (List.getElem_mem hkl)
      obtain ⟨⟨pk, pu, py, pt⟩, hp⟩ : ∃ p, rr[k] = p := ⟨_, rfl⟩
      rw [hp] at q0 q1 q2 r0 r1 r2 s1 s2 h5
      simp only at q0 q1 q2 r0 r1 r2 s1 s2 h5
      have r0' : ∀ o, (wr.alloc o).cell? ⟨g2, k * 4, none⟩ = some (.int .i64 pk) := fun o => cell_up r0 o
      have r1' : ∀ o, (wr.alloc o).cell? ⟨g2, k * 4 + 1, none⟩ = some (.int .i64 pu) := fun o => cell_up r1 o
      have r2' : ∀ o, (wr.alloc o).cell? ⟨g2, k * 4 + 2, none⟩ = some (.int .i64 py) := fun o => cell_up r2 o
      have r3' : ∀ o, (wr.alloc o).cell? ⟨g2, k * 4 + 3, none⟩ = some (.slice a2 m2 e2) := fun o => cell_up r3 o
      have HC : Hid (∀ o o2, Calls Tryd.prog 11 #[.slice a1 m1 e1, .slice a2 m2 e2] ((wr.alloc o).alloc o2) fun e w' => e = .returned (.bool true) ∧ BX w w' [.bool bg, .slice aa an ac, .slice ka kn kc, .slice pa pn pc, .bool en, .slice (some ⟨g1, 0, none⟩) n xc1, .int .i64 cu] [.bool bg, .slice ba bn bc, .slice la ln lc, .slice qa qn qc, .bool en, .slice (some ⟨g2, 0, none⟩) n xc2, .int .i64 cu] 59) := fun o o2 => by
        have hb : Below wr.heap.size wr ((wr.alloc o).alloc o2) := ((Below.refl _ _).alloc (Nat.le_refl _) _).alloc (by simp) _
        exact (same_any _ _ pt _ h5 (s1.below hb (Nat.le_refl _)) (s2.below hb (Nat.le_refl _))).mono (fun e w' ⟨h1, h2⟩ => ⟨h1, (HG.out.call hb).call h2.below⟩)
      clear r0 r1 r2 r3 s1 s2 hp hc1 hc2 h5 hne HX1 HX2 HG HZ
      go_wp2_with fail
      refine (HC.out _ _).mono ?_
      rintro e w4 ⟨rfl, hx⟩
      have HV : Hid (BX w w4 [.bool bg, .slice aa an ac, .slice ka kn kc, .slice pa pn pc, .bool en, .slice (some ⟨g1, 0, none⟩) n xc1, .int .i64 cu] [.bool bg, .slice ba bn bc, .slice la ln lc, .slice qa qn qc, .bool en, .slice (some ⟨g2, 0, none⟩) n xc2, .int .i64 cu] 59) := hx
      clear hx HC
      go_wp2
      exact ⟨⟨k + 1, by go_num, by omega, HV.out⟩, by simp [intOf]; omega⟩
end Go.Proofs
namespace Go.Proofs
open Go.RowKit Go.Shelf

set_option maxRecDepth 100000
attribute [local go_sem] Oper.semAt_some

theorem fr_get : ∀ (es : List RlV) (j : Nat) (hj : j < es.length) (i : Nat), i < 7 → (fr es)[j * 7 + i]? = (fr1 es[j])[i]?
  | [], j, hj, _, _ => by simp at hj
  | e :: es, 0, _, i, hi => by
    show (fr1 e ++ fr es)[0 * 7 + i]? = _
    rw [List.getElem?_append_left (by simp [fr1]; omega)]
    simp
  | e :: es, j + 1, hj, i, hi => by
    show (fr1 e ++ fr es)[(j + 1) * 7 + i]? = _
    rw [List.getElem?_append_right (by simp [fr1]; omega)]
    have e1 : (j + 1) * 7 + i - (fr1 e).length = j * 7 + i := by simp [fr1]; omega
    rw [e1, fr_get es j (by simpa using hj) i hi]
    simp
/-- a row of rules, cell by cell -/
def RCells (w : World) (base g : Nat) (rs : List Rl) : Prop := ∀ (j : Nat) (hj : j < rs.length), ∃ a1 n1 c1 a2 n2 c2 a3 n3 c3 a4 n4 c4, (w.cell? ⟨g, j * 7, none⟩ = some (.bool rs[j].bg) ∧ w.cell? ⟨g, j * 7 + 1, none⟩ = some (.slice a1 n1 c1) ∧ w.cell? ⟨g, j * 7 + 2, none⟩ = some (.slice a2 n2 c2) ∧ w.cell? ⟨g, j * 7 + 3, none⟩ = some (.slice a3 n3 c3) ∧ w.cell? ⟨g, j * 7 + 4, none⟩ = some (.bool rs[j].en) ∧ w.cell? ⟨g, j * 7 + 5, none⟩ = some (.slice a4 n4 c4) ∧ w.cell? ⟨g, j * 7 + 6, none⟩ = some (.int .i64 rs[j].cu)) ∧ RuleM w base ⟨rs[j], .slice a1 n1 c1, .slice a2 n2 c2, .slice a3 n3 c3, .slice a4 n4 c4⟩
theorem RCells.below {w w' : World} {base g : Nat} {rs : List Rl} (h : RCells w base g rs) (hb : Below w.heap.size w w') : RCells w' base g rs := fun j hj => by
  obtain ⟨a1, n1, c1, a2, n2, c2, a3, n3, c3, a4, n4, c4, ⟨h0, h1, h2, h3, h4, h5, h6⟩, h7⟩ := h j hj
  exact ⟨a1, n1, c1, a2, n2, c2, a3, n3, c3, a4, n4, c4, ⟨(hb.cell (cell_lt h0)).trans h0, (hb.cell (cell_lt h1)).trans h1, (hb.cell (cell_lt h2)).trans h2, (hb.cell (cell_lt h3)).trans h3, (hb.cell (cell_lt h4)).trans h4, (hb.cell (cell_lt h5)).trans h5, (hb.cell (cell_lt h6)).trans h6⟩, h7.kt (KT.below hb) (KT.below hb) (KT.below hb)⟩
def RSl (w : World) (base : Nat) (v : Value) (rs : List Rl) : Prop := ∃ A c, v = .slice A rs.length c ∧ (rs = [] ∨ ∃ g, A = some ⟨g, 0, none⟩ ∧ RCells w base g rs)
theorem RulesRow.rsl {W : World} {base : Nat} {v : Value} {rs : List Rl} (h : RulesRow W base v rs) : RSl W base v rs := by
  obtain ⟨es, rfl, h2, h3⟩ := h
  by_cases h0 : es = []
  · subst h0
    rcases h2.2 with ⟨rfl, _⟩ | ⟨g, cap, cur, rfl, _⟩
    · exact ⟨_, _, rfl, .inl rfl⟩
    · exact ⟨_, _, rfl, .inl rfl⟩
  · obtain ⟨g, cap, rfl, _, _⟩ := h2.form (List.length_pos_iff.2 h0)
    refine ⟨_, cap, by simp, .inr ⟨g, rfl, fun j hj => ?_⟩⟩
    have hje : j < es.length := by simpa using hj
    have key : ∀ (i : Nat) (u : Value), i < 7 → (fr1 es[j])[i]? = some u → W.cell? ⟨g, j * 7 + i, none⟩ = some u := fun i u hi hu => by
      have := h2.cells (g := g) rfl (j * 7 + i) u (by rw [fr_get es j hje i hi]; exact hu)
      rwa [add_zero_at] at this
    have e : (es.map RlV.r)[j] = es[j].r := by simp
    rw [e]
    have hM := h3 es[j] (List.getElem_mem hje)
    obtain ⟨a1, n1, c1, e1⟩ := hM.1.sl
    obtain ⟨a2, n2, c2, e2⟩ := hM.2.1.sl
    obtain ⟨a3, n3, c3, e3⟩ := hM.2.2.1.sl
    obtain ⟨a4, n4, c4, e4⟩ := hM.2.2.2.sl
    refine ⟨a1, n1, c1, a2, n2, c2, a3, n3, c3, a4, n4, c4, ⟨key 0 _ (by omega) rfl, key 1 _ (by omega) (by rw [← e1]; rfl), key 2 _ (by omega) (by rw [← e2]; rfl), key 3 _ (by omega) (by rw [← e3]; rfl), key 4 _ (by omega) rfl, key 5 _ (by omega) (by rw [← e4]; rfl), key 6 _ (by omega) rfl⟩, ?_⟩
    rw [← e1, ← e2, ← e3, ← e4]
    exact hM
set_option maxHeartbeats 8000000 in
theorem pass_same (rs : List Rl) (v1 v2 : Value) (b1 b2 : Nat) (w : World) (hn5 : rs.length ≤ 1000000) (hs : ∀ r ∈ rs, Small r) (h1 : RulesRow w b1 v1 rs) (h2 : RulesRow w b2 v2 rs) :
    Calls Tryd.prog 31 #[.agg #[v1], .agg #[v2]] w fun e w' => e = .returned (.bool true) ∧ Below w.heap.size w w' := by
  obtain ⟨X1, xc1, rfl, hx1⟩ := h1.rsl
  obtain ⟨X2, xc2, rfl, hx2⟩ := h2.rsl
  obtain ⟨n, hn⟩ : ∃ n, rs.length = n := ⟨_, rfl⟩
  have hnI : (n : Int) ≤ 1000000 := by omega
  have HX1 : Hid (rs = [] ∨ ∃ g, X1 = some ⟨g, 0, none⟩ ∧ ∀ W, Below w.heap.size w W → RCells W b1 g rs) := hx1.imp id (fun ⟨g, e, h⟩ => ⟨g, e, fun W hW => h.below hW⟩)
  have HX2 : Hid (rs = [] ∨ ∃ g, X2 = some ⟨g, 0, none⟩ ∧ ∀ W, Below w.heap.size w W → RCells W b2 g rs) := hx2.imp id (fun ⟨g, e, h⟩ => ⟨g, e, fun W hW => h.below hW⟩)
  have HN : Hid (rs.length = n) := hn
  have HSm : Hid (∀ r ∈ rs, Small r) := hs
  rw [hn]
  clear h1 h2 hs hx1 hx2 hn hn5
  have HS : Hid (BX w ((w.alloc (.cells [.slice X1 n xc1].toArray 62)).alloc (.cells [.slice X2 n xc2].toArray 62)) [.slice X1 n xc1] [.slice X2 n xc2] 62) := BX.start _ _ _ _
  go_enter Tryd.func31, Tryd.ntmps31
  go_wp2
  go_loopw [5] (fun vi wr => ∃ k : Nat, vi = .int .i64 k ∧ k ≤ n ∧ Hid (BX w wr [.slice X1 n xc1] [.slice X2 n xc2] 62)) (fun vi _ => n - (intOf vi).toNat)
  case atStart => exact ⟨0, rfl, by omega, HS.out⟩
  case round =>
    obtain ⟨k, rfl, hk, HG⟩ := hrel
    have hk0 : (0 : Int) ≤ (k : Int) := by omega
    have hkI : (k : Int) ≤ 1000000 := by omega
    have y1 : wr.cell? ⟨w.heap.size, 0, none⟩ = some (.slice X1 n xc1) := (HG.out.c 0).1
    have y2 : wr.cell? ⟨w.heap.size + 1, 0, none⟩ = some (.slice X2 n xc2) := (HG.out.c 0).2
    by_cases hkn : k = n
    · subst hkn
      go_wp2
      go_ret
      exact ⟨rfl, HG.out.2.2⟩
    · have hlt : k < n := by omega
      have hltI : (k : Int) < (n : Int) := by omega
      have hkl : k < rs.length := by rw [HN.out]; exact hlt
      have hne : rs ≠ [] := fun e => by rw [e] at hkl; simp at hkl
      obtain ⟨g1, rfl, hc1⟩ := HX1.out.resolve_left hne
      obtain ⟨g2, rfl, hc2⟩ := HX2.out.resolve_left hne
      obtain ⟨a1, m1, d1, a2, m2, d2, a3, m3, d3, a4, m4, d4, ⟨q0, q1, q2, q3, q4, q5, q6⟩, s1⟩ := hc1 wr HG.out.2.2 k hkl
      obtain ⟨e1, o1, f1, e2, o2, f2, e3, o3, f3, e4, o4, f4, ⟨r0, r1, r2, r3, r4, r5, r6⟩, s2⟩ := hc2 wr HG.out.2.2 k hkl
      have h5 := HSm.out rs[k] (List.getElem_mem hkl)
      obtain ⟨⟨bg, en, cu, ra, rk, rp, rr⟩, hp⟩ : ∃ p, rs[k] = p := ⟨_, rfl⟩
      rw [hp] at q0 q4 q6 r0 r4 r6 s1 s2 h5
      simp only at q0 q4 q6 r0 r4 r6
      have HC : Hid (Calls Tryd.prog 46 #[.agg #[.bool bg, .slice a1 m1 d1, .slice a2 m2 d2, .slice a3 m3 d3, .bool en, .slice a4 m4 d4, .int .i64 cu], .agg #[.bool bg, .slice e1 o1 f1, .slice e2 o2 f2, .slice e3 o3 f3, .bool en, .slice e4 o4 f4, .int .i64 cu]] wr.drew fun e w' => e = .returned (.bool true) ∧ BX w w' [.slice (some ⟨g1, 0, none⟩) n xc1] [.slice (some ⟨g2, 0, none⟩) n xc2] 62) := by
        have hd : Below wr.heap.size wr wr.drew := (Below.refl _ _).drew
        exact (rule_same ⟨bg, en, cu, ra, rk, rp, rr⟩ _ _ _ _ _ _ _ _ b1 b2 wr.drew h5 (s1.kt (KT.below hd) (KT.below hd) (KT.below hd)) (s2.kt (KT.below hd) (KT.below hd) (KT.below hd))).mono (fun e w' ⟨h1, h2⟩ => ⟨h1, (HG.out.call hd).call h2⟩)
      clear s1 s2 hp hc1 hc2 h5 hne HX1 HX2 HG HS HSm
      go_upto_region 6 with fail
      go_cut [31] (fun s31 wx => s31 = .bool false ∧ Hid (BX w wx [.slice (some ⟨g1, 0, none⟩) n xc1] [.slice (some ⟨g2, 0, none⟩) n xc2] 62))
      case first =>
        go_region_with (go_at_call 46; go_must (refine HC.out.mono ?_; rintro e w2 ⟨rfl, hb⟩; have HV : Hid (BX w w2 [.slice (some ⟨g1, 0, none⟩) n xc1] [.slice (some ⟨g2, 0, none⟩) n xc2] 62) := hb; clear hb))
        all_goals (go_wp2_with fail; go_meet; exact ⟨rfl, HV.out⟩)
      case rest =>
        obtain ⟨rfl, HV⟩ := hcut
        go_wp2
        exact ⟨⟨k + 1, by go_num, by omega, HV.out⟩, by simp [intOf]; omega⟩
end Go.Proofs
namespace Go.Proofs
open Go.RowKit Go.Shelf

set_option maxRecDepth 100000
attribute [local go_sem] Oper.semAt_some

/-- a row of passes, cell by cell -/
def QCells (w : World) (base g : Nat) (ps : List (List Rl)) : Prop := ∀ (j : Nat) (hj : j < ps.length), ∃ a n c, w.cell? ⟨g, j, none⟩ = some (.slice a n c) ∧ RulesRow w base (.slice a n c) ps[j]
theorem QCells.below {w w' : World} {base g : Nat} {ps : List (List Rl)} (h : QCells w base g ps) (hb : Below w.heap.size w w') : QCells w' base g ps := fun j hj => by
  obtain ⟨a, n, c, h1, h2⟩ := h j hj
  exact ⟨a, n, c, (hb.cell (cell_lt h1)).trans h1, h2.kt (KT.below hb) (KT.below hb) (KT.below hb) (KT.below hb)⟩
def QSl (w : World) (base : Nat) (v : Value) (ps : List (List Rl)) : Prop := ∃ A c, v = .slice A ps.length c ∧ (ps = [] ∨ ∃ g, A = some ⟨g, 0, none⟩ ∧ QCells w base g ps)
theorem PassRow.qsl {W : World} {base : Nat} {v : Value} {ps : List (List Rl)} (h : PassRow W base v ps) : QSl W base v ps := by
  obtain ⟨vs, h1, h2, h3, _⟩ := h
  by_cases h0 : ps = []
  · subst h0
    have : vs = [] := List.eq_nil_of_length_eq_zero h1
    subst this
    rcases h2.2 with ⟨rfl, _⟩ | ⟨g, cap, cur, rfl, _⟩
    · exact ⟨_, _, rfl, .inl rfl⟩
    · exact ⟨_, _, rfl, .inl rfl⟩
  · obtain ⟨g, cap, rfl, _, _⟩ := h2.form (by rw [h1]; exact List.length_pos_iff.2 h0)
    refine ⟨_, cap, by rw [h1], .inr ⟨g, rfl, fun j hj => ?_⟩⟩
    have hjv : j < vs.length := by omega
    have hc := h2.cells (g := g) rfl j vs[j] (by rw [List.getElem?_eq_getElem hjv])
    rw [add_zero_at] at hc
    have hr := h3 j hjv hj
    obtain ⟨A, c, e, _⟩ := hr.rsl
    rw [e] at hc hr
    exact ⟨_, _, _, hc, hr⟩
set_option maxHeartbeats 8000000 in
theorem passes_same (ps : List (List Rl)) (v1 v2 : Value) (b1 b2 : Nat) (w : World) (hn5 : ps.length ≤ 1000000) (hs : ∀ q ∈ ps, q.length ≤ 1000000 ∧ ∀ r ∈ q, Small r) (h1 : PassRow w b1 v1 ps) (h2 : PassRow w b2 v2 ps) :
    Calls Tryd.prog 19 #[v1, v2] w fun e w' => e = .returned (.bool true) ∧ Below w.heap.size w w' := by
  obtain ⟨X1, xc1, rfl, hx1⟩ := h1.qsl
  obtain ⟨X2, xc2, rfl, hx2⟩ := h2.qsl
  obtain ⟨n, hn⟩ : ∃ n, ps.length = n := ⟨_, rfl⟩
  have hnI : (n : Int) ≤ 1000000 := by omega
  have HX1 : Hid (ps = [] ∨ ∃ g, X1 = some ⟨g, 0, none⟩ ∧ ∀ W, Below w.heap.size w W → QCells W b1 g ps) := hx1.imp id (fun ⟨g, e, h⟩ => ⟨g, e, fun W hW => h.below hW⟩)
  have HX2 : Hid (ps = [] ∨ ∃ g, X2 = some ⟨g, 0, none⟩ ∧ ∀ W, Below w.heap.size w W → QCells W b2 g ps) := hx2.imp id (fun ⟨g, e, h⟩ => ⟨g, e, fun W hW => h.below hW⟩)
  have HN : Hid (ps.length = n) := hn
  have HSm : Hid (∀ q ∈ ps, q.length ≤ 1000000 ∧ ∀ r ∈ q, Small r) := hs
  rw [hn]
  clear h1 h2 hs hx1 hx2 hn hn5
  go_enter Tryd.func19, Tryd.ntmps19
  go_wp2
  go_loopw [5] (fun vi wr => ∃ k : Nat, vi = .int .i64 k ∧ k ≤ n ∧ Hid (Below w.heap.size w wr)) (fun vi _ => n - (intOf vi).toNat)
  case atStart => exact ⟨0, rfl, by omega, Below.refl _ _⟩
  case round =>
    obtain ⟨k, rfl, hk, HG⟩ := hrel
    have hk0 : (0 : Int) ≤ (k : Int) := by omega
    have hkI : (k : Int) ≤ 1000000 := by omega
    by_cases hkn : k = n
    · subst hkn
      go_wp2
      go_ret
      exact ⟨rfl, HG.out⟩
    · have hlt : k < n := by omega
      have hltI : (k : Int) < (n : Int) := by omega
      have hkl : k < ps.length := by rw [HN.out]; exact hlt
      have hne : ps ≠ [] := fun e => by rw [e] at hkl; simp at hkl
      obtain ⟨g1, rfl, hc1⟩ := HX1.out.resolve_left hne
      obtain ⟨g2, rfl, hc2⟩ := HX2.out.resolve_left hne
      obtain ⟨a1, m1, e1, f1, r1⟩ := hc1 wr HG.out k hkl
      obtain ⟨a2, m2, e2, f2, r2⟩ := hc2 wr HG.out k hkl
      have h5 := HSm.out ps[k] (List.getElem_mem hkl)
      have HC : Hid (Calls Tryd.prog 31 #[.agg #[.slice a1 m1 e1], .agg #[.slice a2 m2 e2]] wr.drew fun e w' => e = .returned (.bool true) ∧ Below w.heap.size w w') := by
        have hd : Below wr.heap.size wr wr.drew := (Below.refl _ _).drew
        exact (pass_same ps[k] _ _ b1 b2 wr.drew h5.1 h5.2 (r1.kt (KT.below hd) (KT.below hd) (KT.below hd) (KT.below hd)) (r2.kt (KT.below hd) (KT.below hd) (KT.below hd) (KT.below hd))).mono (fun e w' ⟨h1, h2⟩ => ⟨h1, HG.out.drew.trans (h2.mono HG.out.drew.size)⟩)
      clear r1 r2 h5 HN HX1 HX2 HSm hc1 hc2 hne
      go_upto_region 6 with fail
      go_cut [26] (fun s26 wx => s26 = .bool false ∧ Hid (Below w.heap.size w wx))
      case first =>
        go_region_with (go_at_call 31; go_must (refine HC.out.mono ?_; rintro e w2 ⟨rfl, hb⟩; have HV : Hid (Below w.heap.size w w2) := hb; clear hb))
        all_goals (go_wp2_with fail; go_meet; exact ⟨rfl, HV.out⟩)
      case rest =>
        obtain ⟨rfl, HV⟩ := hcut
        go_wp2
        exact ⟨⟨k + 1, by go_num, by omega, HV.out⟩, by simp [intOf]; omega⟩
end Go.Proofs
