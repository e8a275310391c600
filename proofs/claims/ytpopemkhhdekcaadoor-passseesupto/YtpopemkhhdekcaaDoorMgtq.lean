/-
  Several texts in one (Tsf Tvf Ye Tw Tx).
-/
import Derived.RangeFuncNested
import Derived.RangeFuncBound
import Derived.RangeFuncCalls
import Derived.RangeFuncLeaves
import Derived.Shelf.Abstract
import Derived.Shelf.RegionOpen
import Derived.WalkKit
import Derived.WalkSpells
import Derived.WalkLawsBesides
import Derived.OwnWalkIn
import Derived.TacticsInMore
import Derived.LoopNIn
import Derived.LoopIn
import Derived.BigQuiet
import Derived.RegionIn
import Derived.Deep.QuietTactic
import Derived.Deep.RegionWith
import Derived.Lib.OthersKept
import Derived.Maps.AppendAt
import Derived.Lib.SmallJoins
import Derived.Shelf.SlSortCmp.QuietGrown
import Derived.Sort.LoopGhostIn
import Derived.Test.YtpopemkhhdekcaaDoorMgpq
import Derived.Test.YtpopemkhhdekcaaDoorMgsq
import Derived.RangeFuncWrites
import Derived.RangeFuncBox
import Derived.Maps.OwnIn
import Derived.Test.YtpopemkhhdekcaaDoorMgqq
namespace Go.Proofs
open Go.RowKit Go.Shelf

set_option maxRecDepth 100000
attribute [local go_sem] Oper.semAt_some
attribute [local go_sem ↓] Go.wp_at_zero Go.wp_at_succ

/-- the blocks of a walk -/
def WF (wb mb : Nat) (dv uv lv : Value) (f : Int → Option Value) (k : Nat) : Prop := k = wb ∨ k = mb ∨ dv.ownBlock = some k ∨ uv.ownBlock = some k ∨ lv.ownBlock = some k ∨ ∃ u bv, f u = some bv ∧ bv.ownBlock = some k
theorem Wk.wf {Z : Nat → Prop} {T : Nat} {W0 w : World} {B wb mb : Nat} {v lv : Value} {rs : List Rl} {d l0 : List Int} {xs : List Stp} {dn lf : List Int} {N : Nat} {dv uv : Value} {n room : Nat} {uu : List Int} {f : Int → Option Value} (h : Wk Z T W0 w B wb mb v lv rs d l0 xs dn lf N dv uv n room uu f) {k : Nat} (hk : WF wb mb dv uv lv f k) : Z k := by
  rcases hk with rfl | rfl | e | e | e | ⟨u, bv, e1, e2⟩
  · exact h.zw
  · exact h.zm
  · exact h.zd _ e
  · exact h.zu _ e
  · exact h.zl _ e
  · exact h.zf u bv e1 _ e2
theorem Wk.wlt {Z : Nat → Prop} {T : Nat} {W0 w : World} {B wb mb : Nat} {v lv : Value} {rs : List Rl} {d l0 : List Int} {xs : List Stp} {dn lf : List Int} {N : Nat} {dv uv : Value} {n room : Nat} {uu : List Int} {f : Int → Option Value} (h : Wk Z T W0 w B wb mb v lv rs d l0 xs dn lf N dv uv n room uu f) {k : Nat} (hk : WF wb mb dv uv lv f k) : k < w.heap.size := by
  rcases hk with rfl | rfl | e | e | e | ⟨u, bv, e1, e2⟩
  · exact blk_lt h.blk
  · obtain ⟨es, cc, he⟩ := h.map.isMap
    exact blk_lt he
  · exact (World.ownsRow.lt h.don _ e).2
  · exact (World.ownsRow.lt h.uni _ e).2
  · exact (World.ownsRow.lt h.ord _ e).2
  · exact (World.ownsRow.lt (h.fi u bv e1) _ e2).2
/-- a walk's blocks, and all that is laid behind it -/
def ZX (w : World) (F : Nat → Prop) (k : Nat) : Prop := F k ∨ w.heap.size ≤ k
theorem Wk.exact {Z : Nat → Prop} {T : Nat} {W0 w : World} {B wb mb : Nat} {v lv : Value} {rs : List Rl} {d l0 : List Int} {xs : List Stp} {dn lf : List Int} {N : Nat} {dv uv : Value} {n room : Nat} {uu : List Int} {f : Int → Option Value} (h : Wk Z T W0 w B wb mb v lv rs d l0 xs dn lf N dv uv n room uu f) : Wk (ZX w (WF wb mb dv uv lv f)) w.heap.size W0 w B wb mb v lv rs d l0 xs dn lf N dv uv n room uu f :=
  ⟨h.blk, h.map, h.fi, h.don, h.uni, h.ul, h.rm, h.lfe, h.n3, h.ord, h.oln, h.srt, h.du, h.lx, h.fx, h.bel, h.b0, h.b1, h.b2, h.b3, h.at3, h.nN, fun _ e => .inr e, Nat.le_refl _, fun k hk => hk.elim (fun e => h.zb k (h.wf e)) fun e => Nat.le_trans h.b3 e, .inl (.inl rfl), .inl (.inr (.inl rfl)), fun _ e => .inl (.inr (.inr (.inl e))), fun _ e => .inl (.inr (.inr (.inr (.inl e)))), fun _ e => .inl (.inr (.inr (.inr (.inr (.inl e))))), fun u bv e1 _ e2 => .inl (.inr (.inr (.inr (.inr (.inr ⟨u, bv, e1, e2⟩)))))⟩
/-- a walk somewhere on its way, and its blocks -/
def WkF (F : Nat → Prop) (W0 w : World) (B wb mb : Nat) (v lv : Value) (rs : List Rl) (d l0 : List Int) (xs : List Stp) (dn lf : List Int) : Prop := ∃ Z T dv uv n room uu f, Wk Z T W0 w B wb mb v lv rs d l0 xs dn lf xs.length dv uv n room uu f ∧ F = WF wb mb dv uv lv f
theorem KAll.zx {F : Nat → Prop} {b : Nat} {X Y : World} (h : KAll F b X Y) : KAll (ZX X F) b X Y := ⟨h.bel, fun k o hk ho => by
  rcases hk with e | e
  · exact h.same k o e ho
  · have := blk_lt ho
    omega⟩
theorem WkF.keep {F : Nat → Prop} {W0 X Y : World} {B wb mb : Nat} {v lv : Value} {rs : List Rl} {d l0 : List Int} {xs : List Stp} {dn lf : List Int} (h : WkF F W0 X B wb mb v lv rs d l0 xs dn lf) {b : Nat} (hk : KAll F b X Y) (hb : W0.heap.size ≤ b) : WkF F W0 Y B wb mb v lv rs d l0 xs dn lf := by
  obtain ⟨Z, T, dv, uv, n, room, uu, f, hw, rfl⟩ := h
  exact ⟨_, _, dv, uv, n, room, uu, f, hw.exact.keep hk.zx hb, rfl⟩
set_option maxHeartbeats 4000000 in
/-- the iterator: it hands out the steps of the run -/
theorem steps_seqF {F0 : Nat → Prop} {W0 V : World} {B wb mb : Nat} {v lv : Value} {rs : List Rl} {st : St} {d l0 : List Int} {xf : List Stp} {df : List Int} (hP : PW W0 v rs st) (hl0 : l0.length ≤ 16384) (hu0 : AllU l0) (hf : G3 rs l0 xf df []) (h : WkF F0 W0 V B wb mb v lv rs d l0 [] [] l0) {b : Nat} (hb : W0.heap.size ≤ b) (n l : Nat) (hn : 1 ≤ n) :
    SeqF n 24 #[.pointer (some ⟨wb, 0, none⟩)] #[] encS xf b F0 (fun F Y => WkF F W0 Y B wb mb v lv rs d l0 xf df []) V l := by
  intro J Jx hJ hJx hY h0
  refine callsIn_of_wp Tryd.func24 rfl trivial ?_ rfl
  simp only [Tryd.ntmps24, List.size_toArray, List.length_cons, List.length_nil, Nat.reduceAdd, Nat.reduceSub, Array.replicate_succ, Array.replicate_zero, List.push_toArray, List.append_toArray, List.nil_append, List.cons_append]
  have HP := Hid.mk' hP
  have HS : Hid (∀ {xs : List Stp} {dn lf : List Int}, G3 rs l0 xs dn lf → (xs.length : Int) + lf.length ≤ 64 * l0.length) := fun {xs dn lf} hg => by
    have := hg.lens hP.fin hP.ck
    omega
  gi_wp2_with fail
  gi_loopg [] (64 * l0.length + 1) (fun f wr => Hid (∃ xs dn lf F, WkF F W0 wr B wb mb v lv rs d l0 xs dn lf ∧ J xs F wr ∧ 64 * l0.length + 1 ≤ f + xs.length))
  case atStart => exact ⟨[], [], l0, F0, h, h0, by simp⟩
  case round =>
    obtain ⟨xs, dn, lf, F, hW, hJr, hm⟩ := hrel.out
    obtain ⟨Z, T, dv, uv, n', room, uu, f, hk, hF⟩ := hW
    have hlen := HS.out hk.at3
    by_cases hlf : lf = []
    · subst hlf
      have HN : Hid (Calls Tryd.prog 42 #[.pointer (some ⟨wb, 4, none⟩)] wr fun e w' => w' = wr.drew ∧ ∃ A c, e = .returned (.slice A 0 c)) := hk.nowl
      have HK := Hid.mk' (And.intro hk (And.intro hJr hF))
      clear hk hrel hm hJr hF
      gi_wp2_with (refine ⟨trivial, ?_⟩; gi_at_call 42; refine (callsIn_wide.2 HN.out).mono ?_; rintro e w' ⟨rfl, A, c, rfl⟩)
      go_end0
      obtain ⟨hk, hJr, hF⟩ := HK.out
      obtain ⟨e1, e2⟩ := hk.at3.one hf
      subst e1 e2
      exact ⟨⟨_, rfl⟩, .inl ⟨F, hJ _ _ _ _ _ hJr (MvF.grown (Grown.refl wr).drew), _, _, _, _, _, _, _, _, hk.drew, hF⟩⟩
    · have hl1 := List.length_pos_iff.2 hlf
      have hl1I : (0 : Int) < (lf.length : Int) := by omega
      have HN : Hid (Calls Tryd.prog 42 #[.pointer (some ⟨wb, 4, none⟩)] wr fun e w' => w' = wr.drew ∧ ∃ A c, e = .returned (.slice A lf.length c)) := hk.nowl
      have HSt : Hid (Calls Tryd.prog 43 #[.pointer (some ⟨wb, 0, none⟩)] wr.drew (StepQ (ZX wr.drew F) wr.drew.heap.size W0 wr.drew B wb mb v lv rs d l0 xs dn lf)) := by rw [hF]; exact step_any HP.out hl0 hu0 hk.drew.exact hlf
      obtain ⟨x, hx⟩ : ∃ x, stp rs dn lf = x := ⟨_, rfl⟩
      have HXF : Hid (xs ++ [x] <+: xf) := by
        have hp := (hk.at3.snoc hlf).prefix hf
        rw [hx] at hp
        show _ <+: _
        rw [hp]
        exact List.take_prefix _ _
      have HJD : Hid (∀ w4 dv' uv' n' room' uu' f', Wk (ZX wr.drew F) wr.drew.heap.size W0 w4 B wb mb v lv rs d l0 (xs ++ [x]) (dn ++ layd rs dn lf) (lefd rs dn lf) (xs.length + 1) dv' uv' n' room' uu' f' → Fr wr.drew w4 (ZX wr.drew F) → J xs (WF wb mb dv' uv' lv f') w4) := fun w4 dv' uv' n' room' uu' f' hw hf4 => hJ _ _ _ _ _ hJr ⟨(fr_drew _ _).trans (hf4.mono (C := F) fun k hk hz => by rcases hz with e | e; exact e; omega) fun _ _ e => e, fun k hk => by
        rcases hw.wf hk with e | e
        · exact .inl e
        · exact .inr e, fun _ k hk => hw.wlt hk⟩
      have HLen : Hid (xs.length + 1 ≤ 64 * l0.length ∧ 64 * l0.length + 1 ≤ gk + xs.length) := ⟨by omega, hm⟩
      have HHf := Hid.mk' hf
      unfold StepQ at HSt
      rw [hx] at HSt
      obtain ⟨ln, hln⟩ : ∃ ln, lf.length = ln := ⟨_, rfl⟩
      rw [hln] at HN hl1I hl1
      clear hk hrel hm hJr hlen hln hf hP hF
      gi_wp2_with (first
        | (refine ⟨trivial, ?_⟩; gi_at_call 42; refine (callsIn_wide.2 HN.out).mono ?_; rintro e w' ⟨rfl, A, c, rfl⟩)
        | (refine ⟨trivial, ?_⟩; gi_at_call 43; refine (callsIn_wide.2 HSt.out).mono ?_; rintro e w4 ⟨rfl, ⟨dv', uv', n2, room', uu', f', hw4⟩, hf4⟩; have HW4 := Hid.mk' (And.intro hw4 hf4); obtain ⟨fn, tmps, assign, body, hy, hR⟩ := hY xs x _ w4 (HJD.out w4 _ _ _ _ _ _ hw4 hf4) HXF.out; dsimp only [encS] at hy; have HR := Hid.mk' hR; clear hR hw4 hf4))
      refine HR.out.mono ?_
      rintro e W3 (⟨rfl, hJ3, hk3⟩ | ⟨rfl, hJx3, hk3⟩)
      · gi_wp2
        gi_roundg (gk - 1)
        case measure => have := HLen.out; omega
        case rel =>
          obtain ⟨hw, hf4⟩ := HW4.out
          refine ⟨xs ++ [x], dn ++ layd rs dn lf, lefd rs dn lf, WF wb mb dv' uv' lv f', ⟨ZX w4 (WF wb mb dv' uv' lv f'), w4.heap.size, dv', uv', n2, room', uu', f', ?_, rfl⟩, hJ3, by have := HLen.out; simp; omega⟩
          rw [List.length_append]
          exact hw.exact.keep hk3.zx hb
      · gi_wp2
        refine bodyPost_ret (results_none rfl _ _ _) rfl ?_
        exact ⟨⟨_, rfl⟩, .inr ⟨xs ++ [x], _, ⟨HXF.out, by simp⟩, hJx3⟩⟩

theorem wk_startF {W0 Ws w1 V : World} {rs : List Rl} {st : St} {v lv uv : Value} {s : ByteArray} {wb mb : Nat} {d : List Int} (_hP : PW W0 v rs st) (hs : s.size ≤ 16384) (hb0 : Below W0.heap.size W0 Ws) (h : StQ Ws w1 rs v s wb mb lv uv d) (hg : Grown w1 V) (hsz : V.heap.size = w1.heap.size + 2) :
    Wk (ZW Ws.heap.size w1.heap.size) (w1.heap.size + 2) W0 V Ws.heap.size wb mb v lv rs d (intsU (units s)) [] [] (intsU (units s)) 0 (.slice none 0 0) uv (intsU (units s)).length 0 (intsU (units s)) (fun _ => none) := by
  have hn : (intsU (units s)).length ≤ 16384 := by rw [intsU_length]; have := units_len s; omega
  have hwb := blk_lt h.blk
  have hmw := h.mw
  have hmb := h.mb
  have hb1 := h.bel.size
  have hlo : ∀ b, lv.ownBlock = some b → b < w1.heap.size ∧ Ws.heap.size ≤ b := fun b hb => ⟨(World.ownsRow.lt h.ord b hb).2, (World.ownsRow.lt h.ord b hb).1⟩
  have hup : ∀ b, uv.ownBlock = some b → b < w1.heap.size ∧ mb + 1 ≤ b := fun b hb => ⟨(World.ownsRow.lt h.lft b hb).2, (World.ownsRow.lt h.lft b hb).1⟩
  have gb := hg.below
  exact {
    blk := h.blk.fr (fr_grown hg fun _ => False) id
    map := h.map.kept fun o ho => (gb.block mb (blk_lt ho)).trans ho
    fi := fun u bv hu => by cases hu
    don := OwnI.nil _ _
    uni := (h.lft.below gb (Nat.le_refl _)).le (by omega)
    ul := rfl
    rm := Nat.zero_le _
    lfe := rfl
    n3 := by omega
    ord := h.ord.below gb (Nat.le_refl _)
    oln := h.len
    srt := h.srt
    du := fun b hb => by cases hb
    lx := fun b hb => ⟨fun e => (by cases e), fun e => by have := h.lo b hb; have := (hup b e).2; omega⟩
    fx := fun u bv hu => by cases hu
    bel := hb0.trans ((h.bel.trans (gb.mono hb1)).mono hb0.size)
    b0 := hb0.size
    b1 := hmb
    b2 := by omega
    b3 := by have := hg.size; omega
    at3 := G3.nil _ _
    nN := rfl
    zt := fun k hk => .inr hk
    tw := by omega
    zb := fun k hk => by rcases hk with hk | hk <;> omega
    zw := .inl ⟨by omega, hwb⟩
    zm := .inl ⟨hmb, by omega⟩
    zd := fun b hb => by cases hb
    zu := fun b hb => .inl ⟨by have := (hup b hb).2; omega, (hup b hb).1⟩
    zl := fun b hb => .inl ⟨(hlo b hb).2, (hlo b hb).1⟩
    zf := fun u bv hu => by cases hu }
set_option maxHeartbeats 8000000 in
theorem steps1_seqF {W0 V : World} {rs : List Rl} {s : ByteArray} {b1 b2 : Nat} {v : Value} {st : St} (h : Made W0 rs s b1 b2 v st) (hV : Below W0.heap.size W0 V) (n l : Nat) (hn : 2 ≤ n) :
    SeqF n 22 #[] #[.pointer (some ⟨b1, 0, none⟩), .pointer (some ⟨b2, 0, none⟩)] encS (endOf rs s).1 W0.heap.size (fun _ => False) (fun _ _ => True) V l := by
  intro J Jx hJ hJx hY h0
  have hn1 : 1 ≤ n := by omega
  have hsl : IsSl v := by
    obtain ⟨a, c, e, _⟩ := h.pw.psr
    exact ⟨a, _, c, e⟩
  obtain ⟨v1, v2, v3, hv⟩ := hsl
  subst hv
  have c1 : V.cell? ⟨b1, 0, none⟩ = some (.slice v1 v2 v3) := cell_below h.c1 hV (Nat.le_refl _)
  have c2 : V.cell? ⟨b2, 0, none⟩ = some (.string s) := cell_below h.c2 hV (Nat.le_refl _)
  have c1' := fun o => cell_up c1 o
  have c2' := fun o => cell_up c2 o
  have hs := h.sz
  have HSt : Hid (∀ W, Grown V W → Calls Tryd.prog 23 #[.slice v1 v2 v3, .string s] W (StE W rs (.slice v1 v2 v3) s)) := fun W hg => start_any _ rs s W ((h.pw.psr.below hV (Nat.le_refl _)).grown hg) (by have := h.pw.fin.n; omega) (fun r hr => by have := (chk_ok (h.pw.ck r hr)).k8; omega) (by omega)
  obtain ⟨xf, hxf⟩ : ∃ xf, (endOf rs s).1 = xf := ⟨_, rfl⟩
  obtain ⟨df, hdf⟩ : ∃ df, (endOf rs s).2 = df := ⟨_, rfl⟩
  have HM := Hid.mk' h
  have hG := h.end3
  rw [hxf, hdf] at hG
  rw [hxf] at hY ⊢
  have HG := Hid.mk' hG
  have HHY := Hid.mk' hY
  clear hY h hG hxf hdf
  refine callsIn_of_wp_marks Tryd.func22 rfl trivial ?_ rfl
  simp only [Tryd.ntmps22, List.size_toArray, List.length_cons, List.length_nil, Nat.reduceAdd, Nat.reduceSub, Array.replicate_succ, Array.replicate_zero, List.push_toArray, List.append_toArray, List.nil_append, List.cons_append]
  gi_wp2_with (refine ⟨trivial, ?_⟩; gi_at_call 23; refine (callsIn_wide.2 (HSt.out _ (by (repeat (first | exact Grown.refl _ | refine Grown.alloc ?_ _ | refine Grown.drew ?_))))).mono ?_; rintro e w2 ⟨wb, mb, lv, uv, d, rfl, hQ⟩; have HQ := Hid.mk' hQ; clear hQ)
  obtain ⟨w1, hw1⟩ : ∃ w1, w1 = V.alloc (.cells #[.func (.yield l) #[] #[]] 65) := ⟨_, rfl⟩
  have hw1s : w1.heap.size = V.heap.size + 1 := by rw [hw1]; simp
  have hgV : Grown V w1 := by rw [hw1]; exact (Grown.refl _).alloc _
  have hbx1 : w1.heap[V.heap.size]? = some (.cells #[.func (.yield l) #[] #[]] 65 (0, 0)) := by rw [hw1]; exact heap_alloc_new _ _
  rw [← hw1] at HQ
  obtain ⟨h, hh⟩ : ∃ h, h = w2.heap.size := ⟨_, rfl⟩
  have hb12 : w1.heap.size ≤ h := by rw [hh]; exact HQ.out.bel.size
  have hl0 : (intsU (units s)).length ≤ 16384 := by rw [intsU_length]; have := units_len s; omega
  have hW0 := hV.size
  have hb1 : Below W0.heap.size W0 w1 := hV.trans (hgV.below.mono hW0)
  have hf12 : ∀ X, Fr V w2 X := fun X => (fr_grown hgV X).trans (fr_below HQ.out.bel (Nat.le_refl _) X) fun _ _ e => e
  have hbx2 : w2.heap[V.heap.size]? = some (.cells #[.func (.yield l) #[] #[]] 65 (0, 0)) := (HQ.out.bel.block _ (by omega)).trans hbx1
  clear hw1 c1 c2 c1' c2' hbx1
  obtain ⟨FW, hFW⟩ : ∃ FW, FW = WF wb mb (.slice none 0 0) uv lv (fun _ => none) := ⟨_, rfl⟩
  have hWk0 : ∀ X, Grown w2 X → X.heap.size = w2.heap.size + 2 → WkF FW W0 X w1.heap.size wb mb (.slice v1 v2 v3) lv rs d (intsU (units s)) [] [] (intsU (units s)) := fun X hX hsz => ⟨_, _, _, _, _, _, _, _, wk_startF HM.out.pw hs hb1 HQ.out hX hsz, hFW⟩
  have hFlt : ∀ k, FW k → k < h := fun k hk => by
    rw [hFW] at hk
    rcases hk with rfl | rfl | e | e | e | ⟨u, bv, e1, e2⟩
    · rw [hh]; exact blk_lt HQ.out.blk
    · have := HQ.out.mw; have := blk_lt HQ.out.blk; omega
    · cases e
    · rw [hh]; exact (World.ownsRow.lt HQ.out.lft _ e).2
    · rw [hh]; exact (World.ownsRow.lt HQ.out.ord _ e).2
    · cases e1
  have hFge : ∀ k, FW k → w1.heap.size ≤ k := fun k hk => by
    rw [hFW] at hk
    have hmb := HQ.out.mb
    rcases hk with rfl | rfl | e | e | e | ⟨u, bv, e1, e2⟩
    · have := HQ.out.mw; omega
    · exact hmb
    · cases e
    · have := (World.ownsRow.lt HQ.out.lft _ e).1; omega
    · exact (World.ownsRow.lt HQ.out.ord _ e).1
    · cases e1
  obtain ⟨G, hG⟩ : ∃ G : (Nat → Prop) → Nat → Prop, G = fun F k => F k ∨ k = V.heap.size ∨ k = h ∨ k = h + 1 := ⟨_, rfl⟩
  have hVh : V.heap.size < h := by omega
  have hMv : ∀ {F F' : Nat → Prop} {X Y : World}, Fr X Y (fun k => F k ∨ k = h + 1) → (∀ k, F' k → F k ∨ X.heap.size ≤ k) → ((∀ k, F k → k < X.heap.size) → ∀ k, F' k → k < Y.heap.size) → MvF (G F) (G F') X Y := fun {F F' X Y} hf hn hlt => by
    subst hG
    exact ⟨hf.mono fun k _ e => e.elim .inl fun e => .inr (.inr (.inr e)), fun k hk => hk.elim (fun e => (hn k e).elim (fun e => .inl (.inl e)) .inr) fun e => .inl (.inr e), fun hl k hk => hk.elim (fun e => hlt (fun k hk => hl k (.inl hk)) k e) fun e => Nat.lt_of_lt_of_le (hl k (.inr e)) hf.size⟩
  refine wpIn_overFZ (enc := encS) (by omega) (gf := 24) (pa := #[.pointer (some ⟨wb, 0, none⟩)]) (lb := #[]) rfl (enters_of Tryd.func24 (by kernel_rfl) rfl) (xf := xf) (b := W0.heap.size) (h := h) (F0 := FW) (E := fun F Y => WkF F W0 Y w1.heap.size wb mb (.slice v1 v2 v3) lv rs d (intsU (units s)) xf df []) hh (by omega) hFlt
    (fun r => steps_seqF HM.out.pw hl0 (units_all s) HG.out (hWk0 _ (((Grown.refl w2).alloc (.deferred (some []))).alloc (.loop r)) (by simp)) (Nat.le_refl _) _ _ (by omega))
    (fun F X o hn hX => hX.keep (KAll.put o hn (by omega)) (Nat.le_refl _))
    (fun _ => rfl) (fun pre F W => J pre (G F) W ∧ ¬ F V.heap.size ∧ W.heap[V.heap.size]? = some (.cells #[.func (.yield l) #[] #[]] 65 (0, 0))) (fun c pre F W => c = .ret ∧ Jx pre (G F) W)
    (fun pre F F' X Y hX z0 z1 hf hn hlt => ⟨hJ _ _ _ _ _ hX.1 (hMv hf hn hlt), fun e => by rcases hn _ e with e | e; exact hX.2.1 e; have := blk_lt hX.2.2; omega, (hf.block _ (blk_lt hX.2.2) (fun hk => by rcases hk with e | e; exact hX.2.1 e; omega)).trans hX.2.2⟩)
    (fun c pre F F' X Y hX z0 z1 hf hn hlt => ⟨hX.1, hJx _ _ _ _ _ hX.2 (hMv hf hn hlt)⟩)
    (fun r => by
      have hgr : Grown w2 ((w2.alloc (.deferred (some []))).alloc (.loop r)) := ((Grown.refl w2).alloc _).alloc _
      have hsz : ((w2.alloc (.deferred (some []))).alloc (.loop r)).heap.size = h + 2 := by rw [hh]; simp
      refine ⟨hJ _ _ _ _ _ h0 ⟨(hf12 _).trans (fr_grown hgr _) fun _ _ e => e, fun k hk => ?_, fun _ k hk => ?_⟩, fun e => by have := hFge _ e; omega, (hgr.below.block _ (blk_lt hbx2)).trans hbx2⟩
      · subst hG
        right
        rcases hk with e | e | e | e
        · have := hFge k e; omega
        · omega
        · omega
        · omega
      · subst hG
        rw [hsz]
        rcases hk with e | e | e | e
        · have := hFlt k e; omega
        · omega
        · omega
        · omega)
    (fun x W => { tmps := #[.func (.yield l) #[] #[], .pointer (some ⟨b1, 0, none⟩), .pointer (some ⟨b2, 0, none⟩), .pointer (some ⟨V.heap.size, 0, none⟩), .pointer (some ⟨W.heap.size, 0, none⟩), .slice v1 v2 v3, .string s, .pointer (some ⟨wb, 0, none⟩), .func (.func 24) #[.pointer (some ⟨wb, 0, none⟩)] #[], .agg (fs1 x).toArray, undef, undef, undef, undef], defers := [] })
    (fun x W => W.alloc (.cells (fs1 x).toArray 34)) (fun _ W => (Grown.refl W).alloc _) ?assign ?body ?done ?stop
  case assign =>
    intro l x W K hK
    rw [show (#[9] : Array Tmp).zip (encS x) = #[(9, Value.agg (fs1 x).toArray)] from zip1 _ _]
    unfold fs1 at hK ⊢
    gi_wp2
    first | exact hK | (simp only [List.foldl_toArray, List.foldl_cons, List.foldl_nil, List.setIfInBounds_toArray, List.set_cons_succ, List.set_cons_zero]; gi_wp2; exact hK)
  case body =>
    rintro pre x F W X ⟨hI, hbn, hbox⟩ hpre hWs z0 z1 hXs hXk _
    have cb : X.cell? ⟨V.heap.size, 0, none⟩ = some (.func (.yield l) #[] #[]) := by rw [cell_of hbox]; rfl
    have hcx : X.heap[W.heap.size]? = some (.cells (fs1 x).toArray 34 (0, 0)) := by rw [hXk _ (by omega)]; exact heap_alloc_new W _
    have k0 : X.cell? ⟨W.heap.size, 0, none⟩ = some (.int .i64 x.r) := by rw [cell_of hcx]; rfl
    have k1 : X.cell? ⟨W.heap.size, 1, none⟩ = some (.int .i64 x.d) := by rw [cell_of hcx]; rfl
    have k2 : X.cell? ⟨W.heap.size, 2, none⟩ = some (.int .i64 x.l) := by rw [cell_of hcx]; rfl
    have k3 : X.cell? ⟨W.heap.size, 3, none⟩ = some (.int .i64 x.t) := by rw [cell_of hcx]; rfl
    have k4 : X.cell? ⟨W.heap.size, 4, none⟩ = some (.int .i64 x.a) := by rw [cell_of hcx]; rfl
    have k5 : X.cell? ⟨W.heap.size, 5, none⟩ = some (.int .i64 x.b) := by rw [cell_of hcx]; rfl
    obtain ⟨fn, tmps, assign, bd, hy, hR⟩ := yield_wide (l1 := h + 1) (m' := n - 1 - 1 - 1) (HHY.out pre x _ X hI hpre)
    dsimp only [encS] at hy
    unfold fs1 at hy
    have HR := Hid.mk' hR
    have HBX := Hid.mk' hbox
    clear hR hcx hbox hI hXk hXs
    gi_wp2
    refine ⟨fun h => absurd h (by simp [Fence.wide]), ?_⟩
    refine HR.out.mono ?_
    have hwk : ∀ {Y : World}, KAll (G F) W0.heap.size X Y → KAll (ZF F h) W0.heap.size X Y ∧ Y.heap[V.heap.size]? = some (.cells #[.func (.yield l) #[] #[]] 65 (0, 0)) := fun hk => by
      subst hG
      exact ⟨hk.mono (fun k hz => hz.elim .inl fun e => .inr (.inr e)) (Nat.le_refl _), hk.same _ _ (.inr (.inl rfl)) HBX.out⟩
    rintro e Y (⟨rfl, hJ3, hk3⟩ | ⟨rfl, hJx3, hk3⟩)
    · gi_wp2
      exact ⟨(hwk hk3).1, hJ3, hbn, (hwk hk3).2⟩
    · gi_wp2
      exact ⟨(hwk hk3).1, rfl, hJx3⟩
  case done =>
    rintro F W z0 z1 ⟨hI, _⟩ hE hK
    clear hE
    gi_wp2
    refine ⟨by simp, .inl ⟨_, _, rfl, run_takeDeferred hK, ?_⟩⟩
    refine ⟨_, results_none rfl _ _ _, ⟨_, rfl⟩, .inl ⟨G F, ?_, trivial⟩⟩
    exact hJ _ _ _ _ _ hI ⟨(fr_put _).mono fun k _ e => by subst hG; exact .inr (.inr (.inl e)), fun k hk => .inl hk, fun hl k hk => by simpa using hl k hk⟩
  case stop =>
    rintro c pre F W hpre z0 z1 ⟨rfl, hx⟩ hK
    gi_wp2
    refine ⟨by simp, .inl ⟨_, _, rfl, run_takeDeferred hK, ?_⟩⟩
    refine ⟨_, results_none rfl _ _ _, ⟨_, rfl⟩, .inr ⟨pre, G F, hpre, ?_⟩⟩
    exact hJx _ _ _ _ _ hx ⟨(fr_put _).mono fun k _ e => by subst hG; exact .inr (.inr (.inl e)), fun k hk => .inl hk, fun hl k hk => by simpa using hl k hk⟩

theorem go3_le (rs : List Rl) (l0 : List Int) : ∀ k, (go3 rs l0 k).1.length ≤ k
  | 0 => by simp [go3]
  | k + 1 => by
    have := go3_le rs l0 k
    rw [go3]
    split
    · omega
    · simp; omega
theorem go3_take (rs : List Rl) (l0 : List Int) (k : Nat) : ∀ d, (go3 rs l0 (k + d)).1.length = k + d → (go3 rs l0 k).1 = (go3 rs l0 (k + d)).1.take k ∧ (go3 rs l0 k).1.length = k
  | 0, h => by
    rw [Nat.add_zero] at h ⊢
    exact ⟨(List.take_of_length_le (by omega)).symm, h⟩
  | d + 1, h => by
    have e : k + (d + 1) = (k + d) + 1 := by omega
    rw [e] at h ⊢
    rw [go3] at h ⊢
    split at h
    · have := go3_le rs l0 (k + d)
      omega
    · rename_i hn
      rw [if_neg hn]
      have hl : (go3 rs l0 (k + d)).1.length = k + d := by simp at h; omega
      obtain ⟨h1, h2⟩ := go3_take rs l0 k d hl
      refine ⟨?_, h2⟩
      simp only []
      rw [List.take_append_of_le_length (by omega)]
      exact h1
/-- how many steps the first text's are alike -/
def shortK (xs : List Stp) : Nat := (xs.takeWhile fun x => decide (19 < x.l)).length
theorem shortK_le (xs : List Stp) : shortK xs ≤ xs.length := by
  unfold shortK
  exact (List.takeWhile_sublist _).length_le
theorem shortK_take (xs : List Stp) : xs.takeWhile (fun x => decide (19 < x.l)) = xs.take (shortK xs) := by
  unfold shortK
  exact (List.prefix_iff_eq_take.1 (List.takeWhile_prefix _))
/-- what is far behind is not seen -/
theorem sees_pure {rs : List Rl} (hc : ∀ r ∈ rs, chk r = 0) {l1 l2 P q1 q2 : List Int} (h1 : l1 = P ++ q1) (h2 : l2 = P ++ q2) (h3 : q1.length ≤ 3) {xs ys : List Stp} {d1 d2 : List Int} (hx : G3 rs l1 xs d1 []) (hy : G3 rs l2 ys d2 []) :
    shortK xs ≤ ys.length ∧ ∀ (j : Nat) x y, j < shortK xs → xs[j]? = some x → ys[j]? = some y → Alk x y := by
  subst h1
  subst h2
  obtain ⟨k, hk⟩ : ∃ k, shortK xs = k := ⟨_, rfl⟩
  have hkx : k ≤ xs.length := by rw [← hk]; exact shortK_le xs
  unfold G3 at hx
  have e : xs.length = k + (xs.length - k) := by omega
  have hlen : (go3 rs (P ++ q1) xs.length).1.length = xs.length := by rw [hx]
  obtain ⟨t1, t2⟩ := go3_take rs (P ++ q1) k (xs.length - k) (by rw [← e]; exact hlen)
  rw [← e, hx] at t1
  simp only [] at t1
  have h19 : ∀ (j : Nat) (x : Stp), j < k → (go3 rs (P ++ q1) k).1[j]? = some x → 19 < x.l := fun j x _ hj => by
    rw [t1, ← hk, ← shortK_take] at hj
    have := List.all_takeWhile (p := fun x : Stp => decide (19 < x.l)) (l := xs)
    rw [List.all_eq_true] at this
    simpa using this x (List.mem_of_getElem? hj)
  obtain ⟨n1, n2, _, _⟩ := go3_near hc (q2 := q2) h3 k h19 t2
  have hg : G3 rs (P ++ q2) (go3 rs (P ++ q2) k).1 (go3 rs (P ++ q2) k).2.1 (go3 rs (P ++ q2) k).2.2 := by
    unfold G3
    rw [n1]
  have hp := hg.prefix hy
  rw [n1] at hp
  have hky : k ≤ ys.length := by
    have := congrArg List.length hp
    rw [n1, List.length_take] at this
    omega
  rw [hk]
  refine ⟨hky, fun j x y hj hxj hyj => n2 j x y ?_ ?_⟩
  · rw [t1, List.getElem?_take, if_pos hj]; exact hxj
  · rw [hp, List.getElem?_take, if_pos hj]; exact hyj
/-! a row of steps -/
theorem infoS : (Tryd.prog.info? 34).map (fun i => (i.zero, i.size, i.bytes)) = some (some (.agg #[.int .i64 0, .int .i64 0, .int .i64 0, .int .i64 0, .int .i64 0, .int .i64 0]), 6, 48) := by kernel_rfl
theorem fs_one (l : List Stp) : ∀ u ∈ fs l, u.oneCell' = true := fun u hu => by
  unfold fs at hu
  rw [List.mem_flatMap] at hu
  obtain ⟨x, _, hx⟩ := hu
  unfold fs1 at hx
  simp at hx
  rcases hx with rfl | rfl | rfl | rfl | rfl | rfl <;> rfl
theorem fs_snoc (l : List Stp) (x : Stp) : fs (l ++ [x]) = fs l ++ fs1 x := by simp [fs]
/-- one step more behind a row of the call's own, in a round -/
theorem pushIn_S {F : Fence} {nF : Nat} {ops : Array Oper} {rest : List Oper} {o : Oper} {a : Act} {Q : Exit → Act → World → Prop} {w : World} (hgd : o.guard = none) (s x : Operand)
    (ho : o.op = .call { callee := .builtin .append, args := #[s, x], argTypes := #[32, 32] })
    (base : Nat) (v : Value) (l : List Stp) (hs : a.eval s = v) (hown : OwnS w base v l) (g c : Nat) (p : Stp) (hx : a.eval x = .slice (some ⟨g, 0, none⟩) 1 c)
    (hp : w.heap[g]? = some (.cells (fs1 p).toArray 34 (0, 0))) (hl : l.length + 1 ≤ 100000000) (hbase : base ≤ w.heap.size)
    (h : ∀ gg cap w', OwnS w' base (.slice (some ⟨gg, 0, none⟩) (l.length + 1) cap) (l ++ [p]) → w.grownBy w' v.ownBlock → (some gg = v.ownBlock ∨ gg = w.heap.size) → wpListIn F nF Tryd.prog ops Q rest (a.put o.dst (.slice (some ⟨gg, 0, none⟩) (l.length + 1) cap)) w') : wpListIn F nF Tryd.prog ops Q (o :: rest) a w := by
  obtain ⟨i0, hi, hz0, hz1, hz2⟩ := info_parts infoS
  refine wpListIn_append_own_at w hgd s x 32 ho base 34 i0 (.agg #[.int .i64 0, .int .i64 0, .int .i64 0, .int .i64 0, .int .i64 0, .int .i64 0]) 6 48 Tryd.underlying32 hi hz0 hz1 hz2 rfl (by decide) v l.length (fs l) hs hown ⟨g, 0, none⟩ 1 c (fs1 p) hx rfl ?_ (fun u hu => fs_one [p] u (by simpa [fs] using hu)) (by unfold maxLen; omega) (by omega) hbase (fun v' w' h2 h3 _ h5 => ?_)
  · intro j u hj
    have hadd : (⟨g, 0, none⟩ : Addr).add j = ⟨g, j, none⟩ := by rw [Addr.add_lit, Nat.zero_add]
    rw [hadd, cell_of hp]
    simpa using hj
  · rcases h2.2 with ⟨_, e0⟩ | ⟨gg, cap, cur, e1, _⟩
    · omega
    · subst e1
      refine h gg cap w' ?_ h3 (h5.imp id fun e => by injection e)
      unfold OwnS
      rw [fs_snoc, List.length_append]
      exact h2

theorem one_any (u : Int) (w : World) : Calls Tryd.prog 33 #[.int .i64 u] w fun e w' => e = .returned (.slice (some ⟨w.heap.size, 0, none⟩) 1 1) ∧ w' = w.alloc (.cells #[.int .i64 u, .int .i64 u] 92) := by
  go_enter Tryd.func33, Tryd.ntmps33
  go_wp2
  go_ret
  exact ⟨rfl, rfl⟩
theorem piece_any (x : Int) (w : World) : Calls Tryd.prog 34 #[.int .i64 x] w fun e w' => e = .returned (.agg #[.int .i64 1, .int .i64 x, .int .i64 0, .slice none 0 0]) ∧ w' = w.alloc (.cells #[.int .i64 1, .int .i64 x, .int .i64 0, .slice none 0 0] 59) := by
  go_enter Tryd.func34, Tryd.ntmps34
  go_wp2
  exact bodyPost_ret (v := .agg #[.int .i64 1, .int .i64 x, .int .i64 0, .slice none 0 0]) (by simp [results, Tryd.f34, go_sem]) rfl ⟨rfl, rfl⟩
/-- a > x, ab > y -/
def rsP : List Rl := [⟨false, false, 1, [], [[(97, 97)]], [], [⟨1, 120, 0, []⟩]⟩, ⟨false, false, 1, [], [[(97, 97)], [(98, 98)]], [], [⟨1, 121, 0, []⟩]⟩]
theorem rsx_at {W : World} {g : Nat} {a : Int} (h : W.heap[g]? = some (.cells #[.int .i64 a, .int .i64 a] 92 (0, 0))) : Rs W (.slice (some ⟨g, 0, none⟩) 1 1) [(a, a)] := by
  refine ⟨_, 1, rfl, Nat.le_refl _, .inr ⟨g, 0, rfl, fun j hj => ?_⟩⟩
  obtain rfl : j = 0 := by simp at hj; omega
  rw [cell_of h, cell_of h]
  exact ⟨rfl, rfl⟩
theorem prx_at {W : World} {g : Nat} {a : Int} (h : W.heap[g]? = some (.cells #[.int .i64 1, .int .i64 a, .int .i64 0, .slice none 0 0] 59 (0, 0))) : PR W (.slice (some ⟨g, 0, none⟩) 1 1) [⟨1, a, 0, []⟩] := by
  refine ⟨_, 1, rfl, Nat.le_refl _, .inr ⟨g, 0, rfl, fun j hj => ?_⟩⟩
  obtain rfl : j = 0 := by simp at hj; omega
  exact ⟨.slice none 0 0, by rw [cell_of h]; rfl, by rw [cell_of h]; rfl, by rw [cell_of h]; rfl, by rw [cell_of h]; rfl, ⟨none, 0, rfl, Nat.le_refl _, .inl rfl⟩⟩
theorem alloc_at {W : World} {o : Obj} {k : Nat} (h : k = W.heap.size) : (W.alloc o).heap[k]? = some o := by subst h; exact heap_alloc_new _ _
theorem alloc_up {W : World} {o ob : Obj} {k : Nat} (h : W.heap[k]? = some ob) : (W.alloc o).heap[k]? = some ob := (((Grown.refl W).alloc o).below.block k (blk_lt h)).trans h
/-- the example's blocks -/
structure PLB (W : World) (n : Nat) : Prop where
  b1 : W.heap[n + 1]? = some (.cells #[.int .i64 97, .int .i64 97] 92 (0, 0))
  b2 : W.heap[n + 2]? = some (.cells #[.slice (some ⟨n + 1, 0, none⟩) 1 1] 57 (0, 0))
  b4 : W.heap[n + 4]? = some (.cells #[.int .i64 1, .int .i64 120, .int .i64 0, .slice none 0 0] 59 (0, 0))
  b5 : W.heap[n + 5]? = some (.cells #[.int .i64 97, .int .i64 97] 92 (0, 0))
  b6 : W.heap[n + 6]? = some (.cells #[.int .i64 98, .int .i64 98] 92 (0, 0))
  b7 : W.heap[n + 7]? = some (.cells #[.slice (some ⟨n + 5, 0, none⟩) 1 1, .slice (some ⟨n + 6, 0, none⟩) 1 1] 57 (0, 0))
  b9 : W.heap[n + 9]? = some (.cells #[.int .i64 1, .int .i64 121, .int .i64 0, .slice none 0 0] 59 (0, 0))
  b10 : W.heap[n + 10]? = some (.cells #[.bool false, .slice none 0 0, .slice (some ⟨n + 2, 0, none⟩) 1 1, .slice none 0 0, .bool false, .slice (some ⟨n + 4, 0, none⟩) 1 1, .int .i64 1, .bool false, .slice none 0 0, .slice (some ⟨n + 7, 0, none⟩) 2 2, .slice none 0 0, .bool false, .slice (some ⟨n + 9, 0, none⟩) 1 1, .int .i64 1] 53 (0, 0))
theorem PLB.psr {W : World} {n : Nat} (h : PLB W n) : PsR W (.slice (some ⟨n + 10, 0, none⟩) 2 2) rsP := by
  refine ⟨_, 2, rfl, Nat.le_refl _, .inr ⟨n + 10, 0, rfl, fun j hj => ?_⟩⟩
  have hj2 : j = 0 ∨ j = 1 := by simp [rsP] at hj; omega
  have h15 := h.b10
  have nl : SR W (.slice none 0 0) [] := ⟨none, 0, rfl, Nat.le_refl _, .inl rfl⟩
  rcases hj2 with rfl | rfl
  · refine ⟨_, _, _, _, by rw [cell_of h15]; rfl, by rw [cell_of h15]; rfl, by rw [cell_of h15]; rfl, by rw [cell_of h15]; rfl, by rw [cell_of h15]; rfl, by rw [cell_of h15]; rfl, by rw [cell_of h15]; rfl, ⟨nl, ?_, nl, prx_at h.b4⟩⟩
    refine ⟨_, 1, rfl, Nat.le_refl _, .inr ⟨n + 2, 0, rfl, fun j hj => ?_⟩⟩
    obtain rfl : j = 0 := by simp [rsP] at hj; omega
    exact ⟨_, by rw [cell_of h.b2]; rfl, rsx_at h.b1⟩
  · refine ⟨_, _, _, _, by rw [cell_of h15]; rfl, by rw [cell_of h15]; rfl, by rw [cell_of h15]; rfl, by rw [cell_of h15]; rfl, by rw [cell_of h15]; rfl, by rw [cell_of h15]; rfl, by rw [cell_of h15]; rfl, ⟨nl, ?_, nl, prx_at h.b9⟩⟩
    refine ⟨_, 2, rfl, Nat.le_refl _, .inr ⟨n + 7, 0, rfl, fun j hj => ?_⟩⟩
    have hj2 : j = 0 ∨ j = 1 := by simp [rsP] at hj; omega
    rcases hj2 with rfl | rfl
    · exact ⟨_, by rw [cell_of h.b7]; rfl, rsx_at h.b5⟩
    · exact ⟨_, by rw [cell_of h.b7]; rfl, rsx_at h.b6⟩
set_option maxHeartbeats 8000000 in
theorem plain_any (w : World) : Calls Tryd.prog 19 #[] w fun e w' => e = .returned (.agg #[.slice (some ⟨w.heap.size + 10, 0, none⟩) 2 2]) ∧ PsR w' (.slice (some ⟨w.heap.size + 10, 0, none⟩) 2 2) rsP ∧ Grown w w' := by
  go_enter Tryd.func19, Tryd.ntmps19
  go_wp2_with (first | (go_at_call 33; refine (one_any _ _).mono ?_; rintro e w' ⟨rfl, rfl⟩) | (go_at_call 34; refine (piece_any _ _).mono ?_; rintro e w' ⟨rfl, rfl⟩))
  refine bodyPost_ret (v := .agg #[.slice (some ⟨w.heap.size + 10, 0, none⟩) 2 2]) (by simp [results, Tryd.f19, go_sem]) rfl ⟨rfl, PLB.psr ?_, ?_⟩
  · constructor
    all_goals (repeat (first | (refine alloc_at ?_; simp; done) | refine alloc_up ?_))
  · repeat (first | exact Grown.refl _ | refine Grown.alloc ?_ _)
/-- abaab, ab, yxy -/
def tA : ByteArray := ⟨#[97, 98, 97, 97, 98]⟩
def tB : ByteArray := ⟨#[97, 98]⟩
theorem may_A : mayE rsP tA = 0 := by decide +kernel
theorem may_B : mayE rsP tB = 0 := by decide +kernel
theorem run_A : runT rsP tA = ⟨#[121, 120, 121]⟩ := by decide +kernel
theorem end_B : (endOf rsP tB).1.map (fun x => (x.r, x.d, x.l, x.t, x.a, x.b)) = [(1, 0, 2, 2, 1, 0)] := by decide +kernel

theorem end_B2 : ∃ df, endOf rsP tB = ([⟨1, 0, 2, 2, 1, 0⟩], df) := by
  have h := end_B
  generalize endOf rsP tB = X at h
  obtain ⟨xs, df⟩ := X
  refine ⟨df, ?_⟩
  rcases xs with _ | ⟨x, _ | ⟨y, l⟩⟩
  · cases h
  · simp only [List.map_cons, List.map_nil, List.cons.injEq, Prod.mk.injEq, and_true] at h
    obtain ⟨h1, h2, h3, h4, h5, h6⟩ := h
    cases x
    simp only at h1 h2 h3 h4 h5 h6
    subst h1 h2 h3 h4 h5 h6
    rfl
  · simp at h
/-- the iterator of a pass that was handed in -/
theorem made_of {w W0 : World} {rs : List Rl} {s : ByteArray} {b1 b2 : Nat} {v : Value} (hT : Tab w) (hz : 0 < w.heap.size) (hb : Below w.heap.size w W0) (hE : mayE rs s = 0) (h1 : W0.heap[b1]? = some (.cells #[v] 22 (0, 0))) (h2 : W0.heap[b2]? = some (.cells #[.string s] 9 (0, 0))) (hP : PsR W0 v rs) : ∃ st, Made W0 rs s b1 b2 v st := by
  obtain ⟨st, hw, hs, hF, hall, hck, hG⟩ := may_ok hE
  exact ⟨st, ⟨hT.below hb hz, Nat.lt_of_lt_of_le hz hb.size, hP, hF, hall, hck⟩, (cell_of h1).trans rfl, (cell_of h2).trans rfl, hs, hG⟩
set_option maxHeartbeats 8000000 in
theorem shown_any (w : World) (hT : Tab w) (hz : 0 < w.heap.size) : Calls Tryd.prog 7 #[] w fun e w' => e = .returned (.bool true) ∧ Below w.heap.size w w' := by
  have HPl : Hid (∀ W, Below w.heap.size w W → Calls Tryd.prog 19 #[] W fun e w' => ∃ g, e = .returned (.agg #[.slice (some ⟨g, 0, none⟩) 2 2]) ∧ PsR w' (.slice (some ⟨g, 0, none⟩) 2 2) rsP ∧ Tab w' ∧ 0 < w'.heap.size ∧ Below W.heap.size W w') := fun W hb => (plain_any W).mono (by
    rintro e w' ⟨h1, h2, h3⟩
    have hb' := hb.trans (h3.below.mono hb.size)
    exact ⟨_, h1, h2, hT.below hb' hz, Nat.lt_of_lt_of_le hz hb'.size, h3.below⟩)
  have HRun : Hid (∀ W g, PsR W (.slice (some ⟨g, 0, none⟩) 2 2) rsP → Tab W → 0 < W.heap.size → Calls Tryd.prog 18 #[.agg #[.slice (some ⟨g, 0, none⟩) 2 2], .string ⟨#[97, 98, 97, 97, 98]⟩] W fun e w' => e = .returned (.tuple #[.string ⟨#[121, 120, 121]⟩, .int .i64 0]) ∧ Below W.heap.size W w') := fun W g h1 h2 h3 => by
    have := run_any _ rsP tA W h2 h3 h1
    rw [run_A, may_A] at this
    exact this
  have HSt : Hid (∀ W g, PsR W (.slice (some ⟨g, 0, none⟩) 2 2) rsP → Tab W → Calls Tryd.prog 8 #[.agg #[.slice (some ⟨g, 0, none⟩) 2 2], .string ⟨#[97, 98]⟩] W fun e w' => ∃ b1 b2 v, e = .returned (.tuple #[.func (.func 22) #[] #[.pointer (some ⟨b1, 0, none⟩), .pointer (some ⟨b2, 0, none⟩)], .int .i64 0]) ∧ w'.heap[b1]? = some (.cells #[v] 22 (0, 0)) ∧ w'.heap[b2]? = some (.cells #[.string tB] 9 (0, 0)) ∧ PsR w' v rsP ∧ Below W.heap.size W w') := fun W g h1 h2 => (steps_any _ rsP tB W h2 h1).mono (by
    rintro e w' ⟨hb, ⟨h3, _⟩ | ⟨_, b1, b2, v, rfl, _, _, h4, h5, h6⟩⟩
    · exact absurd may_B h3
    · exact ⟨b1, b2, v, rfl, h4, h5, h6.now, hb⟩)
  have HT := Hid.mk' (And.intro hT hz)
  clear hT hz
  refine (callsIn_wide (n := 6)).1 ?_
  refine callsIn_of_wp_marks Tryd.func7 rfl trivial ?_ rfl
  simp only [Tryd.ntmps7, List.size_toArray, List.length_nil, Nat.reduceSub, Array.replicate_succ, Array.replicate_zero, List.push_toArray, List.append_toArray, List.nil_append, List.cons_append]
  have hg0 : Grown w (w.alloc (.cells #[.bool false] 4)) := (Grown.refl _).alloc _
  have hr0 := heap_alloc_new w (.cells #[.bool false] 4)
  gi_wp2_with fail
  refine ⟨trivial, ?_⟩
  gi_at_call 19
  refine (callsIn_wide.2 (HPl.out _ hg0.below)).mono ?_
  rintro e w1 ⟨g, rfl, hp1, hT1, hz1, hb1⟩
  have hR1 := (hb1.block _ (blk_lt hr0)).trans hr0
  have hB1 : Below w.heap.size w w1 := hg0.below.trans (hb1.mono hg0.size)
  have HP1 := Hid.mk' (And.intro hp1 (And.intro hT1 hz1))
  clear hp1 hT1 hz1 hb1
  gi_wp2_with fail
  refine ⟨trivial, ?_⟩
  gi_at_call 18
  refine (callsIn_wide.2 (HRun.out w1 g HP1.out.1 HP1.out.2.1 HP1.out.2.2)).mono ?_
  rintro e w2 ⟨rfl, hb2⟩
  have hR2 := (hb2.block _ (blk_lt hR1)).trans hR1
  have hB2 : Below w.heap.size w w2 := hB1.trans (hb2.mono hB1.size)
  clear hb2 HP1 hR1 hB1
  gi_wp2_with fail
  refine ⟨trivial, ?_⟩
  gi_at_call 19
  refine (callsIn_wide.2 (HPl.out _ hB2)).mono ?_
  rintro e w3 ⟨g', rfl, hp3, hT3, hz3, hb3⟩
  have hR3 := (hb3.block _ (blk_lt hR2)).trans hR2
  have hB3 : Below w.heap.size w w3 := hB2.trans (hb3.mono hB2.size)
  have HP3 := Hid.mk' (And.intro hp3 hT3)
  clear hp3 hT3 hz3 hb3 hR2 hB2
  gi_wp2_with fail
  refine ⟨trivial, ?_⟩
  gi_at_call 8
  refine (callsIn_wide.2 (HSt.out w3 g' HP3.out.1 HP3.out.2)).mono ?_
  rintro e w5 ⟨b1, b2, v, rfl, hx1, hx2, hP5, hb5⟩
  have hR5 := (hb5.block _ (blk_lt hR3)).trans hR3
  have hB5 : Below w.heap.size w w5 := hB3.trans (hb5.mono hB3.size)
  obtain ⟨st, hM⟩ := made_of HT.out.1 HT.out.2 hB5 may_B hx1 hx2 hP5
  have HM := Hid.mk' hM
  have HR5 := Hid.mk' hR5
  have HB5 := Hid.mk' hB5
  clear hx1 hx2 hP5 hb5 hR3 hB3 hM hR5 hB5 HP3
  have hnf : ∀ W, (binOp .eql 28 (.func (.func 22) #[] #[.pointer (some ⟨b1, 0, none⟩), .pointer (some ⟨b2, 0, none⟩)]) .nilFunc).run Tryd.prog W = .ok (.bool false) W := fun W => by kernel_rfl
  gi_wp2
  obtain ⟨W6, hW6⟩ : ∃ W6, W6 = w5.alloc (.cells #[.int .i64 0] 3) := ⟨_, rfl⟩
  obtain ⟨nb, hnb⟩ : ∃ nb, nb = w5.heap.size := ⟨_, rfl⟩
  have hs6 : W6.heap.size = nb + 1 := by rw [hW6, hnb]; simp
  have hbx6 : W6.heap[nb]? = some (.cells #[.int .i64 0] 3 (0, 0)) := by rw [hW6, hnb]; exact heap_alloc_new _ _
  have hB6 : Below nb w5 W6 := by rw [hW6, hnb]; exact ((Grown.refl w5).alloc _).below
  rw [← hW6, ← hnb]
  have HNB := Hid.mk' hnb
  clear hW6 hnb
  obtain ⟨df, hend⟩ := end_B2
  have hxf : (endOf rsP tB).1 = [⟨1, 0, 2, 2, 1, 0⟩] := by rw [hend]
  have hVs : ∀ r : Loop, ((W6.alloc (.deferred (some []))).alloc (.loop r)).heap.size = nb + 1 + 2 := fun r => by simp [hs6]
  refine wpIn_overR (enc := encS) (by omega) (gf := 22) (pa := #[]) (lb := #[.pointer (some ⟨b1, 0, none⟩), .pointer (some ⟨b2, 0, none⟩)]) rfl (enters_of Tryd.func22 (by kernel_rfl) rfl) (xf := [⟨1, 0, 2, 2, 1, 0⟩]) (b := nb) (h := nb + 1) (Z := fun k => nb + 1 + 2 ≤ k) (E := fun _ => True) hs6.symm (by omega) (by omega) (by omega)
    (fun r => by
      have := steps1_seq (V := (W6.alloc (.deferred (some []))).alloc (.loop r)) HM.out (by
        rw [← HNB.out]
        exact hB6.trans ((((Grown.refl W6).alloc _).alloc _).below.mono (by omega))) 5 (nb + 1 + 1) (by omega)
      rw [hxf, hVs r, ← HNB.out] at this
      exact this)
    (fun _ _ _ => trivial) (fun _ => rfl)
    (fun pre W => Below nb w5 W ∧ W.heap[nb]? = some (.cells #[.int .i64 pre.length] 3 (0, 0))) (fun _ _ _ => False)
    (fun pre X Y hX hf => ⟨hX.1.trans (hf.below (fun k hk => by omega) (by have := hX.1.size; have := HNB.out; omega)), (hf.block _ (blk_lt hX.2) (by omega)).trans hX.2⟩)
    (fun _ _ _ _ hX _ => hX) ⟨hB6, hbx6⟩ ?round ?done ?stop
  case round =>
    intro l pre x W hpre hW
    obtain ⟨rfl, rfl⟩ : pre = [] ∧ x = ⟨1, 0, 2, 2, 1, 0⟩ := by
      obtain ⟨t, ht⟩ := hpre
      cases pre with
      | nil => simp at ht; exact ⟨rfl, ht.1⟩
      | cons y l => simp at ht
    rw [show (#[32] : Array Tmp).zip (encS ⟨1, 0, 2, 2, 1, 0⟩) = #[(32, Value.agg (fs1 ⟨1, 0, 2, 2, 1, 0⟩).toArray)] from zip1 _ _]
    unfold fs1
    gi_wp2
    refine ⟨(Grown.refl _).alloc _, ?_⟩
    rintro X ⟨hI1, hbx⟩ hXs hXk
    have hcx : X.heap[W.heap.size]? = some (.cells #[.int .i64 1, .int .i64 0, .int .i64 2, .int .i64 2, .int .i64 1, .int .i64 0] 34 (0, 0)) := by rw [hXk _ (by omega)]; exact heap_alloc_new W _
    have k0 : X.cell? ⟨W.heap.size, 0, none⟩ = some (.int .i64 1) := by rw [cell_of hcx]; rfl
    have k1 : X.cell? ⟨W.heap.size, 1, none⟩ = some (.int .i64 0) := by rw [cell_of hcx]; rfl
    have k2 : X.cell? ⟨W.heap.size, 2, none⟩ = some (.int .i64 2) := by rw [cell_of hcx]; rfl
    have k3 : X.cell? ⟨W.heap.size, 3, none⟩ = some (.int .i64 2) := by rw [cell_of hcx]; rfl
    have k4 : X.cell? ⟨W.heap.size, 4, none⟩ = some (.int .i64 1) := by rw [cell_of hcx]; rfl
    have k5 : X.cell? ⟨W.heap.size, 5, none⟩ = some (.int .i64 0) := by rw [cell_of hcx]; rfl
    have cn : X.cell? ⟨nb, 0, none⟩ = some (.int .i64 0) := by rw [cell_of hbx]; rfl
    have fn : X.frozen? ⟨nb, 0, none⟩ = false := free_of hbx
    have HX := Hid.mk' (And.intro hI1 hbx)
    clear hI1 hbx hXs hXk hcx
    gi_wp2
    refine ⟨⟨Below.setCell (p := ⟨nb, 0, none⟩) (Below.refl nb X) (Nat.le_refl _) _, fun k o hk ho => ?_⟩, Below.setCell (p := ⟨nb, 0, none⟩) HX.out.1 (Nat.le_refl _) _, ?_⟩
    · exact (Below.heap_setCell X ⟨nb, 0, none⟩ _ k (by simp only; omega)).trans ho
    · rw [set_heap HX.out.2]; rfl
  case done =>
    rintro D W hD ⟨hI, hbx⟩ _ hK
    have cn : W.cell? ⟨nb, 0, none⟩ = some (.int .i64 1) := by rw [cell_of hbx]; rfl
    have hlt := blk_lt HR5.out
    have hR : W.heap[w.heap.size]? = some (.cells #[.bool false] 4 (0, 0)) := (hI.block _ (by have := HNB.out; omega)).trans HR5.out
    have cr : W.cell? ⟨w.heap.size, 0, none⟩ = some (.bool false) := by rw [cell_of hR]; rfl
    have fr : W.frozen? ⟨w.heap.size, 0, none⟩ = false := free_of hR
    have HW := Hid.mk' (And.intro hI (And.intro hR hK))
    clear hI hbx hR hK
    gi_wp2
    have hK2 : (W.setCell ⟨w.heap.size, 0, none⟩ (.bool true)).heap[D]? = some (.deferred (some [])) := (Below.heap_setCell W ⟨w.heap.size, 0, none⟩ _ D (by simp only; have := HNB.out; omega)).trans HW.out.2.2
    refine ⟨by simp, .inl ⟨_, _, rfl, run_takeDeferred hK2, ?_⟩⟩
    have hR3 : ((W.setCell ⟨w.heap.size, 0, none⟩ (.bool true)).putObj D (.deferred none)).heap[w.heap.size]? = some (.cells #[.bool true] 4 (0, 0)) := (World.putObj_heap_other (by have := HNB.out; omega)).trans ((set_heap HW.out.2.1).trans rfl)
    have c0 : ((W.setCell ⟨w.heap.size, 0, none⟩ (.bool true)).putObj D (.deferred none)).cell? ⟨w.heap.size, 0, none⟩ = some (.bool true) := (cell_of hR3).trans rfl
    refine ⟨.bool true, ?_, rfl, ?_⟩
    · have hr : Tryd.f7.results = #[.cell 0 4] := rfl
      simp only [results, hr]
      simp [go_sem, c0]
    · have hb : Below w.heap.size w W := HB5.out.trans (HW.out.1.mono (by have := HNB.out; have := HB5.out.size; omega))
      have hb2 : Below w.heap.size w (W.setCell ⟨w.heap.size, 0, none⟩ (.bool true)) := Below.setCell (p := ⟨w.heap.size, 0, none⟩) hb (Nat.le_refl _) _
      exact hb2.trans (belowK_b (w := w) (Nat.le_refl _) _ D _ _ (by have := HNB.out; have := HB5.out.size; omega) hK2 rfl rfl)
  case stop =>
    rintro D c pre W _ _ h _
    exact h.elim
end Go.Proofs
