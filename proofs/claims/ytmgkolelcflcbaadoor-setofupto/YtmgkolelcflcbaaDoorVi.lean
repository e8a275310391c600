/-
  Of: the set of some ranges, in any order.
-/
import Derived.RangeFuncNested
import Derived.RangeFuncBound
import Derived.RangeFuncCalls
import Derived.RangeFuncLeaves
import Derived.Shelf.Abstract
import Derived.Shelf.RegionOpen
import Derived.WalkKit
import Derived.WalkSpells
import Derived.WalkLawsBesides
import Derived.OwnWalkIn
import Derived.TacticsInMore
import Derived.LoopNIn
import Derived.LoopIn
import Derived.BigQuiet
import Derived.RegionIn
import Derived.Deep.QuietTactic
import Derived.Deep.RegionWith
import Derived.Lib.OthersKept
import Derived.Maps.AppendAt
import Derived.Maps.OwnIn
import Derived.Lib.SmallJoins
import Derived.Test.YtmgkolelcflcbaaDoorVh
namespace Go.Proofs
open Go.RowKit Go.Shelf

set_option maxRecDepth 100000
attribute [local go_sem] Oper.semAt_some
theorem boxed_kept {W W' : World} {row : Option Nat} {B : Nat} {t : TypeId} {v : Value} (h : Boxed W B t v) (hg : W.grownBy W' row) (hr : ∀ r, row = some r → ∃ o : Obj, W.heap[r]? = some o ∧ o.isCells = false) : Boxed W' B t v :=
  h.kept hg (fun e => by obtain ⟨o, ho, hc⟩ := hr B e.symm; rw [show W.heap[B]? = _ from h] at ho; cases ho; cases hc)
theorem boxed_below {W W' : World} {B n : Nat} {t : TypeId} {v : Value} (h : Boxed W B t v) (hb : Below n W W') (hn : B < n) : Boxed W' B t v := (hb.block B hn).trans h
theorem ownR_kept {W W' : World} {row : Option Nat} {base : Nat} {v : Value} {l : List (Int × Int)} (h : OwnR W base v l) (hg : W.grownBy W' row) (hr : ∀ r, row = some r → ∃ o : Obj, W.heap[r]? = some o ∧ o.isCells = false) : OwnR W' base v l := by
  refine h.kept hg ?_
  rcases h.2 with ⟨rfl, _⟩ | ⟨g, cap, cur, rfl, _, hgb, _⟩
  · exact .inl rfl
  · refine .inr fun e' => ?_
    obtain ⟨o, ho, hc⟩ := hr g (by simpa [Value.ownBlock] using e'.symm)
    rw [hgb] at ho; cases ho; cases hc
/-- the marks that the loops have left -/
def Marks (b : Nat) (Ds : List Nat) (W : World) : Prop := ∀ D ∈ Ds, b ≤ D ∧ W.heap[D]? = some (.deferred (some []))
theorem Marks.keeps {b : Nat} {Ds : List Nat} {W W' : World} (h : Marks b Ds W) (hk : KeepsOthers W W') : Marks b Ds W' := fun D hD => ⟨(h D hD).1, hk.same D _ (h D hD).2 rfl⟩
theorem keeps_grown {W W' : World} {base : Nat} {v : Value} {l : List (Int × Int)} (h : OwnR W base v l) (hg : W.grownBy W' v.ownBlock) : KeepsOthers W W' := KeepsOthers.of_grownBy hg fun j o ej hj => by
  rcases h.2 with ⟨rfl, _⟩ | ⟨g, cap, cur, rfl, _, hgb, _⟩
  · simp [Value.ownBlock] at ej
  · obtain rfl : g = j := by simpa [Value.ownBlock] using ej
    rw [hgb] at hj; cases hj; rfl
theorem keeps_below {W W' : World} (hb : Below W.heap.size W W') : KeepsOthers W W' := ⟨hb.size, fun k _ hk _ => (hb.block k (Array.getElem?_eq_some_iff.1 hk).1).trans hk⟩
/-- what Of has gathered behind some rounds of the iterator -/
def OI (w : World) (m : List (Int × Int)) (B : Nat) (a b : Int) (Ds : List Nat) (pre : List (Int × Int)) (W : World) : Prop :=
  (∃ v, Boxed W w.heap.size 22 v ∧ OwnR W w.heap.size v (m ++ pre) ∧ v.ownBlock ≠ some B) ∧ (W.cell? ⟨B, 0, none⟩ = some (.int .i64 a) ∧ W.cell? ⟨B, 1, none⟩ = some (.int .i64 b)) ∧ Marks w.heap.size Ds W ∧ Below w.heap.size w W
theorem OI_own (w W0 : World) (m : List (Int × Int)) (B : Nat) (a b : Int) (Ds : List Nat) (hB : w.heap.size ≤ W0.heap.size) (hD : ∀ D ∈ Ds, D < W0.heap.size) : OwnFrom W0.heap.size (OI w m B a b Ds) := by
  rintro p X Y row ⟨⟨v, h1, h2, h3⟩, ⟨h4, h5⟩, h6, h7⟩ hg hr
  refine ⟨⟨v, boxed_kept h1 hg (fun r e => (hr r e).2), ownR_kept h2 hg (fun r e => (hr r e).2), h3⟩, ⟨cell_kept h4 hg (fun r e => (hr r e).2), cell_kept h5 hg (fun r e => (hr r e).2)⟩, fun D hDm => ⟨(h6 D hDm).1, ?_⟩, h7.grown hg h7.size (fun k e => by have := (hr k e).1; omega)⟩
  have hX := (h6 D hDm).2
  refine (hg.block D (Array.getElem?_eq_some_iff.1 hX).1 (fun e => ?_)).trans hX
  have h8 := (hr D e.symm).1
  have h9 := hD D hDm
  omega
/-- the frame of a round -/
def AxO (f : Value → Int × Int → Array Value) (x : Int × Int) (a' : Act) (W : World) : Prop := ∃ p, a' = { tmps := f (.pointer (some ⟨p, 0, none⟩)) x, defers := [] } ∧ W.cell? ⟨p, 0, none⟩ = some (.int .i64 x.1) ∧ W.cell? ⟨p, 1, none⟩ = some (.int .i64 x.2)
theorem AxO_own (f : Value → Int × Int → Array Value) (x : Int × Int) (a' : Act) (B : Nat) : OwnFrom B (fun (_ : Unit) W => AxO f x a' W) := by
  rintro _ X Y row ⟨p, h1, h2, h3⟩ hg hr
  exact ⟨p, h1, cell_kept h2 hg (fun r e => (hr r e).2), cell_kept h3 hg (fun r e => (hr r e).2)⟩
theorem mrg_perm {l l' r : List (Int × Int)} (h : Mrg l' r) (hp : l'.Perm l) : Mrg l r := by
  refine ⟨h.1, fun u => ?_, by rw [← hp.length_eq]; exact h.2.2⟩
  rw [h.2.1 u]
  constructor
  · rintro ⟨x, hx, h⟩; exact ⟨x, hp.mem_iff.1 hx, h⟩
  · rintro ⟨x, hx, h⟩; exact ⟨x, hp.mem_iff.2 hx, h⟩
theorem own_form {W : World} {base : Nat} {v : Value} {l : List (Int × Int)} (h : OwnR W base v l) (h0 : l ≠ []) : ∃ g N cap, v = .slice (some ⟨g, 0, none⟩) N cap := by
  obtain ⟨g, cap, e⟩ := Joins.ownsRow_form h (List.length_pos_iff.2 h0)
  exact ⟨g, _, cap, e⟩
theorem pushIn_R {F : Fence} {nF : Nat} {ops : Array Oper} {rest : List Oper} {o : Oper} {a : Act} {Q : Exit → Act → World → Prop} {w : World} (hgd : o.guard = none) (s x : Operand) (t : TypeId)
    (ho : o.op = .call { callee := .builtin .append, args := #[s, x], argTypes := #[t, t] }) (ht : Tryd.prog.underlying t = some (.slice 38))
    (base : Nat) (v : Value) (l : List (Int × Int)) (hs : a.eval s = v) (hown : OwnR w base v l) (g c : Nat) (p q : Int) (hx : a.eval x = .slice (some ⟨g, 0, none⟩) 1 c)
    (hp : w.cell? ⟨g, 0, none⟩ = some (.int .i64 p)) (hq : w.cell? ⟨g, 1, none⟩ = some (.int .i64 q)) (hl : l.length + 1 ≤ 8796093022208) (hbase : base ≤ w.heap.size)
    (h : ∀ v' w', OwnR w' base v' (l ++ [(p, q)]) → w.grownBy w' v.ownBlock → (v'.ownBlock = v.ownBlock ∨ v'.ownBlock = some w.heap.size) → wpListIn F nF Tryd.prog ops Q rest (a.put o.dst v') w') : wpListIn F nF Tryd.prog ops Q (o :: rest) a w := by
  obtain ⟨i0, hi, hz0, hz1, hz2⟩ := info_parts info38
  refine wpListIn_append_own_at w hgd s x t ho base 38 i0 (.agg #[.int .i64 0, .int .i64 0]) 2 16 ht hi hz0 hz1 hz2 rfl (by decide) v l.length (fl l) hs hown ⟨g, 0, none⟩ 1 c (fl [(p, q)]) hx rfl ?_ (fl_one _) (by unfold maxLen; omega) (by omega) hbase (fun v' w' h2 h3 _ h5 => h v' w' ?_ h3 h5)
  · intro j u hj
    match j, hj with
    | 0, hj => simp [fl] at hj; subst hj; exact hp
    | 1, hj => simp [fl] at hj; subst hj; exact hq
  · unfold OwnR
    rw [fl_append, List.length_append]
    exact h2
set_option maxHeartbeats 4000000 in
theorem of_walk (g o c : Nat) (l : List (Int × Int)) (w : World) (hT : Tab w) (h : Reads w g o l) (hg : g < w.heap.size) (hn : 3 * l.length < 8796093022208) :
    Calls Tryd.prog 10 #[.slice (some ⟨g, o, none⟩) l.length c] w fun e w' => ∃ r, Mrg (clipAll l) r ∧ ((r.length ≤ 512 ∧ ∃ v, e = .returned (.tuple #[v, .int .i64 0]) ∧ OwnR w' w.heap.size v r) ∨ (512 < r.length ∧ e = .returned (.tuple #[.slice none 0 0, .int .i64 21]))) ∧ Below w.heap.size w w' := by
  obtain ⟨n, hnn⟩ : ∃ n, l.length = n := ⟨_, rfl⟩
  have HN : Hid (l.length = n) := hnn
  rw [hnn] at hn ⊢
  have HH : Hid (Reads w g o l) := h
  clear h hnn
  refine (callsIn_wide (n := 5)).1 ?_
  refine callsIn_of_wp_marks Tryd.func10 rfl trivial ?_ rfl
  simp only [Tryd.ntmps10, List.size_toArray, List.length_cons, List.length_nil, Nat.reduceAdd, Nat.reduceSub, Array.replicate_succ, Array.replicate_zero, List.push_toArray, List.append_toArray, List.nil_append, List.cons_append]
  gi_wp2
  refine wpIn_loop (fun a' W => ∃ (k : Nat) (v u5 u6 u7 u11 u12 u13 u14 u15 u16 u17 u18 u19 u20 u21 : Value) (Ds : List Nat), a' = { tmps := #[.slice (some ⟨g, o, none⟩) n c, undef, .slice none 0 0, .int .i64 0, .pointer (some ⟨w.heap.size, 0, none⟩), u5, u6, u7, .slice (some ⟨g, o, none⟩) n c, .int .i64 n, .int .i64 k, u11, u12, u13, u14, u15, u16, u17, u18, u19, u20, u21, undef, undef, undef, undef, undef, undef, undef], defers := Ds.map mk } ∧ k ≤ n ∧ Boxed W w.heap.size 22 v ∧ OwnR W w.heap.size v (clipAll (l.take k)) ∧ Ds.Nodup ∧ Marks w.heap.size Ds W ∧ Below w.heap.size w W) (fun a' _ => n - (intOf (a'.tmps.getD 10 undef)).toNat) ?start ?round
  case start =>
    exact ⟨0, .slice none 0 0, _, _, _, _, _, _, _, _, _, _, _, _, _, _, [], rfl, by omega, Boxed.new _ _ _, OwnR.nil _ _, List.nodup_nil, fun D hD => by simp at hD, (Below.refl _ w).alloc (Nat.le_refl _) _⟩
  case round =>
    rintro a' wr ⟨k, v, u5, u6, u7, u11, u12, u13, u14, u15, u16, u17, u18, u19, u20, u21, Ds, rfl, hk, hbx, hO, hnd, hM, hB⟩
    have hz := hB.size
    have hbc := hbx.cell
    by_cases hlt : k < n
    · as_aux_lemma =>
        have hlt' : (k : Int) < (n : Int) := by omega
        have hpos : (0 : Int) ≤ (k : Int) := by omega
        have hkl : k < l.length := by rw [HN.out]; exact hlt
        obtain ⟨a, b, hab⟩ : ∃ a b : Int, rg l k = (a, b) := ⟨_, _, rfl⟩
        have hrd := HH.out.below hB hg
        obtain ⟨ca, cb⟩ := hrd k hkl
        rw [hab] at ca cb
        simp only at ca cb
        have HCk : Hid (clipAll (l.take (k + 1)) = clipAll (l.take k) ++ clips a b) := by have := clipAll_take hkl; rw [hab] at this; exact this
        have hml : (clipAll (l.take k)).length + 3 < 8796093022208 := by have := clipAll_len (l.take k); rw [List.length_take] at this; omega
        clear hab hrd
        gi_wp2_with (refine ⟨trivial, ?_⟩; gi_at_call 42; refine (callsIn_wide.2 (clipped_any _ _ _)).mono ?_; rintro e w' ⟨rfl, rfl⟩)
        obtain ⟨W2, hW2⟩ : ∃ W2, (wr.alloc (.cells #[.int .i64 a, .int .i64 b] 38)).alloc (.cells #[.int .i64 a, .int .i64 b] 38) = W2 := ⟨_, rfl⟩
        have z2 : W2.heap.size = wr.heap.size + 2 := by rw [← hW2]; simp
        have b2 : Boxed W2 w.heap.size 22 v := by rw [← hW2]; exact (hbx.alloc _).alloc _
        have o2 : OwnR W2 w.heap.size v (clipAll (l.take k)) := by rw [← hW2]; exact (hO.alloc _).alloc _
        have cB := new_cells (wr.alloc (.cells #[.int .i64 a, .int .i64 b] 38)) (.int .i64 a) (.int .i64 b) 38 (wr.heap.size + 1) (World.size_alloc _ _)
        rw [hW2] at cB
        obtain ⟨cB0, cB1⟩ := cB
        have m2 : Marks w.heap.size Ds W2 := by rw [← hW2]; exact hM.keeps ((KeepsOthers.alloc _ _).trans (KeepsOthers.alloc _ _))
        have B2 : Below w.heap.size w W2 := by rw [← hW2]; exact (hB.alloc hz _).alloc (by simp; omega) _
        have T2 : Tab W2 := hT.below B2 hT.pos
        have vne : v.ownBlock ≠ some (wr.heap.size + 1) := fun e => by have := (World.ownsRow.lt hO _ e).2; omega
        have hDl : ∀ D ∈ Ds, D < W2.heap.size := fun D hD => (Array.getElem?_eq_some_iff.1 (m2 D hD).2).1
        rw [hW2]
        clear hW2 ca cb hbx hbc hO hM
        refine wpIn_rangeFunc_ownH rfl (by omega) (gf := 61) (lb := #[.pointer (some ⟨wr.heap.size + 1, 0, none⟩)]) rfl trivial (enters_of Tryd.func61 (by kernel_rfl) rfl)
          (clip_stops 4 (by omega) (wr.heap.size + 1) a b W2 (by omega) T2 cB0 cB1) kpB_t kpB_b (Below.refl _ _) (fun _ => rfl)
          (OI w (clipAll (l.take k)) (wr.heap.size + 1) a b Ds) (fun _ _ _ => False)
          (OI_own w W2 _ _ _ _ Ds (by omega) hDl) (fun _ _ _ _ _ hs _ _ => hs)
          ⟨⟨v, b2, by rw [List.append_nil]; exact o2, vne⟩, ⟨cB0, cB1⟩, m2, B2⟩
          (AxO fun q x => #[.slice (some ⟨g, o, none⟩) n c, undef, .slice none 0 0, .int .i64 0, .pointer (some ⟨w.heap.size, 0, none⟩), u5, .pointer (some ⟨wr.heap.size, 0, none⟩), q, .slice (some ⟨g, o, none⟩) n c, .int .i64 n, .int .i64 k, .bool true, .pointer (some ⟨g, o + k * 2, none⟩), .agg #[.int .i64 a, .int .i64 b], .agg #[.int .i64 a, .int .i64 b], .func (.func 61) #[] #[.pointer (some ⟨wr.heap.size + 1, 0, none⟩)], .agg #[.int .i64 x.1, .int .i64 x.2], u17, u18, u19, u20, u21, undef, undef, undef, undef, undef, undef, undef])
          (fun x a' => AxO_own _ x a' _) ?assign ?body ?done ?stop
        case assign =>
          intro l1 pre x W K hi hK
          gi_wp2
          refine hK _ _ ((KeepsOthers.alloc W _).from _) ⟨(KeepsOthers.alloc W _).walks, fun j u hu => cell_up hu _⟩ (OI_own w W2 _ _ _ _ Ds (by omega) hDl _ _ _ none hi (World.grownBy_alloc W _ none) (fun r e => by cases e)) ⟨W.heap.size, rfl, (new_cells W _ _ _ _ rfl).1, (new_cells W _ _ _ _ rfl).2⟩
        case body =>
          as_aux_lemma =>
            rintro l1 pre x a' W hl1 hlr ⟨⟨v1, h1, h2, h3⟩, ⟨h4, h5⟩, h6, h7⟩ ⟨p, rfl, hp0, hp1⟩ hlen
            clear b2 o2 cB0 cB1 m2 B2 T2 vne
            have c1 := h1.cell
            have hz7 := h7.size
            have hlm : (clipAll (l.take k) ++ pre).length + 1 ≤ 8796093022208 := by rw [List.length_append]; omega
            gi_wp2_with (gi_at_builtin; go_must (refine pushIn_R rfl _ _ 22 rfl Tryd.underlying22 w.heap.size _ _ rfl (h2.alloc _) W.heap.size _ x.1 x.2 rfl (new_cells W _ _ _ _ rfl).1 (new_cells W _ _ _ _ rfl).2 hlm (by rw [World.size_alloc]; omega) ?_); intro v' w1 hown' hgrow hat; obtain ⟨g', N, cap', rfl⟩ := own_form hown' (by simp); obtain ⟨hv1, hv2, hr2, hk2, hb2⟩ := h1.appended (by decide) h2 hz7 (Nat.le_refl _) hown' hgrow; have hc1 := hv1.cell; have hf1 := hv1.frozen)
            have hBlt : wr.heap.size + 1 < W.heap.size := by obtain ⟨ob, hob, _⟩ := cells_of_cell h4; exact (Array.getElem?_eq_some_iff.1 hob).1
            have hkc : ∀ j u, W.cell? ⟨wr.heap.size + 1, j, none⟩ = some u → (w1.setCell ⟨w.heap.size, 0, none⟩ (.slice (some ⟨g', 0, none⟩) N cap')).cell? ⟨wr.heap.size + 1, j, none⟩ = some u := fun j u hu => by
              rw [World.cell?_setCell_other _ _ _ _ (by simp only [ne_eq, Addr.mk.injEq, not_and]; omega), World.cell?_of_block (w := W.alloc _) (hgrow.block (wr.heap.size + 1) (by rw [World.size_alloc]; omega) (fun e => h3 e.symm))]
              exact cell_up hu _
            refine ⟨hk2.from _, ⟨hk2.walks, hkc⟩, ⟨_, hv2, ?_, ?_⟩, ⟨hkc _ _ h4, hkc _ _ h5⟩, h6.keeps hk2, h7.trans hb2⟩
            · rw [← List.append_assoc]; exact hr2
            · rcases hat with e | e
              · rw [e]; exact h3
              · rw [e, World.size_alloc]; intro e2; have := Option.some.inj e2; omega
        case done =>
          as_aux_lemma =>
            rintro D ys W hD hys ⟨⟨v1, h1, h2, h3⟩, ⟨h4, h5⟩, h6, h7⟩ hK
            subst hys
            clear b2 o2 cB0 cB1 B2 T2 vne
            gi_wp2
            refine ⟨⟨k + 1, v1, _, _, _, _, _, _, _, _, _, _, _, _, _, _, D :: Ds, by go_num, by omega, h1, by rw [HCk.out]; exact h2, ?_, ?_, h7⟩, by simp [intOf]; omega⟩
            · rw [List.nodup_cons]
              exact ⟨fun hm => by have := hDl D hm; omega, hnd⟩
            · intro E hE
              rw [List.mem_cons] at hE
              rcases hE with rfl | hE
              · exact ⟨by omega, hK⟩
              · exact h6 E hE
        case stop =>
          rintro D c pre W _ _ h _
          exact h.elim
    · as_aux_lemma =>
        have hlk : l.take k = l := List.take_of_length_le (by rw [HN.out]; omega)
        rw [hlk] at hO
        have hml : (clipAll l).length < 8796093022208 := by have := clipAll_len l; rw [HN.out] at this; omega
        have HS : Hid (Calls Tryd.prog 43 #[v, .func (.func 44) #[] #[]] wr fun e w' => e = .returned (.tuple #[]) ∧ ∃ m', m'.Perm (clipAll l) ∧ Asc m' ∧ Rs w' v m' ∧ wr.grownBy w' v.ownBlock) := sort_any v (clipAll l) w.heap.size wr hO hz hml
        have HO : Hid (OwnR wr w.heap.size v (clipAll l)) := hO
        clear hlk hO
        gi_wp2
        refine ⟨trivial, ?_⟩
        gi_at_call 43
        refine (callsIn_wide.2 HS.out).mono ?_
        rintro e w1 ⟨rfl, m', hp, hs, hr, hgr⟩
        have hbx1 : Boxed w1 w.heap.size 22 v := hbx.kept hgr (hbx.not_row (by decide) HO.out)
        have hbc1 := hbx1.cell
        have hM1 := hM.keeps (keeps_grown HO.out hgr)
        have hB1 : Below w.heap.size w w1 := hB.trans (own_below HO.out hz hgr)
        have hpl := hp.length_eq
        have HM : Hid (Calls Tryd.prog 47 #[v] w1 fun e w' => ∃ v r, e = .returned v ∧ Mrg m' r ∧ OwnR w' w1.heap.size v r ∧ Below w1.heap.size w1 w') := merged_any v m' w1 hr (fun x hx => clipAll_whole (hp.mem_iff.1 hx)) hs (by omega)
        have HP : Hid (m'.Perm (clipAll l)) := hp
        clear hbc hbx hr hs hp hgr hM
        gi_wp2
        refine ⟨trivial, ?_⟩
        gi_at_call 47
        refine (callsIn_wide.2 HM.out).mono ?_
        rintro e w2 ⟨v2, r, rfl, hmr, hor, hb2⟩
        obtain ⟨a2, n2, c2, rfl, hn2⟩ : ∃ a2 n2 c2, v2 = .slice a2 n2 c2 ∧ r.length = n2 := by
          obtain ⟨a2, c2, e2, _, _⟩ := OwnR.rs hor
          exact ⟨a2, _, c2, e2, rfl⟩
        have hB2 : Below w.heap.size w w2 := hB1.trans (hb2.mono hB1.size)
        have hM2 : Marks w.heap.size Ds w2 := hM1.keeps (keeps_below hb2)
        have hor2 := hor.le hB1.size
        have HF : Hid (Mrg (clipAll l) r) := mrg_perm hmr HP.out
        clear hmr hb2 hM1 hbc1 hbx1 hor
        gi_wp2
        refine ⟨trivial, ?_⟩
        gi_at_call 46
        refine (callsIn_wide.2 (few_any a2 n2 c2 w2)).mono ?_
        rintro e w3 ⟨rfl, rfl⟩
        by_cases hf : n2 ≤ 512
        · rw [if_pos hf]
          gi_wp2
          refine leaves_marks (fun W => OwnR W w.heap.size (.slice a2 n2 c2) r ∧ Below w.heap.size w W) w.heap.size ?_ ?_ Ds w3 hnd hM2 ⟨hor2, hB2⟩
          · rintro W D ob o' ⟨q1, q2⟩ hD hob hoc
            exact ⟨ownR_kept q1 (grownBy_putObj' W D o') (fun r e => by cases e; exact ⟨ob, hob, hoc⟩), q2.grown (grownBy_putObj' W D o') q2.size (fun k e => by cases e; exact hD)⟩
          · rintro W ⟨q1, q2⟩
            refine ⟨.tuple #[.slice a2 n2 c2, .int .i64 0], by simp [results, Tryd.f10, go_sem], r, HF.out, ?_, q2⟩
            exact .inl ⟨by omega, _, rfl, q1⟩
        · rw [if_neg hf]
          gi_wp2
          refine leaves_marks (fun W => OwnR W w.heap.size (.slice a2 n2 c2) r ∧ Below w.heap.size w W) w.heap.size ?_ ?_ Ds w3 hnd hM2 ⟨hor2, hB2⟩
          · rintro W D ob o' ⟨q1, q2⟩ hD hob hoc
            exact ⟨ownR_kept q1 (grownBy_putObj' W D o') (fun r e => by cases e; exact ⟨ob, hob, hoc⟩), q2.grown (grownBy_putObj' W D o') q2.size (fun k e => by cases e; exact hD)⟩
          · rintro W ⟨q1, q2⟩
            refine ⟨.tuple #[.slice none 0 0, .int .i64 21], by simp [results, Tryd.f10, go_sem], r, HF.out, ?_, q2⟩
            exact .inr ⟨by omega, rfl⟩
set_option maxHeartbeats 1000000 in
theorem of_nil (a : Option Addr) (c : Nat) (w : World) :
    Calls Tryd.prog 10 #[.slice a 0 c] w fun e w' => ∃ v, e = .returned (.tuple #[v, .int .i64 0]) ∧ OwnR w' w.heap.size v [] ∧ Below w.heap.size w w' := by
  have hf := few_any none 0 0
  simp only [Nat.zero_le, if_true] at hf
  have HF : Hid (∀ w, Calls Tryd.prog 46 #[.slice none 0 0] w fun e w' => e = .returned (.tuple #[.slice none 0 0, .int .i64 0]) ∧ w' = w) := hf
  clear hf
  refine (callsIn_wide (n := 5)).1 ?_
  refine callsIn_of_wp_marks Tryd.func10 rfl trivial ?_ rfl
  simp only [Tryd.ntmps10, List.size_toArray, List.length_cons, List.length_nil, Nat.reduceAdd, Nat.reduceSub, Array.replicate_succ, Array.replicate_zero, List.push_toArray, List.append_toArray, List.nil_append, List.cons_append]
  gi_wp2
  refine wpIn_loop_once ?_
  gi_wp2
  refine ⟨trivial, ?_⟩
  gi_at_call 43
  refine (callsIn_wide.2 (AnyF.slices_SortFunc_none Tryd.sortR none 0 _ _)).mono ?_
  rintro e w1 ⟨rfl, rfl⟩
  gi_wp2
  refine ⟨trivial, ?_⟩
  gi_at_call 47
  refine (callsIn_wide.2 (merged_nil none 0 _)).mono ?_
  rintro e w1 ⟨rfl, rfl⟩
  gi_wp2
  refine ⟨trivial, ?_⟩
  gi_at_call 46
  refine (callsIn_wide.2 (HF.out _)).mono ?_
  rintro e w1 ⟨rfl, rfl⟩
  gi_wp2
  exact ⟨.tuple #[.slice none 0 0, .int .i64 0], by simp [results, Tryd.f10, go_sem], _, rfl, OwnR.nil _ _, (Below.refl _ w).alloc (Nat.le_refl _) _⟩
/-- the ranges of the units that are in one of some ranges -/
def Canon (l r : List (Int × Int)) : Prop := Good r ∧ ∀ u, hasU r u ↔ isU u ∧ hasU l u
theorem canon_of {l r : List (Int × Int)} (h : Mrg (clipAll l) r) : Canon l r := ⟨h.1, fun u => by rw [h.2.1 u, clipAll_has]⟩
theorem of_any (v : Value) (l : List (Int × Int)) (w : World) (hT : Tab w) (h : Rs w v l) (hn : 3 * l.length < 8796093022208) :
    Calls Tryd.prog 10 #[v] w fun e w' => ∃ r, Canon l r ∧ ((r.length ≤ 512 ∧ ∃ v, e = .returned (.tuple #[v, .int .i64 0]) ∧ OwnR w' w.heap.size v r) ∨ (512 < r.length ∧ e = .returned (.tuple #[.slice none 0 0, .int .i64 21]))) ∧ Below w.heap.size w w' := by
  obtain ⟨a, c, rfl, _, h⟩ := h
  by_cases h0 : l = []
  · subst h0
    refine (of_nil a c w).mono ?_
    rintro e w' ⟨v, rfl, h1, h2⟩
    exact ⟨[], ⟨good_nil, fun u => by simp [hasU]⟩, .inl ⟨by simp, v, rfl, h1⟩, h2⟩
  · obtain ⟨g, o, rfl, h'⟩ := h.resolve_left h0
    refine (of_walk g o c l w hT h' (h'.lt h0) hn).mono ?_
    rintro e w' ⟨r, h1, h2⟩
    exact ⟨r, canon_of h1, h2⟩
end Go.Proofs
