/-
  names: rows of sets; each item of a row is read.
-/
import Derived.Shelf.Abstract
import Derived.Shelf.RegionOpen
import Derived.WalkKit
import Derived.WalkSpells
import Derived.WalkLawsBesides
import Derived.OwnWalk
import Derived.BigQuiet
import Derived.Deep.QuietTactic
import Derived.Deep.LoopGhost
import Derived.Deep.RegionWith
import Derived.Deep.DeepCutAuto
import Derived.Laws.EntriesVeiled
import Derived.Lib.OthersKept
import Derived.Maps.AppendAt
import Derived.Lib.SmallJoins
import Derived.Test.YtbacejefgpaabaaDoorNh
namespace Go.Proofs
open Go.RowKit Go.Shelf

set_option maxRecDepth 100000
attribute [local go_sem] Oper.semAt_some

theorem own_kt {W W' : World} {base : Nat} {e : TypeId} {size n : Nat} {v : Value} {xs : List Value} (h : W.ownsRow base e size v n xs) (hg : W.grownBy W' v.ownBlock) {t : TypeId} (ht : e ≠ t) : KT t W W' := KT.grown hg fun r er cs m hr => by
  rcases h.2 with ⟨rfl, _⟩ | ⟨g, cap, cur, rfl, _, hgb, _⟩
  · simp [Value.ownBlock] at er
  · obtain rfl : g = r := by simpa [Value.ownBlock] using er
    rw [hgb] at hr
    cases hr
    exact ht rfl
theorem own_kept_t {W W' : World} {base : Nat} {e : TypeId} {size n : Nat} {v : Value} {xs : List Value} (h : W.ownsRow base e size v n xs) (k : KT e W W') : W'.ownsRow base e size v n xs := by
  refine ⟨h.1, ?_⟩
  rcases h.2 with h | ⟨g, cap, cur, e1, h1, h2, h3⟩
  · exact .inl h
  · exact .inr ⟨g, cap, cur, e1, h1, k _ _ _ h2, h3⟩
theorem info30 : (Tryd.prog.info? 30).map (fun i => (i.zero, i.size, i.bytes)) = some (some (.slice none 0 0), 1, 24) := by kernel_rfl
/-- a row of sets, all of the call's own -/
def SRow (W : World) (base : Nat) (v : Value) (ls : List (List (Int × Int))) : Prop :=
  ∃ vs : List Value, vs.length = ls.length ∧ W.ownsRow base 30 1 v vs.length vs ∧ (∀ x ∈ vs, ∃ a n c, x = .slice a n c) ∧ ∀ (j : Nat) (h1 : j < vs.length) (h2 : j < ls.length), OwnR W base vs[j] ls[j]
theorem SRow.nil (W : World) (base : Nat) : SRow W base (.slice none 0 0) [] := ⟨[], rfl, World.ownsRow_nil _ _ _ _, by simp, fun j h => by simp at h⟩
theorem SRow.kt {W W' : World} {base : Nat} {v : Value} {ls : List (List (Int × Int))} (h : SRow W base v ls) (k1 : KT 30 W W') (k2 : KT 48 W W') : SRow W' base v ls := by
  obtain ⟨vs, h1, h2, h3, h4⟩ := h
  exact ⟨vs, h1, own_kept_t h2 k1, h3, fun j a b => (h4 j a b).kt k2⟩
theorem SRow.le {W : World} {base base' : Nat} {v : Value} {ls : List (List (Int × Int))} (h : SRow W base v ls) (hb : base' ≤ base) : SRow W base' v ls := by
  obtain ⟨vs, h1, h2, h3, h4⟩ := h
  exact ⟨vs, h1, Joins.ownsRow_le h2 hb, h3, fun j a b => (h4 j a b).le hb⟩
theorem push_S {ops : Array Oper} {rest : List Oper} {o : Oper} {a : Act} {Q : Exit → Act → World → Prop} {w : World} (hgd : o.guard = none) (s x : Operand)
    (ho : o.op = .call { callee := .builtin .append, args := #[s, x], argTypes := #[34, 34] }) (base : Nat) (v : Value) (ls : List (List (Int × Int))) (hs : a.eval s = v) (hown : SRow w base v ls) (g c : Nat) (hx : a.eval x = .slice (some ⟨g, 0, none⟩) 1 c) (sv : Value) (r : List (Int × Int)) (hc : w.cell? ⟨g, 0, none⟩ = some sv) (hsv : OwnR w base sv r)
    (hn : ls.length ≤ 1000000) (hb : base ≤ w.heap.size)
    (h : ∀ v' w', SRow w' base v' (ls ++ [r]) → Below base w w' → wpList Tryd.prog ops Q rest (a.put o.dst v') w') : wpList Tryd.prog ops Q (o :: rest) a w := by
  obtain ⟨i0, hi, hz0, hz1, hz2⟩ := info_parts info30
  obtain ⟨vs, h1, h2, h3, h4⟩ := hown
  have hslice : ∃ a n c, sv = .slice a n c := by
    obtain ⟨A, c, e, _⟩ := hsv.rs
    exact ⟨A, _, c, e⟩
  refine wpList_append_own w hgd s x 34 ho base 30 i0 (.slice none 0 0) 1 24 Tryd.underlying34 hi hz0 hz1 hz2 rfl (by decide) v vs.length vs hs h2 ⟨g, 0, none⟩ 1 c [sv] hx rfl ?_ ?_ (by unfold maxLen; omega) (by omega) hb ?_
  · intro j u hj
    cases j with
    | zero => simp at hj; subst hj; rw [add_zero_at]; exact hc
    | succ j => simp at hj
  · intro u hu
    simp at hu
    subst hu
    obtain ⟨A, n, c, rfl⟩ := hslice
    rfl
  · intro v' w' r1 r2 _
    have k48 : KT 48 w w' := own_kt h2 r2 (by decide)
    refine h v' w' ⟨vs ++ [sv], by simp [h1], by simpa using r1, ?_, fun j a b => ?_⟩ ((Below.refl _ w).grown r2 hb (fun j e => (h2.lt j e).1))
    · intro y hy
      rw [List.mem_append] at hy
      rcases hy with hy | hy
      · exact h3 y hy
      · obtain rfl : y = sv := by simpa using hy
        exact hslice
    · by_cases hj : j < vs.length
      · have e1 : (vs ++ [sv])[j] = vs[j] := List.getElem_append_left hj
        have e2 : (ls ++ [r])[j] = ls[j]'(by omega) := List.getElem_append_left (by omega)
        rw [e1, e2]
        exact (h4 j hj (by omega)).kt k48
      · have hj2 : j = vs.length := by simp at a; omega
        subst hj2
        have e1 : (vs ++ [sv])[vs.length] = sv := by simp
        have e2 : (ls ++ [r])[vs.length]'b = r := by simp [h1]
        rw [e1, e2]
        exact hsv.kt k48
/-- an item with its parts -/
structure PIt where
  x : It
  v : Value
  l : List (It × Value)
/-- a row of items in memory -/
def IRow (W : World) (v : Value) (l : List PIt) : Prop := l.length ≤ 1000000 ∧ (∀ p ∈ l, ItemOk W p.x p.v p.l) ∧ ((l = [] ∧ v = .slice none 0 0) ∨ ∃ g o c, v = .slice (some ⟨g, o, none⟩) l.length c ∧ (∀ j, j < l.length → g < W.heap.size) ∧ ∀ (j : Nat) (hj : j < l.length), ItAt W g (o + j * 8) l[j].x l[j].v)
theorem IRow.below {W W' : World} {v : Value} {l : List PIt} (h : IRow W v l) (hb : Below W.heap.size W W') : IRow W' v l := by
  obtain ⟨h1, h2, h3⟩ := h
  exact ⟨h1, fun p hp => (h2 p hp).below hb, h3.imp id (fun ⟨g, o, c, e2, hg, h⟩ => ⟨g, o, c, e2, fun j hj => Nat.lt_of_lt_of_le (hg j hj) hb.size, fun j hj => (h j hj).below hb (hg j hj)⟩)⟩
/-- each item of a row is read, up to the first that has an error -/
def EachC (K : ByteArray → Option (List (Int × Int))) (l : List PIt) (c : Int) (rs : List (List (Int × Int))) : Prop :=
  (c = 0 ∧ rs.length = l.length ∧ ∀ (j : Nat) (h1 : j < l.length) (h2 : j < rs.length), SetC K l[j].x (l[j].l.map Prod.fst) 0 rs[j]) ∨
  (c ≠ 0 ∧ ∃ (k : Nat) (hk : k < l.length), (∀ (j : Nat) (hj : j < l.length), j < k → ∃ r, SetC K l[j].x (l[j].l.map Prod.fst) 0 r) ∧ ∃ r, SetC K l[k].x (l[k].l.map Prod.fst) c r)
/-- how far each is -/
def EI (w : World) (K : ByteArray → Option (List (Int × Int))) (l : List PIt) (k : Nat) (sv : Value) (wr : World) : Prop :=
  ∃ rs, rs.length = k ∧ (∀ (j : Nat) (h1 : j < l.length) (h2 : j < rs.length), SetC K l[j].x (l[j].l.map Prod.fst) 0 rs[j]) ∧ SRow wr w.heap.size sv rs ∧ Below w.heap.size w wr
set_option maxHeartbeats 4000000 in
theorem each_walk (g o cp : Nat) (l : List PIt) (p1 p3 : Nat) (mv : Value) (K : ByteArray → Option (List (Int × Int))) (w : World) (hT : Tab w) (hl : l.length ≤ 1000000) (hg : ∀ j, j < l.length → g < w.heap.size) (hP : ∀ (j : Nat) (hj : j < l.length), ItAt w g (o + j * 8) l[j].x l[j].v) (hOk : ∀ p ∈ l, ItemOk w p.x p.v p.l)
    (hR : Reader w (.func (.func 34) #[] #[.pointer (some ⟨p3, 0, none⟩), .pointer (some ⟨p1, 0, none⟩)]) mv) (hK : KnownV w mv K) :
    Calls Tryd.prog 58 #[.slice (some ⟨g, o, none⟩) l.length cp, .func (.func 34) #[] #[.pointer (some ⟨p3, 0, none⟩), .pointer (some ⟨p1, 0, none⟩)]] w fun e w' => ∃ c rs v, EachC K l c rs ∧ e = .returned (.tuple #[v, .int .i64 c]) ∧ (if c = 0 then SRow w' w.heap.size v rs else v = .slice none 0 0) ∧ Below w.heap.size w w' := by
  obtain ⟨n, hn⟩ : ∃ n, l.length = n := ⟨_, rfl⟩
  rw [hn]
  have hnI : (n : Int) ≤ 1000000 := by omega
  have HPart : Hid (∀ (j : Nat) (hj : j < l.length) (W : World), Below w.heap.size w W → Calls Tryd.prog 34 #[l[j].x.val l[j].v, .pointer (some ⟨p3, 0, none⟩), .pointer (some ⟨p1, 0, none⟩)] W fun e w' => ∃ c r v, SetC K l[j].x (l[j].l.map Prod.fst) c r ∧ e = .returned (.tuple #[v, .int .i64 c]) ∧ (if c = 0 then OwnR w' W.heap.size v r else v = .slice none 0 0) ∧ Below W.heap.size W w') := fun j hj W hW =>
    (item_any l[j].x l[j].v l[j].l _ mv K W (hT.below hW hT.pos) ((hOk _ (List.getElem_mem hj)).below hW) p1 p3 (hR.kt (KT.below hW) (KT.below hW)) rfl (hK.below hW)).mono (by
      rintro e w' ⟨c, r, h1, ⟨v, h2, h3⟩, h4⟩
      exact ⟨c, r, v, h1, h2, h3, h4⟩)
  have HI : Hid (∀ (j : Nat) (hj : j < l.length) (W : World), Below w.heap.size w W → ItAt W g (o + j * 8) l[j].x l[j].v) := fun j hj W hW => (hP j hj).below hW (hg j hj)
  have HS : Hid (∀ (j : Nat) (hj : j < l.length), ∃ a n c, l[j].v = .slice a n c) := fun j hj => (hOk _ (List.getElem_mem hj)).2.2.1
  have HM : Hid (l.length = n) := hn
  clear hT hP hOk hR hK hn
  go_enter Tryd.func58, Tryd.ntmps58
  go_wp2
  go_loopw [6, 13] (fun sa vi wr => ∃ (va : Value) (kk : Nat), va = sa ∧ vi = .int .i64 kk ∧ kk ≤ n ∧ Hid (EI w K l kk va wr)) (fun _ vi _ => n - (intOf vi).toNat)
  case atStart =>
    exact ⟨_, 0, rfl, rfl, Nat.zero_le _, [], rfl, fun j _ h => absurd h (by simp), SRow.nil _ _, Below.refl _ _⟩
  case round =>
    obtain ⟨va, kk, rfl, rfl, hkk, HG⟩ := hrel
    have hk0 : (0 : Int) ≤ (kk : Int) := by omega
    have hkI : (kk : Int) ≤ 1000000 := by omega
    obtain ⟨rs, hrl, hrc, hSR, hB⟩ := HG.out
    by_cases hlt : kk < n
    · have hltI : (kk : Int) < (n : Int) := by omega
      have hltl : kk < l.length := by rw [HM.out]; exact hlt
      obtain ⟨x, ps, pl, hx⟩ : ∃ x ps pl, l[kk] = ⟨x, ps, pl⟩ := ⟨l[kk].x, l[kk].v, l[kk].l, rfl⟩
      have HC := HPart.out kk hltl
      have hI := HI.out kk hltl wr hB
      obtain ⟨pa, pn, pcp, hps⟩ := HS.out kk hltl
      rw [hx] at HC hI hps
      simp only at hps
      subst hps
      obtain ⟨xk, xu, xnm, xlo, xhi, xnt, xky⟩ := x
      obtain ⟨c0, c1, c2, c3, c4, c5, c6, c7⟩ := hI
      simp only at c0 c1 c2 c3 c4 c5 c6 c7
      have HX : Hid (l[kk] = ⟨⟨xk, xu, xnm, xlo, xhi, xnt, xky⟩, .slice pa pn pcp, pl⟩) := hx
      have HCC : Hid (∀ (W : World), Below w.heap.size w W → Calls Tryd.prog 34 #[itv xk xu xnm (.slice pa pn pcp) xlo xhi xnt xky, .pointer (some ⟨p3, 0, none⟩), .pointer (some ⟨p1, 0, none⟩)] W fun e w' => ∃ c r v, SetC K ⟨xk, xu, xnm, xlo, xhi, xnt, xky⟩ (pl.map Prod.fst) c r ∧ e = .returned (.tuple #[v, .int .i64 c]) ∧ (if c = 0 then OwnR w' W.heap.size v r else v = .slice none 0 0) ∧ Below W.heap.size W w') := HC
      have HBa : Hid (∀ ob, Below w.heap.size w (wr.alloc ob)) := fun ob => hB.alloc hB.size ob
      have HO : Hid (∀ ob W, Below (wr.alloc ob).heap.size (wr.alloc ob) W → SRow W w.heap.size va rs) := fun ob W h => (hSR.kt (KT.alloc _ _) (KT.alloc _ _)).kt (KT.below h) (KT.below h)
      have HRC : Hid (∀ (j : Nat) (h1 : j < l.length) (h2 : j < rs.length), SetC K l[j].x (l[j].l.map Prod.fst) 0 rs[j]) := hrc
      clear HC hx HG hrc hSR hB
      go_wp2_with fail
      refine (HCC.out _ (HBa.out _)).mono ?_
      rintro e w2 ⟨c, r, v, hSC, rfl, hv, hb2⟩
      have HSC : Hid (SetC K ⟨xk, xu, xnm, xlo, xhi, xnt, xky⟩ (pl.map Prod.fst) c r) := hSC
      clear hSC
      have hB2 := (HBa.out _).trans (hb2.mono (HBa.out _).size)
      by_cases h0 : c = 0
      · subst h0
        rw [if_pos rfl] at hv
        have hO2 := HO.out _ _ hb2
        have hv2 : OwnR w2 w.heap.size v r := hv.le (HBa.out _).size
        have HP2 : Hid (∀ ob, SRow (w2.alloc ob) w.heap.size va rs ∧ OwnR (w2.alloc ob) w.heap.size v r ∧ w.heap.size ≤ (w2.alloc ob).heap.size) := fun ob => ⟨hO2.kt (KT.alloc _ _) (KT.alloc _ _), hv2.alloc _, by rw [World.size_alloc]; have := hB2.size; omega⟩
        have HB3 : Hid (∀ ob, Below w.heap.size w (w2.alloc ob)) := fun ob => hB2.alloc hB2.size ob
        obtain ⟨va', vn, vc, hve⟩ : ∃ a n c, v = .slice a n c := by obtain ⟨A, c, e, _⟩ := hv2.rs; exact ⟨A, _, c, e⟩
        subst hve
        have hrl2 : rs.length ≤ 1000000 := by omega
        clear hv hO2 hv2 hb2 hB2
        go_wp2_with (at_builtin; go_must (refine push_S rfl _ _ rfl w.heap.size _ rs rfl (HP2.out _).1 _ _ rfl _ r (by simp) (HP2.out _).2.1 hrl2 (HP2.out _).2.2 ?_; intro v3 w3 hO3 hB3))
        go_roundw
        case rel =>
          refine ⟨_, kk + 1, rfl, by simp, hlt, rs ++ [r], by simp [hrl], fun j h1 h2 => ?_, hO3, (HB3.out _).trans hB3⟩
          by_cases hj : j < rs.length
          · rw [List.getElem_append_left hj]
            exact HRC.out j h1 hj
          · have hj2 : j = kk := by simp at h2; omega
            subst hj2
            have e2 : (rs ++ [r])[j]'h2 = r := by simp [← hrl]
            rw [e2]
            have := HX.out
            rw [this]
            exact HSC.out
        case measure => simp [intOf]; omega
      · have hp0' : (c != 0) = true := by simpa using h0
        rw [if_neg h0] at hv
        subst hv
        clear hb2
        go_wp2
        refine bodyPost_ret (v := .tuple #[.slice none 0 0, .int .i64 c]) (by simp [results, Tryd.f58, go_sem]) rfl ⟨c, [], _, .inr ⟨h0, kk, hltl, fun j hj hjk => ⟨_, HRC.out j hj (by omega)⟩, r, ?_⟩, rfl, by rw [if_neg h0], hB2⟩
        have := HX.out
        rw [this]
        exact HSC.out
    · have hgeI : (n : Int) ≤ (kk : Int) := by omega
      obtain rfl : kk = n := by omega
      have HF : Hid (EachC K l 0 rs ∧ SRow wr w.heap.size va rs ∧ Below w.heap.size w wr) := ⟨.inl ⟨rfl, by rw [hrl, HM.out], hrc⟩, hSR, hB⟩
      clear hrc hSR hB HG
      go_wp2
      exact bodyPost_ret (v := .tuple #[va, .int .i64 0]) (by simp [results, Tryd.f58, go_sem]) rfl ⟨0, rs, va, HF.out.1, rfl, HF.out.2.1, HF.out.2.2⟩
end Go.Proofs
