/-
  names: rows of pieces; each item of a result is read.
-/
import Derived.Shelf.Abstract
import Derived.Shelf.RegionOpen
import Derived.WalkKit
import Derived.WalkSpells
import Derived.WalkLawsBesides
import Derived.OwnWalk
import Derived.BigQuiet
import Derived.Deep.QuietTactic
import Derived.Deep.LoopGhost
import Derived.Deep.RegionWith
import Derived.Deep.DeepCutAuto
import Derived.Laws.EntriesVeiled
import Derived.Lib.OthersKept
import Derived.Maps.AppendAt
import Derived.WalkMore
import Derived.Lib.SmallJoins
import Derived.Test.YtbacejefgpaabaaDoorNj
namespace Go.Proofs
open Go.RowKit Go.Shelf

set_option maxRecDepth 100000
attribute [local go_sem] Oper.semAt_some

/-- a piece and where its set lies -/
structure PcV where
  p : Pc
  a : Option Addr
  n : Nat
  c : Nat
def fp1 (e : PcV) : List Value := [.int .i64 e.p.k, .int .i64 e.p.u, .int .i64 e.p.y, .slice e.a e.n e.c]
def fp (l : List PcV) : List Value := l.flatMap fp1
theorem fp_length (l : List PcV) : (fp l).length = l.length * 4 := by
  induction l with
  | nil => rfl
  | cons a l ih => simp [fp, fp1] at ih ⊢; omega
theorem info66 : (Tryd.prog.info? 66).map (fun i => (i.zero, i.size, i.bytes)) = some (some (.agg #[.int .i64 0, .int .i64 0, .int .i64 0, .slice none 0 0]), 4, 48) := by kernel_rfl
/-- a row of pieces, all of the call's own -/
def PcRow (W : World) (base : Nat) (v : Value) (ps : List Pc) : Prop :=
  ∃ es : List PcV, es.map PcV.p = ps ∧ W.ownsRow base 66 4 v es.length (fp es) ∧ ∀ e ∈ es, OwnR W base (.slice e.a e.n e.c) e.p.tl
theorem PcRow.nil (W : World) (base : Nat) : PcRow W base (.slice none 0 0) [] := ⟨[], rfl, World.ownsRow_nil _ _ _ _, by simp⟩
theorem PcRow.kt {W W' : World} {base : Nat} {v : Value} {ps : List Pc} (h : PcRow W base v ps) (k1 : KT 66 W W') (k2 : KT 48 W W') : PcRow W' base v ps := by
  obtain ⟨es, h1, h2, h3⟩ := h
  exact ⟨es, h1, own_kept_t h2 k1, fun e he => (h3 e he).kt k2⟩
theorem PcRow.le {W : World} {base base' : Nat} {v : Value} {ps : List Pc} (h : PcRow W base v ps) (hb : base' ≤ base) : PcRow W base' v ps := by
  obtain ⟨es, h1, h2, h3⟩ := h
  exact ⟨es, h1, Joins.ownsRow_le h2 hb, fun e he => (h3 e he).le hb⟩
theorem push_P {ops : Array Oper} {rest : List Oper} {o : Oper} {a : Act} {Q : Exit → Act → World → Prop} {w : World} (hgd : o.guard = none) (s x : Operand)
    (ho : o.op = .call { callee := .builtin .append, args := #[s, x], argTypes := #[57, 57] }) (base : Nat) (v : Value) (ps : List Pc) (hs : a.eval s = v) (hown : PcRow w base v ps) (g c : Nat) (hx : a.eval x = .slice (some ⟨g, 0, none⟩) 1 c) (e : PcV) (hc0 : w.cell? ⟨g, 0, none⟩ = some (.int .i64 e.p.k)) (hc1 : w.cell? ⟨g, 1, none⟩ = some (.int .i64 e.p.u)) (hc2 : w.cell? ⟨g, 2, none⟩ = some (.int .i64 e.p.y)) (hc3 : w.cell? ⟨g, 3, none⟩ = some (.slice e.a e.n e.c)) (hsv : OwnR w base (.slice e.a e.n e.c) e.p.tl)
    (hn : ps.length ≤ 1000000) (hb : base ≤ w.heap.size)
    (h : ∀ v' w', PcRow w' base v' (ps ++ [e.p]) → Below base w w' → wpList Tryd.prog ops Q rest (a.put o.dst v') w') : wpList Tryd.prog ops Q (o :: rest) a w := by
  obtain ⟨i0, hi, hz0, hz1, hz2⟩ := info_parts info66
  obtain ⟨es, h1, h2, h3⟩ := hown
  have hel : es.length = ps.length := by rw [← h1, List.length_map]
  refine wpList_append_own w hgd s x 57 ho base 66 i0 (.agg #[.int .i64 0, .int .i64 0, .int .i64 0, .slice none 0 0]) 4 48 Tryd.underlying57 hi hz0 hz1 hz2 rfl (by decide) v es.length (fp es) hs h2 ⟨g, 0, none⟩ 1 c (fp1 e) hx rfl ?_ ?_ (by unfold maxLen; omega) (by omega) hb ?_
  · intro j u hj
    rw [add_zero_at]
    match j, hj with
    | 0, hj => simp [fp1] at hj; subst hj; exact hc0
    | 1, hj => simp [fp1] at hj; subst hj; exact hc1
    | 2, hj => simp [fp1] at hj; subst hj; exact hc2
    | 3, hj => simp [fp1] at hj; subst hj; exact hc3
    | j + 4, hj => simp [fp1] at hj
  · intro u hu
    simp [fp1] at hu
    rcases hu with rfl | rfl | rfl | rfl <;> rfl
  · intro v' w' r1 r2 _
    have k48 : KT 48 w w' := own_kt h2 r2 (by decide)
    refine h v' w' ⟨es ++ [e], by simp [h1], by simpa [fp] using r1, fun y hy => ?_⟩ ((Below.refl _ w).grown r2 hb (fun j e => (h2.lt j e).1))
    rw [List.mem_append] at hy
    rcases hy with hy | hy
    · exact (h3 y hy).kt k48
    · obtain rfl : y = e := by simpa using hy
      exact hsv.kt k48
/-- a result's row in memory -/
def RRow (W : World) (v : Value) (l : List RIt) : Prop := l.length ≤ 1000000 ∧ (∀ r ∈ l, RItOk W r) ∧ ((l = [] ∧ v = .slice none 0 0) ∨ ∃ g o c, v = .slice (some ⟨g, o, none⟩) l.length c ∧ (∀ j, j < l.length → g < W.heap.size) ∧ ∀ (j : Nat) (hj : j < l.length), ItAt W g (o + j * 8) l[j].x l[j].v)
theorem RRow.below {W W' : World} {v : Value} {l : List RIt} (h : RRow W v l) (hb : Below W.heap.size W W') : RRow W' v l := by
  obtain ⟨h1, h2, h3⟩ := h
  exact ⟨h1, fun p hp => ritOk_below (h2 p hp) hb, h3.imp id (fun ⟨g, o, c, e2, hg, h⟩ => ⟨g, o, c, e2, fun j hj => Nat.lt_of_lt_of_le (hg j hj) hb.size, fun j hj => (h j hj).below hb (hg j hj)⟩)⟩
def EachP (K : ByteArray → Option (List (Int × Int))) (l : List RIt) (c : Int) (ps : List Pc) : Prop :=
  (c = 0 ∧ ps.length = l.length ∧ ∀ (j : Nat) (h1 : j < l.length) (h2 : j < ps.length), PieceC K l[j] 0 ps[j]) ∨
  (c ≠ 0 ∧ ∃ (k : Nat) (hk : k < l.length), (∀ (j : Nat) (hj : j < l.length), j < k → ∃ r, PieceC K l[j] 0 r) ∧ ∃ r, PieceC K l[k] c r)
def EP (w : World) (K : ByteArray → Option (List (Int × Int))) (l : List RIt) (k : Nat) (sv : Value) (wr : World) : Prop :=
  ∃ rs, rs.length = k ∧ (∀ (j : Nat) (h1 : j < l.length) (h2 : j < rs.length), PieceC K l[j] 0 rs[j]) ∧ PcRow wr w.heap.size sv rs ∧ Below w.heap.size w wr
set_option maxHeartbeats 4000000 in
theorem pieces_walk (g o cp : Nat) (l : List RIt) (mb p1 p3 : Nat) (mv : Value) (K : ByteArray → Option (List (Int × Int))) (w : World) (hT : Tab w) (hl : l.length ≤ 1000000) (hg : ∀ j, j < l.length → g < w.heap.size) (hP : ∀ (j : Nat) (hj : j < l.length), ItAt w g (o + j * 8) l[j].x l[j].v) (hOk : ∀ p ∈ l, RItOk w p)
    (hmb : w.cell? ⟨mb, 1, none⟩ = some (.func (.func 34) #[] #[.pointer (some ⟨p3, 0, none⟩), .pointer (some ⟨p1, 0, none⟩)])) (hR : Reader w (.func (.func 34) #[] #[.pointer (some ⟨p3, 0, none⟩), .pointer (some ⟨p1, 0, none⟩)]) mv) (hK : KnownV w mv K) :
    Calls Tryd.prog 59 #[.slice (some ⟨g, o, none⟩) l.length cp, .func (.func 60) #[.pointer (some ⟨mb, 0, none⟩)] #[]] w fun e w' => ∃ c ps v, EachP K l c ps ∧ e = .returned (.tuple #[v, .int .i64 c]) ∧ (if c = 0 then PcRow w' w.heap.size v ps else v = .slice none 0 0) ∧ Below w.heap.size w w' := by
  obtain ⟨n, hn⟩ : ∃ n, l.length = n := ⟨_, rfl⟩
  rw [hn]
  have hnI : (n : Int) ≤ 1000000 := by omega
  have HPart : Hid (∀ (j : Nat) (hj : j < l.length) (W : World), Below w.heap.size w W → Calls Tryd.prog 60 #[.pointer (some ⟨mb, 0, none⟩), l[j].x.val l[j].v] W fun e w' => ∃ c p a n cp, PieceC K l[j] c p ∧ e = .returned (.tuple #[pcv p.k p.u p.y a n cp, .int .i64 c]) ∧ (c = 0 → OwnR w' W.heap.size (.slice a n cp) p.tl) ∧ Below W.heap.size W w') := fun j hj W hW =>
    piece_any l[j] mb p1 p3 mv K W (hT.below hW hT.pos) (ritOk_below (hOk _ (List.getElem_mem hj)) hW) ((hW.cell (p := ⟨mb, 1, none⟩) (cell_lt hmb)).trans hmb) (hR.kt (KT.below hW) (KT.below hW)) (hK.below hW)
  have HI : Hid (∀ (j : Nat) (hj : j < l.length) (W : World), Below w.heap.size w W → ItAt W g (o + j * 8) l[j].x l[j].v) := fun j hj W hW => (hP j hj).below hW (hg j hj)
  have HS : Hid (∀ (j : Nat) (hj : j < l.length), ∃ a n c, l[j].v = .slice a n c) := fun j hj => (hOk _ (List.getElem_mem hj)).1
  have HM : Hid (l.length = n) := hn
  clear hT hP hOk hR hK hn hmb
  go_enter Tryd.func59, Tryd.ntmps59
  go_wp2
  go_loopw [6, 13] (fun sa vi wr => ∃ (va : Value) (kk : Nat), va = sa ∧ vi = .int .i64 kk ∧ kk ≤ n ∧ Hid (EP w K l kk va wr)) (fun _ vi _ => n - (intOf vi).toNat)
  case atStart =>
    exact ⟨_, 0, rfl, rfl, Nat.zero_le _, [], rfl, fun j _ h => absurd h (by simp), PcRow.nil _ _, Below.refl _ _⟩
  case round =>
    obtain ⟨va, kk, rfl, rfl, hkk, HG⟩ := hrel
    have hk0 : (0 : Int) ≤ (kk : Int) := by omega
    have hkI : (kk : Int) ≤ 1000000 := by omega
    obtain ⟨rs, hrl, hrc, hSR, hB⟩ := HG.out
    by_cases hlt : kk < n
    · have hltI : (kk : Int) < (n : Int) := by omega
      have hltl : kk < l.length := by rw [HM.out]; exact hlt
      obtain ⟨x, ps, pl, hx⟩ : ∃ x ps pl, l[kk] = ⟨x, ps, pl⟩ := ⟨l[kk].x, l[kk].v, l[kk].q, rfl⟩
      have HC := HPart.out kk hltl
      have hI := HI.out kk hltl wr hB
      obtain ⟨pa, pn, pcp, hps⟩ := HS.out kk hltl
      rw [hx] at HC hI hps
      simp only at hps
      subst hps
      obtain ⟨xk, xu, xnm, xlo, xhi, xnt, xky⟩ := x
      obtain ⟨c0, c1, c2, c3, c4, c5, c6, c7⟩ := hI
      simp only at c0 c1 c2 c3 c4 c5 c6 c7
      have HX : Hid (l[kk] = ⟨⟨xk, xu, xnm, xlo, xhi, xnt, xky⟩, .slice pa pn pcp, pl⟩) := hx
      have HCC : Hid (∀ (W : World), Below w.heap.size w W → Calls Tryd.prog 60 #[.pointer (some ⟨mb, 0, none⟩), itv xk xu xnm (.slice pa pn pcp) xlo xhi xnt xky] W fun e w' => ∃ c p a n cp, PieceC K ⟨⟨xk, xu, xnm, xlo, xhi, xnt, xky⟩, .slice pa pn pcp, pl⟩ c p ∧ e = .returned (.tuple #[pcv p.k p.u p.y a n cp, .int .i64 c]) ∧ (c = 0 → OwnR w' W.heap.size (.slice a n cp) p.tl) ∧ Below W.heap.size W w') := HC
      have HBa : Hid (∀ ob, Below w.heap.size w (wr.alloc ob)) := fun ob => hB.alloc hB.size ob
      have HO : Hid (∀ ob W, Below (wr.alloc ob).heap.size (wr.alloc ob) W → PcRow W w.heap.size va rs) := fun ob W h => (hSR.kt (KT.alloc _ _) (KT.alloc _ _)).kt (KT.below h) (KT.below h)
      have HRC : Hid (∀ (j : Nat) (h1 : j < l.length) (h2 : j < rs.length), PieceC K l[j] 0 rs[j]) := hrc
      clear HC hx HG hrc hSR hB
      go_wp2_with fail
      refine (HCC.out _ (HBa.out _)).mono ?_
      rintro e w2 ⟨c, p, va', vn, vc, hSC, rfl, hv, hb2⟩
      obtain ⟨qk, qu, qy, qt⟩ := p
      have HSC : Hid (PieceC K ⟨⟨xk, xu, xnm, xlo, xhi, xnt, xky⟩, .slice pa pn pcp, pl⟩ c ⟨qk, qu, qy, qt⟩) := hSC
      clear hSC
      have hB2 := (HBa.out _).trans (hb2.mono (HBa.out _).size)
      by_cases h0 : c = 0
      · subst h0
        have hO2 := HO.out _ _ hb2
        have hv2 : OwnR w2 w.heap.size (.slice va' vn vc) qt := (hv rfl).le (HBa.out _).size
        have HP2 : Hid (∀ ob ob2, PcRow ((w2.alloc ob).alloc ob2) w.heap.size va rs ∧ OwnR ((w2.alloc ob).alloc ob2) w.heap.size (.slice va' vn vc) qt ∧ w.heap.size ≤ ((w2.alloc ob).alloc ob2).heap.size) := fun ob ob2 => ⟨(hO2.kt (KT.alloc _ _) (KT.alloc _ _)).kt (KT.alloc _ _) (KT.alloc _ _), (hv2.alloc _).alloc _, by rw [World.size_alloc, World.size_alloc]; have := hB2.size; omega⟩
        have HB3 : Hid (∀ ob ob2, Below w.heap.size w ((w2.alloc ob).alloc ob2)) := fun ob ob2 => (hB2.alloc hB2.size ob).alloc (by rw [World.size_alloc]; have := hB2.size; omega) ob2
        have hrl2 : rs.length ≤ 1000000 := by omega
        clear hv hO2 hv2 hb2 hB2
        go_wp2_with (at_builtin; go_must (refine push_P rfl _ _ rfl w.heap.size _ rs rfl (HP2.out _ _).1 _ _ rfl ⟨⟨qk, qu, qy, qt⟩, va', vn, vc⟩ (by simp) (by simp) (by simp) (by simp) (HP2.out _ _).2.1 hrl2 (HP2.out _ _).2.2 ?_; intro v3 w3 hO3 hB3))
        go_roundw
        case rel =>
          refine ⟨_, kk + 1, rfl, by simp, hlt, rs ++ [⟨qk, qu, qy, qt⟩], by simp [hrl], fun j h1 h2 => ?_, hO3, (HB3.out _ _).trans hB3⟩
          by_cases hj : j < rs.length
          · rw [List.getElem_append_left hj]
            exact HRC.out j h1 hj
          · have hj2 : j = kk := by simp at h2; omega
            subst hj2
            have e2 : (rs ++ [⟨qk, qu, qy, qt⟩])[j]'h2 = ⟨qk, qu, qy, qt⟩ := by simp [← hrl]
            rw [e2]
            have := HX.out
            rw [this]
            exact HSC.out
        case measure => simp [intOf]; omega
      · have hp0' : (c != 0) = true := by simpa using h0
        have HB4 : Hid (∀ ob, Below w.heap.size w (w2.alloc ob)) := fun ob => hB2.alloc hB2.size ob
        clear hb2 hv
        go_wp2
        refine bodyPost_ret (v := .tuple #[.slice none 0 0, .int .i64 c]) (by simp [results, Tryd.f59, go_sem]) rfl ⟨c, [], _, .inr ⟨h0, kk, hltl, fun j hj hjk => ⟨_, HRC.out j hj (by omega)⟩, ⟨qk, qu, qy, qt⟩, ?_⟩, rfl, by rw [if_neg h0], HB4.out _⟩
        have := HX.out
        rw [this]
        exact HSC.out
    · have hgeI : (n : Int) ≤ (kk : Int) := by omega
      obtain rfl : kk = n := by omega
      have HF : Hid (EachP K l 0 rs ∧ PcRow wr w.heap.size va rs ∧ Below w.heap.size w wr) := ⟨.inl ⟨rfl, by rw [hrl, HM.out], hrc⟩, hSR, hB⟩
      clear hrc hSR hB HG
      go_wp2
      exact bodyPost_ret (v := .tuple #[va, .int .i64 0]) (by simp [results, Tryd.f59, go_sem]) rfl ⟨0, rs, va, HF.out.1, rfl, HF.out.2.1, HF.out.2.2⟩
set_option maxHeartbeats 1000000 in
theorem each_nil (cp : Nat) (fv : Value) (w : World) : Calls Tryd.prog 58 #[.slice none 0 cp, fv] w fun e w' => e = .returned (.tuple #[.slice none 0 0, .int .i64 0]) ∧ w' = w := by
  go_enter Tryd.func58, Tryd.ntmps58
  go_wp2
  go_loopw [6, 13] (fun sa vi wr => sa = .slice none 0 0 ∧ vi = .int .i64 0 ∧ wr = w) (fun _ _ _ => 0)
  case atStart => exact ⟨rfl, rfl, rfl⟩
  case round =>
    obtain ⟨rfl, rfl, rfl⟩ := hrel
    go_wp2
    exact bodyPost_ret (v := .tuple #[.slice none 0 0, .int .i64 0]) (by simp [results, Tryd.f58, go_sem]) rfl ⟨rfl, rfl⟩
set_option maxHeartbeats 1000000 in
theorem pieces_nil (cp : Nat) (fv : Value) (w : World) : Calls Tryd.prog 59 #[.slice none 0 cp, fv] w fun e w' => e = .returned (.tuple #[.slice none 0 0, .int .i64 0]) ∧ w' = w := by
  go_enter Tryd.func59, Tryd.ntmps59
  go_wp2
  go_loopw [6, 13] (fun sa vi wr => sa = .slice none 0 0 ∧ vi = .int .i64 0 ∧ wr = w) (fun _ _ _ => 0)
  case atStart => exact ⟨rfl, rfl, rfl⟩
  case round =>
    obtain ⟨rfl, rfl, rfl⟩ := hrel
    go_wp2
    exact bodyPost_ret (v := .tuple #[.slice none 0 0, .int .i64 0]) (by simp [results, Tryd.f59, go_sem]) rfl ⟨rfl, rfl⟩
theorem each_any (v : Value) (l : List PIt) (p1 p3 : Nat) (mv : Value) (K : ByteArray → Option (List (Int × Int))) (w : World) (hT : Tab w) (hI : IRow w v l)
    (hR : Reader w (.func (.func 34) #[] #[.pointer (some ⟨p3, 0, none⟩), .pointer (some ⟨p1, 0, none⟩)]) mv) (hK : KnownV w mv K) :
    Calls Tryd.prog 58 #[v, .func (.func 34) #[] #[.pointer (some ⟨p3, 0, none⟩), .pointer (some ⟨p1, 0, none⟩)]] w fun e w' => ∃ c rs v, EachC K l c rs ∧ e = .returned (.tuple #[v, .int .i64 c]) ∧ (if c = 0 then SRow w' w.heap.size v rs else v = .slice none 0 0) ∧ Below w.heap.size w w' := by
  obtain ⟨h1, h2, ⟨rfl, rfl⟩ | ⟨g, o, c, rfl, h3, h4⟩⟩ := hI
  · refine (each_nil 0 _ w).mono ?_
    rintro e w' ⟨rfl, rfl⟩
    exact ⟨0, [], _, .inl ⟨rfl, rfl, fun j h => by simp at h⟩, rfl, SRow.nil _ _, Below.refl _ _⟩
  · exact each_walk g o c l p1 p3 mv K w hT h1 h3 h4 h2 hR hK
theorem pieces_any (v : Value) (l : List RIt) (mb p1 p3 : Nat) (mv : Value) (K : ByteArray → Option (List (Int × Int))) (w : World) (hT : Tab w) (hI : RRow w v l)
    (hmb : w.cell? ⟨mb, 1, none⟩ = some (.func (.func 34) #[] #[.pointer (some ⟨p3, 0, none⟩), .pointer (some ⟨p1, 0, none⟩)])) (hR : Reader w (.func (.func 34) #[] #[.pointer (some ⟨p3, 0, none⟩), .pointer (some ⟨p1, 0, none⟩)]) mv) (hK : KnownV w mv K) :
    Calls Tryd.prog 59 #[v, .func (.func 60) #[.pointer (some ⟨mb, 0, none⟩)] #[]] w fun e w' => ∃ c ps v, EachP K l c ps ∧ e = .returned (.tuple #[v, .int .i64 c]) ∧ (if c = 0 then PcRow w' w.heap.size v ps else v = .slice none 0 0) ∧ Below w.heap.size w w' := by
  obtain ⟨h1, h2, ⟨rfl, rfl⟩ | ⟨g, o, c, rfl, h3, h4⟩⟩ := hI
  · refine (pieces_nil 0 _ w).mono ?_
    rintro e w' ⟨rfl, rfl⟩
    exact ⟨0, [], _, .inl ⟨rfl, rfl, fun j h => by simp at h⟩, rfl, PcRow.nil _ _, Below.refl _ _⟩
  · exact pieces_walk g o c l mb p1 p3 mv K w hT h1 h3 h4 h2 hmb hR hK
end Go.Proofs
