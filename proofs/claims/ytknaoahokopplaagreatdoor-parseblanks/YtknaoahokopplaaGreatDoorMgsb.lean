/-
  Several texts in one (Smb Lab).
-/
import Derived.Shelf.Abstract
import Derived.Shelf.RegionOpen
import Derived.WalkKit
import Derived.WalkSpells
import Derived.WalkLawsBesides
import Derived.BigQuiet
import Derived.Deep.QuietTactic
import Derived.Deep.LoopGhost
import Derived.Lib.OthersKept
import Derived.ScopeJumps
import Derived.WalkMore
import Derived.Maps.AppendAt
import Derived.Lib.SmallJoins
import Derived.Shelf.SlSorted.Search
import Derived.Shelf.SlSortCmp.QuietGrown
import Derived.Deep.DrawnRows
import Derived.Test.YtknaoahokopplaaGreatDoorMghb
import Derived.Test.YtknaoahokopplaaGreatDoorMgnb
namespace Go.Proofs
open Go.RowKit Go.Shelf

set_option maxRecDepth 100000
attribute [local go_sem] Oper.semAt_some


def Grown (w w' : World) : Prop := ∃ q os, w' = Go.Sort.grow (w.drewN q) os
theorem Grown.refl (w : World) : Grown w w := ⟨0, #[], (Go.Sort.grow_empty _).symm⟩
theorem Grown.trans {w w1 w2 : World} (h : Grown w w1) (k : Grown w1 w2) : Grown w w2 := by
  obtain ⟨q, os, rfl⟩ := h
  obtain ⟨q', os', rfl⟩ := k
  refine ⟨q + q', os ++ os', ?_⟩
  show Go.Sort.grow (Go.Sort.grow ((w.drewN q).drewN q') os) os' = _
  rw [Go.Sort.grow_grow, World.drewN_drewN]
theorem Grown.alloc {w w1 : World} (h : Grown w w1) (o : Obj) : Grown w (w1.alloc o) := h.trans ⟨0, #[o], by rw [Go.Sort.alloc_eq_grow]; rfl⟩
theorem Grown.quiet {w w1 : World} (h : Grown w w1) (n : Nat) (os : Array Obj) : Grown w (Go.Sort.grow (w1.drewN n) os) := h.trans ⟨n, os, rfl⟩
theorem Grown.below {w w' : World} (h : Grown w w') : Below w.heap.size w w' := by
  obtain ⟨q, os, rfl⟩ := h
  exact below_grown_sl _ w q os (Nat.le_refl _)
theorem Grown.cell {w w' : World} (h : Grown w w') {a : Addr} (ha : a.block < w.heap.size) : w'.cell? a = w.cell? a := h.below.cell ha
theorem Grown.cellv {w w' : World} (h : Grown w w') {a : Addr} {v : Value} (hv : w.cell? a = some v) : w'.cell? a = some v := by
  obtain ⟨o, ho, _⟩ := cells_of_cell hv
  rw [h.cell (Array.getElem?_eq_some_iff.1 ho).1]; exact hv
/-- tokens lie in a block from its beginning on -/
def ReadsT (w : World) (g : Nat) (l : List Tok) : Prop := ∀ j x, l[j]? = some x → w.cell? ⟨g, j * 6, none⟩ = some (.int .i64 x.k) ∧ w.cell? ⟨g, j * 6 + 1, none⟩ = some (.int .i64 x.a) ∧ w.cell? ⟨g, j * 6 + 2, none⟩ = some (.int .i64 x.l) ∧ w.cell? ⟨g, j * 6 + 3, none⟩ = some (.int .i64 x.u) ∧ w.cell? ⟨g, j * 6 + 4, none⟩ = some (.string x.t) ∧ w.cell? ⟨g, j * 6 + 5, none⟩ = some (.int .i64 x.n)
def RT (w : World) (v : Value) (l : List Tok) : Prop := ∃ (A : Option Addr) (c : Nat), v = .slice A l.length c ∧ (l = [] ∨ ∃ g, A = some ⟨g, 0, none⟩ ∧ ReadsT w g l)
theorem ft_at (l : List Tok) {j : Nat} {x : Tok} (hj : l[j]? = some x) : (ft l)[j * 6]? = some (.int .i64 x.k) ∧ (ft l)[j * 6 + 1]? = some (.int .i64 x.a) ∧ (ft l)[j * 6 + 2]? = some (.int .i64 x.l) ∧ (ft l)[j * 6 + 3]? = some (.int .i64 x.u) ∧ (ft l)[j * 6 + 4]? = some (.string x.t) ∧ (ft l)[j * 6 + 5]? = some (.int .i64 x.n) := by
  induction l generalizing j with
  | nil => simp at hj
  | cons a l ih =>
    cases j with
    | zero => simp at hj; subst hj; simp [ft, tok1]
    | succ j =>
      have := ih (j := j) (by simpa using hj)
      rw [show (j + 1) * 6 = j * 6 + 6 by omega]
      simpa [ft, tok1] using this
theorem OwnT.rt {w : World} {base : Nat} {v : Value} {l : List Tok} (h : OwnT w base v l) : RT w v l := by
  rcases h.2 with ⟨rfl, h0⟩ | ⟨g, cap, cur, rfl, _, _, hc, _⟩
  · have : l = [] := List.eq_nil_of_length_eq_zero h0
    subst this
    exact ⟨none, 0, rfl, .inl rfl⟩
  · refine ⟨_, cap, rfl, .inr ⟨g, rfl, fun j x hj => ?_⟩⟩
    have h1 := h.cells rfl
    obtain ⟨a0, a1, a2, a3, a4, a5⟩ := ft_at l hj
    have b0 := h1 _ _ a0
    have b1 := h1 _ _ a1
    have b2 := h1 _ _ a2
    have b3 := h1 _ _ a3
    have b4 := h1 _ _ a4
    have b5 := h1 _ _ a5
    rw [add_zero_at'] at b0 b1 b2 b3 b4 b5
    exact ⟨b0, b1, b2, b3, b4, b5⟩
theorem ReadsT.below {w w' : World} {n g : Nat} {l : List Tok} (h : ReadsT w g l) (hb : Below n w w') (hn : g < n) : ReadsT w' g l := fun j x hj => by
  obtain ⟨a0, a1, a2, a3, a4, a5⟩ := h j x hj
  exact ⟨(hb.cell (p := ⟨g, _, none⟩) hn).trans a0, (hb.cell (p := ⟨g, _, none⟩) hn).trans a1, (hb.cell (p := ⟨g, _, none⟩) hn).trans a2, (hb.cell (p := ⟨g, _, none⟩) hn).trans a3, (hb.cell (p := ⟨g, _, none⟩) hn).trans a4, (hb.cell (p := ⟨g, _, none⟩) hn).trans a5⟩
theorem ReadsT.lt {w : World} {g : Nat} {l : List Tok} (h : ReadsT w g l) (h0 : l ≠ []) : g < w.heap.size := by
  cases l with
  | nil => exact absurd rfl h0
  | cons x l =>
    obtain ⟨o, ho, _⟩ := cells_of_cell (h 0 x rfl).1
    exact (Array.getElem?_eq_some_iff.1 ho).1
theorem RT.below {w w' : World} {n : Nat} {v : Value} {l : List Tok} (h : RT w v l) (hb : Below n w w') (hn : w.heap.size ≤ n) : RT w' v l := by
  obtain ⟨A, c, rfl, h⟩ := h
  refine ⟨A, c, rfl, ?_⟩
  by_cases hl : l = []
  · exact .inl hl
  · obtain ⟨g, rfl, hr⟩ := h.resolve_left hl
    exact .inr ⟨g, rfl, hr.below hb (Nat.lt_of_lt_of_le (hr.lt hl) hn)⟩
end Go.Proofs
namespace Go.Proofs
open Go.RowKit Go.Shelf

set_option maxRecDepth 100000
attribute [local go_sem] Oper.semAt_some

theorem grown_of {P : Program} {f : FuncId} {args : Array Value} {w : World} {n : Nat} {os : Array Obj} {v : Value}
    (h : Calls P f args (Go.Sort.grow (w.drewN n) os) fun e w' => e = .returned v ∧ Grown (Go.Sort.grow (w.drewN n) os) w') : Calls P f args (Go.Sort.grow (w.drewN n) os) fun e w'' => e = .returned v ∧ ∃ p : GrownBy, w'' = Go.Sort.grow (w.drewN p.n) p.os :=
  Calls.grown_of h
/-- cells stay -/
def CK (w w' : World) : Prop := ∀ a v, w.cell? a = some v → w'.cell? a = some v
theorem Grown.ck {w w' : World} (h : Grown w w') : CK w w' := fun _ _ hv => h.cellv hv
theorem ck_below {w w' : World} (h : Below w.heap.size w w') : CK w w' := fun a v hv => by
  obtain ⟨o, ho, _⟩ := cells_of_cell hv
  rw [h.cell (Array.getElem?_eq_some_iff.1 ho).1]; exact hv
def ReadsI (w : World) (g : Nat) (ms : List MI) : Prop := ∀ j x, ms[j]? = some x → ∀ i v, (mi1 x)[i]? = some v → w.cell? ⟨g, j * 8 + i, none⟩ = some v
def RdR (w : World) (A : Option Addr) (n : Nat) (ms : List MI) : Prop := n = ms.length ∧ n ≤ 9223372036854775807 ∧ (n = 0 ∨ ∃ g, A = some ⟨g, 0, none⟩ ∧ ReadsI w g ms)
/-- an item in memory means it -/
def RdM : Nat → World → MI → It → Prop
  | 0, _, m, i => Plain m i ∧ i.ps = [] ∧ m.n = 0
  | d + 1, w, m, i => Plain m i ∧ ∃ ms, RdR w m.A m.n ms ∧ All2 (RdM d w) ms i.ps
def RdI (d : Nat) (w : World) (A : Option Addr) (n : Nat) (l : List It) : Prop := ∃ ms, RdR w A n ms ∧ All2 (RdM d w) ms l
theorem RdR.ck {w w' : World} {A : Option Addr} {n : Nat} {ms : List MI} (h : RdR w A n ms) (k : CK w w') : RdR w' A n ms :=
  ⟨h.1, h.2.1, h.2.2.imp id fun ⟨g, e, r⟩ => ⟨g, e, fun j x hj i v hv => k _ _ (r j x hj i v hv)⟩⟩
theorem RdM.ck {w w' : World} (k : CK w w') : ∀ {d : Nat} {m : MI} {i : It}, RdM d w m i → RdM d w' m i
  | 0, _, _, h => h
  | _ + 1, _, _, h => ⟨h.1, h.2.imp fun _ q => ⟨q.1.ck k, q.2.mono fun _ _ r => RdM.ck k r⟩⟩
theorem RdI.ck {d : Nat} {w w' : World} {A : Option Addr} {n : Nat} {l : List It} (h : RdI d w A n l) (k : CK w w') : RdI d w' A n l :=
  h.imp fun _ q => ⟨q.1.ck k, q.2.mono fun _ _ r => r.ck k⟩
theorem RdI.len {d : Nat} {w : World} {A : Option Addr} {n : Nat} {l : List It} (h : RdI d w A n l) : n = l.length := by
  obtain ⟨ms, h1, h2⟩ := h
  rw [h1.1, h2.length]
theorem RdM.plain : ∀ {d : Nat} {w : World} {m : MI} {i : It}, RdM d w m i → Plain m i
  | 0, _, _, _, h => h.1
  | _ + 1, _, _, _, h => h.1
theorem fi_at (l : List MI) {j : Nat} {x : MI} (hj : l[j]? = some x) (i : Nat) (v : Value) (hv : (mi1 x)[i]? = some v) : (fi l)[j * 8 + i]? = some v := by
  induction l generalizing j with
  | nil => simp at hj
  | cons a l ih =>
    have hl : (mi1 a).length = 8 := rfl
    cases j with
    | zero =>
      simp at hj; subst hj
      have : i < (mi1 a).length := (List.getElem?_eq_some_iff.1 hv).1
      simp only [fi, List.flatMap_cons]
      rw [List.getElem?_append_left (by omega)]
      simpa using hv
    | succ j =>
      have := ih (j := j) (by simpa using hj)
      simp only [fi, List.flatMap_cons]
      rw [List.getElem?_append_right (by omega), show (j + 1) * 8 + i - (mi1 a).length = j * 8 + i by omega]
      exact this
theorem RowI.rd {w : World} {b : Nat} {x : Option Nat} {A : Option Addr} {n c : Nat} {ms : List MI} (h : RowI w b x A n c ms) : RdR w A n ms := by
  refine ⟨h.1, ?_, ?_⟩
  · rcases h.2 with ⟨_, h0, _⟩ | ⟨g, cur, _, _, _, _, h1, h2, _⟩
    · omega
    · unfold maxLen at h2; omega
  · rcases h.2 with ⟨_, h0, _⟩ | ⟨g, cur, e, _, _, hg, h1, h2, h3, h4⟩
    · exact .inl h0
    · refine .inr ⟨g, e, fun j y hj i v hv => ?_⟩
      have := fi_at ms hj i v hv
      rw [← h4, List.getElem?_take] at this
      split at this
      · simp only [World.cell?, hg]
        simpa using this
      · cases this
theorem DR.rd {w : World} {b : Nat} {x : Option Nat} : ∀ {d : Nat} {m : MI} {i : It}, DR d w b x m i → RdM d w m i
  | 0, _, _, h => ⟨h.1, h.2.1, h.2.2.2.1⟩
  | _ + 1, _, _, h => ⟨h.1, h.2.imp fun _ q => ⟨q.1.rd, q.2.mono fun _ _ r => DR.rd r⟩⟩
theorem Rows.rd {d : Nat} {w : World} {b : Nat} {x : Option Nat} {A : Option Addr} {n c : Nat} {l : List It} (h : Rows d w b x A n c l) : RdI d w A n l :=
  h.imp fun _ q => ⟨q.1.rd, q.2.mono fun _ _ r => DR.rd r⟩
theorem All2.get {α β : Type} {R : α → β → Prop} : ∀ {l : List α} {m : List β} (_ : All2 R l m) {k : Nat} {a : α} {b : β}, l[k]? = some a → m[k]? = some b → R a b
  | [], [], _, k, a, b, h1, _ => by simp at h1
  | _ :: _, _ :: _, h, 0, a, b, h1, h2 => by simp at h1 h2; rw [← h1, ← h2]; exact h.1
  | _ :: _, _ :: _, h, k + 1, a, b, h1, h2 => All2.get h.2 (by simpa using h1) (by simpa using h2)
  | [], _ :: _, h, _, _, _, _, _ => h.elim
  | _ :: _, [], h, _, _, _, _, _ => h.elim
set_option maxHeartbeats 4000000 in
theorem bare_any (k u : Int) (t : ByteArray) (A A' : Option Addr) (n c n' c' : Nat) (lo hi : Int) (nt : Bool) (key : Int) (w : World) :
    Calls Tryz.prog 63 #[mia ⟨k, u, t, A, n, c, lo, hi, nt, key⟩, mia ⟨k, u, t, A', n', c', lo, hi, nt, key⟩] w fun e w' => e = .returned (.bool true) ∧ Grown w w' := by
  go_enter Tryz.func63, Tryz.ntmps63
  go_wp2
  go_ret
  exact ⟨rfl, ((Grown.refl _).alloc _).alloc _⟩
set_option maxHeartbeats 1000000 in
theorem items_nil (A A' : Option Addr) (c c' : Nat) (deep : Int) (w : World) : Calls Tryz.prog 31 #[.slice A 0 c, .slice A' 0 c', .int .i64 deep] w fun e w' => e = .returned (.bool true) ∧ Grown w w' := by
  go_enter Tryz.func31, Tryz.ntmps31
  go_wp2
  refine wp_loop_rounds 1 ?_
  rw [rounds_succ]
  go_wp2
  go_ret
  exact ⟨rfl, Grown.refl _⟩
/-- what is told of two items' parts -/
def PartsC (d : Nat) : Prop := ∀ (w : World) (m m' : MI) (i : It) (deep : Int), 0 ≤ deep → deep ≤ 40 → RdM d w m i → RdM d w m' i → Calls Tryz.prog 31 #[.slice m.A m.n m.c, .slice m'.A m'.n m'.c, .int .i64 deep] w fun e w' => e = .returned (.bool true) ∧ Grown w w'
set_option maxHeartbeats 4000000 in
theorem items_of (d : Nat) (hP : PartsC d) (w : World) (g g' n c c' : Nat) (l : List It) (ms ms' : List MI) (deep : Int) (hd1 : 0 ≤ deep) (hd2 : deep ≤ 40) (hn : n = l.length) (hnn : n ≤ 9223372036854775807)
    (h1 : ReadsI w g ms) (h2 : ReadsI w g' ms') (a1 : All2 (RdM d w) ms l) (a2 : All2 (RdM d w) ms' l) :
    Calls Tryz.prog 31 #[.slice (some ⟨g, 0, none⟩) n c, .slice (some ⟨g', 0, none⟩) n c', .int .i64 deep] w fun e w' => e = .returned (.bool true) ∧ Grown w w' := by
  have hl1 := a1.length
  have hl2 := a2.length
  have HH : Hid (PartsC d ∧ ReadsI w g ms ∧ ReadsI w g' ms' ∧ All2 (RdM d w) ms l ∧ All2 (RdM d w) ms' l ∧ ms.length = n ∧ ms'.length = n ∧ l.length = n) := ⟨hP, h1, h2, a1, a2, by omega, by omega, by omega⟩
  clear hP h1 h2 a1 a2 hl1 hl2 hn
  go_enter Tryz.func31, Tryz.ntmps31
  go_wp2
  go_loopw [7] (fun vi wr => ∃ k : Nat, vi = .int .i64 k ∧ k ≤ n ∧ Grown w wr) (fun vi _ => n - (intOf vi).toNat)
  case atStart => exact ⟨0, rfl, by omega, Grown.refl _⟩
  case round =>
    obtain ⟨k, rfl, hk, hG⟩ := hrel
    have HG : Hid (Grown w wr) := hG
    by_cases hkn : k = n
    · subst hkn
      clear hG
      go_wp2
      go_ret
      exact ⟨rfl, HG.out⟩
    · have hkn : k < n := by omega
      have hkd : decide ((k : Int) < (n : Int)) = true := by simpa using hkn
      obtain ⟨q1, q2, q3, q4, q5, q6, q7, q8⟩ := HH.out
      obtain ⟨x, hx⟩ : ∃ x, ms[k]? = some x := ⟨ms[k]'(by omega), List.getElem?_eq_getElem (by omega)⟩
      obtain ⟨y, hy⟩ : ∃ y, ms'[k]? = some y := ⟨ms'[k]'(by omega), List.getElem?_eq_getElem (by omega)⟩
      obtain ⟨i, hi⟩ : ∃ i, l[k]? = some i := ⟨l[k]'(by omega), List.getElem?_eq_getElem (by omega)⟩
      have r1 := q4.get hx hi
      have r2 := q5.get hy hi
      have hb : ∀ w2, Calls Tryz.prog 63 #[mia x, mia y] w2 fun e w' => e = .returned (.bool true) ∧ Grown w2 w' := fun w2 => by
        obtain ⟨ik, iu, it, ips, ilo, ihi, int, ikey⟩ := i
        obtain ⟨b1, b2, b3, b4, b5, b6, b7⟩ := r1.plain
        obtain ⟨c1, c2, c3, c4, c5, c6, c7⟩ := r2.plain
        have := bare_any ik iu it x.A y.A x.n x.c y.n y.c ilo ihi int ikey w2
        obtain ⟨xk, xu, xt, xA, xn, xc, xlo, xhi, xnt, xkey⟩ := x
        obtain ⟨yk, yu, yt, yA, yn, yc, ylo, yhi, ynt, ykey⟩ := y
        simp only at b1 b2 b3 b4 b5 b6 b7 c1 c2 c3 c4 c5 c6 c7 this
        subst b1 b2 b3 b4 b5 b6 b7
        rw [c1, c2, c3, c4, c5, c6, c7]
        exact this
      have hp : 1 ≤ deep → ∀ w2, Grown w w2 → Calls Tryz.prog 31 #[.slice x.A x.n x.c, .slice y.A y.n y.c, .int .i64 (deep - 1)] w2 fun e w' => e = .returned (.bool true) ∧ Grown w2 w' := fun h1 w2 hg => q1 w2 x y i (deep - 1) (by omega) (by omega) (r1.ck hg.ck) (r2.ck hg.ck)
      have HC : Hid ((∀ w2, Calls Tryz.prog 63 #[mia x, mia y] w2 fun e w' => e = .returned (.bool true) ∧ Grown w2 w') ∧ (1 ≤ deep → ∀ w2, Grown w w2 → Calls Tryz.prog 31 #[.slice x.A x.n x.c, .slice y.A y.n y.c, .int .i64 (deep - 1)] w2 fun e w' => e = .returned (.bool true) ∧ Grown w2 w')) := ⟨hb, hp⟩
      have f1 : ∀ j v, (mi1 x)[j]? = some v → ∀ w2, Grown w w2 → w2.cell? ⟨g, k * 8 + j, none⟩ = some v := fun j v hv w2 hg => hg.cellv (q2 k x hx j v hv)
      have f2 : ∀ j v, (mi1 y)[j]? = some v → ∀ w2, Grown w w2 → w2.cell? ⟨g', k * 8 + j, none⟩ = some v := fun j v hv w2 hg => hg.cellv (q3 k y hy j v hv)
      have HF : Hid ((∀ j v, (mi1 x)[j]? = some v → ∀ w2, Grown w w2 → w2.cell? ⟨g, k * 8 + j, none⟩ = some v) ∧ (∀ j v, (mi1 y)[j]? = some v → ∀ w2, Grown w w2 → w2.cell? ⟨g', k * 8 + j, none⟩ = some v)) := ⟨f1, f2⟩
      clear q1 q2 q3 q4 q5 q6 q7 q8 hx hy hi r1 r2 hb hp f1 f2
      obtain ⟨xk, xu, xt, xA, xn, xc, xlo, xhi, xnt, xkey⟩ := x
      obtain ⟨yk, yu, yt, yA, yn, yc, ylo, yhi, ynt, ykey⟩ := y
      have a0 := fun q os => HF.out.1 0 _ rfl _ (hG.quiet q os)
      have a1 := fun q os => HF.out.1 1 _ rfl _ (hG.quiet q os)
      have a2 := fun q os => HF.out.1 2 _ rfl _ (hG.quiet q os)
      have a3 := fun q os => HF.out.1 3 _ rfl _ (hG.quiet q os)
      have a4 := fun q os => HF.out.1 4 _ rfl _ (hG.quiet q os)
      have a5 := fun q os => HF.out.1 5 _ rfl _ (hG.quiet q os)
      have a6 := fun q os => HF.out.1 6 _ rfl _ (hG.quiet q os)
      have a7 := fun q os => HF.out.1 7 _ rfl _ (hG.quiet q os)
      have b0 := fun q os => HF.out.2 0 _ rfl _ (hG.quiet q os)
      have b1 := fun q os => HF.out.2 1 _ rfl _ (hG.quiet q os)
      have b2 := fun q os => HF.out.2 2 _ rfl _ (hG.quiet q os)
      have b3 := fun q os => HF.out.2 3 _ rfl _ (hG.quiet q os)
      have b4 := fun q os => HF.out.2 4 _ rfl _ (hG.quiet q os)
      have b5 := fun q os => HF.out.2 5 _ rfl _ (hG.quiet q os)
      have b6 := fun q os => HF.out.2 6 _ rfl _ (hG.quiet q os)
      have b7 := fun q os => HF.out.2 7 _ rfl _ (hG.quiet q os)
      clear hG
      simp only [Nat.add_zero] at a0 b0
      go_wp2
      refine wp_region_quiet_grown mixed (by kernel_rfl) ?_
      repeat (go_big_quiet_step ((go_at_call 63; exact grown_of (HC.out.1 _))))
      refine wpQuiet_nil ?_
      intro _ hw'
      obtain ⟨⟨nq, osq⟩, hw''⟩ := hw'
      subst hw''
      clear a0 a1 a2 a3 a4 a5 a6 a7 b0 b1 b2 b3 b4 b5 b6 b7
      obtain ⟨w2, hw2⟩ : ∃ x, x = Go.Sort.grow (wr.drewN nq) osq := ⟨_, rfl⟩
      rw [← hw2]
      have hG2 : Grown w w2 := by rw [hw2]; exact HG.out.quiet nq osq
      clear hw2
      have HG2 : Hid (Grown w w2) := hG2
      have a3 := fun q os => HF.out.1 3 _ rfl _ (hG2.quiet q os)
      have b3 := fun q os => HF.out.2 3 _ rfl _ (hG2.quiet q os)
      clear hG2
      by_cases hdp : deep < 1
      · have hdd : decide (deep < 1) = true := by simpa using hdp
        go_wp2
        refine wp_region_quiet_grown mixed (by kernel_rfl) ?_
        repeat (go_big_quiet_step (fail))
        refine wpQuiet_nil ?_
        intro _ hw'
        obtain ⟨⟨nq2, osq2⟩, hw''⟩ := hw'
        subst hw''
        go_wp2
        exact ⟨⟨k + 1, by go_num, by omega, HG2.out.quiet _ _⟩, by simp [intOf]; omega⟩
      · have hdd : decide (deep < 1) = false := by simpa using hdp
        have hd3 : 1 ≤ deep := by omega
        go_wp2
        refine wp_region_quiet_grown mixed (by kernel_rfl) ?_
        repeat (go_big_quiet_step ((go_at_call 31; exact grown_of (HC.out.2 hd3 _ (HG2.out.quiet _ _)))))
        refine wpQuiet_nil ?_
        intro _ hw'
        obtain ⟨⟨nq2, osq2⟩, hw''⟩ := hw'
        subst hw''
        go_wp2
        exact ⟨⟨k + 1, by go_num, by omega, HG2.out.quiet _ _⟩, by simp [intOf]; omega⟩
theorem items_rows (d : Nat) (hP : PartsC d) (w : World) (A A' : Option Addr) (n n' c c' : Nat) (l : List It) (deep : Int) (hd1 : 0 ≤ deep) (hd2 : deep ≤ 40) (h1 : RdI d w A n l) (h2 : RdI d w A' n' l) :
    Calls Tryz.prog 31 #[.slice A n c, .slice A' n' c', .int .i64 deep] w fun e w' => e = .returned (.bool true) ∧ Grown w w' := by
  have e1 := h1.len
  have e2 := h2.len
  obtain ⟨ms, r1, a1⟩ := h1
  obtain ⟨ms', r2, a2⟩ := h2
  obtain rfl : n' = n := by omega
  rcases r1.2.2 with h0 | ⟨g, rfl, k1⟩
  · subst h0
    exact items_nil A A' c c' deep w
  · rcases r2.2.2 with h0 | ⟨g', rfl, k2⟩
    · subst h0
      exact items_nil _ A' c c' deep w
    · exact items_of d hP w g g' n' c c' l ms ms' deep hd1 hd2 e1 r1.2.1 k1 k2 a1 a2
theorem partsC_all : ∀ d, PartsC d
  | 0 => fun w m m' i deep _ _ h1 h2 => by
    rw [h1.2.2, h2.2.2]
    exact items_nil _ _ _ _ _ _
  | d + 1 => fun w m m' i deep b1 b2 h1 h2 => by
    exact items_rows d (partsC_all d) w m.A m'.A m.n m'.n m.c m'.c i.ps deep b1 b2 h1.2 h2.2
theorem items_any (d : Nat) (w : World) (A A' : Option Addr) (n n' c c' : Nat) (l : List It) (deep : Int) (hd1 : 0 ≤ deep) (hd2 : deep ≤ 40) (h1 : RdI d w A n l) (h2 : RdI d w A' n' l) :
    Calls Tryz.prog 31 #[.slice A n c, .slice A' n' c', .int .i64 deep] w fun e w' => e = .returned (.bool true) ∧ Grown w w' := items_rows d (partsC_all d) w A A' n n' c c' l deep hd1 hd2 h1 h2
end Go.Proofs
