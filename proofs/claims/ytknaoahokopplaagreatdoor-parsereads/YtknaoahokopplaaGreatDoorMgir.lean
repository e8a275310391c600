/-
  Several texts in one (Xgr Smr Lar).
-/
import Derived.Shelf.Abstract
import Derived.Shelf.RegionOpen
import Derived.WalkKit
import Derived.WalkSpells
import Derived.WalkLawsBesides
import Derived.BigQuiet
import Derived.Deep.QuietTactic
import Derived.Deep.LoopGhost
import Derived.Lib.OthersKept
import Derived.ScopeJumps
import Derived.WalkMore
import Derived.Maps.AppendAt
import Derived.RangeFuncBox
import Derived.Lib.SmallJoins
import Derived.Test.YtknaoahokopplaaGreatDoorMghr
import Derived.Shelf.SlSorted.Search
import Derived.Shelf.SlSortCmp.QuietGrown
import Derived.Deep.DrawnRows
import Derived.Test.YtknaoahokopplaaGreatDoorMger
namespace Go.Proofs
open Go.RowKit Go.Shelf

set_option maxRecDepth 100000
attribute [local go_sem] Oper.semAt_some


def SJ (s : ByteArray) (toks : List Tok) (fa : Nat) (fe : Int) (w : World) (a' : Act) (W : World) : Prop :=
  ∃ (p : Nat) (fr : Bool) (pre rest : List Tok) (A : Option Addr) (c : Nat) (u7 u8 u9 u10 u11 u12 u13 u14 u15 u16 u17 u18 u19 u20 u21 u22 u23 u24 u25 u26 u27 u28 u29 u30 u31 u32 u33 u34 u35 u36 u37 u38 u39 u40 u41 u42 u43 u44 u45 u46 u47 : Value), a' = { tmps := #[.string s, undef, .slice none 0 0, .pointer (some ⟨w.heap.size, 0, none⟩), .slice A pre.length c, .int .i64 p, .bool fr, u7, u8, u9, u10, u11, u12, u13, u14, u15, u16, u17, u18, u19, u20, u21, u22, u23, u24, u25, u26, u27, u28, u29, u30, u31, u32, u33, u34, u35, u36, u37, u38, u39, u40, u41, u42, u43, u44, u45, u46, u47], defers := [] } ∧ p ≤ s.size ∧ pre.length ≤ p ∧ Hid (Run s p fr rest fa fe) ∧ Hid (toks = pre ++ rest) ∧ Hid (OwnT W (w.heap.size + 1) (.slice A pre.length c) pre) ∧ Hid (FB W w.heap.size 0 0) ∧ Hid (Below w.heap.size w W)
theorem jump_mono {l : Nat} {J J' : Act → World → Prop} {Q : Exit → Act → World → Prop} (h : ∀ a w, J a w → J' a w) : ∀ e a w, Exit.jump l J Q e a w → Exit.jump l J' Q e a w := by
  intro e a w he
  cases e with
  | goto l' => exact ⟨he.1, h _ _ he.2⟩
  | normal => exact he
  | exit id => exact he
  | ret => exact he
  | panic ch => exact he
  | outgrown => exact he
theorem wp_scope_jumps2 {P : Program} {a : Act} {w : World} {Q : Exit → Act → World → Prop} {c rest : Code} (l : Nat) (J : Act → World → Prop) (μ : Act → World → Nat) (hf : findLabel c l = some (Code.skip.seq rest))
    (pass : ∀ a w, J a w → rest.wp P (Exit.jump l (fun a' w' => J a' w' ∧ μ a' w' < μ a w) Q) a w)
    (first : Hid (∀ a w, J a w → rest.wp P (Exit.jump l J Q) a w) → c.wp P (Exit.jump l J Q) a w) : (Code.scope c).wp P Q a w :=
  wp_scope_jumps l J μ hf (first (fun a w h => wp_mono (pass a w h) (jump_mono fun _ _ k => k.1))) (fun a w h => wp_seq (wp_skip (pass a w h)))
set_option maxHeartbeats 1000000 in
theorem scan_run (s : ByteArray) (toks : List Tok) (fa : Nat) (fe : Int) (hs : s.size ≤ 32768) (hR : Run s 0 true toks fa fe) (w : World) :
    Calls Tryz.prog 23 #[.string s] w fun e w' => ∃ v, e = .returned (.tuple #[v, .agg #[.int .i64 fa, .int .i64 fe]]) ∧ (if fe = 0 then OwnT w' w.heap.size v toks else v = .slice none 0 0) ∧ Below w.heap.size w w' := by
  have hd : decide ((32768 : Int) < (s.size : Int)) = false := by simp; omega
  have HR : Hid (Run s 0 true toks fa fe) := hR
  clear hR
  go_enter Tryz.func23, Tryz.ntmps23
  go_wp2
  refine wp_scope_jumps2 0 (SJ s toks fa fe w) (fun a' _ => s.size - (intOf (a'.tmps.getD 5 undef)).toNat) rfl ?_ ?_
  · rintro a' w' ⟨p, fr, pre, rest, A, c, u7, u8, u9, u10, u11, u12, u13, u14, u15, u16, u17, u18, u19, u20, u21, u22, u23, u24, u25, u26, u27, u28, u29, u30, u31, u32, u33, u34, u35, u36, u37, u38, u39, u40, u41, u42, u43, u44, u45, u46, u47, rfl, hp, hpl, HRun, HTk, HO, HF, HB⟩
    clear HR
    go_wp2_with fail
    refine (past_any s p _ (by unfold maxLen; omega) hp).mono ?_
    rintro e w'' ⟨rfl, rfl⟩
    have hrun := HRun.out
    have hqle : p + pastN false (s.data.toList.drop p) ≤ s.size := by
      have := pastN_le false (s.data.toList.drop p)
      simp at this
      omega
    obtain ⟨c0, c1, f0, f1⟩ := HF.out.cells
    clear HRun
    cases hrun with
    | fin h =>
      rw [h]
      clear h hqle
      go_wp2
      simp only [Exit.jump]
      have HF2 := HF.out.set 0 0
      obtain ⟨d0, d1, _, _⟩ := HF2.cells
      refine bodyPost_ret (v := .tuple #[.slice A pre.length c, .agg #[.int .i64 0, .int .i64 0]]) (by simp [results, Tryz.f23, go_sem, d0, d1]) rfl ⟨_, rfl, ?_, ?_⟩
      · rw [if_pos rfl, HTk.out, List.append_nil]
        exact ((HO.out.kept (grown_setB _ _ _ _) (ownT_apart HO.out)).kept (grown_setB _ _ _ _) (ownT_apart HO.out)).le (Nat.le_succ _)
      · exact (HB.out.setCell (p := ⟨w.heap.size, 0, none⟩) (Nat.le_refl _) _).setCell (p := ⟨w.heap.size, 1, none⟩) (Nat.le_refl _) _
    | bad hq hlt hb he =>
      rw [← hq]
      have HV : Hid (Tells 47 #[.string (s.extract fa s.size), .bool fr] 0 0 0 0 ⟨#[]⟩ 0 fe) := hb
      have hlt' : (fa : Int) < (s.size : Int) := by omega
      clear hqle hq hb
      have hne : ((fa : Int) == (s.size : Int)) = false := by simp; omega
      go_wp2_with fail
      refine (HV.out _).mono ?_
      rintro e w2 ⟨rfl, hb2⟩
      have HF2 := HF.out.below hb2 HF.out.lt
      have c0 := fun o => (HF2.allocs o).cells.1
      have c1 := fun o => (HF2.allocs o).cells.2.1
      have f0 := fun o => (HF2.allocs o).cells.2.2.1
      have f1 := fun o => (HF2.allocs o).cells.2.2.2
      have HB2 := HB.out.trans (hb2.mono HB.out.size)
      have hen : (fe != 0) = true := by simpa using he
      have hee : (fe == 0) = false := by simpa using he
      clear hb2
      go_wp2
      simp only [Exit.jump]
      have HF3 := (HF2.allocs (.cells #[.int .i64 0, .int .i64 0, .int .i64 0, .int .i64 0, .string ⟨#[]⟩, .int .i64 0] 52)).set fa fe
      obtain ⟨d0, d1, _, _⟩ := HF3.cells
      refine bodyPost_ret (v := .tuple #[.slice none 0 0, .agg #[.int .i64 fa, .int .i64 fe]]) (by simp [results, Tryz.f23, go_sem, d0, d1]) rfl ⟨_, rfl, by rw [if_neg he], ?_⟩
      exact ((HB2.alloc HB2.size _).setCell (p := ⟨w.heap.size, 0, none⟩) (Nat.le_refl _) _).setCell (p := ⟨w.heap.size, 1, none⟩) (Nat.le_refl _) _
    | @step _ _ q k u l t n toks2 _ _ hq hlt hb h0 hl hr =>
      rw [← hq]
      have HV : Hid (Tells 47 #[.string (s.extract q s.size), .bool fr] k 0 l u t n 0) := hb
      have HR2 : Hid (Run s (q + l) (decide (k = 11)) toks2 fa fe) := hr
      have hqp : p ≤ q := by omega
      have hlt' : (q : Int) < (s.size : Int) := by omega
      have hne : ((q : Int) == (s.size : Int)) = false := by simp; omega
      clear hqle hq hb hr
      go_wp2_with fail
      refine (HV.out _).mono ?_
      rintro e w2 ⟨rfl, hb2⟩
      have HF2 := HF.out.below hb2 HF.out.lt
      have HB2 := HB.out.trans (hb2.mono HB.out.size)
      have HO2 := HO.out.below hb2 (Nat.le_refl _)
      clear hb2 HO HF HB
      have hY : TB ((w2.alloc (.cells #[.int .i64 k, .int .i64 q, .int .i64 l, .int .i64 u, .string t, .int .i64 n] 52)).alloc (.cells #[.int .i64 k, .int .i64 q, .int .i64 l, .int .i64 u, .string t, .int .i64 n] 52)) (w2.heap.size + 1) k q l u t n := by
        have := TB.new (w2.alloc (.cells #[.int .i64 k, .int .i64 q, .int .i64 l, .int .i64 u, .string t, .int .i64 n] 52)) k q l u t n
        rwa [World.size_alloc] at this
      have hX : TB ((w2.alloc (.cells #[.int .i64 k, .int .i64 q, .int .i64 l, .int .i64 u, .string t, .int .i64 n] 52)).alloc (.cells #[.int .i64 k, .int .i64 q, .int .i64 l, .int .i64 u, .string t, .int .i64 n] 52)) w2.heap.size k q l u t n := (Below.heap_alloc _ _ _ (by simp)).trans (TB.new w2 k q l u t n)
      have hz2 : w.heap.size + 1 ≤ w2.heap.size := HF2.lt
      have HOL : Hid (∀ j, (Value.slice A pre.length c).ownBlock = some j → j < w2.heap.size ∧ w.heap.size + 1 ≤ j) := fun j hj => ⟨(World.ownsRow.lt HO2 j hj).2, (World.ownsRow.lt HO2 j hj).1⟩
      have HH : Hid (TB ((w2.alloc (.cells #[.int .i64 k, .int .i64 q, .int .i64 l, .int .i64 u, .string t, .int .i64 n] 52)).alloc (.cells #[.int .i64 k, .int .i64 q, .int .i64 l, .int .i64 u, .string t, .int .i64 n] 52)) w2.heap.size k q l u t n ∧ TB ((w2.alloc (.cells #[.int .i64 k, .int .i64 q, .int .i64 l, .int .i64 u, .string t, .int .i64 n] 52)).alloc (.cells #[.int .i64 k, .int .i64 q, .int .i64 l, .int .i64 u, .string t, .int .i64 n] 52)) (w2.heap.size + 1) k q l u t n ∧ FB w2 w.heap.size 0 0 ∧ Below w.heap.size w w2 ∧ OwnT w2 (w.heap.size + 1) (.slice A pre.length c) pre) := ⟨hX, hY, HF2, HB2, HO2⟩
      clear hX hY HF2 HB2 HO2
      have hlb : (l : Int) ≤ 32768 := by omega
      have hlq : (q : Int) ≤ 32768 := by omega
      have hl0 : (0 : Int) ≤ l := by omega
      go_wp2_with (at_builtin; go_must (refine push_T rfl _ _ 47 rfl Tryz.underlying47 (w.heap.size + 1) _ pre rfl ((HH.out.2.2.2.2.alloc _).alloc _) _ _ ⟨k, q, l, u, t, n⟩ rfl HH.out.2.1 (by omega) (by simp; omega) ?_); intro v' w3 hO1 hgr hb1; obtain ⟨A3, c3, rfl⟩ := formT hO1; rw [show (pre ++ [(⟨k, q, l, u, t, n⟩ : Tok)]).length = pre.length + 1 by simp] at hO1 ⊢; have hX3 : TB w3 w2.heap.size k q l u t n := (hgr.block w2.heap.size (by simp; omega) (fun e => by have := (HOL.out _ e.symm).1; omega)).trans HH.out.1; obtain ⟨x0, x1, x2, x3, x4, x5⟩ := hX3.cells)
      go_step3
      rw [show (q : Int) + (l : Int) = ((q + l : Nat) : Int) by simp, show pre.length + 1 = (pre ++ [(⟨k, q, l, u, t, n⟩ : Tok)]).length by simp]
      refine ⟨rfl, ⟨q + l, decide (k = 11), pre ++ [⟨k, q, l, u, t, n⟩], toks2, A3, c3, _, _, _, _, _, _, _, _, _, _, _, _, _, _, _, _, _, _, _, _, _, _, _, _, _, _, _, _, _, _, _, _, _, _, _, _, _, _, _, _, _, rfl, hl, by simp; omega, HR2, by show _ = _; rw [HTk.out]; simp, by rw [List.length_append]; exact hO1, ?_, ?_⟩, ?_⟩
      · exact (hgr.block w.heap.size (by simp; omega) (fun e => by have := (HOL.out _ e.symm).2; omega)).trans ((Below.heap_alloc _ _ _ (by simp; omega)).trans ((Below.heap_alloc _ _ _ (by omega)).trans HH.out.2.2.1))
      · exact ((HH.out.2.2.2.1.alloc HH.out.2.2.2.1.size _).alloc (by have := HH.out.2.2.2.1.size; simp; omega) _).trans (hb1.mono (Nat.le_succ _))
      · simp [intOf]
        omega
  · intro HP
    go_wp2
    go_step3
    rename_i hK
    refine hK _ _ (HP.out _ _ ?_)
    exact ⟨0, true, [], toks, none, 0, _, _, _, _, _, _, _, _, _, _, _, _, _, _, _, _, _, _, _, _, _, _, _, _, _, _, _, _, _, _, _, _, _, _, _, _, _, _, _, _, _, rfl, by omega, by simp, HR, rfl, OwnT.nil _ _, FB.new _ _ _, (Below.refl _ _).alloc (Nat.le_refl _) _⟩
end Go.Proofs
namespace Go.Proofs
open Go.RowKit Go.Shelf

set_option maxRecDepth 100000
attribute [local go_sem] Oper.semAt_some


def Grown (w w' : World) : Prop := ∃ q os, w' = Go.Sort.grow (w.drewN q) os
theorem Grown.refl (w : World) : Grown w w := ⟨0, #[], (Go.Sort.grow_empty _).symm⟩
theorem Grown.trans {w w1 w2 : World} (h : Grown w w1) (k : Grown w1 w2) : Grown w w2 := by
  obtain ⟨q, os, rfl⟩ := h
  obtain ⟨q', os', rfl⟩ := k
  refine ⟨q + q', os ++ os', ?_⟩
  show Go.Sort.grow (Go.Sort.grow ((w.drewN q).drewN q') os) os' = _
  rw [Go.Sort.grow_grow, World.drewN_drewN]
theorem Grown.alloc {w w1 : World} (h : Grown w w1) (o : Obj) : Grown w (w1.alloc o) := h.trans ⟨0, #[o], by rw [Go.Sort.alloc_eq_grow]; rfl⟩
theorem Grown.drewN {w w1 : World} (h : Grown w w1) (n : Nat) : Grown w (w1.drewN n) := h.trans ⟨n, #[], (Go.Sort.grow_empty _).symm⟩
theorem Grown.drew {w w1 : World} (h : Grown w w1) : Grown w w1.drew := h.trans ⟨1, #[], (Go.Sort.grow_empty _).symm⟩
theorem Grown.quiet {w w1 : World} (h : Grown w w1) (n : Nat) (os : Array Obj) : Grown w (Go.Sort.grow (w1.drewN n) os) := h.trans ⟨n, os, rfl⟩
theorem Grown.below {w w' : World} (h : Grown w w') : Below w.heap.size w w' := by
  obtain ⟨q, os, rfl⟩ := h
  exact below_grown_sl _ w q os (Nat.le_refl _)
theorem Grown.size {w w' : World} (h : Grown w w') : w.heap.size ≤ w'.heap.size := h.below.size
theorem Grown.cell {w w' : World} (h : Grown w w') {a : Addr} (ha : a.block < w.heap.size) : w'.cell? a = w.cell? a := h.below.cell ha
theorem Grown.cellv {w w' : World} (h : Grown w w') {a : Addr} {v : Value} (hv : w.cell? a = some v) : w'.cell? a = some v := by
  obtain ⟨o, ho, _⟩ := cells_of_cell hv
  rw [h.cell (Array.getElem?_eq_some_iff.1 ho).1]; exact hv
/-- tokens lie in a block from its beginning on -/
def ReadsT (w : World) (g : Nat) (l : List Tok) : Prop := ∀ j x, l[j]? = some x → w.cell? ⟨g, j * 6, none⟩ = some (.int .i64 x.k) ∧ w.cell? ⟨g, j * 6 + 1, none⟩ = some (.int .i64 x.a) ∧ w.cell? ⟨g, j * 6 + 2, none⟩ = some (.int .i64 x.l) ∧ w.cell? ⟨g, j * 6 + 3, none⟩ = some (.int .i64 x.u) ∧ w.cell? ⟨g, j * 6 + 4, none⟩ = some (.string x.t) ∧ w.cell? ⟨g, j * 6 + 5, none⟩ = some (.int .i64 x.n)
def RT (w : World) (v : Value) (l : List Tok) : Prop := ∃ (A : Option Addr) (c : Nat), v = .slice A l.length c ∧ (l = [] ∨ ∃ g, A = some ⟨g, 0, none⟩ ∧ ReadsT w g l)
theorem ft_at (l : List Tok) {j : Nat} {x : Tok} (hj : l[j]? = some x) : (ft l)[j * 6]? = some (.int .i64 x.k) ∧ (ft l)[j * 6 + 1]? = some (.int .i64 x.a) ∧ (ft l)[j * 6 + 2]? = some (.int .i64 x.l) ∧ (ft l)[j * 6 + 3]? = some (.int .i64 x.u) ∧ (ft l)[j * 6 + 4]? = some (.string x.t) ∧ (ft l)[j * 6 + 5]? = some (.int .i64 x.n) := by
  induction l generalizing j with
  | nil => simp at hj
  | cons a l ih =>
    cases j with
    | zero => simp at hj; subst hj; simp [ft, tok1]
    | succ j =>
      have := ih (j := j) (by simpa using hj)
      rw [show (j + 1) * 6 = j * 6 + 6 by omega]
      simpa [ft, tok1] using this
theorem OwnT.rt {w : World} {base : Nat} {v : Value} {l : List Tok} (h : OwnT w base v l) : RT w v l := by
  rcases h.2 with ⟨rfl, h0⟩ | ⟨g, cap, cur, rfl, _, _, hc, _⟩
  · have : l = [] := List.eq_nil_of_length_eq_zero h0
    subst this
    exact ⟨none, 0, rfl, .inl rfl⟩
  · refine ⟨_, cap, rfl, .inr ⟨g, rfl, fun j x hj => ?_⟩⟩
    have h1 := h.cells rfl
    obtain ⟨a0, a1, a2, a3, a4, a5⟩ := ft_at l hj
    have b0 := h1 _ _ a0
    have b1 := h1 _ _ a1
    have b2 := h1 _ _ a2
    have b3 := h1 _ _ a3
    have b4 := h1 _ _ a4
    have b5 := h1 _ _ a5
    rw [add_zero_at'] at b0 b1 b2 b3 b4 b5
    exact ⟨b0, b1, b2, b3, b4, b5⟩
end Go.Proofs
namespace Go.Proofs
open Go.RowKit Go.Shelf

set_option maxRecDepth 100000
attribute [local go_sem] Oper.semAt_some

theorem mixed : Tryz.prog.follows .mixedOrders = true := by kernel_rfl
theorem grown_of {P : Program} {f : FuncId} {args : Array Value} {w : World} {n : Nat} {os : Array Obj} {v : Value}
    (h : Calls P f args (Go.Sort.grow (w.drewN n) os) fun e w' => e = .returned v ∧ Grown (Go.Sort.grow (w.drewN n) os) w') : Calls P f args (Go.Sort.grow (w.drewN n) os) fun e w'' => e = .returned v ∧ ∃ p : GrownBy, w'' = Go.Sort.grow (w.drewN p.n) p.os :=
  Calls.grown_of h
/-- cells stay -/
def CK (w w' : World) : Prop := ∀ a v, w.cell? a = some v → w'.cell? a = some v
theorem CK.refl (w : World) : CK w w := fun _ _ h => h
theorem CK.trans {a b c : World} (h : CK a b) (k : CK b c) : CK a c := fun x v hx => k x v (h x v hx)
theorem Grown.ck {w w' : World} (h : Grown w w') : CK w w' := fun _ _ hv => h.cellv hv
theorem ck_below {w w' : World} (h : Below w.heap.size w w') : CK w w' := fun a v hv => by
  obtain ⟨o, ho, _⟩ := cells_of_cell hv
  rw [h.cell (Array.getElem?_eq_some_iff.1 ho).1]; exact hv
def ReadsI (w : World) (g : Nat) (ms : List MI) : Prop := ∀ j x, ms[j]? = some x → ∀ i v, (mi1 x)[i]? = some v → w.cell? ⟨g, j * 8 + i, none⟩ = some v
def RdR (w : World) (A : Option Addr) (n : Nat) (ms : List MI) : Prop := n = ms.length ∧ n ≤ 9223372036854775807 ∧ (n = 0 ∨ ∃ g, A = some ⟨g, 0, none⟩ ∧ ReadsI w g ms)
/-- an item in memory means it -/
def RdM : Nat → World → MI → It → Prop
  | 0, _, m, i => Plain m i ∧ i.ps = [] ∧ m.n = 0
  | d + 1, w, m, i => Plain m i ∧ ∃ ms, RdR w m.A m.n ms ∧ All2 (RdM d w) ms i.ps
def RdI (d : Nat) (w : World) (A : Option Addr) (n : Nat) (l : List It) : Prop := ∃ ms, RdR w A n ms ∧ All2 (RdM d w) ms l
theorem RdR.ck {w w' : World} {A : Option Addr} {n : Nat} {ms : List MI} (h : RdR w A n ms) (k : CK w w') : RdR w' A n ms :=
  ⟨h.1, h.2.1, h.2.2.imp id fun ⟨g, e, r⟩ => ⟨g, e, fun j x hj i v hv => k _ _ (r j x hj i v hv)⟩⟩
theorem RdM.ck {w w' : World} (k : CK w w') : ∀ {d : Nat} {m : MI} {i : It}, RdM d w m i → RdM d w' m i
  | 0, _, _, h => h
  | _ + 1, _, _, h => ⟨h.1, h.2.imp fun _ q => ⟨q.1.ck k, q.2.mono fun _ _ r => RdM.ck k r⟩⟩
theorem RdI.ck {d : Nat} {w w' : World} {A : Option Addr} {n : Nat} {l : List It} (h : RdI d w A n l) (k : CK w w') : RdI d w' A n l :=
  h.imp fun _ q => ⟨q.1.ck k, q.2.mono fun _ _ r => r.ck k⟩
theorem RdI.len {d : Nat} {w : World} {A : Option Addr} {n : Nat} {l : List It} (h : RdI d w A n l) : n = l.length := by
  obtain ⟨ms, h1, h2⟩ := h
  rw [h1.1, h2.length]
theorem RdM.plain : ∀ {d : Nat} {w : World} {m : MI} {i : It}, RdM d w m i → Plain m i
  | 0, _, _, _, h => h.1
  | _ + 1, _, _, _, h => h.1
theorem fi_at (l : List MI) {j : Nat} {x : MI} (hj : l[j]? = some x) (i : Nat) (v : Value) (hv : (mi1 x)[i]? = some v) : (fi l)[j * 8 + i]? = some v := by
  induction l generalizing j with
  | nil => simp at hj
  | cons a l ih =>
    have hl : (mi1 a).length = 8 := rfl
    cases j with
    | zero =>
      simp at hj; subst hj
      have : i < (mi1 a).length := (List.getElem?_eq_some_iff.1 hv).1
      simp only [fi, List.flatMap_cons]
      rw [List.getElem?_append_left (by omega)]
      simpa using hv
    | succ j =>
      have := ih (j := j) (by simpa using hj)
      simp only [fi, List.flatMap_cons]
      rw [List.getElem?_append_right (by omega), show (j + 1) * 8 + i - (mi1 a).length = j * 8 + i by omega]
      exact this
theorem RowI.rd {w : World} {b : Nat} {x : Option Nat} {A : Option Addr} {n c : Nat} {ms : List MI} (h : RowI w b x A n c ms) : RdR w A n ms := by
  refine ⟨h.1, ?_, ?_⟩
  · rcases h.2 with ⟨_, h0, _⟩ | ⟨g, cur, _, _, _, _, h1, h2, _⟩
    · omega
    · unfold maxLen at h2; omega
  · rcases h.2 with ⟨_, h0, _⟩ | ⟨g, cur, e, _, _, hg, h1, h2, h3, h4⟩
    · exact .inl h0
    · refine .inr ⟨g, e, fun j y hj i v hv => ?_⟩
      have := fi_at ms hj i v hv
      rw [← h4, List.getElem?_take] at this
      split at this
      · simp only [World.cell?, hg]
        simpa using this
      · cases this
theorem DR.rd {w : World} {b : Nat} {x : Option Nat} : ∀ {d : Nat} {m : MI} {i : It}, DR d w b x m i → RdM d w m i
  | 0, _, _, h => ⟨h.1, h.2.1, h.2.2.2.1⟩
  | _ + 1, _, _, h => ⟨h.1, h.2.imp fun _ q => ⟨q.1.rd, q.2.mono fun _ _ r => DR.rd r⟩⟩
theorem Rows.rd {d : Nat} {w : World} {b : Nat} {x : Option Nat} {A : Option Addr} {n c : Nat} {l : List It} (h : Rows d w b x A n c l) : RdI d w A n l :=
  h.imp fun _ q => ⟨q.1.rd, q.2.mono fun _ _ r => DR.rd r⟩
theorem All2.get {α β : Type} {R : α → β → Prop} : ∀ {l : List α} {m : List β} (_ : All2 R l m) {k : Nat} {a : α} {b : β}, l[k]? = some a → m[k]? = some b → R a b
  | [], [], _, k, a, b, h1, _ => by simp at h1
  | _ :: _, _ :: _, h, 0, a, b, h1, h2 => by simp at h1 h2; rw [← h1, ← h2]; exact h.1
  | _ :: _, _ :: _, h, k + 1, a, b, h1, h2 => All2.get h.2 (by simpa using h1) (by simpa using h2)
  | [], _ :: _, h, _, _, _, _, _ => h.elim
  | _ :: _, [], h, _, _, _, _, _ => h.elim
set_option maxHeartbeats 4000000 in
theorem bare_any (k u : Int) (t : ByteArray) (A A' : Option Addr) (n c n' c' : Nat) (lo hi : Int) (nt : Bool) (key : Int) (w : World) :
    Calls Tryz.prog 63 #[mia ⟨k, u, t, A, n, c, lo, hi, nt, key⟩, mia ⟨k, u, t, A', n', c', lo, hi, nt, key⟩] w fun e w' => e = .returned (.bool true) ∧ Grown w w' := by
  go_enter Tryz.func63, Tryz.ntmps63
  go_wp2
  go_ret
  exact ⟨rfl, ((Grown.refl _).alloc _).alloc _⟩
set_option maxHeartbeats 1000000 in
theorem items_nil (A A' : Option Addr) (c c' : Nat) (deep : Int) (w : World) : Calls Tryz.prog 31 #[.slice A 0 c, .slice A' 0 c', .int .i64 deep] w fun e w' => e = .returned (.bool true) ∧ Grown w w' := by
  go_enter Tryz.func31, Tryz.ntmps31
  go_wp2
  refine wp_loop_rounds 1 ?_
  rw [rounds_succ]
  go_wp2
  go_ret
  exact ⟨rfl, Grown.refl _⟩
/-- what is told of two items' parts -/
def PartsC (d : Nat) : Prop := ∀ (w : World) (m m' : MI) (i : It) (deep : Int), 0 ≤ deep → deep ≤ 40 → RdM d w m i → RdM d w m' i → Calls Tryz.prog 31 #[.slice m.A m.n m.c, .slice m'.A m'.n m'.c, .int .i64 deep] w fun e w' => e = .returned (.bool true) ∧ Grown w w'
set_option maxHeartbeats 4000000 in
theorem items_of (d : Nat) (hP : PartsC d) (w : World) (g g' n c c' : Nat) (l : List It) (ms ms' : List MI) (deep : Int) (hd1 : 0 ≤ deep) (hd2 : deep ≤ 40) (hn : n = l.length) (hnn : n ≤ 9223372036854775807)
    (h1 : ReadsI w g ms) (h2 : ReadsI w g' ms') (a1 : All2 (RdM d w) ms l) (a2 : All2 (RdM d w) ms' l) :
    Calls Tryz.prog 31 #[.slice (some ⟨g, 0, none⟩) n c, .slice (some ⟨g', 0, none⟩) n c', .int .i64 deep] w fun e w' => e = .returned (.bool true) ∧ Grown w w' := by
  have hl1 := a1.length
  have hl2 := a2.length
  have HH : Hid (PartsC d ∧ ReadsI w g ms ∧ ReadsI w g' ms' ∧ All2 (RdM d w) ms l ∧ All2 (RdM d w) ms' l ∧ ms.length = n ∧ ms'.length = n ∧ l.length = n) := ⟨hP, h1, h2, a1, a2, by omega, by omega, by omega⟩
  clear hP h1 h2 a1 a2 hl1 hl2 hn
  go_enter Tryz.func31, Tryz.ntmps31
  go_wp2
  go_loopw [7] (fun vi wr => ∃ k : Nat, vi = .int .i64 k ∧ k ≤ n ∧ Grown w wr) (fun vi _ => n - (intOf vi).toNat)
  case atStart => exact ⟨0, rfl, by omega, Grown.refl _⟩
  case round =>
    obtain ⟨k, rfl, hk, hG⟩ := hrel
    have HG : Hid (Grown w wr) := hG
    by_cases hkn : k = n
    · subst hkn
      clear hG
      go_wp2
      go_ret
      exact ⟨rfl, HG.out⟩
    · have hkn : k < n := by omega
      have hkd : decide ((k : Int) < (n : Int)) = true := by simpa using hkn
      obtain ⟨q1, q2, q3, q4, q5, q6, q7, q8⟩ := HH.out
      obtain ⟨x, hx⟩ : ∃ x, ms[k]? = some x := ⟨ms[k]'(by omega), List.getElem?_eq_getElem (by omega)⟩
      obtain ⟨y, hy⟩ : ∃ y, ms'[k]? = some y := ⟨ms'[k]'(by omega), List.getElem?_eq_getElem (by omega)⟩
      obtain ⟨i, hi⟩ : ∃ i, l[k]? = some i := ⟨l[k]'(by omega), List.getElem?_eq_getElem (by omega)⟩
      have r1 := q4.get hx hi
      have r2 := q5.get hy hi
      have hb : ∀ w2, Calls Tryz.prog 63 #[mia x, mia y] w2 fun e w' => e = .returned (.bool true) ∧ Grown w2 w' := fun w2 => by
        obtain ⟨ik, iu, it, ips, ilo, ihi, int, ikey⟩ := i
        obtain ⟨b1, b2, b3, b4, b5, b6, b7⟩ := r1.plain
        obtain ⟨c1, c2, c3, c4, c5, c6, c7⟩ := r2.plain
        have := bare_any ik iu it x.A y.A x.n x.c y.n y.c ilo ihi int ikey w2
        obtain ⟨xk, xu, xt, xA, xn, xc, xlo, xhi, xnt, xkey⟩ := x
        obtain ⟨yk, yu, yt, yA, yn, yc, ylo, yhi, ynt, ykey⟩ := y
        simp only at b1 b2 b3 b4 b5 b6 b7 c1 c2 c3 c4 c5 c6 c7 this
        subst b1 b2 b3 b4 b5 b6 b7
        rw [c1, c2, c3, c4, c5, c6, c7]
        exact this
      have hp : 1 ≤ deep → ∀ w2, Grown w w2 → Calls Tryz.prog 31 #[.slice x.A x.n x.c, .slice y.A y.n y.c, .int .i64 (deep - 1)] w2 fun e w' => e = .returned (.bool true) ∧ Grown w2 w' := fun h1 w2 hg => q1 w2 x y i (deep - 1) (by omega) (by omega) (r1.ck hg.ck) (r2.ck hg.ck)
      have HC : Hid ((∀ w2, Calls Tryz.prog 63 #[mia x, mia y] w2 fun e w' => e = .returned (.bool true) ∧ Grown w2 w') ∧ (1 ≤ deep → ∀ w2, Grown w w2 → Calls Tryz.prog 31 #[.slice x.A x.n x.c, .slice y.A y.n y.c, .int .i64 (deep - 1)] w2 fun e w' => e = .returned (.bool true) ∧ Grown w2 w')) := ⟨hb, hp⟩
      have f1 : ∀ j v, (mi1 x)[j]? = some v → ∀ w2, Grown w w2 → w2.cell? ⟨g, k * 8 + j, none⟩ = some v := fun j v hv w2 hg => hg.cellv (q2 k x hx j v hv)
      have f2 : ∀ j v, (mi1 y)[j]? = some v → ∀ w2, Grown w w2 → w2.cell? ⟨g', k * 8 + j, none⟩ = some v := fun j v hv w2 hg => hg.cellv (q3 k y hy j v hv)
      have HF : Hid ((∀ j v, (mi1 x)[j]? = some v → ∀ w2, Grown w w2 → w2.cell? ⟨g, k * 8 + j, none⟩ = some v) ∧ (∀ j v, (mi1 y)[j]? = some v → ∀ w2, Grown w w2 → w2.cell? ⟨g', k * 8 + j, none⟩ = some v)) := ⟨f1, f2⟩
      clear q1 q2 q3 q4 q5 q6 q7 q8 hx hy hi r1 r2 hb hp f1 f2
      obtain ⟨xk, xu, xt, xA, xn, xc, xlo, xhi, xnt, xkey⟩ := x
      obtain ⟨yk, yu, yt, yA, yn, yc, ylo, yhi, ynt, ykey⟩ := y
      have a0 := fun q os => HF.out.1 0 _ rfl _ (hG.quiet q os)
      have a1 := fun q os => HF.out.1 1 _ rfl _ (hG.quiet q os)
      have a2 := fun q os => HF.out.1 2 _ rfl _ (hG.quiet q os)
      have a3 := fun q os => HF.out.1 3 _ rfl _ (hG.quiet q os)
      have a4 := fun q os => HF.out.1 4 _ rfl _ (hG.quiet q os)
      have a5 := fun q os => HF.out.1 5 _ rfl _ (hG.quiet q os)
      have a6 := fun q os => HF.out.1 6 _ rfl _ (hG.quiet q os)
      have a7 := fun q os => HF.out.1 7 _ rfl _ (hG.quiet q os)
      have b0 := fun q os => HF.out.2 0 _ rfl _ (hG.quiet q os)
      have b1 := fun q os => HF.out.2 1 _ rfl _ (hG.quiet q os)
      have b2 := fun q os => HF.out.2 2 _ rfl _ (hG.quiet q os)
      have b3 := fun q os => HF.out.2 3 _ rfl _ (hG.quiet q os)
      have b4 := fun q os => HF.out.2 4 _ rfl _ (hG.quiet q os)
      have b5 := fun q os => HF.out.2 5 _ rfl _ (hG.quiet q os)
      have b6 := fun q os => HF.out.2 6 _ rfl _ (hG.quiet q os)
      have b7 := fun q os => HF.out.2 7 _ rfl _ (hG.quiet q os)
      clear hG
      simp only [Nat.add_zero] at a0 b0
      go_wp2
      refine wp_region_quiet_grown mixed (by kernel_rfl) ?_
      repeat (go_big_quiet_step ((go_at_call 63; exact grown_of (HC.out.1 _))))
      refine wpQuiet_nil ?_
      intro _ hw'
      obtain ⟨⟨nq, osq⟩, hw''⟩ := hw'
      subst hw''
      clear a0 a1 a2 a3 a4 a5 a6 a7 b0 b1 b2 b3 b4 b5 b6 b7
      obtain ⟨w2, hw2⟩ : ∃ x, x = Go.Sort.grow (wr.drewN nq) osq := ⟨_, rfl⟩
      rw [← hw2]
      have hG2 : Grown w w2 := by rw [hw2]; exact HG.out.quiet nq osq
      clear hw2
      have HG2 : Hid (Grown w w2) := hG2
      have a3 := fun q os => HF.out.1 3 _ rfl _ (hG2.quiet q os)
      have b3 := fun q os => HF.out.2 3 _ rfl _ (hG2.quiet q os)
      clear hG2
      by_cases hdp : deep < 1
      · have hdd : decide (deep < 1) = true := by simpa using hdp
        go_wp2
        refine wp_region_quiet_grown mixed (by kernel_rfl) ?_
        repeat (go_big_quiet_step (fail))
        refine wpQuiet_nil ?_
        intro _ hw'
        obtain ⟨⟨nq2, osq2⟩, hw''⟩ := hw'
        subst hw''
        go_wp2
        exact ⟨⟨k + 1, by go_num, by omega, HG2.out.quiet _ _⟩, by simp [intOf]; omega⟩
      · have hdd : decide (deep < 1) = false := by simpa using hdp
        have hd3 : 1 ≤ deep := by omega
        go_wp2
        refine wp_region_quiet_grown mixed (by kernel_rfl) ?_
        repeat (go_big_quiet_step ((go_at_call 31; exact grown_of (HC.out.2 hd3 _ (HG2.out.quiet _ _)))))
        refine wpQuiet_nil ?_
        intro _ hw'
        obtain ⟨⟨nq2, osq2⟩, hw''⟩ := hw'
        subst hw''
        go_wp2
        exact ⟨⟨k + 1, by go_num, by omega, HG2.out.quiet _ _⟩, by simp [intOf]; omega⟩
theorem items_rows (d : Nat) (hP : PartsC d) (w : World) (A A' : Option Addr) (n n' c c' : Nat) (l : List It) (deep : Int) (hd1 : 0 ≤ deep) (hd2 : deep ≤ 40) (h1 : RdI d w A n l) (h2 : RdI d w A' n' l) :
    Calls Tryz.prog 31 #[.slice A n c, .slice A' n' c', .int .i64 deep] w fun e w' => e = .returned (.bool true) ∧ Grown w w' := by
  have e1 := h1.len
  have e2 := h2.len
  obtain ⟨ms, r1, a1⟩ := h1
  obtain ⟨ms', r2, a2⟩ := h2
  obtain rfl : n' = n := by omega
  rcases r1.2.2 with h0 | ⟨g, rfl, k1⟩
  · subst h0
    exact items_nil A A' c c' deep w
  · rcases r2.2.2 with h0 | ⟨g', rfl, k2⟩
    · subst h0
      exact items_nil _ A' c c' deep w
    · exact items_of d hP w g g' n' c c' l ms ms' deep hd1 hd2 e1 r1.2.1 k1 k2 a1 a2
theorem partsC_all : ∀ d, PartsC d
  | 0 => fun w m m' i deep _ _ h1 h2 => by
    rw [h1.2.2, h2.2.2]
    exact items_nil _ _ _ _ _ _
  | d + 1 => fun w m m' i deep b1 b2 h1 h2 => by
    exact items_rows d (partsC_all d) w m.A m'.A m.n m'.n m.c m'.c i.ps deep b1 b2 h1.2 h2.2
theorem items_any (d : Nat) (w : World) (A A' : Option Addr) (n n' c c' : Nat) (l : List It) (deep : Int) (hd1 : 0 ≤ deep) (hd2 : deep ≤ 40) (h1 : RdI d w A n l) (h2 : RdI d w A' n' l) :
    Calls Tryz.prog 31 #[.slice A n c, .slice A' n' c', .int .i64 deep] w fun e w' => e = .returned (.bool true) ∧ Grown w w' := items_rows d (partsC_all d) w A A' n n' c c' l deep hd1 hd2 h1 h2
end Go.Proofs
