/-
  names: rules in memory; what rule holds while it reads a line.
-/
import Derived.Shelf.Abstract
import Derived.WalkKit
import Derived.WalkSpells
import Derived.WalkLawsBesides
import Derived.OwnWalk
import Derived.Lib.OthersKept
import Derived.Maps.AppendAt
import Derived.WalkMore
import Derived.Lib.SmallJoins
import Derived.Test.YtbacejefgpaabaaDoorNk
namespace Go.Proofs
open Go.RowKit Go.Shelf

set_option maxRecDepth 100000
attribute [local go_sem] Oper.semAt_some

/-- a rule -/
structure Rl where
  bg : Bool
  en : Bool
  cu : Int
  ante : List (List (Int × Int))
  key : List (List (Int × Int))
  post : List (List (Int × Int))
  res : List Pc
/-- a rule and where its rows lie -/
structure RlV where
  r : Rl
  av : Value
  kv : Value
  pv : Value
  rv : Value
def fr1 (e : RlV) : List Value := [.bool e.r.bg, e.av, e.kv, e.pv, .bool e.r.en, e.rv, .int .i64 e.r.cu]
def fr (l : List RlV) : List Value := l.flatMap fr1
/-- the rows of a rule -/
def RuleM (W : World) (base : Nat) (e : RlV) : Prop := SRow W base e.av e.r.ante ∧ SRow W base e.kv e.r.key ∧ SRow W base e.pv e.r.post ∧ PcRow W base e.rv e.r.res
theorem RuleM.kt {W W' : World} {base : Nat} {e : RlV} (h : RuleM W base e) (k1 : KT 30 W W') (k2 : KT 48 W W') (k3 : KT 66 W W') : RuleM W' base e := ⟨h.1.kt k1 k2, h.2.1.kt k1 k2, h.2.2.1.kt k1 k2, h.2.2.2.kt k3 k2⟩
theorem SRow.sl {W : World} {base : Nat} {v : Value} {ls : List (List (Int × Int))} (h : SRow W base v ls) : ∃ a n c, v = .slice a n c := by
  obtain ⟨vs, _, h, _⟩ := h
  rcases h.2 with ⟨rfl, _⟩ | ⟨g, cap, cur, rfl, _⟩
  · exact ⟨_, _, _, rfl⟩
  · exact ⟨_, _, _, rfl⟩
theorem PcRow.sl {W : World} {base : Nat} {v : Value} {ps : List Pc} (h : PcRow W base v ps) : ∃ a n c, v = .slice a n c := by
  obtain ⟨vs, _, h, _⟩ := h
  rcases h.2 with ⟨rfl, _⟩ | ⟨g, cap, cur, rfl, _⟩
  · exact ⟨_, _, _, rfl⟩
  · exact ⟨_, _, _, rfl⟩
/-- a row of rules -/
def RulesRow (W : World) (base : Nat) (v : Value) (rs : List Rl) : Prop :=
  ∃ es : List RlV, es.map RlV.r = rs ∧ W.ownsRow base 59 7 v es.length (fr es) ∧ ∀ e ∈ es, RuleM W base e
theorem RulesRow.nil (W : World) (base : Nat) : RulesRow W base (.slice none 0 0) [] := ⟨[], rfl, World.ownsRow_nil _ _ _ _, by simp⟩
theorem RulesRow.kept {W W' : World} {base : Nat} {v : Value} {rs : List Rl} (h : RulesRow W base v rs) (k0 : ∀ b cs m, v.ownBlock = some b → W.heap[b]? = some (.cells cs 59 m) → W'.heap[b]? = some (.cells cs 59 m)) (k1 : KT 30 W W') (k2 : KT 48 W W') (k3 : KT 66 W W') : RulesRow W' base v rs := by
  obtain ⟨es, h1, h2, h3⟩ := h
  refine ⟨es, h1, ⟨h2.1, ?_⟩, fun e he => (h3 e he).kt k1 k2 k3⟩
  rcases h2.2 with h | ⟨g, cap, cur, e1, g1, g2, g3⟩
  · exact .inl h
  · exact .inr ⟨g, cap, cur, e1, g1, k0 g _ _ (by rw [e1]; rfl) g2, g3⟩
theorem RulesRow.kt {W W' : World} {base : Nat} {v : Value} {rs : List Rl} (h : RulesRow W base v rs) (k0 : KT 59 W W') (k1 : KT 30 W W') (k2 : KT 48 W W') (k3 : KT 66 W W') : RulesRow W' base v rs := h.kept (fun b cs m _ h => k0 b cs m h) k1 k2 k3
/-- a row of passes -/
def PassRow (W : World) (base : Nat) (pv : Value) (ps : List (List Rl)) : Prop :=
  ∃ vs : List Value, vs.length = ps.length ∧ W.ownsRow base 62 1 pv vs.length vs ∧ (∀ (j : Nat) (h1 : j < vs.length) (h2 : j < ps.length), RulesRow W base vs[j] ps[j]) ∧ ∀ (i j : Nat) (hi : i < vs.length) (hj : j < vs.length), i ≠ j → vs[i].ownBlock = none ∨ vs[i].ownBlock ≠ vs[j].ownBlock
theorem PassRow.kt {W W' : World} {base : Nat} {pv : Value} {ps : List (List Rl)} (h : PassRow W base pv ps) (kk : KT 62 W W') (k0 : KT 59 W W') (k1 : KT 30 W W') (k2 : KT 48 W W') (k3 : KT 66 W W') : PassRow W' base pv ps := by
  obtain ⟨vs, h1, h2, h3, h4⟩ := h
  exact ⟨vs, h1, own_kept_t h2 kk, fun j a b => (h3 j a b).kt k0 k1 k2 k3, h4⟩
/-- a line -/
abbrev lnv (k a : Int) (nm : ByteArray) (bg en : Bool) (av kv pv rv : Value) (cu : Int) : Value := .agg #[.int .i64 k, .int .i64 a, .string nm, .bool bg, .bool en, av, kv, pv, rv, .int .i64 cu]
/-- what rule has read of a line: the line's block, the rule's block -/
structure RS (w W : World) (k a : Int) (nm : ByteArray) (bg en : Bool) (l1 l2 l3 l4 : Value) (cu : Int) (av kv pv rv : Value) : Prop where
  bel : Below w.heap.size w W
  ln : W.heap[w.heap.size]? = some (.cells #[.int .i64 k, .int .i64 a, .string nm, .bool bg, .bool en, l1, l2, l3, l4, .int .i64 cu] 53 (0, 0))
  rl : W.heap[w.heap.size + 1]? = some (.cells #[.bool bg, av, kv, pv, .bool en, rv, .int .i64 cu] 59 (0, 0))
section
variable {w W : World} {k a : Int} {nm : ByteArray} {bg en : Bool} {l1 l2 l3 l4 : Value} {cu : Int} {av kv pv rv : Value}
theorem RS.call {W' : World} (h : RS w W k a nm bg en l1 l2 l3 l4 cu av kv pv rv) (hb : Below W.heap.size W W') : RS w W' k a nm bg en l1 l2 l3 l4 cu av kv pv rv :=
  ⟨h.bel.trans (hb.mono h.bel.size), (hb.block _ (Array.getElem?_eq_some_iff.1 h.ln).1).trans h.ln, (hb.block _ (Array.getElem?_eq_some_iff.1 h.rl).1).trans h.rl⟩
theorem RS.drew (h : RS w W k a nm bg en l1 l2 l3 l4 cu av kv pv rv) : RS w W.drew k a nm bg en l1 l2 l3 l4 cu av kv pv rv := ⟨h.bel.drew, h.ln, h.rl⟩
theorem RS.lines (h : RS w W k a nm bg en l1 l2 l3 l4 cu av kv pv rv) : W.cell? ⟨w.heap.size, 5, none⟩ = some l1 ∧ W.cell? ⟨w.heap.size, 6, none⟩ = some l2 ∧ W.cell? ⟨w.heap.size, 7, none⟩ = some l3 ∧ W.cell? ⟨w.heap.size, 8, none⟩ = some l4 := by
  simp [World.cell?, h.ln]
theorem RS.rule (h : RS w W k a nm bg en l1 l2 l3 l4 cu av kv pv rv) : W.cell? ⟨w.heap.size + 1, 0, none⟩ = some (.bool bg) ∧ W.cell? ⟨w.heap.size + 1, 1, none⟩ = some av ∧ W.cell? ⟨w.heap.size + 1, 2, none⟩ = some kv ∧ W.cell? ⟨w.heap.size + 1, 3, none⟩ = some pv ∧ W.cell? ⟨w.heap.size + 1, 4, none⟩ = some (.bool en) ∧ W.cell? ⟨w.heap.size + 1, 5, none⟩ = some rv ∧ W.cell? ⟨w.heap.size + 1, 6, none⟩ = some (.int .i64 cu) := by
  simp [World.cell?, h.rl]
theorem RS.frozen (h : RS w W k a nm bg en l1 l2 l3 l4 cu av kv pv rv) : W.frozen? ⟨w.heap.size + 1, 1, none⟩ = false ∧ W.frozen? ⟨w.heap.size + 1, 2, none⟩ = false ∧ W.frozen? ⟨w.heap.size + 1, 3, none⟩ = false ∧ W.frozen? ⟨w.heap.size + 1, 5, none⟩ = false := by
  simp [World.frozen?, h.rl]
theorem set_other {W : World} {B b j : Nat} {u : Value} {o : Obj} (h : W.heap[b]? = some o) (hne : B ≠ b) : (W.setCell ⟨B, j, none⟩ u).heap[b]? = some o := by
  show (W.heap.modify B _)[b]? = _
  rw [Array.getElem?_modify, if_neg hne]
  exact h
theorem RS.setA (h : RS w W k a nm bg en l1 l2 l3 l4 cu av kv pv rv) (x : Value) : RS w (W.setCell ⟨w.heap.size + 1, 1, none⟩ x) k a nm bg en l1 l2 l3 l4 cu x kv pv rv :=
  ⟨h.bel.setCell (p := ⟨w.heap.size + 1, 1, none⟩) (by show _ ≤ w.heap.size + 1; omega) _, set_other h.ln (by omega), by simpa using cells_setS (j := 1) (u := x) h.rl⟩
theorem RS.setK (h : RS w W k a nm bg en l1 l2 l3 l4 cu av kv pv rv) (x : Value) : RS w (W.setCell ⟨w.heap.size + 1, 2, none⟩ x) k a nm bg en l1 l2 l3 l4 cu av x pv rv :=
  ⟨h.bel.setCell (p := ⟨w.heap.size + 1, 2, none⟩) (by show _ ≤ w.heap.size + 1; omega) _, set_other h.ln (by omega), by simpa using cells_setS (j := 2) (u := x) h.rl⟩
theorem RS.setP (h : RS w W k a nm bg en l1 l2 l3 l4 cu av kv pv rv) (x : Value) : RS w (W.setCell ⟨w.heap.size + 1, 3, none⟩ x) k a nm bg en l1 l2 l3 l4 cu av kv x rv :=
  ⟨h.bel.setCell (p := ⟨w.heap.size + 1, 3, none⟩) (by show _ ≤ w.heap.size + 1; omega) _, set_other h.ln (by omega), by simpa using cells_setS (j := 3) (u := x) h.rl⟩
theorem RS.setR (h : RS w W k a nm bg en l1 l2 l3 l4 cu av kv pv rv) (x : Value) : RS w (W.setCell ⟨w.heap.size + 1, 5, none⟩ x) k a nm bg en l1 l2 l3 l4 cu av kv pv x :=
  ⟨h.bel.setCell (p := ⟨w.heap.size + 1, 5, none⟩) (by show _ ≤ w.heap.size + 1; omega) _, set_other h.ln (by omega), by simpa using cells_setS (j := 5) (u := x) h.rl⟩
theorem RS.kt (h : RS w W k a nm bg en l1 l2 l3 l4 cu av kv pv rv) {t : TypeId} (ht : 59 ≠ t) (j : Nat) (x : Value) : KT t W (W.setCell ⟨w.heap.size + 1, j, none⟩ x) := KT.set W _ j x (fun cs m e => by rw [h.rl] at e; cases e; exact ht rfl)
end
/-- a line that is a rule, as it is read -/
structure Ln where
  bg : Bool
  en : Bool
  cu : Int
  ante : List PIt
  key : List PIt
  post : List PIt
  res : List RIt
/-- the rule of a line, or why there is none -/
def RuleC (K : ByteArray → Option (List (Int × Int))) (l : Ln) (c : Int) (r : Rl) : Prop :=
  ∃ ca ra, EachC K l.ante ca ra ∧ ((ca ≠ 0 ∧ c = ca) ∨ (ca = 0 ∧ ∃ ck rk, EachC K l.key ck rk ∧ ((ck ≠ 0 ∧ c = ck) ∨ (ck = 0 ∧ ∃ cp rp, EachC K l.post cp rp ∧ ((cp ≠ 0 ∧ c = cp) ∨ (cp = 0 ∧ ∃ cr rr, EachP K l.res cr rr ∧ ((cr ≠ 0 ∧ c = cr) ∨ (cr = 0 ∧ c = 0 ∧ r = ⟨l.bg, l.en, l.cu, ra, rk, rp, rr⟩))))))))
end Go.Proofs
