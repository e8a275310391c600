/-
  names: what a maker holds; what a line does to it.
-/
import Derived.Shelf.Abstract
import Derived.WalkKit
import Derived.WalkSpells
import Derived.WalkLawsBesides
import Derived.OwnWalk
import Derived.Lib.OthersKept
import Derived.Maps.AppendAt
import Derived.WalkMore
import Derived.Lib.SmallJoins
import Derived.Test.YtbacejefgpaabaaDoorNo
namespace Go.Proofs
open Go.RowKit Go.Shelf

set_option maxRecDepth 100000

/-- a line, by what it does -/
inductive LnK where
  | nm (n : ByteArray) (q : PIt)
  | rl (l : Ln)
  | th
/-- a line's value -/
structure LV where
  k : Int
  at' : Int
  nm : ByteArray
  bg : Bool
  en : Bool
  A1 : Option Addr
  A2 : Option Addr
  A3 : Option Addr
  A4 : Option Addr
  n1 : Nat
  n2 : Nat
  n3 : Nat
  n4 : Nat
  c1 : Nat
  c2 : Nat
  c3 : Nat
  c4 : Nat
  cu : Int
abbrev LV.val (v : LV) : Value := lnv v.k v.at' v.nm v.bg v.en (.slice v.A1 v.n1 v.c1) (.slice v.A2 v.n2 v.c2) (.slice v.A3 v.n3 v.c3) (.slice v.A4 v.n4 v.c4) v.cu
/-- a line's value says what the line does -/
def LineOk (w : World) (v : LV) : LnK → Prop
  | .nm n q => v.k = 1 ∧ v.nm = n ∧ n.size ≤ maxLen ∧ (∃ a n c, q.v = .slice a n c) ∧ ItemOk w q.x q.v q.l ∧ ∃ g o, v.A2 = some ⟨g, o, none⟩ ∧ v.n2 = 1 ∧ g < w.heap.size ∧ ItAt w g o q.x q.v
  | .rl l => v.k = 2 ∧ l.bg = v.bg ∧ l.en = v.en ∧ l.cu = v.cu ∧ IRow w (.slice v.A1 v.n1 v.c1) l.ante ∧ IRow w (.slice v.A2 v.n2 v.c2) l.key ∧ IRow w (.slice v.A3 v.n3 v.c3) l.post ∧ RRow w (.slice v.A4 v.n4 v.c4) l.res
  | .th => v.k = 3
theorem LineOk.below {w W : World} {v : LV} {x : LnK} (h : LineOk w v x) (hb : Below w.heap.size w W) : LineOk W v x := by
  cases x with
  | nm n q =>
    obtain ⟨h1, h2, h3, h4, h5, g, o, h6, h7, h8, h9⟩ := h
    exact ⟨h1, h2, h3, h4, h5.below hb, g, o, h6, h7, Nat.lt_of_lt_of_le h8 hb.size, h9.below hb h8⟩
  | rl l =>
    obtain ⟨h1, h2, h3, h4, h5, h6, h7, h8⟩ := h
    exact ⟨h1, h2, h3, h4, h5.below hb, h6.below hb, h7.below hb, h8.below hb⟩
  | th => exact h
/-- what a line does to names and passes, or why it does not -/
def TakeC (K : ByteArray → Option (List (Int × Int))) (ps : List (List Rl)) (x : LnK) (c : Int) (K' : ByteArray → Option (List (Int × Int))) (ps' : List (List Rl)) : Prop :=
  match x with
  | .nm n q => ((K n).isSome = true ∧ c = 61) ∨ ((K n).isSome = false ∧ ∃ r, SetC K q.x (q.l.map Prod.fst) c r ∧ K' = addK K n r ∧ ps' = ps)
  | .rl l => ∃ i q r, ps = i ++ [q] ∧ RuleC K l c r ∧ K' = K ∧ ps' = i ++ [q ++ [r]]
  | .th => c = 0 ∧ K' = K ∧ ps' = ps ++ [[]]
/-- what lines do, from line i on -/
def PassesC : List LnK → (ByteArray → Option (List (Int × Int))) → List (List Rl) → Nat → Int → Int → List (List Rl) → Prop
  | [], _, ps, _, c, n, ps' => c = 0 ∧ n = 0 ∧ ps' = ps
  | x :: xs, K, ps, i, c, n, ps' => ∃ c1 K1 ps1, TakeC K ps x c1 K1 ps1 ∧ ((c1 ≠ 0 ∧ c = c1 ∧ n = i) ∨ (c1 = 0 ∧ PassesC xs K1 ps1 (i + 1) c n ps'))
abbrev rdv (p1 p3 : Nat) : Value := .func (.func 34) #[] #[.pointer (some ⟨p3, 0, none⟩), .pointer (some ⟨p1, 0, none⟩)]
/-- a maker -/
structure Mk (W : World) (base mb m p1 p3 N : Nat) (K : ByteArray → Option (List (Int × Int))) (pg pn pcap : Nat) (ps : List (List Rl)) : Prop where
  blk : W.heap[mb]? = some (.cells #[.map (some m), rdv p1 p3, .slice (some ⟨pg, 0, none⟩) pn pcap] 80 (0, 0))
  rd : Reader W (rdv p1 p3) (.map (some m))
  kn : KnownB N W m K
  pr : PassRow W base (.slice (some ⟨pg, 0, none⟩) pn pcap) ps
  le : base ≤ W.heap.size
  lb : base ≤ mb
  lm : base ≤ m
  len : ps.length ≤ N + 1
  lens : ∀ q ∈ ps, q.length ≤ N
  ne : ps ≠ []
theorem KnownB.mono {N N' : Nat} {W : World} {m : Nat} {K : ByteArray → Option (List (Int × Int))} (h : KnownB N W m K) (hN : N ≤ N') : KnownB N' W m K := by
  obtain ⟨n, D, h1, h2, h3⟩ := h
  exact ⟨n, D, h1, by omega, h3⟩
theorem KnownB.isMap {N : Nat} {W : World} {m : Nat} {K : ByteArray → Option (List (Int × Int))} (h : KnownB N W m K) : ∃ es c, W.heap[m]? = some (.map es c) := by
  obtain ⟨n, D, ⟨es, c, hb, _⟩, _⟩ := h
  exact ⟨es, c, hb⟩
theorem Mk.cells {W : World} {base mb m p1 p3 N : Nat} {K : ByteArray → Option (List (Int × Int))} {pg pn pcap : Nat} {ps : List (List Rl)} (h : Mk W base mb m p1 p3 N K pg pn pcap ps) :
    W.cell? ⟨mb, 0, none⟩ = some (.map (some m)) ∧ W.cell? ⟨mb, 1, none⟩ = some (rdv p1 p3) ∧ W.cell? ⟨mb, 2, none⟩ = some (.slice (some ⟨pg, 0, none⟩) pn pcap) ∧ W.frozen? ⟨mb, 2, none⟩ = false := by
  simp [World.cell?, World.frozen?, h.blk]
/-- a call that leaves all that lies as it is -/
theorem Mk.below {W W' : World} {base mb m p1 p3 N : Nat} {K : ByteArray → Option (List (Int × Int))} {pg pn pcap : Nat} {ps : List (List Rl)} (h : Mk W base mb m p1 p3 N K pg pn pcap ps) (hb : Below W.heap.size W W') : Mk W' base mb m p1 p3 N K pg pn pcap ps :=
  ⟨KT.below hb _ _ _ h.blk, h.rd.kt (KT.below hb) (KT.below hb), h.kn.below hb, h.pr.kt (KT.below hb) (KT.below hb) (KT.below hb) (KT.below hb) (KT.below hb), Nat.le_trans h.le hb.size, h.lb, h.lm, h.len, h.lens, h.ne⟩
/-- behind a rule -/
theorem Mk.frame {W W' : World} {base mb m p1 p3 N : Nat} {K : ByteArray → Option (List (Int × Int))} {pg pn pcap : Nat} {i : List (List Rl)} {q : List Rl} {r : Rl} (h : Mk W base mb m p1 p3 N K pg pn pcap (i ++ [q])) (hf : Frame base W W') (hp : PassRow W' base (.slice (some ⟨pg, 0, none⟩) pn pcap) (i ++ [q ++ [r]])) : Mk W' base mb m p1 p3 (N + 1) K pg pn pcap (i ++ [q ++ [r]]) := by
  obtain ⟨es, c, hm⟩ := h.kn.isMap
  refine ⟨hf.2.1 80 (by decide) (by decide) _ _ _ h.blk, h.rd.kt (hf.2.1 68 (by decide) (by decide)) (hf.2.1 28 (by decide) (by decide)), (h.kn.kept (fun o ho => by rw [hm] at ho; cases ho; exact hf.2.2 m _ hm rfl) (hf.2.1 48 (by decide) (by decide))).mono (by omega), hp, Nat.le_trans h.le hf.1.size, h.lb, h.lm, ?_, fun x hx => ?_, by simp⟩
  · have := h.len
    simp only [List.length_append, List.length_cons, List.length_nil] at this ⊢
    omega
  · rw [List.mem_append] at hx
    rcases hx with hx | hx
    · exact Nat.le_succ_of_le (h.lens x (by simp [hx]))
    · obtain rfl : x = q ++ [r] := by simpa using hx
      have := h.lens q (by simp)
      simp only [List.length_append, List.length_cons, List.length_nil]
      omega
/-- behind a name -/
theorem Mk.give {W W1 W' : World} {base mb m p1 p3 N : Nat} {K K' : ByteArray → Option (List (Int × Int))} {pg pn pcap : Nat} {ps : List (List Rl)} (h : Mk W base mb m p1 p3 N K pg pn pcap ps) (hb : Below W.heap.size W W1) (hg : W1.grownBy W' (some m)) (hm : ∃ es c, W1.heap[m]? = some (.map es c)) (hk : KnownB (N + 1) W' m K') : Mk W' base mb m p1 p3 (N + 1) K' pg pn pcap ps ∧ Below base W W' := by
  obtain ⟨es, c, hm⟩ := hm
  have kt : ∀ t, KT t W W' := fun t => (KT.below hb).trans (KT.grown hg (fun r e cs mk hc => by cases e; rw [hm] at hc; cases hc))
  have hbel : Below base W W' := (hb.mono h.le).grown hg (Nat.le_trans h.le hb.size) (fun k e => by cases e; exact h.lm)
  exact ⟨⟨kt _ _ _ _ h.blk, h.rd.kt (kt _) (kt _), hk, h.pr.kt (kt _) (kt _) (kt _) (kt _) (kt _), Nat.le_trans h.le hbel.size, h.lb, h.lm, Nat.le_succ_of_le h.len, fun q hq => Nat.le_succ_of_le (h.lens q hq), h.ne⟩, hbel⟩
/-- one pass more -/
theorem PassRow.more {W1 W2 : World} {base : Nat} {pv v' : Value} {ps : List (List Rl)} {vs : List Value} (h1 : vs.length = ps.length) (h2 : W1.ownsRow base 62 1 pv vs.length vs) (h3 : ∀ (j : Nat) (h1 : j < vs.length) (h2 : j < ps.length), RulesRow W1 base vs[j] ps[j]) (h4 : ∀ (i j : Nat) (hi : i < vs.length) (hj : j < vs.length), i ≠ j → vs[i].ownBlock = none ∨ vs[i].ownBlock ≠ vs[j].ownBlock)
    (hown : W2.ownsRow base 62 1 v' (vs.length + 1) (vs ++ [.slice none 0 0])) (hgrow : W1.grownBy W2 pv.ownBlock) : PassRow W2 base v' (ps ++ [[]]) := by
  refine ⟨vs ++ [.slice none 0 0], by simp [h1], by simpa using hown, fun j a b => ?_, fun i j hi hj hij => ?_⟩
  · by_cases hj : j < vs.length
    · have e1 : (vs ++ [Value.slice none 0 0])[j]'a = vs[j] := List.getElem_append_left hj
      have e2 : (ps ++ [[]])[j]'b = ps[j]'(by omega) := List.getElem_append_left (by omega)
      rw [e1, e2]
      exact (h3 j hj (by omega)).kt (own_kt h2 hgrow (by decide)) (own_kt h2 hgrow (by decide)) (own_kt h2 hgrow (by decide)) (own_kt h2 hgrow (by decide))
    · have hj' : j = vs.length := by simp at a; omega
      subst hj'
      have e1 : (vs ++ [Value.slice none 0 0])[vs.length]'a = .slice none 0 0 := by simp
      have e2 : (ps ++ [[]])[vs.length]'b = [] := by simp [h1]
      rw [e1, e2]
      exact RulesRow.nil _ _
  · by_cases h5 : i < vs.length
    · have e1 : (vs ++ [Value.slice none 0 0])[i]'hi = vs[i] := List.getElem_append_left h5
      rw [e1]
      by_cases h6 : j < vs.length
      · have e2 : (vs ++ [Value.slice none 0 0])[j]'hj = vs[j] := List.getElem_append_left h6
        rw [e2]
        exact h4 i j h5 h6 hij
      · have hj' : j = vs.length := by simp at hj; omega
        subst hj'
        have e2 : (vs ++ [Value.slice none 0 0])[vs.length]'hj = .slice none 0 0 := by simp
        rw [e2]
        cases hx : vs[i].ownBlock with
        | none => exact .inl rfl
        | some b => exact .inr (by simp [Value.ownBlock])
    · have hi' : i = vs.length := by simp at hi; omega
      subst hi'
      have e1 : (vs ++ [Value.slice none 0 0])[vs.length]'hi = .slice none 0 0 := by simp
      rw [e1]
      exact .inl rfl
/-- behind a line that ends a pass -/
theorem Mk.ended {W W1 W2 : World} {base mb m p1 p3 N : Nat} {K : ByteArray → Option (List (Int × Int))} {pg pn pcap g' n' cap' : Nat} {ps : List (List Rl)} (h : Mk W base mb m p1 p3 N K pg pn pcap ps) (hb : Below W.heap.size W W1) {vs : List Value} (h1 : vs.length = ps.length) (h2 : W1.ownsRow base 62 1 (.slice (some ⟨pg, 0, none⟩) pn pcap) vs.length vs) (h3 : ∀ (j : Nat) (h1 : j < vs.length) (h2 : j < ps.length), RulesRow W1 base vs[j] ps[j]) (h4 : ∀ (i j : Nat) (hi : i < vs.length) (hj : j < vs.length), i ≠ j → vs[i].ownBlock = none ∨ vs[i].ownBlock ≠ vs[j].ownBlock)
    (hown : W2.ownsRow base 62 1 (.slice (some ⟨g', 0, none⟩) n' cap') (vs.length + 1) (vs ++ [.slice none 0 0])) (hgrow : W1.grownBy W2 (Value.slice (some ⟨pg, 0, none⟩) pn pcap).ownBlock) : Mk (W2.setCell ⟨mb, 2, none⟩ (.slice (some ⟨g', 0, none⟩) n' cap')) base mb m p1 p3 (N + 1) K g' n' cap' (ps ++ [[]]) ∧ Below base W (W2.setCell ⟨mb, 2, none⟩ (.slice (some ⟨g', 0, none⟩) n' cap')) := by
  have k1 : ∀ t, (62 : TypeId) ≠ t → KT t W W2 := fun t ht => (KT.below hb).trans (own_kt h2 hgrow ht)
  have hblk := k1 80 (by decide) _ _ _ h.blk
  have k2 : ∀ t, (80 : TypeId) ≠ t → KT t W2 (W2.setCell ⟨mb, 2, none⟩ (.slice (some ⟨g', 0, none⟩) n' cap')) := fun t ht => KT.set _ _ _ _ (fun cs mk e => by rw [hblk] at e; cases e; exact ht rfl)
  obtain ⟨es, c, hm⟩ := h.kn.isMap
  have hm1 : W1.heap[m]? = some (.map es c) := (hb.block m (Array.getElem?_eq_some_iff.1 hm).1).trans hm
  obtain ⟨cur, hpg, hbp⟩ := own_block h2 (b := pg) rfl
  have hm2 : W2.heap[m]? = some (.map es c) := (hgrow.block m (Array.getElem?_eq_some_iff.1 hm1).1 (fun e => by cases e; rw [hm1] at hpg; cases hpg)).trans hm1
  have hm3 : (W2.setCell ⟨mb, 2, none⟩ (.slice (some ⟨g', 0, none⟩) n' cap')).heap[m]? = some (.map es c) := set_other hm2 (fun e => by subst e; rw [hm2] at hblk; cases hblk)
  have kk : ∀ t, (62 : TypeId) ≠ t → (80 : TypeId) ≠ t → KT t W (W2.setCell ⟨mb, 2, none⟩ (.slice (some ⟨g', 0, none⟩) n' cap')) := fun t a b => (k1 t a).trans (k2 t b)
  have hbel : Below base W (W2.setCell ⟨mb, 2, none⟩ (.slice (some ⟨g', 0, none⟩) n' cap')) := ((hb.mono h.le).grown hgrow (Nat.le_trans h.le hb.size) (fun k e => by cases e; exact hbp)).setCell (p := ⟨mb, 2, none⟩) h.lb _
  refine ⟨⟨by simpa using cells_setS (j := 2) (u := .slice (some ⟨g', 0, none⟩) n' cap') hblk, h.rd.kt (kk _ (by decide) (by decide)) (kk _ (by decide) (by decide)), (h.kn.kept (fun o ho => by rw [hm] at ho; cases ho; exact hm3) (kk _ (by decide) (by decide))).mono (by omega), (PassRow.more h1 h2 h3 h4 hown hgrow).kt (k2 _ (by decide)) (k2 _ (by decide)) (k2 _ (by decide)) (k2 _ (by decide)) (k2 _ (by decide)), Nat.le_trans h.le hbel.size, h.lb, h.lm, ?_, fun x hx => ?_, by simp⟩, hbel⟩
  · have := h.len
    simp only [List.length_append, List.length_cons, List.length_nil]
    omega
  · rw [List.mem_append] at hx
    rcases hx with hx | hx
    · exact Nat.le_succ_of_le (h.lens x hx)
    · obtain rfl : x = [] := by simpa using hx
      simp
end Go.Proofs
