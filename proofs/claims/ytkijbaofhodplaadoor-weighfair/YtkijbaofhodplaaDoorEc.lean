/-
  The scale by thinking: what a lift does, what stays so.
-/
import Derived.RangeFuncNested
import Derived.RangeFuncBound
import Derived.RangeFuncCalls
import Derived.RangeFuncLeaves
import Derived.Shelf.Abstract
import Derived.Shelf.RegionOpen
import Derived.WalkKit
import Derived.WalkSpells
import Derived.WalkLawsBesides
import Derived.OwnWalkIn
import Derived.TacticsInMore
import Derived.LoopNIn
import Derived.LoopIn
import Derived.BigQuiet
import Derived.RegionIn
import Derived.Deep.QuietTactic
import Derived.Deep.RegionWith
import Derived.Lib.OthersKept
import Derived.Maps.AppendAt
import Derived.Lib.SmallJoins
import Derived.Shelf.SlSortCmp.QuietGrown
import Derived.Test.YtkijbaofhodplaaDoorEa
import Derived.Test.YtkijbaofhodplaaDoorWe
namespace Go.Proofs
open Go.RowKit Go.Shelf

set_option maxRecDepth 100000
attribute [local go_sem] Oper.semAt_some
attribute [local go_sem ↓] Go.wp_at_zero Go.wp_at_succ
/-- a piece that is put back and is no copy -/
structure Pb where
  r : Nat
  us : List (Int × Int)
  wt : Int
/-- the scale: weights, what is asked, pieces -/
structure St where
  ws : List Int
  aq : List Int
  bk : List Pb
/-- what stands at a place of numbers -/
def at0 (l : List Int) (i : Nat) : Int := l[i]?.getD 0
theorem at0_lt {l : List Int} {i : Nat} (h : i < l.length) : at0 l i = l[i] := by simp [at0, h]
theorem at0_set {l : List Int} {i j : Nat} {x : Int} (h : i < l.length) : at0 (l.set i x) j = if j = i then x else at0 l j := by
  unfold at0
  rw [List.getElem?_set]
  by_cases e : i = j
  · subst e; simp [h]
  · simp [e, Ne.symm e]
/-- the first set of a rule -/
def fstS (rs : List Rl) (n : Nat) : List (Int × Int) := (rs[n]?.map fun r => keyAt r.key 0).getD []
def usAt (bk : List Pb) (i : Nat) : List (Int × Int) := (bk[i]?.map Pb.us).getD []
def leanL (rs : List Rl) (bk : List Pb) (n : Nat) : List Nat := (List.range bk.length).filter fun i => touchL (fstS rs n) (usAt bk i)
def bump (w : Int) (st : St) (i : Nat) : St :=
  match st.bk[i]? with
  | none => st
  | some b => if b.wt < w then ⟨st.ws, st.aq.set b.r (at0 st.aq b.r + (w - b.wt)), st.bk.set i ⟨b.r, b.us, w⟩⟩ else st
def liftP (rs : List Rl) (n : Nat) (st : St) : St := (leanL rs st.bk n).foldl (bump (at0 st.aq n)) ⟨st.ws.set n (at0 st.aq n), st.aq, st.bk⟩
/-- the first rule from n on, of k, that asks for more than it has, or for too much -/
def look (st : St) : Nat → Nat → Option Nat
  | 0, _ => none
  | k + 1, n => if 64 < at0 st.aq n ∨ at0 st.ws n < at0 st.aq n then some n else look st k (n + 1)
def settleP (rs : List Rl) (last : Nat) : Nat → St → Bool × St
  | 0, st => (true, st)
  | f + 1, st => match look st (last + 1) 0 with
    | none => (true, st)
    | some n => if 64 < at0 st.aq n then (false, st) else settleP rs last f (liftP rs n st)
def wsum : List Pb → Nat → Int
  | [], _ => 0
  | b :: l, n => (if b.r = n then b.wt else 0) + wsum l n
theorem wsum_append (l k : List Pb) (n : Nat) : wsum (l ++ k) n = wsum l n + wsum k n := by
  induction l with
  | nil => simp [wsum]
  | cons b l ih => simp only [List.cons_append, wsum, ih]; omega
theorem wsum_set : ∀ (l : List Pb) (i n : Nat) (b : Pb) (w : Int), l[i]? = some b → wsum (l.set i ⟨b.r, b.us, w⟩) n = wsum l n + (if b.r = n then w - b.wt else 0)
  | [], i, n, b, w, h => by simp at h
  | c :: l, 0, n, b, w, h => by
    simp at h; subst h
    simp only [List.set_cons_zero, wsum]
    split <;> omega
  | c :: l, i + 1, n, b, w, h => by
    simp at h
    simp only [List.set_cons_succ, wsum, wsum_set l i n b w h]
    omega
theorem wsum_bound : ∀ (l : List Pb) (n : Nat), (∀ b ∈ l, 1 ≤ b.wt ∧ b.wt ≤ 64) → 0 ≤ wsum l n ∧ wsum l n ≤ 64 * l.length
  | [], n, _ => by simp [wsum]
  | b :: l, n, h => by
    have h1 := wsum_bound l n (fun x hx => h x (List.mem_cons_of_mem _ hx))
    have h2 := h b List.mem_cons_self
    simp only [wsum, List.length_cons]
    split <;> omega
/-- what stays so -/
structure OkSt (cs : List Int) (us : List (List (Int × Int))) (st : St) : Prop where
  n : cs.length ≤ 256
  wl : st.ws.length = cs.length
  al : st.aq.length = cs.length
  wb : ∀ i, i < cs.length → 1 ≤ at0 st.ws i ∧ at0 st.ws i ≤ 64
  pb : ∀ b ∈ st.bk, b.r < cs.length ∧ 1 ≤ b.wt ∧ b.wt ≤ 64
  pl : st.bk.length ≤ 4096
  cb : ∀ i, i < cs.length → -100 ≤ at0 cs i ∧ at0 cs i ≤ 100
  asum : ∀ i, i < cs.length → at0 st.aq i = at0 cs i + wsum st.bk i
  uss : st.bk.map Pb.us = us
theorem OkSt.ab {cs : List Int} {us : List (List (Int × Int))} {st : St} (h : OkSt cs us st) {i : Nat} (hi : i < cs.length) : -100 ≤ at0 st.aq i ∧ at0 st.aq i ≤ 300000 := by
  have h1 := h.cb i hi
  have h2 := wsum_bound st.bk i (fun b hb => ⟨(h.pb b hb).2.1, (h.pb b hb).2.2⟩)
  have h3 := h.asum i hi
  have h4 := h.pl
  omega
theorem usAt_eq {bk : List Pb} {us : List (List (Int × Int))} (h : bk.map Pb.us = us) (i : Nat) : usAt bk i = (us[i]?).getD [] := by
  subst h
  simp [usAt]
theorem leanL_eq {rs : List Rl} {bk bk' : List Pb} (h : bk.map Pb.us = bk'.map Pb.us) (n : Nat) : leanL rs bk n = leanL rs bk' n := by
  have hl : bk.length = bk'.length := by simpa using congrArg List.length h
  unfold leanL
  rw [hl]
  congr 1
  funext i
  rw [usAt_eq h, usAt_eq rfl]
theorem map_us_set {bk : List Pb} {i : Nat} {b : Pb} {w : Int} (h : bk[i]? = some b) : (bk.set i ⟨b.r, b.us, w⟩).map Pb.us = bk.map Pb.us := by
  rw [List.map_set]
  obtain ⟨hi, hb⟩ := List.getElem?_eq_some_iff.1 h
  refine List.ext_getElem (by simp) fun j h1 h2 => ?_
  rw [List.getElem_set]
  split
  · rename_i e; subst e; simp [hb]
  · rfl
theorem OkSt.bump {cs : List Int} {us : List (List (Int × Int))} {st : St} (h : OkSt cs us st) (w : Int) (i : Nat) (hw : 1 ≤ w) (hw2 : w ≤ 64) : OkSt cs us (bump w st i) := by
  unfold Go.Proofs.bump
  cases hb : st.bk[i]? with
  | none => exact h
  | some b =>
    simp only
    have hm : b ∈ st.bk := List.mem_of_getElem? hb
    have hpb := h.pb b hm
    by_cases hlt : b.wt < w
    · rw [if_pos hlt]
      have hbr : b.r < st.aq.length := by rw [h.al]; exact hpb.1
      refine ⟨h.n, h.wl, by simp [h.al], h.wb, fun c hc => ?_, by simpa using h.pl, h.cb, fun j hj => ?_, (map_us_set hb).trans h.uss⟩
      · rcases List.mem_or_eq_of_mem_set hc with h1 | h1
        · exact h.pb c h1
        · subst h1; exact ⟨hpb.1, hw, hw2⟩
      · rw [at0_set hbr, wsum_set _ _ _ _ _ hb]
        have h1 := h.asum j hj
        by_cases e : j = b.r
        · subst e; simp; omega
        · rw [if_neg e, if_neg (fun x => e x.symm)]; omega
    · rw [if_neg hlt]; exact h
theorem bump_ws (w : Int) (st : St) (i : Nat) : (bump w st i).ws = st.ws := by
  unfold bump
  split
  · rfl
  · split <;> rfl
theorem bumps_ws (w : Int) : ∀ (l : List Nat) (st : St), (l.foldl (bump w) st).ws = st.ws
  | [], st => rfl
  | i :: l, st => by rw [List.foldl_cons, bumps_ws w l, bump_ws]
theorem OkSt.bumps {cs : List Int} {us : List (List (Int × Int))} (w : Int) (hw : 1 ≤ w) (hw2 : w ≤ 64) : ∀ (l : List Nat) (st : St), OkSt cs us st → OkSt cs us (l.foldl (Go.Proofs.bump w) st)
  | [], st, h => h
  | i :: l, st, h => by rw [List.foldl_cons]; exact OkSt.bumps w hw hw2 l _ (h.bump w i hw hw2)
theorem OkSt.setw {cs : List Int} {us : List (List (Int × Int))} {st : St} (h : OkSt cs us st) {n : Nat} (hn : n < cs.length) {w : Int} (hw : 1 ≤ w) (hw2 : w ≤ 64) : OkSt cs us ⟨st.ws.set n w, st.aq, st.bk⟩ := by
  refine ⟨h.n, by simp [h.wl], h.al, fun i hi => ?_, h.pb, h.pl, h.cb, h.asum, h.uss⟩
  show 1 ≤ at0 (st.ws.set n w) i ∧ _
  rw [at0_set (by rw [h.wl]; exact hn)]
  split
  · exact ⟨hw, hw2⟩
  · exact h.wb i hi
/-- all weights together -/
def tws : List Int → Nat
  | [] => 0
  | x :: l => x.toNat + tws l
theorem tws_set : ∀ (l : List Int) (n : Nat) (x : Int), n < l.length → tws (l.set n x) + (at0 l n).toNat = tws l + x.toNat
  | [], n, x, h => by simp at h
  | y :: l, 0, x, h => by simp [tws, at0]; omega
  | y :: l, n + 1, x, h => by
    have := tws_set l n x (by simpa using h)
    simp [tws, at0] at this ⊢
    omega
theorem tws_bound : ∀ (l : List Int), (∀ i, i < l.length → at0 l i ≤ 64) → tws l ≤ 64 * l.length
  | [], _ => by simp [tws]
  | x :: l, h => by
    have h1 := tws_bound l (fun i hi => by have := h (i + 1) (by simpa using hi); simpa [at0] using this)
    have h2 := h 0 (by simp)
    simp [at0] at h2
    simp only [tws, List.length_cons]
    omega
theorem liftP_ws (rs : List Rl) (n : Nat) (st : St) : (liftP rs n st).ws = st.ws.set n (at0 st.aq n) := by
  unfold liftP
  rw [bumps_ws]
theorem OkSt.lift {cs : List Int} {us : List (List (Int × Int))} {st : St} (h : OkSt cs us st) (rs : List Rl) {n : Nat} (hn : n < cs.length) (h1 : at0 st.ws n < at0 st.aq n) (h2 : at0 st.aq n ≤ 64) : OkSt cs us (liftP rs n st) := by
  have hw := (h.wb n hn).1
  exact OkSt.bumps _ (by omega) h2 _ _ (h.setw hn (by omega) h2)
end Go.Proofs
