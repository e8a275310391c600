/-
  Several texts in one (Gb Ea Ec Gc).
-/
import Derived.RangeFuncNested
import Derived.RangeFuncBound
import Derived.RangeFuncCalls
import Derived.RangeFuncLeaves
import Derived.Shelf.Abstract
import Derived.Shelf.RegionOpen
import Derived.WalkKit
import Derived.WalkSpells
import Derived.WalkLawsBesides
import Derived.OwnWalkIn
import Derived.TacticsInMore
import Derived.LoopNIn
import Derived.LoopIn
import Derived.BigQuiet
import Derived.RegionIn
import Derived.Deep.QuietTactic
import Derived.Deep.RegionWith
import Derived.Lib.OthersKept
import Derived.Maps.AppendAt
import Derived.Lib.SmallJoins
import Derived.Shelf.SlSortCmp.QuietGrown
import Derived.Test.YtkijbaofhodplaaDoorWe
import Derived.Test.YtkijbaofhodplaaDoorWa
namespace Go.Proofs
open Go.RowKit Go.Shelf

set_option maxRecDepth 100000
attribute [local go_sem] Oper.semAt_some
attribute [local go_sem ↓] Go.wp_at_zero Go.wp_at_succ
/-- what stands at a place of numbers -/
def bAt (l : List Int) (i : Nat) : Int := l[i]?.getD 0
def plcF (l : List Int) (u : Int) : Nat → Nat → Nat → Nat
  | 0, lo, _ => lo
  | f + 1, lo, hi => if 1 < hi - lo then (if bAt l ((lo + hi) / 2) ≤ u then plcF l u f ((lo + hi) / 2) hi else plcF l u f lo ((lo + hi) / 2)) else lo
def plc (l : List Int) (u : Int) : Nat := plcF l u l.length 0 l.length
/-- what the search finds: a place whose number is not above, if the first one is not; those behind the end are above -/
theorem plcF_spec (l : List Int) (u : Int) : ∀ (f lo hi : Nat), hi - lo ≤ f + 1 → lo < hi → hi ≤ l.length → bAt l lo ≤ u → (hi = l.length ∨ u < bAt l hi) → plcF l u f lo hi < l.length ∧ bAt l (plcF l u f lo hi) ≤ u ∧ (plcF l u f lo hi + 1 = l.length ∨ u < bAt l (plcF l u f lo hi + 1))
  | 0, lo, hi, h1, h2, h3, h4, h5 => by
    have : hi = lo + 1 := by omega
    subst this
    exact ⟨by simp [plcF]; omega, h4, h5⟩
  | f + 1, lo, hi, h1, h2, h3, h4, h5 => by
    unfold plcF
    by_cases hc : 1 < hi - lo
    · rw [if_pos hc]
      by_cases hm : bAt l ((lo + hi) / 2) ≤ u
      · rw [if_pos hm]
        exact plcF_spec l u f _ _ (by omega) (by omega) h3 hm h5
      · rw [if_neg hm]
        exact plcF_spec l u f _ _ (by omega) (by omega) (by omega) h4 (.inr (by omega))
    · rw [if_neg hc]
      have : hi = lo + 1 := by omega
      subst this
      exact ⟨by omega, h4, h5⟩
set_option maxHeartbeats 2000000 in
theorem place_any (v : Value) (l : List Int) (u : Int) (w : World) (h : IR w v l) (hn : l.length ≤ 4611686018427387903) : Calls Tryd.prog 31 #[v, .int .i64 u] w fun e w' => e = .returned (.int .i64 (plc l u)) ∧ w' = w := by
  obtain ⟨a, c, rfl, _, hr⟩ := h
  have HR : Hid (l = [] ∨ ∃ g o, a = some ⟨g, o, none⟩ ∧ IRd w g o l) := hr
  obtain ⟨N, hN⟩ : ∃ N, l.length = N := ⟨_, rfl⟩
  have HN : Hid (l.length = N) := hN
  obtain ⟨R, hRR⟩ : ∃ R, plc l u = R := ⟨_, rfl⟩
  have HRR : Hid (plcF l u N 0 N = R) := by show _ = R; rw [← hRR, plc, hN]
  rw [hN] at hn ⊢
  rw [hRR]
  have hNI : (N : Int) ≤ 4611686018427387903 := by omega
  clear hN hr hRR
  go_enter Tryd.func31, Tryd.ntmps31
  go_wp2
  go_loopw [5, 6] (fun vl vh wr => ∃ lo hi f : Nat, vl = .int .i64 lo ∧ vh = .int .i64 hi ∧ lo ≤ hi ∧ hi ≤ N ∧ Hid (plcF l u f lo hi = R ∧ hi - lo ≤ f) ∧ wr = w) (fun vl vh _ => (intOf vh).toNat - (intOf vl).toNat)
  case atStart => exact ⟨0, N, N, rfl, rfl, by omega, by omega, ⟨HRR.out, by omega⟩, rfl⟩
  case round =>
    obtain ⟨lo, hi, f, rfl, rfl, hlh, hhN, HF, hwr⟩ := hrel
    obtain rfl := hwr.symm
    have hlo0 : (0 : Int) ≤ (lo : Int) := by omega
    have hhi : (hi : Int) ≤ (N : Int) := by omega
    have hlhI : (lo : Int) ≤ (hi : Int) := by omega
    by_cases hc : 1 < hi - lo
    · have hcI : (1 : Int) < (hi : Int) - (lo : Int) := by omega
      have hcd : decide ((1 : Int) < (hi : Int) - (lo : Int)) = true := by simpa using hcI
      obtain ⟨f', rfl⟩ : ∃ f', f = f' + 1 := ⟨f - 1, by have := HF.out.2; omega⟩
      have hp := HF.out.1
      rw [plcF, if_pos hc] at hp
      obtain ⟨m, hm⟩ : ∃ m, (lo + hi) / 2 = m := ⟨_, rfl⟩
      rw [hm] at hp
      have hmI : ((lo : Int) + (hi : Int)).tdiv 2 = (m : Int) := by rw [Int.tdiv_eq_ediv_of_nonneg (by omega)]; omega
      have hml : m < l.length := by rw [HN.out]; omega
      have hmN : (m : Int) < (N : Int) := by have := HN.out; omega
      have hm0 : (0 : Int) ≤ (m : Int) := by omega
      obtain ⟨g, o, rfl, hd⟩ := HR.out.resolve_left (fun e => by rw [e] at hml; simp at hml)
      have cm := hd m hml
      have hbm : bAt l m = l[m] := by simp [bAt, hml]
      rw [hbm] at hp
      generalize l[m] = x at cm hp
      have HL : Hid (lo < m ∧ m < hi ∧ hi - lo ≤ f' + 1) := ⟨by omega, by omega, HF.out.2⟩
      clear hd hbm hm HF
      by_cases hx : x ≤ u
      · as_aux_lemma =>
          have HP : Hid (plcF l u f' m hi = R) := by rw [if_pos hx] at hp; exact hp
          clear hp
          have hL := HL.out
          go_wp2
          exact ⟨⟨m, hi, f', rfl, rfl, by omega, by omega, ⟨HP.out, by omega⟩, by first | rfl | trivial⟩, by simp [intOf]; omega⟩
      · as_aux_lemma =>
          have HP : Hid (plcF l u f' lo m = R) := by rw [if_neg hx] at hp; exact hp
          clear hp
          have hL := HL.out
          go_wp2
          exact ⟨⟨lo, m, f', rfl, rfl, by omega, by omega, ⟨HP.out, by omega⟩, by first | rfl | trivial⟩, by simp [intOf]; omega⟩
    · as_aux_lemma =>
        have hcn : ¬ (1 : Int) < (hi : Int) - (lo : Int) := by omega
        have hcd : decide ((1 : Int) < (hi : Int) - (lo : Int)) = false := by simp; omega
        have HP : Hid (lo = R) := by
          have := HF.out.1
          cases f with
          | zero => rw [plcF] at this; exact this
          | succ f => rw [plcF, if_neg hc] at this; exact this
        clear HF
        go_wp2
        go_ret
        exact ⟨by rw [HP.out]; rfl, rfl⟩
/-- whether two rows of ranges touch, in so many steps -/
def touchF : Nat → List (Int × Int) → List (Int × Int) → Bool
  | 0, _, _ => false
  | _ + 1, [], _ => false
  | _ + 1, _ :: _, [] => false
  | f + 1, x :: a, y :: b => if x.2 < y.1 then touchF f a (y :: b) else if y.2 < x.1 then touchF f (x :: a) b else true
/-- whether two rows of ranges touch -/
def touchL (a b : List (Int × Int)) : Bool := touchF (a.length + b.length) a b
theorem touchF_same : ∀ (f g : Nat) (a b : List (Int × Int)), a.length + b.length ≤ f → a.length + b.length ≤ g → touchF f a b = touchF g a b
  | 0, g, a, b, h, _ => by
    have ha : a = [] := List.eq_nil_of_length_eq_zero (by omega)
    subst ha
    cases g <;> rfl
  | f + 1, g, [], b, _, _ => by cases g <;> rfl
  | f + 1, g, x :: a, [], _, _ => by cases g <;> rfl
  | f + 1, 0, x :: a, y :: b, _, h => by simp at h
  | f + 1, g + 1, x :: a, y :: b, h1, h2 => by
    simp only [List.length_cons] at h1 h2
    have e1 := touchF_same f g a (y :: b) (by simp; omega) (by simp; omega)
    have e2 := touchF_same f g (x :: a) b (by simp; omega) (by simp; omega)
    simp only [touchF, e1, e2]
theorem drop_rg' {l : List (Int × Int)} {k : Nat} (hk : k < l.length) : l.drop k = rg l k :: l.drop (k + 1) := by
  rw [rg_lt hk]; exact List.drop_eq_getElem_cons hk
theorem touch_nil_left (b : List (Int × Int)) : touchL [] b = false := by
  unfold touchL
  cases b.length <;> rfl
theorem touch_nil_right (a : List (Int × Int)) : touchL a [] = false := by
  unfold touchL
  cases a <;> rfl
theorem touch_cons (x y : Int × Int) (a b : List (Int × Int)) : touchL (x :: a) (y :: b) = if x.2 < y.1 then touchL a (y :: b) else if y.2 < x.1 then touchL (x :: a) b else true := by
  unfold touchL
  rw [touchF_same ((x :: a).length + (y :: b).length) (a.length + b.length + 1 + 1) _ _ (Nat.le_refl _) (by simp; omega)]
  rw [touchF]
  rw [touchF_same (a.length + b.length + 1) (a.length + (y :: b).length) a (y :: b) (by simp; omega) (Nat.le_refl _)]
  rw [touchF_same (a.length + b.length + 1) ((x :: a).length + b.length) (x :: a) b (by simp; omega) (Nat.le_refl _)]
set_option maxHeartbeats 2000000 in
theorem touch_any (va vb : Value) (a b : List (Int × Int)) (w : World) (ha : Rs w va a) (hb : Rs w vb b) (hna : a.length ≤ 1000000) (hnb : b.length ≤ 1000000) :
    Calls Tryd.prog 95 #[va, vb] w fun e w' => e = .returned (.bool (touchL a b)) ∧ Grown w w' := by
  obtain ⟨A, ca, rfl, _, h1⟩ := ha
  obtain ⟨B, cb, rfl, _, h2⟩ := hb
  obtain ⟨n, hnn⟩ : ∃ n, a.length = n := ⟨_, rfl⟩
  obtain ⟨m, hmm⟩ : ∃ m, b.length = m := ⟨_, rfl⟩
  have HA : Hid (a.length = n) := hnn
  have HB : Hid (b.length = m) := hmm
  rw [hnn] at hna ⊢
  rw [hmm] at hnb ⊢
  obtain ⟨r, hr⟩ : ∃ r : Bool, touchL a b = r := ⟨_, rfl⟩
  have HR : Hid (touchL (a.drop 0) (b.drop 0) = r) := hr
  have H1 : Hid (a = [] ∨ ∃ g o, A = some ⟨g, o, none⟩ ∧ Reads w g o a) := h1
  have H2 : Hid (b = [] ∨ ∃ g o, B = some ⟨g, o, none⟩ ∧ Reads w g o b) := h2
  rw [hr]
  clear hr h1 h2 hnn hmm
  have hnI : (n : Int) ≤ 1000000 := by omega
  have hmI : (m : Int) ≤ 1000000 := by omega
  go_enter Tryd.func95, Tryd.ntmps95
  go_wp2
  go_loopw [5, 6] (fun vi vj wr => ∃ i j : Nat, vi = .int .i64 i ∧ vj = .int .i64 j ∧ i ≤ n ∧ j ≤ m ∧ Hid (touchL (a.drop i) (b.drop j) = r) ∧ Grown w wr) (fun vi vj _ => (n - (intOf vi).toNat) + (m - (intOf vj).toNat))
  case atStart => exact ⟨0, 0, rfl, rfl, by omega, by omega, HR, Grown.refl _⟩
  case round =>
    obtain ⟨i, j, rfl, rfl, hi, hj, hT, hG⟩ := hrel
    clear HR
    have hi0 : (0 : Int) ≤ (i : Int) := by omega
    have hj0 : (0 : Int) ≤ (j : Int) := by omega
    by_cases hli : i < n
    · have hli' : (i : Int) < (n : Int) := by omega
      by_cases hlj : j < m
      · as_aux_lemma =>
          have hlj' : (j : Int) < (m : Int) := by omega
          have hka : i < a.length := by rw [HA.out]; exact hli
          have hkb : j < b.length := by rw [HB.out]; exact hlj
          obtain ⟨g1, o1, hA1, hr1⟩ := H1.out.resolve_left (fun e => by rw [e] at hka; simp at hka)
          obtain ⟨g2, o2, hB1, hr2⟩ := H2.out.resolve_left (fun e => by rw [e] at hkb; simp at hkb)
          subst hA1
          subst hB1
          obtain ⟨p, q, hpq⟩ : ∃ p q : Int, rg a i = (p, q) := ⟨_, _, rfl⟩
          obtain ⟨s, t, hst⟩ : ∃ s t : Int, rg b j = (s, t) := ⟨_, _, rfl⟩
          have x1 := hr1 i hka
          have x2 := hr2 j hkb
          have hT2 := hT.out
          rw [drop_rg' hka, drop_rg' hkb, hpq, hst, touch_cons] at hT2
          rw [hpq] at x1
          rw [hst] at x2
          have cp := hG.cellv x1.1
          have cq := hG.cellv x1.2
          have cs := hG.cellv x2.1
          have ct := hG.cellv x2.2
          simp only at cp cq cs ct hT2
          clear x1 x2 hr1 hr2
          by_cases hc1 : q < s
          · as_aux_lemma =>
              have HT2 : Hid (touchL (a.drop (i + 1)) (b.drop j) = r) := by rw [if_pos hc1] at hT2; rw [drop_rg' hkb, hst]; exact hT2
              clear hT2 hT hpq hst
              go_wp2
              go_quiet (fail)
              go_wp2
              exact ⟨⟨i + 1, j, by go_num, rfl, by omega, by omega, HT2, (by first | exact hG.drewN _ | exact (hG.drewN _).drewN _)⟩, by simp [intOf]; omega⟩
          · by_cases hc2 : t < p
            · as_aux_lemma =>
                have HT2 : Hid (touchL (a.drop i) (b.drop (j + 1)) = r) := by rw [if_neg hc1, if_pos hc2] at hT2; rw [drop_rg' hka, hpq]; exact hT2
                clear hT2 hT hpq hst
                go_wp2
                go_quiet (fail)
                go_wp2
                go_quiet (fail)
                go_wp2
                exact ⟨⟨i, j + 1, rfl, by go_num, by omega, by omega, HT2, (by first | exact hG.drewN _ | exact (hG.drewN _).drewN _)⟩, by simp [intOf]; omega⟩
            · as_aux_lemma =>
                have HT2 : Hid (r = true) := by rw [if_neg hc1, if_neg hc2] at hT2; exact hT2.symm
                clear hT2 hT hpq hst
                go_wp2
                go_quiet (fail)
                go_wp2
                go_quiet (fail)
                go_wp2
                go_ret
                have hrt := HT2.out
                exact ⟨by first | rfl | (rw [hrt]; rfl), (by first | exact hG.drewN _ | exact (hG.drewN _).drewN _)⟩
      · as_aux_lemma =>
          have hge : ¬ (j : Int) < (m : Int) := by omega
          have HT2 : Hid (r = false) := by
            have := hT.out
            rw [(List.drop_eq_nil_of_le (by rw [HB.out]; omega) : b.drop j = []), touch_nil_right] at this
            exact this.symm
          clear hT
          go_wp2
          go_ret
          have hrt := HT2.out
          exact ⟨by first | rfl | (rw [hrt]; rfl), hG⟩
    · as_aux_lemma =>
        have hge : ¬ (i : Int) < (n : Int) := by omega
        have HT2 : Hid (r = false) := by
          have := hT.out
          rw [(List.drop_eq_nil_of_le (by rw [HA.out]; omega) : a.drop i = []), touch_nil_left] at this
          exact this.symm
        clear hT
        go_wp2
        go_ret
        have hrt := HT2.out
        exact ⟨by first | rfl | (rw [hrt]; rfl), hG⟩
/-- a piece that is put back and is no copy -/
structure Pb where
  r : Nat
  us : List (Int × Int)
  wt : Int
/-- the scale: weights, what is asked, pieces -/
structure St where
  ws : List Int
  aq : List Int
  bk : List Pb
/-- what stands at a place of numbers -/
def at0 (l : List Int) (i : Nat) : Int := l[i]?.getD 0
theorem at0_lt {l : List Int} {i : Nat} (h : i < l.length) : at0 l i = l[i] := by simp [at0, h]
theorem at0_set {l : List Int} {i j : Nat} {x : Int} (h : i < l.length) : at0 (l.set i x) j = if j = i then x else at0 l j := by
  unfold at0
  rw [List.getElem?_set]
  by_cases e : i = j
  · subst e; simp [h]
  · simp [e, Ne.symm e]
/-- the first set of a rule -/
def fstS (rs : List Rl) (n : Nat) : List (Int × Int) := (rs[n]?.map fun r => keyAt r.key 0).getD []
def usAt (bk : List Pb) (i : Nat) : List (Int × Int) := (bk[i]?.map Pb.us).getD []
def leanL (rs : List Rl) (bk : List Pb) (n : Nat) : List Nat := (List.range bk.length).filter fun i => touchL (fstS rs n) (usAt bk i)
def bump (w : Int) (st : St) (i : Nat) : St :=
  match st.bk[i]? with
  | none => st
  | some b => if b.wt < w then ⟨st.ws, st.aq.set b.r (at0 st.aq b.r + (w - b.wt)), st.bk.set i ⟨b.r, b.us, w⟩⟩ else st
def liftP (rs : List Rl) (n : Nat) (st : St) : St := (leanL rs st.bk n).foldl (bump (at0 st.aq n)) ⟨st.ws.set n (at0 st.aq n), st.aq, st.bk⟩
/-- the first rule from n on, of k, that asks for more than it has, or for too much -/
def look (st : St) : Nat → Nat → Option Nat
  | 0, _ => none
  | k + 1, n => if 64 < at0 st.aq n ∨ at0 st.ws n < at0 st.aq n then some n else look st k (n + 1)
def settleP (rs : List Rl) (last : Nat) : Nat → St → Bool × St
  | 0, st => (true, st)
  | f + 1, st => match look st (last + 1) 0 with
    | none => (true, st)
    | some n => if 64 < at0 st.aq n then (false, st) else settleP rs last f (liftP rs n st)
def wsum : List Pb → Nat → Int
  | [], _ => 0
  | b :: l, n => (if b.r = n then b.wt else 0) + wsum l n
theorem wsum_append (l k : List Pb) (n : Nat) : wsum (l ++ k) n = wsum l n + wsum k n := by
  induction l with
  | nil => simp [wsum]
  | cons b l ih => simp only [List.cons_append, wsum, ih]; omega
theorem wsum_set : ∀ (l : List Pb) (i n : Nat) (b : Pb) (w : Int), l[i]? = some b → wsum (l.set i ⟨b.r, b.us, w⟩) n = wsum l n + (if b.r = n then w - b.wt else 0)
  | [], i, n, b, w, h => by simp at h
  | c :: l, 0, n, b, w, h => by
    simp at h; subst h
    simp only [List.set_cons_zero, wsum]
    split <;> omega
  | c :: l, i + 1, n, b, w, h => by
    simp at h
    simp only [List.set_cons_succ, wsum, wsum_set l i n b w h]
    omega
theorem wsum_bound : ∀ (l : List Pb) (n : Nat), (∀ b ∈ l, 1 ≤ b.wt ∧ b.wt ≤ 64) → 0 ≤ wsum l n ∧ wsum l n ≤ 64 * l.length
  | [], n, _ => by simp [wsum]
  | b :: l, n, h => by
    have h1 := wsum_bound l n (fun x hx => h x (List.mem_cons_of_mem _ hx))
    have h2 := h b List.mem_cons_self
    simp only [wsum, List.length_cons]
    split <;> omega
/-- what stays so -/
structure OkSt (cs : List Int) (us : List (List (Int × Int))) (st : St) : Prop where
  n : cs.length ≤ 256
  wl : st.ws.length = cs.length
  al : st.aq.length = cs.length
  wb : ∀ i, i < cs.length → 1 ≤ at0 st.ws i ∧ at0 st.ws i ≤ 64
  pb : ∀ b ∈ st.bk, b.r < cs.length ∧ 1 ≤ b.wt ∧ b.wt ≤ 64
  pl : st.bk.length ≤ 4096
  cb : ∀ i, i < cs.length → -100 ≤ at0 cs i ∧ at0 cs i ≤ 100
  asum : ∀ i, i < cs.length → at0 st.aq i = at0 cs i + wsum st.bk i
  uss : st.bk.map Pb.us = us
theorem OkSt.ab {cs : List Int} {us : List (List (Int × Int))} {st : St} (h : OkSt cs us st) {i : Nat} (hi : i < cs.length) : -100 ≤ at0 st.aq i ∧ at0 st.aq i ≤ 300000 := by
  have h1 := h.cb i hi
  have h2 := wsum_bound st.bk i (fun b hb => ⟨(h.pb b hb).2.1, (h.pb b hb).2.2⟩)
  have h3 := h.asum i hi
  have h4 := h.pl
  omega
theorem usAt_eq {bk : List Pb} {us : List (List (Int × Int))} (h : bk.map Pb.us = us) (i : Nat) : usAt bk i = (us[i]?).getD [] := by
  subst h
  simp [usAt]
theorem leanL_eq {rs : List Rl} {bk bk' : List Pb} (h : bk.map Pb.us = bk'.map Pb.us) (n : Nat) : leanL rs bk n = leanL rs bk' n := by
  have hl : bk.length = bk'.length := by simpa using congrArg List.length h
  unfold leanL
  rw [hl]
  congr 1
  funext i
  rw [usAt_eq h, usAt_eq rfl]
theorem map_us_set {bk : List Pb} {i : Nat} {b : Pb} {w : Int} (h : bk[i]? = some b) : (bk.set i ⟨b.r, b.us, w⟩).map Pb.us = bk.map Pb.us := by
  rw [List.map_set]
  obtain ⟨hi, hb⟩ := List.getElem?_eq_some_iff.1 h
  refine List.ext_getElem (by simp) fun j h1 h2 => ?_
  rw [List.getElem_set]
  split
  · rename_i e; subst e; simp [hb]
  · rfl
theorem OkSt.bump {cs : List Int} {us : List (List (Int × Int))} {st : St} (h : OkSt cs us st) (w : Int) (i : Nat) (hw : 1 ≤ w) (hw2 : w ≤ 64) : OkSt cs us (bump w st i) := by
  unfold Go.Proofs.bump
  cases hb : st.bk[i]? with
  | none => exact h
  | some b =>
    simp only
    have hm : b ∈ st.bk := List.mem_of_getElem? hb
    have hpb := h.pb b hm
    by_cases hlt : b.wt < w
    · rw [if_pos hlt]
      have hbr : b.r < st.aq.length := by rw [h.al]; exact hpb.1
      refine ⟨h.n, h.wl, by simp [h.al], h.wb, fun c hc => ?_, by simpa using h.pl, h.cb, fun j hj => ?_, (map_us_set hb).trans h.uss⟩
      · rcases List.mem_or_eq_of_mem_set hc with h1 | h1
        · exact h.pb c h1
        · subst h1; exact ⟨hpb.1, hw, hw2⟩
      · rw [at0_set hbr, wsum_set _ _ _ _ _ hb]
        have h1 := h.asum j hj
        by_cases e : j = b.r
        · subst e; simp; omega
        · rw [if_neg e, if_neg (fun x => e x.symm)]; omega
    · rw [if_neg hlt]; exact h
theorem bump_ws (w : Int) (st : St) (i : Nat) : (bump w st i).ws = st.ws := by
  unfold bump
  split
  · rfl
  · split <;> rfl
theorem bumps_ws (w : Int) : ∀ (l : List Nat) (st : St), (l.foldl (bump w) st).ws = st.ws
  | [], st => rfl
  | i :: l, st => by rw [List.foldl_cons, bumps_ws w l, bump_ws]
theorem OkSt.bumps {cs : List Int} {us : List (List (Int × Int))} (w : Int) (hw : 1 ≤ w) (hw2 : w ≤ 64) : ∀ (l : List Nat) (st : St), OkSt cs us st → OkSt cs us (l.foldl (Go.Proofs.bump w) st)
  | [], st, h => h
  | i :: l, st, h => by rw [List.foldl_cons]; exact OkSt.bumps w hw hw2 l _ (h.bump w i hw hw2)
theorem OkSt.setw {cs : List Int} {us : List (List (Int × Int))} {st : St} (h : OkSt cs us st) {n : Nat} (hn : n < cs.length) {w : Int} (hw : 1 ≤ w) (hw2 : w ≤ 64) : OkSt cs us ⟨st.ws.set n w, st.aq, st.bk⟩ := by
  refine ⟨h.n, by simp [h.wl], h.al, fun i hi => ?_, h.pb, h.pl, h.cb, h.asum, h.uss⟩
  show 1 ≤ at0 (st.ws.set n w) i ∧ _
  rw [at0_set (by rw [h.wl]; exact hn)]
  split
  · exact ⟨hw, hw2⟩
  · exact h.wb i hi
/-- all weights together -/
def tws : List Int → Nat
  | [] => 0
  | x :: l => x.toNat + tws l
theorem tws_set : ∀ (l : List Int) (n : Nat) (x : Int), n < l.length → tws (l.set n x) + (at0 l n).toNat = tws l + x.toNat
  | [], n, x, h => by simp at h
  | y :: l, 0, x, h => by simp [tws, at0]; omega
  | y :: l, n + 1, x, h => by
    have := tws_set l n x (by simpa using h)
    simp [tws, at0] at this ⊢
    omega
theorem tws_bound : ∀ (l : List Int), (∀ i, i < l.length → at0 l i ≤ 64) → tws l ≤ 64 * l.length
  | [], _ => by simp [tws]
  | x :: l, h => by
    have h1 := tws_bound l (fun i hi => by have := h (i + 1) (by simpa using hi); simpa [at0] using this)
    have h2 := h 0 (by simp)
    simp [at0] at h2
    simp only [tws, List.length_cons]
    omega
theorem liftP_ws (rs : List Rl) (n : Nat) (st : St) : (liftP rs n st).ws = st.ws.set n (at0 st.aq n) := by
  unfold liftP
  rw [bumps_ws]
theorem OkSt.lift {cs : List Int} {us : List (List (Int × Int))} {st : St} (h : OkSt cs us st) (rs : List Rl) {n : Nat} (hn : n < cs.length) (h1 : at0 st.ws n < at0 st.aq n) (h2 : at0 st.aq n ≤ 64) : OkSt cs us (liftP rs n st) := by
  have hw := (h.wb n hn).1
  exact OkSt.bumps _ (by omega) h2 _ _ (h.setw hn (by omega) h2)
def grK (L W : List Int) (hi : Int) : Nat → Nat → Int → Int
  | 0, _, n => n
  | f + 1, k, n => if k < L.length ∧ bAt L k ≤ hi then grK L W hi f (k + 1) (if n < bAt W k then bAt W k else n) else n
def gr1 (L W : List Int) (n : Int) (x : Int × Int) : Int := grK L W x.2 L.length (plc L x.1) n
def grt (L W : List Int) (s : List (Int × Int)) : Int := s.foldl (gr1 L W) 0
theorem grt_succ (L W : List Int) (s : List (Int × Int)) {k : Nat} (h : k < s.length) : (s.take (k + 1)).foldl (gr1 L W) 0 = gr1 L W ((s.take k).foldl (gr1 L W) 0) (rg s k) := by
  rw [List.take_add_one, List.foldl_append, List.getElem?_eq_getElem h, rg_lt h]
  rfl
theorem ir_cell {w : World} {a : Option Addr} {n c : Nat} {l : List Int} (h : IR w (.slice a n c) l) {j : Nat} (hj : j < l.length) : ∃ g o, a = some ⟨g, o, none⟩ ∧ w.cell? ⟨g, o + j, none⟩ = some (.int .i64 (bAt l j)) := by
  obtain ⟨a', c', e, _, hr⟩ := h
  obtain ⟨g, o, ha, hd⟩ := hr.resolve_left (fun e => by rw [e] at hj; simp at hj)
  injection e with e1
  refine ⟨g, o, e1.trans ha, ?_⟩
  have := hd j hj
  rw [this]
  simp [bAt, hj]
set_option maxHeartbeats 4000000 in
theorem greatest_any (lv wv sv : Value) (L W : List Int) (s : List (Int × Int)) (w : World) (hL : IR w lv L) (hW : IR w wv W) (hl : W.length = L.length) (hS : Rs w sv s) (hn : L.length ≤ 4611686018427387903) (hs : s.length ≤ 4611686018427387903) :
    Calls Tryd.prog 72 #[.agg #[lv, wv], sv] w fun e w' => e = .returned (.int .i64 (grt L W s)) ∧ Grown w w' := by
  have HPl : Hid (∀ (V : World) (u : Int), Grown w V → Calls Tryd.prog 31 #[lv, .int .i64 u] V fun e w' => e = .returned (.int .i64 (plc L u)) ∧ Grown V w') := fun V u hg => (place_any lv L u V (hL.grown hg) hn).mono fun _ _ ⟨h1, h2⟩ => ⟨h1, by rw [h2]; exact Grown.refl _⟩
  have HL : Hid (∀ V, Grown w V → IR V lv L) := fun V hg => hL.grown hg
  have HW : Hid (∀ V, Grown w V → IR V wv W) := fun V hg => hW.grown hg
  have HS : Hid (∀ V, Grown w V → Rs V sv s) := fun V hg => hS.grown hg
  obtain ⟨la, ln, lc, rfl⟩ := hL.sl
  obtain ⟨wa, wn, wc, rfl⟩ := hW.sl
  obtain ⟨sa, sc, hsv, _, _⟩ := hS
  subst hsv
  have hln : ln = L.length := by obtain ⟨_, _, e, _⟩ := hL; injection e
  have hwn : wn = L.length := by obtain ⟨_, _, e, _⟩ := hW; injection e with _ e2; omega
  obtain ⟨N, hN⟩ : ∃ N, L.length = N := ⟨_, rfl⟩
  obtain ⟨m, hm⟩ : ∃ m, s.length = m := ⟨_, rfl⟩
  have HN : Hid (L.length = N ∧ W.length = N ∧ s.length = m) := ⟨hN, by omega, hm⟩
  rw [hN] at hln hwn hn
  obtain rfl := hln.symm
  obtain rfl := hwn.symm
  rw [hm] at hs HS ⊢
  have hNI : (N : Int) ≤ 4611686018427387903 := by omega
  have hmI : (m : Int) ≤ 4611686018427387903 := by omega
  obtain ⟨R, hR⟩ : ∃ R, grt L W s = R := ⟨_, rfl⟩
  have HR : Hid (grt L W s = R) := hR
  rw [hR]
  clear hR hL hW hN hm hl
  obtain ⟨W0, hW0⟩ : ∃ W0, W0 = w.alloc (.cells #[.slice la N lc, .slice wa N wc] 70) := ⟨_, rfl⟩
  have HG0 : Hid (Grown w W0) := by show Grown _ _; rw [hW0]; exact (Grown.refl _).alloc _
  have d0 : W0.cell? ⟨w.heap.size, 0, none⟩ = some (.slice la N lc) := by rw [hW0]; simp
  have d1 : W0.cell? ⟨w.heap.size, 1, none⟩ = some (.slice wa N wc) := by rw [hW0]; simp
  go_enter Tryd.func72, Tryd.ntmps72
  go_wp2
  rw [← hW0]
  clear hW0
  go_loopw [5, 6] (fun vn vi wr => ∃ (i : Nat) (x : Int), vi = .int .i64 i ∧ vn = .int .i64 x ∧ i ≤ m ∧ Hid (x = (s.take i).foldl (gr1 L W) 0) ∧ Grown W0 wr) (fun _ vi _ => m - (intOf vi).toNat)
  case atStart => exact ⟨0, 0, rfl, rfl, by omega, by show _ = _; simp, Grown.refl _⟩
  case round =>
    obtain ⟨i, x, rfl, rfl, hi, HX, hG⟩ := hrel
    have hi0 : (0 : Int) ≤ (i : Int) := by omega
    by_cases hlt : i < m
    · have hlt' : (i : Int) < (m : Int) := by omega
      have his : i < s.length := by rw [HN.out.2.2]; exact hlt
      have hGw : Grown w wr := HG0.out.trans hG
      obtain ⟨a', c', e', _, hrr⟩ := HS.out wr hGw
      obtain ⟨sg, so, ha', hrd⟩ := hrr.resolve_left (fun e => by rw [e] at his; simp at his)
      injection e' with e1 e2 e3
      clear e2 e3
      rw [ha'] at e1
      subst e1
      obtain ⟨q1, q2⟩ := hrd i his
      have HSX := grt_succ L W s his
      rw [← HX.out] at HSX
      obtain ⟨lo, hlo⟩ : ∃ lo, (rg s i).1 = lo := ⟨_, rfl⟩
      obtain ⟨hi', hhi⟩ : ∃ hi', (rg s i).2 = hi' := ⟨_, rfl⟩
      rw [hlo] at q1
      rw [hhi] at q2
      have HK : Hid (grK L W hi' N (plc L lo) x = (s.take (i + 1)).foldl (gr1 L W) 0) := by show _ = _; rw [HSX, gr1, hlo, hhi, HN.out.1]
      have c0 := hG.cellv d0
      have k0 := fun m os => ((Grown.refl wr).quiet m os).cellv c0
      have k1 := fun m os => ((Grown.refl wr).quiet m os).cellv q1
      have HC : Hid (∀ m os, Calls Tryd.prog 31 #[.slice la N lc, .int .i64 lo] (Go.Sort.grow (wr.drewN m) os) fun e w' => e = .returned (.int .i64 (plc L lo)) ∧ Grown (Go.Sort.grow (wr.drewN m) os) w') := fun m os => HPl.out _ lo (hGw.quiet m os)
      have HGW : Hid (∀ m os, Grown W0 (Go.Sort.grow (wr.drewN m) os)) := fun m os => hG.quiet m os
      have q2' := fun m os => ((Grown.refl wr).quiet m os).cellv q2
      obtain ⟨p, hp⟩ : ∃ p, plc L lo = p := ⟨_, rfl⟩
      rw [hp] at HK HC
      clear hrr hrd HSX hlo hhi hp HX hG ha'
      go_wp2
      refine wp_region_quiet_grown mixed (by kernel_rfl) ?_
      repeat (go_big_quiet_step ((go_at_call 31; exact grown_of (HC.out _ _))))
      refine wpQuiet_nil ?_
      intro _ hw'
      obtain ⟨⟨nq, osq⟩, hw''⟩ := hw'
      subst hw''
      obtain ⟨W2, hW2⟩ : ∃ W2, W2 = Go.Sort.grow (wr.drewN nq) osq := ⟨_, rfl⟩
      have HG2 : Hid (Grown W0 W2) := by rw [hW2]; exact HGW.out _ _
      have q22 : W2.cell? ⟨sg, so + i * 2 + 1, none⟩ = some (.int .i64 hi') := by rw [hW2]; exact q2' _ _
      rw [← hW2]
      clear hW2 k0 k1 q2' HC HGW c0 q1 q2
      go_wp2
      go_loopw [5, 7] (fun vn vk wx => ∃ (k f : Nat) (y : Int), vk = .int .i64 k ∧ vn = .int .i64 y ∧ Hid (grK L W hi' f k y = (s.take (i + 1)).foldl (gr1 L W) 0 ∧ N - k ≤ f) ∧ Grown W2 wx ∧ k ≤ N + p) (fun _ vk _ => N - (intOf vk).toNat)
      case atStart => exact ⟨p, N, x, rfl, rfl, ⟨HK.out, by omega⟩, Grown.refl _, by omega⟩
      case round =>
        obtain ⟨k, f, y, rfl, rfl, HF, hGx, hkp⟩ := hrel
        have hk0 : (0 : Int) ≤ (k : Int) := by omega
        have c0 := (HG2.out.trans hGx).cellv d0
        have c1 := (HG2.out.trans hGx).cellv d1
        have qh := hGx.cellv q22
        have hGwx : Grown w wr := HG0.out.trans (HG2.out.trans hGx)
        by_cases hkN : k < N
        · have hkN' : (k : Int) < (N : Int) := by omega
          obtain ⟨lg, lo', hla, cl⟩ := ir_cell (HL.out wr hGwx) (j := k) (by rw [HN.out.1]; exact hkN)
          obtain ⟨wg, wo, hwa, cw⟩ := ir_cell (HW.out wr hGwx) (j := k) (by rw [HN.out.2.1]; exact hkN)
          subst hla hwa
          obtain ⟨f', rfl⟩ : ∃ f', f = f' + 1 := ⟨f - 1, by have := HF.out.2; omega⟩
          have hg := HF.out.1
          rw [grK] at hg
          have HF2 : Hid (N - k ≤ f' + 1) := HF.out.2
          generalize bAt L k = bl at cl hg
          generalize bAt W k = bw at cw hg
          clear HF
          by_cases hle : bl ≤ hi'
          · rw [if_pos ⟨by rw [HN.out.1]; exact hkN, hle⟩] at hg
            by_cases hgt : y < bw
            · as_aux_lemma =>
                have HQ : Hid (grK L W hi' f' (k + 1) bw = (s.take (i + 1)).foldl (gr1 L W) 0 ∧ N - (k + 1) ≤ f') := by rw [if_pos hgt] at hg; exact ⟨hg, by have := HF2.out; omega⟩
                clear hg HF2
                go_wp2
                go_quiet (fail)
                go_wp2
                exact ⟨⟨k + 1, f', bw, by go_num, rfl, HQ, hGx.drewN _, by omega⟩, by simp [intOf]; omega⟩
            · as_aux_lemma =>
                have HQ : Hid (grK L W hi' f' (k + 1) y = (s.take (i + 1)).foldl (gr1 L W) 0 ∧ N - (k + 1) ≤ f') := by rw [if_neg hgt] at hg; exact ⟨hg, by have := HF2.out; omega⟩
                clear hg HF2
                go_wp2
                go_quiet (fail)
                go_wp2
                exact ⟨⟨k + 1, f', y, by go_num, rfl, HQ, hGx.drewN _, by omega⟩, by simp [intOf]; omega⟩
          · as_aux_lemma =>
              have HQ : Hid (y = (s.take (i + 1)).foldl (gr1 L W) 0) := by rw [if_neg (fun h => hle h.2)] at hg; exact hg
              have HGF : Hid (∀ q, Grown W0 (wr.drewN q)) := fun q => (HG2.out.trans hGx).drewN q
              clear hg HF2
              go_wp2
              go_quiet (fail)
              go_wp2
              exact ⟨⟨i + 1, y, by go_num, rfl, by omega, HQ, HGF.out _⟩, by simp [intOf]; omega⟩
        · as_aux_lemma =>
            have hge : ¬ (k : Int) < (N : Int) := by omega
            have HQ : Hid (y = (s.take (i + 1)).foldl (gr1 L W) 0) := by
              have hg := HF.out.1
              cases f with
              | zero => rw [grK] at hg; exact hg
              | succ f => rw [grK, if_neg (fun h => hkN (by rw [HN.out.1] at h; exact h.1))] at hg; exact hg
            have HGF : Hid (∀ q, Grown W0 (wr.drewN q)) := fun q => (HG2.out.trans hGx).drewN q
            clear HF
            go_wp2
            go_quiet (fail)
            go_wp2
            exact ⟨⟨i + 1, y, by go_num, rfl, by omega, HQ, HGF.out _⟩, by simp [intOf]; omega⟩
    · as_aux_lemma =>
        have hge : ¬ (i : Int) < (m : Int) := by omega
        have HQ : Hid (x = R) := by
          show x = R
          rw [HX.out, ← HR.out, List.take_of_length_le (by rw [HN.out.2.2]; omega)]
          rfl
        clear HX
        go_wp2
        go_ret
        exact ⟨by rw [HQ.out]; rfl, HG0.out.trans hG⟩
end Go.Proofs
