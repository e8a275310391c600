/-
  What is let by, put in behind tokens, changes no token but its place.
-/
import Derived.Test.YtknaoahokopplaaGreatDoorMgmb
import Derived.Test.YtknaoahokopplaaGreatDoorJbb
namespace Go.Proofs
open Go.RowKit Go.Shelf

set_option maxRecDepth 100000

/-- a text with L put in behind the tokens that c names, from the place p on; the next token has the number i -/
def ins (s L : List UInt8) (c : Nat → Bool) : Nat → Nat → List Tok → List UInt8
  | _, p, [] => s.drop p
  | i, p, t :: ts => (s.drop p).take ((t.a + t.l).toNat - p) ++ ((if c i then L else []) ++ ins s L c (i + 1) (t.a + t.l).toNat ts)
/-- all of it is let by, and it begins with a blank -/
def LetBy (L : List UInt8) : Prop := L[0]? = some 32 ∧ ∀ X, pastN false (L ++ X) = L.length + pastN false X
def SameT (x y : Tok) : Prop := x.k = y.k ∧ x.u = y.u ∧ x.t = y.t ∧ x.n = y.n
def bL (L : List UInt8) (b : Bool) : List UInt8 := if b then L else []
theorem past_bL {L : List UInt8} (hL : LetBy L) (b : Bool) (X : List UInt8) : pastN false (bL L b ++ X) = (bL L b).length + pastN false X := by
  cases b
  · simp [bL]
  · simpa [bL] using hL.2 X
/-- the first byte that is not let by is the same -/
theorem ins_peek {s : ByteArray} {p : Nat} {fresh : Bool} {toks : List Tok} {fa : Nat} {fe : Int} (h : Run s p fresh toks fa fe) (L : List UInt8) (c : Nat → Bool) (i : Nat) :
    pastN false (ins s.data.toList L c i p toks) = pastN false (s.data.toList.drop p) ∧ (ins s.data.toList L c i p toks)[pastN false (s.data.toList.drop p)]? = (s.data.toList.drop p)[pastN false (s.data.toList.drop p)]? ∧ (ins s.data.toList L c i p toks)[0]? = (s.data.toList.drop p)[0]? := by
  cases h with
  | fin h => exact ⟨rfl, rfl, rfl⟩
  | bad hq hlt hb he => exact ⟨rfl, rfl, rfl⟩
  | @step _ _ q k u l t n ts _ _ hq hlt hb h0 hl hr =>
    obtain ⟨D, hD⟩ : ∃ D, s.data.toList.drop p = D := ⟨_, rfl⟩
    obtain ⟨Y, hY⟩ : ∃ Y, ((if c i then L else []) ++ ins s.data.toList L c (i + 1) ((q : Int) + (l : Int)).toNat ts) = Y := ⟨_, rfl⟩
    have hlen : D.length = s.size - p := by rw [← hD, List.length_drop, Array.length_toList]; rfl
    have e0 : ((q : Int) + (l : Int)).toNat - p = q + l - p := by omega
    have hX : ins s.data.toList L c i p (⟨k, q, l, u, t, n⟩ :: ts) = D.take (q + l - p) ++ Y := by
      simp only [ins]
      rw [hD, hY, e0]
    rw [hX, hD]
    rw [hD] at hq
    have hy : (D.take (q + l - p)).length = q + l - p := by rw [List.length_take, hlen]; omega
    have hsp : D.take (q + l - p) ++ D.drop (q + l - p) = D := List.take_append_drop _ _
    have h1 : pastN false (D.take (q + l - p) ++ Y) = pastN false D := by
      have := past_in false (D.take (q + l - p)) (D.drop (q + l - p)) Y (by rw [hsp, hy]; omega)
      rw [hsp] at this
      exact this
    refine ⟨h1, ?_, ?_⟩
    · rw [List.getElem?_append_left (by rw [hy]; omega), List.getElem?_take, if_pos (by omega)]
    · rw [List.getElem?_append_left (by rw [hy]; omega), List.getElem?_take, if_pos (by omega)]
theorem drop_app {x : List UInt8} (B : List UInt8) : (x ++ B).drop x.length = B := by simp
/-- what Run knows of the next token -/
theorem Run.at0 {s : ByteArray} (hs : s.size ≤ maxLen) {p : Nat} {fresh : Bool} {toks : List Tok} {fa : Nat} (h : Run s p fresh toks fa 0) (hp : pastN false (s.data.toList.drop p) = 0) (hlt : p < s.size) :
    ∃ k l u t n ts, toks = ⟨k, p, (l : Nat), u, t, n⟩ :: ts ∧ TokS (s.data.toList.drop p) fresh k l u t.data.toList n ∧ p + l ≤ s.size ∧ Run s (p + l) (decide (k = 11)) ts fa 0 := by
  cases h with
  | fin h => omega
  | bad hq hlt hb he => exact absurd rfl he
  | @step _ _ q k u l t n ts _ _ hq hlt hb h0 hl hr =>
    obtain rfl : q = p := by omega
    have hz := ext_size s q
    have hS := hb.tokS (by omega) (by omega)
    rw [ext_drop] at hS
    exact ⟨k, l, u, t, n, ts, rfl, hS, hl, hr⟩
theorem let_first {L : List UInt8} (hL : LetBy L) {b : Bool} {X : List UInt8} {c : UInt8} (h : (bL L b ++ X)[0]? = some c) (hc : c ≠ 32) : b = false := by
  cases b
  · rfl
  · exfalso
    unfold bL at h
    rw [if_pos rfl] at h
    have h0 := hL.1
    cases L with
    | nil => simp at h0
    | cons a L => simp at h h0; exact hc (by rw [← h, ← h0])
/-- a letter within a line: it is the next token, and nothing was put in ahead of it -/
theorem ins_letter {s : ByteArray} (hs : s.size ≤ maxLen) {L : List UInt8} (hL : LetBy L) (c : Nat → Bool) {p : Nat} {toks : List Tok} {fa : Nat} (h : Run s p false toks fa 0) (i : Nat) (b : Bool) {d : UInt8} (hd : isLt d = true)
    (hX : (bL L b ++ ins s.data.toList L c i p toks)[0]? = some d) : (s.data.toList.drop p)[0]? = some d ∧ ∃ ts, Run s (p + 1) false ts fa 0 ∧ (bL L b ++ ins s.data.toList L c i p toks).drop 1 = bL L (c i) ++ ins s.data.toList L c (i + 1) (p + 1) ts := by
  have hne : d ≠ 32 := fun e => by rw [e] at hd; revert hd; decide
  obtain rfl := let_first hL hX hne
  rw [show bL L false = [] from rfl, List.nil_append] at hX ⊢
  have h0 := (ins_peek h L c i).2.2
  rw [hX] at h0
  have hlt : p < s.size := by
    have := h0.symm
    rw [List.getElem?_drop, Array.getElem?_toList] at this
    have := (Array.getElem?_eq_some_iff.1 this).1
    show p < s.data.size
    omega
  have hpz : pastN false (s.data.toList.drop p) = 0 := by
    have e := h0.symm
    cases hD : s.data.toList.drop p with
    | nil => rw [hD] at e; simp at e
    | cons a D =>
      rw [hD] at e
      simp at e
      subst e
      refine pastN_stop ?_ ?_ D
      · cases hw : isWs a
        · rfl
        · exfalso
          unfold isWs at hw
          unfold isLt at hd
          simp at hw hd
          omega
      · intro e
        unfold isLt at hd
        simp at hd
        omega
  obtain ⟨k, l, u, t, n, ts, rfl, hS, hl, hr⟩ := h.at0 hs hpz hlt
  obtain ⟨rfl, rfl⟩ := hS.letter h0.symm hd (fun e => by cases e)
  refine ⟨h0.symm, ts, hr, ?_⟩
  have e0 : ((p : Int) + ((1 : Nat) : Int)).toNat = p + 1 := by omega
  simp only [ins]
  rw [e0, show p + 1 - p = 1 by omega, drop_at hlt]
  rfl
theorem ends_lit (R : List UInt8) : endsB ⟨R.toArray⟩ = (Lib.hasPrefix R [116, 104, 101, 110] && decide (R[4 + pastN false (R.drop 4)]? = some 59)) := by
  unfold endsB
  simp
theorem pre4_iff (L : List UInt8) (a b c d : UInt8) : Lib.hasPrefix L [a, b, c, d] = true ↔ L.take 4 = [a, b, c, d] := by
  rw [← Lib.hasPrefix_of_take]
  simp only [Bool.and_eq_true, beq_iff_eq, decide_eq_true_eq]
  constructor
  · exact fun h => h.2
  · intro h
    refine ⟨?_, h⟩
    have := congrArg List.length h
    rw [List.length_take] at this
    simp at this ⊢
    omega
/-- behind the word then: a line's end is seen through what was put in -/
theorem ends_same {s : ByteArray} {L : List UInt8} (hL : LetBy L) (c : Nat → Bool) {q : Nat} {toks : List Tok} {fa : Nat} {fresh : Bool} (h : Run s (q + 4) fresh toks fa 0) (i : Nat) (b : Bool) {R' : List UInt8}
    (h4 : R'.take 4 = (s.data.toList.drop q).take 4) (hR : R'.drop 4 = bL L b ++ ins s.data.toList L c i (q + 4) toks) : endsB ⟨R'.toArray⟩ = endsB ⟨(s.data.toList.drop q).toArray⟩ := by
  rw [ends_lit, ends_lit]
  have e1 : Lib.hasPrefix R' [116, 104, 101, 110] = Lib.hasPrefix (s.data.toList.drop q) [116, 104, 101, 110] := by
    rw [Bool.eq_iff_iff, pre4_iff, pre4_iff, h4]
  have e2 : R'[4 + pastN false (R'.drop 4)]? = (s.data.toList.drop q)[4 + pastN false ((s.data.toList.drop q).drop 4)]? := by
    rw [← List.getElem?_drop, ← List.getElem?_drop, List.drop_drop, hR, past_bL hL, List.getElem?_append_right (by omega), Nat.add_sub_cancel_left]
    obtain ⟨k1, k2, _⟩ := ins_peek h L c i
    rw [k1, k2]
  rw [e1, e2]
theorem letter4 : isLt 104 = true ∧ isLt 101 = true ∧ isLt 110 = true ∧ isLt 116 = true := by decide
/-- of a fresh line's first token: whether it is the word then stays so -/
theorem ins_ends {s : ByteArray} (hs : s.size ≤ maxLen) {L : List UInt8} (hL : LetBy L) (c : Nat → Bool) {q l : Nat} {k u : Int} {t : List UInt8} {n : Int} {toks : List Tok} {fa : Nat} (hS : TokS (s.data.toList.drop q) true k l u t n) (hl : q + l ≤ s.size) (h : Run s (q + l) (decide (k = 11)) toks fa 0) (i : Nat) :
    endsB ⟨((s.data.toList.drop q).take l ++ (bL L (c i) ++ ins s.data.toList L c (i + 1) (q + l) toks)).toArray⟩ = endsB ⟨(s.data.toList.drop q).toArray⟩ := by
  have hlen : (s.data.toList.drop q).length = s.size - q := by rw [List.length_drop, Array.length_toList]; rfl
  cases hE : endsB ⟨(s.data.toList.drop q).toArray⟩
  · cases hE' : endsB ⟨((s.data.toList.drop q).take l ++ (bL L (c i) ++ ins s.data.toList L c (i + 1) (q + l) toks)).toArray⟩
    · rfl
    · exfalso
      obtain ⟨_, _, _, ht⟩ := ends_then hE'
      simp only at ht
      have hl0 : 0 < l := by
        have := (TokS.tells (r := s.extract q s.size) (by rw [ext_size]; omega) (by rw [ext_drop]; exact hS)).2.1
        exact this
      have g : ∀ j a, j < 4 → [116, 104, 101, 110][j]? = some a → ((s.data.toList.drop q).take l ++ (bL L (c i) ++ ins s.data.toList L c (i + 1) (q + l) toks))[j]? = some a := fun j a hj ha => by
        rw [← ht, List.getElem?_take, if_pos hj] at ha; exact ha
      have htl : ((s.data.toList.drop q).take l).length = l := by rw [List.length_take, hlen]; omega
      have h0 := g 0 116 (by omega) rfl
      rw [List.getElem?_append_left (by omega), List.getElem?_take, if_pos hl0] at h0
      obtain ⟨rfl, rfl⟩ := hS.letter h0 letter4.2.2.2 (fun _ => hE)
      have ht1 : ∀ j, 1 ≤ j → ((s.data.toList.drop q).take 1 ++ (bL L (c i) ++ ins s.data.toList L c (i + 1) (q + 1) toks))[j]? = (bL L (c i) ++ ins s.data.toList L c (i + 1) (q + 1) toks)[j - 1]? := fun j hj => by
        rw [List.getElem?_append_right (by omega), htl]
      have g1 := g 1 104 (by omega) rfl
      have g2 := g 2 101 (by omega) rfl
      have g3 := g 3 110 (by omega) rfl
      rw [ht1 _ (by omega)] at g1 g2 g3
      obtain ⟨d1, t1, r1, e1⟩ := ins_letter hs hL c h (i + 1) (c i) letter4.1 g1
      have g2' : (bL L (c (i + 1)) ++ ins s.data.toList L c (i + 1 + 1) (q + 1 + 1) t1)[0]? = some 101 := by rw [← e1, List.getElem?_drop]; exact g2
      obtain ⟨d2, t2, r2, e2⟩ := ins_letter hs hL c r1 (i + 1 + 1) (c (i + 1)) letter4.2.1 g2'
      have g3' : (bL L (c (i + 1 + 1)) ++ ins s.data.toList L c (i + 1 + 1 + 1) (q + 1 + 1 + 1) t2)[0]? = some 110 := by
        rw [← e2, ← e1, List.getElem?_drop, List.getElem?_drop]; exact g3
      obtain ⟨d3, t3, r3, e3⟩ := ins_letter hs hL c r2 (i + 1 + 1 + 1) (c (i + 1 + 1)) letter4.2.2.1 g3'
      have hR : ((s.data.toList.drop q).take 1 ++ (bL L (c i) ++ ins s.data.toList L c (i + 1) (q + 1) toks)).drop 4 = bL L (c (i + 1 + 1 + 1)) ++ ins s.data.toList L c (i + 1 + 1 + 1 + 1) (q + 4) t3 := by
        rw [← e3, ← e2, ← e1, List.drop_drop, List.drop_drop, List.drop_append, htl]
        simp [List.drop_take]
      have h4 : ((s.data.toList.drop q).take 1 ++ (bL L (c i) ++ ins s.data.toList L c (i + 1) (q + 1) toks)).take 4 = (s.data.toList.drop q).take 4 := by
        rw [ht]
        rw [List.getElem?_drop] at h0 d1 d2 d3
        apply List.ext_getElem?
        intro j
        rw [List.getElem?_take, List.getElem?_drop]
        match j with
        | 0 => simpa using h0.symm
        | 1 => simpa using d1.symm
        | 2 => simpa using d2.symm
        | 3 => simpa using d3.symm
        | j + 4 => rw [if_neg (by omega)]; rfl
      have := ends_same hL c r3 (i + 1 + 1 + 1 + 1) (c (i + 1 + 1 + 1)) h4 hR
      rw [hE, hE'] at this
      cases this
  · -- the word then
    rw [← hE]
    have hs0 : TokS (s.data.toList.drop q) true 2 4 0 [116, 104, 101, 110] 0 := .thn rfl hE
    have hz : (s.extract q s.size).size = s.size - q := ext_size s q
    have t1 := (TokS.tells (r := s.extract q s.size) (by omega) (by rw [ext_drop]; exact hS)).1
    have t2 := (TokS.tells (r := s.extract q s.size) (by omega) (by rw [ext_drop]; exact hs0)).1
    obtain ⟨-, -, e3, -⟩ := t1.one t2
    obtain rfl : l = 4 := by omega
    have htl : ((s.data.toList.drop q).take 4).length = 4 := by rw [List.length_take, hlen]; omega
    refine ends_same hL c h (i + 1) (c i) ?_ ?_
    · rw [List.take_append, htl]; simp [List.take_take]
    · rw [List.drop_append, htl]; simp
theorem ins_run (s out : ByteArray) (hs : s.size ≤ maxLen) (ho : out.size ≤ maxLen) {L : List UInt8} (hL : LetBy L) (c : Nat → Bool) {p : Nat} {fresh : Bool} {toks : List Tok} {fa : Nat} {fe : Int} (h : Run s p fresh toks fa fe) :
    fe = 0 → ∀ (i p' : Nat) (b : Bool), p ≤ s.size → p' ≤ out.size → out.data.toList.drop p' = bL L b ++ ins s.data.toList L c i p toks → ∃ toks', Run out p' fresh toks' 0 0 ∧ All2 SameT toks toks' := by
  induction h with
  | @fin p fresh h =>
    intro _ i p' b hp hp' hX
    refine ⟨[], .fin ?_, trivial⟩
    have hlo : (out.data.toList.drop p').length = out.size - p' := by rw [List.length_drop, Array.length_toList]; rfl
    have hls : (s.data.toList.drop p).length = s.size - p := by rw [List.length_drop, Array.length_toList]; rfl
    simp only [ins] at hX
    rw [hX, List.length_append] at hlo
    rw [hX, past_bL hL]
    omega
  | bad hq hlt hb he => exact fun e => absurd e he
  | @step p fresh q k u l t n ts fa fe hq hlt hb h0 hl hr ih =>
    intro hfe i p' b hp hp' hX
    subst hfe
    have hlo : (out.data.toList.drop p').length = out.size - p' := by rw [List.length_drop, Array.length_toList]; rfl
    have hls : (s.data.toList.drop p).length = s.size - p := by rw [List.length_drop, Array.length_toList]; rfl
    have hpk := ins_peek (Run.step hq hlt hb h0 hl hr) L c i
    have e0 : ((q : Int) + (l : Int)).toNat = q + l := by omega
    have hins : ins s.data.toList L c i p (⟨k, q, l, u, t, n⟩ :: ts) = (s.data.toList.drop p).take (q + l - p) ++ (bL L (c i) ++ ins s.data.toList L c (i + 1) (q + l) ts) := by
      simp only [ins, e0, bL]
    rw [hins] at hX hpk
    have hsp : (s.data.toList.drop p).take (q + l - p) = (s.data.toList.drop p).take (q - p) ++ (s.data.toList.drop q).take l := by
      rw [show q + l - p = (q - p) + l by omega, List.take_add, List.drop_drop, show p + (q - p) = q by omega]
    have hg : ((s.data.toList.drop p).take (q - p)).length = q - p := by rw [List.length_take, hls]; omega
    have hz : (s.extract q s.size).size = s.size - q := ext_size s q
    have hS := hb.tokS (by omega) (by omega)
    rw [ext_drop] at hS
    have hlq : (s.data.toList.drop q).length = s.size - q := by rw [List.length_drop, Array.length_toList]; rfl
    have hown : ((s.data.toList.drop q).take l).length = l := by rw [List.length_take, hlq]; omega
    obtain ⟨q', hq'⟩ : ∃ q', q' = p' + ((bL L b).length + (q - p)) := ⟨_, rfl⟩
    have hpast : pastN false (out.data.toList.drop p') = (bL L b).length + (q - p) := by
      rw [hX, past_bL hL, hpk.1]; omega
    have hD : out.data.toList.drop q' = (s.data.toList.drop q).take l ++ (bL L (c i) ++ ins s.data.toList L c (i + 1) (q + l) ts) := by
      rw [hq', ← List.drop_drop, hX, hsp, List.append_assoc, ← List.drop_drop, drop_app]
      have := drop_app (x := (s.data.toList.drop p).take (q - p)) ((s.data.toList.drop q).take l ++ (bL L (c i) ++ ins s.data.toList L c (i + 1) (q + l) ts))
      rw [hg] at this
      exact this
    have hq'le : q' ≤ out.size := by
      have := pastN_le false (out.data.toList.drop p')
      omega
    have hlq' : (out.data.toList.drop q').length = out.size - q' := by rw [List.length_drop, Array.length_toList]; rfl
    have hlen' : l ≤ out.size - q' := by
      rw [← hlq', hD, List.length_append, hown]; omega
    have hzo : (out.extract q' out.size).size = out.size - q' := ext_size out q'
    have hsplit : (s.data.toList.drop q).take l ++ s.data.toList.drop (q + l) = s.data.toList.drop q := by
      rw [← List.drop_drop]; exact List.take_append_drop _ _
    have hS' : TokS (out.data.toList.drop q') fresh k l u t.data.toList n := by
      rw [hD]
      rw [← hsplit] at hS
      refine hS.move hown ?_ ?_
      · cases hc : c i
        · exact .inr (ins_peek hr L c (i + 1)).2.2
        · refine .inl ?_
          have := hL.1
          cases L with
          | nil => simp at this
          | cons a L => simp at this; simp [bL, this]
      · intro hf
        subst hf
        rw [hsplit] at hS ⊢
        exact ins_ends hs hL c hS hl hr i
    obtain ⟨toks', hR', hA⟩ := ih rfl (i + 1) (q' + l) (c i) (by omega) (by omega) (by
      rw [← List.drop_drop, hD]
      have := drop_app (x := (s.data.toList.drop q).take l) (bL L (c i) ++ ins s.data.toList L c (i + 1) (q + l) ts)
      rw [hown] at this
      exact this)
    have hT := (TokS.tells (r := out.extract q' out.size) (by omega) (by rw [ext_drop]; exact hS')).1
    have et : (⟨t.data.toList.toArray⟩ : ByteArray) = t := back_arr t
    rw [et] at hT
    exact ⟨⟨k, q', l, u, t, n⟩ :: toks', .step (by rw [hpast]; exact hq') (by omega) hT h0 (by omega) hR', ⟨rfl, rfl, rfl, rfl⟩, hA⟩
end Go.Proofs
