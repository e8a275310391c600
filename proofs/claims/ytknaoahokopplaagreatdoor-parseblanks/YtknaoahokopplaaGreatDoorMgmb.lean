/-
  Several texts in one (Tdb Jab).
-/
import Derived.Test.YtknaoahokopplaaGreatDoorTcb
import Derived.Test.YtknaoahokopplaaGreatDoorMgbb
namespace Go.Proofs
open Go.RowKit Go.Shelf

set_option maxRecDepth 100000

/-- what follows begins with a blank, or as it did -/
def Hd (A B : List UInt8) : Prop := B[0]? = some 32 ∨ B[0]? = A[0]?
theorem span_hd (f : UInt8 → Bool) (hf : f 32 = false) : ∀ (x A B : List UInt8), spanN f (x ++ A) = x.length → Hd A B → spanN f (x ++ B) = x.length
  | [], A, B, h, hd => by
    cases B with
    | nil => rfl
    | cons b B =>
      rcases hd with h1 | h1
      · simp at h1; subst h1; simp [spanN_cons, hf]
      · cases A with
        | nil => simp at h1
        | cons a A =>
          simp at h1
          subst h1
          simp [spanN_cons] at h ⊢
          cases hc : f b
          · rfl
          · rw [hc] at h; simp at h
  | c :: x, A, B, h, hd => by
    simp only [List.cons_append, spanN_cons, List.length_cons] at h ⊢
    split at h
    · rename_i hc
      rw [if_pos hc, span_hd f hf x A B (by omega) hd]
    · omega
theorem span_in (f : UInt8 → Bool) : ∀ (x A B : List UInt8) (n : Nat), spanN f (x ++ A) = n → n < x.length → spanN f (x ++ B) = n
  | [], _, _, _, _, h2 => by simp at h2
  | c :: x, A, B, n, h, h2 => by
    simp only [List.cons_append, spanN_cons] at h ⊢
    split at h
    · rename_i hc
      rw [if_pos hc]
      have := span_in f x A B (n - 1) (by omega) (by simp at h2; omega)
      omega
    · rename_i hc
      rw [if_neg hc]
      exact h
theorem past_in : ∀ (b : Bool) (y A B : List UInt8), pastN b (y ++ A) < y.length → pastN b (y ++ B) = pastN b (y ++ A)
  | b, [], _, _, h => by simp at h
  | false, c :: y, A, B, h => by
    simp only [List.cons_append, pastN, List.length_cons] at h ⊢
    split
    · rename_i h1
      rw [if_pos h1] at h
      rw [past_in false y A B (by omega)]
    · rename_i h1
      rw [if_neg h1] at h
      split
      · rename_i h2
        rw [if_pos h2] at h
        rw [past_in true y A B (by omega)]
      · rfl
  | true, c :: y, A, B, h => by
    simp only [List.cons_append, pastN, List.length_cons] at h ⊢
    rw [past_in _ y A B (by omega)]
theorem idx_left {x A B : List UInt8} {i : Nat} (h : i < x.length) : (x ++ B)[i]? = (x ++ A)[i]? := by
  rw [List.getElem?_append_left h, List.getElem?_append_left h]
theorem drop_left {x : List UInt8} (B : List UInt8) {i : Nat} (h : i ≤ x.length) : (x ++ B).drop i = x.drop i ++ B := List.drop_append_of_le_length h
theorem take_left {x : List UInt8} (B : List UInt8) {i : Nat} (h : i ≤ x.length) : (x ++ B).take i = x.take i := List.take_append_of_le_length h
/-- a rune by itself -/
theorem unit_move {x A B : List UInt8} (hl : x.length = uw ⟨(x ++ A).toArray⟩ 0) (hu : uAt ⟨(x ++ A).toArray⟩ 0 ≤ 1114111) :
    uw ⟨(x ++ B).toArray⟩ 0 = x.length ∧ uAt ⟨(x ++ B).toArray⟩ 0 = uAt ⟨(x ++ A).toArray⟩ 0 := by
  have hpos := uw_pos ⟨(x ++ A).toArray⟩ 0
  have hg : ∀ k, k < x.length → (⟨(x ++ B).toArray⟩ : ByteArray).get! (0 + k) = (⟨(x ++ A).toArray⟩ : ByteArray).get! (0 + k) := fun k hk => by
    rw [get_lit, get_lit, List.getD_eq_getElem?_getD, List.getD_eq_getElem?_getD, Nat.zero_add, idx_left hk]
  by_cases h1 : uw ⟨(x ++ A).toArray⟩ 0 = 1
  · rcases one_wide _ 0 h1 with ⟨hb, hd⟩ | ⟨hb, hd⟩
    · have e := hg 0 (by omega)
      rw [Nat.zero_add] at e
      have hd' := dec1 ⟨(x ++ B).toArray⟩ 0 (by rw [e]; exact hb)
      rw [e] at hd'
      refine ⟨?_, ?_⟩
      · rw [hl, h1]
        unfold uw
        rw [hd']
      · rw [uAt_of_rune hd (by omega), uAt_of_rune hd' (by omega)]
    · have := uAt_stray ((stray_iff _ 0).2 hd)
      omega
  · obtain ⟨c, hF⟩ := form_of ⟨(x ++ A).toArray⟩ 0 (by omega)
    have hz : 0 + uw ⟨(x ++ A).toArray⟩ 0 ≤ (⟨(x ++ B).toArray⟩ : ByteArray).size := by
      rw [size_lit, List.length_append]; omega
    have hF2 : Form ⟨(x ++ B).toArray⟩ 0 c (uw ⟨(x ++ A).toArray⟩ 0) := hF.move hz (fun k hk => by rw [hg k (by omega)])
    have hw := hF2.uw
    refine ⟨by rw [hw, hl], ?_⟩
    have ns : ∀ s : ByteArray, Utf8.decode s 0 = (c, uw ⟨(x ++ A).toArray⟩ 0) → uAt s 0 = c := fun s hs => by
      have : strayAt s 0 = false := by
        cases hc : strayAt s 0
        · rfl
        · have := (stray_iff s 0).1 hc
          rw [hs] at this
          simp at this
          omega
      rw [uAt_rune this, hs]
    rw [ns _ hF.2.1, ns _ hF2.2.1]
theorem TokS.move {x A B : List UInt8} {fresh : Bool} {k : Int} {l : Nat} {u : Int} {t : List UInt8} {n : Int} (h : TokS (x ++ A) fresh k l u t n) (hl : x.length = l) (hd : Hd A B) (hE : fresh = true → endsB ⟨(x ++ B).toArray⟩ = endsB ⟨(x ++ A).toArray⟩) : TokS (x ++ B) fresh k l u t n := by
  cases h with
  | var m h0 hm hm0 h32 =>
    have e : (x ++ A).take (1 + m) = (x ++ B).take (1 + m) := by rw [take_left A (by omega), take_left B (by omega)]
    rw [e]
    refine .var m ((idx_left (by omega)).trans h0) ?_ hm0 h32
    rw [drop_left _ (by omega)] at hm ⊢
    have hx : (x.drop 1).length = m := by rw [List.length_drop]; omega
    rw [← hx]
    exact span_hd isNm (by decide) _ _ _ (by rw [hm, hx]) hd
  | cls n h0 h1 hn hn0 h32 h2 h3 =>
    have e : ((x ++ A).drop 1).take (n + 2) = ((x ++ B).drop 1).take (n + 2) := by
      rw [drop_left A (by omega), drop_left B (by omega), take_left A (by rw [List.length_drop]; omega), take_left B (by rw [List.length_drop]; omega)]
    rw [e]
    refine .cls n ((idx_left (by omega)).trans h0) ((idx_left (by omega)).trans h1) ?_ hn0 h32 ((idx_left (by omega)).trans h2) ((idx_left (by omega)).trans h3)
    rw [drop_left _ (by omega)] at hn ⊢
    exact span_in isNm _ _ _ _ hn (by rw [List.length_drop]; omega)
  | sgn i c h0 hi hp hd2 =>
    refine .sgn i c ((idx_left (by omega)).trans h0) hi (fun hc => ?_) (fun hc => ?_)
    · have h1 := hp hc
      rw [List.getElem?_append_right (by omega), hl] at h1 ⊢
      rcases hd with k | k
      · rw [show 1 - 1 = 0 from rfl, k]; decide
      · rw [show 1 - 1 = 0 from rfl, k]; exact h1
    · have h1 := hd2 hc
      rw [drop_left _ (by omega)] at h1 ⊢
      have hx : (x.drop 1).length = 0 := by rw [List.length_drop]; omega
      rw [← hx]
      exact span_hd isNm (by decide) _ _ _ (by rw [h1, hx]) hd
  | cpy m v h0 hm hn0 h9 hc hv =>
    have hx : (x.drop 1).length = m := by rw [List.length_drop]; omega
    have e : ((x ++ A).drop 1).take m = ((x ++ B).drop 1).take m := by
      rw [drop_left A (by omega), drop_left B (by omega), take_left A (by omega), take_left B (by omega)]
    refine .cpy m _ ((idx_left (by omega)).trans h0) ?_ hn0 h9 ?_ (by rw [← e]; exact hv)
    · rw [drop_left _ (by omega)] at hm ⊢
      rw [← hx]
      exact span_hd isDg (by decide) _ _ _ (by rw [hm, hx]) hd
    · rw [idx_left (A := A) (by omega)]
      exact hc
  | esx a b h0 h1 h2 ha hn0 h6 hc hb hh hw =>
    have e : ((x ++ A).drop 3).take a = ((x ++ B).drop 3).take a := by
      rw [drop_left A (by omega), drop_left B (by omega), take_left A (by rw [List.length_drop]; omega), take_left B (by rw [List.length_drop]; omega)]
    refine .esx a _ ((idx_left (by omega)).trans h0) ((idx_left (by omega)).trans h1) ((idx_left (by omega)).trans h2) ?_ hn0 h6 ((idx_left (by omega)).trans hc) (by rw [← e]; exact hb) hh hw
    rw [drop_left _ (by omega)] at ha ⊢
    exact span_in isHx _ _ _ _ ha (by rw [List.length_drop]; omega)
  | esb a b h0 h1 h2 ha hn0 h6 hc hb hlo hh =>
    have e : ((x ++ A).drop 3).take a = ((x ++ B).drop 3).take a := by
      rw [drop_left A (by omega), drop_left B (by omega), take_left A (by rw [List.length_drop]; omega), take_left B (by rw [List.length_drop]; omega)]
    refine .esb a _ ((idx_left (by omega)).trans h0) ((idx_left (by omega)).trans h1) ((idx_left (by omega)).trans h2) ?_ hn0 h6 ((idx_left (by omega)).trans hc) (by rw [← e]; exact hb) hlo hh
    rw [drop_left _ (by omega)] at ha ⊢
    exact span_in isHx _ _ _ _ ha (by rw [List.length_drop]; omega)
  | esp c h0 h1 hx hb h32 h126 hlt hdg => exact .esp c ((idx_left (by omega)).trans h0) ((idx_left (by omega)).trans h1) hx hb h32 h126 hlt hdg
  | thn hf he => exact .thn hf ((hE hf).trans he)
  | bar c h0 h36 hi h64 h92 hf h1 h2 h3 hr =>
    obtain ⟨e1, e2⟩ := unit_move (B := B) hl h3
    have hx : 0 < x.length := by have := uw_pos ⟨(x ++ A).toArray⟩ 0; omega
    rw [← hl, ← e1, ← e2]
    rw [← e2] at h1 h2 h3 hr
    exact .bar c ((idx_left hx).trans h0) h36 hi h64 h92 (fun k => (hE k).trans (hf k)) h1 h2 h3 hr
/-- a letter is a token of one byte, but for the word then -/
theorem TokS.letter {L : List UInt8} {fresh : Bool} {k : Int} {l : Nat} {u : Int} {t : List UInt8} {n : Int} (h : TokS L fresh k l u t n) {c : UInt8} (hc : L[0]? = some c) (hx : isLt c = true) (hf : fresh = true → endsB ⟨L.toArray⟩ = false) : l = 1 ∧ k = 1 := by
  have ne : ∀ d : UInt8, L[0]? = some d → isLt d = true := fun d hd => by rw [hc] at hd; rw [← Option.some.inj hd]; exact hx
  cases h with
  | var m h0 => exact absurd (ne _ h0) (by decide)
  | cls n h0 => exact absurd (ne _ h0) (by decide)
  | sgn i d h0 hi =>
    exfalso
    have := ne _ h0
    revert hi this
    clear ne h0
    have : ∀ d : Fin 256, isLt (UInt8.ofNat d.val) = true → Lib.indexByte sgnL (UInt8.ofNat d.val) = -1 := by decide +kernel
    intro hi hd
    have h2 := this ⟨d.toNat, d.toNat_lt⟩
    rw [show UInt8.ofNat d.toNat = d from UInt8.toNat_inj.1 (by rw [UInt8.toNat_ofNat']; have := d.toNat_lt; omega)] at h2
    have := h2 hd
    omega
  | cpy n v h0 => exact absurd (ne _ h0) (by decide)
  | esx n m h0 => exact absurd (ne _ h0) (by decide)
  | esb n m h0 => exact absurd (ne _ h0) (by decide)
  | esp c h0 => exact absurd (ne _ h0) (by decide)
  | thn h1 h2 => rw [hf h1] at h2; cases h2
  | bar d h0 h36 hi h64 h92 hf h1 h2 h3 hr =>
    refine ⟨?_, rfl⟩
    have hd := ne _ h0
    have hl : d.toNat < 128 := by
      unfold isLt at hd
      simp at hd
      omega
    have hz : 0 < L.length := by
      cases L with
      | nil => simp at h0
      | cons a L => simp
    have := dec1 ⟨L.toArray⟩ 0 (by rw [get_lit, List.getD_eq_getElem?_getD, h0]; exact hl)
    unfold uw
    rw [this]
end Go.Proofs
namespace Go.Proofs
open Go.RowKit Go.Shelf

/-- an item -/
inductive It where
  | mk (k u : Int) (t : ByteArray) (ps : List It) (lo hi : Int) (nt : Bool) (key : Int)
/-- a line -/
structure Ln where
  (k a : Int) (t : ByteArray) (bg en : Bool) (ante key post res : List It) (cur : Int)
/-- what is read, and what is left; or a fault -/
inductive Res (α : Type) where
  | ok (x : α) (r : List Tok)
  | no (a c : Int)
def Res.bind {α β : Type} (x : Res α) (f : α → List Tok → Res β) : Res β :=
  match x with
  | .ok y r => f y r
  | .no a c => .no a c
def byteAt (t : ByteArray) (i : Nat) : Int := ((t.data.getD i 0).toNat : Int)
def which (t : Tok) : Int := if t.k = 2 then byteAt t.t 0 else t.k
def nxt : List Tok → Int
  | [] => 0
  | t :: _ => which t
def atOf (e : Int) : List Tok → Int
  | [] => e
  | t :: _ => t.a
def begun (n : Int) : Nat := if n = 1 then 1 else if n = 36 then 2 else if n = 58 then 3 else if n = 17 then 4 else if n = 18 then 5 else if n = 3 then 7 else 0
def bareN (t : Tok) : ByteArray := if which t = 58 then t.t.extract 1 (t.t.size - 1) else t.t.extract 1 t.t.size
def passT (n : Int) (ts : List Tok) : Bool × List Tok := if nxt ts = n then (true, ts.tail) else (false, ts)
def wantT (e n : Int) (ts : List Tok) : Res Unit := if nxt ts = n then .ok () ts.tail else .no (atOf e ts) 50
def isRng (lo hi : Int) : Bool := decide (lo ≤ hi) && (decide (1114111 < lo) == decide (1114111 < hi))
def upToT (e : Int) (f : Tok) : List Tok → Res It
  | [] => .no e 50
  | t :: r => if which t = 1 then (if isRng f.u t.u then .ok (.mk 6 0 ⟨#[]⟩ [] f.u t.u false 0) r else .no f.a 51) else .no t.a 50
/-- the next items, as many as may stand there: d more -/
def rowT (e : Int) (may : Nat) (item : List Tok → Res It) : Nat → List Tok → Res (List It)
  | 0, ts => if may.testBit (begun (nxt ts)) then .no (atOf e ts) 52 else .ok [] ts
  | d + 1, ts => if may.testBit (begun (nxt ts)) then (item ts).bind fun x r => (rowT e may item d r).bind fun xs r2 => .ok (x :: xs) r2 else .ok [] ts
/-- an item's rest, behind its first token -/
def restT (e : Int) (may : Nat) (sets : List Tok → Res (List It)) (pairs : List Tok → Res It) (t : Tok) (r : List Tok) : Res It :=
  match begun (which t) with
  | 1 => if may.testBit 6 && (nxt r == 20) then upToT e t r.tail else .ok (.mk 1 t.u ⟨#[]⟩ [] 0 0 false 0) r
  | 2 => .ok (.mk 2 0 (bareN t) [] 0 0 false 0) r
  | 3 => .ok (.mk 3 0 (bareN t) [] 0 0 false 0) r
  | 4 => .ok (.mk 4 0 ⟨#[]⟩ [] 0 0 false 0) r
  | 5 => (sets (passT 15 r).2).bind fun ps r2 => (wantT e 19 r2).bind fun _ r3 => .ok (.mk 5 0 ⟨#[]⟩ ps 0 0 (passT 15 r).1 0) r3
  | _ => if nxt r = 22 then (pairs r.tail).bind fun x r2 => .ok (.mk 8 0 ⟨#[]⟩ [x] 0 0 false t.n) r2 else .ok (.mk 7 0 ⟨#[]⟩ [] 0 0 false t.n) r
def itemT (e : Int) (may : Nat) (sets : List Tok → Res (List It)) (pairs : List Tok → Res It) : List Tok → Res It
  | [] => .no e 50
  | t :: r => if may.testBit (begun (which t)) then restT e may sets pairs t r else .no t.a 50
def noRow : List Tok → Res (List It) := fun _ => .no 0 0
def noItem : List Tok → Res It := fun _ => .no 0 0
def partT (e : Int) : List Tok → Res It := itemT e 78 noRow noItem
def partsT (e : Int) : List Tok → Res (List It) := rowT e 78 (partT e) 512
/-- an item of a rule's sides (62), of a pair (60) -/
def sideT (e : Int) (may : Nat) : List Tok → Res It := itemT e may (partsT e) noItem
def pieceT (e : Int) : List Tok → Res It := itemT e 386 noRow (sideT e 60)
def sidesT (e : Int) : List Tok → Res (List It) := rowT e 62 (sideT e 62) 512
def resultT (e : Int) (d : Nat) : List Tok → Res (List It) := rowT e 386 (pieceT e) d
def postT (e : Int) (ts : List Tok) : Res (List It × Bool) :=
  if nxt ts = 13 then (sidesT e ts.tail).bind fun po r => .ok (po, (passT 16 r).1) (passT 16 r).2 else .ok ([], false) ts
def tailT (e : Int) (ts : List Tok) : Res (List It × Int) :=
  (resultT e 512 ts).bind fun x r => if nxt r = 14 then (resultT e (512 - x.length) r.tail).bind fun y r2 => .ok (x ++ y, (x.length : Int)) r2 else .ok (x, (x.length : Int)) r
def anteT (e : Int) (bg : Bool) (x : List It) (ts : List Tok) : Res (List It × List It) :=
  if bg || (nxt ts == 12) then (wantT e 12 ts).bind fun _ r => (sidesT e r).bind fun y r2 => .ok (x, y) r2 else .ok ([], x) ts
def ruleT (e : Int) (ts : List Tok) : Res Ln :=
  (sidesT e (passT 15 ts).2).bind fun x r1 => (anteT e (passT 15 ts).1 x r1).bind fun ak r2 => (postT e r2).bind fun pe r3 => (wantT e 10 r3).bind fun _ r4 => (tailT e r4).bind fun rc r5 =>
    .ok ⟨2, 0, ⟨#[]⟩, (passT 15 ts).1, pe.2, ak.1, ak.2, pe.1, rc.1, rc.2⟩ r5
def defT (e : Int) (t : Tok) (ts : List Tok) : Res Ln :=
  (wantT e 21 ts).bind fun _ r => (sideT e 62 r).bind fun x r2 => .ok ⟨1, 0, bareN t, false, false, [], [x], [], [], 0⟩ r2
def someT (e : Int) (ts : List Tok) : Res Ln :=
  match ts with
  | [] => ruleT e []
  | t :: r => if which t = 116 then .ok ⟨3, 0, ⟨#[]⟩, false, false, [], [], [], [], 0⟩ r else if which t = 36 ∧ nxt r = 21 then defT e t r else ruleT e (t :: r)
def lineT (e : Int) (ts : List Tok) : Res Ln :=
  (someT e ts).bind fun l r => (wantT e 11 r).bind fun _ r2 => .ok { l with a := atOf e ts } r2
/-- all lines: f bounds how many -/
def linesT (e : Int) : Nat → List Tok → Res (List Ln)
  | 0, ts => .ok [] ts
  | f + 1, ts => if nxt ts = 0 then .ok [] ts else (lineT e ts).bind fun l r => (linesT e f r).bind fun ls r2 => .ok (l :: ls) r2
end Go.Proofs
