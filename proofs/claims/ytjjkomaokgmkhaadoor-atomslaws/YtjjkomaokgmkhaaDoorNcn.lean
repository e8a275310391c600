/-
  Atoms by the sets: the law.
-/
import Derived.RangeFuncNested
import Derived.RangeFuncBound
import Derived.RangeFuncCalls
import Derived.RangeFuncLeaves
import Derived.Shelf.Abstract
import Derived.Shelf.RegionOpen
import Derived.WalkKit
import Derived.WalkSpells
import Derived.WalkLawsBesides
import Derived.OwnWalkIn
import Derived.TacticsInMore
import Derived.LoopNIn
import Derived.LoopIn
import Derived.BigQuiet
import Derived.RegionIn
import Derived.Deep.QuietTactic
import Derived.Deep.RegionWith
import Derived.Lib.OthersKept
import Derived.Maps.AppendAt
import Derived.Lib.SmallJoins
import Derived.Shelf.SlSortCmp.QuietGrown
import Derived.Deep.DeepCutAuto
import Derived.Deep.RegionHeld3
import Derived.Deep.AppendLies
import Derived.Test.YtjjkomaokgmkhaaDoorNxn
namespace Go.Proofs
open Go.RowKit Go.Shelf

set_option maxRecDepth 100000
attribute [local go_sem] Oper.semAt_some
attribute [local go_sem ↓] Go.wp_at_zero Go.wp_at_succ

theorem pig : ∀ (n : Nat) (l : List Nat), l.Nodup → (∀ x ∈ l, x < n) → l.length ≤ n
  | 0, l, _, h => by
    cases l with
    | nil => simp
    | cons x l => have := h x (by simp); omega
  | n + 1, l, hn, h => by
    have h1 := pig n (l.filter (· ≠ n)) (hn.filter _) fun x hx => by
      rw [List.mem_filter] at hx
      have := h x hx.1
      have : x ≠ n := by simpa using hx.2
      omega
    have h2 : l.length ≤ (l.filter (· ≠ n)).length + l.count n := by
      clear h1 h hn
      induction l with
      | nil => simp
      | cons x l ih =>
        rw [List.count_cons, List.filter_cons]
        by_cases e : x = n
        · subst e; simp; simp at ih; omega
        · simp [e]; simp at ih; omega
    have h3 := List.nodup_iff_count.1 hn n
    omega
/-- a table that tells more apart has no fewer atoms -/
theorem Tells.fewer {ss tt : List (List (Int × Int))} {N M : Nat} {f g : Int → Int} (h : Tells ss N f) (k : Tells tt M g) (hA : ∀ u v, isUn u → isUn v → Alike tt u v → Alike ss u v) : N ≤ M := by
  obtain ⟨r, hr⟩ : ∃ r : Nat → Int, ∀ k, k < N → isUn (r k) ∧ f (r k) = k := by
    refine ⟨fun k => if hk : k < N then Classical.choose (h.some k hk) else 0, fun k hk => ?_⟩
    simp only [hk, dif_pos]
    exact Classical.choose_spec (h.some k hk)
  have hp := pig M ((List.range N).map fun k => (g (r k)).toNat) (by
    rw [List.Nodup, List.pairwise_map]
    refine List.Pairwise.imp_of_mem ?_ (List.nodup_range (n := N))
    intro a b ha hb hab e
    rw [List.mem_range] at ha hb
    obtain ⟨a1, a2⟩ := hr a ha
    obtain ⟨b1, b2⟩ := hr b hb
    obtain ⟨i, i1, _⟩ := k.yes _ a1
    obtain ⟨j, j1, _⟩ := k.yes _ b1
    have e2 : g (r a) = g (r b) := by omega
    have := (h.same _ _ a1 b1).2 (hA _ _ a1 b1 ((k.same _ _ a1 b1).1 e2))
    omega) (fun x hx => by
    obtain ⟨a, ha, rfl⟩ := List.mem_map.1 hx
    rw [List.mem_range] at ha
    obtain ⟨i, i1, i2⟩ := k.yes _ (hr a ha).1
    omega)
  simpa using hp
/-- what is told apart stays so -/
theorem Tells.sep {ss tt : List (List (Int × Int))} {N M : Nat} {f g : Int → Int} (h : Tells ss N f) (k : Tells tt M g) (hA : ∀ u v, isUn u → isUn v → Alike tt u v → Alike ss u v) {u v : Int} (hn : f u ≠ f v) : g u ≠ g v := fun e => by
  by_cases hu : isUn u
  · by_cases hv : isUn v
    · exact hn ((h.same u v hu hv).2 (hA u v hu hv ((k.same u v hu hv).1 e)))
    · obtain ⟨i, e1, _⟩ := k.yes u hu
      have := k.no v hv
      omega
  · by_cases hv : isUn v
    · obtain ⟨i, e1, _⟩ := k.yes v hv
      have := k.no u hu
      omega
    · rw [h.no u hu, h.no v hv] at hn
      exact hn rfl
/-- sets the other way round, each twice -/
def twice (ss : List (List (Int × Int))) : List (List (Int × Int)) := ss.reverse.flatMap fun s => [s, s]
theorem twice_mem (ss : List (List (Int × Int))) (s : List (Int × Int)) : s ∈ twice ss ↔ s ∈ ss := by
  unfold twice
  simp
theorem alike_mem (ss : List (List (Int × Int))) (u v : Int) : Alike ss u v ↔ ∀ s ∈ ss, (inS s u ↔ inS s v) := by
  unfold Alike
  constructor
  · intro h s hs
    obtain ⟨n, hn, rfl⟩ := List.getElem_of_mem hs
    have := h n hn
    simpa [List.getD, hn] using this
  · intro h n hn
    have := h _ (List.getElem_mem hn)
    simpa [List.getD, hn] using this
theorem alike_twice (ss : List (List (Int × Int))) (u v : Int) : Alike (twice ss) u v ↔ Alike ss u v := by
  rw [alike_mem, alike_mem]
  exact ⟨fun h s hs => h s ((twice_mem ss s).2 hs), fun h s hs => h s ((twice_mem ss s).1 hs)⟩
theorem alike_more {ss : List (List (Int × Int))} {m : List (Int × Int)} {u v : Int} (h : Alike (ss ++ [m]) u v) : Alike ss u v := by
  rw [alike_mem] at h ⊢
  exact fun s hs => h s (by simp [hs])
theorem totS_append (a b : List (List (Int × Int))) : totS (a ++ b) = totS a + totS b := by unfold totS; simp
theorem totS_twice (ss : List (List (Int × Int))) : totS (twice ss) = 2 * totS ss := by
  induction ss with
  | nil => rfl
  | cons s r ih =>
    have e : twice (s :: r) = twice r ++ [s, s] := by simp [twice]
    rw [e, totS_append, ih]
    unfold totS
    simp; omega
theorem twice_len (ss : List (List (Int × Int))) : (twice ss).length = 2 * ss.length := by
  induction ss with
  | nil => rfl
  | cons s r ih =>
    have e : twice (s :: r) = twice r ++ [s, s] := by simp [twice]
    rw [e, List.length_append, ih]; simp; omega
/-- the atom of a number, and whether it is a unit -/
theorem Tells.dec {ss : List (List (Int × Int))} {N : Nat} {f : Int → Int} (h : Tells ss N f) (u : Int) : decide (0 ≤ f u) = unB u ∧ f u < N := by
  by_cases hu : isUn u
  · obtain ⟨k, e, hk⟩ := h.yes u hu
    rw [(unB_iff u).2 hu]
    exact ⟨by simp; omega, by omega⟩
  · have e := h.no u hu
    have : unB u = false := by
      cases hb : unB u with
      | false => rfl
      | true => exact absurd ((unB_iff u).1 hb) hu
    rw [this]
    exact ⟨by simp; omega, by omega⟩
theorem lv_sr {w : World} {A : Option Addr} {n c : Nat} {vals : List Value} {ss : List (List (Int × Int))} (h : LV w A vals ss) (hn : ss.length = n) (hc : n ≤ c) : SR w (.slice A n c) ss := by
  refine ⟨A, c, by rw [hn], by omega, ?_⟩
  by_cases h0 : ss = []
  · exact .inl h0
  · have hp := List.length_pos_iff.2 h0
    obtain ⟨g, o, hA, _⟩ := h.rd 0 _ (List.getElem?_eq_getElem (by rw [h.len]; exact hp))
    refine .inr ⟨g, o, hA, fun j hj => ?_⟩
    have hjv : j < vals.length := by rw [h.len]; exact hj
    obtain ⟨g2, o2, e, hcl⟩ := h.rd j _ (List.getElem?_eq_getElem hjv)
    rw [hA] at e
    injection e with e
    injection e with e1 e2 _
    subst e1
    subst e2
    exact ⟨_, hcl, h.rs j _ _ (List.getElem?_eq_getElem hjv) (List.getElem?_eq_getElem hj)⟩
/-- some sets behind a row of the call's own, in a region that draws -/
theorem step_V {ops : Array Oper} {o : Oper} {a : Act} {K : Act → World → Prop} {Q : Exit → Act → World → Prop} {E : Prop} {w : World} (hgd : o.guard = none) (s x : Operand)
    (ho : o.op = .call { callee := .builtin .append, args := #[s, x], argTypes := #[22, 22] }) (base : Nat) (v : Value) (xs : List Value) (hs : a.eval s = v) (hown : w.ownsRow base 27 1 v xs.length xs) (g m c : Nat) (news : List Value) (hx : a.eval x = .slice (some ⟨g, 0, none⟩) m c) (hl : news.length = m)
    (hc : w.heap[g]? = some (.cells news.toArray 27 (0, 0))) (h1 : ∀ u ∈ news, u.oneCell' = true) (hm : 0 < m) (hn : xs.length + m ≤ 1000000) (hbase : base ≤ w.heap.size)
    (h : ∀ v' w', w'.ownsRow base 27 1 v' (xs ++ news).length (xs ++ news) → Below base w w' → K (a.put o.dst v') w') : if Region.wanted o (yielded ops a.tmps) = true then Oper.wp Tryd.prog o a w K Q else E := by
  obtain ⟨i0, hi0, hz0, hz1, hz2⟩ := info_parts info27
  refine step_append_lies w hgd s x 22 ho base 27 i0 (.slice none 0 0) 1 24 Tryd.underlying22 hi0 hz0 hz1 hz2 rfl (by decide) v xs.length xs hs hown ⟨g, 0, none⟩ m c news hx (by omega) (World.news_of_block (cs := news.toArray) (t := 27) (fr := (0, 0)) hc) h1 hm (by unfold maxLen; omega) (by omega) hbase _ rfl ?_
  intro gg cap wn hown1 hgrow _ _
  refine h _ wn ?_ ((fr_by hgrow).below (fun k hk => (World.ownsRow.lt hown k hk).1) hbase)
  rw [List.length_append, hl]; exact hown1
theorem own_empty (W : World) : (W.alloc (.cells #[] 27)).ownsRow W.heap.size 27 1 (.slice (some ⟨W.heap.size, 0, none⟩) 0 0) 0 [] :=
  ⟨rfl, .inr ⟨W.heap.size, 0, #[], rfl, Nat.le_refl _, heap_alloc_new _ _, Nat.le_refl _, Nat.zero_le _, rfl, rfl⟩⟩
/-- a set more -/
theorem more_sr {w W : World} {A : Option Addr} {vals : List Value} {ss : List (List (Int × Int))} {mv : Value} {more : List (Int × Int)} (h : LV w A vals ss) (hm : Rs w mv more) (hb : Below w.heap.size w W) {base : Nat} {v : Value} (ho : W.ownsRow base 27 1 v (vals ++ [mv]).length (vals ++ [mv])) : SR W v (ss ++ [more]) := by
  have hl := h.len
  refine own_sr ho (by simp [hl]) fun j x s hx hs => ?_
  by_cases e : j < vals.length
  · rw [List.getElem?_append_left e] at hx
    rw [List.getElem?_append_left (by omega)] at hs
    exact (h.rs j x s hx hs).below hb (Nat.le_refl _)
  · rw [List.getElem?_append_right (by omega)] at hx
    rw [List.getElem?_append_right (by omega), ← hl] at hs
    obtain ⟨rfl, rfl⟩ : x = mv ∧ s = more := by
      have h1 := List.mem_of_getElem? hx
      have h2 := List.mem_of_getElem? hs
      simp at h1 h2
      exact ⟨h1, h2⟩
    exact hm.below hb (Nat.le_refl _)
def twV (vals : List Value) (j : Nat) : List Value := (vals.reverse.take j).flatMap fun v => [v, v]
theorem twV_succ (vals : List Value) {j : Nat} (hj : j < vals.length) : twV vals (j + 1) = twV vals j ++ [vals[vals.length - 1 - j], vals[vals.length - 1 - j]] := by
  unfold twV
  rw [List.take_succ_eq_append_getElem (by simpa using hj), List.flatMap_append]
  simp
theorem twV_len (vals : List Value) {j : Nat} (hj : j ≤ vals.length) : (twV vals j).length = 2 * j := by
  induction j with
  | zero => rfl
  | succ j ih => rw [twV_succ vals (by omega), List.length_append, ih (by omega)]; simp; omega
theorem twV_one {vals : List Value} (h : ∀ u ∈ vals, u.oneCell' = true) (j : Nat) : ∀ u ∈ twV vals j, u.oneCell' = true := fun u hu => by
  unfold twV at hu
  simp only [List.mem_flatMap] at hu
  obtain ⟨x, hx, hu⟩ := hu
  have := List.mem_of_mem_take hx
  simp at hu this
  subst hu
  exact h u this
theorem flat2 {α β : Type} {R : α → β → Prop} : ∀ {a : List α} {b : List β}, a.length = b.length → (∀ (j : Nat) x y, a[j]? = some x → b[j]? = some y → R x y) → ∀ (j : Nat) x y, (a.flatMap fun v => [v, v])[j]? = some x → (b.flatMap fun v => [v, v])[j]? = some y → R x y
  | [], [], _, _, j, x, y, hx, _ => by simp at hx
  | [], _ :: _, h, _, _, _, _, _, _ => by simp at h
  | _ :: _, [], h, _, _, _, _, _, _ => by simp at h
  | p :: a, q :: b, h, hr, j, x, y, hx, hy => by
    match j with
    | 0 => simp at hx hy; subst hx; subst hy; exact hr 0 _ _ rfl rfl
    | 1 => simp at hx hy; subst hx; subst hy; exact hr 0 _ _ rfl rfl
    | j + 2 =>
      simp at hx hy
      exact flat2 (a := a) (b := b) (by simpa using h) (fun i x y h1 h2 => hr (i + 1) x y (by simpa using h1) (by simpa using h2)) j x y (by simpa using hx) (by simpa using hy)
theorem twice_sr {w W : World} {A : Option Addr} {vals : List Value} {ss : List (List (Int × Int))} (h : LV w A vals ss) (hb : Below w.heap.size w W) {base : Nat} {v : Value} (ho : W.ownsRow base 27 1 v (twV vals vals.length).length (twV vals vals.length)) : SR W v (twice ss) := by
  have hl := h.len
  refine own_sr ho (by rw [twV_len vals (Nat.le_refl _), twice_len, hl]) fun j x s hx hs => ?_
  have e : twV vals vals.length = vals.reverse.flatMap fun v => [v, v] := by unfold twV; rw [List.take_of_length_le (by simp)]
  rw [e] at hx
  refine flat2 (R := fun x s => Rs W x s) (a := vals.reverse) (b := ss.reverse) (by simp [hl]) (fun i x y h1 h2 => ?_) j x s hx hs
  have hi := (List.getElem?_eq_some_iff.1 h1).1
  simp at hi
  rw [List.getElem?_reverse (by omega)] at h1 h2
  rw [hl] at h1
  exact (h.rs _ x y h1 h2).below hb (Nat.le_refl _)
set_option maxHeartbeats 8000000 in
theorem laws_walk (A : Option Addr) (n c : Nat) (vals : List Value) (ss : List (List (Int × Int))) (u v : Int) (ma : Option Addr) (mn mc : Nat) (more : List (Int × Int)) (w : World) (hT : Tab w) (hN : ss.length = n) (hc : n ≤ c) (h : LV w A vals ss) (hm : Rs w (.slice ma mn mc) more) :
    Calls Tryd.prog 4 #[.slice A n c, .int .i64 u, .int .i64 v, .slice ma mn mc] w fun e w' => e = .returned (.bool true) ∧ Below w.heap.size w w' := by
  have HL := Hid.mk' h
  have HN := Hid.mk' hN
  have HC := Hid.mk' hc
  have HM := Hid.mk' hm
  have HT := Hid.mk' hT
  have HS := Hid.mk' (shown_any w hT)
  clear h hN hc hm hT
  go_enter Tryd.func4, Tryd.ntmps4
  go_wp2_with (go_at_call 6; refine HS.out.mono ?_; rintro e w1 ⟨rfl, hb⟩; have HB1 := Hid.mk' hb; have HG := Hid.mk' (great_any A n c vals ss w1 HN.out (HL.out.below hb (Nat.le_refl _))); clear hb)

  refine HG.out.mono ?_
  rintro e w2 ⟨gb, rfl, rfl, hf⟩
  cases gb with
  | true =>
    clear hf
    go_wp2
    go_ret
    exact ⟨rfl, HB1.out⟩
  | false =>
  have HF := Hid.mk' (hf rfl)
  have HMN : Hid (more.length = mn) := by obtain ⟨_, _, e, _⟩ := HM.out; injection e with _ e _; exact e.symm
  by_cases hmn : 600 < mn
  · have hmI : (600 : Int) < (mn : Int) := by omega
    clear hf
    go_wp2
    go_ret
    exact ⟨rfl, HB1.out⟩
  have hmI : ¬ (600 : Int) < (mn : Int) := by omega
  have hmD : decide ((600 : Int) < (mn : Int)) = false := by simpa using hmI
  have HT1 : Hid (Tab w2) := HT.out.below HB1.out HT.out.pos
  have HL1 := Hid.mk' (HL.out.below HB1.out (Nat.le_refl _))
  have HM1 := Hid.mk' (HM.out.below HB1.out (Nat.le_refl _))
  have HNW := Hid.mk' (new_any (.slice A n c) ss w2 HT1.out (lv_sr HL1.out HN.out HC.out) (by have := HF.out.1; omega) (fun hv => by have := HF.out.valid hv; rw [allT_len]; omega))
  clear hf hmn HS HG
  go_wp2_with (go_at_call 8; refine HNW.out.mono ?_; rintro e w3 (⟨hv, B, rfl, hq⟩ | ⟨hv, rfl, hg⟩))
  rotate_left
  · go_ret
    exact ⟨rfl, HB1.out.trans (hg.below.mono HB1.out.size)⟩
  obtain ⟨LL, L0, all, s, ha, hb3⟩ := hq.out.atm (by have := HF.out.1; omega)
  have HB3 : Hid (Below w.heap.size w w3) := HB1.out.trans (hb3.mono HB1.out.size)
  have HV := Hid.mk' hv
  have HA := Hid.mk' ha
  obtain ⟨a, hae⟩ : ∃ a, ofP s.st s.bg u = a := ⟨_, rfl⟩
  obtain ⟨b, hbe⟩ : ∃ b, ofP s.st s.bg v = b := ⟨_, rfl⟩
  obtain ⟨N, hNe⟩ : ∃ N, s.wh.length = N := ⟨_, rfl⟩
  obtain ⟨bu, hbu⟩ : ∃ bu, unB u = bu := ⟨_, rfl⟩
  obtain ⟨bv, hbv⟩ : ∃ bv, unB v = bv := ⟨_, rfl⟩
  have hdu := ha.done.tells.dec u
  have hdv := ha.done.tells.dec v
  rw [hae, hbu, hNe] at hdu
  rw [hbe, hbv, hNe] at hdv
  obtain ⟨hda, haN⟩ := hdu
  obtain ⟨hdb, hbN⟩ := hdv
  have hN10 : N ≤ 10000 := by rw [← hNe]; exact ha.b2
  have hn15 : n ≤ 1500 := by have := HF.out.1; rw [HN.out] at this; exact this
  have HE : Hid (ofP s.st s.bg u = a ∧ ofP s.st s.bg v = b ∧ s.wh.length = N ∧ unB u = bu ∧ unB v = bv) := ⟨hae, hbe, hNe, hbu, hbv⟩
  have HOU : Hid (∀ W, Below w3.heap.size w3 W → Calls Tryd.prog 13 #[.pointer (some ⟨B, 0, none⟩), .int .i64 u] W fun e w' => e = .returned (.int .i64 a) ∧ Grown W w') := fun W hW => by rw [← hae]; exact (ha.below hW (Nat.le_refl _)).of u
  have HOV : Hid (∀ W, Below w3.heap.size w3 W → Calls Tryd.prog 13 #[.pointer (some ⟨B, 0, none⟩), .int .i64 v] W fun e w' => e = .returned (.int .i64 b) ∧ Grown W w') := fun W hW => by rw [← hbe]; exact (ha.below hW (Nat.le_refl _)).of v
  have HLN : Hid (∀ W, Below w3.heap.size w3 W → Calls Tryd.prog 11 #[.pointer (some ⟨B, 0, none⟩)] W fun e w' => e = .returned (.int .i64 (N : Int)) ∧ Grown W w') := fun W hW => by
    rw [← hNe]
    refine (ha.below hW (Nat.le_refl _)).len.mono ?_
    rintro e w' ⟨rfl, rfl⟩
    exact ⟨rfl, Grown.refl _⟩
  have HIN : Hid (∀ W (i : Nat) (hi : i < ss.length), Below w3.heap.size w3 W → bu = true → Calls Tryd.prog 17 #[.pointer (some ⟨B, 0, none⟩), .int .i64 a, .int .i64 (i : Int)] W fun e w' => e = .returned (.bool (decide (hasU ss[i] u))) ∧ Grown W w') := fun W i hi hW hb => by
    have hun := (unB_iff u).1 (hbu.trans hb)
    obtain ⟨k, hk, _⟩ := ha.done.tells.yes u hun
    obtain ⟨z, hz, hcall⟩ := (ha.below hW (Nat.le_refl _)).inyes hk hi
    rw [← hae, hk]
    have e : z = decide (hasU ss[i] u) := by
      rw [Bool.eq_iff_iff, hz, decide_eq_true_eq]
      have : ss.getD i [] = ss[i] := by simp [List.getD, hi]
      rw [this]; rfl
    rw [e] at hcall
    exact hcall
  have HHS : Hid (∀ W (i : Nat) (hi : i < ss.length) (sv : Value) (z : Int), Below w3.heap.size w3 W → Rs W sv ss[i] → Calls Tryd.prog 20 #[sv, .int .i64 z] W fun e w' => e = .returned (.bool (decide (hasU ss[i] z))) ∧ Grown W w') := fun W i hi sv z hW hr => by
    have := rhas_any sv ss[i] z W hr
    rw [hv _ (List.getElem_mem hi), Bool.true_and] at this
    exact this
  have HB0 : Hid (Below w3.heap.size w3 w3) := Below.refl _ _
  clear hb3 hv ha hae hbe hNe hbu hbv hq HNW
  refine (HOU.out _ HB0.out).mono ?_
  rintro e w4 ⟨rfl, hg⟩
  have HB0 := Hid.mk' (HB0.out.trans (hg.below.mono HB0.out.size))
  clear hg
  go_wp2_with fail
  refine (HOV.out _ HB0.out).mono ?_
  rintro e w5 ⟨rfl, hg⟩
  have HB0 := Hid.mk' (HB0.out.trans (hg.below.mono HB0.out.size))
  clear hg
  have HU1 := Hid.mk' (unit_any u w5)
  have HU2 := Hid.mk' (unit_any v w5)
  rw [HE.out.2.2.2.1] at HU1
  rw [HE.out.2.2.2.2] at HU2
  go_wp2_with fail
  refine HU1.out.mono ?_
  rintro e w6 ⟨rfl, rfl⟩
  go_wp2_with fail
  refine HU2.out.mono ?_
  rintro e w7 ⟨rfl, rfl⟩
  clear HU1 HU2
  have haI : ¬ (N : Int) ≤ a := by omega
  have hbI : ¬ (N : Int) ≤ b := by omega
  go_upto_region 17 with (go_at_call 11; refine (HLN.out _ HB0.out).mono ?_; rintro e w8 ⟨rfl, hg⟩; have HB0 := Hid.mk' (HB0.out.trans (hg.below.mono HB0.out.size)); clear hg)
  go_loopg [16, 17] n (fun q s16 s17 wr => ∃ (i : Nat) (al : Bool), s16 = .bool al ∧ s17 = .int .i64 (i : Int) ∧ i ≤ n ∧ n - i ≤ q ∧ Hid (Below w3.heap.size w3 wr ∧ (al = true ↔ ∀ s ∈ ss.take i, (inS s u ↔ inS s v))))
  case atStart => exact ⟨0, true, rfl, rfl, by omega, by omega, HB0.out, by simp⟩
  case round =>
    obtain ⟨i, al, rfl, rfl, hi1, hi2, HR⟩ := hrel
    clear HB0
    have hiI : (i : Int) ≤ 1500 := by omega
    by_cases hil : i < n
    · have hilI : (i : Int) < (n : Int) := by omega
      have his : i < ss.length := by rw [HN.out]; exact hil
      have hiv : i < vals.length := by rw [HL.out.len]; exact his
      obtain ⟨hbr, hal⟩ := HR.out
      obtain ⟨g, o, hAe, hc⟩ := HL.out.rd i vals[i] (List.getElem?_eq_getElem hiv)
      subst hAe
      have hrs := HL.out.rs i vals[i] ss[i] (List.getElem?_eq_getElem hiv) (List.getElem?_eq_getElem his)
      have hbw : Below w.heap.size w wr := HB3.out.trans (hbr.mono HB3.out.size)
      obtain ⟨sa, sc, hse, hcap, _⟩ := id hrs
      obtain ⟨L, hL⟩ : ∃ L, ss[i].length = L := ⟨_, rfl⟩
      rw [hL] at hse
      rw [hse] at hc hrs
      have HRS : Hid (∀ W, Below w3.heap.size w3 W → Rs W (.slice sa L sc) ss[i] ∧ W.cell? ⟨g, o + i, none⟩ = some (.slice sa L sc)) := fun W hW => by
        have hbW : Below w.heap.size w W := HB3.out.trans (hW.mono HB3.out.size)
        exact ⟨hrs.below hbW (Nat.le_refl _), cell_below hc hbW (Nat.le_refl _)⟩
      have hcr := (HRS.out wr hbr).2
      have HBR := Hid.mk' hbr
      have HP := Hid.mk' (HHS.out wr i his _ u hbr (HRS.out wr hbr).1)
      obtain ⟨pb, hpb⟩ : ∃ pb, decide (hasU ss[i] u) = pb := ⟨_, rfl⟩
      obtain ⟨qb, hqb⟩ : ∃ qb, decide (hasU ss[i] v) = qb := ⟨_, rfl⟩
      rw [hpb] at HP
      have HQ : Hid (∀ W, Below w3.heap.size w3 W → Calls Tryd.prog 20 #[.slice sa L sc, .int .i64 v] W fun e w' => e = .returned (.bool qb) ∧ Grown W w') := fun W hW => by
        have := HHS.out W i his _ v hW (HRS.out W hW).1
        rw [hqb] at this; exact this
      have HI : Hid (∀ W, Below w3.heap.size w3 W → bu = true → Calls Tryd.prog 17 #[.pointer (some ⟨B, 0, none⟩), .int .i64 a, .int .i64 (i : Int)] W fun e w' => e = .returned (.bool pb) ∧ Grown W w') := fun W hW hb => by
        have := HIN.out W i his hW hb
        rw [hpb] at this; exact this
      have HAL : Hid ((al && (pb == qb)) = true ↔ ∀ s ∈ ss.take (i + 1), (inS s u ↔ inS s v)) := by
        show _ ↔ _
        rw [List.take_succ_eq_append_getElem his, Bool.and_eq_true, hal]
        constructor
        · rintro ⟨h1, h2⟩ s hs
          rcases List.mem_append.1 hs with hs | hs
          · exact h1 s hs
          · simp at hs
            subst hs
            rw [beq_iff_eq, ← hpb, ← hqb] at h2
            have := Bool.eq_iff_iff.1 h2
            rw [decide_eq_true_eq, decide_eq_true_eq] at this
            exact this
        · intro h1
          refine ⟨fun s hs => h1 s (List.mem_append_left _ hs), ?_⟩
          rw [beq_iff_eq, ← hpb, ← hqb, Bool.eq_iff_iff, decide_eq_true_eq, decide_eq_true_eq]
          exact h1 ss[i] (List.mem_append_right _ (by simp))
      clear hbr hal hc hrs hbw hse hL hpb hqb hcap hiv
      cases al with
      | true =>
        rw [Bool.true_and] at HAL
        cases bu with
        | true =>
          as_aux_lemma =>
            go_wp2_with fail
            refine HP.out.mono ?_
            rintro e wa ⟨rfl, hg⟩
            have HW := Hid.mk' (HBR.out.trans (hg.below.mono HBR.out.size))
            have hcr := (HRS.out wa HW.out).2
            clear hg
            go_wp2_with fail
            refine (HQ.out _ HW.out).mono ?_
            rintro e wb ⟨rfl, hg⟩
            have HW := Hid.mk' (HW.out.trans (hg.below.mono HW.out.size))
            clear hg
            go_wp2_with fail
            refine (HI.out _ HW.out (by trivial)).mono ?_
            rintro e wc ⟨rfl, hg⟩
            have HW := Hid.mk' (HW.out.trans (hg.below.mono HW.out.size))
            clear hg
            go_wp2
            go_roundg (n - (i + 1))
            case measure => omega
            case rel => exact ⟨i + 1, _, rfl, rfl, by omega, Nat.le_refl _, HW.out, HAL.out⟩
        | false =>
          as_aux_lemma =>
            go_wp2_with fail
            refine HP.out.mono ?_
            rintro e wa ⟨rfl, hg⟩
            have HW := Hid.mk' (HBR.out.trans (hg.below.mono HBR.out.size))
            have hcr := (HRS.out wa HW.out).2
            clear hg
            go_wp2_with fail
            refine (HQ.out _ HW.out).mono ?_
            rintro e wb ⟨rfl, hg⟩
            have HW := Hid.mk' (HW.out.trans (hg.below.mono HW.out.size))
            clear hg
            go_wp2
            go_roundg (n - (i + 1))
            case measure => omega
            case rel => exact ⟨i + 1, _, rfl, rfl, by omega, Nat.le_refl _, HW.out, HAL.out⟩
      | false =>
        rw [Bool.false_and] at HAL
        cases bu with
        | true =>
          as_aux_lemma =>
            go_wp2_with fail
            refine HP.out.mono ?_
            rintro e wa ⟨rfl, hg⟩
            have HW := Hid.mk' (HBR.out.trans (hg.below.mono HBR.out.size))
            have hcr := (HRS.out wa HW.out).2
            clear hg
            go_wp2_with fail
            refine (HQ.out _ HW.out).mono ?_
            rintro e wb ⟨rfl, hg⟩
            have HW := Hid.mk' (HW.out.trans (hg.below.mono HW.out.size))
            clear hg
            go_wp2_with fail
            refine (HI.out _ HW.out (by trivial)).mono ?_
            rintro e wc ⟨rfl, hg⟩
            have HW := Hid.mk' (HW.out.trans (hg.below.mono HW.out.size))
            clear hg
            go_wp2
            go_roundg (n - (i + 1))
            case measure => omega
            case rel => exact ⟨i + 1, _, rfl, rfl, by omega, Nat.le_refl _, HW.out, HAL.out⟩
        | false =>
          as_aux_lemma =>
            go_wp2_with fail
            refine HP.out.mono ?_
            rintro e wa ⟨rfl, hg⟩
            have HW := Hid.mk' (HBR.out.trans (hg.below.mono HBR.out.size))
            have hcr := (HRS.out wa HW.out).2
            clear hg
            go_wp2_with fail
            refine (HQ.out _ HW.out).mono ?_
            rintro e wb ⟨rfl, hg⟩
            have HW := Hid.mk' (HW.out.trans (hg.below.mono HW.out.size))
            clear hg
            go_wp2
            go_roundg (n - (i + 1))
            case measure => omega
            case rel => exact ⟨i + 1, _, rfl, rfl, by omega, Nat.le_refl _, HW.out, HAL.out⟩
    · have hie : i = n := by omega
      subst hie
      have hge : ¬ (i : Int) < (i : Int) := by omega
      have HBR := Hid.mk' HR.out.1
      have HAL : Hid (al = true ↔ Alike ss u v) := by
        have := HR.out.2
        rw [List.take_of_length_le (by have := HN.out; omega)] at this
        show _ ↔ _
        rw [this, alike_mem]
      have HSM : Hid (bu = true → bv = true → (decide (a = b)) = al) := fun h1 h2 => by
        obtain ⟨e1, e2, e3, e4, e5⟩ := HE.out
        have := HA.out.done.tells.same u v ((unB_iff u).1 (e4.trans h1)) ((unB_iff v).1 (e5.trans h2))
        rw [e1, e2] at this
        rw [Bool.eq_iff_iff, decide_eq_true_eq, this, HAL.out]
      clear HR HHS HIN
      go_upto_region 24 with fail
      go_cut [128] (fun s128 wc => s128 = .bool false ∧ Hid (wc = wr))
      case first =>
        cases bu with
        | false =>
          go_wp2
          go_meet
          case rel => exact ⟨rfl, rfl⟩
        | true =>
          cases bv with
          | false =>
            go_wp2
            go_meet
            case rel => exact ⟨rfl, rfl⟩
          | true =>
            have hsm := HSM.out rfl rfl
            have hsm2 : (a == b) = al := by rw [← hsm]; rfl
            go_wp2
            go_meet
            case rel => exact ⟨by first | rfl | simp [hsm] | simp [hsm2], rfl⟩
      case rest =>
        obtain ⟨rfl, HW⟩ := hcut
        have hwe := HW.out
        subst hwe
        clear HW
        cases bu with
        | false =>
          clear HOU HOV
          obtain ⟨hh, hhe⟩ : ∃ hh, wc.heap.size = hh := ⟨_, rfl⟩
          have HHE := Hid.mk' hhe
          have HOE := Hid.mk' (own_empty wc)
          have HWB : Hid (Below w.heap.size w wc) := HB3.out.trans (HBR.out.mono HB3.out.size)
          rw [hhe] at HOE
          have HVL : Hid (vals.length = i) := by rw [Hid.out HL |>.len]; exact HN.out
          go_wp2_with (first
            | (at_builtin; go_must (first
              | (refine push_L rfl _ _ rfl hh hh rfl HOE.out A i c vals ss rfl HVL.out (HL.out.below (HWB.out.trans (((Below.refl _ wc).alloc (Nat.le_refl _) _).mono HWB.out.size)) (Nat.le_refl _)) (by omega) (by simp; omega) ?_
                 intro v1 W1 h1 h2
                 obtain ⟨va1, vc1, hv1⟩ := own_len h1
                 rw [HVL.out] at hv1
                 have HO1 := Hid.mk' h1
                 have HB1' := Hid.mk' h2
                 have hbz1 : hh ≤ W1.heap.size := by have := h2.size; simp at this; omega
                 subst hv1
                 clear h1 h2)
              | (refine push_V rfl _ _ rfl hh (.slice va1 i vc1) vals rfl (World.ownsRow.alloc HO1.out _) ⟨W1.heap.size, 0, none⟩ 1 1 [.slice ma mn mc] rfl rfl (fun j z hz => by
                   match j, hz with
                   | 0, hz => simp at hz; subst hz; rw [add_zero_at]; exact new_cell _ rfl rfl) (fun z hz => by simp at hz; subst hz; rfl) (by have := HVL.out; omega) (by simp; omega) ?_
                 intro v2 W2 h1 h2
                 obtain ⟨va2, vc2, hv2⟩ := own_len h1
                 obtain ⟨vn2, hvn2⟩ : ∃ vn2, (vals ++ [Value.slice ma mn mc]).length = vn2 := ⟨_, rfl⟩
                 rw [hvn2] at hv2
                 have HB2' : Hid (Below wc.heap.size wc W2) := by
                   rw [HHE.out]
                   exact ((((Below.refl _ wc).alloc (by rw [HHE.out]; exact Nat.le_refl _) _).trans HB1'.out).alloc (by omega) _).trans h2
                 have HBW2 : Hid (Below w.heap.size w W2) := HWB.out.trans (HB2'.out.mono HWB.out.size)
                 have HB32 : Hid (Below w3.heap.size w3 W2) := HBR.out.trans (HB2'.out.mono HBR.out.size)
                 have HSR := Hid.mk' (more_sr HL.out HM.out HBW2.out h1)
                 have HNW2 := Hid.mk' (new_any v2 (ss ++ [more]) W2 (HT.out.below HBW2.out HT.out.pos) HSR.out (by have := HF.out.1; simp; omega) (fun hv2 => by
                   have e1 := HF.out.valid HV.out
                   have e2 := ((validB_iff more).1 (hv2 more (by simp))).1
                   rw [allT_len, totS_append]
                   unfold totS at e1 ⊢
                   simp
                   omega))
                 subst hv2
                 clear h1 h2 hvn2)))
            | (go_at_call 8
               refine HNW2.out.mono ?_
               rintro e w9 (⟨hv2, B2, rfl, hq2⟩ | ⟨hv2, rfl, hg2⟩)))
          rotate_left
          · have hvm : validB more = false := by
              obtain ⟨z, hz, hz2⟩ := hv2
              rcases List.mem_append.1 hz with hz | hz
              · rw [HV.out z hz] at hz2; cases hz2
              · simp at hz; subst hz; exact hz2
            have HBW9 : Hid (Below w.heap.size w w9) := HBW2.out.trans (hg2.below.mono HBW2.out.size)
            have hrv := rvalid_any (.slice ma mn mc) more w9 (HM.out.below HBW9.out (Nat.le_refl _))
            rw [hvm] at hrv
            refine hrv.mono ?_
            rintro e w10 ⟨rfl, hg3⟩
            have HBW10 : Hid (Below w.heap.size w w10) := HBW9.out.trans (hg3.below.mono HBW9.out.size)
            clear hg2 hg3 hrv hvm
            go_wp2
            go_ret
            exact ⟨rfl, HBW10.out⟩
          obtain ⟨LL2, L02, all2, s2, ha2, hb2⟩ := hq2.out.atm (by have := HF.out.1; simp; omega)
          have HA2 := Hid.mk' ha2
          have HB39 : Hid (Below w3.heap.size w3 w9) := HB32.out.trans (hb2.mono HB32.out.size)
          have HBW9 : Hid (Below w.heap.size w w9) := HBW2.out.trans (hb2.mono HBW2.out.size)
          obtain ⟨h5, h5e⟩ : ∃ h5, w9.heap.size = h5 := ⟨_, rfl⟩
          have HH5 := Hid.mk' h5e
          have HOE5 := Hid.mk' (own_empty w9)
          rw [h5e] at HOE5
          have HB9 : Hid (Below w9.heap.size w9 (w9.alloc (.cells #[] 27))) := (Below.refl _ w9).alloc (Nat.le_refl _) _
          clear hq2 hb2 ha2 hhe h5e HOE HHE HNW2 HSR HB2' HBR HB32 HBW2 HO1 HB1' HWB hv2
          go_wp2
          go_loopg [26, 27] i (fun q s26 s27 wr => ∃ (j : Nat) (iv : Int) (rv : Value), rv = s26 ∧ s27 = .int .i64 iv ∧ iv = (i : Int) - 1 - (j : Int) ∧ j ≤ i ∧ i - j ≤ q ∧ Hid (Below h5 w9 wr ∧ wr.ownsRow h5 27 1 rv (twV vals j).length (twV vals j)))
          case atStart => exact ⟨0, _, _, rfl, rfl, by omega, by omega, by omega, by rw [← HH5.out]; exact HB9.out, by rw [HH5.out]; exact HOE5.out⟩
          case round =>
            obtain ⟨j, iv, rv, rfl, rfl, hiv, hj1, hj2, HR⟩ := hrel
            by_cases hji : j < i
            · obtain ⟨m, hm⟩ : ∃ m, m + 1 + j = i := ⟨i - 1 - j, by omega⟩
              have hivm : iv = (m : Int) := by omega
              have HMJ := Hid.mk' hm
              subst hivm
              have hmv : m < vals.length := by have := HVL.out; omega
              have hmI : (m : Int) < (i : Int) := by omega
              obtain ⟨g, o, hAe, hc⟩ := HL.out.rd m vals[m] (List.getElem?_eq_getElem hmv)
              subst hAe
              obtain ⟨hbr, hor⟩ := HR.out
              have hbw : Below w.heap.size w wr := HBW9.out.trans (hbr.mono (by rw [← HH5.out]; exact HBW9.out.size))
              have hcr := cell_below hc hbw (Nat.le_refl _)
              obtain ⟨sa, sc, hse, hlx⟩ := HL.out.rs m vals[m] (ss[m]'(by rw [← HL.out.len]; exact hmv)) (List.getElem?_eq_getElem hmv) (List.getElem?_eq_getElem _)
              obtain ⟨L, hL⟩ : ∃ L, (ss[m]'(by rw [← HL.out.len]; exact hmv)).length = L := ⟨_, rfl⟩
              rw [hL] at hse
              clear hlx
              rw [hse] at hcr
              have HTW : Hid (twV vals (j + 1) = twV vals j ++ [.slice sa L sc, .slice sa L sc] ∧ (twV vals j).length = 2 * j) := by
                have hjv : j < vals.length := by have := HVL.out; omega
                have e := twV_succ vals hjv
                have hx : vals.length - 1 - j = m := by have := HVL.out; omega
                simp only [hx] at e
                rw [hse] at e
                exact ⟨e, twV_len vals (by omega)⟩
              have HBR := Hid.mk' hbr
              have HOR := Hid.mk' hor
              have hbz : h5 ≤ wr.heap.size := by have := hbr.size; have := HH5.out; omega
              have hgw : g < w.heap.size := World.block_lt_of_cell? w _ hc
              have hge : rv.ownBlock ≠ some g := fun e => by have := (World.ownsRow.lt hor g e).1; have := HBW9.out.size; have := HH5.out; omega
              have lg := World.block_lt_of_cell? wr _ hcr
              obtain ⟨i0, hi0, hz0, hz1, hz2⟩ := info_parts info27
              clear hbr hor hbw hc hse hL hm hiv HR hmv HB9 HOE5
              have HON : Hid (∀ W, Grown wr W → W.ownsRow h5 27 1 rv (twV vals j).length (twV vals j) ∧ h5 ≤ W.heap.size) := fun W hW => ⟨own_fr HOR.out (fr_grown hW fun _ => False) fun _ _ e => e, by have := hW.size; omega⟩
              have hgd0 : Grown wr ((wr.alloc (.cells #[.slice sa L sc, .slice sa L sc] 27)).drew) := ((Grown.refl _).alloc _).drew
              have HD : Hid (((wr.alloc (.cells #[.slice sa L sc, .slice sa L sc] 27)).drew).heap[wr.heap.size]? = some (.cells #[.slice sa L sc, .slice sa L sc] 27 (0, 0))) := heap_alloc_new wr _
              have HON2 := Hid.mk' (HON.out _ hgd0)
              have HFIN : Hid (∀ wn v', wn.ownsRow h5 27 1 v' (twV vals j ++ [Value.slice sa L sc, Value.slice sa L sc]).length (twV vals j ++ [Value.slice sa L sc, Value.slice sa L sc]) → Below h5 ((wr.alloc (.cells #[.slice sa L sc, .slice sa L sc] 27)).drew) wn → Below h5 w9 wn ∧ wn.ownsRow h5 27 1 v' (twV vals (j + 1)).length (twV vals (j + 1))) := fun wn v' ho hb => by
                refine ⟨HBR.out.trans ((hgd0.below.mono hbz).trans hb), ?_⟩
                rw [HTW.out.1]
                exact ho
              have HTN : Hid ((twV vals j).length + 2 ≤ 1000000) := by have := HTW.out.2; show _ ≤ _; omega
              clear HOR HTW HBR hge hgd0 HON
              go_wp2_with fail
              go_region_law (refine step_V rfl (.tmp 223) (.tmp 232) rfl h5 rv (twV vals j) rfl HON2.out.1 wr.heap.size 2 2 [.slice sa L sc, .slice sa L sc] rfl rfl HD.out (by simp [Value.oneCell']) (by decide) HTN.out HON2.out.2 ?_; intro v' wn hown hgr; have HO2 := Hid.mk' (HFIN.out wn v' hown hgr); clear hown hgr)
              all_goals
                go_wp2
                go_roundg (i - (j + 1))
                case measure => omega
                case rel => exact ⟨j + 1, _, _, rfl, rfl, by have := HMJ.out; omega, by omega, Nat.le_refl _, HO2.out.1, HO2.out.2⟩
            · as_aux_lemma =>
                have hje : j = i := by omega
                subst hje
                have hneg : ¬ (0 : Int) ≤ iv := by omega
                obtain ⟨hbr, hor⟩ := HR.out
                have HB0r : Hid (Below w9.heap.size w9 wr) := by rw [HH5.out]; exact hbr
                have HBWr : Hid (Below w.heap.size w wr) := HBW9.out.trans (HB0r.out.mono HBW9.out.size)
                have hto := hor
                rw [← HVL.out] at hto
                have HSR := Hid.mk' (twice_sr HL.out HBWr.out hto)
                have hvt : ∀ z ∈ twice ss, validB z = true := fun z hz => HV.out z ((twice_mem ss z).1 hz)
                have HNW3 : Hid (Calls Tryd.prog 8 #[rv] wr fun e w' => ∃ B, e = .returned (.tuple #[.pointer (some ⟨B, 0, none⟩), .int .i64 0]) ∧ Hid (NewQ wr (twice ss) B w')) := by
                  refine (new_any _ (twice ss) wr (HT.out.below HBWr.out HT.out.pos) HSR.out (by rw [twice_len]; have := HF.out.1; omega) (fun _ => by
                    have e1 := HF.out.valid HV.out
                    rw [allT_len, totS_twice]; omega)).mono ?_
                  rintro e w' (⟨_, B3, rfl, hq3⟩ | ⟨⟨z, hz, hz2⟩, _⟩)
                  · exact ⟨B3, rfl, hq3⟩
                  · rw [hvt z hz] at hz2; cases hz2
                clear hbr hor HR hto hvt hiv HB9 HOE5
                go_upto_region 45 with fail
                go_wp2_with fail
                refine HNW3.out.mono ?_
                rintro e w10 ⟨B3, rfl, hq3⟩
                obtain ⟨LL3, L03, all3, s3, ha3, hb3⟩ := hq3.out.atm (by rw [twice_len]; have := HF.out.1; omega)
                have HBA : Hid (Below w9.heap.size w9 w10) := HB0r.out.trans (hb3.mono HB0r.out.size)
                have HBB : Hid (Below w3.heap.size w3 w10) := HB39.out.trans (HBA.out.mono HB39.out.size)
                have HBC : Hid (Below w.heap.size w w10) := HBWr.out.trans (hb3.mono HBWr.out.size)
                obtain ⟨e1, e2, e3, e4, e5⟩ := HE.out
                have t1 := HA.out.done.tells
                have t2 := HA2.out.done.tells
                have t3 := ha3.done.tells
                have e6 := t1.all t3 (fun u v _ _ => (alike_twice ss u v).symm)
                have e7 := t1.fewer t2 (fun u v _ _ h => alike_more h)
                have e8 : a ≠ b → ofP s2.st s2.bg u ≠ ofP s2.st s2.bg v := fun hn => t1.sep t2 (fun u v _ _ h => alike_more h) (by rw [e1, e2]; exact hn)
                have hu3 : ofP s3.st s3.bg u = a := by rw [← e6.1 u]; exact e1
                have hN3 : s3.wh.length = N := by rw [← e6.2]; exact e3
                rw [e3] at e7
                have hN210 := HA2.out.b2
                obtain ⟨N2, hN2⟩ : ∃ N2, s2.wh.length = N2 := ⟨_, rfl⟩
                obtain ⟨aw, haw⟩ : ∃ aw, ofP s2.st s2.bg u = aw := ⟨_, rfl⟩
                obtain ⟨bw, hbw⟩ : ∃ bw, ofP s2.st s2.bg v = bw := ⟨_, rfl⟩
                rw [hN2] at e7 hN210
                rw [haw, hbw] at e8
                have C1 : Hid (∀ W, Below w10.heap.size w10 W → Calls Tryd.prog 11 #[.pointer (some ⟨B, 0, none⟩)] W fun e w' => e = .returned (.int .i64 (N : Int)) ∧ Grown W w') := fun W hW => HLN.out W (HBB.out.trans (hW.mono HBB.out.size))
                have C2 : Hid (∀ W, Below w10.heap.size w10 W → Calls Tryd.prog 11 #[.pointer (some ⟨B2, 0, none⟩)] W fun e w' => e = .returned (.int .i64 (N2 : Int)) ∧ Grown W w') := fun W hW => by
                  rw [← hN2]
                  refine (HA2.out.below (HBA.out.trans (hW.mono HBA.out.size)) (Nat.le_refl _)).len.mono ?_
                  rintro e w' ⟨rfl, rfl⟩
                  exact ⟨rfl, Grown.refl _⟩
                have C3 : Hid (∀ W, Below w10.heap.size w10 W → Calls Tryd.prog 11 #[.pointer (some ⟨B3, 0, none⟩)] W fun e w' => e = .returned (.int .i64 (N : Int)) ∧ Grown W w') := fun W hW => by
                  rw [← hN3]
                  refine (ha3.below hW (Nat.le_refl _)).len.mono ?_
                  rintro e w' ⟨rfl, rfl⟩
                  exact ⟨rfl, Grown.refl _⟩
                have C4 : Hid (∀ W, Below w10.heap.size w10 W → Calls Tryd.prog 13 #[.pointer (some ⟨B3, 0, none⟩), .int .i64 u] W fun e w' => e = .returned (.int .i64 a) ∧ Grown W w') := fun W hW => by rw [← hu3]; exact (ha3.below hW (Nat.le_refl _)).of u
                have C5 : Hid (∀ W, Below w10.heap.size w10 W → Calls Tryd.prog 13 #[.pointer (some ⟨B2, 0, none⟩), .int .i64 u] W fun e w' => e = .returned (.int .i64 aw) ∧ Grown W w') := fun W hW => by rw [← haw]; exact (HA2.out.below (HBA.out.trans (hW.mono HBA.out.size)) (Nat.le_refl _)).of u
                have C6 : Hid (∀ W, Below w10.heap.size w10 W → Calls Tryd.prog 13 #[.pointer (some ⟨B2, 0, none⟩), .int .i64 v] W fun e w' => e = .returned (.int .i64 bw) ∧ Grown W w') := fun W hW => by rw [← hbw]; exact (HA2.out.below (HBA.out.trans (hW.mono HBA.out.size)) (Nat.le_refl _)).of v
                have HX : Hid (Below w10.heap.size w10 w10) := Below.refl _ _
                have hNN : (N : Int) ≤ (N2 : Int) := by omega
                clear hq3 ha3 hb3 e1 e2 e3 e4 e5 t1 t2 t3 e6 e7 hu3 hN3 hN2 haw hbw HNW3 HSR HA HA2 HE HF HV HL HM HT HAL HSM HLN HB39 HBW9 HB0r HBWr hda hdb
                by_cases hab : a = b
                · subst hab
                  go_wp2_with fail
                  refine (C3.out _ HX.out).mono ?_
                  rintro e wz ⟨rfl, hg⟩
                  have HX := Hid.mk' (HX.out.trans (hg.below.mono HX.out.size))
                  clear hg
                  go_wp2_with fail
                  refine (C1.out _ HX.out).mono ?_
                  rintro e wz ⟨rfl, hg⟩
                  have HX := Hid.mk' (HX.out.trans (hg.below.mono HX.out.size))
                  clear hg
                  go_wp2_with fail
                  refine (C4.out _ HX.out).mono ?_
                  rintro e wz ⟨rfl, hg⟩
                  have HX := Hid.mk' (HX.out.trans (hg.below.mono HX.out.size))
                  clear hg
                  go_wp2_with fail
                  refine (C2.out _ HX.out).mono ?_
                  rintro e wz ⟨rfl, hg⟩
                  have HX := Hid.mk' (HX.out.trans (hg.below.mono HX.out.size))
                  clear hg
                  go_wp2_with fail
                  refine (C1.out _ HX.out).mono ?_
                  rintro e wz ⟨rfl, hg⟩
                  have HX := Hid.mk' (HX.out.trans (hg.below.mono HX.out.size))
                  clear hg
                  go_wp2
                  go_ret
                  exact ⟨by first | rfl | (show Ending.returned (Value.bool _) = _; simp [hab, hab2]), HBC.out.trans (HX.out.mono HBC.out.size)⟩
                · have hab2 : ¬ aw = bw := e8 hab
                  go_wp2_with fail
                  refine (C5.out _ HX.out).mono ?_
                  rintro e wz ⟨rfl, hg⟩
                  have HX := Hid.mk' (HX.out.trans (hg.below.mono HX.out.size))
                  clear hg
                  go_wp2_with fail
                  refine (C6.out _ HX.out).mono ?_
                  rintro e wz ⟨rfl, hg⟩
                  have HX := Hid.mk' (HX.out.trans (hg.below.mono HX.out.size))
                  clear hg
                  go_wp2_with fail
                  refine (C3.out _ HX.out).mono ?_
                  rintro e wz ⟨rfl, hg⟩
                  have HX := Hid.mk' (HX.out.trans (hg.below.mono HX.out.size))
                  clear hg
                  go_wp2_with fail
                  refine (C1.out _ HX.out).mono ?_
                  rintro e wz ⟨rfl, hg⟩
                  have HX := Hid.mk' (HX.out.trans (hg.below.mono HX.out.size))
                  clear hg
                  go_wp2_with fail
                  refine (C4.out _ HX.out).mono ?_
                  rintro e wz ⟨rfl, hg⟩
                  have HX := Hid.mk' (HX.out.trans (hg.below.mono HX.out.size))
                  clear hg
                  go_wp2_with fail
                  refine (C2.out _ HX.out).mono ?_
                  rintro e wz ⟨rfl, hg⟩
                  have HX := Hid.mk' (HX.out.trans (hg.below.mono HX.out.size))
                  clear hg
                  go_wp2_with fail
                  refine (C1.out _ HX.out).mono ?_
                  rintro e wz ⟨rfl, hg⟩
                  have HX := Hid.mk' (HX.out.trans (hg.below.mono HX.out.size))
                  clear hg
                  go_wp2
                  go_ret
                  exact ⟨by first | rfl | (show Ending.returned (Value.bool _) = _; simp [hab, hab2]), HBC.out.trans (HX.out.mono HBC.out.size)⟩
        | true =>
          have hun : isUn u := (unB_iff u).1 HE.out.2.2.2.1
          obtain ⟨k, hk, hkN⟩ := HA.out.done.tells.yes u hun
          obtain ⟨l, ⟨l1, l2, l3⟩, hset⟩ := (HA.out.below HBR.out (Nat.le_refl _)).set hkN
          rw [← hk, HE.out.1] at hset
          have HSET := Hid.mk' hset
          have HIU : Hid (inS l u) := (l2 u).2 hk
          have HRW := Hid.mk' l1
          have HUN : Hid (∀ x ∈ l, 0 ≤ x.1 ∧ x.2 ≤ 1114367) := fun x hx => by
            have h1 := HA.out.done.tells.un ((l2 x.1).1 ⟨x, hx, Int.le_refl _, l1.2 x hx⟩)
            have h2 := HA.out.done.tells.un ((l2 x.2).1 ⟨x, hx, l1.2 x hx, Int.le_refl _⟩)
            obtain ⟨y, hy, y1, y2⟩ := h1
            obtain ⟨z, hz, z1, z2⟩ := h2
            simp only [anyR, List.mem_cons, List.not_mem_nil, or_false] at hy hz
            constructor
            · rcases hy with rfl | rfl | rfl <;> simp only at y1 <;> omega
            · rcases hz with rfl | rfl | rfl <;> simp only at z2 <;> omega
          clear hun hk hkN l1 l2 hset HOU HOV
          go_wp2_with fail
          refine HSET.out.mono ?_
          rintro e we ⟨sv, rfl, h1, h2⟩
          obtain ⟨sa, sc, hse, hcap, hrd⟩ := h1.rs
          obtain ⟨ln, hln⟩ : ∃ ln, l.length = ln := ⟨_, rfl⟩
          rw [hln] at hse hcap l3
          subst hse
          have HRD := Hid.mk' hrd
          have HLN2 := Hid.mk' hln
          have HBE : Hid (Below w3.heap.size w3 we) := HBR.out.trans (h2.mono HBR.out.size)
          have hlI : (ln : Int) ≤ 10000 := by omega
          clear h1 h2 hrd hln HBR HSET
          go_wp2
          go_loopg [22, 23] ln (fun q s22 s23 wr => ∃ (j : Nat) (nb : Bool), s22 = .bool nb ∧ s23 = .int .i64 (j : Int) ∧ j ≤ ln ∧ ln - j ≤ q ∧ Hid (Grown we wr ∧ (nb = true ↔ ∃ x ∈ l.take j, x.1 ≤ u ∧ u ≤ x.2)))
          case atStart => exact ⟨0, false, rfl, rfl, by omega, by omega, Grown.refl _, by simp⟩
          case round =>
            obtain ⟨j, nb, rfl, rfl, hj1, hj2, HR⟩ := hrel
            have hjI : (j : Int) ≤ 10000 := by omega
            by_cases hjl : j < ln
            · have hjlI : (j : Int) < (ln : Int) := by omega
              have hjl2 : j < l.length := by rw [HLN2.out]; exact hjl
              obtain ⟨hgr, hnb⟩ := HR.out
              obtain ⟨g, o, hsa, hrd⟩ := HRD.out.resolve_left (fun e => by rw [e] at hjl2; simp at hjl2)
              subst hsa
              obtain ⟨ca, cb⟩ := hrd j hjl2
              obtain ⟨lo, hlo⟩ : ∃ lo, (rg l j).1 = lo := ⟨_, rfl⟩
              obtain ⟨hi, hhi⟩ : ∃ hi, (rg l j).2 = hi := ⟨_, rfl⟩
              rw [hlo] at ca
              rw [hhi] at cb
              have ca := hgr.cellv ca
              have cb := hgr.cellv cb
              have hmem := rg_mem hjl2
              have hlh := HRW.out.2 _ hmem
              have hbd := HUN.out _ hmem
              rw [hlo, hhi] at hlh hbd
              have hlh2 : ¬ hi < lo := by omega
              have hlhd : decide (hi < lo) = false := by simpa using hlh2
              have HTK : Hid (∀ nb', (nb' = true ↔ nb = true ∨ (lo ≤ u ∧ u ≤ hi)) → (nb' = true ↔ ∃ x ∈ l.take (j + 1), x.1 ≤ u ∧ u ≤ x.2)) := fun nb' hn => by
                rw [hn, hnb, List.take_succ_eq_append_getElem hjl2, ← rg_lt hjl2]
                constructor
                · rintro (⟨x, hx, x1, x2⟩ | ⟨x1, x2⟩)
                  · exact ⟨x, List.mem_append_left _ hx, x1, x2⟩
                  · exact ⟨rg l j, by simp, by rw [hlo]; exact x1, by rw [hhi]; exact x2⟩
                · rintro ⟨x, hx, x1, x2⟩
                  rcases List.mem_append.1 hx with hx | hx
                  · exact .inl ⟨x, hx, x1, x2⟩
                  · simp at hx
                    subst hx
                    exact .inr ⟨by rw [← hlo]; exact x1, by rw [← hhi]; exact x2⟩
              have HGR := Hid.mk' hgr
              rcases Nat.eq_zero_or_pos j with h0 | h0
              · have h0I : ¬ (0 : Int) < (j : Int) := by omega
                have h0d : decide ((0 : Int) < (j : Int)) = false := by simpa using h0I
                have h0N : decide (0 < j) = false := by simp; omega
                have h0e : ¬ 0 < j := by omega
                clear hgr hnb hrd hlo hhi hmem HR h0
                cases nb with
                | true =>
                  as_aux_lemma =>
                    go_wp2
                    go_big_quiet (fail)
                    go_wp2
                    go_roundg (ln - (j + 1))
                    case measure => omega
                    case rel => exact ⟨j + 1, _, rfl, by first | rfl | simp, by omega, Nat.le_refl _, HGR.out.drewN _, HTK.out _ (by simp)⟩
                | false =>
                  as_aux_lemma =>
                    by_cases hu1 : lo ≤ u
                    · by_cases hu2 : u ≤ hi
                      · go_wp2
                        go_big_quiet (fail)
                        go_wp2
                        go_roundg (ln - (j + 1))
                        case measure => omega
                        case rel => exact ⟨j + 1, _, rfl, by first | rfl | simp, by omega, Nat.le_refl _, HGR.out.drewN _, HTK.out _ (by simp [hu1, hu2])⟩
                      · have hu2d : decide (u ≤ hi) = false := by simpa using hu2
                        go_wp2
                        go_big_quiet (fail)
                        go_wp2
                        go_roundg (ln - (j + 1))
                        case measure => omega
                        case rel => exact ⟨j + 1, _, rfl, by first | rfl | simp, by omega, Nat.le_refl _, HGR.out.drewN _, HTK.out _ (by simp [hu2])⟩
                    · have hu1d : decide (lo ≤ u) = false := by simpa using hu1
                      go_wp2
                      go_big_quiet (fail)
                      go_wp2
                      go_roundg (ln - (j + 1))
                      case measure => omega
                      case rel => exact ⟨j + 1, _, rfl, by first | rfl | simp, by omega, Nat.le_refl _, HGR.out.drewN _, HTK.out _ ⟨fun e => .inl e, fun e => e.elim id fun e => absurd e.1 (by omega)⟩⟩
              · obtain ⟨j', hj'⟩ : ∃ j', j = j' + 1 := ⟨j - 1, by omega⟩
                have hjl3 : j' < l.length := by omega
                obtain ⟨_, cp⟩ := hrd j' hjl3
                obtain ⟨hp, hhp⟩ : ∃ hp, (rg l j').2 = hp := ⟨_, rfl⟩
                rw [hhp] at cp
                have cp := hgr.cellv cp
                have hgap : hp + 1 < lo := by
                  have := List.pairwise_iff_getElem.1 HRW.out.1 j' j hjl3 hjl2 (by omega)
                  rw [← rg_lt hjl3, ← rg_lt hjl2, hhp, hlo] at this
                  exact this
                have hpb := HUN.out _ (rg_mem hjl3)
                have hpb2 := HRW.out.2 _ (rg_mem hjl3)
                rw [hhp] at hpb hpb2
                have hp0 : 0 ≤ hp := by omega
                have hp1 : hp ≤ 1114367 := hpb.2
                have hgap2 : ¬ lo < hp + 2 := by omega
                have hgapd : decide (lo < hp + 2) = false := by simpa using hgap2
                have hjm : (j : Int) - 1 = (j' : Int) := by omega
                have hj'I : (j' : Int) < (ln : Int) := by omega
                have h0I : (0 : Int) < (j : Int) := by omega
                have h0d : decide ((0 : Int) < (j : Int)) = true := by simpa using h0I
                have h0N : decide (0 < j) = true := by simpa using h0
                clear hgr hnb hrd hlo hhi hmem HR hhp hpb hpb2 hj' hjl3 hgap
                cases nb with
                | true =>
                  as_aux_lemma =>
                    go_wp2
                    go_big_quiet (fail)
                    go_wp2
                    go_roundg (ln - (j + 1))
                    case measure => omega
                    case rel => exact ⟨j + 1, _, rfl, by first | rfl | simp, by omega, Nat.le_refl _, HGR.out.drewN _, HTK.out _ (by simp)⟩
                | false =>
                  as_aux_lemma =>
                    by_cases hu1 : lo ≤ u
                    · by_cases hu2 : u ≤ hi
                      · go_wp2
                        go_big_quiet (fail)
                        go_wp2
                        go_roundg (ln - (j + 1))
                        case measure => omega
                        case rel => exact ⟨j + 1, _, rfl, by first | rfl | simp, by omega, Nat.le_refl _, HGR.out.drewN _, HTK.out _ (by simp [hu1, hu2])⟩
                      · have hu2d : decide (u ≤ hi) = false := by simpa using hu2
                        go_wp2
                        go_big_quiet (fail)
                        go_wp2
                        go_roundg (ln - (j + 1))
                        case measure => omega
                        case rel => exact ⟨j + 1, _, rfl, by first | rfl | simp, by omega, Nat.le_refl _, HGR.out.drewN _, HTK.out _ (by simp [hu2])⟩
                    · have hu1d : decide (lo ≤ u) = false := by simpa using hu1
                      go_wp2
                      go_big_quiet (fail)
                      go_wp2
                      go_roundg (ln - (j + 1))
                      case measure => omega
                      case rel => exact ⟨j + 1, _, rfl, by first | rfl | simp, by omega, Nat.le_refl _, HGR.out.drewN _, HTK.out _ ⟨fun e => .inl e, fun e => e.elim id fun e => absurd e.1 (by omega)⟩⟩
            · have hje : j = ln := by omega
              subst hje
              have hnt : nb = true := by
                have := HR.out.2
                rw [List.take_of_length_le (by have := HLN2.out; omega)] at this
                exact this.2 HIU.out
              subst hnt
              have HBR : Hid (Below w3.heap.size w3 wr) := HBE.out.trans (HR.out.1.below.mono HBE.out.size)
              obtain ⟨wc, hwc⟩ : ∃ wc, wc = wr := ⟨_, rfl⟩
              subst hwc
              clear HR HRD HBE HIU HRW HUN HLN2
              obtain ⟨hh, hhe⟩ : ∃ hh, wc.heap.size = hh := ⟨_, rfl⟩
              have HHE := Hid.mk' hhe
              have HOE := Hid.mk' (own_empty wc)
              have HWB : Hid (Below w.heap.size w wc) := HB3.out.trans (HBR.out.mono HB3.out.size)
              rw [hhe] at HOE
              have HVL : Hid (vals.length = i) := by rw [Hid.out HL |>.len]; exact HN.out
              go_wp2_with (first
                | (at_builtin; go_must (first
                  | (refine push_L rfl _ _ rfl hh hh rfl HOE.out A i c vals ss rfl HVL.out (HL.out.below (HWB.out.trans (((Below.refl _ wc).alloc (Nat.le_refl _) _).mono HWB.out.size)) (Nat.le_refl _)) (by omega) (by simp; omega) ?_
                     intro v1 W1 h1 h2
                     obtain ⟨va1, vc1, hv1⟩ := own_len h1
                     rw [HVL.out] at hv1
                     have HO1 := Hid.mk' h1
                     have HB1' := Hid.mk' h2
                     have hbz1 : hh ≤ W1.heap.size := by have := h2.size; simp at this; omega
                     subst hv1
                     clear h1 h2)
                  | (refine push_V rfl _ _ rfl hh (.slice va1 i vc1) vals rfl (World.ownsRow.alloc HO1.out _) ⟨W1.heap.size, 0, none⟩ 1 1 [.slice ma mn mc] rfl rfl (fun j z hz => by
                       match j, hz with
                       | 0, hz => simp at hz; subst hz; rw [add_zero_at]; exact new_cell _ rfl rfl) (fun z hz => by simp at hz; subst hz; rfl) (by have := HVL.out; omega) (by simp; omega) ?_
                     intro v2 W2 h1 h2
                     obtain ⟨va2, vc2, hv2⟩ := own_len h1
                     obtain ⟨vn2, hvn2⟩ : ∃ vn2, (vals ++ [Value.slice ma mn mc]).length = vn2 := ⟨_, rfl⟩
                     rw [hvn2] at hv2
                     have HB2' : Hid (Below wc.heap.size wc W2) := by
                       rw [HHE.out]
                       exact ((((Below.refl _ wc).alloc (by rw [HHE.out]; exact Nat.le_refl _) _).trans HB1'.out).alloc (by omega) _).trans h2
                     have HBW2 : Hid (Below w.heap.size w W2) := HWB.out.trans (HB2'.out.mono HWB.out.size)
                     have HB32 : Hid (Below w3.heap.size w3 W2) := HBR.out.trans (HB2'.out.mono HBR.out.size)
                     have HSR := Hid.mk' (more_sr HL.out HM.out HBW2.out h1)
                     have HNW2 := Hid.mk' (new_any v2 (ss ++ [more]) W2 (HT.out.below HBW2.out HT.out.pos) HSR.out (by have := HF.out.1; simp; omega) (fun hv2 => by
                       have e1 := HF.out.valid HV.out
                       have e2 := ((validB_iff more).1 (hv2 more (by simp))).1
                       rw [allT_len, totS_append]
                       unfold totS at e1 ⊢
                       simp
                       omega))
                     subst hv2
                     clear h1 h2 hvn2)))
                | (go_at_call 8
                   refine HNW2.out.mono ?_
                   rintro e w9 (⟨hv2, B2, rfl, hq2⟩ | ⟨hv2, rfl, hg2⟩)))
              rotate_left
              · have hvm : validB more = false := by
                  obtain ⟨z, hz, hz2⟩ := hv2
                  rcases List.mem_append.1 hz with hz | hz
                  · rw [HV.out z hz] at hz2; cases hz2
                  · simp at hz; subst hz; exact hz2
                have HBW9 : Hid (Below w.heap.size w w9) := HBW2.out.trans (hg2.below.mono HBW2.out.size)
                have hrv := rvalid_any (.slice ma mn mc) more w9 (HM.out.below HBW9.out (Nat.le_refl _))
                rw [hvm] at hrv
                refine hrv.mono ?_
                rintro e w10 ⟨rfl, hg3⟩
                have HBW10 : Hid (Below w.heap.size w w10) := HBW9.out.trans (hg3.below.mono HBW9.out.size)
                clear hg2 hg3 hrv hvm
                go_wp2
                go_ret
                exact ⟨rfl, HBW10.out⟩
              obtain ⟨LL2, L02, all2, s2, ha2, hb2⟩ := hq2.out.atm (by have := HF.out.1; simp; omega)
              have HA2 := Hid.mk' ha2
              have HB39 : Hid (Below w3.heap.size w3 w9) := HB32.out.trans (hb2.mono HB32.out.size)
              have HBW9 : Hid (Below w.heap.size w w9) := HBW2.out.trans (hb2.mono HBW2.out.size)
              obtain ⟨h5, h5e⟩ : ∃ h5, w9.heap.size = h5 := ⟨_, rfl⟩
              have HH5 := Hid.mk' h5e
              have HOE5 := Hid.mk' (own_empty w9)
              rw [h5e] at HOE5
              have HB9 : Hid (Below w9.heap.size w9 (w9.alloc (.cells #[] 27))) := (Below.refl _ w9).alloc (Nat.le_refl _) _
              clear hq2 hb2 ha2 hhe h5e HOE HHE HNW2 HSR HB2' HBR HB32 HBW2 HO1 HB1' HWB hv2
              go_wp2
              go_loopg [26, 27] i (fun q s26 s27 wr => ∃ (j : Nat) (iv : Int) (rv : Value), rv = s26 ∧ s27 = .int .i64 iv ∧ iv = (i : Int) - 1 - (j : Int) ∧ j ≤ i ∧ i - j ≤ q ∧ Hid (Below h5 w9 wr ∧ wr.ownsRow h5 27 1 rv (twV vals j).length (twV vals j)))
              case atStart => exact ⟨0, _, _, rfl, rfl, by omega, by omega, by omega, by rw [← HH5.out]; exact HB9.out, by rw [HH5.out]; exact HOE5.out⟩
              case round =>
                obtain ⟨j, iv, rv, rfl, rfl, hiv, hj1, hj2, HR⟩ := hrel
                by_cases hji : j < i
                · obtain ⟨m, hm⟩ : ∃ m, m + 1 + j = i := ⟨i - 1 - j, by omega⟩
                  have hivm : iv = (m : Int) := by omega
                  have HMJ := Hid.mk' hm
                  subst hivm
                  have hmv : m < vals.length := by have := HVL.out; omega
                  have hmI : (m : Int) < (i : Int) := by omega
                  obtain ⟨g, o, hAe, hc⟩ := HL.out.rd m vals[m] (List.getElem?_eq_getElem hmv)
                  subst hAe
                  obtain ⟨hbr, hor⟩ := HR.out
                  have hbw : Below w.heap.size w wr := HBW9.out.trans (hbr.mono (by rw [← HH5.out]; exact HBW9.out.size))
                  have hcr := cell_below hc hbw (Nat.le_refl _)
                  obtain ⟨sa, sc, hse, hlx⟩ := HL.out.rs m vals[m] (ss[m]'(by rw [← HL.out.len]; exact hmv)) (List.getElem?_eq_getElem hmv) (List.getElem?_eq_getElem _)
                  obtain ⟨L, hL⟩ : ∃ L, (ss[m]'(by rw [← HL.out.len]; exact hmv)).length = L := ⟨_, rfl⟩
                  rw [hL] at hse
                  clear hlx
                  rw [hse] at hcr
                  have HTW : Hid (twV vals (j + 1) = twV vals j ++ [.slice sa L sc, .slice sa L sc] ∧ (twV vals j).length = 2 * j) := by
                    have hjv : j < vals.length := by have := HVL.out; omega
                    have e := twV_succ vals hjv
                    have hx : vals.length - 1 - j = m := by have := HVL.out; omega
                    simp only [hx] at e
                    rw [hse] at e
                    exact ⟨e, twV_len vals (by omega)⟩
                  have HBR := Hid.mk' hbr
                  have HOR := Hid.mk' hor
                  have hbz : h5 ≤ wr.heap.size := by have := hbr.size; have := HH5.out; omega
                  have hgw : g < w.heap.size := World.block_lt_of_cell? w _ hc
                  have hge : rv.ownBlock ≠ some g := fun e => by have := (World.ownsRow.lt hor g e).1; have := HBW9.out.size; have := HH5.out; omega
                  have lg := World.block_lt_of_cell? wr _ hcr
                  obtain ⟨i0, hi0, hz0, hz1, hz2⟩ := info_parts info27
                  clear hbr hor hbw hc hse hL hm hiv HR hmv HB9 HOE5
                  have HON : Hid (∀ W, Grown wr W → W.ownsRow h5 27 1 rv (twV vals j).length (twV vals j) ∧ h5 ≤ W.heap.size) := fun W hW => ⟨own_fr HOR.out (fr_grown hW fun _ => False) fun _ _ e => e, by have := hW.size; omega⟩
                  have hgd0 : Grown wr ((wr.alloc (.cells #[.slice sa L sc, .slice sa L sc] 27)).drew) := ((Grown.refl _).alloc _).drew
                  have HD : Hid (((wr.alloc (.cells #[.slice sa L sc, .slice sa L sc] 27)).drew).heap[wr.heap.size]? = some (.cells #[.slice sa L sc, .slice sa L sc] 27 (0, 0))) := heap_alloc_new wr _
                  have HON2 := Hid.mk' (HON.out _ hgd0)
                  have HFIN : Hid (∀ wn v', wn.ownsRow h5 27 1 v' (twV vals j ++ [Value.slice sa L sc, Value.slice sa L sc]).length (twV vals j ++ [Value.slice sa L sc, Value.slice sa L sc]) → Below h5 ((wr.alloc (.cells #[.slice sa L sc, .slice sa L sc] 27)).drew) wn → Below h5 w9 wn ∧ wn.ownsRow h5 27 1 v' (twV vals (j + 1)).length (twV vals (j + 1))) := fun wn v' ho hb => by
                    refine ⟨HBR.out.trans ((hgd0.below.mono hbz).trans hb), ?_⟩
                    rw [HTW.out.1]
                    exact ho
                  have HTN : Hid ((twV vals j).length + 2 ≤ 1000000) := by have := HTW.out.2; show _ ≤ _; omega
                  clear HOR HTW HBR hge hgd0 HON
                  go_wp2_with fail
                  go_region_law (refine step_V rfl (.tmp 223) (.tmp 232) rfl h5 rv (twV vals j) rfl HON2.out.1 wr.heap.size 2 2 [.slice sa L sc, .slice sa L sc] rfl rfl HD.out (by simp [Value.oneCell']) (by decide) HTN.out HON2.out.2 ?_; intro v' wn hown hgr; have HO2 := Hid.mk' (HFIN.out wn v' hown hgr); clear hown hgr)
                  all_goals
                    go_wp2
                    go_roundg (i - (j + 1))
                    case measure => omega
                    case rel => exact ⟨j + 1, _, _, rfl, rfl, by have := HMJ.out; omega, by omega, Nat.le_refl _, HO2.out.1, HO2.out.2⟩
                · as_aux_lemma =>
                    have hje : j = i := by omega
                    subst hje
                    have hneg : ¬ (0 : Int) ≤ iv := by omega
                    obtain ⟨hbr, hor⟩ := HR.out
                    have HB0r : Hid (Below w9.heap.size w9 wr) := by rw [HH5.out]; exact hbr
                    have HBWr : Hid (Below w.heap.size w wr) := HBW9.out.trans (HB0r.out.mono HBW9.out.size)
                    have hto := hor
                    rw [← HVL.out] at hto
                    have HSR := Hid.mk' (twice_sr HL.out HBWr.out hto)
                    have hvt : ∀ z ∈ twice ss, validB z = true := fun z hz => HV.out z ((twice_mem ss z).1 hz)
                    have HNW3 : Hid (Calls Tryd.prog 8 #[rv] wr fun e w' => ∃ B, e = .returned (.tuple #[.pointer (some ⟨B, 0, none⟩), .int .i64 0]) ∧ Hid (NewQ wr (twice ss) B w')) := by
                      refine (new_any _ (twice ss) wr (HT.out.below HBWr.out HT.out.pos) HSR.out (by rw [twice_len]; have := HF.out.1; omega) (fun _ => by
                        have e1 := HF.out.valid HV.out
                        rw [allT_len, totS_twice]; omega)).mono ?_
                      rintro e w' (⟨_, B3, rfl, hq3⟩ | ⟨⟨z, hz, hz2⟩, _⟩)
                      · exact ⟨B3, rfl, hq3⟩
                      · rw [hvt z hz] at hz2; cases hz2
                    clear hbr hor HR hto hvt hiv HB9 HOE5
                    go_upto_region 45 with fail
                    go_wp2_with fail
                    refine HNW3.out.mono ?_
                    rintro e w10 ⟨B3, rfl, hq3⟩
                    obtain ⟨LL3, L03, all3, s3, ha3, hb3⟩ := hq3.out.atm (by rw [twice_len]; have := HF.out.1; omega)
                    have HBA : Hid (Below w9.heap.size w9 w10) := HB0r.out.trans (hb3.mono HB0r.out.size)
                    have HBB : Hid (Below w3.heap.size w3 w10) := HB39.out.trans (HBA.out.mono HB39.out.size)
                    have HBC : Hid (Below w.heap.size w w10) := HBWr.out.trans (hb3.mono HBWr.out.size)
                    obtain ⟨e1, e2, e3, e4, e5⟩ := HE.out
                    have t1 := HA.out.done.tells
                    have t2 := HA2.out.done.tells
                    have t3 := ha3.done.tells
                    have e6 := t1.all t3 (fun u v _ _ => (alike_twice ss u v).symm)
                    have e7 := t1.fewer t2 (fun u v _ _ h => alike_more h)
                    have e8 : a ≠ b → ofP s2.st s2.bg u ≠ ofP s2.st s2.bg v := fun hn => t1.sep t2 (fun u v _ _ h => alike_more h) (by rw [e1, e2]; exact hn)
                    have hu3 : ofP s3.st s3.bg u = a := by rw [← e6.1 u]; exact e1
                    have hN3 : s3.wh.length = N := by rw [← e6.2]; exact e3
                    rw [e3] at e7
                    have hN210 := HA2.out.b2
                    obtain ⟨N2, hN2⟩ : ∃ N2, s2.wh.length = N2 := ⟨_, rfl⟩
                    obtain ⟨aw, haw⟩ : ∃ aw, ofP s2.st s2.bg u = aw := ⟨_, rfl⟩
                    obtain ⟨bw, hbw⟩ : ∃ bw, ofP s2.st s2.bg v = bw := ⟨_, rfl⟩
                    rw [hN2] at e7 hN210
                    rw [haw, hbw] at e8
                    have C1 : Hid (∀ W, Below w10.heap.size w10 W → Calls Tryd.prog 11 #[.pointer (some ⟨B, 0, none⟩)] W fun e w' => e = .returned (.int .i64 (N : Int)) ∧ Grown W w') := fun W hW => HLN.out W (HBB.out.trans (hW.mono HBB.out.size))
                    have C2 : Hid (∀ W, Below w10.heap.size w10 W → Calls Tryd.prog 11 #[.pointer (some ⟨B2, 0, none⟩)] W fun e w' => e = .returned (.int .i64 (N2 : Int)) ∧ Grown W w') := fun W hW => by
                      rw [← hN2]
                      refine (HA2.out.below (HBA.out.trans (hW.mono HBA.out.size)) (Nat.le_refl _)).len.mono ?_
                      rintro e w' ⟨rfl, rfl⟩
                      exact ⟨rfl, Grown.refl _⟩
                    have C3 : Hid (∀ W, Below w10.heap.size w10 W → Calls Tryd.prog 11 #[.pointer (some ⟨B3, 0, none⟩)] W fun e w' => e = .returned (.int .i64 (N : Int)) ∧ Grown W w') := fun W hW => by
                      rw [← hN3]
                      refine (ha3.below hW (Nat.le_refl _)).len.mono ?_
                      rintro e w' ⟨rfl, rfl⟩
                      exact ⟨rfl, Grown.refl _⟩
                    have C4 : Hid (∀ W, Below w10.heap.size w10 W → Calls Tryd.prog 13 #[.pointer (some ⟨B3, 0, none⟩), .int .i64 u] W fun e w' => e = .returned (.int .i64 a) ∧ Grown W w') := fun W hW => by rw [← hu3]; exact (ha3.below hW (Nat.le_refl _)).of u
                    have C5 : Hid (∀ W, Below w10.heap.size w10 W → Calls Tryd.prog 13 #[.pointer (some ⟨B2, 0, none⟩), .int .i64 u] W fun e w' => e = .returned (.int .i64 aw) ∧ Grown W w') := fun W hW => by rw [← haw]; exact (HA2.out.below (HBA.out.trans (hW.mono HBA.out.size)) (Nat.le_refl _)).of u
                    have C6 : Hid (∀ W, Below w10.heap.size w10 W → Calls Tryd.prog 13 #[.pointer (some ⟨B2, 0, none⟩), .int .i64 v] W fun e w' => e = .returned (.int .i64 bw) ∧ Grown W w') := fun W hW => by rw [← hbw]; exact (HA2.out.below (HBA.out.trans (hW.mono HBA.out.size)) (Nat.le_refl _)).of v
                    have HX : Hid (Below w10.heap.size w10 w10) := Below.refl _ _
                    have hNN : (N : Int) ≤ (N2 : Int) := by omega
                    clear hq3 ha3 hb3 e1 e2 e3 e4 e5 t1 t2 t3 e6 e7 hu3 hN3 hN2 haw hbw HNW3 HSR HA HA2 HE HF HV HL HM HT HAL HSM HLN HB39 HBW9 HB0r HBWr hda hdb
                    by_cases hab : a = b
                    · subst hab
                      go_wp2_with fail
                      refine (C3.out _ HX.out).mono ?_
                      rintro e wz ⟨rfl, hg⟩
                      have HX := Hid.mk' (HX.out.trans (hg.below.mono HX.out.size))
                      clear hg
                      go_wp2_with fail
                      refine (C1.out _ HX.out).mono ?_
                      rintro e wz ⟨rfl, hg⟩
                      have HX := Hid.mk' (HX.out.trans (hg.below.mono HX.out.size))
                      clear hg
                      go_wp2_with fail
                      refine (C4.out _ HX.out).mono ?_
                      rintro e wz ⟨rfl, hg⟩
                      have HX := Hid.mk' (HX.out.trans (hg.below.mono HX.out.size))
                      clear hg
                      go_wp2_with fail
                      refine (C2.out _ HX.out).mono ?_
                      rintro e wz ⟨rfl, hg⟩
                      have HX := Hid.mk' (HX.out.trans (hg.below.mono HX.out.size))
                      clear hg
                      go_wp2_with fail
                      refine (C1.out _ HX.out).mono ?_
                      rintro e wz ⟨rfl, hg⟩
                      have HX := Hid.mk' (HX.out.trans (hg.below.mono HX.out.size))
                      clear hg
                      go_wp2
                      go_ret
                      exact ⟨by first | rfl | (show Ending.returned (Value.bool _) = _; simp [hab, hab2]), HBC.out.trans (HX.out.mono HBC.out.size)⟩
                    · have hab2 : ¬ aw = bw := e8 hab
                      go_wp2_with fail
                      refine (C5.out _ HX.out).mono ?_
                      rintro e wz ⟨rfl, hg⟩
                      have HX := Hid.mk' (HX.out.trans (hg.below.mono HX.out.size))
                      clear hg
                      go_wp2_with fail
                      refine (C6.out _ HX.out).mono ?_
                      rintro e wz ⟨rfl, hg⟩
                      have HX := Hid.mk' (HX.out.trans (hg.below.mono HX.out.size))
                      clear hg
                      go_wp2_with fail
                      refine (C3.out _ HX.out).mono ?_
                      rintro e wz ⟨rfl, hg⟩
                      have HX := Hid.mk' (HX.out.trans (hg.below.mono HX.out.size))
                      clear hg
                      go_wp2_with fail
                      refine (C1.out _ HX.out).mono ?_
                      rintro e wz ⟨rfl, hg⟩
                      have HX := Hid.mk' (HX.out.trans (hg.below.mono HX.out.size))
                      clear hg
                      go_wp2_with fail
                      refine (C4.out _ HX.out).mono ?_
                      rintro e wz ⟨rfl, hg⟩
                      have HX := Hid.mk' (HX.out.trans (hg.below.mono HX.out.size))
                      clear hg
                      go_wp2_with fail
                      refine (C2.out _ HX.out).mono ?_
                      rintro e wz ⟨rfl, hg⟩
                      have HX := Hid.mk' (HX.out.trans (hg.below.mono HX.out.size))
                      clear hg
                      go_wp2_with fail
                      refine (C1.out _ HX.out).mono ?_
                      rintro e wz ⟨rfl, hg⟩
                      have HX := Hid.mk' (HX.out.trans (hg.below.mono HX.out.size))
                      clear hg
                      go_wp2
                      go_ret
                      exact ⟨by first | rfl | (show Ending.returned (Value.bool _) = _; simp [hab, hab2]), HBC.out.trans (HX.out.mono HBC.out.size)⟩
end Go.Proofs
