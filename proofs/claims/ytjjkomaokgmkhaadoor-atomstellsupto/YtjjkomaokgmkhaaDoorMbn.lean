/-
  What a table is asked: whether an atom is there, its units.
-/
import Derived.RangeFuncNested
import Derived.RangeFuncBound
import Derived.RangeFuncCalls
import Derived.RangeFuncLeaves
import Derived.Shelf.Abstract
import Derived.Shelf.RegionOpen
import Derived.WalkKit
import Derived.WalkSpells
import Derived.WalkLawsBesides
import Derived.OwnWalkIn
import Derived.TacticsInMore
import Derived.LoopNIn
import Derived.LoopIn
import Derived.BigQuiet
import Derived.RegionIn
import Derived.Deep.QuietTactic
import Derived.Deep.RegionWith
import Derived.Lib.OthersKept
import Derived.Maps.AppendAt
import Derived.Lib.SmallJoins
import Derived.Shelf.SlSortCmp.QuietGrown
import Derived.Test.YtjjkomaokgmkhaaDoorMan
import Derived.Test.YtjjkomaokgmkhaaDoorVqn
namespace Go.Proofs
open Go.RowKit Go.Shelf

set_option maxRecDepth 100000
attribute [local go_sem] Oper.semAt_some
attribute [local go_sem ↓] Go.wp_at_zero Go.wp_at_succ

theorem has29 {w : World} {base B : Nat} {sv bv pv wv mv : Value} {n mh : Nat} {st bg : List Int} {sps : List (Value × List (Int × Int))} {wh : List Nat} (h : TT w base B sv bv pv wv mv n mh st bg sps wh) (_hl : sps.length ≤ 10000) (a : Int) : Calls Tryd.prog 29 #[.pointer (some ⟨B, 0, none⟩), .int .i64 a] w fun e w' => e = .returned (.bool (decide (0 ≤ a ∧ a < (sps.length : Int)))) ∧ w' = w := by
  obtain ⟨pa, pc, hp⟩ := own_len h.p
  obtain ⟨pn, hpn⟩ : ∃ pn, sps.length = pn := ⟨_, rfl⟩
  rw [hpn] at hp ⊢
  subst hp
  have c3 : w.cell? ⟨B, 3, none⟩ = some (.slice pa pn pc) := heap_cellv h.blk rfl
  clear h hpn
  go_enter Tryd.func29, Tryd.ntmps29
  by_cases h0 : 0 ≤ a
  · have h0' : decide (0 ≤ a) = true := by simpa using h0
    go_wp2
    go_ret
    refine ⟨?_, rfl⟩
    simp [h0]
  · have h0' : decide (0 ≤ a) = false := by simpa using h0
    go_wp2
    go_ret
    refine ⟨?_, rfl⟩
    simp
theorem clone30 {w : World} {base : Nat} {v : Value} {l : List (Int × Int)} (h : OwnR w base v l) (hn : l.length ≤ 1000000) : Calls Tryd.prog 30 #[v] w fun e w' => ∃ v', e = .returned v' ∧ OwnR w' w.heap.size v' l ∧ Below w.heap.size w w' := by
  rcases h.2 with ⟨rfl, h0⟩ | ⟨g, cap, cur, rfl, _⟩
  · have : l = [] := List.eq_nil_of_length_eq_zero h0
    subst this
    refine (clone_nil w 0 0).mono ?_
    rintro e w' ⟨rfl, rfl⟩
    exact ⟨_, rfl, OwnR.nil _ _, Below.refl _ _⟩
  · exact clone_any w g 0 l.length cap l rfl (by omega) (.inr (OwnR.reads h))
theorem set_no {w : World} {base B n : Nat} {s : FS} {hi : Nat} (h : Tbl w base B n s hi) (hs : s.sp.length ≤ 10000) (a : Int) (ha : ¬ (0 ≤ a ∧ a < (s.sp.length : Int))) : Calls Tryd.prog 15 #[.pointer (some ⟨B, 0, none⟩), .int .i64 a] w fun e w' => e = .returned (.tuple #[.slice none 0 0, .bool false]) ∧ w' = w := by
  obtain ⟨sv, bv, pv, wv, mv, sps, h1, h2, h3⟩ := h
  have hl : sps.length = s.sp.length := by rw [← h2]; simp
  have H := has29 h1 (by omega) a
  rw [hl, show decide (0 ≤ a ∧ a < (s.sp.length : Int)) = false by simpa using ha] at H
  have HH := Hid.mk' H
  clear H h1 h2 h3 ha hs hl
  go_enter Tryd.func15, Tryd.ntmps15
  go_wp2_with (go_at_call 29; refine HH.out.mono ?_; rintro e w1 ⟨rfl, rfl⟩)
  exact bodyPost_ret (v := .tuple #[.slice none 0 0, .bool false]) (by simp [results, Tryd.f15, go_sem]) rfl ⟨rfl, rfl⟩
theorem set_yes {w : World} {base B n : Nat} {s : FS} {hi : Nat} (h : Tbl w base B n s hi) (hs : s.sp.length ≤ 10000) (hll : ∀ l ∈ s.sp, l.length ≤ 1000000) {k : Nat} {l : List (Int × Int)} (hk : s.sp[k]? = some l) : Calls Tryd.prog 15 #[.pointer (some ⟨B, 0, none⟩), .int .i64 (k : Int)] w fun e w' => ∃ v, e = .returned (.tuple #[v, .bool true]) ∧ OwnR w' w.heap.size v l ∧ Below w.heap.size w w' := by
  obtain ⟨sv, bv, pv, wv, mv, sps, h1, h2, h3⟩ := h
  have hl : sps.length = s.sp.length := by rw [← h2]; simp
  have hkl := (List.getElem?_eq_some_iff.1 hk).1
  have H := has29 h1 (by omega) (k : Int)
  rw [hl, show decide (0 ≤ (k : Int) ∧ (k : Int) < (s.sp.length : Int)) = true by simp; omega] at H
  have HH := Hid.mk' H
  obtain ⟨x, hx⟩ : ∃ x, sps[k]? = some x := ⟨_, List.getElem?_eq_getElem (by omega)⟩
  have hx2 : x.2 = l := by
    rw [← h2, List.getElem?_map, hx] at hk
    simpa using hk
  have hown := h1.r x (List.mem_of_getElem? hx)
  rw [hx2] at hown
  have HC := Hid.mk' (clone30 hown (hll l (List.mem_of_getElem? hk)))
  obtain ⟨pb, pc, hp, hcell⟩ : ∃ pb pc, pv = .slice (some ⟨pb, 0, none⟩) sps.length pc ∧ w.cell? ⟨pb, k, none⟩ = some x.1 := by
    rcases h1.p.2 with ⟨_, e⟩ | ⟨g, cap, cur, e, _, hg, hc, _, hsz, ht⟩
    · omega
    · refine ⟨g, cap, e, heap_cellv hg ?_⟩
      have h5 : (sps.map Prod.fst)[k]? = some x.1 := by rw [List.getElem?_map, hx]; rfl
      rw [← ht, List.getElem?_take, if_pos (by omega), Array.getElem?_toList] at h5
      exact h5
  obtain ⟨pn, hpn⟩ : ∃ pn, sps.length = pn := ⟨_, rfl⟩
  rw [hpn] at hp
  subst hp
  have hkI : (k : Int) < (pn : Int) := by omega
  have c3 : w.cell? ⟨B, 3, none⟩ = some (.slice (some ⟨pb, 0, none⟩) pn pc) := heap_cellv h1.blk rfl
  obtain ⟨xa, xc, hxe⟩ := own_len hown
  obtain ⟨ln, hln⟩ : ∃ ln, l.length = ln := ⟨_, rfl⟩
  rw [hln] at hxe
  rw [hxe] at hcell HC
  clear H h1 h2 h3 hk hkl hl hx hx2 hown hxe hln hpn hs hll
  go_enter Tryd.func15, Tryd.ntmps15
  go_wp2_with (first | (go_at_call 29; refine HH.out.mono ?_; rintro e w1 ⟨rfl, rfl⟩) | (go_at_call 30; refine HC.out.mono ?_; rintro e w2 ⟨v', rfl, h1, h2⟩; have HO := Hid.mk' (And.intro h1 h2); clear h1 h2))
  exact bodyPost_ret (v := .tuple #[v', .bool true]) (by simp [results, Tryd.f15, go_sem]) rfl ⟨_, rfl, HO.out.1, HO.out.2⟩
/-- all numbers on the way down are there -/
def hasOk (ps : List (Nat × Nat)) : Nat → Nat → Nat → Prop
  | 0, _, _ => True
  | k + 1, which, word => which < ps.length ∧ hasOk ps k (if word / 2 ^ k % 2 = 1 then (ps.getD which (0, 0)).2 else (ps.getD which (0, 0)).1) word
theorem hasOk_at {ps : List (Nat × Nat)} {up : List (List Nat)} {r : List Nat} (h : Chn ps r up) {word : Nat} (hw : word < r.length) : ∀ k, k ≤ up.length → hasOk ps k (((r :: up).getD k []).getD (word / 2 ^ k) 0) word
  | 0, _ => trivial
  | k + 1, hk => by
    have ih := hasOk_at h hw k (by omega)
    have hlt := h.len hw k (by omega)
    obtain ⟨e, h2⟩ := h.row k (by omega)
    have e2 : word / 2 ^ (k + 1) = word / 2 ^ k / 2 := by rw [Nat.pow_succ, Nat.div_div_eq_div_mul]
    have hp := (h2 (word / 2 ^ (k + 1)) (by rw [e2]; omega)).2
    have hg : ((r :: up).getD (k + 1) []) = up.getD k [] := by simp
    rw [hg]
    have hd : ps.getD ((up.getD k []).getD (word / 2 ^ (k + 1)) 0) (0, 0) = prAt ((r :: up).getD k []) (word / 2 ^ (k + 1)) := by rw [List.getD_eq_getElem?_getD, hp]; rfl
    refine ⟨(List.getElem?_eq_some_iff.1 hp).1, ?_⟩
    rw [hd]
    have hx : (if word / 2 ^ k % 2 = 1 then (prAt ((r :: up).getD k []) (word / 2 ^ (k + 1))).2 else (prAt ((r :: up).getD k []) (word / 2 ^ (k + 1))).1) = ((r :: up).getD k []).getD (word / 2 ^ k) 0 := by
      unfold prAt
      by_cases hb : word / 2 ^ k % 2 = 1
      · rw [if_pos hb, e2]
        show _ = _
        rw [show 2 * (word / 2 ^ k / 2) + 1 = word / 2 ^ k by omega]
      · rw [if_neg hb, e2]
        show _ = _
        rw [show 2 * (word / 2 ^ k / 2) = word / 2 ^ k by omega]
    rw [hx]; exact ih
theorem and_i64 (a : Nat) (ha : a ≤ 10000) : bits .and .i64 (a : Int) 1 = ((a % 2 : Nat) : Int) := by
  have h1 : (BitVec.ofInt 64 (a : Int)).toNat = a := by
    rw [BitVec.ofInt_natCast, BitVec.toNat_ofNat]; exact Nat.mod_eq_of_lt (by omega)
  have h2 : (BitVec.ofInt 64 (1 : Int)).toNat = 1 := by decide
  show IntKind.i64.wrap ((BitVec.ofInt 64 (a : Int) &&& BitVec.ofInt 64 (1 : Int)).toNat : Int) = _
  rw [BitVec.toNat_and, h1, h2, Nat.and_one_is_mod]
  exact IntWalk.i64_in _ (by omega)
theorem div_min (wd k : Nat) (h : wd ≤ 10000) : wd / 2 ^ min k 64 = wd / 2 ^ k := by
  by_cases e : k ≤ 64
  · rw [Nat.min_eq_left e]
  · have h1 : 2 ^ 64 ≤ 2 ^ k := Nat.pow_le_pow_right (by decide) (by omega)
    rw [Nat.min_eq_right (by omega), Nat.div_eq_of_lt (by omega), Nat.div_eq_of_lt (by omega)]
set_option maxHeartbeats 4000000 in
theorem has31 {w : World} {base B : Nat} {mv : Value} {ps : List (Nat × Nat)} {hi : Nat} (c5 : w.cell? ⟨B, 5, none⟩ = some mv) (c6 : w.cell? ⟨B, 6, none⟩ = some (.int .i64 (hi : Int))) (hm : w.ownsRow base 93 2 mv ps.length (pcs ps)) (hh : hi ≤ 10002) (_hpl : ps.length ≤ 1000000000) (w0 n : Nat) (hn : n ≤ 10000) (hok : hasOk ps hi w0 (n / 64)) (hv : hasP ps hi w0 (n / 64) < 18446744073709551616) :
    Calls Tryd.prog 31 #[.pointer (some ⟨B, 5, none⟩), .int .u64 (w0 : Int), .int .i64 (n : Int)] w fun e w' => e = .returned (.bool (inP ps hi w0 n)) ∧ Grown w w' := by
  obtain ⟨ma, mc, hme⟩ := own_len hm
  obtain ⟨mn, hmn⟩ : ∃ mn, ps.length = mn := ⟨_, rfl⟩
  rw [hmn] at hme
  subst hme
  obtain ⟨wd, hwd⟩ : ∃ wd, n / 64 = wd := ⟨_, rfl⟩
  rw [hwd] at hok hv
  have hwdI : (n : Int) / 64 = (wd : Int) := by omega
  have hnI : (n : Int) ≤ 10000 := by omega
  have hhI : (hi : Int) ≤ 10002 := by omega
  have hwd2 : wd ≤ 10000 := by omega
  have HP : Hid (∀ j, j < mn → ∃ pb, ma = some ⟨pb, 0, none⟩ ∧ w.cell? ⟨pb, j * 2, none⟩ = some (.int .u64 ((ps.getD j (0, 0)).1 : Int)) ∧ w.cell? ⟨pb, j * 2 + 1, none⟩ = some (.int .u64 ((ps.getD j (0, 0)).2 : Int))) := fun j hj => by
    rcases hm.2 with ⟨_, e⟩ | ⟨g, cap, cur, e, _, hg, hc, _, hsz, ht⟩
    · omega
    · injection e with e1 _ _
      obtain ⟨p1, p2⟩ := pcs_at ps (j := j) (by omega)
      have hd : ps.getD j (0, 0) = ps[j]'(by omega) := by simp [List.getD, hmn, hj]
      rw [← ht, List.getElem?_take, if_pos (by omega), Array.getElem?_toList] at p1 p2
      rw [hd]
      exact ⟨g, e1, heap_cellv hg p1, heap_cellv hg p2⟩
  have HV : Hid (hasP ps hi w0 wd < 18446744073709551616 ∧ n / 64 = wd ∧ ps.length = mn) := ⟨hv, hwd, hmn⟩
  have HOK := Hid.mk' hok
  clear hm hok hv hmn hwd
  go_enter Tryd.func31, Tryd.ntmps31
  go_wp2
  clear hwdI
  go_loopg [1, 8] hi (fun q s1 s8 wr => ∃ (k cur : Nat) (lv : Int), s1 = .int .u64 (cur : Int) ∧ s8 = .int .i64 lv ∧ lv = (k : Int) - 1 ∧ k ≤ hi ∧ k ≤ q ∧ Hid (Grown w wr ∧ hasOk ps k cur wd ∧ hasP ps k cur wd = hasP ps hi w0 wd))
  case atStart => exact ⟨hi, w0, _, rfl, rfl, rfl, Nat.le_refl _, Nat.le_refl _, Grown.refl _, HOK.out, rfl⟩
  case round =>
    obtain ⟨k, cur, lv, rfl, rfl, hlv, hk1, hk2, HR⟩ := hrel
    cases k with
    | zero =>
      have hneg : ¬ (0 : Int) ≤ lv := by omega
      obtain ⟨_, _, r3⟩ := HR.out
      have r3 : cur = hasP ps hi w0 wd := r3
      have hc64 : cur < 18446744073709551616 := by rw [r3]; exact HV.out.1
      have HR3 := Hid.mk' r3
      have HG := Hid.mk' HR.out.1
      clear hlv r3 hk1 hk2 HR
      go_wp2
      go_ret
      refine ⟨?_, HG.out⟩
      unfold inP
      rw [HV.out.2.1, ← HR3.out, Nat.testBit_eq_decide_div_mod_eq]
      have e1 : (cur : Int) / 2 ^ (n % 64) = ((cur / 2 ^ (n % 64) : Nat) : Int) := by simp
      have e2 : cur / 2 ^ (n % 64) < 18446744073709551616 := Nat.lt_of_le_of_lt (Nat.div_le_self _ _) hc64
      have e3 : bits .and .u64 ((cur : Int) / 2 ^ (n % 64)) 1 = ((cur / 2 ^ (n % 64) % 2 : Nat) : Int) := by
        have := bits_and_u64_nat _ 1 e2 (by decide)
        rw [Nat.and_one_is_mod] at this
        rw [e1]; exact this
      rw [e3]
      show Ending.returned (Value.bool _) = _
      congr 2
      rw [Bool.eq_iff_iff]
      simp only [beq_iff_eq, decide_eq_true_eq]
      omega
    | succ k =>
      have hlv : lv = (k : Int) := by omega
      subst hlv
      obtain ⟨r1, r2, r3⟩ := HR.out
      obtain ⟨o1, o2⟩ := r2
      rw [HV.out.2.2] at o1
      obtain ⟨pb, hma, p1, p2⟩ := HP.out cur o1
      subst hma
      obtain ⟨x, hx⟩ : ∃ x, (ps.getD cur (0, 0)).1 = x := ⟨_, rfl⟩
      obtain ⟨y, hy⟩ : ∃ y, (ps.getD cur (0, 0)).2 = y := ⟨_, rfl⟩
      rw [hx] at p1
      rw [hy] at p2
      have q1 := r1.cellv p1
      have q2 := r1.cellv p2
      have c5r := r1.cellv c5
      have hcI : (cur : Int) < (mn : Int) := by omega
      have hkI : (k : Int) ≤ 10002 := by omega
      have HO := Hid.mk' (And.intro o2 (And.intro r3 (And.intro hx hy)))
      have HG := Hid.mk' r1
      obtain ⟨b, hb⟩ : ∃ b, wd / 2 ^ k % 2 = b := ⟨_, rfl⟩
      have hbit : bits .and .i64 ((wd : Int) / 2 ^ min k 64) 1 = (b : Int) := by
        have e0 : (wd : Int) / 2 ^ min k 64 = ((wd / 2 ^ min k 64 : Nat) : Int) := by simp
        rw [e0, div_min wd k hwd2, and_i64 _ (Nat.le_trans (Nat.div_le_self _ _) hwd2), hb]
      have HB := Hid.mk' hb
      have hb2 : b = 0 ∨ b = 1 := by omega
      clear r1 o2 r3 hx hy HR hlv hb
      rcases hb2 with rfl | rfl
      · go_wp2
        go_roundg k
        case measure => omega
        case rel =>
          obtain ⟨o2, r3, hx, hy⟩ := HO.out
          refine ⟨k, x, _, rfl, rfl, rfl, by omega, Nat.le_refl _, HG.out.alloc _, ?_, ?_⟩
          · rw [HB.out, if_neg (by decide), hx] at o2; exact o2
          · rw [hasP, HB.out, if_neg (by decide), hx] at r3; exact r3
      · go_wp2
        go_roundg k
        case measure => omega
        case rel =>
          obtain ⟨o2, r3, hx, hy⟩ := HO.out
          refine ⟨k, y, _, rfl, rfl, rfl, by omega, Nat.le_refl _, HG.out.alloc _, ?_, ?_⟩
          · rw [HB.out, if_pos rfl, hy] at o2; exact o2
          · rw [hasP, HB.out, if_pos rfl, hy] at r3; exact r3
end Go.Proofs
