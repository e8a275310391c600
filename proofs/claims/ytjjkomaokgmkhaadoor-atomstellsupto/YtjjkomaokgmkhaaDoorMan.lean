/-
  A table is made.
-/
import Derived.RangeFuncNested
import Derived.RangeFuncBound
import Derived.RangeFuncCalls
import Derived.RangeFuncLeaves
import Derived.Shelf.Abstract
import Derived.Shelf.RegionOpen
import Derived.WalkKit
import Derived.WalkSpells
import Derived.WalkLawsBesides
import Derived.OwnWalkIn
import Derived.TacticsInMore
import Derived.LoopNIn
import Derived.LoopIn
import Derived.BigQuiet
import Derived.RegionIn
import Derived.Deep.QuietTactic
import Derived.Deep.RegionWith
import Derived.Lib.OthersKept
import Derived.Maps.AppendAt
import Derived.Lib.SmallJoins
import Derived.Shelf.SlSortCmp.QuietGrown
import Derived.Test.YtjjkomaokgmkhaaDoorLjn
import Derived.Test.YtjjkomaokgmkhaaDoorGen
namespace Go.Proofs
open Go.RowKit Go.Shelf

set_option maxRecDepth 100000
attribute [local go_sem] Oper.semAt_some
attribute [local go_sem ↓] Go.wp_at_zero Go.wp_at_succ

theorem okS_of {ss : List (List (Int × Int))} (h : ∀ s ∈ ss, validB s = true) : OkS ss := fun s hs => by
  obtain ⟨_, h1, h2⟩ := (validB_iff s).1 (h s hs)
  refine ⟨⟨h2.imp fun e => by omega, fun x hx => (h1 x hx).1⟩, fun u hu => ?_⟩
  obtain ⟨x, hx, e1, e2⟩ := hu
  obtain ⟨_, h3 | h3 | h3⟩ := h1 x hx
  · exact ⟨(0, 55295), by simp [anyR], by simp only; omega, by simp only; omega⟩
  · exact ⟨(57344, 1114111), by simp [anyR], by simp only; omega, by simp only; omega⟩
  · exact ⟨(1114240, 1114367), by simp [anyR], by simp only; omega, by simp only; omega⟩
/-- behind New -/
def NewQ (w : World) (ss : List (List (Int × Int))) (B : Nat) (W : World) : Prop := ∃ LL L0 all s, Done ss LL L0 all s ∧ Tbl W w.heap.size B ss.length s LL.length ∧ Below w.heap.size w W ∧ s.st.length ≤ 10000 ∧ s.wh.length ≤ 10000 ∧ LL.length ≤ 10002 ∧ s.ps.length ≤ 1000000000
/-- the table's own block, and turns: they are not one -/
theorem turn_off {w : World} {B n g o : Nat} {l : List (Int × Int)} (hb : w.heap[B]? = some (.cells #[.int .i64 (n : Int), .slice none 0 0, .slice none 0 0, .slice none 0 0, .slice none 0 0, .slice none 0 0, .int .i64 0] 53 (0, 0))) (h : Reads w g o l) (hl : 0 < l.length) : g ≠ B := by
  rintro rfl
  obtain ⟨h1, h2⟩ := h 0 hl
  rw [cell_of hb] at h1 h2
  simp only [Nat.zero_mul, Nat.add_zero] at h1 h2
  match o, h1, h2 with
  | 0, h1, h2 => simp at h2
  | 1, h1, h2 => simp at h1
  | 2, h1, h2 => simp at h1
  | 3, h1, h2 => simp at h1
  | 4, h1, h2 => simp at h1
  | 5, h1, h2 => simp at h1
  | o + 6, h1, h2 => simp at h2
theorem new_fill {w w1 w2 : World} {ss : List (List (Int × Int))} {n : Nat} (hn : ss.length = n) (hv : ∀ s ∈ ss, validB s = true) (hnb : n ≤ 5000) (hl : (allT 0 ss).length ≤ 9000) {B : Nat} (hB : w1.heap.size = B) (h1 : Grown w w1) {v : Value} {all : List (Int × Int)} (hr : Rs w2 v all) (hp : all.Perm (allT 0 (ss ++ [anyR]))) (ha : AscT all) (hb : Below (w1.heap.size + 1) (w1.alloc (.cells #[.int .i64 (n : Int), .slice none 0 0, .slice none 0 0, .slice none 0 0, .slice none 0 0, .slice none 0 0, .int .i64 0] 53 (0, 0))) w2) :
    Calls Tryd.prog 23 #[.pointer (some ⟨B, 0, none⟩), v] w2 fun e w' => e = .returned (.tuple #[]) ∧ Hid (NewQ w ss B w') := by
  have hbk : w2.heap[B]? = some (.cells #[.int .i64 (n : Int), .slice none 0 0, .slice none 0 0, .slice none 0 0, .slice none 0 0, .slice none 0 0, .int .i64 0] 53 (0, 0)) := by
    rw [← hB, hb.block _ (by omega)]
    exact heap_alloc_new _ _
  have hok := okS_of hv
  have hlen : all.length = (allT 0 ss).length + 6 := by
    rw [hp.length_eq, allT_snoc, List.length_append]; rfl
  obtain ⟨a, cap, rfl, hcap, h0 | ⟨g, o, rfl, hrd⟩⟩ := hr
  · rw [h0] at hlen; simp at hlen
  · have hws := h1.size
    have htt : TT w2 w.heap.size B (.slice none 0 0) (.slice none 0 0) (.slice none 0 0) (.slice none 0 0) (.slice none 0 0) n 0 [] [] [] [] := ⟨by omega, hbk, OwnI.nil _ _, OwnI.nil _ _, World.ownsRow_nil _ _ _ _, fun x hx => by simp at hx, fun i j x y k hx => by simp at hx, World.ownsRow_nil _ _ _ _, fun k hk => by simp [Value.ownBlock] at hk⟩
    have hrise : all.Pairwise ltT := turn_rise (hp.nodup_iff.2 (allT_nodup 0 (all_ok hok))) (ha.imp fun h => h)
    have hat := turn_at hok hp
    rw [hn] at hat
    refine (fill_any htt rfl (by omega) hrd hcap (turn_off hbk hrd (by omega)) hrise hat (by omega) (by omega)).mono ?_
    rintro e w' ⟨rfl, hq⟩
    obtain ⟨LL, L0, s, q1, q2, q3, q4, q5, q6, q7, q8⟩ := hq.out
    refine ⟨rfl, LL, L0, all, s, ⟨hok, by rw [hn]; exact q1, hp, q2⟩, by rw [hn]; exact q3, ?_, q5, q6, q7, q8⟩
    have f1 : Below w.heap.size w w2 := (h1.below.trans ((Below.refl _ w1).alloc (by omega) _)).trans (hb.mono (by omega))
    exact f1.trans (q4.below (fun k e => by have e : k = B := e; omega) (by have := f1.size; omega))

theorem turn_bd {ss : List (List (Int × Int))} (hv : ∀ s ∈ ss, validB s = true) : ∀ s ∈ ss, ∀ x ∈ s, 0 ≤ x.1 ∧ x.1 ≤ 1114367 ∧ 0 ≤ x.2 ∧ x.2 ≤ 1114367 := fun s hs x hx => by
  obtain ⟨_, h1, _⟩ := (validB_iff s).1 (hv s hs)
  obtain ⟨h2, h3 | h3 | h3⟩ := h1 x hx <;> omega
set_option maxHeartbeats 4000000 in
theorem new_walk (la : Option Addr) (n c : Nat) (ss : List (List (Int × Int))) (w : World) (hT : Tab w) (hN : ss.length = n) (hc : n ≤ c) (h : ss = [] ∨ ∃ g o, la = some ⟨g, o, none⟩ ∧ SRd w g o ss) (hnb : n ≤ 5000) (hl : (∀ s ∈ ss, validB s = true) → (allT 0 ss).length ≤ 9000) :
    Calls Tryd.prog 8 #[.slice la n c] w fun e w' => ((∀ s ∈ ss, validB s = true) ∧ ∃ B, e = .returned (.tuple #[.pointer (some ⟨B, 0, none⟩), .int .i64 0]) ∧ Hid (NewQ w ss B w')) ∨ ((∃ s ∈ ss, validB s = false) ∧ e = .returned (.tuple #[.pointer none, .int .i64 20]) ∧ Grown w w') := by
  have HS := Hid.mk' h
  have HT := Hid.mk' hT
  have HNN := Hid.mk' hN
  have HLL := Hid.mk' hl
  have hNI : (n : Int) ≤ 5000 := by omega
  have HC := Hid.mk' hc
  clear h hT hN hl hc
  go_enter Tryd.func8, Tryd.ntmps8
  go_wp2
  go_loopg [9] n (fun q s9 wr => ∃ k : Nat, s9 = .int .i64 (k : Int) ∧ k ≤ n ∧ n - k ≤ q ∧ Hid (Grown w wr ∧ ∀ j (hj : j < ss.length), j < k → validB ss[j] = true))
  case atStart => exact ⟨0, rfl, by omega, by omega, Grown.refl _, fun j hj h => by omega⟩
  case round =>
    obtain ⟨k, rfl, hk1, hk2, HR⟩ := hrel
    by_cases hkn : k < n
    · have hkI : (k : Int) < (n : Int) := by omega
      have hks : k < ss.length := by rw [HNN.out]; exact hkn
      obtain ⟨g, o, hla, hSd⟩ := HS.out.resolve_left (fun e => by rw [e] at hks; simp at hks)
      subst hla
      obtain ⟨sv, hsv, hrs⟩ := hSd k hks
      clear hSd
      have hcv := HR.out.1.cellv hsv
      have HV := Hid.mk' (valid_any sv ss[k] wr (HT.out.grown HR.out.1) (hrs.below HR.out.1.below (Nat.le_refl _)))
      obtain ⟨sa, sc, hse, _⟩ := hrs
      obtain ⟨sn, hsn⟩ : ∃ sn, ss[k].length = sn := ⟨_, rfl⟩
      rw [hsn] at hse
      subst hse
      obtain ⟨vb, hvb⟩ : ∃ vb, validB ss[k] = vb := ⟨_, rfl⟩
      rw [hvb] at HV
      have HVB := Hid.mk' hvb
      clear hsn hsv hvb
      cases vb with
      | true =>
        go_wp2_with (go_at_call 22; refine HV.out.mono ?_; rintro e w1 ⟨rfl, hg⟩; have HG := Hid.mk' hg; clear hg)
        go_roundg (n - (k + 1))
        case measure => omega
        case rel =>
          refine ⟨k + 1, rfl, by omega, Nat.le_refl _, HR.out.1.trans HG.out, fun j hj hjk => ?_⟩
          by_cases e : j = k
          · subst e; exact HVB.out
          · exact HR.out.2 j hj (by omega)
      | false =>
        go_wp2_with (go_at_call 22; refine HV.out.mono ?_; rintro e w1 ⟨rfl, hg⟩; have HG := Hid.mk' hg; clear hg)
        exact bodyPost_ret (v := .tuple #[.pointer none, .int .i64 20]) (by simp [results, Tryd.f8, go_sem]) rfl (.inr ⟨⟨_, List.getElem_mem hks, HVB.out⟩, rfl, HR.out.1.trans HG.out⟩)
    · have hkI : ¬ (k : Int) < (n : Int) := by omega
      have hv : ∀ s ∈ ss, validB s = true := fun s hs => by
        obtain ⟨j, hj, rfl⟩ := List.getElem_of_mem hs
        exact HR.out.2 j hj (by have := HNN.out; omega)
      have HG := Hid.mk' HR.out.1
      have hll := HLL.out hv
      have HV := Hid.mk' hv
      have HTU : Hid (∀ W, Grown w W → Calls Tryd.prog 24 #[.slice la n c] W fun e w' => ∃ v all, e = .returned v ∧ Rs w' v all ∧ all.Perm (allT 0 (ss ++ [anyR])) ∧ AscT all ∧ Below W.heap.size W w') := fun W hW => by
        refine turns_any (.slice la n c) ss W (HT.out.grown hW) (SR.grown ⟨la, c, by rw [HNN.out], by rw [HNN.out]; exact HC.out, HS.out⟩ hW) (by rw [HNN.out]; omega) (turn_bd hv) (by omega)
      have HL2 := Hid.mk' hll
      have hkn2 : k = n := by omega
      subst hkn2
      clear HR hv hll
      go_wp2_with (first
        | (go_at_call 24
           refine (HTU.out _ (HG.out.alloc _)).mono ?_
           rintro e w2 ⟨v, all, rfl, h1, h2, h3, h4⟩
           have HF := Hid.mk' (new_fill HNN.out HV.out hnb HL2.out rfl HG.out h1 h2 h3 (by simpa using h4))
           obtain ⟨va, vc, hve, _⟩ := h1
           obtain ⟨vn, hvn⟩ : ∃ vn, all.length = vn := ⟨_, rfl⟩
           rw [hvn] at hve
           subst hve
           clear h2 h3 h4 hvn)
        | (go_at_call 23
           refine HF.out.mono ?_
           rintro e w3 ⟨rfl, hq⟩))
      exact bodyPost_ret (v := .tuple #[.pointer (some ⟨wr.heap.size, 0, none⟩), .int .i64 0]) (by simp [results, Tryd.f8, go_sem]) rfl (.inl ⟨HV.out, _, rfl, hq⟩)
theorem new_any (lv : Value) (ss : List (List (Int × Int))) (w : World) (hT : Tab w) (h : SR w lv ss) (hnb : ss.length ≤ 5000) (hl : (∀ s ∈ ss, validB s = true) → (allT 0 ss).length ≤ 9000) :
    Calls Tryd.prog 8 #[lv] w fun e w' => ((∀ s ∈ ss, validB s = true) ∧ ∃ B, e = .returned (.tuple #[.pointer (some ⟨B, 0, none⟩), .int .i64 0]) ∧ Hid (NewQ w ss B w')) ∨ ((∃ s ∈ ss, validB s = false) ∧ e = .returned (.tuple #[.pointer none, .int .i64 20]) ∧ Grown w w') := by
  obtain ⟨la, c, rfl, hc, h⟩ := h
  exact new_walk la _ c ss w hT rfl hc h hnb hl
end Go.Proofs
