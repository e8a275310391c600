/-
  Several texts in one (Cb Cc Ce).
-/
import Derived.RangeFuncNested
import Derived.RangeFuncBound
import Derived.RangeFuncCalls
import Derived.RangeFuncLeaves
import Derived.Shelf.Abstract
import Derived.Shelf.RegionOpen
import Derived.WalkKit
import Derived.WalkSpells
import Derived.WalkLawsBesides
import Derived.OwnWalkIn
import Derived.TacticsInMore
import Derived.LoopNIn
import Derived.LoopIn
import Derived.BigQuiet
import Derived.RegionIn
import Derived.Deep.QuietTactic
import Derived.Deep.RegionWith
import Derived.Lib.OthersKept
import Derived.Maps.AppendAt
import Derived.Lib.SmallJoins
import Derived.Shelf.SlSortCmp.QuietGrown
import Derived.Deep.Upon
import Derived.Test.YtpopemkhhdekcaaDoorMgqq
import Derived.Test.YtpopemkhhdekcaaDoorMgaq
namespace Go.Proofs
open Go.RowKit Go.Shelf

set_option maxRecDepth 100000
attribute [local go_sem] Oper.semAt_some
attribute [local go_sem ↓] Go.wp_at_zero Go.wp_at_succ

theorem Rs.fr {w w' : World} {X : Nat → Prop} {v : Value} {l : List (Int × Int)} (h : Rs w v l) (hf : Fr w w' X) (hx : ∀ b, v.ownBlock = some b → ¬ X b) : Rs w' v l := by
  obtain ⟨A, c, rfl, h1, h2⟩ := h
  refine ⟨A, c, rfl, h1, h2.imp id ?_⟩
  rintro ⟨g, o, rfl, hr⟩
  refine ⟨g, o, rfl, fun j hj => ?_⟩
  have hb := hx g rfl
  have k := hr j hj
  have hlt := cell_lt k.1
  have e : w'.heap[g]? = w.heap[g]? := hf.block g hlt hb
  exact ⟨by rw [cell_same e]; exact k.1, by rw [cell_same e]; exact k.2⟩
theorem OwnR.rob {w : World} {base : Nat} {v : Value} {l : List (Int × Int)} (h : OwnR w base v l) : Rob (fun k => k < base) w fun W => Rs W v l := fun W hf => h.rs.fr hf fun b hb hx => by
  have := (World.ownsRow.lt h b hb).1
  omega
theorem clone_rs (v : Value) (l : List (Int × Int)) (w : World) (h : Rs w v l) (hn : l.length ≤ 4294967296) : Calls Tryd.prog 39 #[v] w fun e w' => ∃ v', e = .returned v' ∧ IsSl v' ∧ Rob (fun k => k < w.heap.size) w' (fun W => Rs W v' l) ∧ Below w.heap.size w w' := by
  obtain ⟨A, c, rfl, h1, h2⟩ := h
  refine (clone61 w A l.length c (fl l) (fun e => ?_) (fl_length l) (fun j u hj => ?_) (fl_one _) hn).mono ?_
  · rcases h2 with h2 | ⟨g, o, e2, _⟩
    · rw [h2]; rfl
    · rw [e] at e2; cases e2
  · have hjl : j < l.length * 2 := by rw [← fl_length]; exact (List.getElem?_eq_some_iff.1 hj).1
    obtain ⟨g, o, rfl, hd⟩ := h2.resolve_left fun e => by rw [e] at hjl; simp at hjl
    refine ⟨_, rfl, ?_⟩
    have hadd : (⟨g, o, none⟩ : Addr).add j = ⟨g, o + j, none⟩ := by unfold Addr.add; split <;> simp_all
    rw [hadd]
    obtain ⟨i, hi⟩ : ∃ i, j = i * 2 ∨ j = i * 2 + 1 := ⟨j / 2, by omega⟩
    have hil : i < l.length := by omega
    have k1 := hd i hil
    have k2 := fl_at l hil
    rcases hi with rfl | rfl
    · rw [k2.1] at hj; injection hj with hj; subst hj; exact k1.1
    · rw [k2.2] at hj; injection hj with hj; subst hj; rw [← Nat.add_assoc]; exact k1.2
  · rintro e w' ⟨v', rfl, hO, hB⟩
    have hO : OwnR w' w.heap.size v' l := hO
    exact ⟨v', rfl, hO.rs.sl, hO.rob, hB⟩
/-- the values of a row of sets -/
theorem SRd.vals {w : World} {g o : Nat} {ls : List (List (Int × Int))} (h : SRd w g o ls) : ∃ F : Nat → Value, ∀ j, j < ls.length → w.cell? ⟨g, o + j, none⟩ = some (F j) ∧ Rs w (F j) (ls.getD j []) := by
  have h' : ∀ (j : Nat) (hj : j < ls.length), ∃ sv, w.cell? ⟨g, o + j, none⟩ = some sv ∧ Rs w sv ls[j] := h
  refine ⟨fun j => if hj : j < ls.length then Classical.choose (h' j hj) else undef, fun j hj => ?_⟩
  have := Classical.choose_spec (h' j hj)
  simp only [dif_pos hj, List.getD_eq_getElem?_getD, List.getElem?_eq_getElem hj, Option.getD_some]
  exact this
theorem map_range_at (F : Nat → Value) (n j : Nat) (u : Value) (h : ((List.range n).map F)[j]? = some u) : j < n ∧ u = F j := by
  have hj : j < n := by
    have := (List.getElem?_eq_some_iff.1 h).1
    simpa using this
  rw [List.getElem?_map, List.getElem?_range hj] at h
  exact ⟨hj, (Option.some.inj h).symm⟩
theorem own_sl2 {w : World} {base : Nat} {e : TypeId} {size : Nat} {v : Value} {n : Nat} {xs : List Value} (h : w.ownsRow base e size v n xs) : ∃ a cap, v = .slice a n cap := by
  rcases h.2 with ⟨e, h0⟩ | ⟨g, cap, cur, e, _⟩
  · exact ⟨none, 0, by rw [e, h0]⟩
  · exact ⟨_, cap, e⟩
theorem isSl_one {v : Value} (h : IsSl v) : v.oneCell' = true := by
  obtain ⟨a, n, c, rfl⟩ := h
  rfl
theorem add_none (g o j : Nat) : (⟨g, o, none⟩ : Addr).add j = ⟨g, o + j, none⟩ := by unfold Addr.add; split <;> simp_all
/-- a row of sets, the first k of them copied -/
structure OR (w wr : World) (base g : Nat) (ls : List (List (Int × Int))) (F : Nat → Value) (k : Nat) (G : Nat → Value) : Prop where
  row : RowB wr g 57 G ls.length
  new : ∀ j, j < k → Rob (fun i => i < base ∨ i = g) wr fun W => Rs W (G j) (ls.getD j [])
  old : ∀ j, k ≤ j → G j = F j
  bel : Below base w wr
set_option maxHeartbeats 4000000 in
theorem ownRow_any (v : Value) (ls : List (List (Int × Int))) (w : World) (h : SR w v ls) (hn : ls.length ≤ 4294967296) (hs : ∀ l ∈ ls, l.length ≤ 4294967296) :
    Calls Tryd.prog 37 #[v] w fun e w' => ∃ v', e = .returned v' ∧ Rob (fun k => k < w.heap.size) w' (fun W => SR W v' ls) ∧ Below w.heap.size w w' := by
  obtain ⟨A, c, rfl, h1, h2⟩ := h
  obtain ⟨n, hN⟩ : ∃ n, ls.length = n := ⟨_, rfl⟩
  have HN := Hid.mk' hN
  by_cases h0 : n = 0
  · have hl0 : ls = [] := List.eq_nil_of_length_eq_zero (by omega)
    have HC : Hid (Calls Tryd.prog 53 #[.slice A 0 c] w fun e w' => ∃ v', e = .returned v' ∧ w'.ownsRow w.heap.size 57 1 v' 0 [] ∧ Below w.heap.size w w') := by
      refine clone85 w A 0 c [] (fun _ => rfl) rfl (fun j u hj => by simp at hj) (by simp) (by omega)
    subst hl0
    rw [show ([] : List (List (Int × Int))).length = 0 from rfl]
    clear h1 h2 hn hs hN HN
    go_enter Tryd.func37, Tryd.ntmps37
    go_wp2_with (go_at_call 53; refine HC.out.mono ?_; rintro e w1 ⟨v1, rfl, hO, hB⟩; obtain ⟨q1, q3, hv⟩ := own_sl2 hO; subst hv; have HO := Hid.mk' (And.intro hO hB); clear hO hB)
    go_loopw [4, 5, 10] (fun _ _ v10 wr => v10 = .int .i64 0 ∧ wr = w1) (fun _ _ _ _ => 0)
    case atStart => exact ⟨rfl, rfl⟩
    case round =>
      obtain ⟨rfl, rfl⟩ := hrel
      go_wp2
      go_ret
      refine ⟨_, rfl, fun W _ => ⟨q1, q3, rfl, Nat.zero_le _, .inl rfl⟩, HO.out.2⟩
  · obtain ⟨g0, o0, rfl, hd⟩ := h2.resolve_left fun e => h0 (by rw [← hN, e]; rfl)
    obtain ⟨F, hF⟩ := hd.vals
    have HF := Hid.mk' hF
    have hFs : ∀ j, j < n → IsSl (F j) := fun j hj => (hF j (by omega)).2.sl
    have HC : Hid (Calls Tryd.prog 53 #[.slice (some ⟨g0, o0, none⟩) n c] w fun e w' => ∃ v', e = .returned v' ∧ w'.ownsRow w.heap.size 57 1 v' n ((List.range n).map F) ∧ Below w.heap.size w w') := by
      refine clone85 w _ n c _ (fun e => by cases e) (by simp) (fun j u hj => ?_) (fun u hu => ?_) (by omega)
      · obtain ⟨hj1, rfl⟩ := map_range_at F n j u hj
        exact ⟨_, rfl, by rw [add_none]; exact (hF j (by omega)).1⟩
      · obtain ⟨j, hj, rfl⟩ := List.mem_map.1 hu
        exact isSl_one (hFs j (List.mem_range.1 hj))
    rw [hN]
    have hnI : (n : Int) ≤ 4294967296 := by omega
    have HS := Hid.mk' hs
    clear h1 h2 hd hF hs hN
    go_enter Tryd.func37, Tryd.ntmps37
    go_wp2_with (go_at_call 53; refine HC.out.mono ?_; rintro e w1 ⟨v1, rfl, hO, hB⟩; obtain ⟨g, cap, hv, hg, hcap, hrow⟩ := row_of hO h0; subst hv; have HO := Hid.mk' (And.intro hg (And.intro hcap (And.intro hrow hB))); clear hO hB hrow)
    have HK0 : Hid (OR w w1 w.heap.size g ls F 0 F) := by
      obtain ⟨k1, k2, ⟨cur, k3, k5⟩, k4⟩ := HO.out
      refine ⟨⟨cur, k3, fun j hj => ?_⟩, fun j hj => by omega, fun j _ => rfl, k4⟩
      have hj2 : j < n := by have := HN.out; omega
      rw [k5 j (by omega)]
      show some (((List.range n).map F).getD j undef) = _
      rw [List.getD_eq_getElem?_getD, List.getElem?_map, List.getElem?_range hj2]
      rfl
    go_loopw [4, 5, 10] (fun _ _ v10 wr => ∃ k : Nat, v10 = .int .i64 k ∧ k ≤ n ∧ Hid (∃ G, OR w wr w.heap.size g ls F k G)) (fun _ _ v10 _ => n - (intOf v10).toNat)
    case atStart => exact ⟨0, rfl, by omega, _, HK0.out⟩
    case round =>
      obtain ⟨k, rfl, hk, HG⟩ := hrel
      obtain ⟨G, hG⟩ := HG.out
      by_cases hlt : k < n
      · have hltI : (k : Int) < (n : Int) := by omega
        have hkl : k < ls.length := by have := HN.out; omega
        have ck : wr.cell? ⟨g, k, none⟩ = some (F k) := by rw [hG.row.cell hkl, hG.old k (Nat.le_refl _)]
        have hgl := hG.row.lt
        obtain ⟨x1, x2, x3, hx⟩ := hFs k hlt
        have HCl : Hid (∀ W, Grown wr W → Calls Tryd.prog 39 #[F k] W fun e w' => ∃ y1 y2 y3, e = .returned (.slice y1 y2 y3) ∧ Rob (fun i => i < W.heap.size) w' (fun W => Rs W (.slice y1 y2 y3) (ls.getD k [])) ∧ Below W.heap.size W w') := fun W hg => by
          have hm : ls.getD k [] ∈ ls := by rw [List.getD_eq_getElem?_getD, List.getElem?_eq_getElem hkl]; exact List.getElem_mem hkl
          refine (clone_rs (F k) (ls.getD k []) W (((HF.out k hkl).2.below hG.bel (Nat.le_refl _)).below hg.below (Nat.le_refl _)) (HS.out _ hm)).mono ?_
          rintro e w' ⟨v', rfl, ⟨y1, y2, y3, rfl⟩, h1, h2⟩
          exact ⟨y1, y2, y3, rfl, h1, h2⟩
        rw [hx] at HCl ck
        have HGG := Hid.mk' hG
        have HX := Hid.mk' hx
        have hcI : (k : Int) < (cap : Int) := by omega
        clear hG hx
        go_wp2_with (go_at_call 39; go_must (refine (HCl.out _ (by (repeat (first | exact Grown.refl _ | refine Grown.alloc ?_ _ | refine Grown.drew ?_)))).mono ?_; rintro e w5 ⟨y1, y2, y3, rfl, hr5, hb5⟩; have H5 := Hid.mk' (And.intro hr5 hb5); have hR5 : RowB w5 g 57 G ls.length := HGG.out.row.fr (fr_below hb5 (Nat.le_refl _) (fun _ => False)) id; have e5 := hR5.cell hkl; have f5 : w5.frozen? ⟨g, k, none⟩ = false := hR5.free; rw [HGG.out.old k (Nat.le_refl _), HX.out] at e5; have HR5 := Hid.mk' hR5; clear hr5 hb5 hR5))
        refine ⟨⟨k + 1, by go_num, by omega, updF G k (.slice y1 y2 y3), ?_⟩, by simp [intOf]; omega⟩
        have hG := HGG.out
        have hbl := H5.out.2
        have hfs := fr_set w5 g k (.slice y1 y2 y3)
        have hbw : w.heap.size ≤ wr.heap.size := hG.bel.size
        refine ⟨HR5.out.set k _, fun j hj => ?_, fun j hj => ?_, ?_⟩
        · by_cases e : j = k
          · subst e
            have e1 : updF G j (.slice y1 y2 y3) j = .slice y1 y2 y3 := by simp [updF]
            rw [e1]
            refine Rob.fr (H5.out.1.less fun i _ hi => ?_) hfs fun i _ e => .inr e
            show i < wr.heap.size
            rcases hi with hi | hi <;> omega
          · have e1 : updF G k (.slice y1 y2 y3) j = G j := by simp [updF, e]
            rw [e1]
            exact Rob.fr (Rob.fr (hG.new j (by omega)) (fr_below hbl (Nat.le_refl _) (fun _ => False)) fun _ _ e => e.elim) hfs fun i _ e => .inr e
        · have e1 : updF G k (.slice y1 y2 y3) j = G j := by simp [updF]; omega
          rw [e1]
          exact hG.old j (by omega)
        · exact (hG.bel.trans (hbl.mono hbw)).setCell (by have := HO.out.1; exact this) _
      · obtain rfl : k = n := by omega
        have hge : ¬ (k : Int) < (k : Int) := by omega
        clear hG
        go_wp2
        go_ret
        obtain ⟨G, hG⟩ := HG.out
        refine ⟨.slice (some ⟨g, 0, none⟩) k cap, rfl, fun W hf => ⟨some ⟨g, 0, none⟩, cap, by rw [HN.out], by rw [HN.out]; exact HO.out.2.1, .inr ⟨g, 0, rfl, fun j hj => ⟨G j, ?_, ?_⟩⟩⟩, hG.bel⟩
        · rw [Nat.zero_add]
          exact (hG.row.fr hf fun e => by have := HO.out.1; omega).cell hj
        · have := (hG.new j (by have := HN.out; omega)).less (Y := fun i => i < w.heap.size) (fun i _ e => .inl e) W hf
          rwa [List.getD_eq_getElem?_getD, List.getElem?_eq_getElem hj] at this

theorem okS_len {l : List (Int × Int)} (h : okS l = true) : l.length ≤ 512 := by
  simp only [okS, validB, Bool.and_eq_true] at h
  have := h.1
  simp at this
  omega
theorem ok_row {ls : List (List (Int × Int))} (h : ls.all okS = true) : ∀ l ∈ ls, l.length ≤ 4294967296 := fun l hl => by
  have := okS_len (List.all_eq_true.1 h l hl)
  omega
theorem ownRow_sl (v : Value) (ls : List (List (Int × Int))) (w : World) (h : SR w v ls) (hn : ls.length ≤ 8) (hs : ls.all okS = true) :
    Calls Tryd.prog 37 #[v] w fun e w' => ∃ y1 y2 y3, e = .returned (.slice y1 y2 y3) ∧ Rob (fun k => k < w.heap.size) w' (fun W => SR W (.slice y1 y2 y3) ls) ∧ Below w.heap.size w w' := by
  refine (ownRow_any v ls w h (by omega) (ok_row hs)).mono ?_
  rintro e w' ⟨v', rfl, h1, h2⟩
  obtain ⟨y1, y2, y3, rfl⟩ := h1.now.sl
  exact ⟨y1, y2, y3, rfl, h1, h2⟩
/-- the values of a row of rules -/
def RulV (w : World) (F : Nat → Value) (j : Nat) (r : Rl) : Prop := F (j * 7) = .bool r.bg ∧ F (j * 7 + 4) = .bool r.en ∧ F (j * 7 + 6) = .int .i64 r.cu ∧ RR w (F (j * 7 + 1)) (F (j * 7 + 2)) (F (j * 7 + 3)) (F (j * 7 + 5)) r
/-- some rules copied -/
structure OQ (w wr : World) (base gR : Nat) (rs : List Rl) (F : Nat → Value) (k : Nat) (G : Nat → Value) : Prop where
  row : RowB wr gR 53 G (rs.length * 7)
  new : ∀ j (hj : j < rs.length), j < k → Rob (fun i => i < base ∨ i = gR) wr fun W => RulV W G j rs[j]
  old : ∀ i, k * 7 ≤ i → G i = F i
  bel : Below base w wr

/-- what the region's operations leave that are no calls and no stores -/
def val5 (S : Value) (k rb gR : Nat) (av kv pv : Value) : Nat → Option Value
  | 0 => some S
  | 1 => some (.int .i64 k)
  | 2 => some S
  | 3 => some (.int .i64 k)
  | 4 => some S
  | 5 => some (.int .i64 k)
  | 6 => some (.pointer (some ⟨rb, 1, none⟩))
  | 7 => some av
  | 9 => some (.pointer (some ⟨rb, 2, none⟩))
  | 10 => some kv
  | 12 => some (.pointer (some ⟨rb, 3, none⟩))
  | 13 => some pv
  | 15 => some (.pointer (some ⟨gR, k * 7, none⟩))
  | 16 => some (.pointer (some ⟨gR, k * 7 + 1, none⟩))
  | 18 => some (.pointer (some ⟨gR, k * 7, none⟩))
  | 19 => some (.pointer (some ⟨gR, k * 7 + 2, none⟩))
  | 21 => some (.pointer (some ⟨gR, k * 7, none⟩))
  | 22 => some (.pointer (some ⟨gR, k * 7 + 3, none⟩))
  | _ => none
/-- the rule's cells, with what was stored -/
def Gp (GG : Nat → Value) (k : Nat) (p : Nat → Bool) (vs : Nat → Value) : Nat → Value := fun i => if p 17 = true ∧ i = k * 7 + 1 then vs 8 else if p 20 = true ∧ i = k * 7 + 2 then vs 11 else if p 23 = true ∧ i = k * 7 + 3 then vs 14 else GG i
/-- how far the region is -/
structure J5 (w wr : World) (base gR k N : Nat) (S : Value) (GG : Nat → Value) (rb : Nat) (box : Obj) (av kv pv : Value) (r : Rl) (p : Nat → Bool) (vs : Nat → Value) (W : World) : Prop where
  v : ∀ i x, val5 S k rb gR av kv pv i = some x → p i = true → vs i = x
  c8 : p 8 = true → IsSl (vs 8) ∧ Rob (fun i => i < base ∨ i = gR) W fun W => SR W (vs 8) r.ante
  c11 : p 11 = true → IsSl (vs 11) ∧ Rob (fun i => i < base ∨ i = gR) W fun W => SR W (vs 11) r.key
  c14 : p 14 = true → IsSl (vs 14) ∧ Rob (fun i => i < base ∨ i = gR) W fun W => SR W (vs 14) r.post
  s17 : p 17 = true → p 8 = true
  s20 : p 20 = true → p 11 = true
  s23 : p 23 = true → p 14 = true
  fr : Fr wr W fun i => i = gR
  bel : Below base w W
  box : W.heap[rb]? = some box
  row : RowB W gR 53 (Gp GG k p vs) N
section
variable {w wr : World} {base gR k N : Nat} {S : Value} {GG : Nat → Value} {rb : Nat} {box : Obj} {av kv pv : Value} {r : Rl} {p : Nat → Bool} {vs : Nat → Value} {W : World}
theorem J5.put (h : J5 w wr base gR k N S GG rb box av kv pv r p vs W) {i : Nat} {x : Value} (hx : val5 S k rb gR av kv pv i = some x) : J5 w wr base gR k N S GG rb box av kv pv r (fun j => p j || j == i) (fun j => if j = i then x else vs j) W := by
  have h8 : i ≠ 8 := fun e => by subst e; cases hx
  have h11 : i ≠ 11 := fun e => by subst e; cases hx
  have h14 : i ≠ 14 := fun e => by subst e; cases hx
  have h17 : i ≠ 17 := fun e => by subst e; cases hx
  have h20 : i ≠ 20 := fun e => by subst e; cases hx
  have h23 : i ≠ 23 := fun e => by subst e; cases hx
  have e : Gp GG k (fun j => p j || j == i) (fun j => if j = i then x else vs j) = Gp GG k p vs := by
    funext j
    simp [Gp, h8.symm, h11.symm, h14.symm, h17.symm, h20.symm, h23.symm]
  refine ⟨fun j y hy hj => ?_, by simpa [h8.symm] using h.c8, by simpa [h11.symm] using h.c11, by simpa [h14.symm] using h.c14, by simpa [h8.symm, h17.symm] using h.s17, by simpa [h11.symm, h20.symm] using h.s20, by simpa [h14.symm, h23.symm] using h.s23, h.fr, h.bel, h.box, by rw [e]; exact h.row⟩
  by_cases hji : j = i
  · subst hji
    rw [hx] at hy
    injection hy with hy
    simpa using hy
  · simp [hji] at hj ⊢
    exact h.v j y hy hj
/-- behind a call: the world has grown -/
theorem J5.up (h : J5 w wr base gR k N S GG rb box av kv pv r p vs W) {W' : World} (hb : Below W.heap.size W W') (hbs : base ≤ W.heap.size) : J5 w wr base gR k N S GG rb box av kv pv r p vs W' := by
  have hf : ∀ X, Fr W W' X := fun X => fr_below hb (Nat.le_refl _) X
  have hr : ∀ {P : World → Prop}, Rob (fun i => i < base ∨ i = gR) W P → Rob (fun i => i < base ∨ i = gR) W' P := fun {P} hP => hP.fr (hf fun _ => False) fun _ _ e => e.elim
  exact ⟨h.v, fun e => ⟨(h.c8 e).1, hr (h.c8 e).2⟩, fun e => ⟨(h.c11 e).1, hr (h.c11 e).2⟩, fun e => ⟨(h.c14 e).1, hr (h.c14 e).2⟩, h.s17, h.s20, h.s23, h.fr.trans (hf _) fun _ _ e => e, h.bel.trans (hb.mono hbs), (hb.block rb (blk_lt h.box)).trans h.box, h.row.fr (hf fun _ => False) id⟩

theorem J5.call8 (h : J5 w wr base gR k N S GG rb box av kv pv r p vs W) (hp : p 8 = false) {x : Value} {W' : World} (hb : Below W.heap.size W W') (hx : IsSl x) (hR : Rob (fun i => i < base ∨ i = gR) W' fun W => SR W x r.ante) (hbs : base ≤ W.heap.size) : J5 w wr base gR k N S GG rb box av kv pv r (fun j => p j || j == 8) (fun j => if j = 8 then x else vs j) W' := by
  have h2 := h.up hb hbs
  have hs : p 17 = false := by
    cases e : p 17 with
    | false => rfl
    | true => rw [h.s17 e] at hp; cases hp
  have e : Gp GG k (fun j => p j || j == 8) (fun j => if j = 8 then x else vs j) = Gp GG k p vs := by
    funext j
    simp [Gp, hs]
  refine ⟨fun j y hy hj => ?_, fun _ => ⟨hx, hR⟩, fun e => h2.c11 (by simpa using e), fun e => h2.c14 (by simpa using e), fun _ => by simp, fun e => (by simpa using h2.s20 (by simpa using e)), fun e => (by simpa using h2.s23 (by simpa using e)), h2.fr, h2.bel, h2.box, by rw [e]; exact h2.row⟩
  have hji : j ≠ 8 := fun e => by subst e; cases hy
  simp [hji] at hj ⊢
  exact h.v j y hy hj

theorem J5.call11 (h : J5 w wr base gR k N S GG rb box av kv pv r p vs W) (hp : p 11 = false) {x : Value} {W' : World} (hb : Below W.heap.size W W') (hx : IsSl x) (hR : Rob (fun i => i < base ∨ i = gR) W' fun W => SR W x r.key) (hbs : base ≤ W.heap.size) : J5 w wr base gR k N S GG rb box av kv pv r (fun j => p j || j == 11) (fun j => if j = 11 then x else vs j) W' := by
  have h2 := h.up hb hbs
  have hs : p 20 = false := by
    cases e : p 20 with
    | false => rfl
    | true => rw [h.s20 e] at hp; cases hp
  have e : Gp GG k (fun j => p j || j == 11) (fun j => if j = 11 then x else vs j) = Gp GG k p vs := by
    funext j
    simp [Gp, hs]
  refine ⟨fun j y hy hj => ?_, fun e => h2.c8 (by simpa using e), fun _ => ⟨hx, hR⟩, fun e => h2.c14 (by simpa using e), fun e => (by simpa using h2.s17 (by simpa using e)), fun _ => by simp, fun e => (by simpa using h2.s23 (by simpa using e)), h2.fr, h2.bel, h2.box, by rw [e]; exact h2.row⟩
  have hji : j ≠ 11 := fun e => by subst e; cases hy
  simp [hji] at hj ⊢
  exact h.v j y hy hj

theorem J5.call14 (h : J5 w wr base gR k N S GG rb box av kv pv r p vs W) (hp : p 14 = false) {x : Value} {W' : World} (hb : Below W.heap.size W W') (hx : IsSl x) (hR : Rob (fun i => i < base ∨ i = gR) W' fun W => SR W x r.post) (hbs : base ≤ W.heap.size) : J5 w wr base gR k N S GG rb box av kv pv r (fun j => p j || j == 14) (fun j => if j = 14 then x else vs j) W' := by
  have h2 := h.up hb hbs
  have hs : p 23 = false := by
    cases e : p 23 with
    | false => rfl
    | true => rw [h.s23 e] at hp; cases hp
  have e : Gp GG k (fun j => p j || j == 14) (fun j => if j = 14 then x else vs j) = Gp GG k p vs := by
    funext j
    simp [Gp, hs]
  refine ⟨fun j y hy hj => ?_, fun e => h2.c8 (by simpa using e), fun e => h2.c11 (by simpa using e), fun _ => ⟨hx, hR⟩, fun e => (by simpa using h2.s17 (by simpa using e)), fun e => (by simpa using h2.s20 (by simpa using e)), fun _ => by simp, h2.fr, h2.bel, h2.box, by rw [e]; exact h2.row⟩
  have hji : j ≠ 14 := fun e => by subst e; cases hy
  simp [hji] at hj ⊢
  exact h.v j y hy hj

theorem J5.store17 (h : J5 w wr base gR k N S GG rb box av kv pv r p vs W) (hc : p 8 = true) (x : Value) (hg : base ≤ gR) (hrb : rb ≠ gR) : J5 w wr base gR k N S GG rb box av kv pv r (fun j => p j || j == 17) (fun j => if j = 17 then x else vs j) (W.setCell ⟨gR, k * 7 + 1, none⟩ (vs 8)) := by
  have hf := fr_set W gR (k * 7 + 1) (vs 8)
  have hr : ∀ {P : World → Prop}, Rob (fun i => i < base ∨ i = gR) W P → Rob (fun i => i < base ∨ i = gR) (W.setCell ⟨gR, k * 7 + 1, none⟩ (vs 8)) P := fun {P} hP => hP.fr hf fun _ _ e => .inr e
  have e : Gp GG k (fun j => p j || j == 17) (fun j => if j = 17 then x else vs j) = updF (Gp GG k p vs) (k * 7 + 1) (vs 8) := by
    funext j
    unfold updF
    by_cases hj : j = k * 7 + 1
    · subst hj
      simp [Gp]
    · rw [if_neg hj]
      simp [Gp, hj]
  refine ⟨fun j y hy hj => ?_, fun e => ⟨(h.c8 (by simpa using e)).1, hr (h.c8 (by simpa using e)).2⟩, fun e => ⟨(h.c11 (by simpa using e)).1, hr (h.c11 (by simpa using e)).2⟩, fun e => ⟨(h.c14 (by simpa using e)).1, hr (h.c14 (by simpa using e)).2⟩, fun _ => (by simp [hc]), fun e => (by simpa using h.s20 (by simpa using e)), fun e => (by simpa using h.s23 (by simpa using e)), h.fr.trans hf fun _ _ e => e, h.bel.setCell hg _, (hf.block rb (blk_lt h.box) hrb).trans h.box, by rw [e]; exact h.row.set _ _⟩
  have hji : j ≠ 17 := fun e => by subst e; cases hy
  simp [hji] at hj ⊢
  exact h.v j y hy hj

theorem J5.store20 (h : J5 w wr base gR k N S GG rb box av kv pv r p vs W) (hc : p 11 = true) (x : Value) (hg : base ≤ gR) (hrb : rb ≠ gR) : J5 w wr base gR k N S GG rb box av kv pv r (fun j => p j || j == 20) (fun j => if j = 20 then x else vs j) (W.setCell ⟨gR, k * 7 + 2, none⟩ (vs 11)) := by
  have hf := fr_set W gR (k * 7 + 2) (vs 11)
  have hr : ∀ {P : World → Prop}, Rob (fun i => i < base ∨ i = gR) W P → Rob (fun i => i < base ∨ i = gR) (W.setCell ⟨gR, k * 7 + 2, none⟩ (vs 11)) P := fun {P} hP => hP.fr hf fun _ _ e => .inr e
  have e : Gp GG k (fun j => p j || j == 20) (fun j => if j = 20 then x else vs j) = updF (Gp GG k p vs) (k * 7 + 2) (vs 11) := by
    funext j
    unfold updF
    by_cases hj : j = k * 7 + 2
    · subst hj
      simp [Gp]
    · rw [if_neg hj]
      simp [Gp, hj]
  refine ⟨fun j y hy hj => ?_, fun e => ⟨(h.c8 (by simpa using e)).1, hr (h.c8 (by simpa using e)).2⟩, fun e => ⟨(h.c11 (by simpa using e)).1, hr (h.c11 (by simpa using e)).2⟩, fun e => ⟨(h.c14 (by simpa using e)).1, hr (h.c14 (by simpa using e)).2⟩, fun e => (by simpa using h.s17 (by simpa using e)), fun _ => (by simp [hc]), fun e => (by simpa using h.s23 (by simpa using e)), h.fr.trans hf fun _ _ e => e, h.bel.setCell hg _, (hf.block rb (blk_lt h.box) hrb).trans h.box, by rw [e]; exact h.row.set _ _⟩
  have hji : j ≠ 20 := fun e => by subst e; cases hy
  simp [hji] at hj ⊢
  exact h.v j y hy hj

theorem J5.store23 (h : J5 w wr base gR k N S GG rb box av kv pv r p vs W) (hc : p 14 = true) (x : Value) (hg : base ≤ gR) (hrb : rb ≠ gR) : J5 w wr base gR k N S GG rb box av kv pv r (fun j => p j || j == 23) (fun j => if j = 23 then x else vs j) (W.setCell ⟨gR, k * 7 + 3, none⟩ (vs 14)) := by
  have hf := fr_set W gR (k * 7 + 3) (vs 14)
  have hr : ∀ {P : World → Prop}, Rob (fun i => i < base ∨ i = gR) W P → Rob (fun i => i < base ∨ i = gR) (W.setCell ⟨gR, k * 7 + 3, none⟩ (vs 14)) P := fun {P} hP => hP.fr hf fun _ _ e => .inr e
  have e : Gp GG k (fun j => p j || j == 23) (fun j => if j = 23 then x else vs j) = updF (Gp GG k p vs) (k * 7 + 3) (vs 14) := by
    funext j
    unfold updF
    by_cases hj : j = k * 7 + 3
    · subst hj
      simp [Gp]
    · rw [if_neg hj]
      simp [Gp, hj]
  refine ⟨fun j y hy hj => ?_, fun e => ⟨(h.c8 (by simpa using e)).1, hr (h.c8 (by simpa using e)).2⟩, fun e => ⟨(h.c11 (by simpa using e)).1, hr (h.c11 (by simpa using e)).2⟩, fun e => ⟨(h.c14 (by simpa using e)).1, hr (h.c14 (by simpa using e)).2⟩, fun e => (by simpa using h.s17 (by simpa using e)), fun e => (by simpa using h.s20 (by simpa using e)), fun _ => (by simp [hc]), h.fr.trans hf fun _ _ e => e, h.bel.setCell hg _, (hf.block rb (blk_lt h.box) hrb).trans h.box, by rw [e]; exact h.row.set _ _⟩
  have hji : j ≠ 23 := fun e => by subst e; cases hy
  simp [hji] at hj ⊢
  exact h.v j y hy hj
end
end Go.Proofs
