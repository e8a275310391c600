/-
  A tally is turned.
-/
import Derived.RangeFuncNested
import Derived.RangeFuncBound
import Derived.RangeFuncCalls
import Derived.RangeFuncLeaves
import Derived.Shelf.Abstract
import Derived.Shelf.RegionOpen
import Derived.WalkKit
import Derived.WalkSpells
import Derived.WalkLawsBesides
import Derived.OwnWalkIn
import Derived.TacticsInMore
import Derived.LoopNIn
import Derived.LoopIn
import Derived.BigQuiet
import Derived.RegionIn
import Derived.Deep.QuietTactic
import Derived.Deep.RegionWith
import Derived.Lib.OthersKept
import Derived.Maps.AppendAt
import Derived.Lib.SmallJoins
import Derived.Shelf.SlSortCmp.QuietGrown
import Derived.Deep.LoopGhost
import Derived.Laws.Bits64
import Derived.Test.YtjjkomaokgmkhaaDoorHkn
import Derived.Test.YtjjkomaokgmkhaaDoorAbn
namespace Go.Proofs
open Go.RowKit Go.Shelf

set_option maxRecDepth 100000
attribute [local go_sem] Oper.semAt_some
attribute [local go_sem ↓] Go.wp_at_zero Go.wp_at_succ
def val36a (T Bx b0 l0 rb rn rc x y m v : Nat) : Nat → Option Value
  | 0 => some (.pointer (some ⟨T, 0, none⟩))
  | 1 => some (.pointer (some ⟨T, 0, none⟩))
  | 2 => some (.pointer (some ⟨T, 2, none⟩))
  | 3 => some (.slice (some ⟨rb, 0, none⟩) rn rc)
  | 4 => some (.pointer (some ⟨rb, 0, none⟩))
  | 5 => some (.slice (some ⟨b0, 0, none⟩) l0 l0)
  | 6 => some (.pointer (some ⟨Bx, 1, none⟩))
  | 7 => some (.int .i64 (x : Int))
  | 8 => some (.int .i64 (y : Int))
  | 9 => some (.pointer (some ⟨b0, y, none⟩))
  | 10 => some (.int .u64 (v : Int))
  | 11 => some (.pointer (some ⟨Bx, 1, none⟩))
  | 12 => some (.int .i64 (x : Int))
  | 13 => some (.int .i64 (m : Int))
  | 14 => some (.int .u64 ((2 ^ m : Nat) : Int))
  | 15 => some (.int .u64 ((v ^^^ 2 ^ m : Nat) : Int))
  | 16 => some (.pointer (some ⟨b0, y, none⟩))
  | _ => none
def val36b (T Bx x y : Nat) (va : Option Addr) (vn vc : Nat) : Nat → Option Value
  | 0 => some (.pointer (some ⟨T, 0, none⟩))
  | 1 => some (.pointer (some ⟨T, 0, none⟩))
  | 2 => some (.pointer (some ⟨T, 0, none⟩))
  | 3 => some (.pointer (some ⟨T, 4, none⟩))
  | 4 => some (.slice va vn vc)
  | 5 => some (.pointer (some ⟨Bx, 1, none⟩))
  | 6 => some (.int .i64 (x : Int))
  | 7 => some (.int .i64 (y : Int))
  | 10 => some (.pointer (some ⟨T, 0, none⟩))
  | 11 => some (.pointer (some ⟨T, 4, none⟩))
  | _ => none
def val36c (T rb rn rc k k1 t t2 t3 kb kl ab al pa pb : Nat) : Nat → Option Value
  | 0 => some (.pointer (some ⟨T, 0, none⟩))
  | 1 => some (.pointer (some ⟨T, 0, none⟩))
  | 2 => some (.pointer (some ⟨T, 2, none⟩))
  | 3 => some (.slice (some ⟨rb, 0, none⟩) rn rc)
  | 4 => some (.int .i64 (k : Int))
  | 5 => some (.int .i64 (k1 : Int))
  | 6 => some (.pointer (some ⟨rb, k1, none⟩))
  | 7 => some (.slice (some ⟨ab, 0, none⟩) al al)
  | 8 => some (.int .i64 (t : Int))
  | 9 => some (.pointer (some ⟨T, 0, none⟩))
  | 10 => some (.slice (some ⟨kb, 0, none⟩) kl kl)
  | 11 => some (.int .i64 (t : Int))
  | 12 => some (.int .i64 (t2 : Int))
  | 13 => some (.pointer (some ⟨kb, t2, none⟩))
  | 14 => some (.int .u64 (pa : Int))
  | 15 => some (.slice (some ⟨kb, 0, none⟩) kl kl)
  | 16 => some (.int .i64 (t : Int))
  | 17 => some (.int .i64 (t2 : Int))
  | 18 => some (.int .i64 (t3 : Int))
  | 19 => some (.pointer (some ⟨kb, t3, none⟩))
  | 20 => some (.int .u64 (pb : Int))
  | 21 => some (.agg #[.int .u64 (pa : Int), .int .u64 (pb : Int)])
  | 23 => some (.pointer (some ⟨ab, t, none⟩))
  | _ => none

def E36 (y : Nat) : Nat → Value → World → Prop
  | 8, v, W => ∃ g, v = .slice (some ⟨g, 0, none⟩) 1 1 ∧ W.heap[g]? = some (.cells #[.int .i64 (y : Int)] 3 (0, 0))
  | _, _, _ => True
theorem E36s {y : Nat} : ∀ i v W W', E36 y i v W → Grown W W' → E36 y i v W' := fun i v W W' h hg => by
  unfold E36 at h ⊢
  split
  · obtain ⟨g, h1, h2⟩ := h
    exact ⟨g, h1, (hg.below.block _ (blk_lt h2)).trans h2⟩
  · trivial
def PA36 (X : World) (base : Nat) (uv : Value) (vn : Nat) (tsi : List Int) (y : Nat) (v : Value) (W : World) : Prop := ∃ W3, Grown X W3 ∧ W.ownsRow base 3 1 v (vn + 1) (ints tsi ++ [.int .i64 (y : Int)]) ∧ W3.grownBy W uv.ownBlock ∧ Loc W3 uv v
theorem own_ints {w : World} {base vn : Nat} {v : Value} {tsi : List Int} {y : Int} (h : w.ownsRow base 3 1 v (vn + 1) (ints tsi ++ [.int .i64 y])) (hn : tsi.length = vn) : OwnI w base v (tsi ++ [y]) := by
  unfold OwnI
  rw [List.length_append, hn, show ints (tsi ++ [y]) = ints tsi ++ [.int .i64 y] by simp [ints]]
  exact h
theorem loc_up {w w' : World} {v v' : Value} (h : Loc w' v v') (hs : w.heap.size ≤ w'.heap.size) : Loc w v v' := by
  rcases h with h | ⟨j, h, hj⟩
  · exact .inl h
  · exact .inr ⟨j, h, by omega⟩
theorem loc_trans {w w' : World} {a b c : Value} (h : Loc w a b) (k : Loc w' b c) (hs : w.heap.size ≤ w'.heap.size) : Loc w a c := by
  rcases k with k | ⟨j, k, hj⟩
  · rcases h with h | ⟨j, h, hj⟩
    · exact .inl (k.trans h)
    · exact .inr ⟨j, k.trans h, hj⟩
  · exact .inr ⟨j, k, by omega⟩
theorem loc_old {w : World} {a b : Value} (h : Loc w a b) {k : Nat} (hb : b.ownBlock = some k) (hk : k < w.heap.size) : a.ownBlock = some k := by
  rcases h with h | ⟨j, h, hj⟩
  · exact h ▸ hb
  · rw [hb] at h; injection h with h; omega
theorem take_sets {l : List (Int × Int)} {i x : Nat} (h : i < l.length) (hx : (rg l i).2 = (x : Int)) : (setsN l).take (i + 1) = (setsN l).take i ++ [x] := by
  rw [List.take_add_one]
  congr 1
  unfold setsN
  rw [List.getElem?_map, List.getElem?_eq_getElem h]
  rw [rg, List.getElem?_eq_getElem h] at hx
  simp at hx
  simp [hx]
theorem blk_of_cell {w : World} {b j : Nat} {v : Value} (h : w.cell? ⟨b, j, none⟩ = some v) : b < w.heap.size := by
  refine Decidable.byContradiction fun hn => ?_
  have : w.heap[b]? = none := Array.getElem?_eq_none (by omega)
  simp [World.cell?, this] at h
theorem cell_fr {w w' : World} {B : Nat → Prop} (hf : Fr w w' B) {b j : Nat} (hb : b < w.heap.size) (hn : ¬ B b) : w'.cell? ⟨b, j, none⟩ = w.cell? ⟨b, j, none⟩ := by
  have := hf.block b hb hn
  simp [World.cell?, this]

theorem own_cap {w : World} {base : Nat} {e : TypeId} {size : Nat} {a : Option Addr} {k n c : Nat} {xs : List Value} (h : w.ownsRow base e size (.slice a n c) k xs) : n ≤ c := by
  rcases h.2 with ⟨e, _⟩ | ⟨g, cap, cur, e, _, _, h3, _⟩
  · injection e with _ e2 e3; omega
  · injection e with _ e2 e3; omega
theorem rg_mem {l : List (Int × Int)} {i : Nat} (h : i < l.length) : rg l i ∈ l := by rw [rg, List.getElem?_eq_getElem h]; exact List.getElem_mem h
/-- while the marks are turned -/
def FA (w wr : World) (base T : Nat) (pv rv uv : Value) (hi M : Nat) (ps : List (Nat × Nat)) (b0 : Nat) (r0 : List Nat) (ups : List (Nat × List Nat)) (l : List (Int × Int)) (i : Nat) : Prop :=
  ∃ uvi, TL wr base T pv rv uvi hi M ps ((b0, flips r0 ((setsN l).take i)) :: ups) (((setsN l).take i).map fun (x : Nat) => ((x / 64 : Nat) : Int)) ∧ Fr w wr (TLB T pv rv uv M ((b0, r0) :: ups)) ∧ Loc w uv uvi
theorem Lv.fin2 {R : List (Nat × Nat) × List (List Nat)} {bel : List Nat} {U : List (List Nat)} {L N0 k : Nat} {psk : List (Nat × Nat)} {upk : List (List Nat)} {tsk : List Nat} (h : Lv R bel U L N0 k psk upk tsk) (hk : k = U.length) : R = (psk, upk) := by
  subst hk
  exact h.fin
theorem row_len {b0 : Nat} {r0 r1 : List Nat} {ups upk : List (Nat × List Nat)} (hl : (upk.map Prod.snd).map List.length = (ups.map Prod.snd).map List.length) {k kb : Nat} {rk : List Nat} (h : ((b0, r1) :: upk)[k]? = some (kb, rk)) (h0 : r1.length = r0.length) : ∃ z, ((b0, r0) :: ups)[k]? = some z ∧ z.2.length = rk.length := by
  have e : (((b0, r1) :: upk).map fun x => x.2.length) = (((b0, r0) :: ups).map fun x => x.2.length) := by
    simp only [List.map_cons, h0]
    congr 1
    rw [List.map_map, List.map_map] at hl
    exact hl
  have := congrArg (·[k]?) e
  simp only [List.getElem?_map, h] at this
  cases hz : ((b0, r0) :: ups)[k]? with
  | none => rw [hz] at this; simp at this
  | some z => rw [hz] at this; simp at this; exact ⟨z, rfl, this.symm⟩
theorem set_same {α : Type} {l : List α} {k : Nat} {x : α} (h : l[k]? = some x) : l.set k x = l := by
  apply List.ext_getElem?
  intro i
  rw [List.getElem?_set]
  split
  · rename_i e
    subst e
    rw [if_pos (List.getElem?_eq_some_iff.1 h).1, h]
  · rfl
/-- while a level is gone over -/
def FC (wc wr : World) (base T : Nat) (pvk rv uv : Value) (hi M : Nat) (psk : List (Nat × Nat)) (b0 : Nat) (R0 : List Nat) (upk : List (Nat × List Nat)) (rk : List Nat) (k ab : Nat) (ar : List Nat) (tn : List Nat) (j : Nat) : Prop :=
  ∃ pvj, TL wr base T pvj rv uv hi M (lev rk (psk, ar) (tn.take j)).1 ((b0, R0) :: upk.set k (ab, (lev rk (psk, ar) (tn.take j)).2)) (tn.map fun (x : Nat) => (x : Int)) ∧ Fr wc wr (fun c => c = T ∨ c = M ∨ pvk.ownBlock = some c ∨ c = ab) ∧ Loc wc pvk pvj
/-- while the levels are gone over -/
def FB (w wr : World) (base T : Nat) (pv rv uv : Value) (hi M : Nat) (ps : List (Nat × Nat)) (b0 : Nat) (r0 : List Nat) (ups : List (Nat × List Nat)) (l : List (Int × Int)) (k : Nat) : Prop :=
  ∃ pvk uvk upk psk tsk, TL wr base T pvk rv uvk hi M psk ((b0, flips r0 (setsN l)) :: upk) (tsk.map fun (x : Nat) => (x : Int)) ∧ upk.map Prod.fst = ups.map Prod.fst ∧ Lv (levs ps (flips r0 (setsN l)) (ups.map Prod.snd) ((setsN l).map (· / 64))) (flips r0 (setsN l)) (ups.map Prod.snd) ((setsN l).map (· / 64)).length ps.length k psk (upk.map Prod.snd) tsk ∧ Fr w wr (TLB T pv rv uv M ((b0, r0) :: ups)) ∧ Loc w pv pvk ∧ Loc w uv uvk
set_option maxHeartbeats 4000000 in
theorem flip_any {w : World} {base T : Nat} {pv rv uv : Value} {hi M : Nat} {ps : List (Nat × Nat)} {b0 : Nat} {r0 : List Nat} {ups : List (Nat × List Nat)} {ts : List Int} (h : TL w base T pv rv uv hi M ps ((b0, r0) :: ups) ts) (hhi : ups.length = hi) (hhb : hi ≤ 1000000000000) {lv : Value} {l : List (Int × Int)} (hl : ∀ W, Fr w W (TLB T pv rv uv M ((b0, r0) :: ups)) → Rs W lv l) (hx : ∀ x ∈ l, 0 ≤ x.2 ∧ x.2.toNat / 64 < r0.length) (hln : l.length ≤ 1000000000000) (hub : ∀ x ∈ (b0, r0) :: ups, x.2.length ≤ 1000000000000)
    (hlen : ∀ k x y, ((b0, r0) :: ups)[k]? = some x → ((b0, r0) :: ups)[k + 1]? = some y → x.2.length % 2 = 0 ∧ x.2.length ≤ 2 * y.2.length) (hpn : ps.length + l.length * hi < 1000000000) :
    Calls Tryd.prog 36 #[.pointer (some ⟨T, 0, none⟩), lv] w fun e w' => e = .returned (.tuple #[]) ∧ ∃ pv' uv' ups' ts', TL w' base T pv' rv uv' hi M (levs ps (flips r0 (setsN l)) (ups.map Prod.snd) ((setsN l).map (· / 64))).1 ((b0, flips r0 (setsN l)) :: ups') ts' ∧ ups'.map Prod.fst = ups.map Prod.fst ∧ ups'.map Prod.snd = (levs ps (flips r0 (setsN l)) (ups.map Prod.snd) ((setsN l).map (· / 64))).2 ∧ Fr w w' (TLB T pv rv uv M ((b0, r0) :: ups)) ∧ Loc w pv pv' ∧ Loc w uv uv' := by
  obtain ⟨ua, uc, huv⟩ := own_len h.tu
  obtain ⟨un, hun⟩ : ∃ un, ts.length = un := ⟨_, rfl⟩
  rw [hun] at huv
  subst huv
  obtain ⟨la, lc, hlv, _, _⟩ := hl w (Fr.refl _ _)
  obtain ⟨ln, hlnn⟩ : ∃ ln, l.length = ln := ⟨_, rfl⟩
  rw [hlnn] at hlv hln
  subst hlv
  obtain ⟨rb, rc, hrv, _⟩ := h.rows_at (by simp)
  obtain ⟨rn, hrn⟩ : ∃ rn, ((b0, r0) :: ups).length = rn := ⟨_, rfl⟩
  have hrnp : 0 < rn := by rw [← hrn]; simp
  have hrn2 : rn = hi + 1 := by rw [← hrn, ← hhi]; rfl
  rw [hrn] at hrv
  subst hrv
  obtain ⟨l0, hl0⟩ : ∃ l0, r0.length = l0 := ⟨_, rfl⟩
  have hr0 : r0.length ≤ 1000000000000 := hub _ List.mem_cons_self
  rw [hl0] at hr0
  have HUB := Hid.mk' hub
  have HL0 := Hid.mk' hl0
  have HR2 := Hid.mk' hrn2
  have HHI := Hid.mk' hhi
  have c4 : w.cell? ⟨T, 4, none⟩ = some (.slice ua un uc) := heap_cellv h.blk rfl
  have f4 : w.frozen? ⟨T, 4, none⟩ = false := free_of h.blk
  have HTL := Hid.mk' h
  have HL := Hid.mk' hl
  have HX := Hid.mk' hx
  have HLE := Hid.mk' hlen
  have HPN := Hid.mk' hpn
  have HLN := Hid.mk' hlnn
  clear hub h hl hx hlen hpn hun hlnn hrn hrn2 hl0 hhi
  go_enter Tryd.func36, Tryd.ntmps36
  go_wp2
  obtain ⟨W0, hW0⟩ : ∃ W0, W0 = w.setCell ⟨T, 4, none⟩ (.slice ua 0 uc) := ⟨_, rfl⟩
  have H0 : Hid (FA w W0 base T pv (.slice (some ⟨rb, 0, none⟩) rn rc) (.slice ua un uc) hi M ps b0 r0 ups l 0) := by
    obtain ⟨_, h1, h2⟩ := HTL.out.tou (Fr.refl _ _) HTL.out.tu.cut
    rw [hW0]
    refine ⟨_, h1, h2.mono fun k _ e => ?_, ?_⟩
    · rcases e with e | e
      · exact .inl e
      · exact .inr (.inr (.inr (.inr (.inl e))))
    · cases ua with
      | none => exact .inl rfl
      | some a => exact .inl rfl
  rw [← hW0]
  clear hW0 c4 f4
  go_loopg [21] ln (fun k s21 wr => ∃ i : Nat, s21 = .int .i64 (i : Int) ∧ i ≤ ln ∧ ln - i ≤ k ∧ Hid (FA w wr base T pv (.slice (some ⟨rb, 0, none⟩) rn rc) (.slice ua un uc) hi M ps b0 r0 ups l i))
  case atStart => exact ⟨0, rfl, by omega, by omega, H0⟩
  case round =>
    obtain ⟨i, rfl, hi1, hi2, HF⟩ := hrel
    clear H0
    have hlnI : (ln : Int) ≤ 1000000000000 := by omega
    have hiI : (i : Int) ≤ 1000000000000 := by omega
    by_cases hil : i < ln
    · have hilI : (i : Int) < (ln : Int) := by omega
      have hil2 : i < l.length := by have := HLN.out; omega
      obtain ⟨uvi, htl, hfr, hloc⟩ := HF.out
      obtain ⟨la', lc', hle, hlc, hrd⟩ := HL.out wr hfr
      rcases hrd with hrd | ⟨lg, lo, hla, hrd⟩
      · exact absurd hil2 (by rw [hrd]; simp)
      · rw [HLN.out] at hle hlc
        injection hle with hle1 hle2 hle3
        subst hle1
        subst hle3
        subst hla
        obtain ⟨at', hat⟩ : ∃ at', (rg l i).1 = at' := ⟨_, rfl⟩
        have hxm := HX.out _ (rg_mem hil2)
        obtain ⟨x, hxx⟩ : ∃ x : Nat, (rg l i).2 = (x : Int) := ⟨(rg l i).2.toNat, by omega⟩
        rw [hxx, Int.toNat_natCast, HL0.out] at hxm
        have hR := hrd i hil2
        rw [hat, hxx] at hR
        obtain ⟨cR0, cR1⟩ := hR
        obtain ⟨tsi, htsi⟩ : ∃ tsi, tsi = (((setsN l).take i).map fun (x : Nat) => ((x / 64 : Nat) : Int)) := ⟨_, rfl⟩
        obtain ⟨rr, hrr⟩ : ∃ rr, rr = flips r0 ((setsN l).take i) := ⟨_, rfl⟩
        have hrrl : rr.length = l0 := by rw [hrr, flips_len, HL0.out]
        rw [← hrr, ← htsi] at htl
        have HRX : Hid ((rg l i).2 = (x : Int) ∧ tsi = (((setsN l).take i).map fun (x : Nat) => ((x / 64 : Nat) : Int)) ∧ rr = flips r0 ((setsN l).take i) ∧ rr.length = l0) := ⟨hxx, htsi, hrr, hrrl⟩
        obtain ⟨y, hy⟩ : ∃ y, x / 64 = y := ⟨_, rfl⟩
        obtain ⟨m, hm⟩ : ∃ m, x % 64 = m := ⟨_, rfl⟩
        have hyl : y < l0 := by rw [← hy]; exact hxm.2
        have HY : Hid ((x : Int) / 64 = (y : Int)) := by show _ = _; omega
        have HYW : Hid (IntKind.i64.wrap (y : Int) = (y : Int)) := IntWalk.i64_in _ (by omega)
        have HM2 : Hid ((x : Int).tmod 64 = (m : Int)) := by show _ = _; rw [Int.tmod_eq_emod_of_nonneg (by omega)]; omega
        have hm64 : m < 64 := by omega
        have HXY : Hid (x / 64 = y ∧ x % 64 = m) := ⟨hy, hm⟩
        obtain ⟨v, hv⟩ : ∃ v, rr.getD y 0 = v := ⟨_, rfl⟩
        have hw6 : W64 rr := htl.w6 _ (List.mem_cons_self)
        have hv64 : v < 18446744073709551616 := by rw [← hv]; exact hw6.getD y
        have hxI : (x : Int) ≤ 64000000000064 := by omega
        have hpm : 2 ^ m < 18446744073709551616 := Nat.lt_of_lt_of_le (Nat.pow_lt_pow_right (by decide) hm64) (by decide)
        have HVL : Hid (v ^^^ 2 ^ m < 18446744073709551616) := Nat.xor_lt_two_pow (n := 64) hv64 hpm
        have hc2 : ((2 ^ m : Nat) : Int) = (2 : Int) ^ m := by simp
        have HSH : Hid (IntKind.u64.wrap ((2 : Int) ^ m) = ((2 ^ m : Nat) : Int)) := by show _ = _; rw [← hc2]; exact IntWalk.u64_in _ ⟨Int.natCast_nonneg _, by generalize (2 ^ m : Nat) = z at hpm ⊢; omega⟩
        have HXO : Hid (bits .xor .u64 (v : Int) ((2 : Int) ^ m) = ((v ^^^ 2 ^ m : Nat) : Int)) := by have := bits_xor_u64_nat v (2 ^ m) hv64 hpm; rw [hc2] at this; exact this
        have HYL : Hid (y < ((b0, rr) :: ups)[0].2.length) := by show y < rr.length; omega
        have HLO := Hid.mk' (And.intro hfr hloc)
        obtain ⟨XX, hXX⟩ : ∃ XX, XX = wr.alloc (.cells #[.int .i64 at', .int .i64 (x : Int)] 77) := ⟨_, rfl⟩
        have HGX : Hid (Grown wr XX) := by show Grown _ _; rw [hXX]; exact (Grown.refl _).alloc _
        have HTX := Hid.mk' (htl.grown HGX.out)
        have cBx : XX.cell? ⟨wr.heap.size, 1, none⟩ = some (.int .i64 (x : Int)) := by rw [hXX]; exact heap_cellv (heap_alloc_new _ _) rfl
        have cT2 : XX.cell? ⟨T, 2, none⟩ = some (.slice (some ⟨rb, 0, none⟩) rn rc) := heap_cellv HTX.out.blk rfl
        have cb0 : XX.cell? ⟨rb, 0, none⟩ = some (.slice (some ⟨b0, 0, none⟩) l0 l0) := by rw [← hrrl]; exact HTX.out.rat (k := 0) (by simp)
        have cw : XX.cell? ⟨b0, y, none⟩ = some (.int .u64 (v : Int)) := by rw [← hv]; exact (HTX.out.cell_at (k := 0) (by simp) (j := y) HYL.out).1
        have HRV := Hid.mk' hv
        have HB0 : Hid (b0 < wr.heap.size) := blk_lt (htl.rw _ (List.mem_cons_self)).2
        clear hc2 hpm hrd hat hxx hxm htsi hrr hrrl hy hm hv hw6 htl hfr hloc HF
        go_wp2
        rw [← hXX]
        clear hXX cR0 cR1
        refine wp_region_clo mixed (by kernel_rfl) (by kernel_rfl) (by kernel_rfl) (JA XX (val36a T wr.heap.size b0 l0 rb rn rc x y m v) (fun _ _ _ => True) 17 17 (fun _ _ => True) (fun W => TL W base T pv (.slice (some ⟨rb, 0, none⟩) rn rc) uvi hi M ps (((b0, rr) :: ups).set 0 (((b0, rr) :: ups)[0].1, ((b0, rr) :: ups)[0].2.set y (v ^^^ 2 ^ m))) tsi ∧ Fr XX W (fun k => k = ((b0, rr) :: ups)[0].1))) JA.start ⟨?_, ?_, ?_, ?_, ?_, ?_, ?_, ?_, ?_, ?_, ?_, ?_, ?_, ?_, ?_, ?_, ?_, ?_, trivial⟩ ?_
        · as_aux_lemma =>
            intro aA wx p vs hJ hdep hpi hcl hval hfr K hK
            rw [if_pos (show Region.wanted _ _ = true from rfl)]
            have zd0 : aA.tmps.getD 0 undef = .pointer (some ⟨T, 0, none⟩) := hfr 0 (by kernel_rfl)
            have hJ' := hJ.pure 0 (by decide) (by decide) rfl (fun _ _ => trivial)
            clear hval hfr hdep hJ hcl
            simp only [Array.getD_eq_getD_getElem?] at zd0
            go_simp
            exact hK _ _ hJ'
        · as_aux_lemma =>
            intro aA wx p vs hJ hdep hpi hcl hval hfr K hK
            rw [if_pos (show Region.wanted _ _ = true from rfl)]
            have zd0 : aA.tmps.getD 25 undef = .pointer (some ⟨T, 0, none⟩) := (hval 0 _ 25 (hdep 0 (by kernel_rfl)) (by rfl) rfl).trans (hJ.v 0 _ rfl (hdep 0 (by kernel_rfl)))
            have hJ' := hJ.pure 1 (by decide) (by decide) rfl (fun _ _ => trivial)
            clear hval hfr hdep hJ hcl
            simp only [Array.getD_eq_getD_getElem?] at zd0
            go_simp
            exact hK _ _ hJ'
        · as_aux_lemma =>
            intro aA wx p vs hJ hdep hpi hcl hval hfr K hK
            rw [if_pos (show Region.wanted _ _ = true from rfl)]
            have zd0 : aA.tmps.getD 26 undef = .pointer (some ⟨T, 0, none⟩) := (hval 1 _ 26 (hdep 1 (by kernel_rfl)) (by rfl) rfl).trans (hJ.v 1 _ rfl (hdep 1 (by kernel_rfl)))
            have hJ' := hJ.pure 2 (by decide) (by decide) rfl (fun _ _ => trivial)
            clear hval hfr hdep hJ hcl
            simp only [Array.getD_eq_getD_getElem?] at zd0
            go_simp
            exact hK _ _ hJ'
        · as_aux_lemma =>
            intro aA wx p vs hJ hdep hpi hcl hval hfr K hK
            rw [if_pos (show Region.wanted _ _ = true from rfl)]
            have hnS : p 17 = false := by
              cases e : p 17 with
              | false => rfl
              | true =>
                have z0 := hcl 17 _ (by rfl) e 3 (by kernel_rfl)
                rw [hpi] at z0; cases z0
            have hnA := hnS
            have zd0 : aA.tmps.getD 27 undef = .pointer (some ⟨T, 2, none⟩) := (hval 2 _ 27 (hdep 2 (by kernel_rfl)) (by rfl) rfl).trans (hJ.v 2 _ rfl (hdep 2 (by kernel_rfl)))
            have hgx := hJ.g hnA hnS
            have cc := hgx.cellv cT2
            have hJ' := hJ.pure 3 (by decide) (by decide) rfl (fun _ _ => trivial)
            clear hval hfr hdep hJ hcl
            simp only [Array.getD_eq_getD_getElem?] at zd0
            go_simp
            exact hK _ _ hJ'
        · as_aux_lemma =>
            intro aA wx p vs hJ hdep hpi hcl hval hfr K hK
            rw [if_pos (show Region.wanted _ _ = true from rfl)]
            have zd0 : aA.tmps.getD 28 undef = .slice (some ⟨rb, 0, none⟩) rn rc := (hval 3 _ 28 (hdep 3 (by kernel_rfl)) (by rfl) rfl).trans (hJ.v 3 _ rfl (hdep 3 (by kernel_rfl)))
            have hJ' := hJ.pure 4 (by decide) (by decide) rfl (fun _ _ => trivial)
            clear hval hfr hdep hJ hcl
            simp only [Array.getD_eq_getD_getElem?] at zd0
            go_simp
            exact hK _ _ hJ'
        · as_aux_lemma =>
            intro aA wx p vs hJ hdep hpi hcl hval hfr K hK
            rw [if_pos (show Region.wanted _ _ = true from rfl)]
            have hnS : p 17 = false := by
              cases e : p 17 with
              | false => rfl
              | true =>
                have z0 := hcl 17 _ (by rfl) e 5 (by kernel_rfl)
                rw [hpi] at z0; cases z0
            have hnA := hnS
            have zd0 : aA.tmps.getD 29 undef = .pointer (some ⟨rb, 0, none⟩) := (hval 4 _ 29 (hdep 4 (by kernel_rfl)) (by rfl) rfl).trans (hJ.v 4 _ rfl (hdep 4 (by kernel_rfl)))
            have hgx := hJ.g hnA hnS
            have cc := hgx.cellv cb0
            have hJ' := hJ.pure 5 (by decide) (by decide) rfl (fun _ _ => trivial)
            clear hval hfr hdep hJ hcl
            simp only [Array.getD_eq_getD_getElem?] at zd0
            go_simp
            exact hK _ _ hJ'
        · as_aux_lemma =>
            intro aA wx p vs hJ hdep hpi hcl hval hfr K hK
            rw [if_pos (show Region.wanted _ _ = true from rfl)]
            have zd0 : aA.tmps.getD 5 undef = .pointer (some ⟨wr.heap.size, 0, none⟩) := hfr 5 (by kernel_rfl)
            have hJ' := hJ.pure 6 (by decide) (by decide) rfl (fun _ _ => trivial)
            clear hval hfr hdep hJ hcl
            simp only [Array.getD_eq_getD_getElem?] at zd0
            go_simp
            exact hK _ _ hJ'
        · as_aux_lemma =>
            intro aA wx p vs hJ hdep hpi hcl hval hfr K hK
            rw [if_pos (show Region.wanted _ _ = true from rfl)]
            have hnS : p 17 = false := by
              cases e : p 17 with
              | false => rfl
              | true =>
                have z0 := hcl 17 _ (by rfl) e 7 (by kernel_rfl)
                rw [hpi] at z0; cases z0
            have hnA := hnS
            have zd0 : aA.tmps.getD 31 undef = .pointer (some ⟨wr.heap.size, 1, none⟩) := (hval 6 _ 31 (hdep 6 (by kernel_rfl)) (by rfl) rfl).trans (hJ.v 6 _ rfl (hdep 6 (by kernel_rfl)))
            have hgx := hJ.g hnA hnS
            have cc := hgx.cellv cBx
            have hJ' := hJ.pure 7 (by decide) (by decide) rfl (fun _ _ => trivial)
            clear hval hfr hdep hJ hcl
            simp only [Array.getD_eq_getD_getElem?] at zd0
            go_simp
            exact hK _ _ hJ'
        · as_aux_lemma =>
            intro aA wx p vs hJ hdep hpi hcl hval hfr K hK
            rw [if_pos (show Region.wanted _ _ = true from rfl)]
            have zd0 : aA.tmps.getD 32 undef = .int .i64 (x : Int) := (hval 7 _ 32 (hdep 7 (by kernel_rfl)) (by rfl) rfl).trans (hJ.v 7 _ rfl (hdep 7 (by kernel_rfl)))
            have HJ := Hid.mk' hJ
            clear hval hfr hdep hJ hcl
            simp only [Array.getD_eq_getD_getElem?] at zd0
            go_simp
            rw [HY.out, HYW.out]
            exact hK _ _ (HJ.out.pure 8 (by decide) (by decide) rfl (fun _ _ => trivial))
        · as_aux_lemma =>
            intro aA wx p vs hJ hdep hpi hcl hval hfr K hK
            rw [if_pos (show Region.wanted _ _ = true from rfl)]
            have zd0 : aA.tmps.getD 30 undef = .slice (some ⟨b0, 0, none⟩) l0 l0 := (hval 5 _ 30 (hdep 5 (by kernel_rfl)) (by rfl) rfl).trans (hJ.v 5 _ rfl (hdep 5 (by kernel_rfl)))
            have zd1 : aA.tmps.getD 33 undef = .int .i64 (y : Int) := (hval 8 _ 33 (hdep 8 (by kernel_rfl)) (by rfl) rfl).trans (hJ.v 8 _ rfl (hdep 8 (by kernel_rfl)))
            have hJ' := hJ.pure 9 (by decide) (by decide) rfl (fun _ _ => trivial)
            clear hval hfr hdep hJ hcl
            simp only [Array.getD_eq_getD_getElem?] at zd0 zd1
            go_simp
            exact hK _ _ hJ'
        · as_aux_lemma =>
            intro aA wx p vs hJ hdep hpi hcl hval hfr K hK
            rw [if_pos (show Region.wanted _ _ = true from rfl)]
            have hnS : p 17 = false := by
              cases e : p 17 with
              | false => rfl
              | true =>
                have z0 := hcl 17 _ (by rfl) e 10 (by kernel_rfl)
                rw [hpi] at z0; cases z0
            have hnA := hnS
            have zd0 : aA.tmps.getD 34 undef = .pointer (some ⟨b0, y, none⟩) := (hval 9 _ 34 (hdep 9 (by kernel_rfl)) (by rfl) rfl).trans (hJ.v 9 _ rfl (hdep 9 (by kernel_rfl)))
            have cc := (hJ.g hnS hnS).cellv cw
            have HJ := Hid.mk' hJ
            clear hval hfr hdep hJ hcl
            simp only [Array.getD_eq_getD_getElem?] at zd0
            go_simp
            exact hK _ _ (HJ.out.pure 10 (by decide) (by decide) rfl (fun _ _ => trivial))
        · as_aux_lemma =>
            intro aA wx p vs hJ hdep hpi hcl hval hfr K hK
            rw [if_pos (show Region.wanted _ _ = true from rfl)]
            have zd0 : aA.tmps.getD 5 undef = .pointer (some ⟨wr.heap.size, 0, none⟩) := hfr 5 (by kernel_rfl)
            have hJ' := hJ.pure 11 (by decide) (by decide) rfl (fun _ _ => trivial)
            clear hval hfr hdep hJ hcl
            simp only [Array.getD_eq_getD_getElem?] at zd0
            go_simp
            exact hK _ _ hJ'
        · as_aux_lemma =>
            intro aA wx p vs hJ hdep hpi hcl hval hfr K hK
            rw [if_pos (show Region.wanted _ _ = true from rfl)]
            have hnS : p 17 = false := by
              cases e : p 17 with
              | false => rfl
              | true =>
                have z0 := hcl 17 _ (by rfl) e 12 (by kernel_rfl)
                rw [hpi] at z0; cases z0
            have hnA := hnS
            have zd0 : aA.tmps.getD 36 undef = .pointer (some ⟨wr.heap.size, 1, none⟩) := (hval 11 _ 36 (hdep 11 (by kernel_rfl)) (by rfl) rfl).trans (hJ.v 11 _ rfl (hdep 11 (by kernel_rfl)))
            have hgx := hJ.g hnA hnS
            have cc := hgx.cellv cBx
            have hJ' := hJ.pure 12 (by decide) (by decide) rfl (fun _ _ => trivial)
            clear hval hfr hdep hJ hcl
            simp only [Array.getD_eq_getD_getElem?] at zd0
            go_simp
            exact hK _ _ hJ'
        · as_aux_lemma =>
            intro aA wx p vs hJ hdep hpi hcl hval hfr K hK
            rw [if_pos (show Region.wanted _ _ = true from rfl)]
            have zd0 : aA.tmps.getD 37 undef = .int .i64 (x : Int) := (hval 12 _ 37 (hdep 12 (by kernel_rfl)) (by rfl) rfl).trans (hJ.v 12 _ rfl (hdep 12 (by kernel_rfl)))
            have HJ := Hid.mk' hJ
            clear hval hfr hdep hJ hcl
            simp only [Array.getD_eq_getD_getElem?] at zd0
            go_simp
            rw [HM2.out]
            exact hK _ _ (HJ.out.pure 13 (by decide) (by decide) rfl (fun _ _ => trivial))
        · as_aux_lemma =>
            intro aA wx p vs hJ hdep hpi hcl hval hfr K hK
            rw [if_pos (show Region.wanted _ _ = true from rfl)]
            have zd0 : aA.tmps.getD 38 undef = .int .i64 (m : Int) := (hval 13 _ 38 (hdep 13 (by kernel_rfl)) (by rfl) rfl).trans (hJ.v 13 _ rfl (hdep 13 (by kernel_rfl)))
            have HJ := Hid.mk' hJ
            clear hval hfr hdep hJ hcl
            simp only [Array.getD_eq_getD_getElem?] at zd0
            go_simp
            rw [HSH.out]
            exact hK _ _ (HJ.out.pure 14 (by decide) (by decide) rfl (fun _ _ => trivial))
        · as_aux_lemma =>
            intro aA wx p vs hJ hdep hpi hcl hval hfr K hK
            rw [if_pos (show Region.wanted _ _ = true from rfl)]
            have zd0 : aA.tmps.getD 35 undef = .int .u64 (v : Int) := (hval 10 _ 35 (hdep 10 (by kernel_rfl)) (by rfl) rfl).trans (hJ.v 10 _ rfl (hdep 10 (by kernel_rfl)))
            have zd1 : aA.tmps.getD 39 undef = .int .u64 ((2 ^ m : Nat) : Int) := (hval 14 _ 39 (hdep 14 (by kernel_rfl)) (by rfl) rfl).trans (hJ.v 14 _ rfl (hdep 14 (by kernel_rfl)))
            have HJ := Hid.mk' hJ
            clear hval hfr hdep hJ hcl
            simp only [Array.getD_eq_getD_getElem?] at zd0 zd1
            go_simp
            rw [HXO.out]
            exact hK _ _ (HJ.out.pure 15 (by decide) (by decide) rfl (fun _ _ => trivial))
        · as_aux_lemma =>
            intro aA wx p vs hJ hdep hpi hcl hval hfr K hK
            rw [if_pos (show Region.wanted _ _ = true from rfl)]
            have zd0 : aA.tmps.getD 30 undef = .slice (some ⟨b0, 0, none⟩) l0 l0 := (hval 5 _ 30 (hdep 5 (by kernel_rfl)) (by rfl) rfl).trans (hJ.v 5 _ rfl (hdep 5 (by kernel_rfl)))
            have zd1 : aA.tmps.getD 33 undef = .int .i64 (y : Int) := (hval 8 _ 33 (hdep 8 (by kernel_rfl)) (by rfl) rfl).trans (hJ.v 8 _ rfl (hdep 8 (by kernel_rfl)))
            have hJ' := hJ.pure 16 (by decide) (by decide) rfl (fun _ _ => trivial)
            clear hval hfr hdep hJ hcl
            simp only [Array.getD_eq_getD_getElem?] at zd0 zd1
            go_simp
            exact hK _ _ hJ'
        · as_aux_lemma =>
            intro aA wx p vs hJ hdep hpi hcl hval hfr K hK
            rw [if_pos (show Region.wanted _ _ = true from rfl)]
            have zd0 : aA.tmps.getD 41 undef = .pointer (some ⟨b0, y, none⟩) := (hval 16 _ 41 (hdep 16 (by kernel_rfl)) (by rfl) rfl).trans (hJ.v 16 _ rfl (hdep 16 (by kernel_rfl)))
            have zd1 : aA.tmps.getD 40 undef = .int .u64 ((v ^^^ 2 ^ m : Nat) : Int) := (hval 15 _ 40 (hdep 15 (by kernel_rfl)) (by rfl) rfl).trans (hJ.v 15 _ rfl (hdep 15 (by kernel_rfl)))
            obtain ⟨htl4, hfr4⟩ := (HTX.out.grown (hJ.g hpi hpi)).put (k := 0) (by simp) (j := y) HYL.out HVL.out
            have HFI := Hid.mk' (And.intro htl4 (((fr_grown (hJ.g hpi hpi) _).trans hfr4 fun _ _ e => e)))
            have cc := (hJ.g hpi hpi).cellv cw
            have cf := ((HTX.out.grown (hJ.g hpi hpi)).cell_at (k := 0) (by simp) (j := y) HYL.out).2
            have cf : wx.frozen? ⟨b0, y, none⟩ = false := cf
            clear htl4 hfr4
            have HJ := Hid.mk' hJ
            clear hval hfr hdep hJ hcl
            simp only [Array.getD_eq_getD_getElem?] at zd0 zd1
            go_simp
            exact hK undef _ (HJ.out.atS rfl HFI.out)
        · intro vs wg hJ
          have HTG : Hid (TL wg base T pv (.slice (some ⟨rb, 0, none⟩) rn rc) uvi hi M ps ((b0, rr.set y (v ^^^ 2 ^ m)) :: ups) tsi) := (hJ.s rfl).1
          have HFG : Hid (Fr XX wg (fun k => k = b0)) := (hJ.s rfl).2
          rw [putL_eq]
          simp only [putsL, List.set_cons_zero, List.set_cons_succ, Nat.zero_add, Nat.reduceAdd]
          clear hJ
          obtain ⟨va, vc, hvv⟩ := own_len HTG.out.tu
          obtain ⟨vn, hvn⟩ : ∃ vn, tsi.length = vn := ⟨_, rfl⟩
          rw [hvn] at hvv
          subst hvv
          have HVN := Hid.mk' hvn
          have hvi : vn = i := by rw [← hvn, HRX.out.2.1]; simp [setsN]; omega
          have HVI := Hid.mk' hvi
          have dT4 : wg.cell? ⟨T, 4, none⟩ = some (.slice va vn vc) := heap_cellv HTG.out.blk rfl
          have dBx : wg.cell? ⟨wr.heap.size, 1, none⟩ = some (.int .i64 (x : Int)) := by rw [cell_fr HFG.out (by have := blk_of_cell cBx; exact this) (show ¬ (wr.heap.size = b0) from Nat.ne_of_gt HB0.out)]; exact cBx
          have HOU : Hid (wg.ownsRow base 3 1 (.slice va vn vc) vn (ints tsi)) := by have := HTG.out.tu; unfold OwnI at this; rw [hvn] at this; exact this
          have hvnb : vn ≤ 1000000000000 := by omega
          have hbz : base ≤ wg.heap.size := by have := HTG.out.tb; have := blk_lt HTG.out.blk; omega
          clear hvn hvi cT2 cb0 cw cBx
          go_wp2
          refine wp_region_clo mixed (by kernel_rfl) (by kernel_rfl) (by kernel_rfl) (JA wg (val36b T wr.heap.size x y va vn vc) (E36 y) 9 12 (PA36 wg base (.slice va vn vc) vn tsi y) (fun W => ∃ uv', TL W base T pv (.slice (some ⟨rb, 0, none⟩) rn rc) uv' hi M ps ((b0, rr.set y (v ^^^ 2 ^ m)) :: ups) (tsi ++ [(y : Int)]) ∧ Fr wg W (fun k => k = T ∨ (Value.slice va vn vc).ownBlock = some k) ∧ Loc wg (.slice va vn vc) uv')) JA.start ⟨?_, ?_, ?_, ?_, ?_, ?_, ?_, ?_, ?_, ?_, ?_, ?_, ?_, trivial⟩ ?_
          · as_aux_lemma =>
              intro aA wx p vs hJ hdep hpi hcl hval hfr K hK
              rw [if_pos (show Region.wanted _ _ = true from rfl)]
              have zd0 : aA.tmps.getD 0 undef = .pointer (some ⟨T, 0, none⟩) := hfr 0 (by kernel_rfl)
              have hJ' := hJ.pure 0 (by decide) (by decide) rfl (fun _ _ => trivial)
              clear hval hfr hdep hJ hcl
              simp only [Array.getD_eq_getD_getElem?] at zd0
              go_simp
              exact hK _ _ hJ'
          · as_aux_lemma =>
              intro aA wx p vs hJ hdep hpi hcl hval hfr K hK
              rw [if_pos (show Region.wanted _ _ = true from rfl)]
              have zd0 : aA.tmps.getD 0 undef = .pointer (some ⟨T, 0, none⟩) := hfr 0 (by kernel_rfl)
              have hJ' := hJ.pure 1 (by decide) (by decide) rfl (fun _ _ => trivial)
              clear hval hfr hdep hJ hcl
              simp only [Array.getD_eq_getD_getElem?] at zd0
              go_simp
              exact hK _ _ hJ'
          · as_aux_lemma =>
              intro aA wx p vs hJ hdep hpi hcl hval hfr K hK
              rw [if_pos (show Region.wanted _ _ = true from rfl)]
              have zd0 : aA.tmps.getD 43 undef = .pointer (some ⟨T, 0, none⟩) := (hval 1 _ 43 (hdep 1 (by kernel_rfl)) (by rfl) rfl).trans (hJ.v 1 _ rfl (hdep 1 (by kernel_rfl)))
              have hJ' := hJ.pure 2 (by decide) (by decide) rfl (fun _ _ => trivial)
              clear hval hfr hdep hJ hcl
              simp only [Array.getD_eq_getD_getElem?] at zd0
              go_simp
              exact hK _ _ hJ'
          · as_aux_lemma =>
              intro aA wx p vs hJ hdep hpi hcl hval hfr K hK
              rw [if_pos (show Region.wanted _ _ = true from rfl)]
              have zd0 : aA.tmps.getD 44 undef = .pointer (some ⟨T, 0, none⟩) := (hval 2 _ 44 (hdep 2 (by kernel_rfl)) (by rfl) rfl).trans (hJ.v 2 _ rfl (hdep 2 (by kernel_rfl)))
              have hJ' := hJ.pure 3 (by decide) (by decide) rfl (fun _ _ => trivial)
              clear hval hfr hdep hJ hcl
              simp only [Array.getD_eq_getD_getElem?] at zd0
              go_simp
              exact hK _ _ hJ'
          · as_aux_lemma =>
              intro aA wx p vs hJ hdep hpi hcl hval hfr K hK
              rw [if_pos (show Region.wanted _ _ = true from rfl)]
              have hnA : p 9 = false := by
                cases e : p 9 with
                | false => rfl
                | true =>
                  have z0 := hcl 9 _ (by rfl) e 4 (by kernel_rfl)
                  rw [hpi] at z0; cases z0
              have hnS : p 12 = false := by
                cases e : p 12 with
                | false => rfl
                | true =>
                  have z0 := hcl 12 _ (by rfl) e 4 (by kernel_rfl)
                  rw [hpi] at z0; cases z0
              have zd0 : aA.tmps.getD 45 undef = .pointer (some ⟨T, 4, none⟩) := (hval 3 _ 45 (hdep 3 (by kernel_rfl)) (by rfl) rfl).trans (hJ.v 3 _ rfl (hdep 3 (by kernel_rfl)))
              have hgx := hJ.g hnA hnS
              have cc := hgx.cellv dT4
              have hJ' := hJ.pure 4 (by decide) (by decide) rfl (fun _ _ => trivial)
              clear hval hfr hdep hJ hcl
              simp only [Array.getD_eq_getD_getElem?] at zd0
              go_simp
              exact hK _ _ hJ'
          · as_aux_lemma =>
              intro aA wx p vs hJ hdep hpi hcl hval hfr K hK
              rw [if_pos (show Region.wanted _ _ = true from rfl)]
              have zd0 : aA.tmps.getD 5 undef = .pointer (some ⟨wr.heap.size, 0, none⟩) := hfr 5 (by kernel_rfl)
              have hJ' := hJ.pure 5 (by decide) (by decide) rfl (fun _ _ => trivial)
              clear hval hfr hdep hJ hcl
              simp only [Array.getD_eq_getD_getElem?] at zd0
              go_simp
              exact hK _ _ hJ'
          · as_aux_lemma =>
              intro aA wx p vs hJ hdep hpi hcl hval hfr K hK
              rw [if_pos (show Region.wanted _ _ = true from rfl)]
              have hnA : p 9 = false := by
                cases e : p 9 with
                | false => rfl
                | true =>
                  have z0 := hcl 9 _ (by rfl) e 8 (by kernel_rfl)
                  have z1 := hcl 8 _ (by rfl) z0 7 (by kernel_rfl)
                  have z2 := hcl 7 _ (by rfl) z1 6 (by kernel_rfl)
                  rw [hpi] at z2; cases z2
              have hnS : p 12 = false := by
                cases e : p 12 with
                | false => rfl
                | true =>
                  have z0 := hcl 12 _ (by rfl) e 6 (by kernel_rfl)
                  rw [hpi] at z0; cases z0
              have zd0 : aA.tmps.getD 47 undef = .pointer (some ⟨wr.heap.size, 1, none⟩) := (hval 5 _ 47 (hdep 5 (by kernel_rfl)) (by rfl) rfl).trans (hJ.v 5 _ rfl (hdep 5 (by kernel_rfl)))
              have hgx := hJ.g hnA hnS
              have cc := hgx.cellv dBx
              have hJ' := hJ.pure 6 (by decide) (by decide) rfl (fun _ _ => trivial)
              clear hval hfr hdep hJ hcl
              simp only [Array.getD_eq_getD_getElem?] at zd0
              go_simp
              exact hK _ _ hJ'
          · as_aux_lemma =>
              intro aA wx p vs hJ hdep hpi hcl hval hfr K hK
              rw [if_pos (show Region.wanted _ _ = true from rfl)]
              have zd0 : aA.tmps.getD 48 undef = .int .i64 (x : Int) := (hval 6 _ 48 (hdep 6 (by kernel_rfl)) (by rfl) rfl).trans (hJ.v 6 _ rfl (hdep 6 (by kernel_rfl)))
              have HJ := Hid.mk' hJ
              clear hval hfr hdep hJ hcl
              simp only [Array.getD_eq_getD_getElem?] at zd0
              go_simp
              rw [HY.out, HYW.out]
              exact hK _ _ (HJ.out.pure 7 (by decide) (by decide) rfl (fun _ _ => trivial))
          · as_aux_lemma =>
              intro aA wx p vs hJ hdep hpi hcl hval hfr K hK
              rw [if_pos (show Region.wanted _ _ = true from rfl)]
              have hnA : p 9 = false := by
                cases e : p 9 with
                | false => rfl
                | true =>
                  have z0 := hcl 9 _ (by rfl) e 8 (by kernel_rfl)
                  rw [hpi] at z0; cases z0
              have hnS : p 12 = false := by
                cases e : p 12 with
                | false => rfl
                | true =>
                  have z0 := hcl 12 _ (by rfl) e 8 (by kernel_rfl)
                  rw [hpi] at z0; cases z0
              have zd0 : aA.tmps.getD 49 undef = .int .i64 (y : Int) := (hval 7 _ 49 (hdep 7 (by kernel_rfl)) (by rfl) rfl).trans (hJ.v 7 _ rfl (hdep 7 (by kernel_rfl)))
              have HJ := Hid.mk' hJ
              clear hval hfr hdep hJ hcl
              simp only [Array.getD_eq_getD_getElem?] at zd0
              go_simp
              exact hK _ _ (HJ.out.grow E36s 8 (by decide) (by decide) hnA hnS (fun y hy => by cases hy) ((Grown.refl _).alloc _) ⟨_, rfl, heap_alloc_new _ _⟩)
          · as_aux_lemma =>
              intro aA wx p vs hJ hdep hpi hcl hval hfr K hK
              rw [if_pos (show Region.wanted _ _ = true from rfl)]
              have hnS : p 12 = false := by
                cases e : p 12 with
                | false => rfl
                | true =>
                  have z0 := hcl 12 _ (by rfl) e 9 (by kernel_rfl)
                  rw [hpi] at z0; cases z0
              obtain ⟨gg, hgg, hgh⟩ := hJ.e hpi hnS 8 (hdep 8 (by kernel_rfl))
              have hgx := hJ.g hpi hnS
              have zd0 : aA.tmps.getD 46 undef = .slice va vn vc := (hval 4 _ 46 (hdep 4 (by kernel_rfl)) (by rfl) rfl).trans (hJ.v 4 _ rfl (hdep 4 (by kernel_rfl)))
              have zd1 : aA.tmps.getD 50 undef = .slice (some ⟨gg, 0, none⟩) 1 1 := (hval 8 _ 50 (hdep 8 (by kernel_rfl)) (by rfl) rfl).trans hgg
              obtain ⟨v', w', hru, h2, h3, h4⟩ := run_app (ty := 23) base iinfo3 Tryd.underlying23 rfl (by decide) (own_fr HOU.out (fr_grown hgx fun _ => False) fun _ _ e => e) (m := 1) (c := 1) (news := [.int .i64 (y : Int)]) rfl hgh (fun u hu => by simp at hu; rw [hu]; rfl) (by unfold maxLen; omega) (by omega) (by have := hgx.size; omega)
              have HPA : Hid (PA36 wg base (.slice va vn vc) vn tsi y v' w') := ⟨wx, hgx, h2, h3, h4⟩
              clear h2 h3 h4 hgx hgh
              have HJ := Hid.mk' hJ
              clear hval hfr hdep hJ hcl
              exact op_append rfl zd0 zd1 hru (hK _ _ (HJ.out.atA (by decide) hnS rfl HPA.out))
          · as_aux_lemma =>
              intro aA wx p vs hJ hdep hpi hcl hval hfr K hK
              rw [if_pos (show Region.wanted _ _ = true from rfl)]
              have zd0 : aA.tmps.getD 42 undef = .pointer (some ⟨T, 0, none⟩) := (hval 0 _ 42 (hdep 0 (by kernel_rfl)) (by rfl) rfl).trans (hJ.v 0 _ rfl (hdep 0 (by kernel_rfl)))
              have hJ' := hJ.pure 10 (by decide) (by decide) rfl (fun _ _ => trivial)
              clear hval hfr hdep hJ hcl
              simp only [Array.getD_eq_getD_getElem?] at zd0
              go_simp
              exact hK _ _ hJ'
          · as_aux_lemma =>
              intro aA wx p vs hJ hdep hpi hcl hval hfr K hK
              rw [if_pos (show Region.wanted _ _ = true from rfl)]
              have zd0 : aA.tmps.getD 52 undef = .pointer (some ⟨T, 0, none⟩) := (hval 10 _ 52 (hdep 10 (by kernel_rfl)) (by rfl) rfl).trans (hJ.v 10 _ rfl (hdep 10 (by kernel_rfl)))
              have hJ' := hJ.pure 11 (by decide) (by decide) rfl (fun _ _ => trivial)
              clear hval hfr hdep hJ hcl
              simp only [Array.getD_eq_getD_getElem?] at zd0
              go_simp
              exact hK _ _ hJ'
          · as_aux_lemma =>
              intro aA wx p vs hJ hdep hpi hcl hval hfr K hK
              rw [if_pos (show Region.wanted _ _ = true from rfl)]
              have hA9 : p 9 = true := hdep 9 (by kernel_rfl)
              obtain ⟨w3, hg3, hown, hap, hloc⟩ := hJ.a hA9 hpi
              obtain ⟨sa, sc, hvs⟩ := own_len hown
              have zd0 : aA.tmps.getD 53 undef = .pointer (some ⟨T, 4, none⟩) := (hval 11 _ 53 (hdep 11 (by kernel_rfl)) (by rfl) rfl).trans (hJ.v 11 _ rfl (hdep 11 (by kernel_rfl)))
              have zd1 : aA.tmps.getD 51 undef = .slice sa (vn + 1) sc := (hval 9 _ 51 (hdep 9 (by kernel_rfl)) (by rfl) rfl).trans hvs
              rw [hvs] at hown hloc
              obtain ⟨e4, htl, hfr4⟩ := HTG.out.tou ((fr_grown hg3 _).trans (fr_by hap) fun _ _ e => e) (v' := .slice sa (vn + 1) sc) (ts' := tsi ++ [(y : Int)]) (own_ints hown HVN.out)
              have HFI := Hid.mk' (And.intro htl (And.intro hfr4 (loc_up hloc hg3.size)))
              have cc : wx.cell? ⟨T, 4, none⟩ = some (.slice va vn vc) := heap_cellv e4 rfl
              have cf : wx.frozen? ⟨T, 4, none⟩ = false := free_of e4
              clear htl hfr4 hown hap hloc e4 hg3
              have HJ := Hid.mk' hJ
              clear hval hfr hdep hJ hcl
              simp only [Array.getD_eq_getD_getElem?] at zd0 zd1
              go_simp
              exact hK undef _ (HJ.out.atS rfl ⟨_, HFI.out⟩)
          · intro vs2 wh hJ
            have HS5 := Hid.mk' (hJ.s rfl)
            rw [putL_eq]
            simp only [putsL, List.set_cons_zero, List.set_cons_succ, Nat.zero_add, Nat.reduceAdd]
            clear hJ
            go_wp2
            go_roundg (ln - (i + 1))
            case measure => omega
            case rel =>
              obtain ⟨uv', q1, q2, q3⟩ := HS5.out
              obtain ⟨z1, z2, z3, z4⟩ := HRX.out
              have ht : (setsN l).take (i + 1) = (setsN l).take i ++ [x] := take_sets hil2 z1
              refine ⟨i + 1, rfl, by omega, Nat.le_refl _, uv', ?_, ?_, loc_trans HLO.out.2 q3 (by have := HLO.out.1.size; have := HGX.out.size; have := HFG.out.size; omega)⟩
              · rw [ht, flips_snoc, ← z3, List.map_append, ← z2]
                have e1 : flipW rr x = rr.set y (v ^^^ 2 ^ m) := by unfold flipW; rw [HXY.out.1, HXY.out.2, HRV.out]
                rw [e1]
                have e2 : [x].map (fun (x : Nat) => ((x / 64 : Nat) : Int)) = [(y : Int)] := by simp [← HXY.out.1]
                rw [e2]
                exact q1
              · refine ((((HLO.out.1.trans (fr_grown HGX.out (fun _ => False)) fun _ _ e => e.elim).trans HFG.out fun k _ e => ?_)).trans q2 fun k hk e => ?_)
                · exact .inr (.inr (.inr (.inr (.inr ⟨(b0, r0), List.mem_cons_self, e.symm⟩))))
                · rcases e with e | e
                  · exact .inl e
                  · exact .inr (.inr (.inr (.inr (.inl (loc_old HLO.out.2 e hk)))))
    · have hil3 : i = ln := by omega
      subst hil3
      obtain ⟨uvi, htl, hfr, hloc⟩ := HF.out
      have hsl : (setsN l).take i = setsN l := List.take_of_length_le (by unfold setsN; rw [List.length_map, HLN.out]; omega)
      rw [hsl] at htl
      have c1 : wr.cell? ⟨T, 1, none⟩ = some (.int .i64 (hi : Int)) := heap_cellv htl.blk rfl
      have c2 : wr.cell? ⟨T, 2, none⟩ = some (.slice (some ⟨rb, 0, none⟩) rn rc) := heap_cellv htl.blk rfl
      have hhr : hi ≤ rn := by have := HR2.out; omega
      have hrc : rn ≤ rc := own_cap htl.rr
      have hhc : hi ≤ rc := by omega
      have HTA := Hid.mk' (And.intro htl (And.intro hfr hloc))
      clear htl hfr hloc hsl HF
      go_wp2
      go_big_quiet (fail)
      obtain ⟨WB, hWB⟩ : ∃ WB, WB = wr.drewN nq := ⟨_, rfl⟩
      have HGB : Hid (Grown wr WB) := by show Grown _ _; rw [hWB]; exact (Grown.refl _).drewN _
      rw [← hWB]
      have HB0 : Hid (FB w WB base T pv (.slice (some ⟨rb, 0, none⟩) rn rc) (.slice ua un uc) hi M ps b0 r0 ups l 0) := by
        obtain ⟨h1, h2, h3⟩ := HTA.out
        refine ⟨pv, uvi, ups, ps, (setsN l).map (· / 64), ?_, rfl, Lv.start (fun j hj => ?_), h2.trans (fr_grown HGB.out (fun _ => False)) fun _ _ e => e.elim, .inl rfl, h3⟩
        · have := h1.grown HGB.out
          rw [List.map_map]
          exact this
        · obtain ⟨x, hx, rfl⟩ := List.mem_map.1 hj
          obtain ⟨z, hz, rfl⟩ := List.mem_map.1 hx
          rw [flips_len]
          exact (HX.out z hz).2
      clear hWB c1 c2 HTA HGB
      go_wp2
      go_loopg [66] hi (fun k s66 wr => ∃ i : Nat, s66 = .int .i64 (i : Int) ∧ i ≤ hi ∧ hi - i ≤ k ∧ Hid (FB w wr base T pv (.slice (some ⟨rb, 0, none⟩) rn rc) (.slice ua un uc) hi M ps b0 r0 ups l i))
      case atStart => exact ⟨0, rfl, by omega, by omega, HB0⟩
      case round =>
        obtain ⟨k, rfl, hk1, hk2, HF⟩ := hrel
        clear HB0
        have hhI : (hi : Int) ≤ 1000000000000 := by omega
        have hkI : (k : Int) ≤ 1000000000000 := by omega
        by_cases hkl : k < hi
        · have hklI : (k : Int) < (hi : Int) := by omega
          obtain ⟨wo, hwo⟩ : ∃ wo, wo = wr := ⟨_, rfl⟩
          subst hwo
          obtain ⟨pvk, uvk, upk, psk, tsk, htl, hfs, hlv, hfr, hlp, hlu⟩ := HF.out
          obtain ⟨va, vc, hvv⟩ := own_len htl.tu
          obtain ⟨vn, hvn⟩ : ∃ vn, (tsk.map fun (x : Nat) => (x : Int)).length = vn := ⟨_, rfl⟩
          rw [hvn] at hvv
          subst hvv
          have hupl : upk.length = hi := by have := congrArg List.length hfs; simp at this; rw [this]; exact HHI.out
          have hkr : k < ((b0, flips r0 (setsN l)) :: upk).length := by simp; omega
          have ck := htl.rat hkr
          obtain ⟨kb, rk, hkb⟩ : ∃ kb rk, ((b0, flips r0 (setsN l)) :: upk)[k] = (kb, rk) := ⟨_, _, rfl⟩
          rw [hkb] at ck
          have hkb2 : ((b0, flips r0 (setsN l)) :: upk)[k]? = some (kb, rk) := by rw [List.getElem?_eq_getElem hkr, hkb]
          obtain ⟨kl, hkl2⟩ : ∃ kl, rk.length = kl := ⟨_, rfl⟩
          have ck : wo.cell? ⟨rb, k, none⟩ = some (.slice (some ⟨kb, 0, none⟩) kl kl) := by rw [← hkl2]; exact ck
          have c4 : wo.cell? ⟨T, 4, none⟩ = some (.slice va vn vc) := heap_cellv htl.blk rfl
          have HTK := Hid.mk' (And.intro htl (And.intro hfs (And.intro hlv (And.intro hfr (And.intro hlp hlu)))))
          have HKB := Hid.mk' (And.intro hkb2 hkl2)
          have HUL := Hid.mk' hupl
          have HKL : Hid (kl ≤ 1000000000000) := by
            show kl ≤ _
            obtain ⟨z, hz1, hz2⟩ := row_len (r0 := r0) HTK.out.2.2.1.len hkb2 (flips_len _ _)
            rw [← hkl2, ← hz2]
            exact HUB.out z (List.mem_of_getElem? hz1)
          have HVN := Hid.mk' hvn
          have hvnb : vn ≤ 1000000000000 := by rw [← hvn]; have := hlv.tl; have := HLN.out; simp [setsN] at *; omega
          have hvnI : (vn : Int) ≤ 1000000000000 := by omega
          rename_i ck0
          clear ck0
          clear htl hfs hlv hfr hlp hlu hvn hkb hkb2 hkl2 hupl hkr HF
          have H0 : Hid (FH wo wo base va vn vc tsk 0) := by
            obtain ⟨h1, _⟩ := HTK.out
            exact ⟨by simpa using h1.tu, Fr.refl _ _⟩
          go_wp2
          clear c4 ck
          go_loopg [76] vn (fun k' s76 wr => ∃ j : Nat, s76 = .int .i64 (j : Int) ∧ j ≤ vn ∧ vn - j ≤ k' ∧ Hid (FH wo wr base va vn vc tsk j))
          case atStart => exact ⟨0, rfl, by omega, by omega, H0⟩
          case round =>
            obtain ⟨j, rfl, hj1, hj2, HJ⟩ := hrel
            clear H0
            have hjI : (j : Int) ≤ 1000000000000 := by omega
            by_cases hjl : j < vn
            · as_aux_lemma =>
                have hjlI : (j : Int) < (vn : Int) := by omega
                have hjt : j < tsk.length := by have := HVN.out; simp at this; omega
                obtain ⟨ug, hva, cj, fj⟩ := HJ.out.at hjt
                subst hva
                obtain ⟨t, ht⟩ : ∃ t, tsk.getD j 0 = t := ⟨_, rfl⟩
                rw [ht] at cj
                have htb : (t : Int) ≤ 1000000000000 := by
                  have h1 := HTK.out.2.2.1.tb t (by rw [← ht, List.getD_eq_getElem?_getD, List.getElem?_eq_getElem hjt]; exact List.getElem_mem hjt)
                  have h2 := HKB.out
                  have h3 : (((flips r0 (setsN l)) :: upk.map Prod.snd).getD k []) = rk := by
                    have : ((flips r0 (setsN l)) :: upk.map Prod.snd)[k]? = some rk := by
                      have := congrArg (Option.map Prod.snd) h2.1
                      rw [← List.getElem?_map] at this
                      simpa using this
                    rw [List.getD_eq_getElem?_getD, this]; rfl
                  rw [h3, h2.2] at h1
                  have := HKL.out
                  omega
                have d4 : wr.cell? ⟨T, 4, none⟩ = some (.slice (some ⟨ug, 0, none⟩) vn vc) := heap_cellv ((HJ.out.2.block _ (blk_lt HTK.out.1.blk) HTK.out.1.T_ne.2.2.1).trans HTK.out.1.blk) rfl
                have HT := Hid.mk' ht
                clear ht
                go_wp2
                go_roundg (vn - (j + 1))
                case measure => omega
                case rel =>
                  refine ⟨j + 1, rfl, by omega, Nat.le_refl _, ?_⟩
                  have h9 := HJ.out.step hjt (by have := HVN.out; simp at this; omega)
                  rw [HT.out] at h9
                  have h9 : FH wo _ base (some ⟨ug, 0, none⟩) vn vc tsk (j + 1) := h9
                  exact h9
            · have hjv : j = vn := by omega
              subst hjv
              have HTJ : Hid (TL wr base T pvk (.slice (some ⟨rb, 0, none⟩) rn rc) (.slice va j vc) hi M psk ((b0, flips r0 (setsN l)) :: upk) ((tsk.map (· / 2)).map fun (x : Nat) => (x : Int)) ∧ Fr wo wr (fun k => (Value.slice va j vc).ownBlock = some k)) := by
                obtain ⟨h1, h2⟩ := HJ.out
                have hvt : j = tsk.length := by have := HVN.out; simp at this; omega
                rw [hvt, List.take_length, List.drop_length, List.append_nil, ← hvt] at h1
                exact ⟨HTK.out.1.tin h2 h1, h2⟩
              have d4 : wr.cell? ⟨T, 4, none⟩ = some (.slice va j vc) := heap_cellv HTJ.out.1.blk rfl
              have HCO := Hid.mk' (compact_own HTJ.out.1.tu)
              clear HJ
              go_wp2_with fail
              refine HCO.out.mono ?_
              rintro e wc ⟨xv, rfl, ho, hfc, hob⟩
              obtain ⟨e4, htc, hfd⟩ := HTJ.out.1.tou hfc ho
              obtain ⟨xa, xc, hxv⟩ := own_len ho
              obtain ⟨xn, hxn⟩ : ∃ xn, (Lib.compact ((tsk.map (· / 2)).map fun (x : Nat) => (x : Int))).length = xn := ⟨_, rfl⟩
              rw [hxn] at hxv
              subst hxv
              have g4 : wc.cell? ⟨T, 4, none⟩ = some (.slice va j vc) := heap_cellv e4 rfl
              have gf : wc.frozen? ⟨T, 4, none⟩ = false := free_of e4
              obtain ⟨tn, htn⟩ : ∃ tn, Lib.compact (tsk.map (· / 2)) = tn := ⟨_, rfl⟩
              rw [compact_cast, htn] at htc hxn
              have HXN : Hid (tn.length = xn) := by show _ = _; simpa using hxn
              have HTN := Hid.mk' htn
              obtain ⟨WC, hWC⟩ : ∃ WC, WC = wc.setCell ⟨T, 4, none⟩ (.slice xa xn xc) := ⟨_, rfl⟩
              rw [← hWC] at htc hfd
              have HTC := Hid.mk' (And.intro htc (And.intro ((HTJ.out.2.mono fun _ _ e => Or.inr e).trans hfd fun _ _ e => e) hob))
              have hxb : xn ≤ 1000000000000 := by
                have h1 := HXN.out
                have h2 := compact_len (tsk.map (· / 2))
                rw [htn, List.length_map] at h2
                have h3 := HVN.out
                simp at h3
                omega
              have hxI : (xn : Int) ≤ 1000000000000 := by omega
              obtain ⟨ab, ar, hab⟩ : ∃ ab ar, upk[k]? = some (ab, ar) := ⟨_, _, List.getElem?_eq_getElem (by have := HUL.out; omega)⟩
              have HAB := Hid.mk' hab
              have HLN2 : Hid (∀ ab ar, upk[k]? = some (ab, ar) → kl % 2 = 0 ∧ kl ≤ 2 * ar.length) := fun ab ar hab => by
                obtain ⟨z, hz1, hz2⟩ := row_len (r0 := r0) HTK.out.2.2.1.len HKB.out.1 (flips_len _ _)
                obtain ⟨y, hy1, hy2⟩ := row_len (b0 := b0) (r0 := r0) (r1 := flips r0 (setsN l)) (k := k + 1) HTK.out.2.2.1.len (by rw [List.getElem?_cons_succ]; exact hab) (flips_len _ _)
                have := HLE.out k z y hz1 hy1
                have := HKB.out.2
                omega
              have H0 : Hid (FC WC WC base T pvk (.slice (some ⟨rb, 0, none⟩) rn rc) (.slice xa xn xc) hi M psk b0 (flips r0 (setsN l)) upk rk k ab ar tn 0) := by
                refine ⟨pvk, ?_, Fr.refl _ _, .inl rfl⟩
                have e0 : lev rk (psk, ar) (tn.take 0) = (psk, ar) := by simp [lev]
                rw [e0]
                have e1 : upk.set k (ab, ar) = upk := set_same hab
                show TL WC base T pvk _ _ hi M psk ((b0, flips r0 (setsN l)) :: upk.set k (ab, ar)) _
                rw [e1]
                exact HTC.out.1
              clear ho hfc hob e4 htc hfd hxn htn hab HCO d4
              go_wp2_with fail
              rw [← hWC]
              have g4 : WC.cell? ⟨T, 4, none⟩ = some (.slice xa xn xc) := heap_cellv HTC.out.1.blk rfl
              clear hWC gf
              go_wp2
              clear g4
              go_loopg [102] xn (fun k' s102 wr => ∃ jj : Nat, s102 = .int .i64 (jj : Int) ∧ jj ≤ xn ∧ xn - jj ≤ k' ∧ Hid (FC WC wr base T pvk (.slice (some ⟨rb, 0, none⟩) rn rc) (.slice xa xn xc) hi M psk b0 (flips r0 (setsN l)) upk rk k ab ar tn jj))
              case atStart => exact ⟨0, rfl, by omega, by omega, H0⟩
              case round =>
                obtain ⟨jj, rfl, hjj1, hjj2, HC⟩ := hrel
                clear H0
                have hjjI : (jj : Int) ≤ 1000000000000 := by omega
                by_cases hjjl : jj < xn
                · as_aux_lemma =>
                    have hjjlI : (jj : Int) < (xn : Int) := by omega
                    have hjt : jj < tn.length := by have := HXN.out; omega
                    obtain ⟨pvj, htl, hfj, hlj⟩ := HC.out
                    obtain ⟨P, L2, hPL⟩ : ∃ P L2, lev rk (psk, ar) (tn.take jj) = (P, L2) := ⟨_, _, rfl⟩
                    have hsz := lev_sizes rk (tn.take jj) (psk, ar)
                    rw [hPL] at htl hsz
                    obtain ⟨xg, cur, hxa, hq1, hq2, hcu, hq3, hq4, hq5, hcat⟩ := own_cells htl.tu (fun e => by have := congrArg List.length e; simp at this; rw [this] at hjt; simp at hjt)
                    subst hxa
                    obtain ⟨t, ht⟩ : ∃ t, tn.getD jj 0 = t := ⟨_, rfl⟩
                    have ct : wr.cell? ⟨xg, jj, none⟩ = some (.int .i64 (t : Int)) := heap_cellv hcu (by rw [hcat jj (by simpa using hjt), ← ht]; simp [List.getD_eq_getElem?_getD, hjt])
                    have htm : t ∈ tn := by rw [← ht, List.getD_eq_getElem?_getD, List.getElem?_eq_getElem hjt]; exact List.getElem_mem hjt
                    obtain ⟨tz, htz, hte⟩ := List.mem_map.1 ((mem_compact _ _).1 (HTN.out ▸ htm))
                    have htz2 := HTK.out.2.2.1.tb tz htz
                    have hrk : (((flips r0 (setsN l)) :: upk.map Prod.snd).getD k []) = rk := by
                      have : ((flips r0 (setsN l)) :: upk.map Prod.snd)[k]? = some rk := by
                        have := congrArg (Option.map Prod.snd) HKB.out.1
                        rw [← List.getElem?_map] at this
                        simpa using this
                      rw [List.getD_eq_getElem?_getD, this]; rfl
                    rw [hrk, HKB.out.2] at htz2
                    have hlens := HLN2.out
                    have hkl0 := HKL.out
                    have hr1 : ((b0, flips r0 (setsN l)) :: upk.set k (ab, L2))[k + 1]? = some (ab, L2) := by
                      rw [List.getElem?_cons_succ, List.getElem?_set_self (by have := HUL.out; omega)]
                    have hr0' : ((b0, flips r0 (setsN l)) :: upk.set k (ab, L2))[k]? = some (kb, rk) := by
                      rw [← HKB.out.1]
                      cases k with
                      | zero => rfl
                      | succ k => rw [List.getElem?_cons_succ, List.getElem?_cons_succ, List.getElem?_set_ne (by omega)]
                    obtain ⟨al, hal⟩ : ∃ al, L2.length = al := ⟨_, rfl⟩
                    have hal2 : ar.length = al := by have := hsz.2; simp only at this; omega
                    obtain ⟨hle1, hle2⟩ := hlens ab ar HAB.out
                    rw [hal2] at hle2
                    have htal : t < al := by omega
                    have ht2 : 2 * t + 1 < kl := by omega
                    obtain ⟨t2, ht2e⟩ : ∃ t2, 2 * t = t2 := ⟨_, rfl⟩
                    obtain ⟨t3, ht3e⟩ : ∃ t3, t2 + 1 = t3 := ⟨_, rfl⟩
                    obtain ⟨k1, hk1e⟩ : ∃ k1, k + 1 = k1 := ⟨_, rfl⟩
                    rw [hk1e] at hr1
                    have htI : (t : Int) ≤ 1000000000000 := by omega
                    obtain ⟨cpa, _, hpa6⟩ := htl.cell2 hr0' (j := t2) (by have := HKB.out.2; omega)
                    obtain ⟨cpb, _, hpb6⟩ := htl.cell2 hr0' (j := t3) (by have := HKB.out.2; omega)
                    obtain ⟨pa, hpa⟩ : ∃ pa, rk.getD t2 0 = pa := ⟨_, rfl⟩
                    obtain ⟨pb, hpb⟩ : ∃ pb, rk.getD t3 0 = pb := ⟨_, rfl⟩
                    rw [hpa] at cpa hpa6
                    rw [hpb] at cpb hpb6
                    have cT2 : wr.cell? ⟨T, 2, none⟩ = some (.slice (some ⟨rb, 0, none⟩) rn rc) := heap_cellv htl.blk rfl
                    have ck1 : wr.cell? ⟨rb, k1, none⟩ = some (.slice (some ⟨ab, 0, none⟩) al al) := by rw [← hal]; exact htl.rat2 hr1
                    have hPn : P.length < 1000000000 := by
                      have h1 := hsz.1
                      have h2 := HTK.out.2.2.1.pb
                      have h3 := HPN.out
                      have h4 : ((setsN l).map (· / 64)).length = l.length := by simp [setsN]
                      have h5 : (tn.take jj).length ≤ l.length := by
                        have := compact_len (tsk.map (· / 2))
                        have := HTK.out.2.2.1.tl
                        rw [HTN.out] at *
                        simp only [List.length_map, List.length_take] at *
                        omega
                      rw [h4] at h2
                      have h6 : l.length * (k + 1) ≤ l.length * hi := Nat.mul_le_mul_left _ (by omega)
                      rw [Nat.mul_succ] at h6
                      simp only at h1
                      omega
                    have HT2 : Hid ((2 : Int) * (t : Int) = (t2 : Int)) := by show _ = _; omega
                    have HW2 : Hid (IntKind.i64.wrap (t2 : Int) = (t2 : Int)) := IntWalk.i64_in _ (by omega)
                    have HW3 : Hid (IntKind.i64.wrap ((t2 : Int) + 1) = (t3 : Int)) := by show _ = _; rw [IntWalk.i64_in _ (by omega)]; omega
                    have HW4 : Hid (IntKind.i64.wrap ((k : Int) + 1) = (k : Int) + 1) := IntWalk.i64_in _ (by omega)
                    have HK1 : Hid ((k : Int) + 1 = (k1 : Int)) := by show _ = _; omega
                    have hk1r : k1 < rn := by have := HR2.out; omega
                    have hk1I : (k1 : Int) ≤ 1000000000001 := by omega
                    have ht2a : t2 < kl := by omega
                    have ht2b : t3 < kl := by omega
                    have HTX := Hid.mk' htl
                    have HLO := Hid.mk' (And.intro hfj hlj)
                    have HPL := Hid.mk' hPL
                    have HPP : Hid (ok2 (pa, pb) ∧ P.length < 1000000000 ∧ prAt rk t = (pa, pb)) := ⟨⟨hpa6, hpb6⟩, hPn, by unfold prAt; rw [ht2e, ht3e, hpa, hpb]⟩
                    have HR1 := Hid.mk' (And.intro hr1 (And.intro hal (And.intro ht hjt)))
                    have HK1E := Hid.mk' hk1e
                    clear hq1 hq2 hq3 hq4 hq5 htl hfj hlj hPL hsz hcu hcat ht htm htz hte htz2 hrk hlens hr1 hr0' hal hal2 hle1 hle2 ht2e ht3e hk1e hpa hpb hPn hpa6 hpb6 ht2 hkl0 HC
                    go_wp2
                    refine wp_region_clo mixed (by kernel_rfl) (by kernel_rfl) (by kernel_rfl) (JA wr (val36c T rb rn rc k k1 t t2 t3 kb kl ab al pa pb) (fun _ _ _ => True) 22 24 (fun v W => ∃ pvn, v = .int .u64 ((P.idxOf (pa, pb) : Nat) : Int) ∧ TL W base T pvn (.slice (some ⟨rb, 0, none⟩) rn rc) (.slice (some ⟨xg, 0, none⟩) xn xc) hi M (addP P (pa, pb)) ((b0, flips r0 (setsN l)) :: upk.set k (ab, L2)) (tn.map fun (x : Nat) => (x : Int)) ∧ Fr wr W (fun c => c = T ∨ c = M ∨ pvj.ownBlock = some c) ∧ Loc wr pvj pvn) (fun W => ∃ pvn, TL W base T pvn (.slice (some ⟨rb, 0, none⟩) rn rc) (.slice (some ⟨xg, 0, none⟩) xn xc) hi M (addP P (pa, pb)) (((b0, flips r0 (setsN l)) :: upk.set k (ab, L2)).set k1 (ab, L2.set t (P.idxOf (pa, pb)))) (tn.map fun (x : Nat) => (x : Int)) ∧ Fr wr W (fun c => c = T ∨ c = M ∨ pvj.ownBlock = some c ∨ c = ab) ∧ Loc wr pvj pvn)) JA.start ⟨?_, ?_, ?_, ?_, ?_, ?_, ?_, ?_, ?_, ?_, ?_, ?_, ?_, ?_, ?_, ?_, ?_, ?_, ?_, ?_, ?_, ?_, ?_, ?_, ?_, trivial⟩ ?_
                    · as_aux_lemma =>
                        intro aA wx p vs hJ hdep hpi hcl hval hfr K hK
                        rw [if_pos (show Region.wanted _ _ = true from rfl)]
                        have zd0 : aA.tmps.getD 0 undef = .pointer (some ⟨T, 0, none⟩) := hfr 0 (by kernel_rfl)
                        have hJ' := hJ.pure 0 (by decide) (by decide) rfl (fun _ _ => trivial)
                        clear hval hfr hdep hJ hcl
                        simp only [Array.getD_eq_getD_getElem?] at zd0
                        go_simp
                        exact hK _ _ hJ'
                    · as_aux_lemma =>
                        intro aA wx p vs hJ hdep hpi hcl hval hfr K hK
                        rw [if_pos (show Region.wanted _ _ = true from rfl)]
                        have zd0 : aA.tmps.getD 106 undef = .pointer (some ⟨T, 0, none⟩) := (hval 0 _ 106 (hdep 0 (by kernel_rfl)) (by rfl) rfl).trans (hJ.v 0 _ rfl (hdep 0 (by kernel_rfl)))
                        have hJ' := hJ.pure 1 (by decide) (by decide) rfl (fun _ _ => trivial)
                        clear hval hfr hdep hJ hcl
                        simp only [Array.getD_eq_getD_getElem?] at zd0
                        go_simp
                        exact hK _ _ hJ'
                    · as_aux_lemma =>
                        intro aA wx p vs hJ hdep hpi hcl hval hfr K hK
                        rw [if_pos (show Region.wanted _ _ = true from rfl)]
                        have zd0 : aA.tmps.getD 107 undef = .pointer (some ⟨T, 0, none⟩) := (hval 1 _ 107 (hdep 1 (by kernel_rfl)) (by rfl) rfl).trans (hJ.v 1 _ rfl (hdep 1 (by kernel_rfl)))
                        have hJ' := hJ.pure 2 (by decide) (by decide) rfl (fun _ _ => trivial)
                        clear hval hfr hdep hJ hcl
                        simp only [Array.getD_eq_getD_getElem?] at zd0
                        go_simp
                        exact hK _ _ hJ'
                    · as_aux_lemma =>
                        intro aA wx p vs hJ hdep hpi hcl hval hfr K hK
                        rw [if_pos (show Region.wanted _ _ = true from rfl)]
                        have hnS : p 24 = false := by
                          cases e : p 24 with
                          | false => rfl
                          | true =>
                            have z0 := hcl 24 _ (by rfl) e 3 (by kernel_rfl)
                            rw [hpi] at z0; cases z0
                        have zd0 : aA.tmps.getD 108 undef = .pointer (some ⟨T, 2, none⟩) := (hval 2 _ 108 (hdep 2 (by kernel_rfl)) (by rfl) rfl).trans (hJ.v 2 _ rfl (hdep 2 (by kernel_rfl)))
                        have cc : wx.cell? ⟨T, 2, none⟩ = some (.slice (some ⟨rb, 0, none⟩) rn rc) := by
                          cases hA : p 22 with
                          | false => exact (hJ.g hA hnS).cellv cT2
                          | true => obtain ⟨pvz, _, hz, _⟩ := hJ.a hA hnS; exact heap_cellv hz.blk rfl
                        have HJ := Hid.mk' hJ
                        clear hval hfr hdep hJ hcl
                        simp only [Array.getD_eq_getD_getElem?] at zd0
                        go_simp
                        exact hK _ _ (HJ.out.pure 3 (by decide) (by decide) rfl (fun _ _ => trivial))
                    · as_aux_lemma =>
                        intro aA wx p vs hJ hdep hpi hcl hval hfr K hK
                        rw [if_pos (show Region.wanted _ _ = true from rfl)]
                        have zd0 : aA.tmps.getD 6 undef = .int .i64 (k : Int) := hfr 6 (by kernel_rfl)
                        have hJ' := hJ.pure 4 (by decide) (by decide) rfl (fun _ _ => trivial)
                        clear hval hfr hdep hJ hcl
                        simp only [Array.getD_eq_getD_getElem?] at zd0
                        go_simp
                        exact hK _ _ hJ'
                    · as_aux_lemma =>
                        intro aA wx p vs hJ hdep hpi hcl hval hfr K hK
                        rw [if_pos (show Region.wanted _ _ = true from rfl)]
                        have zd0 : aA.tmps.getD 110 undef = .int .i64 (k : Int) := (hval 4 _ 110 (hdep 4 (by kernel_rfl)) (by rfl) rfl).trans (hJ.v 4 _ rfl (hdep 4 (by kernel_rfl)))
                        have HJ := Hid.mk' hJ
                        clear hval hfr hdep hJ hcl
                        simp only [Array.getD_eq_getD_getElem?] at zd0
                        go_simp
                        rw [HW4.out, HK1.out]
                        exact hK _ _ (HJ.out.pure 5 (by decide) (by decide) rfl (fun _ _ => trivial))
                    · as_aux_lemma =>
                        intro aA wx p vs hJ hdep hpi hcl hval hfr K hK
                        rw [if_pos (show Region.wanted _ _ = true from rfl)]
                        have zd0 : aA.tmps.getD 109 undef = .slice (some ⟨rb, 0, none⟩) rn rc := (hval 3 _ 109 (hdep 3 (by kernel_rfl)) (by rfl) rfl).trans (hJ.v 3 _ rfl (hdep 3 (by kernel_rfl)))
                        have zd1 : aA.tmps.getD 111 undef = .int .i64 (k1 : Int) := (hval 5 _ 111 (hdep 5 (by kernel_rfl)) (by rfl) rfl).trans (hJ.v 5 _ rfl (hdep 5 (by kernel_rfl)))
                        have hJ' := hJ.pure 6 (by decide) (by decide) rfl (fun _ _ => trivial)
                        clear hval hfr hdep hJ hcl
                        simp only [Array.getD_eq_getD_getElem?] at zd0 zd1
                        go_simp
                        exact hK _ _ hJ'
                    · as_aux_lemma =>
                        intro aA wx p vs hJ hdep hpi hcl hval hfr K hK
                        rw [if_pos (show Region.wanted _ _ = true from rfl)]
                        have hnS : p 24 = false := by
                          cases e : p 24 with
                          | false => rfl
                          | true =>
                            have z0 := hcl 24 _ (by rfl) e 7 (by kernel_rfl)
                            rw [hpi] at z0; cases z0
                        have zd0 : aA.tmps.getD 112 undef = .pointer (some ⟨rb, k1, none⟩) := (hval 6 _ 112 (hdep 6 (by kernel_rfl)) (by rfl) rfl).trans (hJ.v 6 _ rfl (hdep 6 (by kernel_rfl)))
                        have cc : wx.cell? ⟨rb, k1, none⟩ = some (.slice (some ⟨ab, 0, none⟩) al al) := by
                          cases hA : p 22 with
                          | false => exact (hJ.g hA hnS).cellv ck1
                          | true => obtain ⟨pvz, _, hz, _⟩ := hJ.a hA hnS; exact (by rw [← HR1.out.2.1]; exact hz.rat2 HR1.out.1)
                        have HJ := Hid.mk' hJ
                        clear hval hfr hdep hJ hcl
                        simp only [Array.getD_eq_getD_getElem?] at zd0
                        go_simp
                        exact hK _ _ (HJ.out.pure 7 (by decide) (by decide) rfl (fun _ _ => trivial))
                    · as_aux_lemma =>
                        intro aA wx p vs hJ hdep hpi hcl hval hfr K hK
                        rw [if_pos (show Region.wanted _ _ = true from rfl)]
                        have zd0 : aA.tmps.getD 10 undef = .int .i64 (t : Int) := hfr 10 (by kernel_rfl)
                        have hJ' := hJ.pure 8 (by decide) (by decide) rfl (fun _ _ => trivial)
                        clear hval hfr hdep hJ hcl
                        simp only [Array.getD_eq_getD_getElem?] at zd0
                        go_simp
                        exact hK _ _ hJ'
                    · as_aux_lemma =>
                        intro aA wx p vs hJ hdep hpi hcl hval hfr K hK
                        rw [if_pos (show Region.wanted _ _ = true from rfl)]
                        have zd0 : aA.tmps.getD 0 undef = .pointer (some ⟨T, 0, none⟩) := hfr 0 (by kernel_rfl)
                        have hJ' := hJ.pure 9 (by decide) (by decide) rfl (fun _ _ => trivial)
                        clear hval hfr hdep hJ hcl
                        simp only [Array.getD_eq_getD_getElem?] at zd0
                        go_simp
                        exact hK _ _ hJ'
                    · as_aux_lemma =>
                        intro aA wx p vs hJ hdep hpi hcl hval hfr K hK
                        rw [if_pos (show Region.wanted _ _ = true from rfl)]
                        have zd0 : aA.tmps.getD 7 undef = .slice (some ⟨kb, 0, none⟩) kl kl := hfr 7 (by kernel_rfl)
                        have hJ' := hJ.pure 10 (by decide) (by decide) rfl (fun _ _ => trivial)
                        clear hval hfr hdep hJ hcl
                        simp only [Array.getD_eq_getD_getElem?] at zd0
                        go_simp
                        exact hK _ _ hJ'
                    · as_aux_lemma =>
                        intro aA wx p vs hJ hdep hpi hcl hval hfr K hK
                        rw [if_pos (show Region.wanted _ _ = true from rfl)]
                        have zd0 : aA.tmps.getD 10 undef = .int .i64 (t : Int) := hfr 10 (by kernel_rfl)
                        have hJ' := hJ.pure 11 (by decide) (by decide) rfl (fun _ _ => trivial)
                        clear hval hfr hdep hJ hcl
                        simp only [Array.getD_eq_getD_getElem?] at zd0
                        go_simp
                        exact hK _ _ hJ'
                    · as_aux_lemma =>
                        intro aA wx p vs hJ hdep hpi hcl hval hfr K hK
                        rw [if_pos (show Region.wanted _ _ = true from rfl)]
                        have zd0 : aA.tmps.getD 117 undef = .int .i64 (t : Int) := (hval 11 _ 117 (hdep 11 (by kernel_rfl)) (by rfl) rfl).trans (hJ.v 11 _ rfl (hdep 11 (by kernel_rfl)))
                        have HJ := Hid.mk' hJ
                        clear hval hfr hdep hJ hcl
                        simp only [Array.getD_eq_getD_getElem?] at zd0
                        go_simp
                        rw [HT2.out, HW2.out]
                        exact hK _ _ (HJ.out.pure 12 (by decide) (by decide) rfl (fun _ _ => trivial))
                    · as_aux_lemma =>
                        intro aA wx p vs hJ hdep hpi hcl hval hfr K hK
                        rw [if_pos (show Region.wanted _ _ = true from rfl)]
                        have zd0 : aA.tmps.getD 116 undef = .slice (some ⟨kb, 0, none⟩) kl kl := (hval 10 _ 116 (hdep 10 (by kernel_rfl)) (by rfl) rfl).trans (hJ.v 10 _ rfl (hdep 10 (by kernel_rfl)))
                        have zd1 : aA.tmps.getD 118 undef = .int .i64 (t2 : Int) := (hval 12 _ 118 (hdep 12 (by kernel_rfl)) (by rfl) rfl).trans (hJ.v 12 _ rfl (hdep 12 (by kernel_rfl)))
                        have hJ' := hJ.pure 13 (by decide) (by decide) rfl (fun _ _ => trivial)
                        clear hval hfr hdep hJ hcl
                        simp only [Array.getD_eq_getD_getElem?] at zd0 zd1
                        go_simp
                        exact hK _ _ hJ'
                    · as_aux_lemma =>
                        intro aA wx p vs hJ hdep hpi hcl hval hfr K hK
                        rw [if_pos (show Region.wanted _ _ = true from rfl)]
                        have hnA : p 22 = false := by
                          cases e : p 22 with
                          | false => rfl
                          | true =>
                            have z0 := hcl 22 _ (by rfl) e 21 (by kernel_rfl)
                            have z1 := hcl 21 _ (by rfl) z0 14 (by kernel_rfl)
                            rw [hpi] at z1; cases z1
                        have hnS : p 24 = false := by
                          cases e : p 24 with
                          | false => rfl
                          | true =>
                            have z0 := hcl 24 _ (by rfl) e 14 (by kernel_rfl)
                            rw [hpi] at z0; cases z0
                        have zd0 : aA.tmps.getD 119 undef = .pointer (some ⟨kb, t2, none⟩) := (hval 13 _ 119 (hdep 13 (by kernel_rfl)) (by rfl) rfl).trans (hJ.v 13 _ rfl (hdep 13 (by kernel_rfl)))
                        have cc := (hJ.g hnA hnS).cellv cpa
                        have HJ := Hid.mk' hJ
                        clear hval hfr hdep hJ hcl
                        simp only [Array.getD_eq_getD_getElem?] at zd0
                        go_simp
                        exact hK _ _ (HJ.out.pure 14 (by decide) (by decide) rfl (fun _ _ => trivial))
                    · as_aux_lemma =>
                        intro aA wx p vs hJ hdep hpi hcl hval hfr K hK
                        rw [if_pos (show Region.wanted _ _ = true from rfl)]
                        have zd0 : aA.tmps.getD 7 undef = .slice (some ⟨kb, 0, none⟩) kl kl := hfr 7 (by kernel_rfl)
                        have hJ' := hJ.pure 15 (by decide) (by decide) rfl (fun _ _ => trivial)
                        clear hval hfr hdep hJ hcl
                        simp only [Array.getD_eq_getD_getElem?] at zd0
                        go_simp
                        exact hK _ _ hJ'
                    · as_aux_lemma =>
                        intro aA wx p vs hJ hdep hpi hcl hval hfr K hK
                        rw [if_pos (show Region.wanted _ _ = true from rfl)]
                        have zd0 : aA.tmps.getD 10 undef = .int .i64 (t : Int) := hfr 10 (by kernel_rfl)
                        have hJ' := hJ.pure 16 (by decide) (by decide) rfl (fun _ _ => trivial)
                        clear hval hfr hdep hJ hcl
                        simp only [Array.getD_eq_getD_getElem?] at zd0
                        go_simp
                        exact hK _ _ hJ'
                    · as_aux_lemma =>
                        intro aA wx p vs hJ hdep hpi hcl hval hfr K hK
                        rw [if_pos (show Region.wanted _ _ = true from rfl)]
                        have zd0 : aA.tmps.getD 122 undef = .int .i64 (t : Int) := (hval 16 _ 122 (hdep 16 (by kernel_rfl)) (by rfl) rfl).trans (hJ.v 16 _ rfl (hdep 16 (by kernel_rfl)))
                        have HJ := Hid.mk' hJ
                        clear hval hfr hdep hJ hcl
                        simp only [Array.getD_eq_getD_getElem?] at zd0
                        go_simp
                        rw [HT2.out, HW2.out]
                        exact hK _ _ (HJ.out.pure 17 (by decide) (by decide) rfl (fun _ _ => trivial))
                    · as_aux_lemma =>
                        intro aA wx p vs hJ hdep hpi hcl hval hfr K hK
                        rw [if_pos (show Region.wanted _ _ = true from rfl)]
                        have zd0 : aA.tmps.getD 123 undef = .int .i64 (t2 : Int) := (hval 17 _ 123 (hdep 17 (by kernel_rfl)) (by rfl) rfl).trans (hJ.v 17 _ rfl (hdep 17 (by kernel_rfl)))
                        have HJ := Hid.mk' hJ
                        clear hval hfr hdep hJ hcl
                        simp only [Array.getD_eq_getD_getElem?] at zd0
                        go_simp
                        rw [HW3.out]
                        exact hK _ _ (HJ.out.pure 18 (by decide) (by decide) rfl (fun _ _ => trivial))
                    · as_aux_lemma =>
                        intro aA wx p vs hJ hdep hpi hcl hval hfr K hK
                        rw [if_pos (show Region.wanted _ _ = true from rfl)]
                        have zd0 : aA.tmps.getD 121 undef = .slice (some ⟨kb, 0, none⟩) kl kl := (hval 15 _ 121 (hdep 15 (by kernel_rfl)) (by rfl) rfl).trans (hJ.v 15 _ rfl (hdep 15 (by kernel_rfl)))
                        have zd1 : aA.tmps.getD 124 undef = .int .i64 (t3 : Int) := (hval 18 _ 124 (hdep 18 (by kernel_rfl)) (by rfl) rfl).trans (hJ.v 18 _ rfl (hdep 18 (by kernel_rfl)))
                        have hJ' := hJ.pure 19 (by decide) (by decide) rfl (fun _ _ => trivial)
                        clear hval hfr hdep hJ hcl
                        simp only [Array.getD_eq_getD_getElem?] at zd0 zd1
                        go_simp
                        exact hK _ _ hJ'
                    · as_aux_lemma =>
                        intro aA wx p vs hJ hdep hpi hcl hval hfr K hK
                        rw [if_pos (show Region.wanted _ _ = true from rfl)]
                        have hnA : p 22 = false := by
                          cases e : p 22 with
                          | false => rfl
                          | true =>
                            have z0 := hcl 22 _ (by rfl) e 21 (by kernel_rfl)
                            have z1 := hcl 21 _ (by rfl) z0 20 (by kernel_rfl)
                            rw [hpi] at z1; cases z1
                        have hnS : p 24 = false := by
                          cases e : p 24 with
                          | false => rfl
                          | true =>
                            have z0 := hcl 24 _ (by rfl) e 20 (by kernel_rfl)
                            rw [hpi] at z0; cases z0
                        have zd0 : aA.tmps.getD 125 undef = .pointer (some ⟨kb, t3, none⟩) := (hval 19 _ 125 (hdep 19 (by kernel_rfl)) (by rfl) rfl).trans (hJ.v 19 _ rfl (hdep 19 (by kernel_rfl)))
                        have cc := (hJ.g hnA hnS).cellv cpb
                        have HJ := Hid.mk' hJ
                        clear hval hfr hdep hJ hcl
                        simp only [Array.getD_eq_getD_getElem?] at zd0
                        go_simp
                        exact hK _ _ (HJ.out.pure 20 (by decide) (by decide) rfl (fun _ _ => trivial))
                    · as_aux_lemma =>
                        intro aA wx p vs hJ hdep hpi hcl hval hfr K hK
                        rw [if_pos (show Region.wanted _ _ = true from rfl)]
                        have zd0 : aA.tmps.getD 120 undef = .int .u64 (pa : Int) := (hval 14 _ 120 (hdep 14 (by kernel_rfl)) (by rfl) rfl).trans (hJ.v 14 _ rfl (hdep 14 (by kernel_rfl)))
                        have zd1 : aA.tmps.getD 126 undef = .int .u64 (pb : Int) := (hval 20 _ 126 (hdep 20 (by kernel_rfl)) (by rfl) rfl).trans (hJ.v 20 _ rfl (hdep 20 (by kernel_rfl)))
                        have hJ' := hJ.pure 21 (by decide) (by decide) rfl (fun _ _ => trivial)
                        clear hval hfr hdep hJ hcl
                        simp only [Array.getD_eq_getD_getElem?] at zd0 zd1
                        go_simp
                        exact hK _ _ hJ'
                    · as_aux_lemma =>
                        intro aA wx p vs hJ hdep hpi hcl hval hfr K hK
                        rw [if_pos (show Region.wanted _ _ = true from rfl)]
                        have hnS : p 24 = false := by
                          cases e : p 24 with
                          | false => rfl
                          | true =>
                            have z0 := hcl 24 _ (by rfl) e 22 (by kernel_rfl)
                            rw [hpi] at z0; cases z0
                        have zd0 : aA.tmps.getD 115 undef = .pointer (some ⟨T, 0, none⟩) := (hval 9 _ 115 (hdep 9 (by kernel_rfl)) (by rfl) rfl).trans (hJ.v 9 _ rfl (hdep 9 (by kernel_rfl)))
                        have zd1 : aA.tmps.getD 127 undef = .agg #[.int .u64 (pa : Int), .int .u64 (pb : Int)] := (hval 21 _ 127 (hdep 21 (by kernel_rfl)) (by rfl) rfl).trans (hJ.v 21 _ rfl (hdep 21 (by kernel_rfl)))
                        have hgx := hJ.g hpi hnS
                        have HNW := Hid.mk' (number_walk (HTX.out.grown hgx) HPP.out.1 HPP.out.2.1)
                        have HGX := Hid.mk' hgx
                        have HKK := Hid.mk' hK
                        clear hgx hK
                        have HJ := Hid.mk' hJ
                        clear hval hfr hdep hJ hcl
                        simp only [Array.getD_eq_getD_getElem?] at zd0 zd1
                        go_simp
                        go_at_call 49
                        refine HNW.out.mono ?_
                        rintro e wn ⟨rfl, pvn, q1, q2, q3⟩
                        exact HKK.out _ _ (HJ.out.atA (by decide) hnS rfl ⟨pvn, rfl, q1, (fr_grown HGX.out _).trans q2 fun _ _ e => e, loc_up q3 HGX.out.size⟩)
                    · as_aux_lemma =>
                        intro aA wx p vs hJ hdep hpi hcl hval hfr K hK
                        rw [if_pos (show Region.wanted _ _ = true from rfl)]
                        have zd0 : aA.tmps.getD 113 undef = .slice (some ⟨ab, 0, none⟩) al al := (hval 7 _ 113 (hdep 7 (by kernel_rfl)) (by rfl) rfl).trans (hJ.v 7 _ rfl (hdep 7 (by kernel_rfl)))
                        have zd1 : aA.tmps.getD 114 undef = .int .i64 (t : Int) := (hval 8 _ 114 (hdep 8 (by kernel_rfl)) (by rfl) rfl).trans (hJ.v 8 _ rfl (hdep 8 (by kernel_rfl)))
                        have hJ' := hJ.pure 23 (by decide) (by decide) rfl (fun _ _ => trivial)
                        clear hval hfr hdep hJ hcl
                        simp only [Array.getD_eq_getD_getElem?] at zd0 zd1
                        go_simp
                        exact hK _ _ hJ'
                    · as_aux_lemma =>
                        intro aA wx p vs hJ hdep hpi hcl hval hfr K hK
                        rw [if_pos (show Region.wanted _ _ = true from rfl)]
                        have hA22 : p 22 = true := hdep 22 (by kernel_rfl)
                        obtain ⟨pvn, hvs, q1, q2, q3⟩ := hJ.a hA22 hpi
                        have zd0 : aA.tmps.getD 129 undef = .pointer (some ⟨ab, t, none⟩) := (hval 23 _ 129 (hdep 23 (by kernel_rfl)) (by rfl) rfl).trans (hJ.v 23 _ rfl (hdep 23 (by kernel_rfl)))
                        have zd1 : aA.tmps.getD 128 undef = .int .u64 ((P.idxOf (pa, pb) : Nat) : Int) := (hval 22 _ 128 (hdep 22 (by kernel_rfl)) (by rfl) rfl).trans hvs
                        have hid : P.idxOf (pa, pb) < 18446744073709551616 := by have := List.idxOf_le_length (a := (pa, pb)) (l := P); have := HPP.out.2.1; omega
                        obtain ⟨z1, z2⟩ := q1.put2 HR1.out.1 (j := t) (by have := HR1.out.2.1; omega) hid
                        obtain ⟨cc, cf, _⟩ := q1.cell2 HR1.out.1 (j := t) (by have := HR1.out.2.1; omega)
                        have HFI := Hid.mk' (And.intro z1 (And.intro ((q2.mono fun _ _ e => (show _ ∨ _ ∨ _ ∨ _ from e.elim .inl fun e => e.elim (fun e => .inr (.inl e)) fun e => .inr (.inr (.inl e)))).trans z2 fun _ _ e => .inr (.inr (.inr e))) q3))
                        clear z1 z2 q1 q2 q3 hid
                        have HJ := Hid.mk' hJ
                        clear hval hfr hdep hJ hcl
                        simp only [Array.getD_eq_getD_getElem?] at zd0 zd1
                        go_simp
                        exact hK undef _ (HJ.out.atS rfl ⟨pvn, HFI.out⟩)
                    · intro vs wg hJ
                      have HS := Hid.mk' (hJ.s rfl)
                      rw [putL_eq]
                      simp only [putsL, List.set_cons_zero, List.set_cons_succ, Nat.zero_add, Nat.reduceAdd]
                      clear hJ cT2 ck1 cpa cpb ct
                      go_wp2
                      go_roundg (xn - (jj + 1))
                      case measure => omega
                      case rel =>
                        obtain ⟨pvn, q1, q2, q3⟩ := HS.out
                        refine ⟨jj + 1, rfl, by omega, Nat.le_refl _, pvn, ?_, HLO.out.1.trans q2 fun c hc e => ?_, loc_trans HLO.out.2 q3 HLO.out.1.size⟩
                        · have ht : tn.take (jj + 1) = tn.take jj ++ [t] := by rw [List.take_add_one, List.getElem?_eq_getElem HR1.out.2.2.2]; have := HR1.out.2.2.1; rw [List.getD_eq_getElem?_getD, List.getElem?_eq_getElem HR1.out.2.2.2] at this; simp at this; simp [this]
                          rw [ht, lev_snoc, HPL.out]
                          unfold lev1
                          rw [HPP.out.2.2]
                          show TL wg base T pvn _ _ hi M (addP P (pa, pb)) ((b0, flips r0 (setsN l)) :: upk.set k (ab, L2.set t (P.idxOf (pa, pb)))) _
                          rw [← HK1E.out, List.set_cons_succ, List.set_set] at q1
                          exact q1
                        · rcases e with e | e | e | e
                          · exact .inl e
                          · exact .inr (.inl e)
                          · exact .inr (.inr (.inl (loc_old HLO.out.2 e hc)))
                          · exact .inr (.inr (.inr e))
                · have hjx : jj = xn := by omega
                  subst hjx
                  obtain ⟨pvj, htl, hfj, hlj⟩ := HC.out
                  have htk : tn.take jj = tn := List.take_of_length_le (by have := HXN.out; omega)
                  rw [htk] at htl
                  have HTE := Hid.mk' (And.intro htl (And.intro hfj hlj))
                  clear htl hfj hlj htk HC
                  go_wp2
                  go_roundg (hi - (k + 1))
                  case measure => omega
                  case rel =>
                    obtain ⟨htl, hfj, hlj⟩ := HTE.out
                    obtain ⟨hfs, hlv, hfr, hlp, hlu⟩ := HTK.out.2
                    have hul := HUL.out
                    have hku : k < (upk.map Prod.snd).length := by simp; omega
                    have hgk : (upk.map Prod.snd)[k] = ar := by
                      have h1 := HAB.out
                      rw [List.getElem?_eq_getElem (by omega)] at h1
                      injection h1 with h1
                      simp [h1]
                    have hrk : (((flips r0 (setsN l)) :: upk.map Prod.snd).getD k []) = rk := by
                      have : ((flips r0 (setsN l)) :: upk.map Prod.snd)[k]? = some rk := by
                        have := congrArg (Option.map Prod.snd) HKB.out.1
                        rw [← List.getElem?_map] at this
                        simpa using this
                      rw [List.getD_eq_getElem?_getD, this]; rfl
                    have hst := hlv.step hku (by rw [hgk, hrk, HKB.out.2]; exact (HLN2.out ab ar HAB.out).2)
                    rw [hgk, hrk, HTN.out] at hst
                    have hwc := HTC.out.2.1
                    have hsz1 := hfr.size
                    have hsz2 := hwc.size
                    refine ⟨k + 1, rfl, by omega, Nat.le_refl _, pvj, .slice xa jj xc, upk.set k (ab, (lev rk (psk, ar) tn).2), (lev rk (psk, ar) tn).1, tn, htl, ?_, ?_, (hfr.trans hwc fun c hc e => ?_).trans hfj fun c hc e => ?_, loc_trans hlp hlj (by omega), ?_⟩
                    · rw [← hfs]
                      apply List.ext_getElem?
                      intro i
                      rw [List.getElem?_map, List.getElem?_map, List.getElem?_set]
                      split
                      · rename_i e
                        subst e
                        rw [HAB.out]
                        simp [show k < upk.length by omega]
                      · rfl
                    · rw [List.map_set]
                      exact hst
                    · rcases e with e | e
                      · exact .inl e
                      · exact .inr (.inr (.inr (.inr (.inl (loc_old hlu e hc)))))
                    · rcases e with e | e | e | e
                      · exact .inl e
                      · exact .inr (.inl e)
                      · exact .inr (.inr (.inl (loc_old hlp e hc)))
                      · have h1 : ab ∈ upk.map Prod.fst := List.mem_map.2 ⟨_, List.mem_of_getElem? HAB.out, rfl⟩
                        rw [hfs] at h1
                        obtain ⟨x, hx1, hx2⟩ := List.mem_map.1 h1
                        exact .inr (.inr (.inr (.inr (.inr ⟨x, List.mem_cons_of_mem _ hx1, hx2.trans e.symm⟩))))
                    · rcases hlu with hlu | ⟨z, hlu, hz⟩
                      · exact .inl (HTC.out.2.2.trans hlu)
                      · exact .inr ⟨z, HTC.out.2.2.trans hlu, hz⟩
        · have hkh : k = hi := by omega
          obtain ⟨pvk, uvk, upk, psk, tsk, htl, hfs, hlv, hfr, hlp, hlu⟩ := HF.out
          have hfin := hlv.fin2 (by rw [List.length_map, HHI.out]; exact hkh)
          have HR := Hid.mk' (And.intro htl (And.intro hfs (And.intro hfin (And.intro hfr (And.intro hlp hlu)))))
          have hkn : ¬ k < hi := hkl
          have hknI : ¬ (k : Int) < (hi : Int) := by omega
          clear htl hfs hlv hfr hlp hlu hfin HF hkh
          go_wp2
          go_end0
          obtain ⟨htl, hfs, hfin, hfr, hlp, hlu⟩ := HR.out
          refine ⟨rfl, pvk, uvk, upk, ⟨tsk.map fun (x : Nat) => (x : Int), ?_⟩, hfs, ?_, hfr, hlp, hlu⟩
          · rw [hfin]; exact htl
          · rw [hfin]
end Go.Proofs
