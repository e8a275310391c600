/-
  What the calls of a fill do.
-/
import Derived.RangeFuncNested
import Derived.RangeFuncBound
import Derived.RangeFuncCalls
import Derived.RangeFuncLeaves
import Derived.Shelf.Abstract
import Derived.Shelf.RegionOpen
import Derived.WalkKit
import Derived.WalkSpells
import Derived.WalkLawsBesides
import Derived.OwnWalkIn
import Derived.TacticsInMore
import Derived.LoopNIn
import Derived.LoopIn
import Derived.BigQuiet
import Derived.RegionIn
import Derived.Deep.QuietTactic
import Derived.Deep.RegionWith
import Derived.Lib.OthersKept
import Derived.Maps.AppendAt
import Derived.Lib.SmallJoins
import Derived.Shelf.SlSortCmp.QuietGrown
import Derived.Test.YtjjkomaokgmkhaaDoorLin
namespace Go.Proofs
open Go.RowKit Go.Shelf

set_option maxRecDepth 100000
attribute [local go_sem] Oper.semAt_some
attribute [local go_sem ↓] Go.wp_at_zero Go.wp_at_succ

theorem Reads.frD {w W : World} {g o : Nat} {l : List (Int × Int)} (h : Reads w g o l) (hl : g < w.heap.size) {D : Nat → Prop} (hf : Fr w W D) (hg : ¬ D g) : Reads W g o l := fun j hj => by
  have e := hf.block g hl hg
  have c : ∀ i, W.cell? ⟨g, i, none⟩ = w.cell? ⟨g, i, none⟩ := fun i => by simp only [World.cell?, e]
  rw [c, c]; exact h j hj
theorem segs_len (k : Int) : ∀ (st bg : List Int), (segs k st bg).length ≤ st.length
  | [], _ => by simp [segs]
  | [_], _ => by simp [segs]
  | _ :: _ :: _, [] => by simp [segs]
  | a :: b :: st, x :: bg => by
    have := segs_len k (b :: st) bg
    rw [segs, List.length_append]
    simp only [List.length_cons] at this ⊢
    split <;> simp <;> omega
/-- the shape of the rows, and how great they may be -/
def FSh (LL : List Nat) (L0 n hi : Nat) : Prop := Fit LL L0 (n + 1) ∧ LL.length = hi ∧ (∀ y ∈ LL, y ≤ 10002) ∧ L0 ≤ 10002 ∧ hi ≤ 10002
theorem fil_flip {w W : World} {base B T M2 hi n : Nat} {s : FS} {mw : List Nat} {sv bv pv wv : Value} {sps : List (Value × List (Int × Int))} {qv rv uv : Value} {M b0 : Nat} {ups : List (Nat × List Nat)} {ts : List Int} (h : FLI w W base B T M2 hi n s mw sv bv pv wv sps qv rv uv M b0 ups ts) {LL : List Nat} {L0 : Nat} {D : List (Int × Int)} (hfi : FI LL L0 D s) (hF : FSh LL L0 n hi) {G : List (Int × Int)} (hG : ∀ y ∈ G, ∃ i : Nat, y.2 = i ∧ i ≤ n) {i : Nat} (hps : s.ps.length ≤ 1 + i * hi) (hiG : i + G.length ≤ 10000) {g o' rc j : Nat} (hrd : Reads W g o' G) (hgw : g < w.heap.size) (hrc : j ≤ rc) (hj : G.length = j) :
    Calls Tryd.prog 36 #[.pointer (some ⟨T, 0, none⟩), .slice (some ⟨g, o', none⟩) j rc] W fun e w3 => e = .returned (.tuple #[]) ∧ Hid (∃ qv' uv' ups' ts', FLI w w3 base B T M2 hi n ⟨s.st, s.bg, s.sp, s.wh, (flipU s (setsN G)).1, flips s.r0 (setsN G), (flipU s (setsN G)).2⟩ mw sv bv pv wv sps qv' rv uv' M b0 ups' ts') := by
  obtain ⟨f1, f2, f3, f4, f5⟩ := hF
  have hul : ups.length = hi := by
    have e1 := congrArg List.length h.up
    have e2 := congrArg List.length hfi.len
    simp at e1 e2; omega
  have hr0 := hfi.r0len
  have hchn : Chn s.ps s.r0 (ups.map Prod.snd) := by rw [h.up]; exact hfi.chn
  refine (flip_any h.tl hul (by omega) (lv := .slice (some ⟨g, o', none⟩) j rc) (l := G) (fun X hX => ⟨some ⟨g, o', none⟩, rc, by rw [hj], by omega, .inr ⟨g, o', rfl, hrd.frD (by have := h.fr.size; omega) hX fun hk => by have := (h.tl.low hk).1; omega⟩⟩) (fun y hy => ?_) (by omega) (fun y hy => ?_) (rows_len hchn) ?_).mono ?_
  · obtain ⟨q, e, hq⟩ := hG y hy
    have := f1.2.1
    rw [e, hr0, Int.toNat_natCast]
    omega
  · simp only [List.mem_cons] at hy
    rcases hy with rfl | hy
    · show s.r0.length ≤ _
      omega
    · have hm : y.2.length ∈ LL := by
        rw [← hfi.len, ← h.up]
        exact List.mem_map_of_mem (List.mem_map_of_mem hy)
      have := f3 _ hm
      omega
  · have e1 : (i + G.length) * hi ≤ 10000 * 10002 := Nat.mul_le_mul hiG f5
    rw [Nat.add_mul] at e1
    omega
  · rintro e w3 ⟨rfl, qv', uv', ups', ts', t1, t2, t3, t4, t5, t6⟩
    refine ⟨rfl, qv', uv', ups', ts', ?_⟩
    rw [h.up] at t1 t3
    exact h.tal (s' := ⟨s.st, s.bg, s.sp, s.wh, (flipU s (setsN G)).1, flips s.r0 (setsN G), (flipU s (setsN G)).2⟩) t1 t3 t2 rfl rfl rfl rfl t4 t5 t6
theorem fil_which {w W : World} {base B T M2 hi n : Nat} {s : FS} {mw : List Nat} {sv bv pv wv : Value} {sps : List (Value × List (Int × Int))} {qv rv uv : Value} {M b0 : Nat} {ups : List (Nat × List Nat)} {ts : List Int} (h : FLI w W base B T M2 hi n s mw sv bv pv wv sps qv rv uv M b0 ups ts) {LL : List Nat} {L0 : Nat} (hF : FSh LL L0 n hi) (hlen : s.up.map List.length = LL) : Calls Tryd.prog 37 #[.pointer (some ⟨T, 0, none⟩)] W fun e w' => e = .returned (.int .u64 (topOf s.up : Int)) ∧ Grown W w' := by
  obtain ⟨f1, f2, f3, f4, f5⟩ := hF
  have hul : ups.length = hi := by
    have e1 := congrArg List.length h.up
    have e2 := congrArg List.length hlen
    simp at e1 e2; omega
  obtain ⟨b, hb⟩ := top_at f1.1 (b0 := b0) (r0 := s.r0) (ups := ups) (by rw [h.up]; exact hlen)
  rw [hul, h.up] at hb
  exact which_any h.tl hb (by simp only [List.length_cons]; omega)
theorem fil_top {w W : World} {base B T M2 hi n : Nat} {s : FS} {mw : List Nat} {sv bv pv wv : Value} {sps : List (Value × List (Int × Int))} {qv rv uv : Value} {M b0 : Nat} {ups : List (Nat × List Nat)} {ts : List Int} (h : FLI w W base B T M2 hi n s mw sv bv pv wv sps qv rv uv M b0 ups ts) {LL : List Nat} {L0 : Nat} (hF : FSh LL L0 n hi) (hlen : s.up.map List.length = LL) : topOf s.up < 18446744073709551616 := by
  obtain ⟨f1, f2, f3, f4, f5⟩ := hF
  obtain ⟨b, hb⟩ := top_at f1.1 (b0 := b0) (r0 := s.r0) (ups := ups) (by rw [h.up]; exact hlen)
  rw [h.up] at hb
  exact h.tl.w6 _ (List.mem_of_getElem? hb) _ (by simp)
theorem fil_begin {w W : World} {base B T M2 hi n : Nat} {s : FS} {mw : List Nat} {sv bv pv wv : Value} {sps : List (Value × List (Int × Int))} {qv rv uv : Value} {M b0 : Nat} {ups : List (Nat × List Nat)} {ts : List Int} (h : FLI w W base B T M2 hi n s mw sv bv pv wv sps qv rv uv M b0 ups ts) (hbl : s.bg.length = s.st.length) (hm : s.st.length ≤ 10000) {at' : Int} (hat : 0 ≤ at' ∧ at' ≤ 1114368) (hok : ∀ x, s.bg.getLast? = some x → x = -1 ∨ ∃ e : Nat, x = (e : Int) ∧ e < s.sp.length) (hll : ∀ x ∈ s.sp, x.length ≤ 10000) (hsl : s.sp.length ≤ 10000) (atom : Int) :
    Calls Tryd.prog 38 #[.pointer (some ⟨B, 0, none⟩), .int .i64 at', .int .i64 atom] W fun e w' => e = .returned (.tuple #[]) ∧ Hid (∃ sv' bv' sps', FLI w w' base B T M2 hi n ⟨s.st ++ [at'], s.bg ++ [atom], endA s.st s.bg at' s.sp, s.wh, s.ps, s.r0, s.up⟩ mw sv' bv' pv wv sps' qv rv uv M b0 ups ts) := by
  have hspl : sps.length = s.sp.length := by rw [← h.sp]; simp
  refine (begin_any h.tt at' atom hbl (by omega) hat (fun x hx => ?_) (fun x hx => ?_) (by omega)).mono ?_
  · rw [hspl]; exact hok x hx
  · have := hll x.2 (by rw [← h.sp]; exact List.mem_map_of_mem hx)
    omega
  · rintro e w' ⟨rfl, hq⟩
    exact ⟨rfl, h.beg hq⟩
theorem fil_look {w W : World} {base B T M2 hi n : Nat} {s : FS} {mw : List Nat} {sv bv pv wv : Value} {sps : List (Value × List (Int × Int))} {qv rv uv : Value} {M b0 : Nat} {ups : List (Nat × List Nat)} {ts : List Int} (h : FLI w W base B T M2 hi n s mw sv bv pv wv sps qv rv uv M b0 ups ts) {x : Nat} (hx : x < 18446744073709551616) : (Instr.lookup 75 (.map (some M2)) (.int .u64 (x : Int)) true).run Tryd.prog W = .ok (.tuple #[(atF mw x).getD (.int .i64 0), .bool (atF mw x).isSome]) W := h.mp.look_ok kz70 Tryd.underlying75 (z := .int .i64 0) (by kernel_rfl) (k := x) hx
/-- a number more in the map -/
theorem fil_put {w W : World} {base B T M2 hi n : Nat} {s : FS} {mw : List Nat} {sv bv pv wv : Value} {sps : List (Value × List (Int × Int))} {qv rv uv : Value} {M b0 : Nat} {ups : List (Nat × List Nat)} {ts : List Int} (h : FLI w W base B T M2 hi n s mw sv bv pv wv sps qv rv uv M b0 ups ts) {x : Nat} (hx : x < 18446744073709551616) (hk : knw mw x = false) (hl : mw.length ≤ 10000) : ∃ w', (Instr.mapUpdate 75 (.map (some M2)) (.int .u64 (x : Int)) (.int .i64 (mw.length : Int))).run Tryd.prog W = .ok () w' ∧ FLI w w' base B T M2 hi n s (mw ++ [x]) sv bv pv wv sps qv rv uv M b0 ups ts := by
  obtain ⟨w', e1, e2, e3⟩ := h.mp.store kz70 (by omega) (t := 75) (e := 3) Tryd.underlying75 (k := x) hx (.int .i64 (mw.length : Int))
  refine ⟨w', e1, h.map ?_ (turned_fr e3)⟩
  rw [atF_add _ _ hk] at e2
  have : (mw ++ [x]).length = mw.length + 1 := by simp
  rw [this]; exact e2
/-- the table's block -/
theorem FLI.at' {w W : World} {base B T M2 hi n : Nat} {s : FS} {mw : List Nat} {sv bv pv wv : Value} {sps : List (Value × List (Int × Int))} {qv rv uv : Value} {M b0 : Nat} {ups : List (Nat × List Nat)} {ts : List Int} (h : FLI w W base B T M2 hi n s mw sv bv pv wv sps qv rv uv M b0 ups ts) : W.heap[B]? = some (.cells #[.int .i64 (n : Int), sv, bv, pv, wv, .slice none 0 0, .int .i64 ((0 : Nat) : Int)] 53 (0, 0)) := h.tt.blk
end Go.Proofs
