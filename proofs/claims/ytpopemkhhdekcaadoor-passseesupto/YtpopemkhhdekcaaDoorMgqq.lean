/-
  Several texts in one (Tu Uq2 Ca).
-/
import Derived.RangeFuncNested
import Derived.RangeFuncBound
import Derived.RangeFuncCalls
import Derived.RangeFuncLeaves
import Derived.Shelf.Abstract
import Derived.Shelf.RegionOpen
import Derived.WalkKit
import Derived.WalkSpells
import Derived.WalkLawsBesides
import Derived.OwnWalkIn
import Derived.TacticsInMore
import Derived.LoopNIn
import Derived.LoopIn
import Derived.BigQuiet
import Derived.RegionIn
import Derived.Deep.QuietTactic
import Derived.Deep.RegionWith
import Derived.Lib.OthersKept
import Derived.Maps.AppendAt
import Derived.Lib.SmallJoins
import Derived.Shelf.SlSortCmp.QuietGrown
import Derived.Test.YtpopemkhhdekcaaDoorMgpq
import Derived.Test.YtpopemkhhdekcaaDoorMgkq
import Derived.Test.YtpopemkhhdekcaaDoorTeq
import Derived.Test.YtpopemkhhdekcaaDoorMgfq
import Derived.Test.YtpopemkhhdekcaaDoorMghq
import Derived.Test.YtpopemkhhdekcaaDoorMgoq
import Derived.Deep.Upon
import Derived.Test.YtpopemkhhdekcaaDoorMgjq
namespace Go.Proofs
open Go.RowKit Go.Shelf

set_option maxRecDepth 100000
attribute [local go_sem] Oper.semAt_some
attribute [local go_sem ↓] Go.wp_at_zero Go.wp_at_succ

/-- the blocks of a walk that was made between B and h, with a loop over it at h -/
def ZW (B h : Nat) : Nat → Prop := fun k => (B ≤ k ∧ k < h) ∨ h + 2 ≤ k
theorem unit_at {s : ByteArray} {p : Nat} (_hp : p < s.size) : wd (uAt s p : Int) ≠ 0 := by
  rw [wd_uAt]
  have := uw_pos s p
  omega
theorem units_all (s : ByteArray) : AllU (intsU (units s)) := by
  have : ∀ k p, ∀ x ∈ unitsN s k p, wd (x.2 : Int) ≠ 0 := by
    intro k
    induction k with
    | zero => intro p x hx; simp [unitsN] at hx
    | succ k ih =>
      intro p x hx
      by_cases hp : p < s.size
      · rw [unitsN_step s k p hp] at hx
        rcases List.mem_cons.1 hx with rfl | hx
        · exact unit_at hp
        · exact ih _ x hx
      · rw [unitsN_end s _ p hp] at hx; simp at hx
  intro u hu
  obtain ⟨x, hx, rfl⟩ := List.mem_map.1 hu
  exact this _ _ x hx
theorem wk_start {W0 Ws w1 V : World} {rs : List Rl} {st : St} {v lv uv : Value} {s : ByteArray} {wb mb : Nat} {d : List Int} (_hP : PW W0 v rs st) (hs : s.size ≤ 16384) (hb0 : Below W0.heap.size W0 Ws) (h : StQ Ws w1 rs v s wb mb lv uv d) (hg : Grown w1 V) (hsz : V.heap.size = w1.heap.size + 2) :
    WkAt (ZW Ws.heap.size w1.heap.size) (w1.heap.size + 2) W0 V Ws.heap.size wb mb v lv rs d (intsU (units s)) [] [] (intsU (units s)) := by
  have hn : (intsU (units s)).length ≤ 16384 := by rw [intsU_length]; have := units_len s; omega
  have hwb := blk_lt h.blk
  have hmw := h.mw
  have hmb := h.mb
  have hb1 := h.bel.size
  have hlo : ∀ b, lv.ownBlock = some b → b < w1.heap.size ∧ Ws.heap.size ≤ b := fun b hb => ⟨(World.ownsRow.lt h.ord b hb).2, (World.ownsRow.lt h.ord b hb).1⟩
  have hup : ∀ b, uv.ownBlock = some b → b < w1.heap.size ∧ mb + 1 ≤ b := fun b hb => ⟨(World.ownsRow.lt h.lft b hb).2, (World.ownsRow.lt h.lft b hb).1⟩
  have gb := hg.below
  refine ⟨.slice none 0 0, uv, (intsU (units s)).length, 0, intsU (units s), fun _ => none, ?_⟩
  exact {
    blk := h.blk.fr (fr_grown hg fun _ => False) id
    map := h.map.kept fun o ho => (gb.block mb (blk_lt ho)).trans ho
    fi := fun u bv hu => by cases hu
    don := OwnI.nil _ _
    uni := (h.lft.below gb (Nat.le_refl _)).le (by omega)
    ul := rfl
    rm := Nat.zero_le _
    lfe := rfl
    n3 := by omega
    ord := h.ord.below gb (Nat.le_refl _)
    oln := h.len
    srt := h.srt
    du := fun b hb => by cases hb
    lx := fun b hb => ⟨fun e => (by cases e), fun e => by have := h.lo b hb; have := (hup b e).2; omega⟩
    fx := fun u bv hu => by cases hu
    bel := hb0.trans ((h.bel.trans (gb.mono hb1)).mono hb0.size)
    b0 := hb0.size
    b1 := hmb
    b2 := by omega
    b3 := by have := hg.size; omega
    at3 := G3.nil _ _
    nN := rfl
    zt := fun k hk => .inr hk
    tw := by omega
    zb := fun k hk => by rcases hk with hk | hk <;> omega
    zw := .inl ⟨by omega, hwb⟩
    zm := .inl ⟨hmb, by omega⟩
    zd := fun b hb => by cases hb
    zu := fun b hb => .inl ⟨by have := (hup b hb).2; omega, (hup b hb).1⟩
    zl := fun b hb => .inl ⟨(hlo b hb).2, (hlo b hb).1⟩
    zf := fun u bv hu => by cases hu }
/-- what is done at the end of a run; its steps -/
def endOf (rs : List Rl) (s : ByteArray) : List Stp × List Int := match (wgh rs).1 with
  | some st => ((fin3 rs st (intsU (units s))).1, (fin3 rs st (intsU (units s))).2.1)
  | none => ([], [])
/-- a pass that may run over a text -/
theorem may_ok {rs : List Rl} {s : ByteArray} (h : mayE rs s = 0) : ∃ st, wgh rs = (some st, 0, 0) ∧ s.size ≤ 16384 ∧ Fin rs st ∧ (allE rs).2 = 0 ∧ (∀ r ∈ rs, chk r = 0) ∧ G3 rs (intsU (units s)) (endOf rs s).1 (endOf rs s).2 [] := by
  unfold mayE at h
  by_cases h1 : (chkW rs).2 ≠ 0
  · rw [if_pos h1] at h; exact absurd h h1
  · rw [if_neg h1] at h
    by_cases h2 : 16384 < s.size
    · rw [if_pos h2] at h; cases h
    · have hfe : fea rs = true := by
        cases e : fea rs with
        | true => rfl
        | false => exact absurd (fea_chk e) h1
      obtain ⟨st, hw⟩ := wgh_zero2 hfe
      have hF := wgh_fin hw
      have hc := wgh_chk hw
      refine ⟨st, hw, by omega, hF, fea_all hw, hc, ?_⟩
      have := fin3_G3 hF hc (intsU (units s))
      unfold endOf
      rw [hw]
      exact this

/-- what Run answers -/
def runT (rs : List Rl) (s : ByteArray) : ByteArray := if mayE rs s = 0 then joinS (endOf rs s).2 else ⟨#[]⟩
set_option maxHeartbeats 4000000 in
theorem run_bad (v : Value) (rs : List Rl) (s : ByteArray) (w : World) (hT : Tab w) (h : PsR w v rs) (hE : mayE rs s ≠ 0) : Calls Tryd.prog 18 #[.agg #[v], .string s] w fun e w' => e = .returned (.tuple #[.string ⟨#[]⟩, .int .i64 (mayE rs s)]) ∧ Below w.heap.size w w' := by
  have HC : Hid (∀ W, Grown w W → Calls Tryd.prog 20 #[.agg #[v], .string s] W fun e w' => e = .returned (.int .i64 (mayE rs s)) ∧ Below w.heap.size w w') := fun W hg => (may_any v rs s W (hT.grown hg) (h.grown hg)).mono (by
    rintro e w' ⟨h1, h2⟩
    exact ⟨h1, hg.below.trans (h2.mono hg.size)⟩)
  obtain ⟨E, hE2⟩ : ∃ E, mayE rs s = E := ⟨_, rfl⟩
  rw [hE2] at hE HC ⊢
  have hE3 : (E != 0) = true := by simpa using hE
  obtain ⟨ra, rc, hv, hx1, hx2⟩ := h
  subst hv
  clear hx1 hx2 hE2 hT
  go_enter Tryd.func18, Tryd.ntmps18
  go_wp2_with (go_at_call 20; refine (HC.out _ (by (repeat (first | exact Grown.refl _ | refine Grown.alloc ?_ _ | refine Grown.drew ?_)))).mono ?_; rintro e w1 ⟨rfl, hB⟩)
  go_ret2
  exact ⟨rfl, hB⟩
set_option maxHeartbeats 4000000 in
theorem run_good (v : Value) (rs : List Rl) (s : ByteArray) (w : World) (hT : Tab w) (hz : 0 < w.heap.size) (h : PsR w v rs) (hE : mayE rs s = 0) : Calls Tryd.prog 18 #[.agg #[v], .string s] w fun e w' => e = .returned (.tuple #[.string (joinS (endOf rs s).2), .int .i64 0]) ∧ Below w.heap.size w w' := by
  have HC : Hid (∀ W, Grown w W → Calls Tryd.prog 20 #[.agg #[v], .string s] W fun e w' => e = .returned (.int .i64 0) ∧ Below W.heap.size W w') := fun W hg => (may_any v rs s W (hT.grown hg) (h.grown hg)).mono (by
    rintro e w' ⟨h1, h2⟩
    rw [hE] at h1
    exact ⟨h1, h2⟩)
  obtain ⟨st, hw, hs, hF, hall, hck, hG⟩ := may_ok hE
  have HPW : Hid (∀ W, Below w.heap.size w W → PW W v rs st) := fun W hb => ⟨hT.below hb hz, Nat.lt_of_lt_of_le hz hb.size, h.below hb (Nat.le_refl _), hF, hall, hck⟩
  have HSt : Hid (∀ W, Below w.heap.size w W → Calls Tryd.prog 23 #[v, .string s] W (StE W rs v s)) := fun W hb => start_any v rs s W (h.below hb (Nat.le_refl _)) (by have := hF.n; omega) (fun r hr => by have := (chk_ok (hck r hr)).k8; omega) (by omega)
  obtain ⟨xf, hxf⟩ : ∃ xf, (endOf rs s).1 = xf := ⟨_, rfl⟩
  obtain ⟨df, hdf⟩ : ∃ df, (endOf rs s).2 = df := ⟨_, rfl⟩
  rw [hxf, hdf] at hG
  rw [hdf]
  have HG := Hid.mk' (And.intro hG (And.intro hs (And.intro hF hck)))
  have hsl : IsSl v := by
    obtain ⟨a, c, e, _⟩ := h
    exact ⟨a, _, c, e⟩
  obtain ⟨v1, v2, v3, hv⟩ := hsl
  subst hv
  clear h hT hz hE hw hs hF hall hck hG hxf hdf
  refine (callsIn_wide (n := 5)).1 ?_
  refine callsIn_of_wp_marks Tryd.func18 rfl trivial ?_ rfl
  simp only [Tryd.ntmps18, List.size_toArray, List.length_cons, List.length_nil, Nat.reduceAdd, Nat.reduceSub, Array.replicate_succ, Array.replicate_zero, List.push_toArray, List.append_toArray, List.nil_append, List.cons_append]
  gi_wp2_with (first
    | (refine ⟨trivial, ?_⟩; gi_at_call 20; refine (callsIn_wide.2 (HC.out _ (by (repeat (first | exact Grown.refl _ | refine Grown.alloc ?_ _ | refine Grown.drew ?_))))).mono ?_; rintro e w1 ⟨rfl, hB⟩; have hbk := (hB.block w.heap.size (by simp)).trans (heap_alloc_new w _); have hbx : w1.cell? ⟨w.heap.size, 0, none⟩ = some (.slice v1 v2 v3) := (cell_of hbk).trans rfl; have HB : Hid (Below w.heap.size w w1) := ((Grown.refl w).alloc _).below.trans (hB.mono (by simp)); clear hB hbk)
    | (refine ⟨trivial, ?_⟩; gi_at_call 23; refine (callsIn_wide.2 (HSt.out _ HB.out)).mono ?_; rintro e w2 ⟨wb, mb, lv, uv, d, rfl, hQ⟩; have HQ := Hid.mk' hQ; clear hQ))
  obtain ⟨h, hh⟩ : ∃ h, h = w2.heap.size := ⟨_, rfl⟩
  have hb12 : w1.heap.size ≤ h := by rw [hh]; exact HQ.out.bel.size
  have hG := HG.out
  have hlen := hG.1.lens hG.2.2.1 hG.2.2.2
  have hl0 : (intsU (units s)).length ≤ 16384 := by rw [intsU_length]; have := units_len s; have := hG.2.1; omega
  have HDL : Hid (df.length ≤ 4398046511104) := by show _ ≤ _; omega
  have HST : Hid (∀ V, Fr w1 V (fun k => ZW w1.heap.size h k ∨ h ≤ k) → Below w1.heap.size w1 V) := fun V hf => hf.below (fun k hk => by
    rcases hk with (hk | hk) | hk <;> omega) (Nat.le_refl _)
  have hZb : ∀ k, (ZW w1.heap.size h k ∨ h ≤ k) → w1.heap.size ≤ k := fun k hk => by rcases hk with (hk | hk) | hk <;> omega
  refine wpIn_overZ (enc := encS) (by omega) (gf := 24) (pa := #[.pointer (some ⟨wb, 0, none⟩)]) (lb := #[]) rfl (enters_of Tryd.func24 (by kernel_rfl) rfl) (xf := xf) (b := w1.heap.size) (h := h) (Z := ZW w1.heap.size h) (E := fun Y => WkAt (ZW w1.heap.size h) (h + 2) w1 Y w1.heap.size wb mb (.slice v1 v2 v3) lv rs d (intsU (units s)) xf df []) hh hb12
    (fun e => by rcases e with e | e <;> omega) (fun e => by rcases e with e | e <;> omega)
    (fun r => steps_seq (HPW.out w1 HB.out) hl0 (units_all s) hG.1 (by
      have := wk_start (HPW.out w1 HB.out) hG.2.1 (Below.refl _ _) HQ.out (((Grown.refl w2).alloc (.deferred (some []))).alloc (.loop r)) (by simp)
      rw [← hh] at this
      exact this) (Nat.le_refl _) _ _ (by omega))
    (fun X o hX => by
      obtain ⟨dv, uv, n, room, uu, f, hk⟩ := hX
      exact ⟨dv, uv, n, room, uu, f, hk.keep (KAll.put o (fun e => by rcases e with e | e <;> omega) (by omega)) (Nat.le_refl _)⟩)
    (fun _ => rfl) (fun _ W => Below w1.heap.size w1 W) (fun _ _ _ => False)
    (fun _ X Y hX hf => hX.trans (hf.below (fun k hk => hZb k hk) hX.size)) (fun _ _ _ _ hX _ => hX) HQ.out.bel
    (fun x _ => { tmps := #[.agg #[.slice v1 v2 v3], .string s, .pointer (some ⟨w.heap.size, 0, none⟩), undef, .string ⟨#[]⟩, .int .i64 0, .int .i64 0, .pointer (some ⟨wb, 0, none⟩), undef, undef, .agg #[.slice v1 v2 v3], .string s, .int .i64 0, .int .i64 0, .bool false, undef, .pointer (some ⟨w.heap.size, 0, none⟩), .slice v1 v2 v3, .string s, .pointer (some ⟨wb, 0, none⟩), .pointer (some ⟨wb, 0, none⟩), .func (.func 24) #[.pointer (some ⟨wb, 0, none⟩)] #[], .agg (fs1 x).toArray, undef, undef, undef, undef, undef, undef, undef, undef, undef], defers := [] })
    (fun _ W => W) (fun _ W => Grown.refl W) ?assign ?body ?done ?stop
  case assign =>
    intro l x W K hK
    rw [show (#[22] : Array Tmp).zip (encS x) = #[(22, Value.agg (fs1 x).toArray)] by simp [encS, List.zip_toArray]]
    gi_wp2
    first | exact hK | (simp only [List.foldl_toArray, List.foldl_cons, List.foldl_nil, List.setIfInBounds_toArray, List.set_cons_succ, List.set_cons_zero]; exact hK)
  case body =>
    rintro l pre x W X hI _ _ _ _
    gi_wp2
    exact ⟨KAll.refl _ _ _, hI⟩
  case done =>
    rintro D W hD hI hE hK
    obtain ⟨dv, uv, n, room, uu, f, hk⟩ := hE
    have HKD := Hid.mk' hk
    obtain ⟨da, dc, hdv⟩ := hk.don.sl
    subst hdv
    have c3 : W.cell? ⟨wb, 3, none⟩ = some (.slice da df.length dc) := by rw [cell_of hk.blk]; rfl
    have HJ : Hid (Calls Tryd.prog 32 #[.slice da df.length dc] W fun e w' => e = .returned (.tuple #[.string (joinS df), .int .i64 (joinE df)]) ∧ Below W.heap.size W w') := by
      have := join_any _ df W hk.don.ir.ints HDL.out
      rw [joinRes_eq] at this
      exact this
    have HIW : Hid (Below w.heap.size w W) := HB.out.trans (hI.mono HB.out.size)
    have HKK := Hid.mk' hK
    have HDD : Hid (w.heap.size ≤ D) := by have := HB.out.size; show _ ≤ _; omega
    clear hk hI hK
    gi_wp2_with (refine ⟨trivial, ?_⟩; gi_at_call 32; refine (callsIn_wide.2 HJ.out).mono ?_; rintro e w5 ⟨rfl, hb5⟩; have HB5 := Hid.mk' hb5; clear hb5)
    have hK5 := (HB5.out.block D (blk_lt HKK.out)).trans HKK.out
    refine ⟨by simp, .inl ⟨_, _, rfl, run_takeDeferred hK5, ?_⟩⟩
    refine ⟨_, results_tmp2 rfl _ _ _, rfl, ?_⟩
    have hb : Below w.heap.size w w5 := HIW.out.trans (HB5.out.mono HIW.out.size)
    exact hb.trans (belowK_b (w := w) (Nat.le_refl _) w5 D _ _ HDD.out hK5 rfl rfl)
  case stop =>
    rintro D c pre W _ _ h _
    exact h.elim

theorem run_any (v : Value) (rs : List Rl) (s : ByteArray) (w : World) (hT : Tab w) (hz : 0 < w.heap.size) (h : PsR w v rs) : Calls Tryd.prog 18 #[.agg #[v], .string s] w fun e w' => e = .returned (.tuple #[.string (runT rs s), .int .i64 (mayE rs s)]) ∧ Below w.heap.size w w' := by
  by_cases hE : mayE rs s = 0
  · unfold runT
    rw [if_pos hE, hE]
    exact run_good v rs s w hT hz h hE
  · unfold runT
    rw [if_neg hE]
    exact run_bad v rs s w hT h hE

theorem dec_more (s t : ByteArray) (p : Nat) (h : p + 4 ≤ s.size) : Utf8.decode (s ++ t) p = Utf8.decode s p := by
  have hz : (s ++ t).size = s.size + t.size := ByteArray.size_append
  have hg : ∀ k, k < 4 → (s ++ t).get! (p + k) = s.get! (p + k) := fun k hk => by
    rw [get_bang _ _ (by omega), get_bang _ _ (by omega), ByteArray.getElem_append_left (by omega)]
  have hc : ∀ k, k < 4 → (decide (p + k < (s ++ t).size)) = decide (p + k < s.size) := fun k hk => by
    rw [decide_eq_true (by omega), decide_eq_true (by omega)]
  unfold Utf8.decode
  simp only [hg 0 (by decide), hg 1 (by decide), hg 2 (by decide), hg 3 (by decide), hc 1 (by decide), hc 2 (by decide), hc 3 (by decide)]
theorem pre_more (a b : List UInt8) (q : List UInt8) (h : q.length ≤ a.length) : Lib.hasPrefix (a ++ b) q = Lib.hasPrefix a q := by
  rw [← Lib.hasPrefix_of_take, ← Lib.hasPrefix_of_take, List.take_append_of_le_length h, decide_eq_true (by rw [List.length_append]; omega), decide_eq_true h]
theorem uAt_more (s t : ByteArray) (p : Nat) (h : p + 4 ≤ s.size) : uAt (s ++ t) p = uAt s p ∧ uw (s ++ t) p = uw s p := by
  have hd := dec_more s t p h
  have hz : (s ++ t).size = s.size + t.size := ByteArray.size_append
  have hl : s.data.toList.length = s.size := rfl
  have hp : Lib.hasPrefix ((s ++ t).data.toList.drop p) fffd = Lib.hasPrefix (s.data.toList.drop p) fffd := by
    have : (s ++ t).data.toList = s.data.toList ++ t.data.toList := by simp
    rw [this, List.drop_append_of_le_length (by omega)]
    exact pre_more _ _ _ (by rw [List.length_drop]; simp [fffd]; omega)
  have hg : (s ++ t).get! p = s.get! p := by
    rw [get_bang _ _ (by omega), get_bang _ _ (by omega), ByteArray.getElem_append_left (by omega)]
  refine ⟨?_, by unfold uw; rw [hd]⟩
  unfold uAt strayAt
  rw [hd, hp, hg]
/-- with more behind a text its units are others at the last three places at most -/
theorem units_more (s t : ByteArray) : ∀ n p, s.size - p ≤ n → p ≤ s.size → ∃ P q1 q2, intsU (unitsN s s.size p) = P ++ q1 ∧ intsU (unitsN (s ++ t) (s ++ t).size p) = P ++ q2 ∧ q1.length ≤ 3 := by
  intro n
  induction n with
  | zero =>
    intro p h hp
    refine ⟨[], _, _, rfl, rfl, ?_⟩
    rw [unitsN_end s _ p (by omega)]
    simp
  | succ n ih =>
    intro p h hp
    by_cases h4 : p + 4 ≤ s.size
    · have hz : (s ++ t).size = s.size + t.size := ByteArray.size_append
      obtain ⟨e1, e2⟩ := uAt_more s t p h4
      have hw := uw_pos s p
      have hw4 : uw s p ≤ 4 := by
        unfold uw Utf8.decode
        simp only
        repeat' split
        all_goals simp
      obtain ⟨P, q1, q2, a1, a2, a3⟩ := ih (p + uw s p) (by omega) (by omega)
      refine ⟨(uAt s p : Int) :: P, q1, q2, ?_, ?_, a3⟩
      · rw [units_next s p (by omega)]
        show _ :: intsU _ = _
        rw [a1]; rfl
      · rw [units_next (s ++ t) p (by omega), e1, e2]
        show _ :: intsU _ = _
        rw [a2]; rfl
    · refine ⟨[], _, _, rfl, rfl, ?_⟩
      rw [fuel s s.size (s.size - p) p (by omega) (by omega)]
      have := units_len_N s (s.size - p) p
      simp only [List.length_map]
      omega
theorem units_more0 (s t : ByteArray) : ∃ P q1 q2, intsU (units s) = P ++ q1 ∧ intsU (units (s ++ t)) = P ++ q2 ∧ q1.length ≤ 3 := units_more s t s.size 0 (by omega) (by omega)
/-- what is far is not seen -/
theorem stF_near {r : Rl} (hO : Ok r) (d x q1 q2 : List Int) (hx : 17 ≤ x.length) : stF r d (x ++ q1) = stF r d (x ++ q2) := by
  have h1 := hO.k8
  have h2 := hO.p8
  have hn1 : ¬ (x ++ q1).length < r.key.length + r.post.length := by rw [List.length_append]; omega
  have hn2 : ¬ (x ++ q2).length < r.key.length + r.post.length := by rw [List.length_append]; omega
  have hm1 : r.key.length + r.post.length < (x ++ q1).length := by rw [List.length_append]; omega
  have hm2 : r.key.length + r.post.length < (x ++ q2).length := by rw [List.length_append]; omega
  have k1 : ∀ q, (x ++ q).take r.key.length = x.take r.key.length := fun q => List.take_append_of_le_length (by omega)
  have k2 : ∀ q : List Int, ((x ++ q).drop r.key.length).take r.post.length = (x.drop r.key.length).take r.post.length := fun q => by
    rw [List.drop_append_of_le_length (by omega), List.take_append_of_le_length (by rw [List.length_drop]; omega)]
  unfold stF
  simp only [hn1, hn2, hm1, hm2, k1, k2]
theorem nxtK_near {rs : List Rl} (hO : ∀ r ∈ rs, Ok r) (d x q1 q2 : List Int) (hx : 17 ≤ x.length) : ∀ k, nxtK rs d (x ++ q1) k = nxtK rs d (x ++ q2) k
  | 0 => rfl
  | k + 1 => by
    have ih := nxtK_near hO d x q1 q2 hx k
    have e : ((rs[k]?).map fun r => stF r d (x ++ q1)) = ((rs[k]?).map fun r => stF r d (x ++ q2)) := by
      cases hk : rs[k]? with
      | none => rfl
      | some r => simp only [Option.map_some]; rw [stF_near (hO r (List.mem_of_getElem? hk)) d x q1 q2 hx]
    rw [nxtK, nxtK, ih, e]
/-- two steps that are alike but for what is left -/
def Alk (x y : Stp) : Prop := y.r = x.r ∧ y.d = x.d ∧ y.t = x.t ∧ y.a = x.a ∧ y.b = x.b
theorem step_near {rs : List Rl} (hc : ∀ r ∈ rs, chk r = 0) (d x q1 q2 : List Int) (hx : 17 ≤ x.length) : Alk (stp rs d (x ++ q1)) (stp rs d (x ++ q2)) ∧ layd rs d (x ++ q1) = layd rs d (x ++ q2) ∧ ∃ x', lefd rs d (x ++ q1) = x' ++ q1 ∧ lefd rs d (x ++ q2) = x' ++ q2 := by
  have hn := nxtK_near (fun r hr => chk_ok (hc r hr)) d x q1 q2 hx rs.length
  rcases nxtK_is rs d (x ++ q1) rs.length (Nat.le_refl _) with h | ⟨i, hi, _, h, _⟩
  · obtain ⟨a1, a2, a3⟩ := stp_none h
    obtain ⟨b1, b2, b3⟩ := stp_none (hn ▸ h)
    rw [a1, a2, a3, b1, b2, b3]
    refine ⟨⟨rfl, rfl, rfl, rfl, rfl⟩, ?_, x.drop 1, ?_, ?_⟩
    · rw [List.take_append_of_le_length (by omega), List.take_append_of_le_length (by omega)]
    · rw [List.drop_append_of_le_length (by omega)]
    · rw [List.drop_append_of_le_length (by omega)]
  · obtain ⟨a1, a2, a3⟩ := stp_rule hi h
    obtain ⟨b1, b2, b3⟩ := stp_rule hi (hn ▸ h)
    have hk := (chk_ok (hc _ (List.getElem_mem hi))).k8
    have k1 : ∀ q : List Int, (x ++ q).take rs[i].key.length = x.take rs[i].key.length := fun q => List.take_append_of_le_length (by omega)
    rw [a1, a2, a3, b1, b2, b3, k1, k1]
    refine ⟨⟨rfl, rfl, rfl, rfl, rfl⟩, rfl, (outs rs[i] (x.take rs[i].key.length)).drop rs[i].cu.toNat ++ x.drop rs[i].key.length, ?_, ?_⟩
    · rw [List.drop_append_of_le_length (by omega), List.append_assoc]
    · rw [List.drop_append_of_le_length (by omega), List.append_assoc]
/-- two runs, of which one has more behind it, are alike as long as enough is left: k steps -/
theorem go3_near {rs : List Rl} (hc : ∀ r ∈ rs, chk r = 0) {P q1 q2 : List Int} (h3 : q1.length ≤ 3) : ∀ k, (∀ (j : Nat) (x : Stp), j < k → (go3 rs (P ++ q1) k).1[j]? = some x → 19 < x.l) → (go3 rs (P ++ q1) k).1.length = k →
    (go3 rs (P ++ q2) k).1.length = k ∧ (∀ (j : Nat) (x y : Stp), (go3 rs (P ++ q1) k).1[j]? = some x → (go3 rs (P ++ q2) k).1[j]? = some y → Alk x y) ∧ (go3 rs (P ++ q1) k).2.1 = (go3 rs (P ++ q2) k).2.1 ∧ ∃ x, (go3 rs (P ++ q1) k).2.2 = x ++ q1 ∧ (go3 rs (P ++ q2) k).2.2 = x ++ q2
  | 0, _, _ => ⟨rfl, fun j x y h => by simp [go3] at h, rfl, P, rfl, rfl⟩
  | k + 1, hl, hk => by
    have hne : (go3 rs (P ++ q1) k).2.2 ≠ [] := fun e => by
      rw [go3, if_pos e] at hk
      have := (go3_ok hc (P ++ q1) k).k
      omega
    have hk1 : (go3 rs (P ++ q1) k).1.length = k := by
      rcases (go3_ok hc (P ++ q1) k).k with h | h
      · exact h
      · exact absurd h.2 hne
    rw [go3, if_neg hne] at hl hk
    simp only at hl
    obtain ⟨i1, i2, i3, x, i4, i5⟩ := go3_near hc h3 k (fun j y hj hy => hl j y (by omega) (by rw [List.getElem?_append_left (by omega)]; exact hy)) hk1
    have hlast := hl k (stp rs (go3 rs (P ++ q1) k).2.1 (go3 rs (P ++ q1) k).2.2) (by omega) (by rw [List.getElem?_append_right (by omega), hk1]; simp)
    have hll : 19 < (go3 rs (P ++ q1) k).2.2.length := by
      have e : (stp rs (go3 rs (P ++ q1) k).2.1 (go3 rs (P ++ q1) k).2.2).l = (go3 rs (P ++ q1) k).2.2.length := by
        rcases nxtK_is rs (go3 rs (P ++ q1) k).2.1 (go3 rs (P ++ q1) k).2.2 rs.length (Nat.le_refl _) with h | ⟨i, hi, _, h, _⟩
        · rw [(stp_none h).1]
        · rw [(stp_rule hi h).1]
      rw [e] at hlast
      omega
    have hx : 17 ≤ x.length := by rw [i4, List.length_append] at hll; omega
    obtain ⟨s1, s2, x', s3, s4⟩ := step_near hc (go3 rs (P ++ q1) k).2.1 x q1 q2 hx
    have hne2 : (go3 rs (P ++ q2) k).2.2 ≠ [] := fun e => by
      rw [i5] at e
      rw [(List.append_eq_nil_iff.1 e).1] at hx
      simp at hx
    rw [← i4] at s1 s2 s3
    rw [← i5, i3] at s1 s2 s4
    rw [i3] at s3
    rw [go3, go3, if_neg hne, if_neg hne2]
    simp only
    refine ⟨by simp [i1], fun j a b ha hb => ?_, ?_, x', ?_, s4⟩
    · by_cases hj : j < k
      · rw [List.getElem?_append_left (by omega)] at ha hb
        exact i2 j a b ha hb
      · have hjk : j = k := by
          have := (List.getElem?_eq_some_iff.1 ha).1
          simp at this
          omega
        subst hjk
        rw [List.getElem?_append_right (by omega), hk1] at ha
        rw [List.getElem?_append_right (by omega), i1] at hb
        simp at ha hb
        subst ha hb
        rw [i3]
        exact s1
    · rw [i3]
      rw [s2]
    · rw [i3]
      exact s3

/-- what holds, and holds on whatever happens to blocks of which X is true -/
def Rob (X : Nat → Prop) (w : World) (P : World → Prop) : Prop := ∀ w'', Fr w w'' X → P w''
theorem Rob.now {X : Nat → Prop} {w : World} {P : World → Prop} (h : Rob X w P) : P w := h w (Fr.refl _ _)
theorem Rob.fr {X Y : Nat → Prop} {w w' : World} {P : World → Prop} (h : Rob X w P) (hf : Fr w w' Y) (hy : ∀ k, k < w.heap.size → Y k → X k) : Rob X w' P := fun w'' h2 => h w'' ((hf.mono hy).trans h2 fun _ _ e => e)
theorem Rob.less {X Y : Nat → Prop} {w : World} {P : World → Prop} (h : Rob X w P) (hy : ∀ k, k < w.heap.size → Y k → X k) : Rob Y w P := fun w'' h2 => h w'' (h2.mono hy)
/-- a block of cells, by its places -/
def RowB (w : World) (g : Nat) (e : TypeId) (F : Nat → Value) (n : Nat) : Prop := ∃ cur : Array Value, w.heap[g]? = some (.cells cur e (0, 0)) ∧ ∀ j, j < n → cur[j]? = some (F j)
theorem RowB.cell {w : World} {g : Nat} {e : TypeId} {F : Nat → Value} {n j : Nat} (h : RowB w g e F n) (hj : j < n) : w.cell? ⟨g, j, none⟩ = some (F j) := by
  obtain ⟨cur, h1, h2⟩ := h
  rw [cell_of h1, h2 j hj]
theorem RowB.free {w : World} {g : Nat} {e : TypeId} {F : Nat → Value} {n j : Nat} (h : RowB w g e F n) : w.frozen? ⟨g, j, none⟩ = false := by
  obtain ⟨cur, h1, h2⟩ := h
  exact free_of h1
theorem RowB.lt {w : World} {g : Nat} {e : TypeId} {F : Nat → Value} {n : Nat} (h : RowB w g e F n) : g < w.heap.size := by
  obtain ⟨cur, h1, _⟩ := h
  exact blk_lt h1
/-- one place turned -/
def updF (F : Nat → Value) (i : Nat) (u : Value) : Nat → Value := fun j => if j = i then u else F j
theorem RowB.set {w : World} {g : Nat} {e : TypeId} {F : Nat → Value} {n : Nat} (h : RowB w g e F n) (i : Nat) (u : Value) : RowB (w.setCell ⟨g, i, none⟩ u) g e (updF F i u) n := by
  obtain ⟨cur, h1, h2⟩ := h
  refine ⟨_, set_heap h1, fun j hj => ?_⟩
  have hlt : j < cur.size := (Array.getElem?_eq_some_iff.1 (h2 j hj)).1
  rw [Array.getElem?_setIfInBounds]
  by_cases e : i = j
  · subst e; rw [if_pos rfl, if_pos hlt]; simp [updF]
  · rw [if_neg e, h2 j hj]; simp [updF, Ne.symm e]
theorem RowB.fr {w w' : World} {X : Nat → Prop} {g : Nat} {e : TypeId} {F : Nat → Value} {n : Nat} (h : RowB w g e F n) (hf : Fr w w' X) (hx : ¬ X g) : RowB w' g e F n := by
  obtain ⟨cur, h1, h2⟩ := h
  exact ⟨cur, (hf.block g (blk_lt h1) hx).trans h1, h2⟩
theorem row_of {w : World} {base : Nat} {e : TypeId} {size : Nat} {v : Value} {n : Nat} {xs : List Value} (h : w.ownsRow base e size v n xs) (hn : n ≠ 0) : ∃ g cap, v = .slice (some ⟨g, 0, none⟩) n cap ∧ base ≤ g ∧ n ≤ cap ∧ RowB w g e (fun j => xs.getD j undef) (n * size) := by
  rcases h.2 with ⟨_, h0⟩ | ⟨g, cap, cur, e1, h1, h2, h3, _, _, h5⟩
  · exact absurd h0 hn
  · refine ⟨g, cap, e1, h1, h3, cur, h2, fun j hj => ?_⟩
    have hl : xs.length = n * size := h.1
    have hj2 : j < xs.length := by omega
    show cur[j]? = some (xs.getD j undef)
    rw [List.getD_eq_getElem?_getD, List.getElem?_eq_getElem hj2]
    have : (cur.toList.take (n * size))[j]? = some xs[j] := by rw [h5]; exact List.getElem?_eq_getElem hj2
    rw [List.getElem?_take, if_pos hj] at this
    simpa using this
/-- what is copied into a new row -/
theorem run_appX (w : World) (t ty e : TypeId) (z : Value) (size bytes : Nat) (ht : Tryd.prog.underlying t = some (.slice e)) (hinf : (Tryd.prog.info? e).map (fun i => (i.zero, i.size, i.bytes)) = some (some z, size, bytes)) (hzs : z.cells.size = size) (hsz : 0 < size) (hb0 : bytes ≤ 120)
    (base g : Nat) (hg : w.heap[g]? = some (.cells #[] e (0, 0))) (hbg : base ≤ g) (a : Addr) (n c : Nat) (xs : List Value) (hl : xs.length = n * size) (hr : ∀ j u, xs[j]? = some u → w.cell? (a.add j) = some u) (h1 : ∀ u ∈ xs, u.oneCell' = true) (hn : n ≤ 4294967296) :
    ∃ v' w', (Builtin.append_ #[t, t] ty #[.slice (some ⟨g, 0, none⟩) 0 0, .slice (some a) n c]).run Tryd.prog w = .ok v' w' ∧ w'.ownsRow base e size v' n xs ∧ Fr w w' (fun k => k = g) := by
  obtain ⟨i0, hi0, hz0, hz1, hz2⟩ := info_parts hinf
  have hown : w.ownsRow base e size (.slice (some ⟨g, 0, none⟩) 0 0) 0 [] := ⟨by simp, .inr ⟨g, 0, #[], rfl, hbg, hg, Nat.le_refl _, Nat.zero_le _, by simp, by simp⟩⟩
  by_cases he : n = 0
  · subst he
    have hx : xs = [] := List.eq_nil_of_length_eq_zero (by omega)
    subst hx
    have hr := run_append_nothing (P := Tryd.prog) w t t ty e i0 ht hi0 (some ⟨g, 0, none⟩) 0 0 (Nat.le_refl _) (.slice (some a) 0 c) ⟨.inl ⟨e, ht⟩, fun w' => by simp [Builtin.lenOf, go_sem], by simp [Builtin.firstCells, go_sem], by simp [Builtin.firstCells, go_sem], by simp, by simp⟩
    exact ⟨_, w, hr, hown, Fr.refl _ _⟩
  · obtain ⟨v', w', q1, q2, q3, _, _⟩ := run_append_own_at (P := Tryd.prog) w base t ty e i0 z size bytes ht hi0 hz0 hz1 hz2 hzs hsz (.slice (some ⟨g, 0, none⟩) 0 0) 0 [] hown a n c xs hl hr h1 (by unfold maxLen; omega) (by have : (0 + n) * bytes ≤ 4294967296 * 120 := Nat.mul_le_mul (by omega) hb0; omega) (by have := blk_lt hg; omega)
    refine ⟨v', w', q1, by simpa using q2, (fr_by q3).mono fun k _ e => ?_⟩
    injection e with e
    exact e.symm
theorem app_X {ops : Array Oper} {rest : List Oper} {o : Oper} {ac : Act} {Q : Exit → Act → World → Prop} {w : World} (hgd : o.guard = none) (s x : Operand) (t : TypeId)
    (ho : o.op = .call { callee := .builtin .append, args := #[s, x], argTypes := #[t, t] }) (e : TypeId) (z : Value) (size bytes : Nat) (ht : Tryd.prog.underlying t = some (.slice e)) (hinf : (Tryd.prog.info? e).map (fun i => (i.zero, i.size, i.bytes)) = some (some z, size, bytes)) (hzs : z.cells.size = size) (hsz : 0 < size) (hb0 : bytes ≤ 120)
    (base g : Nat) (hs : ac.eval s = .slice (some ⟨g, 0, none⟩) 0 0) (hg : w.heap[g]? = some (.cells #[] e (0, 0))) (hbg : base ≤ g) (a : Addr) (n c : Nat) (hx : ac.eval x = .slice (some a) n c) (xs : List Value) (hl : xs.length = n * size) (hr : ∀ j u, xs[j]? = some u → w.cell? (a.add j) = some u) (h1 : ∀ u ∈ xs, u.oneCell' = true) (hn : n ≤ 4294967296)
    (h : ∀ v' w', w'.ownsRow base e size v' n xs → Fr w w' (fun k => k = g) → wpList Tryd.prog ops Q rest (ac.put o.dst v') w') : wpList Tryd.prog ops Q (o :: rest) ac w := by
  refine wpList_plain hgd fun K hK => ?_
  obtain ⟨v', w', hr2, q1, q2⟩ := run_appX w t o.type e z size bytes ht hinf hzs hsz hb0 base g hg hbg a n c xs hl hr h1 hn
  unfold Oper.wp execOp
  simp only [ho, resolve, invoke, builtin, Sem.run_bind, Sem.run_pure, Result.andThen_ok, List.map_toArray, List.map_cons, List.map_nil, hs, hx, hr2]
  exact hK _ _ (h v' w' q1 q2)
/-- the cells of a row as they lie -/
def Lies (w : World) (A : Option Addr) (xs : List Value) : Prop := ∀ j u, xs[j]? = some u → ∃ a, A = some a ∧ w.cell? (a.add j) = some u

theorem eqS22 (W : World) (a : Addr) (n c : Nat) : (binOp .eql 22 (.slice (some a) n c) (.slice none 0 0)).run Tryd.prog W = .ok (.bool false) W := by kernel_rfl
theorem eqN22 (W : World) (n c : Nat) : (binOp .eql 22 (.slice none n c) (.slice none 0 0)).run Tryd.prog W = .ok (.bool true) W := by kernel_rfl
set_option maxHeartbeats 2000000 in
theorem clone58 (w : World) (A : Option Addr) (n c : Nat) (xs : List Value) (hA : A = none → n = 0) (hl : xs.length = n * 7) (hr : Lies w A xs) (h1 : ∀ u ∈ xs, u.oneCell' = true) (hn : n ≤ 4294967296) :
    Calls Tryd.prog 36 #[.slice A n c] w fun e w' => ∃ v', e = .returned v' ∧ w'.ownsRow w.heap.size 53 7 v' n xs ∧ Below w.heap.size w w' := by
  cases A with
  | none =>
    obtain rfl := hA rfl
    have hx : xs = [] := List.eq_nil_of_length_eq_zero (by omega)
    subst hx
    have he := eqN22
    clear hr h1 hl hn hA
    go_enter Tryd.func36, Tryd.ntmps36
    go_wp2
    go_ret
    exact ⟨_, rfl, World.ownsRow_nil _ _ _ _, (Below.refl _ _)⟩
  | some a =>
    have he := eqS22
    obtain ⟨h, hh⟩ : ∃ h, w.heap.size = h := ⟨_, rfl⟩
    have HH : Hid (w.heap.size = h) := hh
    have HG : Hid ((w.alloc (.cells #[] 53)).heap[h]? = some (.cells #[] 53 (0, 0))) := by rw [← hh]; exact heap_alloc_new w _
    have HR : Hid (∀ j u, xs[j]? = some u → (w.alloc (.cells #[] 53)).cell? (a.add j) = some u) := fun j u hj => by
      obtain ⟨a', e, h2⟩ := hr j u hj
      injection e with e
      subst e
      exact cell_up h2 _
    have HX := Hid.mk' (And.intro hl h1)
    clear hr h1 hl hA
    go_enter Tryd.func36, Tryd.ntmps36
    go_wp2_with (at_builtin; go_must (refine app_X rfl _ _ 22 rfl 53 (.agg #[.bool false, .slice none 0 0, .slice none 0 0, .slice none 0 0, .bool false, .slice none 0 0, .int .i64 0]) 7 120 Tryd.underlying22 inf54 rfl (by decide) (by decide) h h rfl HG.out (Nat.le_refl _) a n c rfl xs HX.out.1 HR.out HX.out.2 hn ?_; intro v' w3 hr3 hb3; have H3 := Hid.mk' (And.intro hr3 hb3); clear hr3 hb3))
    go_ret
    have hb := H3.out.2
    refine ⟨_, rfl, ?_, ?_⟩
    · have := H3.out.1
      rw [HH.out]
      exact this
    · exact ((Grown.refl w).alloc _).below.trans (hb.below (fun k e => by have := HH.out; omega) (by simp))

theorem eqS51 (W : World) (a : Addr) (n c : Nat) : (binOp .eql 51 (.slice (some a) n c) (.slice none 0 0)).run Tryd.prog W = .ok (.bool false) W := by kernel_rfl
theorem eqN51 (W : World) (n c : Nat) : (binOp .eql 51 (.slice none n c) (.slice none 0 0)).run Tryd.prog W = .ok (.bool true) W := by kernel_rfl
set_option maxHeartbeats 2000000 in
theorem clone60 (w : World) (A : Option Addr) (n c : Nat) (xs : List Value) (hA : A = none → n = 0) (hl : xs.length = n * 4) (hr : Lies w A xs) (h1 : ∀ u ∈ xs, u.oneCell' = true) (hn : n ≤ 4294967296) :
    Calls Tryd.prog 38 #[.slice A n c] w fun e w' => ∃ v', e = .returned v' ∧ w'.ownsRow w.heap.size 59 4 v' n xs ∧ Below w.heap.size w w' := by
  cases A with
  | none =>
    obtain rfl := hA rfl
    have hx : xs = [] := List.eq_nil_of_length_eq_zero (by omega)
    subst hx
    have he := eqN51
    clear hr h1 hl hn hA
    go_enter Tryd.func38, Tryd.ntmps38
    go_wp2
    go_ret
    exact ⟨_, rfl, World.ownsRow_nil _ _ _ _, (Below.refl _ _)⟩
  | some a =>
    have he := eqS51
    obtain ⟨h, hh⟩ : ∃ h, w.heap.size = h := ⟨_, rfl⟩
    have HH : Hid (w.heap.size = h) := hh
    have HG : Hid ((w.alloc (.cells #[] 59)).heap[h]? = some (.cells #[] 59 (0, 0))) := by rw [← hh]; exact heap_alloc_new w _
    have HR : Hid (∀ j u, xs[j]? = some u → (w.alloc (.cells #[] 59)).cell? (a.add j) = some u) := fun j u hj => by
      obtain ⟨a', e, h2⟩ := hr j u hj
      injection e with e
      subst e
      exact cell_up h2 _
    have HX := Hid.mk' (And.intro hl h1)
    clear hr h1 hl hA
    go_enter Tryd.func38, Tryd.ntmps38
    go_wp2_with (at_builtin; go_must (refine app_X rfl _ _ 51 rfl 59 (.agg #[.int .i64 0, .int .i64 0, .int .i64 0, .slice none 0 0]) 4 48 Tryd.underlying51 inf66 rfl (by decide) (by decide) h h rfl HG.out (Nat.le_refl _) a n c rfl xs HX.out.1 HR.out HX.out.2 hn ?_; intro v' w3 hr3 hb3; have H3 := Hid.mk' (And.intro hr3 hb3); clear hr3 hb3))
    go_ret
    have hb := H3.out.2
    refine ⟨_, rfl, ?_, ?_⟩
    · have := H3.out.1
      rw [HH.out]
      exact this
    · exact ((Grown.refl w).alloc _).below.trans (hb.below (fun k e => by have := HH.out; omega) (by simp))

theorem eqS60 (W : World) (a : Addr) (n c : Nat) : (binOp .eql 57 (.slice (some a) n c) (.slice none 0 0)).run Tryd.prog W = .ok (.bool false) W := by kernel_rfl
theorem eqN60 (W : World) (n c : Nat) : (binOp .eql 57 (.slice none n c) (.slice none 0 0)).run Tryd.prog W = .ok (.bool true) W := by kernel_rfl
set_option maxHeartbeats 2000000 in
theorem clone61 (w : World) (A : Option Addr) (n c : Nat) (xs : List Value) (hA : A = none → n = 0) (hl : xs.length = n * 2) (hr : Lies w A xs) (h1 : ∀ u ∈ xs, u.oneCell' = true) (hn : n ≤ 4294967296) :
    Calls Tryd.prog 39 #[.slice A n c] w fun e w' => ∃ v', e = .returned v' ∧ w'.ownsRow w.heap.size 92 2 v' n xs ∧ Below w.heap.size w w' := by
  cases A with
  | none =>
    obtain rfl := hA rfl
    have hx : xs = [] := List.eq_nil_of_length_eq_zero (by omega)
    subst hx
    have he := eqN60
    clear hr h1 hl hn hA
    go_enter Tryd.func39, Tryd.ntmps39
    go_wp2
    go_ret
    exact ⟨_, rfl, World.ownsRow_nil _ _ _ _, (Below.refl _ _)⟩
  | some a =>
    have he := eqS60
    obtain ⟨h, hh⟩ : ∃ h, w.heap.size = h := ⟨_, rfl⟩
    have HH : Hid (w.heap.size = h) := hh
    have HG : Hid ((w.alloc (.cells #[] 92)).heap[h]? = some (.cells #[] 92 (0, 0))) := by rw [← hh]; exact heap_alloc_new w _
    have HR : Hid (∀ j u, xs[j]? = some u → (w.alloc (.cells #[] 92)).cell? (a.add j) = some u) := fun j u hj => by
      obtain ⟨a', e, h2⟩ := hr j u hj
      injection e with e
      subst e
      exact cell_up h2 _
    have HX := Hid.mk' (And.intro hl h1)
    clear hr h1 hl hA
    go_enter Tryd.func39, Tryd.ntmps39
    go_wp2_with (at_builtin; go_must (refine app_X rfl _ _ 57 rfl 92 (.agg #[.int .i64 0, .int .i64 0]) 2 16 Tryd.underlying57 info38 rfl (by decide) (by decide) h h rfl HG.out (Nat.le_refl _) a n c rfl xs HX.out.1 HR.out HX.out.2 hn ?_; intro v' w3 hr3 hb3; have H3 := Hid.mk' (And.intro hr3 hb3); clear hr3 hb3))
    go_ret
    have hb := H3.out.2
    refine ⟨_, rfl, ?_, ?_⟩
    · have := H3.out.1
      rw [HH.out]
      exact this
    · exact ((Grown.refl w).alloc _).below.trans (hb.below (fun k e => by have := HH.out; omega) (by simp))

theorem eqS33 (W : World) (a : Addr) (n c : Nat) : (binOp .eql 50 (.slice (some a) n c) (.slice none 0 0)).run Tryd.prog W = .ok (.bool false) W := by kernel_rfl
theorem eqN33 (W : World) (n c : Nat) : (binOp .eql 50 (.slice none n c) (.slice none 0 0)).run Tryd.prog W = .ok (.bool true) W := by kernel_rfl
set_option maxHeartbeats 2000000 in
theorem clone85 (w : World) (A : Option Addr) (n c : Nat) (xs : List Value) (hA : A = none → n = 0) (hl : xs.length = n * 1) (hr : Lies w A xs) (h1 : ∀ u ∈ xs, u.oneCell' = true) (hn : n ≤ 4294967296) :
    Calls Tryd.prog 53 #[.slice A n c] w fun e w' => ∃ v', e = .returned v' ∧ w'.ownsRow w.heap.size 57 1 v' n xs ∧ Below w.heap.size w w' := by
  cases A with
  | none =>
    obtain rfl := hA rfl
    have hx : xs = [] := List.eq_nil_of_length_eq_zero (by omega)
    subst hx
    have he := eqN33
    clear hr h1 hl hn hA
    go_enter Tryd.func53, Tryd.ntmps53
    go_wp2
    go_ret
    exact ⟨_, rfl, World.ownsRow_nil _ _ _ _, (Below.refl _ _)⟩
  | some a =>
    have he := eqS33
    obtain ⟨h, hh⟩ : ∃ h, w.heap.size = h := ⟨_, rfl⟩
    have HH : Hid (w.heap.size = h) := hh
    have HG : Hid ((w.alloc (.cells #[] 57)).heap[h]? = some (.cells #[] 57 (0, 0))) := by rw [← hh]; exact heap_alloc_new w _
    have HR : Hid (∀ j u, xs[j]? = some u → (w.alloc (.cells #[] 57)).cell? (a.add j) = some u) := fun j u hj => by
      obtain ⟨a', e, h2⟩ := hr j u hj
      injection e with e
      subst e
      exact cell_up h2 _
    have HX := Hid.mk' (And.intro hl h1)
    clear hr h1 hl hA
    go_enter Tryd.func53, Tryd.ntmps53
    go_wp2_with (at_builtin; go_must (refine app_X rfl _ _ 50 rfl 57 (.slice none 0 0) 1 24 Tryd.underlying50 inf59 rfl (by decide) (by decide) h h rfl HG.out (Nat.le_refl _) a n c rfl xs HX.out.1 HR.out HX.out.2 hn ?_; intro v' w3 hr3 hb3; have H3 := Hid.mk' (And.intro hr3 hb3); clear hr3 hb3))
    go_ret
    have hb := H3.out.2
    refine ⟨_, rfl, ?_, ?_⟩
    · have := H3.out.1
      rw [HH.out]
      exact this
    · exact ((Grown.refl w).alloc _).below.trans (hb.below (fun k e => by have := HH.out; omega) (by simp))
end Go.Proofs
