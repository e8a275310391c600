/-
  Bound: what the units of a text weigh together.
-/
import Derived.RangeFuncNested
import Derived.RangeFuncBound
import Derived.RangeFuncCalls
import Derived.RangeFuncLeaves
import Derived.Shelf.Abstract
import Derived.Shelf.RegionOpen
import Derived.WalkKit
import Derived.WalkSpells
import Derived.WalkLawsBesides
import Derived.OwnWalkIn
import Derived.TacticsInMore
import Derived.LoopNIn
import Derived.LoopIn
import Derived.BigQuiet
import Derived.RegionIn
import Derived.Deep.QuietTactic
import Derived.Deep.RegionWith
import Derived.Lib.OthersKept
import Derived.Maps.AppendAt
import Derived.Lib.SmallJoins
import Derived.Shelf.SlSortCmp.QuietGrown
import Derived.RangeFuncWrites
import Derived.Carry
import Derived.Test.YtkijbaofhodplaaDoorMgg
import Derived.Test.YtkijbaofhodplaaDoorUz
namespace Go.Proofs
open Go.RowKit Go.Shelf

set_option maxRecDepth 100000
attribute [local go_sem] Oper.semAt_some
attribute [local go_sem ↓] Go.wp_at_zero Go.wp_at_succ
/-- what some units weigh together -/
def sumW (rs : List Rl) (ws : List Int) : List (Nat × Nat) → Int
  | [] => 0
  | x :: l => wgtK rs ws (x.2 : Int) rs.length + sumW rs ws l
theorem sumW_snoc (rs : List Rl) (ws : List Int) (l : List (Nat × Nat)) (x : Nat × Nat) : sumW rs ws (l ++ [x]) = sumW rs ws l + wgtK rs ws (x.2 : Int) rs.length := by
  induction l with
  | nil => simp [sumW]
  | cons y l ih => simp only [List.cons_append, sumW, ih]; omega
theorem sumW_bound {rs : List Rl} {ws : List Int} (h : ∀ i, i < rs.length → 1 ≤ at0 ws i ∧ at0 ws i ≤ 64) : ∀ l, 0 ≤ sumW rs ws l ∧ sumW rs ws l ≤ 64 * l.length
  | [] => by simp [sumW]
  | x :: l => by
    have h1 := sumW_bound h l
    have h2 := wgtK_bound (u := (x.2 : Int)) h rs.length (Nat.le_refl _)
    simp only [sumW, List.length_cons]
    omega
def bndP (rs : List Rl) (s : ByteArray) : Int := match (wgh rs).1 with
  | none => 0
  | some st => sumW rs st.ws (units s)
def FOk (rs : List Rl) (ws : List Int) (f : Int → Option Value) : Prop := ∀ k v, f k = some v → v = .int .i64 (wgtK rs ws k rs.length)
/-- what Bound has summed up behind some rounds -/
structure BJ (w1 : World) (rs : List Rl) (ws : List Int) (s : ByteArray) (sp N : Nat) (pre : List (UU s)) (W : World) : Prop where
  b : Below w1.heap.size w1 W
  on : Boxed W N 76 (.pointer (some ⟨sp, 0, none⟩))
  kn : Boxed W (N + 1 + 1) 42 (.map (some (N + 1)))
  su : Boxed W (N + 1 + 1 + 1) 3 (.int .i64 (sumW rs ws (vals pre)))
  tx : Boxed W (N + 1 + 1 + 1 + 1) 9 (.string s)
  mp : ∃ f, IMap W (N + 1) pre.length f ∧ FOk rs ws f
theorem BJ_own (w1 : World) (rs : List Rl) (ws : List Int) (s : ByteArray) (sp N B : Nat) (hN : w1.heap.size = N) (hB : N + 5 ≤ B) : OwnFrom B (BJ w1 rs ws s sp N) := by
  rintro pre X Y row ⟨h1, h2, h3, h4, h5, f, h6, h7⟩ hg hr
  have hr2 : ∀ r, row = some r → ∃ o : Obj, X.heap[r]? = some o ∧ o.isCells = false := fun r e => (hr r e).2
  refine ⟨h1.grown hg h1.size (fun k hk => ?_), boxed_kept h2 hg hr2, boxed_kept h3 hg hr2, boxed_kept h4 hg hr2, boxed_kept h5 hg hr2, f, h6.kept (fun o ho => ?_), h7⟩
  · have := (hr k hk).1; omega
  · exact (hg.block _ (Array.getElem?_eq_some_iff.1 ho).1 (fun e => by have := (hr _ e.symm).1; omega)).trans ho
/-- the map and the sum turn alone -/
def Two (N : Nat) (W W' : World) : Prop := W.heap.size ≤ W'.heap.size ∧ ∀ k, k < W.heap.size → k ≠ N + 1 → k ≠ N + 1 + 1 + 1 → W'.heap[k]? = W.heap[k]?
theorem Two.keeps {N B : Nat} {W W' : World} (h : Two N W W') (hB : N + 5 ≤ B) (hm : ∃ es c, W.heap[N + 1]? = some (.map es c)) (hs : ∃ cs t m, W.heap[N + 1 + 1 + 1]? = some (.cells cs t m)) : KeepsFrom B W W' ∧ KpA (N + 1 + 1 + 1 + 1) W W' := by
  have hk : ∀ (k : Nat) (o : Obj), W.heap[k]? = some o → k ≠ N + 1 → k ≠ N + 1 + 1 + 1 → W'.heap[k]? = some o := fun k o ho h1 h2 => (h.2 k (Array.getElem?_eq_some_iff.1 ho).1 h1 h2).trans ho
  obtain ⟨es, c, hm⟩ := hm
  obtain ⟨cs, t, m, hs⟩ := hs
  refine ⟨⟨h.1, fun k o hB' ho _ => hk k o ho (by omega) (by omega)⟩, fun k s p ho => hk k _ ho (fun e => ?_) (fun e => ?_), fun v hv => ?_⟩
  · rw [e, hm] at ho; cases ho
  · rw [e, hs] at ho; cases ho
  · have hlt := cell_lt hv
    rw [cell_same (h.2 _ hlt (by simp only; omega) (by simp only; omega))]
    exact hv
theorem BJ.add {w1 : World} {rs : List Rl} {ws : List Int} {s : ByteArray} {sp N : Nat} {pre : List (UU s)} {x : UU s} {W W9 : World} {sm wg : Int} {f : Int → Option Value} (h : BJ w1 rs ws s sp N pre W) (hN : w1.heap.size = N) (h9 : Two N W W9) (hb : Below w1.heap.size w1 W9) (hsu : W9.heap[N + 1 + 1 + 1]? = W.heap[N + 1 + 1 + 1]?) (hI : IMap W9 (N + 1) (pre.length + 1) f) (hF : FOk rs ws f) (hS : sumW rs ws (vals (pre ++ [x])) = sm + wg) :
    BJ w1 rs ws s sp N (pre ++ [x]) (W9.setCell ⟨N + 1 + 1 + 1, 0, none⟩ (.int .i64 (sm + wg))) ∧ Two N W (W9.setCell ⟨N + 1 + 1 + 1, 0, none⟩ (.int .i64 (sm + wg))) := by
  have ht := turns_set W9 (N + 1 + 1 + 1) 0 (.int .i64 (sm + wg))
  have hbx : ∀ {b : Nat} {t : TypeId} {v : Value}, b ≠ N + 1 → b ≠ N + 1 + 1 + 1 → Boxed W b t v → Boxed (W9.setCell ⟨N + 1 + 1 + 1, 0, none⟩ (.int .i64 (sm + wg))) b t v := fun {b t v} h1 h2 hv => (ht b h2).trans ((h9.2 b (Array.getElem?_eq_some_iff.1 hv).1 h1 h2).trans hv)
  refine ⟨⟨hb.setCell (p := ⟨N + 1 + 1 + 1, 0, none⟩) (by simp only; omega) _, hbx (by omega) (by omega) h.on, hbx (by omega) (by omega) h.kn, ?_, hbx (by omega) (by omega) h.tx, f, ?_, hF⟩, ?_⟩
  · rw [hS]
    have h1 : W9.heap[N + 1 + 1 + 1]? = some (.cells #[.int .i64 (sumW rs ws (vals pre))] 3 (0, 0)) := hsu.trans h.su
    show (W9.setCell ⟨N + 1 + 1 + 1, 0, none⟩ _).heap[N + 1 + 1 + 1]? = some (.cells #[.int .i64 (sm + wg)] 3 (0, 0))
    rw [set_heap h1]
    rfl
  · rw [List.length_append]
    exact hI.kept (fun o ho => (ht _ (by omega)).trans ho)
  · refine ⟨by simpa [World.setCell] using h9.1, fun k hk h1 h2 => (ht k h2).trans (h9.2 k hk h1 h2)⟩
set_option maxHeartbeats 4000000 in
theorem bound_ok (rv : Value) (rs : List Rl) (st : St) (s : ByteArray) (w : World) (hT : Tab w) (h : PsR w rv rs) (hs : s.size ≤ 140737488355328) (hst : wgh rs = (some st, 0, 0)) :
    Calls Tryd.prog 15 #[.agg #[rv], .string s] w fun e w' => e = .returned (.int .i64 (sumW rs st.ws (units s))) ∧ Below w.heap.size w w' := by
  have HC : Hid (∀ ob, Calls Tryd.prog 34 #[.agg #[rv]] (w.alloc ob) fun e w' => ∃ sp, e = .returned (.tuple #[.pointer (some ⟨sp, 0, none⟩), .int .i64 0, .int .i64 0]) ∧ Sca w' (w.alloc ob).heap.size sp rv rs st ∧ Below w.heap.size w w') := fun ob => by
    have hg : Grown w (w.alloc ob) := (Grown.refl _).alloc ob
    refine (weighed_any rv rs (w.alloc ob) (hT.grown hg) (h.grown hg)).mono ?_
    rintro e w' ⟨hb, ⟨c, h1, rfl⟩ | ⟨st', sp, h1, rfl, hS⟩⟩
    · rw [hst] at h1; cases h1
    · rw [hst] at h1
      cases h1
      exact ⟨sp, rfl, hS, hg.below.trans (hb.mono hg.size)⟩
  have HT : Hid (Tab w) := hT
  obtain ⟨ra, rc, hrv, _, _⟩ := h
  subst hrv
  have hmm := @run_makeMap Tryd.prog
  refine (callsIn_wide (n := 5)).1 ?_
  refine callsIn_of_wp_marks Tryd.func15 rfl trivial ?_ rfl
  simp only [Tryd.ntmps15, List.size_toArray, List.length_cons, List.length_nil, Nat.reduceAdd, Nat.reduceSub, Array.replicate_succ, Array.replicate_zero, List.push_toArray, List.append_toArray, List.nil_append, List.cons_append]
  gi_wp2_with (first | (refine ⟨trivial, ?_⟩; gi_at_call 34; refine (callsIn_wide.2 (HC.out _)).mono ?_; rintro e w1 ⟨sp, rfl, hS, hB1⟩) | (refine ⟨trivial, ?_⟩; gi_at_call 37; refine (callsIn_wide.2 (uall_any _ _)).mono ?_; rintro e w' ⟨rfl, rfl⟩))
  obtain ⟨N, hN⟩ : ∃ N, w1.heap.size = N := ⟨_, rfl⟩
  have HN : Hid (w1.heap.size = N) := hN
  obtain ⟨W0, hW0⟩ : ∃ W0, W0 = (((((w1.alloc (.cells #[.pointer (some ⟨sp, 0, none⟩)] 76)).alloc (.map #[] 0)).alloc (.cells #[.map (some (w1.heap.size + 1))] 42)).alloc (.cells #[.int .i64 0] 3)).alloc (.cells #[.string s] 9)) := ⟨_, rfl⟩
  have hsz : W0.heap.size = N + 5 := by rw [hW0]; simp [hN]
  have hJ0 : BJ w1 rs st.ws s sp N [] W0 := by
    have hb : Below w1.heap.size w1 W0 := by rw [hW0]; exact (((((Grown.refl w1).alloc _).alloc _).alloc _).alloc _).alloc _ |>.below
    refine ⟨hb, ?_, ?_, ?_, ?_, fun _ => none, ?_, fun k v e => by cases e⟩
    · rw [hW0, ← hN]; exact ((((Boxed.new _ _ _).alloc _).alloc _).alloc _).alloc _
    · rw [hW0, ← hN]
      have := (((Boxed.new ((w1.alloc (.cells #[.pointer (some ⟨sp, 0, none⟩)] 76)).alloc (.map #[] 0)) 42 (.map (some (w1.heap.size + 1)))).alloc (.cells #[.int .i64 0] 3)).alloc (.cells #[.string s] 9))
      simpa using this
    · rw [hW0, ← hN]
      have := ((Boxed.new (((w1.alloc (.cells #[.pointer (some ⟨sp, 0, none⟩)] 76)).alloc (.map #[] 0)).alloc (.cells #[.map (some (w1.heap.size + 1))] 42)) 3 (.int .i64 0)).alloc (.cells #[.string s] 9))
      simpa [vals, sumW] using this
    · rw [hW0, ← hN]
      have := Boxed.new ((((w1.alloc (.cells #[.pointer (some ⟨sp, 0, none⟩)] 76)).alloc (.map #[] 0)).alloc (.cells #[.map (some (w1.heap.size + 1))] 42)).alloc (.cells #[.int .i64 0] 3)) 9 (.string s)
      simpa using this
    · have h1 := IMap.made (w1.alloc (.cells #[.pointer (some ⟨sp, 0, none⟩)] 76))
      have h2 : Grown ((w1.alloc (.cells #[.pointer (some ⟨sp, 0, none⟩)] 76)).alloc (.map #[] 0)) W0 := by rw [hW0]; exact (((Grown.refl _).alloc _).alloc _).alloc _
      have h3 := h1.kept (W' := W0) (fun o ho => (h2.below.block _ (Array.getElem?_eq_some_iff.1 ho).1).trans ho)
      simpa [hN] using h3
  have HSc : Hid (∀ W, Below w1.heap.size w1 W → ∃ B', Sca W B' sp (.slice ra rs.length rc) rs st) := fun W hb => by
    obtain ⟨w0', a1, a2, a3, a4, a5, a6, a7, a8, a9, a10, a11⟩ := hS
    exact ⟨_, w0', a1, a2, a3, a4, a5, a6, a7, a8, a9, a10.below hb, a11⟩
  have HKok : Hid (Kok rs) := kok_of (wgh_some hst).2 (wgh_some hst).1
  have HWB : Hid (∀ i, i < rs.length → 1 ≤ at0 st.ws i ∧ at0 st.ws i ≤ 64) := by
    obtain ⟨w0', a1, a2, a3, a4, a5, a6, a7, a8, a9, a10, a11⟩ := hS
    exact fun i hi => a11.wb i (by rw [csI_len]; exact hi)
  have HTW : Hid (∀ W, Below w1.heap.size w1 W → Tab W) := fun W hb => (HT.out.below hB1 HT.out.pos).below hb (Nat.lt_of_lt_of_le HT.out.pos hB1.size)
  have HB1 : Hid (Below w.heap.size w w1) := hB1
  rw [show (((((w1.alloc (.cells #[.pointer (some ⟨sp, 0, none⟩)] 76)).alloc (.map #[] 0)).alloc (.cells #[.map (some (w1.heap.size + 1))] 42)).alloc (.cells #[.int .i64 0] 3)).alloc (.cells #[.string s] 9)) = W0 from hW0.symm]
  rw [hN]
  clear hW0 hS hB1 HC hmm hT
  refine wpIn_rangeFunc_ownG rfl (by omega) (gf := 59) (lb := #[.pointer (some ⟨N + 1 + 1 + 1 + 1, 0, none⟩)]) rfl trivial (enters_of Tryd.func59 (by kernel_rfl) rfl)
    (all_stops 4 (by omega) (N + 1 + 1 + 1 + 1) s (by unfold maxLen; omega) _ (by rw [hsz]; omega) hJ0.tx.cell) kpA_t kpA_b (Below.refl _ _) (fun _ => rfl)
    (BJ w1 rs st.ws s sp N)
    (fun _ _ _ => False)
    (BJ_own w1 rs st.ws s sp N _ hN (by rw [hsz]; exact Nat.le_refl _))
    (fun _ _ _ _ _ hs _ _ => hs)
    hJ0
    (fun x => { tmps := #[.agg #[.slice ra rs.length rc], .string s, .pointer (some ⟨w.heap.size, 0, none⟩), undef, .int .i64 0, .pointer (some ⟨N, 0, none⟩), .int .i64 0, .int .i64 0, .pointer (some ⟨N + 1 + 1, 0, none⟩), .pointer (some ⟨N + 1 + 1 + 1, 0, none⟩), undef, .int .i64 x.1.2, .tuple #[.pointer (some ⟨sp, 0, none⟩), .int .i64 0, .int .i64 0], .agg #[.slice ra rs.length rc], .tuple #[.pointer (some ⟨sp, 0, none⟩), .int .i64 0, .int .i64 0], .pointer (some ⟨sp, 0, none⟩), .int .i64 0, .int .i64 0, .int .i64 0, .bool false, .map (some (N + 1)), .string s, .func (.func 59) #[] #[.pointer (some ⟨N + 1 + 1 + 1 + 1, 0, none⟩)], .int .i64 x.1.1, .int .i64 x.1.2, undef, undef, undef, undef, undef, undef, undef, undef, undef, undef, undef, undef, undef, undef, undef], defers := [] }) ?assign ?body ?done ?stop
  case assign =>
    intro l x W K hK
    gi_wp2
    exact hK
  case body =>
    rintro l pre x W hJ hlt
    obtain ⟨u, hu⟩ : ∃ u : Nat, x.1.2 = u := ⟨_, rfl⟩
    have hux : u < 1114368 := by rw [← hu]; exact x.2.2
    have huI : InI (u : Int) := ⟨by omega, by omega⟩
    have hu0 : (0 : Int) ≤ (u : Int) := by omega
    obtain ⟨wg, hwg⟩ : ∃ wg, wgtK rs st.ws (u : Int) rs.length = wg := ⟨_, rfl⟩
    have hwb := wgtK_bound (u := (u : Int)) HWB.out rs.length (Nat.le_refl _)
    rw [hwg] at hwb
    have hsb := sumW_bound HWB.out (vals pre)
    have hpl : (vals pre).length = pre.length := by simp [vals]
    have HSN : Hid (sumW rs st.ws (vals (pre ++ [x])) = sumW rs st.ws (vals pre) + wg) := by
      show _ = _
      rw [vals_snoc, sumW_snoc, hu, hwg]
    obtain ⟨sm, hsm⟩ : ∃ sm, sumW rs st.ws (vals pre) = sm := ⟨_, rfl⟩
    have hsmb : 0 ≤ sm ∧ sm ≤ 9007199254740992 := by rw [← hsm]; rw [hpl] at hsb; omega
    have HSM : Hid (sumW rs st.ws (vals pre) = sm) := hsm
    rw [hsm] at HSN
    obtain ⟨f, hI, hF⟩ := hJ.mp
    have HJ : Hid (BJ w1 rs st.ws s sp N pre W) := hJ
    have cn := hJ.on.cell
    have ck := hJ.kn.cell
    have cs := hJ.su.cell
    rw [hsm] at cs
    have z0 := zero3 W
    have hlk := hI.look (t := 42) (e := 3) Tryd.underlying42 (zero3 W) huI
    have hfs : W.frozen? ⟨N + 1 + 1 + 1, 0, none⟩ = false := free_of hJ.su
    have hpre : pre.length < 9007199254740992 := by omega
    have HPL : Hid (pre.length < 9007199254740992) := hpre
    have hWs : N + 5 ≤ W.heap.size := by
      have := Array.getElem?_eq_some_iff.1 hJ.tx
      exact this.1
    clear hJ hsb hpl hsm z0 hJ0
    simp only [hu]
    cases hf : f (u : Int) with
    | some v =>
      have hv := hF _ _ hf
      rw [hwg] at hv
      rw [hf, hv] at hlk
      simp only [Option.getD_some] at hlk
      have hne : (wg == 0) = false := by simp; omega
      have HFin : Hid (KeepsFrom W0.heap.size W (W.setCell ⟨N + 1 + 1 + 1, 0, none⟩ (.int .i64 (sm + wg))) ∧ KpA (N + 1 + 1 + 1 + 1) W (W.setCell ⟨N + 1 + 1 + 1, 0, none⟩ (.int .i64 (sm + wg))) ∧ BJ w1 rs st.ws s sp N (pre ++ [x]) (W.setCell ⟨N + 1 + 1 + 1, 0, none⟩ (.int .i64 (sm + wg)))) := by
        have h9 := HJ.out.add (x := x) HN.out (W9 := W) (sm := sm) (wg := wg) ⟨Nat.le_refl _, fun _ _ _ _ => rfl⟩ HJ.out.b rfl (hI.mono (Nat.le_succ _)) hF HSN.out
        have hk := h9.2.keeps (B := W0.heap.size) (by rw [hsz]; exact Nat.le_refl _) hI.isMap ⟨_, _, _, HJ.out.su⟩
        exact ⟨hk.1, hk.2, h9.1⟩
      clear hF hf hI
      gi_wp2
      exact HFin.out
    | none =>
      rw [hf] at hlk
      simp only [Option.getD_none] at hlk
      have HWT : Hid (∀ W', Grown W W' → Calls Tryd.prog 36 #[.pointer (some ⟨sp, 0, none⟩), .int .i64 u] W' fun e w'' => e = .returned (.int .i64 wg) ∧ Grown W' w'') := fun W' hg => by
        have hb : Below w1.heap.size w1 W' := HJ.out.b.trans (hg.below.mono HJ.out.b.size)
        obtain ⟨B', hSc⟩ := HSc.out W' hb
        rw [← hwg]
        exact weight_any _ rs st W' B' sp u (HTW.out W' hb) hSc HKok.out
      have HST : Hid (∀ W', Grown W W' → ∃ W9, (Instr.mapUpdate 42 (.map (some (N + 1))) (.int .i64 u) (.int .i64 wg)).run Tryd.prog W' = .ok () W9 ∧ (Instr.lookup 42 (.map (some (N + 1))) (.int .i64 u) false).run Tryd.prog W9 = .ok (.int .i64 wg) W9 ∧ W9.cell? ⟨N + 1 + 1, 0, none⟩ = some (.map (some (N + 1))) ∧ W9.cell? ⟨N + 1 + 1 + 1, 0, none⟩ = some (.int .i64 sm) ∧ W9.frozen? ⟨N + 1 + 1 + 1, 0, none⟩ = false ∧ KeepsFrom W0.heap.size W (W9.setCell ⟨N + 1 + 1 + 1, 0, none⟩ (.int .i64 (sm + wg))) ∧ KpA (N + 1 + 1 + 1 + 1) W (W9.setCell ⟨N + 1 + 1 + 1, 0, none⟩ (.int .i64 (sm + wg))) ∧ BJ w1 rs st.ws s sp N (pre ++ [x]) (W9.setCell ⟨N + 1 + 1 + 1, 0, none⟩ (.int .i64 (sm + wg)))) := fun W' hg => by
        have hIW : IMap W' (N + 1) pre.length f := hI.kept (fun o ho => (hg.below.block _ (Array.getElem?_eq_some_iff.1 ho).1).trans ho)
        obtain ⟨W9, hrun, hI9, ht9⟩ := hIW.store (by have := HPL.out; omega) Tryd.underlying42 huI (.int .i64 wg)
        have hk9 : ∀ k, k < W.heap.size → k ≠ N + 1 → W9.heap[k]? = W.heap[k]? := fun k hk h1 => (turned_other ht9 h1).trans (hg.below.block k hk)
        have hTwo : Two N W W9 := ⟨by rw [turned_size ht9]; exact hg.size, fun k hk h1 _ => hk9 k hk h1⟩
        have hsu := hk9 (N + 1 + 1 + 1) (Array.getElem?_eq_some_iff.1 HJ.out.su).1 (by omega)
        have hkn := hk9 (N + 1 + 1) (Array.getElem?_eq_some_iff.1 HJ.out.kn).1 (by omega)
        have hb9 : Below w1.heap.size w1 W9 := (HJ.out.b.trans (hg.below.mono HJ.out.b.size)).trans ((turned_below ht9 (Nat.le_refl _)).mono (by have := HN.out; omega))
        have hF9 : FOk rs st.ws (updM f (u : Int) (.int .i64 wg)) := fun k v e => by
          unfold updM at e
          by_cases ek : k = (u : Int)
          · rw [if_pos ek] at e; cases e; rw [ek, hwg]
          · rw [if_neg ek] at e; exact hF k v e
        have h9 := HJ.out.add (x := x) HN.out (W9 := W9) (sm := sm) (wg := wg) hTwo hb9 hsu hI9 hF9 HSN.out
        have hk := h9.2.keeps (B := W0.heap.size) (by rw [hsz]; exact Nat.le_refl _) hI.isMap ⟨_, _, _, HJ.out.su⟩
        refine ⟨W9, hrun, ?_, ?_, ?_, ?_, hk.1, hk.2, h9.1⟩
        · have := hI9.look (t := 42) (e := 3) Tryd.underlying42 (zero3 W9) huI
          rw [this]
          simp [updM]
        · rw [cell_same hkn]; exact HJ.out.kn.cell
        · rw [cell_same hsu, HJ.out.su.cell, HSM.out]
        · have h1 : W9.heap[N + 1 + 1 + 1]? = some (.cells #[.int .i64 (sumW rs st.ws (vals pre))] 3 (0, 0)) := hsu.trans HJ.out.su
          exact free_of h1
      clear hF hf hI hwg
      gi_wp2_with fail
      gi_region_with (refine ⟨trivial, ?_⟩; gi_at_call 36; refine (CallsIn.inRound l (callsIn_wide.2 (HWT.out _ (Grown.refl W).drew))).mono ?_; rintro e w2 ⟨rfl, hg2⟩; obtain ⟨W9, t1, t2, t3, t4, t5, t6⟩ := HST.out w2 ((Grown.refl W).drew.trans hg2); have HT6 : Hid (KeepsFrom W0.heap.size W (W9.setCell ⟨N + 1 + 1 + 1, 0, none⟩ (.int .i64 (sm + wg))) ∧ KpA (N + 1 + 1 + 1 + 1) W (W9.setCell ⟨N + 1 + 1 + 1, 0, none⟩ (.int .i64 (sm + wg))) ∧ BJ w1 rs st.ws s sp N (pre ++ [x]) (W9.setCell ⟨N + 1 + 1 + 1, 0, none⟩ (.int .i64 (sm + wg)))) := t6; clear t6; have ck2 := hg2.cellv (v := .map (some (N + 1))) ck; clear hg2)
      all_goals (gi_wp2; exact HT6.out)
  case done =>
    as_aux_lemma =>
      rintro D ys W hD hys hJ hK
      have HV : Hid (vals ys = units s) := hys
      clear hJ0 hys
      have c1 := hJ.su.cell
      gi_wp2
      refine ⟨by simp, .inl ⟨_, _, rfl, run_takeDeferred hK, ?_⟩⟩
      refine ⟨_, results_tmp rfl _ _ _, by rw [← HV.out]; rfl, ?_⟩
      have hb : Below w.heap.size w W := HB1.out.trans (hJ.b.mono HB1.out.size)
      exact hb.trans (belowK_b (w := w) (Nat.le_refl _) W D _ _ (by have := HB1.out.size; have := HN.out; rw [hsz] at hD; omega) hK rfl rfl)
  case stop =>
    rintro D c pre W _ _ h _
    exact h.elim
end Go.Proofs
