/-
  A table is filled.
-/
import Derived.RangeFuncNested
import Derived.RangeFuncBound
import Derived.RangeFuncCalls
import Derived.RangeFuncLeaves
import Derived.Shelf.Abstract
import Derived.Shelf.RegionOpen
import Derived.WalkKit
import Derived.WalkSpells
import Derived.WalkLawsBesides
import Derived.OwnWalkIn
import Derived.TacticsInMore
import Derived.LoopNIn
import Derived.LoopIn
import Derived.BigQuiet
import Derived.RegionIn
import Derived.Deep.QuietTactic
import Derived.Deep.RegionWith
import Derived.Lib.OthersKept
import Derived.Maps.AppendAt
import Derived.Lib.SmallJoins
import Derived.Shelf.SlSortCmp.QuietGrown
import Derived.Deep.DeepCutAuto
import Derived.Test.YtjjkomaokgmkhaaDoorLin
import Derived.Test.YtjjkomaokgmkhaaDoorLkn
namespace Go.Proofs
open Go.RowKit Go.Shelf

set_option maxRecDepth 100000
attribute [local go_sem] Oper.semAt_some
attribute [local go_sem ↓] Go.wp_at_zero Go.wp_at_succ

/-- behind a fill -/
def FilQ (w : World) (base B n : Nat) (all : List (Int × Int)) (W : World) : Prop := ∃ LL L0 s, Fit LL L0 (n + 1) ∧ FI LL L0 all s ∧ Tbl W base B n s LL.length ∧ Fr w W (fun k => k = B) ∧ s.st.length ≤ 10000 ∧ s.wh.length ≤ 10000 ∧ LL.length ≤ 10002 ∧ s.ps.length ≤ 1000000000
/-- where the loop stands -/
def FilR (w : World) (base B n : Nat) (T M2 hi : Nat) (LL : List Nat) (L0 : Nat) (all : List (Int × Int)) (i : Nat) (W : World) : Prop :=
  ∃ s sv bv pv wv sps qv rv uv M b0 ups ts, FLI w W base B T M2 hi n s s.wh sv bv pv wv sps qv rv uv M b0 ups ts ∧ FI LL L0 (all.take i) s ∧ (∀ y ∈ s.st, ∀ z ∈ all.drop i, y < z.1) ∧ s.ps.length ≤ 1 + i * hi ∧ s.st.length ≤ i ∧ s.wh.length ≤ i
/-- the beginning -/
theorem fil_start {w w1 w2 : World} {base B n : Nat} (h : TT w base B (.slice none 0 0) (.slice none 0 0) (.slice none 0 0) (.slice none 0 0) (.slice none 0 0) n 0 [] [] [] []) {T M hi L0 : Nat} {qv rv : Value} {rows : List (Nat × List Nat)} {up : List (List Nat)} (all : List (Int × Int)) (htl : TL w1 w.heap.size T qv rv (.slice none 0 0) hi M [(0, 0)] rows []) (hr : rows.map Prod.snd = List.replicate L0 0 :: up) (hhi : hi + 1 = rows.length) (hz : ∀ r ∈ up, r = List.replicate r.length 0) (hfit : Fit (up.map List.length) L0 (n + 1)) (hbel : Below w.heap.size w w1)
    (hgm : GMap 70 ok1 (fun n => .int .u64 (n : Int)) w2 w1.heap.size 1 (atF [])) (htu : (w1.alloc (.map #[] 0)).mapTurned w2 w1.heap.size) : FilR w base B n T w1.heap.size hi (up.map List.length) L0 all 0 w2 := by
  obtain ⟨x0, ups, rfl⟩ : ∃ x u, rows = x :: u := by
    cases rows with
    | nil => simp at hr
    | cons x u => exact ⟨x, u, rfl⟩
  obtain ⟨b0, r0⟩ := x0
  simp only [List.map_cons, List.cons.injEq] at hr
  obtain ⟨rfl, hr2⟩ := hr
  have f1 : Fr w w1 (fun _ => False) := fr_below hbel (Nat.le_refl _) _
  have f2 : Fr w1 w2 (fun k => k = w1.heap.size) := (fr_grown ((Grown.refl w1).alloc (.map #[] 0)) _).trans (turned_fr htu) fun _ _ e => e
  have hsz := hbel.size
  have hup : Chn [(0, 0)] (List.replicate L0 0) up := by
    obtain ⟨_, _, up', u1, u2, _⟩ := hfit
    have := rows_eq (chn_zero u2) hz u1
    rw [← this]; exact u2
  have ne1 : ∀ k, TLB T qv rv (.slice none 0 0) M ((b0, List.replicate L0 0) :: ups) k → k ≠ w1.heap.size := fun k hk => by have := (htl.low hk).2; omega
  have hB := blk_lt h.blk
  have lo : ∀ k, TTB B (.slice none 0 0) (.slice none 0 0) (.slice none 0 0) (.slice none 0 0) ([] : List (Value × List (Int × Int))) k → k = B := fun k hk => by
    rcases hk with hk | hk | hk | hk | hk | ⟨x, hx, _⟩
    · exact hk
    · simp [Value.ownBlock] at hk
    · simp [Value.ownBlock] at hk
    · simp [Value.ownBlock] at hk
    · simp [Value.ownBlock] at hk
    · simp at hx
  refine ⟨fs0 L0 up, .slice none 0 0, .slice none 0 0, .slice none 0 0, .slice none 0 0, [], qv, rv, .slice none 0 0, M, b0, ups, [], ⟨?_, rfl, ?_, hr2, hgm, fun k hk => .inl (lo k hk), hsz, fun k hk hb => ?_, fun hk => ?_, fun hk => ne1 _ hk rfl, ?_⟩, fs0_FI rfl hup, fun y hy => by simp [fs0] at hy, by simp [fs0], by simp [fs0], by simp [fs0]⟩
  · exact (h.fr f1 fun _ _ e => e).fr f2 fun k hk e => by have := lo k hk; have e : k = w1.heap.size := e; omega
  · exact htl.fr f2 fun k hk e => ne1 k hk e
  · have := (htl.low hb).1; have := lo k hk; omega
  · have := lo _ hk; omega
  · exact (f1.mono fun _ _ e => e.elim).trans f2 fun i hi e => by have e : i = w1.heap.size := e; omega
/-- the end: the marks are handed over -/
theorem fil_end {w W : World} {base B T M2 hi n : Nat} {s : FS} {mw : List Nat} {sv bv pv wv : Value} {sps : List (Value × List (Int × Int))} {qv rv uv : Value} {M b0 : Nat} {ups : List (Nat × List Nat)} {ts : List Int} (h : FLI w W base B T M2 hi n s mw sv bv pv wv sps qv rv uv M b0 ups ts) (hbw : base ≤ w.heap.size) {LL : List Nat} {L0 : Nat} {all : List (Int × Int)} (hfi : FI LL L0 all s) (hF : FSh LL L0 n hi) (hs1 : s.st.length ≤ 10000) (hs2 : s.wh.length ≤ 10000) (hs3 : s.ps.length ≤ 1000000000) : FilQ w base B n all ((W.setCell ⟨B, 5, none⟩ qv).setCell ⟨B, 6, none⟩ (.int .i64 (hi : Int))) := by
  have f1 : Fr W ((W.setCell ⟨B, 5, none⟩ qv).setCell ⟨B, 6, none⟩ (.int .i64 (hi : Int))) (fun k => k = B) := (fr_set _ _ _ _).trans (fr_set _ _ _ _) fun _ _ e => e
  have hbk : ((W.setCell ⟨B, 5, none⟩ qv).setCell ⟨B, 6, none⟩ (.int .i64 (hi : Int))).heap[B]? = some (.cells #[.int .i64 (n : Int), sv, bv, pv, wv, qv, .int .i64 (hi : Int)] 53 (0, 0)) := (set_heap (set_heap h.at')).trans rfl
  have no : ∀ {e size m : Nat} {v : Value} {xs : List Value}, W.ownsRow base e size v m xs → e ≠ 53 → ((W.setCell ⟨B, 5, none⟩ qv).setCell ⟨B, 6, none⟩ (.int .i64 (hi : Int))).ownsRow base e size v m xs := fun ho hne => own_fr ho f1 fun b hb e => own_not ho h.at' (fun e2 => hne e2.symm) (by rw [← (show b = B from e)]; exact hb)
  refine ⟨LL, L0, s, hF.1, hfi, ⟨sv, bv, pv, wv, qv, sps, ⟨h.tt.tb, by rw [hF.2.1]; exact hbk, no h.tt.s (by decide), no h.tt.b (by decide), no h.tt.p (by decide), fun x hx => no (h.tt.r x hx) (by decide), h.tt.nd, no h.tt.wo (by decide), h.tt.sb⟩, h.sp, ?_⟩, h.fr.trans f1 (fun _ _ e => e), hs1, hs2, by rw [hF.2.1]; exact hF.2.2.2.2, hs3⟩
  have hq : W.ownsRow base 93 2 qv s.ps.length (pcs s.ps) := by
    have hp := h.tl.pr
    refine ⟨hp.1, hp.2.imp id ?_⟩
    rintro ⟨g, cap, cur, e1, e2, e3⟩
    exact ⟨g, cap, cur, e1, by omega, e3⟩
  exact no hq (by decide)
/-- a round is done -/
theorem fil_next {w w5 : World} {base B T M2 hi n : Nat} {s : FS} {s' : FS} {pv wv : Value} {qv rv uv : Value} {M b0 : Nat} {ups : List (Nat × List Nat)} {ts : List Int} {LL : List Nat} {L0 i j an : Nat} {all R : List (Int × Int)} {x : Int × Int} {l G : List (Int × Int)} {at' : Int}
    (h : ∃ sv' bv' sps', FLI w w5 base B T M2 hi n s' s'.wh sv' bv' pv wv sps' qv rv uv M b0 ups ts) (hs : fstep s at' (setsN G) = s') (hst : FI LL L0 (all.take i ++ G) (fstep s at' (setsN G)) ∧ (∀ y ∈ (fstep s at' (setsN G)).st, ∀ z ∈ (x :: l).drop G.length, y < z.1) ∧ (all.take i ++ G) ++ (x :: l).drop G.length = R ∧ (fstep s at' (setsN G)).ps.length ≤ s.ps.length + LL.length * G.length)
    (htk : all.take (i + j) = all.take i ++ G ∧ all.drop (i + j) = (x :: l).drop G.length) (hps : s.ps.length ≤ 1 + i * hi ∧ s.st.length ≤ i ∧ s.wh.length ≤ i ∧ G.length = j ∧ i + j ≤ an) (hj : 1 ≤ j) (hLL : LL.length = hi) : FilR w base B n T M2 hi LL L0 all (i + j) w5 := by
  obtain ⟨sv', bv', sps', h⟩ := h
  obtain ⟨p1, p2, p3, p4, p5⟩ := hps
  obtain ⟨t1, t2⟩ := htk
  obtain ⟨q1, q2, _, q4⟩ := hst
  rw [hs] at q1 q2 q4
  have e1 : s'.st = s.st ++ [at'] := by rw [← hs]; rfl
  have e2 : s'.wh = addW s.wh (topOf (flipU s (setsN G)).2) := by rw [← hs]; rfl
  refine ⟨s', sv', bv', pv, wv, sps', qv, rv, uv, M, b0, ups, ts, h, by rw [t1]; exact q1, by rw [t2]; exact q2, ?_, ?_, ?_⟩
  · rw [hLL, p4] at q4
    rw [Nat.add_mul, Nat.mul_comm j hi]
    omega
  · rw [e1]; simp; omega
  · rw [e2]
    unfold addW
    split
    · omega
    · simp; omega
set_option maxHeartbeats 8000000 in
theorem fill_any {w : World} {base B n : Nat} (h : TT w base B (.slice none 0 0) (.slice none 0 0) (.slice none 0 0) (.slice none 0 0) (.slice none 0 0) n 0 [] [] [] []) {g o cap an : Nat} {all : List (Int × Int)} (han : all.length = an) (hne : 0 < an) (hrd : Reads w g o all) (hcap : an ≤ cap) (hgB : g ≠ B) (hp : all.Pairwise ltT) (hat : ∀ x ∈ all, (0 ≤ x.1 ∧ x.1 ≤ 1114368) ∧ ∃ i : Nat, x.2 = i ∧ i ≤ n) (hl : an ≤ 10000) (hn : n ≤ 10000) :
    Calls Tryd.prog 23 #[.pointer (some ⟨B, 0, none⟩), .slice (some ⟨g, o, none⟩) an cap] w fun e w' => e = .returned (.tuple #[]) ∧ Hid (FilQ w base B n all w') := by
  have c0 : w.cell? ⟨B, 0, none⟩ = some (.int .i64 (n : Int)) := heap_cellv h.blk rfl
  have hnI : (n : Int) ≤ 10000 := by omega
  have HNT : Hid (∀ x : Int, x = (n : Int) + 1 → Calls Tryd.prog 35 #[.int .i64 x] w _) := fun x hx => by
    have := newTally_any (n + 1) (by omega) (by omega) w
    rw [show ((n + 1 : Nat) : Int) = x by omega] at this
    exact this
  have hmm := @run_makeMap Tryd.prog
  have HH := Hid.mk' h
  have HA : Hid (all.length = an ∧ Reads w g o all ∧ all.Pairwise ltT ∧ (∀ x ∈ all, (0 ≤ x.1 ∧ x.1 ≤ 1114368) ∧ ∃ i : Nat, x.2 = i ∧ i ≤ n) ∧ g < w.heap.size ∧ g ≠ B) := ⟨han, hrd, hp, hat, hrd.lt (fun e => by rw [e] at han; simp at han; omega), hgB⟩
  have hBs := blk_lt h.blk
  clear h han hrd hp hat
  go_enter Tryd.func23, Tryd.ntmps23
  go_wp2_with (go_at_call 35; refine (HNT.out _ rfl).mono ?_; rintro e w1 ⟨T, qv, rv, hi, M, rows, L0, up, rfl, hq⟩; have HQ := Hid.mk' hq; obtain ⟨w2, hst, hgm, htu⟩ := (GMap.made (kt := 70) (ok := ok1) (kl := fun n => .int .u64 (n : Int)) w1).store kz70 (by decide) (t := 75) (e := 3) Tryd.underlying75 (k := 0) (show (0 : Nat) < 18446744073709551616 by decide) (.int .i64 (-1)); have hst2 : (Instr.mapUpdate 75 (.map (some w1.heap.size)) (.int .u64 0) (.int .i64 (-1))).run Tryd.prog (w1.alloc (.map #[] 0)) = .ok () w2 := hst; have HM := Hid.mk' (And.intro hgm htu); clear hst hgm htu hq)

  obtain ⟨htl, hr, hhi, hz, htop, hfit, hrl, hrn, hbel⟩ := HQ.out
  have H0 := Hid.mk' (fil_start HH.out all htl hr hhi hz hfit hbel (atF_zero ▸ HM.out.1) HM.out.2)
  obtain ⟨LL, hLL⟩ : ∃ LL, up.map List.length = LL := ⟨_, rfl⟩
  rw [hLL] at H0 hfit
  have HF : Hid (FSh LL L0 n hi) := by
    refine ⟨hfit, ?_, fun y hy => ?_, ?_, by omega⟩
    · have := congrArg List.length hr
      simp at this
      rw [← hLL, List.length_map]; omega
    · rw [← hLL] at hy
      obtain ⟨r, hr2, rfl⟩ := List.mem_map.1 hy
      have : r ∈ rows.map Prod.snd := by rw [hr]; exact List.mem_cons_of_mem _ hr2
      obtain ⟨x, hx, rfl⟩ := List.mem_map.1 this
      have := hrl x hx; omega
    · have : List.replicate L0 0 ∈ rows.map Prod.snd := by rw [hr]; exact List.mem_cons_self
      obtain ⟨x, hx, e⟩ := List.mem_map.1 this
      have := hrl x hx
      rw [e] at this
      simp at this; omega
  have hhi2 : hi ≤ 10002 := by omega
  obtain ⟨M2, hM2⟩ : ∃ M2, w1.heap.size = M2 := ⟨_, rfl⟩
  rw [hM2] at H0 ⊢
  clear htl hr hhi hz htop hfit hrl hrn hbel HQ HM hst2 hmm hLL hM2 c0
  go_loopg [1] an (fun k s1 wr => ∃ i off : Nat, s1 = .slice (some ⟨g, off, none⟩) (an - i) (cap - i) ∧ (i < an → off = o + i * 2) ∧ i ≤ an ∧ an - i ≤ k ∧ Hid (FilR w base B n T M2 hi LL L0 all i wr))
  case atStart => exact ⟨0, o, by simp, fun _ => by omega, by omega, by omega, H0⟩
  case round =>
    obtain ⟨i, off, rfl, hoff, hi1, hi2, HR⟩ := hrel
    clear H0
    obtain ⟨wo, hwo⟩ : ∃ wo, wo = wr := ⟨_, rfl⟩
    subst hwo
    obtain ⟨s, sv, bv, pv, wv, sps, qv, rv, uv, M, b0, ups, ts, hfl, hfi, hlt, hps, hsn, hwn⟩ := HR.out
    clear HR
    by_cases hia : i < an
    · have hoff := hoff hia
      subst hoff
      obtain ⟨a1, a2, a3, a4, a5, a6⟩ := HA.out
      have hdl : (all.drop i).length = an - i := by rw [List.length_drop, a1]
      have hrW := ((a2.off a5 hfl.fr a6).drop i)
      obtain ⟨x, l, hxl⟩ : ∃ x l, all.drop i = x :: l := by
        cases e : all.drop i with
        | nil => rw [e] at hdl; simp at hdl; omega
        | cons x l => exact ⟨x, l, rfl⟩
      rw [hxl] at hdl hrW hlt
      obtain ⟨g1, g2, g3, g4, g5⟩ := grp_len x l
      obtain ⟨gl, hgl⟩ : ∃ gl, (grp x.1 (x :: l)).length = gl := ⟨_, rfl⟩
      rw [hgl] at g1 g2 g3 g4 g5
      obtain ⟨at', hat'⟩ : ∃ at', x.1 = at' := ⟨_, rfl⟩
      have hx0 : (0 ≤ at' ∧ at' ≤ 1114368) := by rw [← hat']; exact (a4 x (List.mem_of_mem_drop (by rw [hxl]; simp))).1
      obtain ⟨rn, hrn⟩ : ∃ rn, an - i = rn := ⟨_, rfl⟩
      obtain ⟨o', ho'⟩ : ∃ o', o + i * 2 = o' := ⟨_, rfl⟩
      obtain ⟨rc, hrc⟩ : ∃ rc, cap - i = rc := ⟨_, rfl⟩
      have HIX : Hid (an - i = rn ∧ o + i * 2 = o' ∧ cap - i = rc) := ⟨hrn, ho', hrc⟩
      have hrc2 : rn ≤ rc := by omega
      rw [hrn] at hdl hi2
      rw [ho'] at hrW
      rw [hrn, ho', hrc]
      rw [hdl] at g2 g5
      have hr0 : 0 < rn := by omega
      have hr1 : (rn : Int) ≤ 10000 := by omega
      have c0 : wo.cell? ⟨g, o', none⟩ = some (.int .i64 at') := by have := (hrW 0 (by simp)).1; rw [← hat']; simpa [rg] using this
      have HC : Hid (∀ j, j < rn → wo.cell? ⟨g, o' + j * 2, none⟩ = some (.int .i64 (rg (x :: l) j).1)) := fun j hj => (hrW j (by omega)).1
      have HG : Hid ((∀ j, j < gl → (rg (x :: l) j).1 = at') ∧ (gl < rn → (rg (x :: l) gl).1 ≠ at')) := by rw [← hat']; exact ⟨g4, g5⟩
      have HS : Hid (FLI w wo base B T M2 hi n s s.wh sv bv pv wv sps qv rv uv M b0 ups ts ∧ FI LL L0 (all.take i) s ∧ (∀ y ∈ s.st, ∀ z ∈ x :: l, y < z.1) ∧ (s.ps.length ≤ 1 + i * hi ∧ s.st.length ≤ i ∧ s.wh.length ≤ i) ∧ all.drop i = x :: l ∧ (grp x.1 (x :: l)).length = gl ∧ (x :: l).take gl = grp x.1 (x :: l) ∧ x.1 = at' ∧ Reads wo g o' (x :: l) ∧ (x :: l).length = rn)   := ⟨hfl, hfi, hlt, ⟨hps, hsn, hwn⟩, hxl, hgl, g3, hat', hrW, hdl⟩
      clear hfl hfi hlt hps hsn hwn hxl hgl g3 hat' hrW hdl g4 g5 a1 a2 a3 a4 a5 a6 hrn ho' hrc
      go_wp2
      go_loopg [7] gl (fun k s7 wi => ∃ j : Nat, s7 = .int .i64 (j : Int) ∧ 1 ≤ j ∧ j ≤ gl ∧ gl - j ≤ k ∧ Hid (wi = wo))
      case atStart => exact ⟨1, rfl, by omega, by omega, by omega, rfl⟩
      case round =>
        obtain ⟨j, rfl, hj1, hj2, hj3, HW⟩ := hrel
        have hwe := HW.out
        subst hwe
        clear HW
        by_cases hjg : j < gl
        · have cj : wr.cell? ⟨g, o' + j * 2, none⟩ = some (.int .i64 at') := by have := HC.out j (by omega); rw [HG.out.1 j hjg] at this; exact this
          have hjI : (j : Int) < (rn : Int) := by omega
          go_wp2
          go_roundg (gl - (j + 1))
          case measure => omega
          case rel => exact ⟨j + 1, rfl, by omega, by omega, by omega, rfl⟩
        · have hje : j = gl := by omega
          subst hje
          have hjI : (j : Int) ≤ (rn : Int) := by omega
          go_upto_region 4 with fail
          go_cut [38] (fun s38 wc => s38 = .bool false ∧ Hid (wc = wr))
          case first =>
            by_cases hjr : j < rn
            · have cj := HC.out j hjr
              have hnz := HG.out.2 hjr
              generalize (rg (x :: l) j).1 = z at cj hnz
              have hjI2 : (j : Int) < (rn : Int) := by omega
              have HNZ : (decide (z = at')) = false := by simpa using hnz
              go_wp2
              go_meet
              case rel => exact ⟨by first | rfl | simp [hnz], rfl⟩
            · have hjI2 : ¬ (j : Int) < (rn : Int) := by omega
              go_wp2
              go_meet
              case rel => exact ⟨rfl, rfl⟩
          case rest =>
            obtain ⟨rfl, HW⟩ := hcut
            have hwe := HW.out
            subst hwe
            clear HW
            obtain ⟨hfl, hfi, hlt, ⟨hps, hsn, hwn⟩, hxl, hgl, hgt, hat', hrW, hdl⟩ := HS.out
            obtain ⟨wa, wc, hwv⟩ := own_len hfl.tt.wo
            obtain ⟨pa, pc, hpv⟩ := own_len hfl.tt.p
            obtain ⟨wn, hwn1⟩ : ∃ wn, s.wh.length = wn := ⟨_, rfl⟩
            obtain ⟨pn, hpn1⟩ : ∃ pn, sps.length = pn := ⟨_, rfl⟩
            rw [hwn1] at hwv
            rw [hpn1] at hpv
            subst hwv
            subst hpv
            have hwnI : wn ≤ 10000 := by omega
            have hpnI : pn ≤ 10000 := by have e1 := congrArg List.length hfl.sp; rw [List.length_map, hpn1, hfi.sl] at e1; omega
            have HPW : Hid (s.wh.length = wn ∧ sps.length = pn) := ⟨hwn1, hpn1⟩
            obtain ⟨a1, a2, a3, a4, a5, a6⟩ := HA.out
            obtain ⟨G, hG⟩ : ∃ G, grp x.1 (x :: l) = G := ⟨_, rfl⟩
            rw [hG] at hgl hgt
            have hGm : ∀ y ∈ G, y ∈ all := fun y hy => List.mem_of_mem_drop (i := i) (by rw [hxl]; rw [← hgt] at hy; exact List.mem_of_mem_take hy)
            have hij : i + j ≤ an := by have := HIX.out.1; omega
            have HFL := Hid.mk' (fil_flip hfl hfi HF.out (G := G) (fun y hy => (a4 y (hGm y hy)).2) hps (by omega) (by rw [← hgt]; exact hrW.take j) a5 (rc := rc) (j := j) (by omega) hgl)
            have hall : all.take i ++ x :: l = all := by rw [← hxl]; exact List.take_append_drop _ _
            have HST := Hid.mk' (fill_step HF.out.1.1 hfi (by rw [hall]; exact a3) (fun y hy => by
              obtain ⟨q, e, hq⟩ := (a4 y (List.mem_of_mem_drop (i := i) (by rw [hxl]; exact hy))).2
              have := HF.out.1.2.1
              rw [e, Int.toNat_natCast]; omega) hlt)
            rw [hG, hat'] at HST
            have HL1 : Hid ((flipU s (setsN G)).2.map List.length = LL) := HST.out.1.len
            obtain ⟨wt, hwt⟩ : ∃ wt, topOf (flipU s (setsN G)).2 = wt := ⟨_, rfl⟩
            have HWT := Hid.mk' hwt
            have HTK : Hid (all.take (i + j) = all.take i ++ G ∧ all.drop (i + j) = (x :: l).drop G.length) := by
              constructor
              · rw [List.take_add, hxl, hgt]
              · rw [← List.drop_drop, hxl, hgl]
            have hfs : fstep s at' (setsN G) = ⟨s.st ++ [at'], s.bg ++ [atm s.wh wt], endA s.st s.bg at' (addS s.wh wt s.sp), addW s.wh wt, (flipU s (setsN G)).1, flips s.r0 (setsN G), (flipU s (setsN G)).2⟩ := by
              rw [← hwt]; rfl
            have HFS := Hid.mk' hfs
            have HPS : Hid (s.ps.length ≤ 1 + i * hi ∧ s.st.length ≤ i ∧ s.wh.length ≤ i ∧ G.length = j ∧ i + j ≤ an) := ⟨hps, hsn, hwn, hgl, hij⟩
            have HSP : Hid ((∀ z ∈ s.sp, z.length ≤ 10000) ∧ s.sp.length ≤ i ∧ (∀ z, s.bg.getLast? = some z → z = -1 ∨ ∃ e : Nat, z = (e : Int) ∧ e < s.sp.length)) := by
              refine ⟨fun z hz => ?_, by rw [hfi.sl]; exact hwn, fun z hz => ?_⟩
              · obtain ⟨k, hk, rfl⟩ := List.getElem_of_mem hz
                have e := hfi.seg k (by rw [← hfi.sl]; exact hk)
                rw [List.getElem?_eq_getElem hk] at e
                injection e with e
                rw [e]
                have := segs_len k s.st s.bg
                omega
              · rw [List.getLast?_eq_getElem?] at hz
                rcases hfi.bgs hz with e | ⟨k, e1, e2⟩
                · exact .inl e
                · exact .inr ⟨k, e1, by rw [hfi.sl]; exact e2⟩
            have HBL := Hid.mk' hfi.bl
            have hi10 : i ≤ 10000 := by omega
            clear hfl hfi hlt hps hsn hwn hxl hgl hgt hat' hrW hdl a1 a2 a3 a4 a5 a6 hG hGm hall hwt hfs hwn1 hpn1
            by_cases hk : knw s.wh wt = true
            · have hat0 : atF s.wh wt = some (.int .i64 (atm s.wh wt)) := by unfold atF; rw [if_pos hk]
              have HFS2 : Hid (fstep s at' (setsN G) = ⟨s.st ++ [at'], s.bg ++ [atm s.wh wt], endA s.st s.bg at' s.sp, s.wh, (flipU s (setsN G)).1, flips s.r0 (setsN G), (flipU s (setsN G)).2⟩) := by
                have := HFS.out
                unfold addS addW at this
                rw [if_pos hk, if_pos hk] at this
                exact this
              obtain ⟨am, ham⟩ : ∃ am, atm s.wh wt = am := ⟨_, rfl⟩
              rw [ham] at hat0 HFS2
              have HAT := Hid.mk' hat0
              clear ham hk hat0 HFS
              go_wp2_with (first
                | (go_at_call 36
                   refine HFL.out.mono ?_
                   rintro e w3 ⟨rfl, hq⟩
                   obtain ⟨qv', uv', ups', ts', hf3⟩ := hq.out
                   have HW3 := Hid.mk' (fil_which hf3 HF.out HL1.out)
                   have HTP : Hid (wt < 18446744073709551616) := by have := fil_top hf3 HF.out HL1.out; rw [← HWT.out]; exact this
                   rw [show topOf (FS.mk s.st s.bg s.sp s.wh (flipU s (setsN G)).1 (flips s.r0 (setsN G)) (flipU s (setsN G)).2).up = wt from HWT.out] at HW3
                   have HF3 := Hid.mk' hf3
                   clear hq hf3)
                | (go_at_call 37
                   refine HW3.out.mono ?_
                   rintro e w4 ⟨rfl, hg⟩
                   have hf4 := HF3.out.grown hg
                   have hlk := fil_look hf4 (x := wt) HTP.out
                   rw [HAT.out] at hlk
                   simp only [Option.getD_some, Option.isSome_some] at hlk
                   have HB4 := Hid.mk' (fil_begin hf4 HBL.out (by have := HPS.out.2.1; show s.st.length ≤ _; omega) hx0 HSP.out.2.2 HSP.out.1 (by have := HSP.out.2.1; show s.sp.length ≤ _; omega) am)
                   clear hf4 hg)
                | (go_at_call 38
                   refine HB4.out.mono ?_
                   rintro e w5 ⟨rfl, hq⟩
                   have HF5 := hq
                   clear hq))
              all_goals
                have HNX := Hid.mk' (fil_next HF5.out HFS2.out HST.out HTK.out HPS.out hj1 HF.out.2.1)
                go_roundg (an - (i + j))
                case measure => (have := HIX.out.1; omega)
                case rel => exact ⟨i + j, _, by have := HIX.out; congr 1 <;> omega, fun hlt => by have := HIX.out; omega, HPS.out.2.2.2.2, by omega, HNX.out⟩
            · have hk : knw s.wh wt = false := by simpa using hk
              have hk2 : wt ≠ 0 ∧ wt ∉ s.wh := by
                have := hk
                simp only [knw, Bool.or_eq_false_iff, decide_eq_false_iff_not] at this
                exact this
              have hat0 : atF s.wh wt = none := by unfold atF; rw [hk]; rfl
              have HFS2 : Hid (fstep s at' (setsN G) = ⟨s.st ++ [at'], s.bg ++ [(wn : Int)], endA s.st s.bg at' (s.sp ++ [[]]), s.wh ++ [wt], (flipU s (setsN G)).1, flips s.r0 (setsN G), (flipU s (setsN G)).2⟩) := by
                have := HFS.out
                unfold addS addW atm at this
                rw [hk, if_neg hk2.1, List.idxOf_eq_length hk2.2, HPW.out.1] at this
                exact this
              have HAT := Hid.mk' hat0
              have HK := Hid.mk' hk
              clear hk hk2 hat0 HFS
              go_wp2_with (first
                | (go_at_call 36
                   refine HFL.out.mono ?_
                   rintro e w3 ⟨rfl, hq⟩
                   obtain ⟨qv', uv', ups', ts', hf3⟩ := hq.out
                   have HW3 := Hid.mk' (fil_which hf3 HF.out HL1.out)
                   have HTP : Hid (wt < 18446744073709551616) := by have := fil_top hf3 HF.out HL1.out; rw [← HWT.out]; exact this
                   rw [show topOf (FS.mk s.st s.bg s.sp s.wh (flipU s (setsN G)).1 (flips s.r0 (setsN G)) (flipU s (setsN G)).2).up = wt from HWT.out] at HW3
                   have HF3 := Hid.mk' hf3
                   clear hq hf3)
                | (go_at_call 37
                   refine HW3.out.mono ?_
                   rintro e w4 ⟨rfl, hg⟩
                   have hf4 := HF3.out.grown hg
                   have hlk := fil_look hf4 (x := wt) HTP.out
                   rw [HAT.out] at hlk
                   simp only [Option.getD_none, Option.isSome_none] at hlk
                   obtain ⟨w6, hmu, hf6⟩ := fil_put hf4 HTP.out HK.out (by have := HPW.out.1; omega)
                   rw [HPW.out.1] at hmu
                   have c4 : w4.cell? ⟨B, 4, none⟩ = some (.slice wa wn wc) := heap_cellv hf4.at' rfl
                   have c4' : w6.cell? ⟨B, 4, none⟩ = some (.slice wa wn wc) := heap_cellv hf6.at' rfl
                   have hB6 : base ≤ w6.heap.size := by have := hf6.tt.tb; have := blk_lt hf6.at'; omega
                   have HF6 := Hid.mk' hf6
                   clear hf4 hg hf6)
                | (at_builtin; go_must (first
                   | (refine push_W2 rfl _ _ 48 rfl Tryd.underlying48 base (.slice wa wn wc) s.wh rfl (HF6.out.grown ((Grown.refl _).alloc _)).tt.wo _ _ wt rfl (heap_alloc_new _ _) (by have := HPW.out.1; omega) (by simp; omega) ?_
                      intro v1 W2 h1 h2 h3
                      obtain ⟨e4, t1⟩ := (HF6.out.grown ((Grown.refl _).alloc _)).wh1 h2 h1 h3
                      have k1 : W2.cell? ⟨B, 4, none⟩ = some (.slice wa wn wc) := heap_cellv e4 rfl
                      have k1f : W2.frozen? ⟨B, 4, none⟩ = false := free_of e4
                      have k2 : W2.cell? ⟨B, 3, none⟩ = some (.slice pa pn pc) := heap_cellv e4 rfl
                      have HT1 := Hid.mk' t1
                      have hbz2 : base ≤ W2.heap.size := by have := t1.tt.tb; have := blk_lt e4; omega
                      obtain ⟨va1, vc1, hv1⟩ := own_len h1
                      obtain ⟨vn1, hvn1⟩ : ∃ vn1, (s.wh ++ [wt]).length = vn1 := ⟨_, rfl⟩
                      rw [show (FS.mk s.st s.bg s.sp s.wh (flipU s (setsN G)).1 (flips s.r0 (setsN G)) (flipU s (setsN G)).2).wh = s.wh from rfl, hvn1] at hv1
                      subst hv1
                      clear h1 h2 h3 e4 t1 hvn1 c4 c4')
                   | (refine push_N2 rfl _ _ 22 rfl Tryd.underlying22 base (.slice pa pn pc) sps rfl (HT1.out.grown ((Grown.refl _).alloc _)).tt.p _ _ rfl (by have := heap_alloc_new (W2.setCell ⟨B, 4, none⟩ (.slice va1 vn1 vc1)) (.cells #[.slice none 0 0] 27); simpa using this) (by have := HPW.out.2; omega) (by simp; omega) ?_
                      intro v2 W4 h1 h2 h3
                      obtain ⟨e4, t1⟩ := (HT1.out.grown ((Grown.refl _).alloc _)).sp0 h2 h1 h3
                      have k3 : W4.cell? ⟨B, 3, none⟩ = some (.slice pa pn pc) := heap_cellv e4 rfl
                      have k3f : W4.frozen? ⟨B, 3, none⟩ = false := free_of e4
                      obtain ⟨va2, vc2, hv2⟩ := own_len h1
                      obtain ⟨vn2, hvn2⟩ : ∃ vn2, (sps ++ [((.slice none 0 0 : Value), ([] : List (Int × Int)))]).length = vn2 := ⟨_, rfl⟩
                      rw [hvn2] at hv2
                      subst hv2
                      have HB4 := Hid.mk' (fil_begin t1 HBL.out (by have := HPS.out.2.1; show s.st.length ≤ _; omega) hx0 (fun z hz => by
                        rcases HSP.out.2.2 z hz with e | ⟨q, e1, e2⟩
                        · exact .inl e
                        · exact .inr ⟨q, e1, by simp; omega⟩) (fun z hz => by
                        rcases List.mem_append.1 hz with hz | hz
                        · exact HSP.out.1 z hz
                        · simp at hz; subst hz; simp) (by have := HSP.out.2.1; show (s.sp ++ [[]]).length ≤ _; simp; omega) (wn : Int))
                      clear h1 h2 h3 e4 t1 hvn2)))
                | (go_at_call 38
                   refine HB4.out.mono ?_
                   rintro e w5 ⟨rfl, hq⟩
                   have HF5 := hq
                   clear hq))
              all_goals
                have HNX := Hid.mk' (fil_next HF5.out HFS2.out HST.out HTK.out HPS.out hj1 HF.out.2.1)
                go_roundg (an - (i + j))
                case measure => (have := HIX.out.1; omega)
                case rel => exact ⟨i + j, _, by have := HIX.out; congr 1 <;> omega, fun hlt => by have := HIX.out; omega, HPS.out.2.2.2.2, by omega, HNX.out⟩
    · have hie : i = an := by omega
      subst hie
      have hz : i - i = 0 := by omega
      rw [hz]
      have cT0 : wo.cell? ⟨T, 0, none⟩ = some qv := heap_cellv hfl.tl.blk rfl
      have cT1 : wo.cell? ⟨T, 1, none⟩ = some (.int .i64 (hi : Int)) := heap_cellv hfl.tl.blk rfl
      have cB5 : wo.cell? ⟨B, 5, none⟩ = some (.slice none 0 0) := heap_cellv hfl.at' rfl
      have cB6 : wo.cell? ⟨B, 6, none⟩ = some (.int .i64 ((0 : Nat) : Int)) := heap_cellv hfl.at' rfl
      have fB5 : wo.frozen? ⟨B, 5, none⟩ = false := free_of hfl.at'
      have fB6 : wo.frozen? ⟨B, 6, none⟩ = false := free_of hfl.at'
      obtain ⟨qa, qc, hqv⟩ := own_len hfl.tl.pr
      obtain ⟨qn, hqn⟩ : ∃ qn, s.ps.length = qn := ⟨_, rfl⟩
      rw [hqn] at hqv
      subst hqv
      have HE := Hid.mk' (fil_end hfl (by have := HH.out.tb; have := blk_lt HH.out.blk; omega) (by rw [List.take_of_length_le (by have := HA.out.1; omega)] at hfi; exact hfi) HF.out (by omega) (by omega) (by have e1 : i * hi ≤ 10000 * 10002 := Nat.mul_le_mul hl hhi2; omega))
      clear hfl hfi hlt hps hsn hwn hqn hz
      go_wp2
      go_end0
      exact ⟨rfl, HE.out⟩
end Go.Proofs
