/-
  names: Passes.
-/
import Derived.Shelf.Abstract
import Derived.Shelf.RegionOpen
import Derived.WalkKit
import Derived.WalkSpells
import Derived.WalkLawsBesides
import Derived.OwnWalk
import Derived.BigQuiet
import Derived.Deep.QuietTactic
import Derived.Deep.LoopGhost
import Derived.Deep.RegionWith
import Derived.Deep.AppendLies
import Derived.Deep.DeepCutAuto
import Derived.Laws.EntriesVeiled
import Derived.Lib.OthersKept
import Derived.Maps.AppendAt
import Derived.Maps.OwnSet
import Derived.StringKeys
import Derived.WalkMore
import Derived.Lib.SmallJoins
import Derived.Test.YtbacejefgpaabaaDoorNq
namespace Go.Proofs
open Go.RowKit Go.Shelf

set_option maxRecDepth 100000
attribute [local go_sem] Oper.semAt_some

/-- a line in memory -/
def LnAt (W : World) (g o : Nat) (v : LV) : Prop :=
  W.cell? ⟨g, o, none⟩ = some (.int .i64 v.k) ∧ W.cell? ⟨g, o + 1, none⟩ = some (.int .i64 v.at') ∧ W.cell? ⟨g, o + 2, none⟩ = some (.string v.nm) ∧ W.cell? ⟨g, o + 3, none⟩ = some (.bool v.bg) ∧ W.cell? ⟨g, o + 4, none⟩ = some (.bool v.en) ∧ W.cell? ⟨g, o + 5, none⟩ = some (.slice v.A1 v.n1 v.c1) ∧ W.cell? ⟨g, o + 6, none⟩ = some (.slice v.A2 v.n2 v.c2) ∧ W.cell? ⟨g, o + 7, none⟩ = some (.slice v.A3 v.n3 v.c3) ∧ W.cell? ⟨g, o + 8, none⟩ = some (.slice v.A4 v.n4 v.c4) ∧ W.cell? ⟨g, o + 9, none⟩ = some (.int .i64 v.cu)
theorem LnAt.below {W W' : World} {n g o : Nat} {v : LV} (h : LnAt W g o v) (hb : Below n W W') (hg : g < n) : LnAt W' g o v := by
  obtain ⟨h0, h1, h2, h3, h4, h5, h6, h7, h8, h9⟩ := h
  exact ⟨(hb.cell (p := ⟨g, _, none⟩) hg).trans h0, (hb.cell (p := ⟨g, _, none⟩) hg).trans h1, (hb.cell (p := ⟨g, _, none⟩) hg).trans h2, (hb.cell (p := ⟨g, _, none⟩) hg).trans h3, (hb.cell (p := ⟨g, _, none⟩) hg).trans h4, (hb.cell (p := ⟨g, _, none⟩) hg).trans h5, (hb.cell (p := ⟨g, _, none⟩) hg).trans h6, (hb.cell (p := ⟨g, _, none⟩) hg).trans h7, (hb.cell (p := ⟨g, _, none⟩) hg).trans h8, (hb.cell (p := ⟨g, _, none⟩) hg).trans h9⟩
/-- how far Passes is -/
def PI (w : World) (ls : List LnK) (kk mb m p1 p3 : Nat) (W : World) : Prop :=
  ∃ K ps pg pn pcap, Mk W w.heap.size mb m p1 p3 kk K pg pn pcap ps ∧ Below w.heap.size w W ∧ ∀ c n ps', PassesC (ls.drop kk) K ps kk c n ps' → PassesC ls (fun _ => none) [[]] 0 c n ps'
theorem make1 (W : World) : (Instr.makeSlice 49 (.int .i64 1) (.int .i64 1)).run Tryd.prog W = .ok (.slice (some ⟨W.heap.size, 0, none⟩) 1 1) (W.alloc (.cells #[.slice none 0 0] 62)) := by kernel_rfl
set_option maxHeartbeats 8000000 in
theorem passes_any (lg lo lc : Nat) (ls : List (LV × LnK)) (w : World) (hT : Tab w) (hl : ls.length ≤ 100000) (hg : lg < w.heap.size) (hL : ∀ (j : Nat) (hj : j < ls.length), LnAt w lg (lo + j * 10) ls[j].1) (hOk : ∀ p ∈ ls, LineOk w p.1 p.2) :
    Calls Tryd.prog 17 #[.slice (some ⟨lg, lo, none⟩) ls.length lc] w fun e w' => ∃ c at' ps a n cp, PassesC (ls.map Prod.snd) (fun _ => none) [[]] 0 c at' ps ∧ e = .returned (.tuple #[.slice a n cp, .int .i64 at', .int .i64 c]) ∧ (c = 0 → PassRow w' w.heap.size (.slice a n cp) ps) ∧ Below w.heap.size w w' := by
  obtain ⟨n, hn⟩ : ∃ n, ls.length = n := ⟨_, rfl⟩
  rw [hn]
  have hnI : (n : Int) ≤ 100000 := by omega
  have HM : Hid (ls.length = n) := hn
  have HT : Hid (∀ (j : Nat) (hj : j < ls.length) (W : World) (mb m p1 p3 N pg pn pcap : Nat) (K : ByteArray → Option (List (Int × Int))) (ps : List (List Rl)), N < 900000 → Below w.heap.size w W → Mk W w.heap.size mb m p1 p3 N K pg pn pcap ps → Calls Tryd.prog 30 #[.pointer (some ⟨mb, 0, none⟩), ls[j].1.val] W fun e w' => ∃ c K' ps', TakeC K ps ls[j].2 c K' ps' ∧ e = .returned (.int .i64 c) ∧ Below w.heap.size w w' ∧ (c = 0 → ∃ pg' pn' pcap', Mk w' w.heap.size mb m p1 p3 (N + 1) K' pg' pn' pcap' ps')) :=
    fun j hj W mb m p1 p3 N pg pn pcap K ps hN hW hM => take_any ls[j].1 ls[j].2 mb m p1 p3 N pg pn pcap K ps w W hT hW (hOk _ (List.getElem_mem hj)) hM hN
  have HI : Hid (∀ (j : Nat) (hj : j < ls.length) (W : World), Below w.heap.size w W → LnAt W lg (lo + j * 10) ls[j].1) := fun j hj W hW => (hL j hj).below hW hg
  have HR : Hid (∀ (W : World), Calls Tryd.prog 21 #[.map (some w.heap.size)] W fun e w' => ∃ p1 p3, e = .returned (rdv p1 p3) ∧ Reader w' (rdv p1 p3) (.map (some w.heap.size)) ∧ Below W.heap.size W w') := fun W => readItem_any (some w.heap.size) W
  have HS : Hid (∀ W p1 p3 mb pg, Below w.heap.size w W → W.heap[w.heap.size]? = some (.map #[] 0) → Reader W (rdv p1 p3) (.map (some w.heap.size)) → w.heap.size ≤ pg → W.heap[pg]? = some (.cells #[.slice none 0 0] 62 (0, 0)) → w.heap.size ≤ mb → W.heap[mb]? = some (.cells #[.map (some w.heap.size), rdv p1 p3, .slice (some ⟨pg, 0, none⟩) 1 1] 80 (0, 0)) → PI w (ls.map Prod.snd) 0 mb w.heap.size p1 p3 W) := fun W p1 p3 mb pg hB hm hR hpg hp hmb hb => by
    refine ⟨fun _ => none, [[]], pg, 1, 1, ⟨hb, hR, ?_, ?_, hB.size, hmb, Nat.le_refl _, by simp, by simp, by simp⟩, hB, fun c n ps' h => h⟩
    · obtain ⟨es, c, hb0, hF⟩ := World.ownsMap_made (H := Value) w Tryd.prog 9 heldR
      rw [heap_alloc_new] at hb0
      cases hb0
      exact ⟨0, .map [], ⟨#[], 0, hm, hF⟩, Nat.le_refl _, fun nm => ⟨by simp [Maps.has], fun l h => by cases h⟩⟩
    · refine ⟨[.slice none 0 0], rfl, ⟨rfl, .inr ⟨pg, 1, #[.slice none 0 0], rfl, hpg, hp, Nat.le_refl _, by unfold maxLen; omega, rfl, rfl⟩⟩, fun j h1 h2 => ?_, fun i j hi hj hij => ?_⟩
      · obtain rfl : j = 0 := by simp at h1; exact h1
        exact RulesRow.nil _ _
      · simp at hi hj; omega
  clear hT hL hOk hn
  have hmm := @run_makeMap Tryd.prog
  go_enter Tryd.func17, Tryd.ntmps17
  go_upto_region 2 with fail
  clear hmm
  go_cut [6] (fun s6 wx => ∃ mb p1 p3, s6 = .pointer (some ⟨mb, 0, none⟩) ∧ Hid (PI w (ls.map Prod.snd) 0 mb w.heap.size p1 p3 wx))
  case first =>
    as_aux_lemma =>
      clear HT HI
      have hms := make1
      go_region_with (go_at_call 21; go_must (refine (HR.out _).mono ?_; rintro e w2 ⟨p1, p3, rfl, hRd, hb⟩; have HV : Hid (Reader w2 (rdv p1 p3) (.map (some w.heap.size)) ∧ Below _ _ w2) := ⟨hRd, hb⟩; clear hRd hb))
      all_goals (go_wp2_with fail; go_meet)
      · have hb0 : Below w.heap.size w (w.alloc (.map #[] 0)).drew := ((Below.refl _ w).alloc (Nat.le_refl _) _).drew
        have hb := HV.out.2
        have hB2 : Below w.heap.size w w2 := hb0.trans (hb.mono hb0.size)
        have hm2 : w2.heap[w.heap.size]? = some (.map #[] 0) := (hb.block w.heap.size (by show w.heap.size < (w.heap.push _).size; simp)).trans (heap_alloc_new w _)
        exact ⟨w2.heap.size + 1, p1, p3, rfl, HS.out _ p1 p3 _ w2.heap.size ((hB2.alloc hB2.size _).alloc (by rw [World.size_alloc]; exact Nat.le_succ_of_le hB2.size) _) (blk_up (blk_up hm2 _) _) ((HV.out.1.kt (KT.alloc _ _) (KT.alloc _ _)).kt (KT.alloc _ _) (KT.alloc _ _)) hB2.size (blk_up (blk_new rfl) _) (by have := hB2.size; omega) (blk_new (by simp))⟩
      · have hb0 : Below w.heap.size w ((w.alloc (.map #[] 0)).alloc (.cells #[.slice none 0 0] 62)).drew := (((Below.refl _ w).alloc (Nat.le_refl _) _).alloc (by simp) _).drew
        have hb := HV.out.2
        have hB2 : Below w.heap.size w w2 := hb0.trans (hb.mono hb0.size)
        have hz : ((w.alloc (.map #[] 0)).alloc (.cells #[.slice none 0 0] 62)).drew.heap.size = w.heap.size + 1 + 1 := by show ((w.alloc (.map #[] 0)).alloc (.cells #[.slice none 0 0] 62)).heap.size = _; simp
        have hm2 : w2.heap[w.heap.size]? = some (.map #[] 0) := (hb.block w.heap.size (by rw [hz]; omega)).trans (blk_up (heap_alloc_new w _) _)
        have hp2 : w2.heap[w.heap.size + 1]? = some (.cells #[.slice none 0 0] 62 (0, 0)) := (hb.block (w.heap.size + 1) (by rw [hz]; omega)).trans (blk_new (by simp))
        exact ⟨w2.heap.size, p1, p3, rfl, HS.out _ p1 p3 _ (w.heap.size + 1) (hB2.alloc hB2.size _) (blk_up hm2 _) (HV.out.1.kt (KT.alloc _ _) (KT.alloc _ _)) (by omega) (blk_up hp2 _) hB2.size (blk_new rfl)⟩
  case rest =>
    obtain ⟨mb, p1, p3, rfl, HP⟩ := hcut
    clear HS HR
    go_wp2
    go_loopw [19] (fun vi wr => ∃ kk : Nat, vi = .int .i64 kk ∧ kk ≤ n ∧ Hid (PI w (ls.map Prod.snd) kk mb w.heap.size p1 p3 wr)) (fun vi _ => n - (intOf vi).toNat)
    case atStart => exact ⟨0, rfl, Nat.zero_le _, HP.out⟩
    case round =>
      obtain ⟨kk, rfl, hkk, HG⟩ := hrel
      have hk0 : (0 : Int) ≤ (kk : Int) := by omega
      have hkI : (kk : Int) ≤ 100000 := by omega
      obtain ⟨K, ps, pg, pn, pcap, hM, hB, hPC⟩ := HG.out
      by_cases hlt : kk < n
      · have hltI : (kk : Int) < (n : Int) := by omega
        have hltl : kk < ls.length := by rw [HM.out]; exact hlt
        have HPC : Hid (∀ c n ps' c1 K1 ps1, TakeC K ps ls[kk].2 c1 K1 ps1 → ((c1 ≠ 0 ∧ c = c1 ∧ n = (kk : Int)) ∨ (c1 = 0 ∧ PassesC ((ls.map Prod.snd).drop (kk + 1)) K1 ps1 (kk + 1) c n ps')) → PassesC (ls.map Prod.snd) (fun _ => none) [[]] 0 c n ps') := fun c n ps' c1 K1 ps1 h1 h2 => hPC c n ps' (by
          rw [List.drop_eq_getElem_cons (by simpa using hltl), List.getElem_map]
          exact ⟨c1, K1, ps1, h1, h2⟩)
        have HC : Hid (∀ ob, Calls Tryd.prog 30 #[.pointer (some ⟨mb, 0, none⟩), ls[kk].1.val] (wr.alloc ob) fun e w' => ∃ c K' ps', TakeC K ps ls[kk].2 c K' ps' ∧ e = .returned (.int .i64 c) ∧ Below w.heap.size w w' ∧ (c = 0 → ∃ pg' pn' pcap', Mk w' w.heap.size mb w.heap.size p1 p3 (kk + 1) K' pg' pn' pcap' ps')) := fun ob => HT.out kk hltl (wr.alloc ob) mb w.heap.size p1 p3 kk pg pn pcap K ps (by omega) (hB.alloc hB.size _) (hM.below ((Below.refl _ _).alloc (Nat.le_refl _) _))
        have hI := HI.out kk hltl wr hB
        obtain ⟨v, x, hx⟩ : ∃ v x, ls[kk] = (v, x) := ⟨ls[kk].1, ls[kk].2, rfl⟩
        rw [hx] at HPC HC hI
        obtain ⟨vk, va, vnm, vb, ve, A1, A2, A3, A4, n1, n2, n3, n4, d1, d2, d3, d4, vc⟩ := v
        obtain ⟨c0, c1, c2, c3, c4, c5, c6, c7, c8, c9⟩ := hI
        simp only at c0 c1 c2 c3 c4 c5 c6 c7 c8 c9 HC HPC
        clear hx hPC hM hB HG HT HI HP
        go_wp2_with fail
        refine (HC.out _).mono ?_
        rintro e w2 ⟨c, K', ps', hTk, rfl, hB2, h3⟩
        have HV : Hid (TakeC K ps x c K' ps' ∧ Below w.heap.size w w2 ∧ (c = 0 → ∃ pg' pn' pcap', Mk w2 w.heap.size mb w.heap.size p1 p3 (kk + 1) K' pg' pn' pcap' ps')) := ⟨hTk, hB2, h3⟩
        clear hTk hB2 h3 HC
        by_cases h0 : c = 0
        · subst h0
          go_wp2
          go_roundw
          case rel =>
            obtain ⟨h1, h2, h3⟩ := HV.out
            obtain ⟨pg', pn', pcap', h4⟩ := h3 (by trivial)
            exact ⟨kk + 1, by simp, hlt, K', ps', pg', pn', pcap', h4, h2, fun c n ps'' h => HPC.out c n ps'' 0 K' ps' h1 (.inr ⟨rfl, h⟩)⟩
          case measure => simp [intOf]; omega
        · have hp0' : (c != 0) = true := by simpa using h0
          go_wp2
          exact bodyPost_ret (v := .tuple #[.slice none 0 0, .int .i64 kk, .int .i64 c]) (by simp [results, Tryd.f17, go_sem]) rfl ⟨c, kk, ps, none, 0, 0, HPC.out c kk ps c K' ps' HV.out.1 (.inl ⟨h0, rfl, rfl⟩), rfl, fun h => absurd h h0, HV.out.2.1⟩
      · have hgeI : (n : Int) ≤ (kk : Int) := by omega
        obtain rfl : kk = n := by omega
        have hc2 := hM.cells.2.2.1
        have HF : Hid (PassesC (ls.map Prod.snd) (fun _ => none) [[]] 0 0 0 ps ∧ PassRow wr w.heap.size (.slice (some ⟨pg, 0, none⟩) pn pcap) ps ∧ Below w.heap.size w wr) := ⟨hPC 0 0 ps (by
          rw [List.drop_eq_nil_of_le (by simp [HM.out])]
          exact ⟨rfl, rfl, rfl⟩), hM.pr, hB⟩
        clear hM hB hPC HG HT HI HP
        go_wp2
        exact bodyPost_ret (v := .tuple #[.slice (some ⟨pg, 0, none⟩) pn pcap, .int .i64 0, .int .i64 0]) (by simp [results, Tryd.f17, go_sem]) rfl ⟨0, 0, ps, _, _, _, HF.out.1, rfl, fun _ => HF.out.2.1, HF.out.2.2⟩
end Go.Proofs
