/-
  names: gather.
-/
import Derived.Shelf.Abstract
import Derived.Shelf.RegionOpen
import Derived.WalkKit
import Derived.WalkSpells
import Derived.WalkLawsBesides
import Derived.OwnWalk
import Derived.BigQuiet
import Derived.Deep.QuietTactic
import Derived.Deep.LoopGhost
import Derived.Deep.RegionWith
import Derived.Lib.OthersKept
import Derived.Maps.AppendAt
import Derived.Lib.SmallJoins
import Derived.Test.YtbacejefgpaabaaDoorNe
import Derived.Test.YtbacejefgpaabaaDoorVm
namespace Go.Proofs
open Go.RowKit Go.Shelf

set_option maxRecDepth 100000
attribute [local go_sem] Oper.semAt_some

/-- what gather answers -/
def GR (K : ByteArray → Option (List (Int × Int))) (l : List It) (c : Int) (r : List (Int × Int)) : Prop :=
  (partsC K l ≠ 0 ∧ c = partsC K l ∧ r = []) ∨ (partsC K l = 0 ∧ ∃ s, Canon (partsL K l) s ∧ ((s.length ≤ 512 ∧ c = 0 ∧ r = s) ∨ (512 < s.length ∧ c = 21 ∧ r = [])))
/-- what gather answers of an item with or without Not -/
def GN (K : ByteArray → Option (List (Int × Int))) (nt : Bool) (l : List It) (c : Int) (r : List (Int × Int)) : Prop :=
  ∃ c1 s, GR K l c1 s ∧ (((nt = false ∨ c1 ≠ 0) ∧ c = c1 ∧ r = s) ∨ (nt = true ∧ c1 = 0 ∧ ∃ t, (Good t ∧ ∀ u, hasU t u ↔ hasU runesL u ∧ ¬ hasU s u) ∧ ((t.length ≤ 512 ∧ c = 0 ∧ r = t) ∨ (512 < t.length ∧ c = 21 ∧ r = []))))
theorem ans_n {B : Nat} {t : List (Int × Int)} {v : Value} {n : Int} {W : World} (h : Ans B t (.returned (.tuple #[v, .int .i64 n])) W) : ∃ r, ((t.length ≤ 512 ∧ n = 0 ∧ r = t) ∨ (512 < t.length ∧ n = 21 ∧ r = [])) ∧ (if n = 0 then OwnR W B v r else v = .slice none 0 0) := by
  rcases h with ⟨h1, v', e, h2⟩ | ⟨h1, e⟩
  · simp only [Ending.returned.injEq, Value.tuple.injEq, Array.mk.injEq, List.cons.injEq, Value.int.injEq, true_and, and_true] at e
    obtain ⟨rfl, rfl⟩ := e
    exact ⟨t, .inl ⟨h1, rfl, rfl⟩, by rw [if_pos rfl]; exact h2⟩
  · simp only [Ending.returned.injEq, Value.tuple.injEq, Array.mk.injEq, List.cons.injEq, Value.int.injEq, true_and, and_true] at e
    obtain ⟨rfl, rfl⟩ := e
    exact ⟨[], .inr ⟨h1, rfl, rfl⟩, by rw [if_neg (by decide)]⟩
theorem gr_valid {K : ByteArray → Option (List (Int × Int))} {l : List It} {r : List (Int × Int)} (h : GR K l 0 r) : validB r = true := by
  rcases h with ⟨h1, h2, _⟩ | ⟨_, s, hs, h | h⟩
  · exact absurd h2.symm h1
  · obtain ⟨h1, _, rfl⟩ := h
    exact (validB_iff _).2 ⟨h1, hs.1⟩
  · exact absurd h.2.1 (by decide)
/-- how far gather is -/
def GI (w1 : World) (K : ByteArray → Option (List (Int × Int))) (l : List It) (k : Nat) (va : Value) (wr : World) : Prop :=
  (∀ j (hj : j < l.length), j < k → partC K l[j] = 0) ∧ OwnR wr w1.heap.size va (partsL K (l.take k)) ∧ Below w1.heap.size w1 wr
set_option maxHeartbeats 4000000 in
theorem gather_walk (k u : Int) (nm : ByteArray) (lo hi : Int) (nt : Bool) (ky : Int) (g o cp : Nat) (l : List (It × Value)) (pb kb : Nat) (mv : Value) (K : ByteArray → Option (List (Int × Int))) (w : World) (hT : Tab w) (hl : l.length ≤ 1000000) (h3 : ∀ p ∈ l, p.1.k ≠ 3 ∧ p.1.nm.size ≤ maxLen ∧ ∃ a n c, p.2 = .slice a n c)
    (hg : ∀ j, j < l.length → g < w.heap.size) (hP : ∀ (j : Nat) (hj : j < l.length), ItAt w g (o + j * 8) l[j].1 l[j].2)
    (hpb : w.cell? ⟨pb, 0, none⟩ = some (.func (.func 47) #[] #[.pointer (some ⟨kb, 0, none⟩)])) (hkb : w.cell? ⟨kb, 0, none⟩ = some mv) (hK : KnownV w mv K) :
    Calls Tryd.prog 36 #[itv k u nm (.slice (some ⟨g, o, none⟩) l.length cp) lo hi nt ky, .func (.func 52) #[] #[.pointer (some ⟨pb, 0, none⟩)]] w fun e w' => ∃ c r, GN K nt (l.map Prod.fst) c r ∧ AnsN w.heap.size c r e w' ∧ Below w.heap.size w w' := by
  obtain ⟨n, hn⟩ : ∃ n, l.length = n := ⟨_, rfl⟩
  rw [hn]
  have hnI : (n : Int) ≤ 1000000 := by omega
  have HW1 : Hid (∀ o, Below w.heap.size w (w.alloc o) ∧ (w.alloc o).heap.size = w.heap.size + 1) := fun o => ⟨(Below.refl _ _).alloc (Nat.le_refl _) _, World.size_alloc _ _⟩
  have HPart : Hid (∀ (j : Nat) (hj : j < l.length) (W : World), Below w.heap.size w W → Calls Tryd.prog 52 #[l[j].1.val l[j].2, .pointer (some ⟨pb, 0, none⟩)] W fun e w' => AnsN W.heap.size (partC K l[j].1) (partL K l[j].1) e w' ∧ Below W.heap.size W w') := fun j hj W hW => by
    have := h3 l[j] (List.getElem_mem hj)
    exact part_any l[j].1 l[j].2 pb kb mv K W (hT.below hW hT.pos) this.1 this.2.1 ((hW.cell (p := ⟨pb, 0, none⟩) (cell_lt hpb)).trans hpb) ((hW.cell (p := ⟨kb, 0, none⟩) (cell_lt hkb)).trans hkb) (hK.below hW)
  have HI : Hid (∀ (j : Nat) (hj : j < l.length) (W : World), Below w.heap.size w W → ItAt W g (o + j * 8) l[j].1 l[j].2) := fun j hj W hW => (hP j hj).below hW (hg j hj)
  have HOf : Hid (∀ (W : World) (v : Value) (b : Nat), Below w.heap.size w W → OwnR W b v (partsL K (l.map Prod.fst)) → (∀ j (hj : j < (l.map Prod.fst).length), j < l.length → partC K (l.map Prod.fst)[j] = 0) → Calls Tryd.prog 53 #[v] W fun e w' => ∃ c r, GR K (l.map Prod.fst) c r ∧ AnsN w.heap.size c r e w' ∧ Below W.heap.size W w') := fun W v b hW hO hz => by
    have hlen := partsL_len K (l.map Prod.fst) l.length hz
    rw [List.take_of_length_le (by simp)] at hlen
    have hp0 : partsC K (l.map Prod.fst) = 0 := partsC_ok K _ (fun x hx => by
      obtain ⟨j, hj, rfl⟩ := List.getElem_of_mem hx
      exact hz j hj (by simpa using hj))
    refine (of_any v _ W (hT.below hW hT.pos) hO.rs (by omega)).mono ?_
    rintro e w' ⟨r, hC, hA, hB⟩
    rcases hA with ⟨h5, v', rfl, hO'⟩ | ⟨h5, rfl⟩
    · exact ⟨0, r, .inr ⟨hp0, r, hC, .inl ⟨h5, rfl, rfl⟩⟩, ⟨v', rfl, hO'.le hW.size⟩, hB⟩
    · exact ⟨21, [], .inr ⟨hp0, r, hC, .inr ⟨h5, rfl, rfl⟩⟩, ⟨_, rfl, rfl⟩, hB⟩
  have HS : Hid (∀ (j : Nat) (hj : j < l.length), ∃ a n c, l[j].2 = .slice a n c) := fun j hj => (h3 l[j] (List.getElem_mem hj)).2.2
  have HTab : Hid (∀ W, Below w.heap.size w W → Tab W) := fun W hW => hT.below hW hT.pos
  clear hT h3 hP hpb hkb hK
  go_enter Tryd.func36, Tryd.ntmps36
  go_wp2
  obtain ⟨w1, hw1⟩ : ∃ w1, w.alloc (.cells #[.int .i64 k, .int .i64 u, .string nm, .slice (some ⟨g, o, none⟩) n cp, .int .i64 lo, .int .i64 hi, .bool nt, .int .i64 ky] 24) = w1 := ⟨_, rfl⟩
  rw [hw1]
  have hB1 : Below w.heap.size w w1 := by rw [← hw1]; exact (HW1.out _).1
  have hz1 : w1.heap.size = w.heap.size + 1 := by rw [← hw1]; exact (HW1.out _).2
  have hc6 : w1.cell? ⟨w.heap.size, 6, none⟩ = some (.bool nt) := by rw [← hw1]; simp
  have HB1 : Hid (∀ W, Below w1.heap.size w1 W → Below w.heap.size w W) := fun W h => hB1.trans (h.mono (by omega))
  have HM : Hid (l.length = n) := hn
  clear hn hw1 hB1
  go_loopw [6, 16] (fun sa vi wr => ∃ (va : Value) (kk : Nat), va = sa ∧ vi = .int .i64 kk ∧ kk ≤ n ∧ Hid (GI w1 K (l.map Prod.fst) kk va wr)) (fun _ vi _ => n - (intOf vi).toNat)
  case atStart =>
    exact ⟨_, 0, rfl, rfl, Nat.zero_le _, fun j _ h => absurd h (by omega), by simpa [partsL] using OwnR.nil _ _, Below.refl _ _⟩
  case round =>
    obtain ⟨va, kk, rfl, rfl, hkk, HG⟩ := hrel
    have hk0 : (0 : Int) ≤ (kk : Int) := by omega
    have hkI : (kk : Int) ≤ 1000000 := by omega
    by_cases hlt : kk < n
    · have hltI : (kk : Int) < (n : Int) := by omega
      have hltl : kk < l.length := by rw [HM.out]; exact hlt
      obtain ⟨x, ps, hx⟩ : ∃ x ps, l[kk] = (x, ps) := ⟨l[kk].1, l[kk].2, rfl⟩
      have HC : ∀ (W : World), Below w.heap.size w W → Calls Tryd.prog 52 #[l[kk].1.val l[kk].2, .pointer (some ⟨pb, 0, none⟩)] W fun e w' => AnsN W.heap.size (partC K l[kk].1) (partL K l[kk].1) e w' ∧ Below W.heap.size W w' := HPart.out kk hltl
      have hI := HI.out kk hltl wr (HB1.out _ HG.out.2.2)
      have HPc : Hid (∀ hj, partC K (l.map Prod.fst)[kk] = partC K x ∧ partL K ((l.map Prod.fst)[kk]'hj) = partL K x) := fun hj => by simp [hx]
      obtain ⟨pa, pn, pcp, hps⟩ := HS.out kk hltl
      rw [hx] at HC hI hps
      simp only at hps
      subst hps
      obtain ⟨xk, xu, xnm, xlo, xhi, xnt, xky⟩ := x
      obtain ⟨c0, c1, c2, c3, c4, c5, c6, c7⟩ := hI
      simp only at c0 c1 c2 c3 c4 c5 c6 c7
      obtain ⟨pc, hpc⟩ : ∃ pc, partC K ⟨xk, xu, xnm, xlo, xhi, xnt, xky⟩ = pc := ⟨_, rfl⟩
      obtain ⟨pl, hpl⟩ : ∃ pl, partL K ⟨xk, xu, xnm, xlo, xhi, xnt, xky⟩ = pl := ⟨_, rfl⟩
      simp only [hpc, hpl] at HC HPc
      have HCC : Hid (∀ (W : World), Below w.heap.size w W → Calls Tryd.prog 52 #[itv xk xu xnm (.slice pa pn pcp) xlo xhi xnt xky, .pointer (some ⟨pb, 0, none⟩)] W fun e w' => ∃ v, e = .returned (.tuple #[v, .int .i64 pc]) ∧ (if pc = 0 then OwnR w' W.heap.size v pl else v = .slice none 0 0) ∧ Below W.heap.size W w') := fun W hW => (HC W hW).mono (by rintro e w' ⟨⟨v, rfl, h⟩, hb⟩; exact ⟨v, rfl, h, hb⟩)
      clear HC hx
      obtain ⟨hz, hO, hB⟩ := HG.out
      have HBr := HB1.out wr hB
      have HO : Hid (∀ ob, OwnR (wr.alloc ob) w1.heap.size va (partsL K ((l.map Prod.fst).take kk))) := fun ob => hO.alloc ob
      have HBa : Hid (∀ ob, Below w1.heap.size w1 (wr.alloc ob) ∧ Below w.heap.size w (wr.alloc ob)) := fun ob => ⟨hB.alloc hB.size ob, HBr.alloc HBr.size ob⟩
      have hlen := partsL_len K (l.map Prod.fst) kk hz
      clear hz hO hB HBr
      by_cases hp0 : pc = 0
      · subst hp0
        go_wp2_with fail
        refine (HCC.out _ (HBa.out _).2).mono ?_
        rintro e w2 ⟨v, rfl, hv, hb2⟩
        rw [if_pos trivial] at hv
        have hO2 := (HO.out _).below hb2 (Nat.le_refl _)
        have hB2 := (HBa.out _).1.trans (hb2.mono (HBa.out _).1.size)
        have hvr := hv.rs
        have hpl5 : pl.length ≤ 512 := by rw [← hpl]; exact partL_len K _ hpc
        have hsum : (partsL K ((l.map Prod.fst).take kk)).length + pl.length ≤ 8796093022208 := by omega
        have hzz := hB2.size
        clear hv hb2
        go_wp2_with (at_builtin; go_must (refine push_Rs rfl _ _ rfl w1.heap.size _ _ _ _ rfl hO2 rfl hvr hsum hzz ?_; intro v3 w3 hO3 hB3))
        go_roundw
        case rel =>
          refine ⟨_, kk + 1, rfl, by simp, hlt, ?_⟩
          have hkl : kk < (l.map Prod.fst).length := by simpa using hltl
          refine ⟨fun j hj hjk => ?_, ?_, hB2.trans (hB3.mono (Nat.le_refl _))⟩
          · by_cases e : j = kk
            · subst e; exact (HPc.out hj).1
            · exact HG.out.1 j hj (by omega)
          · rw [List.take_succ_eq_append_getElem hkl]
            unfold partsL
            rw [List.flatMap_append, List.flatMap_singleton, (HPc.out hkl).2]
            exact hO3
        case measure => simp [intOf]; omega
      · have hp0' : (pc != 0) = true := by simpa using hp0
        go_wp2_with fail
        refine (HCC.out _ (HBa.out _).2).mono ?_
        rintro e w2 ⟨v, rfl, hv, hb2⟩
        rw [if_neg hp0] at hv
        subst hv
        have hB2 := (HBa.out _).2.trans (hb2.mono (HBa.out _).2.size)
        clear hb2
        go_wp2
        have hkl : kk < (l.map Prod.fst).length := by simpa using hltl
        have hpb : partsC K (l.map Prod.fst) = pc := (partsC_bad K _ kk hkl HG.out.1 (by rw [(HPc.out hkl).1]; exact hp0)).trans (HPc.out hkl).1
        exact bodyPost_ret (v := .tuple #[.slice none 0 0, .int .i64 pc]) (by simp [results, Tryd.f36, go_sem]) rfl ⟨pc, [], ⟨pc, [], .inl ⟨by rw [hpb]; exact hp0, hpb.symm, rfl⟩, .inl ⟨.inr hp0, rfl, rfl⟩⟩, ⟨_, rfl, by rw [if_neg hp0]⟩, hB2⟩
    · have hgeI : (n : Int) ≤ (kk : Int) := by omega
      obtain rfl : kk = n := by omega
      obtain ⟨hz, hO, hB⟩ := HG.out
      have HBr := HB1.out wr hB
      have hlm : (l.map Prod.fst).length = kk := by simpa using HM.out
      rw [List.take_of_length_le (by omega)] at hO
      have HC := HOf.out wr va _ HBr hO (fun j hj h => hz j hj (by rw [← HM.out]; exact h))
      have hc6' : ∀ W, Below w1.heap.size wr W → W.cell? ⟨w.heap.size, 6, none⟩ = some (.bool nt) := fun W hW => ((hB.trans hW).cell (p := ⟨w.heap.size, 6, none⟩) (by show w.heap.size < _; omega)).trans hc6
      have HBF : Hid (∀ W, Below wr.heap.size wr W → Below w.heap.size w W) := fun W h => HBr.trans (h.mono HBr.size)
      have hc6'' : Hid (∀ W, Below wr.heap.size wr W → W.cell? ⟨w.heap.size, 6, none⟩ = some (.bool nt)) := fun W h => hc6' W (h.mono hB.size)
      clear hz hO hB hc6' HBr
      go_wp2_with fail
      refine HC.mono ?_
      rintro e w2 ⟨c, r, hGR, ⟨v, rfl, hv⟩, hb2⟩
      have hc6w := hc6''.out _ hb2
      have HGR : Hid (GR K (l.map Prod.fst) c r ∧ (if c = 0 then OwnR w2 w.heap.size v r else v = .slice none 0 0)) := ⟨hGR, hv⟩
      clear hGR hv hc6'' HC
      by_cases h0 : c = 0
      · subst h0
        cases nt with
        | false =>
          go_wp2
          exact bodyPost_ret (v := .tuple #[v, .int .i64 0]) (by simp [results, Tryd.f36, go_sem]) rfl ⟨0, r, ⟨0, r, HGR.out.1, .inl ⟨.inl rfl, rfl, rfl⟩⟩, ⟨_, rfl, HGR.out.2⟩, HBF.out _ hb2⟩
        | true =>
          have hO2 : OwnR w2 w.heap.size v r := by have := HGR.out.2; rwa [if_pos rfl] at this
          have HR2 : Hid (Rs w2 v r) := hO2.rs
          have HB2 : Hid (Below w.heap.size w w2) := HBF.out _ hb2
          clear hO2 hb2
          go_wp2_with fail
          refine (other_any v r w2 (HTab.out _ HB2.out) HR2.out (gr_valid HGR.out.1)).mono ?_
          rintro e w3 ⟨t, ht, hans, hb3⟩
          obtain ⟨v5, n5, rfl⟩ := hans.pair
          obtain ⟨r5, h5, h6⟩ := ans_n (hans.le HB2.out.size)
          have HE : Hid (GN K true (l.map Prod.fst) n5 r5 ∧ (if n5 = 0 then OwnR w3 w.heap.size v5 r5 else v5 = .slice none 0 0) ∧ Below w.heap.size w w3) := ⟨⟨0, r, HGR.out.1, .inr ⟨rfl, rfl, t, ht, h5⟩⟩, h6, HB2.out.trans (hb3.mono HB2.out.size)⟩
          clear hans ht h5 h6 hb3
          go_wp2
          exact bodyPost_ret (v := .tuple #[v5, .int .i64 n5]) (by simp [results, Tryd.f36, go_sem]) rfl ⟨n5, r5, HE.out.1, ⟨_, rfl, HE.out.2.1⟩, HE.out.2.2⟩
      · have h0' : (c != 0) = true := by simpa using h0
        go_wp2
        exact bodyPost_ret (v := .tuple #[v, .int .i64 c]) (by simp [results, Tryd.f36, go_sem]) rfl ⟨c, r, ⟨c, r, HGR.out.1, .inl ⟨.inr h0, rfl, rfl⟩⟩, ⟨_, rfl, HGR.out.2⟩, HBF.out _ hb2⟩
end Go.Proofs
