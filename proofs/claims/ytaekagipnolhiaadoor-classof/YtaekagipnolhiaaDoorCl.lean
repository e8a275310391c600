/-
  ClassOf walked: whatever the two names.
-/
import Derived.RangeFuncNested
import Derived.RangeFuncBound
import Derived.RangeFuncCalls
import Derived.RangeFuncLeaves
import Derived.Deep.MidRow
import Derived.Maps.OwnSet
import Derived.Maps.OwnOps
import Derived.Shelf.Abstract
import Derived.Shelf.RegionOpen
import Derived.WalkKit
import Derived.WalkSpells
import Derived.WalkLawsBesides
import Derived.OwnWalkIn
import Derived.TacticsInMore
import Derived.LoopNIn
import Derived.LoopIn
import Derived.BigQuiet
import Derived.RegionIn
import Derived.Deep.QuietTactic
import Derived.Deep.RegionWith
import Derived.Lib.OthersKept
import Derived.Maps.AppendAt
import Derived.Lib.SmallJoins
import Derived.Deep.DrawnRows
import Derived.ArgAppend
import Derived.Test.YtaekagipnolhiaaDoorCk
namespace Go.Proofs
open Go.RowKit Go.Shelf

set_option maxRecDepth 100000
attribute [local go_sem] Oper.semAt_some

/-- Of and the reference's Of, at one name -/
def Both (s : ByteArray) (l : List (Int × Int)) (er : Int) : Prop := (∀ w : World, Calls Tryd.prog 8 #[.string s] w fun e w' => ∃ v, e = .returned (.tuple #[v, .int .i64 er]) ∧ OwnR w' w.heap.size v l ∧ Below w.heap.size w w')
  ∧ (∀ w : World, Calls Tryd.prog 9 #[.string s] w fun e w' => ∃ v, e = .returned (.tuple #[v, .int .i64 er]) ∧ Rs w' v l ∧ Grown w w')
theorem both_any (s : ByteArray) (hs : s.size ≤ maxLen) : ∃ l er, l.length ≤ 10 ∧ Both s l er := ⟨spN s, erN s, spN_len s, fun w => of_any s w hs, fun w => rof_any s w⟩
theorem OwnR.bel {w w' : World} {base n : Nat} {v : Value} {l : List (Int × Int)} (h : OwnR w base v l) (hb : Below n w w') (hn : w.heap.size ≤ n) : OwnR w' base v l := OwnR.below h hb hn

/-- the set told last: it lies apart from the row of sets -/
theorem it_new {wo wr w' : World} {base H0 n cap k : Nat} {A : Option Addr} {u v' : Value} {L : List Value} (hV : OwnV wo base u L) (hH : wo.heap.size = H0) (hg : n = 0 ∨ ∃ g, A = some ⟨g, 0, none⟩ ∧ H0 ≤ g)
    (hR : R0 wr (.slice A n cap) (List.replicate n (-(k : Int), (k : Int)))) (hn : n ≤ 10) (hk : wr.grownBy w' u.ownBlock) (e : v'.ownBlock = u.ownBlock ∨ v'.ownBlock = some wr.heap.size) : It w' v'.ownBlock k (.slice A n cap) := by
  rcases hg with rfl | ⟨g, rfl, hg⟩
  · exact ⟨0, by omega, hR.kept hk (.inl rfl), .inl rfl⟩
  · by_cases h0 : n = 0
    · subst h0
      exact ⟨0, by omega, hR.kept hk (.inl rfl), .inl rfl⟩
    · have h1 : u.ownBlock ≠ some g := fun h => by
        have := (World.ownsRow.lt hV g h).2
        omega
      have h2 : g < wr.heap.size := hR.lt (by simpa using h0) rfl
      refine ⟨n, hn, hR.kept hk (.inr h1), .inr ?_⟩
      rcases e with e | e
      · rw [e]; exact h1
      · rw [e]; intro h; have h : some wr.heap.size = some g := h; injection h with h; omega
theorem It.bel2 {w w' : World} {bo : Option Nat} {j : Nat} {v : Value} (h : It w bo j v) (o : Obj) (k : w' = w.alloc o) : It w' bo j v := by
  subst k
  exact h.below ((Below.refl _ w).alloc (Nat.le_refl _) o) (Nat.le_refl _)
theorem rg_rep {n i : Nat} {x : Int × Int} (h : i < n) : rg (List.replicate n x) i = x := by simp [rg, h]

set_option maxHeartbeats 8000000 in
theorem ofLaw_any (s t : ByteArray) (w : World) (hT : Tab w) (hs : s.size ≤ maxLen) (ht : t.size ≤ maxLen) : Calls Tryd.prog 3 #[.string s, .string t] w fun e w' => e = .returned (.bool true) ∧ Below w.heap.size w w' := by
  obtain ⟨la, ea, hla, hA⟩ := both_any s hs
  obtain ⟨lb, eb, hlb, hB⟩ := both_any t ht
  have HA : Hid (Both s la ea) := hA
  have HBo : Hid (Both t lb eb) := hB
  clear hA hB hs ht
  go_enter Tryd.func3, Tryd.ntmps3
  go_wp2_with fail
  refine (shown_any _ hT).mono ?_
  rintro e w1 ⟨rfl, hb⟩
  have HB : Hid (Below w.heap.size w w1) := hb
  clear hb hT
  go_wp2
  go_loopw [5, 6] (fun vs vk wr => ∃ (k : Nat) (L : List Value), vk = .int .i64 k ∧ k ≤ 4 ∧ L.length = k ∧ OwnV wr w1.heap.size vs L ∧ (∀ j v, L[j]? = some v → It wr vs.ownBlock j v) ∧ Below w1.heap.size w1 wr) (fun _ vk _ => 4 - (intOf vk).toNat)
  case atStart => exact ⟨0, [], rfl, by omega, rfl, World.ownsRow_lit w1 _ 0 (Nat.le_refl _) (by unfold maxLen; omega) rfl, fun j v h => by simp at h, (Below.refl _ w1).alloc (Nat.le_refl _) _⟩
  case round =>
    obtain ⟨k, L, rfl, hk, hL, hV, hI, hBr⟩ := hrel
    by_cases hk4 : k = 4
    · as_aux_lemma =>
        subst hk4
        obtain ⟨wo, rfl⟩ : ∃ wo, wo = wr := ⟨_, rfl⟩
        clear HA HBo hla hlb
        obtain ⟨gO, cO, rfl⟩ := Joins.ownsRow_form hV (by rw [hL]; omega)
        rw [hL]
        have HV : Hid (∀ j v, L[j]? = some v → wo.cell? ⟨gO, j, none⟩ = some v) := fun j v hj => OwnV.cell hV hj
        have hcO : 4 ≤ cO := by
          rcases hV.2 with ⟨h2, _⟩ | ⟨g', cap', cur, hv, _, _, hc, _⟩
          · cases h2
          · cases hv; rw [hL] at hc; exact hc
        have HI : Hid (∀ j v, L[j]? = some v → It wo (some gO) j v) := hI
        have HX : Hid (Below w.heap.size w wo) := HB.out.trans (hBr.mono HB.out.size)
        clear hV hI hBr HB
        go_wp2
        go_loopw [15] (fun vi wx => ∃ k : Nat, vi = .int .i64 k ∧ k ≤ 4 ∧ Grown wo wx) (fun vi _ => 4 - (intOf vi).toNat)
        case atStart => exact ⟨0, rfl, by omega, Grown.refl _⟩
        case round =>
          obtain ⟨k, rfl, hk, hG⟩ := hrel
          have HG : Hid (Grown wo wr) := hG
          clear hG
          by_cases hk4 : k = 4
          · as_aux_lemma =>
              subst hk4
              go_wp2
              go_ret
              exact ⟨rfl, HX.out.trans (HG.out.below.mono HX.out.size)⟩
          · as_aux_lemma =>
              obtain ⟨v, hv⟩ : ∃ v, L[k]? = some v := ⟨_, List.getElem?_eq_getElem (by omega)⟩
              obtain ⟨n, hn, hR, -⟩ := HI.out k v hv
              have cc := HG.out.cellv (HV.out k v hv)
              obtain ⟨A, cap, rfl, hcap, hR⟩ := hR
              rw [List.length_replicate] at hcap cc
              have HR : Hid (n = 0 ∨ ∃ g, A = some ⟨g, 0, none⟩ ∧ ∀ i, i < n → wo.cell? ⟨g, i * 2, none⟩ = some (.int .i64 (-k)) ∧ wo.cell? ⟨g, i * 2 + 1, none⟩ = some (.int .i64 k)) := by
                rcases hR with hR | ⟨g, hA, hR⟩
                · exact .inl (by simpa using hR)
                · refine .inr ⟨g, hA, fun i hi => ?_⟩
                  have := hR i (by simpa using hi)
                  rw [rg_rep hi, Nat.zero_add] at this
                  exact this
              have HC : Hid (wo.cell? ⟨gO, k, none⟩ = some (.slice A n cap)) := by have := HV.out k _ hv; rw [List.length_replicate] at this; exact this
              clear hv hR cc
              go_wp2
              go_loopw [16] (fun vi wy => ∃ i : Nat, vi = .int .i64 i ∧ i ≤ n ∧ Grown wo wy) (fun vi _ => n - (intOf vi).toNat)
              case atStart => exact ⟨0, rfl, by omega, HG.out⟩
              case round =>
                clear HG
                obtain ⟨i, rfl, hi, hG⟩ := hrel
                have HG : Hid (Grown wo wr) := hG
                have cc := hG.cellv HC.out
                clear hG
                by_cases hin : i = n
                · as_aux_lemma =>
                    have hni := hin.symm
                    subst hni
                    go_wp2
                    exact ⟨⟨k + 1, by go_num, by omega, HG.out⟩, by simp [intOf]; omega⟩
                · as_aux_lemma =>
                    obtain ⟨g, rfl, hc⟩ := HR.out.resolve_left (by omega)
                    have c1 := HG.out.cellv (hc i (by omega)).1
                    have c2 := HG.out.cellv (hc i (by omega)).2
                    clear hc
                    go_wp2
                    exact ⟨⟨i + 1, by go_num, by omega, HG.out⟩, by simp [intOf]; omega⟩
    · as_aux_lemma =>
        obtain ⟨wo, rfl⟩ : ∃ wo, wo = wr := ⟨_, rfl⟩
        obtain ⟨H0, hH0⟩ : ∃ H0, wo.heap.size = H0 := ⟨_, rfl⟩
        have HV : Hid (OwnV wo w1.heap.size u5 L) := hV
        have HI : Hid (∀ j v, L[j]? = some v → It wo u5.ownBlock j v) := hI
        have HX : Hid (Below w1.heap.size w1 wo) := hBr
        have HH : Hid (wo.heap.size = H0) := hH0
        clear hV hI hBr hH0
        by_cases hp : k % 2 = 1
        · have d1 : ((k : Int) % 2 == 1) = true := by rw [beq_iff_eq]; omega
          obtain ⟨l, er, hl, HB2⟩ : ∃ l er, l.length ≤ 10 ∧ Hid (Both t l er) := ⟨lb, eb, hlb, HBo⟩
          clear HA HBo
          go_wp2_with fail
          refine (HB2.out.1 _).mono ?_
          rintro e w2 ⟨v, rfl, hO, hb⟩
          rw [HH.out] at hO hb
          obtain ⟨A, cap, rfl, hcap, -⟩ := hO.r0
          have HO : Hid (OwnR w2 H0 (.slice A l.length cap) l) := hO
          have HW : Hid (Below H0 wo w2) := hb
          clear hO hb
          go_wp2_with fail
          refine (HB2.out.2 _).mono ?_
          rintro e w3 ⟨v3, rfl, hR3, hG3⟩
          have HR3 : Hid (Rs w3 v3 l) := hR3
          have hz : H0 ≤ w2.heap.size := by rw [← HH.out]; exact HW.out.size
          replace HO : Hid (OwnR w3 H0 (.slice A l.length cap) l) := HO.out.below hG3.below (Nat.le_refl _)
          replace HW : Hid (Below H0 wo w3) := HW.out.trans (hG3.below.mono hz)
          clear hR3 hG3 hz HB2
          go_wp2_with fail
          refine (same_any _ _ l _ (by omega) (OwnR.rs HO.out) HR3.out).mono ?_
          rintro e w4 ⟨rfl, hG4⟩
          have hz : H0 ≤ w3.heap.size := by rw [← HH.out]; exact HW.out.size
          replace HO : Hid (OwnR w4 H0 (.slice A l.length cap) l) := HO.out.below hG4.below (Nat.le_refl _)
          replace HW : Hid (Below H0 wo w4) := HW.out.trans (hG4.below.mono hz)
          clear hG4 hz HR3
          obtain ⟨n, hn⟩ : ∃ n, l.length = n := ⟨_, rfl⟩
          have HN : Hid (l.length = n) := hn
          rw [hn] at HO hcap hl
          rw [hn]
          clear hn
          go_wp2
          go_loopw [12] (fun vi wx => ∃ i : Nat, vi = .int .i64 i ∧ i ≤ n ∧ OwnR wx H0 (.slice A n cap) (wrt k l i) ∧ Below H0 wo wx) (fun vi _ => n - (intOf vi).toNat)
          case atStart => exact ⟨0, rfl, by omega, by show OwnR w4 H0 _ (wrt k l 0); exact HO.out, HW.out⟩
          case round =>
            clear HO HW
            obtain ⟨i, rfl, hi, hO, hW⟩ := hrel
            have HO : Hid (OwnR wr H0 (.slice A n cap) (wrt k l i)) := hO
            have HW : Hid (Below H0 wo wr) := hW
            clear hO hW
            by_cases hin : i = n
            · as_aux_lemma =>
                have hni := hin.symm
                subst hni
                have hwr : wrt k l n = List.replicate n (-(k : Int), (k : Int)) := by rw [← HN.out]; exact wrt_all
                have hO := HO.out
                rw [hwr] at hO
                have HR : Hid (R0 wr (.slice A n cap) (List.replicate n (-(k : Int), (k : Int)))) := hO.r0
                have HO : Hid (OwnR wr H0 (.slice A n cap) (List.replicate n (-(k : Int), (k : Int)))) := hO
                have HLg : Hid (n = 0 ∨ ∃ g, A = some ⟨g, 0, none⟩ ∧ H0 ≤ g) := by
                  by_cases h0 : n = 0
                  · exact .inl h0
                  · obtain ⟨g, c, e⟩ := Joins.ownsRow_form hO (by simp; omega)
                    injection e with e
                    subst e
                    exact .inr ⟨g, rfl, (World.ownsRow.lt hO g rfl).1⟩
                clear hO hwr
                go_wp2
                go_loopw [13, 14] (fun vl vi wx => ∃ (m : Nat) (lst : List (Int × Int)), vi = .int .i64 m ∧ m ≤ 9 ∧ lst.length = n + m ∧ List.replicate n (-(k : Int), (k : Int)) <+: lst ∧ OwnR wx H0 vl lst ∧ R0 wx (.slice A n cap) (List.replicate n (-(k : Int), (k : Int))) ∧ Below H0 wo wx) (fun _ vi _ => 9 - (intOf vi).toNat)
                case atStart => exact ⟨0, _, rfl, by omega, by simp, List.prefix_rfl, HO.out, HR.out, HW.out⟩
                case round =>
                  clear HO HR HW
                  obtain ⟨m, lst, rfl, hm, hll, hpre, hO, hR, hW⟩ := hrel
                  by_cases hm9 : m = 9
                  · as_aux_lemma =>
                      subst hm9
                      have hz : H0 ≤ wr.heap.size := by rw [← HH.out]; exact hW.size
                      have hzb : w1.heap.size ≤ H0 := by rw [← HH.out]; exact HX.out.size
                      have HVr : Hid (OwnV wr w1.heap.size u5 L) := HV.out.below hW (Nat.le_of_eq HH.out)
                      have HR : Hid (R0 wr (.slice A n cap) (List.replicate n (-(k : Int), (k : Int)))) := hR
                      have HW : Hid (Below H0 wo wr) := hW
                      clear hO hR hW hpre hll lst
                      go_wp2_with (at_builtin; go_must (refine push_V rfl _ _ rfl w1.heap.size _ _ rfl (World.ownsRow.alloc HVr.out _) _ _ (.slice A n cap) rfl rfl (by simp) (by omega) (by simp; omega) ?_); intro v' w9 hV9 hg9 ho9)
                      refine ⟨⟨k + 1, L ++ [.slice A n cap], by go_num, by omega, by simp; omega, hV9, fun j v hj => ?_, ?_⟩, by simp [intOf]; omega⟩
                      · by_cases hjk : j < L.length
                        · rw [List.getElem?_append_left hjk] at hj
                          exact (((HI.out j v hj).below HW.out (Nat.le_of_eq HH.out)).bel2 _ rfl).pushed hg9 ho9
                        · have hje : j = k := by
                            have := (List.getElem?_eq_some_iff.1 hj).1
                            simp at this
                            omega
                          subst hje
                          rw [List.getElem?_append_right (by omega), hL, Nat.sub_self] at hj
                          simp at hj
                          subst hj
                          exact it_new HV.out HH.out HLg.out (HR.out.below ((Below.refl _ wr).alloc (Nat.le_refl _) _) (Nat.le_refl _)) hl hg9 ho9
                      · exact (HX.out.trans ((HW.out.mono hzb).alloc (by omega) _)).trans ((Below.refl _ _).grown hg9 (by simp; omega) (fun b hb => (World.ownsRow.lt HVr.out b hb).1))
                  · as_aux_lemma =>
                      have hz : H0 ≤ wr.heap.size := by rw [← HH.out]; exact hW.size
                      go_wp2_with (at_builtin; go_must (refine push_keep rfl _ _ rfl H0 _ _ rfl (hO.alloc _) _ _ (-9000) 0 rfl (by simp) (by simp) (by omega) (by simp; omega) ?_); intro v' w8 hO1 hb1 hk1)
                      exact ⟨⟨m + 1, _, by go_num, by omega, by simp; omega, hpre.trans (List.prefix_append _ _), hO1, hk1 _ _ hpre (hR.below ((Below.refl _ wr).alloc (Nat.le_refl _) _) (Nat.le_refl _)), (hW.alloc hz _).trans hb1⟩, by simp [intOf]; omega⟩
            · as_aux_lemma =>
                have hwl : (wrt k l i).length = n := by rw [wrt_len (by rw [HN.out]; exact hi), HN.out]
                obtain ⟨g, rfl⟩ : ∃ g, A = some ⟨g, 0, none⟩ := by
                  obtain ⟨g, c, e⟩ := Joins.ownsRow_form HO.out (by rw [hwl]; omega)
                  exact ⟨g, by injection e⟩
                obtain ⟨-, -, f1, f2⟩ := own_at HO.out i (by rw [hwl]; omega)
                obtain ⟨a1, a2, c1, c2⟩ : ∃ a1 a2 : Int, wr.cell? ⟨g, i * 2, none⟩ = some (.int .i64 a1) ∧ wr.cell? ⟨g, i * 2 + 1, none⟩ = some (.int .i64 a2) := by
                  have hr := OwnR.reads HO.out i (by rw [hwl]; omega)
                  rw [Nat.zero_add] at hr
                  exact ⟨_, _, hr.1, hr.2⟩
                have HNX : Hid (OwnR ((wr.setCell ⟨g, i * 2, none⟩ (.int .i64 (-k))).setCell ⟨g, i * 2 + 1, none⟩ (.int .i64 k)) H0 (.slice (some ⟨g, 0, none⟩) n cap) (wrt k l (i + 1))) := by
                  have := own_put HO.out i (by rw [hwl]; omega) (-k) k
                  rw [wrt_set (by rw [HN.out]; omega)] at this
                  exact this
                have HLE : Hid (H0 ≤ g) := (World.ownsRow.lt HO.out g rfl).1
                clear HO
                go_wp2
                exact ⟨⟨i + 1, by go_num, by omega, HNX.out, (HW.out.setCell (p := ⟨g, i * 2, none⟩) HLE.out _).setCell (p := ⟨g, i * 2 + 1, none⟩) HLE.out _⟩, by simp [intOf]; omega⟩
        · have d1 : ((k : Int) % 2 == 1) = false := by rw [beq_eq_false_iff_ne]; omega
          obtain ⟨l, er, hl, HB2⟩ : ∃ l er, l.length ≤ 10 ∧ Hid (Both s l er) := ⟨la, ea, hla, HA⟩
          clear HA HBo
          go_wp2_with fail
          refine (HB2.out.1 _).mono ?_
          rintro e w2 ⟨v, rfl, hO, hb⟩
          rw [HH.out] at hO hb
          obtain ⟨A, cap, rfl, hcap, -⟩ := hO.r0
          have HO : Hid (OwnR w2 H0 (.slice A l.length cap) l) := hO
          have HW : Hid (Below H0 wo w2) := hb
          clear hO hb
          go_wp2_with fail
          refine (HB2.out.2 _).mono ?_
          rintro e w3 ⟨v3, rfl, hR3, hG3⟩
          have HR3 : Hid (Rs w3 v3 l) := hR3
          have hz : H0 ≤ w2.heap.size := by rw [← HH.out]; exact HW.out.size
          replace HO : Hid (OwnR w3 H0 (.slice A l.length cap) l) := HO.out.below hG3.below (Nat.le_refl _)
          replace HW : Hid (Below H0 wo w3) := HW.out.trans (hG3.below.mono hz)
          clear hR3 hG3 hz HB2
          go_wp2_with fail
          refine (same_any _ _ l _ (by omega) (OwnR.rs HO.out) HR3.out).mono ?_
          rintro e w4 ⟨rfl, hG4⟩
          have hz : H0 ≤ w3.heap.size := by rw [← HH.out]; exact HW.out.size
          replace HO : Hid (OwnR w4 H0 (.slice A l.length cap) l) := HO.out.below hG4.below (Nat.le_refl _)
          replace HW : Hid (Below H0 wo w4) := HW.out.trans (hG4.below.mono hz)
          clear hG4 hz HR3
          obtain ⟨n, hn⟩ : ∃ n, l.length = n := ⟨_, rfl⟩
          have HN : Hid (l.length = n) := hn
          rw [hn] at HO hcap hl
          rw [hn]
          clear hn
          go_wp2
          go_loopw [12] (fun vi wx => ∃ i : Nat, vi = .int .i64 i ∧ i ≤ n ∧ OwnR wx H0 (.slice A n cap) (wrt k l i) ∧ Below H0 wo wx) (fun vi _ => n - (intOf vi).toNat)
          case atStart => exact ⟨0, rfl, by omega, by show OwnR w4 H0 _ (wrt k l 0); exact HO.out, HW.out⟩
          case round =>
            clear HO HW
            obtain ⟨i, rfl, hi, hO, hW⟩ := hrel
            have HO : Hid (OwnR wr H0 (.slice A n cap) (wrt k l i)) := hO
            have HW : Hid (Below H0 wo wr) := hW
            clear hO hW
            by_cases hin : i = n
            · as_aux_lemma =>
                have hni := hin.symm
                subst hni
                have hwr : wrt k l n = List.replicate n (-(k : Int), (k : Int)) := by rw [← HN.out]; exact wrt_all
                have hO := HO.out
                rw [hwr] at hO
                have HR : Hid (R0 wr (.slice A n cap) (List.replicate n (-(k : Int), (k : Int)))) := hO.r0
                have HO : Hid (OwnR wr H0 (.slice A n cap) (List.replicate n (-(k : Int), (k : Int)))) := hO
                have HLg : Hid (n = 0 ∨ ∃ g, A = some ⟨g, 0, none⟩ ∧ H0 ≤ g) := by
                  by_cases h0 : n = 0
                  · exact .inl h0
                  · obtain ⟨g, c, e⟩ := Joins.ownsRow_form hO (by simp; omega)
                    injection e with e
                    subst e
                    exact .inr ⟨g, rfl, (World.ownsRow.lt hO g rfl).1⟩
                clear hO hwr
                go_wp2
                go_loopw [13, 14] (fun vl vi wx => ∃ (m : Nat) (lst : List (Int × Int)), vi = .int .i64 m ∧ m ≤ 9 ∧ lst.length = n + m ∧ List.replicate n (-(k : Int), (k : Int)) <+: lst ∧ OwnR wx H0 vl lst ∧ R0 wx (.slice A n cap) (List.replicate n (-(k : Int), (k : Int))) ∧ Below H0 wo wx) (fun _ vi _ => 9 - (intOf vi).toNat)
                case atStart => exact ⟨0, _, rfl, by omega, by simp, List.prefix_rfl, HO.out, HR.out, HW.out⟩
                case round =>
                  clear HO HR HW
                  obtain ⟨m, lst, rfl, hm, hll, hpre, hO, hR, hW⟩ := hrel
                  by_cases hm9 : m = 9
                  · as_aux_lemma =>
                      subst hm9
                      have hz : H0 ≤ wr.heap.size := by rw [← HH.out]; exact hW.size
                      have hzb : w1.heap.size ≤ H0 := by rw [← HH.out]; exact HX.out.size
                      have HVr : Hid (OwnV wr w1.heap.size u5 L) := HV.out.below hW (Nat.le_of_eq HH.out)
                      have HR : Hid (R0 wr (.slice A n cap) (List.replicate n (-(k : Int), (k : Int)))) := hR
                      have HW : Hid (Below H0 wo wr) := hW
                      clear hO hR hW hpre hll lst
                      go_wp2_with (at_builtin; go_must (refine push_V rfl _ _ rfl w1.heap.size _ _ rfl (World.ownsRow.alloc HVr.out _) _ _ (.slice A n cap) rfl rfl (by simp) (by omega) (by simp; omega) ?_); intro v' w9 hV9 hg9 ho9)
                      refine ⟨⟨k + 1, L ++ [.slice A n cap], by go_num, by omega, by simp; omega, hV9, fun j v hj => ?_, ?_⟩, by simp [intOf]; omega⟩
                      · by_cases hjk : j < L.length
                        · rw [List.getElem?_append_left hjk] at hj
                          exact (((HI.out j v hj).below HW.out (Nat.le_of_eq HH.out)).bel2 _ rfl).pushed hg9 ho9
                        · have hje : j = k := by
                            have := (List.getElem?_eq_some_iff.1 hj).1
                            simp at this
                            omega
                          subst hje
                          rw [List.getElem?_append_right (by omega), hL, Nat.sub_self] at hj
                          simp at hj
                          subst hj
                          exact it_new HV.out HH.out HLg.out (HR.out.below ((Below.refl _ wr).alloc (Nat.le_refl _) _) (Nat.le_refl _)) hl hg9 ho9
                      · exact (HX.out.trans ((HW.out.mono hzb).alloc (by omega) _)).trans ((Below.refl _ _).grown hg9 (by simp; omega) (fun b hb => (World.ownsRow.lt HVr.out b hb).1))
                  · as_aux_lemma =>
                      have hz : H0 ≤ wr.heap.size := by rw [← HH.out]; exact hW.size
                      go_wp2_with (at_builtin; go_must (refine push_keep rfl _ _ rfl H0 _ _ rfl (hO.alloc _) _ _ (-9000) 0 rfl (by simp) (by simp) (by omega) (by simp; omega) ?_); intro v' w8 hO1 hb1 hk1)
                      exact ⟨⟨m + 1, _, by go_num, by omega, by simp; omega, hpre.trans (List.prefix_append _ _), hO1, hk1 _ _ hpre (hR.below ((Below.refl _ wr).alloc (Nat.le_refl _) _) (Nat.le_refl _)), (hW.alloc hz _).trans hb1⟩, by simp [intOf]; omega⟩
            · as_aux_lemma =>
                have hwl : (wrt k l i).length = n := by rw [wrt_len (by rw [HN.out]; exact hi), HN.out]
                obtain ⟨g, rfl⟩ : ∃ g, A = some ⟨g, 0, none⟩ := by
                  obtain ⟨g, c, e⟩ := Joins.ownsRow_form HO.out (by rw [hwl]; omega)
                  exact ⟨g, by injection e⟩
                obtain ⟨-, -, f1, f2⟩ := own_at HO.out i (by rw [hwl]; omega)
                obtain ⟨a1, a2, c1, c2⟩ : ∃ a1 a2 : Int, wr.cell? ⟨g, i * 2, none⟩ = some (.int .i64 a1) ∧ wr.cell? ⟨g, i * 2 + 1, none⟩ = some (.int .i64 a2) := by
                  have hr := OwnR.reads HO.out i (by rw [hwl]; omega)
                  rw [Nat.zero_add] at hr
                  exact ⟨_, _, hr.1, hr.2⟩
                have HNX : Hid (OwnR ((wr.setCell ⟨g, i * 2, none⟩ (.int .i64 (-k))).setCell ⟨g, i * 2 + 1, none⟩ (.int .i64 k)) H0 (.slice (some ⟨g, 0, none⟩) n cap) (wrt k l (i + 1))) := by
                  have := own_put HO.out i (by rw [hwl]; omega) (-k) k
                  rw [wrt_set (by rw [HN.out]; omega)] at this
                  exact this
                have HLE : Hid (H0 ≤ g) := (World.ownsRow.lt HO.out g rfl).1
                clear HO
                go_wp2
                exact ⟨⟨i + 1, by go_num, by omega, HNX.out, (HW.out.setCell (p := ⟨g, i * 2, none⟩) HLE.out _).setCell (p := ⟨g, i * 2 + 1, none⟩) HLE.out _⟩, by simp [intOf]; omega⟩
end Go.Proofs
