/-
  The reference's Cut, Join and Proper, walked.
-/
import Derived.RangeFuncNested
import Derived.RangeFuncBound
import Derived.RangeFuncCalls
import Derived.RangeFuncLeaves
import Derived.Shelf.Abstract
import Derived.Shelf.RegionOpen
import Derived.WalkKit
import Derived.WalkSpells
import Derived.WalkLawsBesides
import Derived.OwnWalkIn
import Derived.TacticsInMore
import Derived.LoopNIn
import Derived.LoopIn
import Derived.BigQuiet
import Derived.RegionIn
import Derived.Deep.QuietTactic
import Derived.Lib.OthersKept
import Derived.Maps.AppendAt
import Derived.Lib.IndexBytes
import Derived.Lib.SmallJoins
import Derived.Deep.RegionWith
import Derived.ArgAppend
import Derived.Laws.CopyOwn
import Derived.Laws.MakeOwn
import Derived.Test.YtahifnjompmcbaaDoorBx
namespace Go.Proofs
open Go.RowKit Go.Shelf

set_option maxRecDepth 100000
attribute [local go_sem] Oper.semAt_some

/-- a row of numbers of the call's own -/
def OwnI (w : World) (base : Nat) (v : Value) (l : List Int) : Prop := w.ownsRow base 3 1 v l.length (l.map (Value.int .i64))
theorem OwnI.alloc {w : World} {base : Nat} {v : Value} {l : List Int} (h : OwnI w base v l) (o : Obj) : OwnI (w.alloc o) base v l := World.ownsRow.alloc h o
theorem OwnI.ints {w : World} {base : Nat} {v : Value} {l : List Int} (h : OwnI w base v l) : Ints w v l := Ints.of_row h
/-- one number more behind such a row -/
theorem push_I {ops : Array Oper} {rest : List Oper} {o : Oper} {a : Act} {Q : Exit → Act → World → Prop} {w : World} (hgd : o.guard = none) (s x : Operand)
    (ho : o.op = .call { callee := .builtin .append, args := #[s, x], argTypes := #[25, 25] })
    (base : Nat) (v : Value) (l : List Int) (hs : a.eval s = v) (hown : OwnI w base v l) (g c : Nat) (p : Int) (hx : a.eval x = .slice (some ⟨g, 0, none⟩) 1 c)
    (hp : w.cell? ⟨g, 0, none⟩ = some (.int .i64 p)) (hl : l.length + 1 ≤ 8796093022208) (hbase : base ≤ w.heap.size)
    (h : ∀ v' w', OwnI w' base v' (l ++ [p]) → Below base w w' → wpList Tryd.prog ops Q rest (a.put o.dst v') w') : wpList Tryd.prog ops Q (o :: rest) a w := by
  obtain ⟨i0, hi, hz0, hz1, hz2⟩ := uinfo_parts info3
  refine wpList_append_own w hgd s x 25 ho base 3 i0 (.int .i64 0) 1 8 Tryd.underlying25 hi hz0 hz1 hz2 rfl (by decide) v l.length _ hs hown ⟨g, 0, none⟩ 1 c [.int .i64 p] hx rfl ?_ (by simp; rfl) (by unfold maxLen; omega) (by omega) hbase (fun v' w' h2 h3 _ => h v' w' ?_ ((Below.refl _ w).grown h3 hbase (fun k hk => (World.ownsRow.lt hown k hk).1)))
  · intro j u hj
    match j, hj with
    | 0, hj => simp at hj; subst hj; exact hp
  · unfold OwnI
    rw [List.map_append, List.length_append]
    exact h2
/-- such a row, or one with no room that nobody has grown yet -/
def OwnI0 (w : World) (base : Nat) (v : Value) (l : List Int) : Prop := (∃ A, v = .slice A 0 0 ∧ l = []) ∨ OwnI w base v l
theorem OwnI0.alloc {w : World} {base : Nat} {v : Value} {l : List Int} (h : OwnI0 w base v l) (o : Obj) : OwnI0 (w.alloc o) base v l := h.imp id fun h => h.alloc o
theorem OwnI0.ints {w : World} {base : Nat} {v : Value} {l : List Int} (h : OwnI0 w base v l) : Ints w v l := by
  rcases h with ⟨A, rfl, rfl⟩ | h
  · exact ⟨A, 0, rfl, .inl rfl⟩
  · exact h.ints
theorem push_I0 {ops : Array Oper} {rest : List Oper} {o : Oper} {a : Act} {Q : Exit → Act → World → Prop} {w : World} (hgd : o.guard = none) (s x : Operand)
    (ho : o.op = .call { callee := .builtin .append, args := #[s, x], argTypes := #[25, 25] })
    (base : Nat) (v : Value) (l : List Int) (hs : a.eval s = v) (hown : OwnI0 w base v l) (g c : Nat) (p : Int) (hx : a.eval x = .slice (some ⟨g, 0, none⟩) 1 c)
    (hp : w.cell? ⟨g, 0, none⟩ = some (.int .i64 p)) (hl : l.length + 1 ≤ 8796093022208) (hbase : base ≤ w.heap.size)
    (h : ∀ v' w', OwnI0 w' base v' (l ++ [p]) → Below base w w' → wpList Tryd.prog ops Q rest (a.put o.dst v') w') : wpList Tryd.prog ops Q (o :: rest) a w := by
  rcases hown with ⟨A, rfl, rfl⟩ | hown
  · obtain ⟨i0, hi, hz0, hz1, hz2⟩ := uinfo_parts info3
    refine wpList_append_grows w hgd s x 25 ho 3 i0 (.int .i64 0) 1 8 Tryd.underlying25 hi hz0 hz1 hz2 rfl (by decide) A 0 0 [] hs (fun _ => ⟨rfl, rfl⟩) rfl (fun b _ j u hj => by simp at hj) ⟨g, 0, none⟩ 1 c [.int .i64 p] hx rfl ?_ (by simp; rfl) (by omega) (by unfold maxLen; omega) (by omega) (fun v' w' h2 h3 => h v' w' (.inr ?_) ((Below.refl _ w).grown h3 hbase (fun k hk => by cases hk)))
    · intro j u hj
      match j, hj with
      | 0, hj => simp at hj; subst hj; exact hp
    · exact Joins.ownsRow_le h2 hbase
  · exact push_I hgd s x ho base v l hs hown g c p hx hp hl hbase (fun v' w' h1 h2 => h v' w' (.inr h1) h2)
theorem ints_at {l : List (Nat × Nat)} {i : Nat} {x : Nat × Nat} (h : l[i]? = some x) : (ints l).take (i + 1) = (ints l).take i ++ [(x.2 : Int)] := by
  obtain ⟨hlt, e⟩ := List.getElem?_eq_some_iff.1 h
  rw [List.take_succ_eq_append_getElem (by rw [ints_length]; exact hlt)]
  simp [ints, e]
set_option maxHeartbeats 4000000 in
theorem rcut_any (s : ByteArray) (w : World) (hs : s.size ≤ 4398046511104) : Calls Tryd.prog 22 #[.string s] w fun e w' => ∃ v, e = .returned v ∧ Ints w' v (ints (units s)) ∧ Below w.heap.size w w' := by
  have hul := units_len s
  go_enter Tryd.func22, Tryd.ntmps22
  go_wp2_with fail
  refine (runits_any s _ hs).mono ?_
  rintro e w1 ⟨v, rfl, hO, hb⟩
  obtain ⟨A, n, cap, rfl, hn, hcells⟩ : ∃ A n cap, v = .slice A n cap ∧ n = (units s).length ∧ ∀ j x, (units s)[j]? = some x → ∃ g, A = some ⟨g, 0, none⟩ ∧ g < w1.heap.size ∧ w1.cell? ⟨g, j * 2 + 1, none⟩ = some (.int .i64 x.2) ∧ n ≤ cap := by
    rcases hO.2 with ⟨rfl, h0⟩ | ⟨g, cap, cur, rfl, _, hh, hc, _⟩
    · have : units s = [] := List.eq_nil_of_length_eq_zero h0
      exact ⟨none, 0, 0, rfl, by rw [this]; rfl, fun j x h => by rw [this] at h; simp at h⟩
    · exact ⟨_, _, cap, rfl, rfl, fun j x h => ⟨g, rfl, (Array.getElem?_eq_some_iff.1 hh).1, (OwnU.at hO h).2, hc⟩⟩
  have HC : Hid (∀ j x, (units s)[j]? = some x → ∃ g, A = some ⟨g, 0, none⟩ ∧ g < w1.heap.size ∧ w1.cell? ⟨g, j * 2 + 1, none⟩ = some (.int .i64 x.2) ∧ n ≤ cap) := hcells
  have HN : Hid (n = (units s).length) := hn
  have hni : n ≤ 4398046511104 := by omega
  have hb0 : Below w.heap.size w w1 := by
    first | exact hb | exact ((Below.refl _ w).alloc (Nat.le_refl _) _).trans (hb.mono (by simp))
  have HB : Hid (Below w.heap.size w w1) := hb0
  have hz1 : w.heap.size ≤ w1.heap.size := hb0.size
  clear hcells hb hn hO hb0 hul
  go_wp2
  go_loopw [3, 5] (fun vo vi wr => ∃ i : Nat, vi = .int .i64 i ∧ i ≤ n ∧ OwnI0 wr w1.heap.size vo ((ints (units s)).take i) ∧ Below w1.heap.size w1 wr) (fun _ vi _ => n - (intOf vi).toNat)
  case atStart => exact ⟨0, rfl, by omega, .inl ⟨_, rfl, rfl⟩, Below.refl _ _⟩
  case round =>
    obtain ⟨i, rfl, hi, hO, hW⟩ := hrel
    have hz : w1.heap.size ≤ wr.heap.size := hW.size
    by_cases hin : i = n
    · as_aux_lemma =>
        have hni' := hin.symm
        subst hni'
        have HO : Hid (Ints wr u3 (ints (units s))) := by
          have := hO.ints
          rw [List.take_of_length_le (by rw [ints_length, HN.out]; exact Nat.le_refl _)] at this
          exact this
        have HW : Hid (Below w1.heap.size w1 wr) := hW
        clear hO hW
        go_wp2
        go_ret
        exact ⟨_, rfl, HO.out, HB.out.trans (HW.out.mono hz1)⟩
    · as_aux_lemma =>
        obtain ⟨x, hx⟩ : ∃ x, (units s)[i]? = some x := ⟨_, List.getElem?_eq_getElem (by rw [← HN.out]; omega)⟩
        obtain ⟨g, rfl, hg, hc, hcap⟩ := HC.out i x hx
        have hc' := (hW.cell (p := ⟨g, i * 2 + 1, none⟩) hg).trans hc
        have HT : Hid ((ints (units s)).take (i + 1) = (ints (units s)).take i ++ [(x.2 : Int)]) := ints_at hx
        have hlen : ((ints (units s)).take i).length = i := by rw [List.length_take, ints_length, ← HN.out]; omega
        have HO : Hid (OwnI0 wr w1.heap.size u3 ((ints (units s)).take i)) := hO
        have HW : Hid (Below w1.heap.size w1 wr) := hW
        have HL : Hid (((ints (units s)).take i).length = i) := hlen
        clear hx hc hO hW hlen
        go_wp2_with (at_builtin; go_must (refine push_I0 rfl _ _ rfl w1.heap.size _ _ rfl (HO.out.alloc _) _ _ (x.2 : Int) rfl (by simp) (by rw [HL.out]; omega) (by simp; omega) ?_); intro v' w3 hO1 hb3)
        exact ⟨⟨i + 1, by go_num, by omega, by rw [HT.out]; exact hO1, (HW.out.alloc hz _).trans hb3⟩, by simp [intOf]; omega⟩
theorem row_below5 {w w' : World} {base n : Nat} {e : TypeId} {v : Value} {k : Nat} {xs : List Value} (h : w.ownsRow base e 1 v k xs) (hb : Below n w w') (hn : w.heap.size ≤ n) : w'.ownsRow base e 1 v k xs := by
  refine ⟨h.1, ?_⟩
  rcases h.2 with h | ⟨g, cap, cur, rfl, h1, h2, h3⟩
  · exact .inl h
  · have : g < w.heap.size := (Array.getElem?_eq_some_iff.1 h2).1
    exact .inr ⟨g, cap, cur, rfl, h1, (hb.block g (by omega)).trans h2, h3⟩
theorem wd_pos_size (u : Int) (h : wd u ≠ 0) : 0 < (put u).size := by
  by_cases a : 1114240 ≤ u ∧ u ≤ 1114367
  · rw [put_stray a]; exact Nat.one_pos
  · by_cases b : (0 ≤ u ∧ u < 55296) ∨ (57343 < u ∧ u ≤ 1114111)
    · rw [put_rune b]
      obtain ⟨c, rfl⟩ : ∃ c : Nat, u = c := ⟨u.toNat, by omega⟩
      by_cases h1 : c < 128
      · rw [enc1 c h1, size_lit]; simp
      · by_cases h2 : c < 2048
        · rw [enc2 c (by omega) h2, size_lit]; simp
        · by_cases h3 : c < 65536
          · rw [enc3 c (by omega) h3 (by omega), size_lit]; simp
          · rw [enc4 c (by omega) (by omega), size_lit]; simp
    · exact absurd (wd_no (by omega) (by omega)) h
theorem bc_append (a b : List UInt8) : bc (a ++ b) = bc a ++ bc b := by simp [bc]
theorem bc_length (a : List UInt8) : (bc a).length = a.length := by simp [bc]
set_option maxHeartbeats 4000000 in
theorem rjoin_any (v : Value) (l : List Int) (w : World) (hv : Ints w v l) (hl : l.length ≤ 4398046511104) :
    Calls Tryd.prog 29 #[v] w fun e w' => e = .returned (JoinRes (joinB l)) ∧ Below w.heap.size w w' := by
  obtain ⟨i0, hi0, hz0, hz1, hz2⟩ := uinfo_parts info5
  obtain ⟨a, cap, rfl, hc⟩ := hv
  obtain ⟨n, hn⟩ : ∃ n, l.length = n := ⟨_, rfl⟩
  have HN : Hid (l.length = n) := hn
  rw [hn] at hl ⊢
  obtain ⟨R, hR⟩ : ∃ R, joinB l = R := ⟨_, rfl⟩
  rw [hR]
  have HC : Hid (l = [] ∨ ∃ g o, a = some ⟨g, o, none⟩ ∧ ∀ j, j < l.length → w.cell? ⟨g, o + j, none⟩ = some (.int .i64 (l[j]?.getD 0))) := hc
  have HR : Hid (joinB l = R) := hR
  clear hc hR hn
  go_enter Tryd.func29, Tryd.ntmps29
  go_wp2_with fail
  go_loopw [4, 5] (fun vo vi wr => ∃ (k : Nat) (acc : List UInt8), vi = .int .i64 k ∧ k ≤ n ∧ acc.length ≤ 4 * k ∧ wr.ownsRow w.heap.size 5 1 vo acc.length (bc acc) ∧ Hid (R = (joinB (l.drop k)).map (acc ++ ·)) ∧ Below w.heap.size w wr) (fun _ vi _ => n - (intOf vi).toNat)
  case atStart =>
    refine ⟨0, [], rfl, Nat.zero_le _, Nat.zero_le _, World.ownsRow_lit w _ 0 (Nat.le_refl _) (by unfold maxLen; omega) rfl, ?_, (Below.refl _ _).alloc (Nat.le_refl _) _⟩
    show R = (joinB l).map ([] ++ ·)
    rw [HR.out]; cases R <;> rfl
  case round =>
    clear HR
    obtain ⟨k, acc, rfl, hk, hacc, hO, hJ, hb⟩ := hrel
    have HO : Hid (wr.ownsRow w.heap.size 5 1 u4 acc.length (bc acc)) := hO
    have HB : Hid (Below w.heap.size w wr) := hb
    clear hO hb
    by_cases hlt : k < n
    · have hk2 : k < l.length := by rw [HN.out]; exact hlt
      obtain ⟨g, o, rfl, hcell⟩ := HC.out.resolve_left (fun e => by rw [e] at hk2; simp at hk2)
      have hcx := hcell k hk2
      have hgw : g < w.heap.size := by
        obtain ⟨ob, ho, _⟩ := cells_of_cell hcx
        exact (Array.getElem?_eq_some_iff.1 ho).1
      have hc1 := (HB.out.cell (p := ⟨g, o + k, none⟩) hgw).trans hcx
      have hJ1 := hJ.out
      rw [List.drop_eq_getElem_cons hk2] at hJ1
      have hget : l[k]?.getD 0 = l[k] := by simp [hk2]
      rw [hget] at hc1
      generalize l[k] = u at hc1 hJ1
      clear hcell hcx hget hJ HC
      have hlt' : (k : Int) < (n : Int) := by omega
      by_cases hw : wd u = 0
      · as_aux_lemma =>
          have HRN : Hid (R = none) := by show R = none; rw [hJ1]; simp [joinB, hw]
          have cW : Hid (∀ W : World, Calls Tryd.prog 25 #[.int .i64 u] W fun e w' => e = .returned (.int .i64 0) ∧ w' = W) := fun W => by have := rwidth_any u W; rw [hw] at this; exact this
          clear hJ1 hw
          go_wp2_with (go_at_call 25; refine (cW.out _).mono ?_; rintro e w' ⟨rfl, rfl⟩)
          go_ret2
          exact ⟨by rw [HRN.out]; rfl, HB.out⟩
      · as_aux_lemma =>
          have HJ2 : Hid (R = (joinB (l.drop (k + 1))).map ((acc ++ (put u).data.toList) ++ ·)) := by
            show R = _
            rw [hJ1, joinB_step hw, Option.map_map]
            congr 1
            funext t
            simp
          have hps := put_size_le u
          have hp0 := wd_pos_size u hw
          have hw0 : (wd u == 0) = false := beq_eq_false_iff_ne.2 hw
          have cW : Hid (∀ W : World, Calls Tryd.prog 25 #[.int .i64 u] W fun e w' => e = .returned (.int .i64 (wd u)) ∧ w' = W) := fun W => rwidth_any u W
          generalize wd u = d at *
          clear hJ1 hw
          go_wp2_with (go_at_call 25; refine (cW.out _).mono ?_; rintro e w' ⟨rfl, rfl⟩)
          refine (bytes_any _ _).mono ?_
          rintro e w2 ⟨v2, rfl, ho2, hb2⟩
          obtain ⟨m, hm⟩ : ∃ m, (put u).size = m := ⟨_, rfl⟩
          rw [hm] at ho2 hps hp0
          obtain ⟨g2, c2, rfl⟩ := Joins.ownsRow_form ho2 hp0
          have hO2 : w2.ownsRow w.heap.size 5 1 u4 acc.length (bc acc) := row_below5 HO.out hb2 (Nat.le_refl _)
          have hB2 : Below w.heap.size w w2 := HB.out.trans (hb2.mono HB.out.size)
          have HM : Hid ((put u).data.toList.length = m) := by show _ = _; rw [← Lib.size_eq, hm]
          have hz := hB2.size
          clear hb2 cW HO
          go_wp2_with (at_builtin; go_must (refine wpList_append_own _ rfl _ _ 56 rfl w.heap.size 5 i0 (.int .u8 0) 1 1 Tryd.underlying56 hi0 hz0 hz1 hz2 rfl (by decide) _ _ _ rfl hO2 ⟨g2, 0, none⟩ m c2 (bc (put u).data.toList) rfl (by rw [bc_length, HM.out]; omega) (fun j x hx => ho2.cells rfl j x hx) (by intro x hx; simp [bc] at hx; obtain ⟨b, _, rfl⟩ := hx; rfl) (by unfold maxLen; omega) (by omega) (by omega) ?_); intro v' w3 hown' hgrow _)
          have hB3 : Below w.heap.size w w3 := hB2.trans ((Below.refl _ w2).grown hgrow hz (fun j e => (World.ownsRow.lt hO2 j e).1))
          exact ⟨⟨k + 1, acc ++ (put u).data.toList, by go_num, by omega, by rw [List.length_append, HM.out]; omega, by rw [bc_append, List.length_append, HM.out]; exact hown', HJ2, hB3⟩, by simp [intOf]; omega⟩
    · as_aux_lemma =>
        have hkn : k = n := by omega
        have hRR : R = some acc := by
          have := hJ.out
          rw [List.drop_of_length_le (by rw [HN.out, hkn]; exact Nat.le_refl _)] at this
          rw [this]; simp [joinB]
        subst hRR
        have hcv := conv_row wr _ u4 acc HO.out
        clear hJ HC
        go_wp2
        go_ret2
        exact ⟨rfl, HB.out⟩
end Go.Proofs
