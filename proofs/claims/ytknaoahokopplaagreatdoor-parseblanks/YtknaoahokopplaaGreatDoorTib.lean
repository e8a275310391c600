/-
  ParseBlanks, walked.
-/
import Derived.Test.YtknaoahokopplaaGreatDoorThb
namespace Go.Proofs
open Go.RowKit Go.Shelf

set_option maxRecDepth 100000
attribute [local go_sem] Oper.semAt_some

set_option maxHeartbeats 4000000 in
theorem blanks_no (s r : ByteArray) (v : Value) (fa fe : Int) (h : PNo s fa fe) (w : World) : Calls Tryz.prog 7 #[.string s, v, .string r] w fun e w' => e = .returned (.bool true) ∧ Below w.heap.size w w' := by
  obtain ⟨ga, ge, hg⟩ := rscan_any s
  have hd : (fe != 0) = true := by simpa using h.1
  have HH : Hid (PNo s fa fe ∧ ∀ w, Calls Tryz.prog 22 #[.string s] w fun e w' => ∃ A n c, e = .returned (.tuple #[.slice A n c, .agg #[.int .i64 ga, .int .i64 ge]]) ∧ Below w.heap.size w w') := ⟨h, hg⟩
  clear h hg
  go_enter Tryz.func7, Tryz.ntmps7
  go_wp2_with fail
  refine (shown_any _).mono ?_
  rintro x w1 ⟨rfl, hb1⟩
  go_wp2_with fail
  refine (HH.out.1.2 _).mono ?_
  rintro x w2 ⟨rfl, hb2⟩
  go_wp2_with fail
  refine (HH.out.2 _).mono ?_
  rintro x w3 ⟨A, n, c, rfl, hb3⟩
  have hF : FB w3 w2.heap.size fa fe := (FB.new w2 fa fe).below hb3 (by simp)
  have HB : Hid (Below w.heap.size w w3) := (hb1.trans (hb2.mono hb1.size)).trans (((Below.refl _ w2).alloc (Nat.le_refl _) _).trans (hb3.mono (by simp)) |>.mono (by have := hb1.size; have := hb2.size; omega))
  have c1 := fun o => (hF.allocs o).cells.2.1
  clear hb1 hb2 hb3 hF
  go_wp2
  go_ret
  exact ⟨rfl, HB.out.alloc HB.out.size _⟩
/-- what was told of the text, and stays -/
structure BF (w W : World) (s : ByteArray) (toks : List Tok) (tv : Value) (ls : List Ln) (lA : Option Addr) : Prop where
  rt : RT W tv toks
  rl : RdLs 3 W lA ls.length ls
  bel : Below w.heap.size w W
theorem BF.after {w W W' : World} {s : ByteArray} {toks : List Tok} {tv : Value} {ls : List Ln} {lA : Option Addr} (h : BF w W s toks tv ls lA) (hb : Below W.heap.size W W') : BF w W' s toks tv ls lA :=
  ⟨h.rt.below hb (Nat.le_refl _), h.rl.ck (ck_below hb), h.bel.trans (hb.mono h.bel.size)⟩
theorem ins_bound (s L : List UInt8) (c : Nat → Bool) (toks : List Tok) (i p : Nat) (hs : s.length ≤ 32768) (hl : toks.length ≤ 32768) (hL : L.length ≤ 57) : (ins s L c i p toks).length ≤ 2000000000 := by
  have h := ins_len s L c toks i p
  have h1 : s.length * (toks.length + 1) ≤ 32768 * 32769 := Nat.mul_le_mul hs (by omega)
  have h2 : toks.length * L.length ≤ 32768 * 57 := Nat.mul_le_mul hl hL
  omega
theorem lines_len (e : Int) : ∀ (f : Nat) (ts : List Tok) (ls : List Ln) (r : List Tok), linesT e f ts = .ok ls r → ls.length ≤ f
  | 0, ts, ls, r, h => by
    unfold linesT at h
    cases h
    simp
  | f + 1, ts, ls, r, h => by
    unfold linesT at h
    split at h
    · cases h
      simp
    · cases hl : lineT e ts with
      | no a c => rw [hl] at h; cases h
      | ok l r1 =>
        rw [hl] at h
        simp only [Res.bind] at h
        cases hs : linesT e f r1 with
        | no a c => rw [hs] at h; cases h
        | ok ls2 r2 =>
          rw [hs] at h
          cases h
          have := lines_len e f r1 ls2 _ hs
          simp
          omega
def hasI (ws : List Int) (i : Nat) : Bool := decide ((i : Int) ∈ ws)
set_option maxHeartbeats 8000000 in
theorem blanks_yes (s r : ByteArray) (v1 : Value) (ws : List Int) (hs : s.size ≤ 32768) (_hr : r.size ≤ maxLen) (hws : ws.length ≤ maxLen) (toks : List Tok) (fa : Nat) (ls : List Ln) (rr : List Tok) (h1 : Run s 0 true toks fa 0) (h2 : RRun s 0 true toks fa 0) (hl : toks.length ≤ 32768) (hS : linesT s.size toks.length toks = .ok ls rr) (w : World) (hv : Ints w v1 ws) :
    Calls Tryz.prog 7 #[.string s, v1, .string r] w fun e w' => e = .returned (.bool true) ∧ Below w.heap.size w w' := by
  have HH : Hid (Run s 0 true toks fa 0 ∧ RRun s 0 true toks fa 0 ∧ linesT s.size toks.length toks = .ok ls rr ∧ PYes s ls ∧ Ints w v1 ws) := ⟨h1, h2, hS, parse_yes s hs toks fa h1 hl hS, hv⟩
  obtain ⟨va, vc, rfl, hv⟩ := hv
  have hws' : ws.length ≤ 9223372036854775807 := hws
  have hlsl := lines_len _ _ _ _ _ hS
  have HV : Hid (ws = [] ∨ ∃ g o, va = some ⟨g, o, none⟩ ∧ ∀ j, j < ws.length → w.cell? ⟨g, o + j, none⟩ = some (.int .i64 (ws[j]?.getD 0))) := hv
  clear h1 h2 hS hv
  go_enter Tryz.func7, Tryz.ntmps7
  go_wp2_with fail
  refine (shown_any _).mono ?_
  rintro x w1 ⟨rfl, hb1⟩
  go_wp2_with fail
  refine (HH.out.2.2.2.1 _).mono ?_
  rintro x w2 ⟨lv, rfl, hL, hb2⟩
  obtain ⟨lA, lc, rfl, hL2⟩ := hL.rd
  clear hL
  go_wp2_with fail
  refine (rscan_run s toks fa 0 hs HH.out.2.1 _).mono ?_
  rintro x w3 ⟨tv, rfl, hT, hb3⟩
  rw [if_pos rfl] at hT
  have hF : FB w3 w2.heap.size 0 0 := (FB.new w2 0 0).below hb3 (by simp)
  obtain ⟨tA, tc, rfl⟩ := formT hT
  have hBF : BF w w3 s toks (.slice tA toks.length tc) ls lA := ⟨hT.rt, hL2.ck (ck_below (((Below.refl _ w2).alloc (Nat.le_refl _) _).trans (hb3.mono (by simp)))), (hb1.trans (hb2.mono hb1.size)).trans (((Below.refl _ w2).alloc (Nat.le_refl _) _).trans (hb3.mono (by simp)) |>.mono (by have := hb1.size; have := hb2.size; omega))⟩
  have HB : Hid (BF w (w3.alloc (.cells #[.int .i64 fa, .int .i64 0] 32)) s toks (.slice tA toks.length tc) ls lA) := hBF.after ((Below.refl _ w3).alloc (Nat.le_refl _) _)
  have c1 := (hF.allocs (.cells #[.int .i64 fa, .int .i64 0] 32)).cells.2.1
  clear hb1 hb2 hb3 hF hBF hT hL2
  have hcv := Lib.run_convert_bytes_const (P := Tryz.prog) (w3.alloc (.cells #[.int .i64 fa, .int .i64 0] 32)) 50 5 #[.int .u8 32, .int .u8 9, .int .u8 13, .int .u8 10, .int .u8 35] 5 5 Tryz.underlying50 Tryz.underlying5
  rw [World.size_alloc] at hcv
  go_upto_block 0 with fail
  obtain ⟨W, hW⟩ : ∃ W, W = w3.alloc (.cells #[.int .i64 fa, .int .i64 0] 32) := ⟨_, rfl⟩
  have hsz : W.heap.size = w3.heap.size + 1 := by rw [hW]; simp
  rw [← hW] at HB ⊢
  rw [← hsz]
  have HL : Hid (LetV (W.alloc (.cells #[.int .u8 32, .int .u8 9, .int .u8 13, .int .u8 10, .int .u8 35] 5 (5, 6))) W.heap.size (.slice (some ⟨W.heap.size, 0, none⟩) 5 5) [32, 9, 13, 10, 35]) := by
    refine .inr ⟨W.heap.size, rfl, Nat.le_refl _, by simp, fun j u hj => ?_⟩
    simp only [World.cell?, World.alloc_heap_new]
    simpa [bc] using hj
  clear hW hsz hcv c1
  go_cut [12] (fun v12 wx => Hid (∃ x, LetV wx W.heap.size v12 ([32, 9, 13, 10, 35] ++ x) ∧ (∀ c ∈ x, c.toNat ≠ 10) ∧ x.length ≤ 50 ∧ Below W.heap.size W wx))
  case first =>
    go_wp2
    go_loopw [12, 13] (fun v12 v13 wr => ∃ k : Nat, v13 = .int .i64 k ∧ k ≤ 50 ∧ k ≤ r.size ∧ Hid (∃ x, LetV wr W.heap.size v12 ([32, 9, 13, 10, 35] ++ x) ∧ (∀ c ∈ x, c.toNat ≠ 10) ∧ x.length ≤ k ∧ Below W.heap.size W wr)) (fun _ v13 _ => 50 - (intOf v13).toNat)
    case atStart => exact ⟨0, rfl, by omega, by omega, [], HL.out, by simp, by simp, (Below.refl _ W).alloc (Nat.le_refl _) _⟩
    case round =>
      obtain ⟨k, rfl, hk, hkr, HX⟩ := hrel
      by_cases hc : k < r.size ∧ k < 50
      · obtain ⟨h1, h2⟩ := hc
        have e1 : decide ((k : Int) < (r.size : Int)) = true := by simpa using h1
        have e2 : decide ((k : Int) < 50) = true := by simp; omega
        obtain ⟨x, hx1, hx2, hx3, hx4⟩ := HX.out
        by_cases h10 : r[k].toNat = 10
        · have HY : Hid (∃ x, LetV wr W.heap.size u12 ([32, 9, 13, 10, 35] ++ x) ∧ (∀ c ∈ x, c.toNat ≠ 10) ∧ x.length ≤ k + 1 ∧ Below W.heap.size W wr) := ⟨x, hx1, hx2, by omega, hx4⟩
          clear HX hx1 hx2 hx3 hx4
          go_wp2
          exact ⟨⟨k + 1, by go_num, by omega, by omega, HY⟩, by simp [intOf]; omega⟩
        · have HY : Hid (LetV wr W.heap.size u12 ([32, 9, 13, 10, 35] ++ x) ∧ (∀ c ∈ x, c.toNat ≠ 10) ∧ Below W.heap.size W wr) := ⟨hx1, hx2, hx4⟩
          have e3 : (((r[k].toNat : Nat) : Int) != 10) = true := by simp; omega
          have hz : W.heap.size ≤ wr.heap.size := hx4.size
          clear HX hx1 hx2 hx4
          go_wp2_with (first | (at_builtin; go_must (refine push_Lb rfl _ _ rfl W.heap.size _ _ rfl (HY.out.1.alloc _) wr.heap.size r[k] rfl (by simp) (by simp; omega) (by simp; omega) ?_); intro v' w5 hO5 hb5) | fail)
          have HZ : Hid (∃ x, LetV w5 W.heap.size v' ([32, 9, 13, 10, 35] ++ x) ∧ (∀ c ∈ x, c.toNat ≠ 10) ∧ x.length ≤ k + 1 ∧ Below W.heap.size W w5) := ⟨x ++ [r[k]], by rw [← List.append_assoc]; exact .inl hO5, fun c hc => by
            rcases List.mem_append.1 hc with h | h
            · exact HY.out.2.1 c h
            · rw [List.mem_singleton.1 h]; exact h10, by simp; omega, (HY.out.2.2.alloc hz _).trans hb5⟩
          clear hO5 hb5 HY
          go_wp2
          exact ⟨⟨k + 1, by go_num, by omega, by omega, HZ⟩, by simp [intOf]; omega⟩
      · have HY : Hid (∃ x, LetV wr W.heap.size u12 ([32, 9, 13, 10, 35] ++ x) ∧ (∀ c ∈ x, c.toNat ≠ 10) ∧ x.length ≤ 50 ∧ Below W.heap.size W wr) := by
          obtain ⟨x, hx1, hx2, hx3, hx4⟩ := HX.out
          exact ⟨x, hx1, hx2, by omega, hx4⟩
        clear HX
        by_cases h1 : k < r.size
        · have e1 : decide ((k : Int) < (r.size : Int)) = true := by simpa using h1
          have e2 : decide ((k : Int) < 50) = false := by simp; omega
          go_wp2
          go_meet
          exact HY
        · have e1 : decide ((k : Int) < (r.size : Int)) = false := by simpa using h1
          go_wp2
          go_meet
          exact HY
  case rest =>
    obtain ⟨x, hx1, hx2, hx3, hx4⟩ := hcut.out
    have HX : Hid (LetV wc W.heap.size u12 ([32, 9, 13, 10, 35] ++ x) ∧ (∀ c ∈ x, c.toNat ≠ 10) ∧ Below W.heap.size W wc) := ⟨hx1, hx2, hx4⟩
    have hz : W.heap.size ≤ wc.heap.size := hx4.size
    clear HL hcut hx1 hx2 hx4
    go_wp2_with (first | (at_builtin; go_must (refine push_Ls rfl _ _ rfl W.heap.size _ _ rfl HX.out.1 ⟨#[10, 32]⟩ (by decide) rfl (by simp [ByteArray.size]; omega) hz ?_); intro v12 w5 hO5 hb5) | fail)
    obtain ⟨L, hL⟩ : ∃ L, L = [32, 9, 13, 10, 35] ++ x ++ [10, 32] := ⟨_, rfl⟩
    have hO6 : OwnB w5 W.heap.size v12 L := by rw [hL]; exact hO5
    have hLl : L.length ≤ 57 := by rw [hL]; simp; omega
    have HL : Hid (OwnB w5 W.heap.size v12 L ∧ LetBy L ∧ L ≠ [] ∧ Below W.heap.size W w5) := ⟨hO6, by rw [hL]; exact letby_of x HX.out.2.1, by rw [hL]; simp, HX.out.2.2.trans hb5⟩
    have hz5 : W.heap.size ≤ w5.heap.size := HL.out.2.2.2.size
    obtain ⟨dA, dc, rfl⟩ := hO6.form
    clear hO5 hb5 hO6 hL HX hx3 hz
    have HO : Hid (OwnB (w5.alloc (.cells #[] 5)) w5.heap.size (.slice (some ⟨w5.heap.size, 0, none⟩) 0 0) []) := OwnB.new w5 [] (by unfold maxLen; simp)
    go_wp2
    go_loopw [14, 15, 16] (fun v14 v15 v16 wr => ∃ i p : Nat, v15 = .int .i64 p ∧ v16 = .int .i64 i ∧ i ≤ toks.length ∧ p ≤ s.size ∧ Hid (∃ O, OwnB wr w5.heap.size v14 O ∧ (∃ fr, Run s p fr (toks.drop i) fa 0) ∧ O ++ ins s.data.toList L (hasI ws) i p (toks.drop i) = ins s.data.toList L (hasI ws) 0 0 toks ∧ Below w5.heap.size w5 wr)) (fun _ _ v16 _ => toks.length - (intOf v16).toNat)
    case atStart => exact ⟨0, 0, rfl, rfl, by omega, by omega, [], HO.out, ⟨true, HH.out.1⟩, rfl, (Below.refl _ w5).alloc (Nat.le_refl _) _⟩
    case round =>
      obtain ⟨i, p, rfl, rfl, hi, hp, HR⟩ := hrel
      clear HO
      by_cases hin : i < toks.length
      · obtain ⟨O, hR1, ⟨fr, hR2⟩, hR3, hR4⟩ := HR.out
        have hdr : toks.drop i = toks[i] :: toks.drop (i + 1) := List.drop_eq_getElem_cons hin
        obtain ⟨t, ht⟩ : ∃ t, t = toks[i] := ⟨_, rfl⟩
        have htk : toks[i]? = some t := by rw [ht]; exact List.getElem?_eq_getElem hin
        rw [← ht] at hdr
        rw [hdr] at hR2 hR3
        have hBF := (HB.out.after HL.out.2.2.2).after hR4
        generalize hts : toks.drop (i + 1) = ts at hR2 hR3
        cases hR2 with
        | @step _ _ q k u l tt n ts' _ _ hq hlt hb h0 hl' hr' =>
          have hn0 : toks ≠ [] := by intro e; rw [e] at hin; simp at hin
          obtain ⟨A', c', e1, hrt⟩ := hBF.rt
          obtain ⟨g, rfl, hrd⟩ := hrt.resolve_left hn0
          injection e1 with e1 e2 e3
          obtain ⟨-, a1, a2, -, -, -⟩ := hrd i _ htk
          simp only at a1 a2
          subst e1
          have hql : q + l ≤ s.size := hl'
          have hpq : p ≤ q := by omega
          have hOl : O.length ≤ 2000000000 := by
            have := congrArg List.length hR3
            rw [List.length_append] at this
            have := ins_bound s.data.toList L (hasI ws) toks 0 0 (by simpa using hs) hl hLl
            omega
          have HT : Hid (OwnB wr w5.heap.size u14 O ∧ Run s (q + l) (decide (k = 11)) ts fa 0 ∧ O ++ ((s.data.toList.drop p).take (q + l - p) ++ (bL L (hasI ws i) ++ ins s.data.toList L (hasI ws) (i + 1) (q + l) ts)) = ins s.data.toList L (hasI ws) 0 0 toks ∧ Below w5.heap.size w5 wr ∧ toks.drop (i + 1) = ts) := by
            refine ⟨hR1, hr', ?_, hR4, hts⟩
            rw [← hR3]
            simp only [ins, bL]
            rw [show ((q : Int) + (l : Int)).toNat = q + l by omega]
          have hwz : w5.heap.size ≤ wr.heap.size := hR4.size
          clear hR1 hR3 hR4 hr' hts hdr ht htk hb hrd hrt hBF hn0 e2 e3 hq HR
          have d1 : decide ((i : Int) < (toks.length : Int)) = true := by simpa using hin
          go_wp2
          go_quiet (fail)
          go_upto_block 4 with (first | (at_builtin; go_must (refine push_Bs rfl _ _ rfl w5.heap.size _ O rfl HT.out.1 _ rfl (by simp; omega) hwz ?_); intro v14 w6 hO6 hb6) | fail)
          have he : (s.extract p (q + l)).data.toList = (s.data.toList.drop p).take (q + l - p) := ext_any s p (q + l)
          rw [he] at hO6
          obtain ⟨P, hP⟩ : ∃ P, P = O ++ (s.data.toList.drop p).take (q + l - p) := ⟨_, rfl⟩
          rw [← hP] at hO6
          have hPl : P.length ≤ 2000000000 := by
            have := congrArg List.length HT.out.2.2.1
            rw [← List.append_assoc, ← hP, List.length_append] at this
            have := ins_bound s.data.toList L (hasI ws) toks 0 0 (by simpa using hs) hl hLl
            omega
          have hB6 : Below w5.heap.size w5 w6 := HT.out.2.2.2.1.trans ⟨hb6.os, hb6.tape, hb6.output, hb6.size, hb6.block⟩
          have HW : Hid (OwnB w6 w5.heap.size v14 P ∧ Below w5.heap.size w5 w6) := ⟨hO6, hB6⟩
          have HT2 : Hid (Run s (q + l) (decide (k = 11)) ts fa 0 ∧ P ++ (bL L (hasI ws i) ++ ins s.data.toList L (hasI ws) (i + 1) (q + l) ts) = ins s.data.toList L (hasI ws) 0 0 toks ∧ toks.drop (i + 1) = ts) := ⟨HT.out.2.1, by rw [← HT.out.2.2.1, hP, List.append_assoc], HT.out.2.2.2.2⟩
          have hz6 := hB6.size
          obtain ⟨oA, oc, rfl⟩ := hO6.form
          clear hO6 hb6 he hP hB6 HT hOl
          clear hwz hl' h0 hlt a1 a2
          have hpqs : q + l ≤ s.size := hql
          go_wp2
          go_loopw [14, 18] (fun v14 v18 wq => ∃ j : Nat, v18 = .int .i64 j ∧ j ≤ ws.length ∧ v14 = .slice oA P.length oc ∧ Hid (OwnB wq w5.heap.size (.slice oA P.length oc) P ∧ Below w5.heap.size w5 wq ∧ (i : Int) ∉ ws.take j)) (fun _ v18 _ => ws.length - (intOf v18).toNat)
          case atStart => exact ⟨0, rfl, by omega, rfl, HW.out.1, HW.out.2, by simp⟩
          case round =>
            obtain ⟨j, rfl, hj, rfl, HQ⟩ := hrel
            clear HW
            by_cases hjn : j < ws.length
            · have e4 : decide ((j : Int) < (ws.length : Int)) = true := by simpa using hjn
              obtain ⟨y, hy⟩ : ∃ y, ws[j]? = some y := ⟨ws[j], List.getElem?_eq_getElem hjn⟩
              have hwn : ws ≠ [] := by intro e; rw [e] at hjn; simp at hjn
              obtain ⟨g2, o2, rfl, hcl⟩ := HV.out.resolve_left hwn
              have hlt2 : g2 < w.heap.size := by
                obtain ⟨o, ho, _⟩ := cells_of_cell (hcl j hjn)
                exact (Array.getElem?_eq_some_iff.1 ho).1
              have hBw : Below w.heap.size w wr := (HB.out.bel.trans (HL.out.2.2.2.mono HB.out.bel.size)).trans (HQ.out.2.1.mono (by have := HB.out.bel.size; omega))
              have hc := (hBw.cell (p := ⟨g2, o2 + j, none⟩) hlt2).trans (hcl j hjn)
              rw [hy, Option.getD_some] at hc
              have hz7 := HQ.out.2.1.size
              have hye : ws[j] = y := by rw [List.getElem?_eq_getElem hjn] at hy; exact Option.some.inj hy
              have HM : Hid (ws.take (j + 1) = ws.take j ++ [y]) := by
                show _ = _
                rw [List.take_add_one, hy]; rfl
              have HN : Hid (y ∈ ws) := List.mem_of_getElem? hy
              clear hcl hlt2 hBw hwn hy hye
              by_cases hyi : y = (i : Int)
              · have e5 : (y == (i : Int)) = true := by simpa using hyi
                have HI : Hid (hasI ws i = true) := by
                  have := HN.out
                  rw [hyi] at this
                  exact decide_eq_true this
                have HY : Hid (y = (i : Int)) := hyi
                clear hyi
                go_wp2_with (first | (at_builtin; go_must (refine push_Bl rfl _ _ rfl w5.heap.size _ P rfl HQ.out.1 W.heap.size _ L (HL.out.1.below HQ.out.2.1 (fun g hg => (World.ownsRow.lt HL.out.1 g hg).2)) HL.out.2.2.1 rfl (by omega) hz7 ?_); intro v14 w7 hO7 hb7) | fail)
                have HZ : Hid (∃ O, OwnB w7 w5.heap.size v14 O ∧ (∃ fr, Run s (q + l) fr (toks.drop (i + 1)) fa 0) ∧ O ++ ins s.data.toList L (hasI ws) (i + 1) (q + l) (toks.drop (i + 1)) = ins s.data.toList L (hasI ws) 0 0 toks ∧ Below w5.heap.size w5 w7) := by
                  refine ⟨P ++ L, hO7, ⟨_, by rw [HT2.out.2.2]; exact HT2.out.1⟩, ?_, HQ.out.2.1.trans hb7⟩
                  rw [HT2.out.2.2, ← HT2.out.2.1, HI.out, List.append_assoc]
                  rfl
                exact ⟨⟨i + 1, q + l, by go_num, by go_num, by omega, hpqs, HZ⟩, by simp [intOf]; omega⟩
              · have e5 : (y == (i : Int)) = false := by simpa using hyi
                have HZ : Hid (OwnB wr w5.heap.size (.slice oA P.length oc) P ∧ Below w5.heap.size w5 wr ∧ (i : Int) ∉ ws.take (j + 1)) := ⟨HQ.out.1, HQ.out.2.1, by
                  rw [HM.out]
                  intro h
                  rcases List.mem_append.1 h with h | h
                  · exact HQ.out.2.2 h
                  · exact hyi (List.mem_singleton.1 h).symm⟩
                clear hyi HQ
                go_wp2
                exact ⟨⟨j + 1, by go_num, by omega, rfl, HZ⟩, by simp [intOf]; omega⟩
            · have e4 : decide ((j : Int) < (ws.length : Int)) = false := by simpa using hjn
              have HZ : Hid (∃ O, OwnB wr w5.heap.size (.slice oA P.length oc) O ∧ (∃ fr, Run s (q + l) fr (toks.drop (i + 1)) fa 0) ∧ O ++ ins s.data.toList L (hasI ws) (i + 1) (q + l) (toks.drop (i + 1)) = ins s.data.toList L (hasI ws) 0 0 toks ∧ Below w5.heap.size w5 wr) := by
                refine ⟨P, HQ.out.1, ⟨_, by rw [HT2.out.2.2]; exact HT2.out.1⟩, ?_, HQ.out.2.1⟩
                have hI : hasI ws i = false := by
                  have := HQ.out.2.2
                  rw [List.take_of_length_le (by omega)] at this
                  exact decide_eq_false this
                rw [HT2.out.2.2, ← HT2.out.2.1, hI]
                rfl
              clear HQ
              go_wp2
              exact ⟨⟨i + 1, q + l, by go_num, by go_num, by omega, hpqs, HZ⟩, by simp [intOf]; omega⟩
      · have d1 : decide ((i : Int) < (toks.length : Int)) = false := by simpa using hin
        obtain ⟨O, hR1, ⟨fr, hR2⟩, hR3, hR4⟩ := HR.out
        rw [List.drop_of_length_le (by omega)] at hR3
        simp only [ins] at hR3
        have hOl : O.length ≤ 2000000000 := by
          have := congrArg List.length hR3
          rw [List.length_append] at this
          have := ins_bound s.data.toList L (hasI ws) toks 0 0 (by simpa using hs) hl hLl
          omega
        have HT : Hid (OwnB wr w5.heap.size u14 O ∧ O ++ s.data.toList.drop p = ins s.data.toList L (hasI ws) 0 0 toks ∧ Below w5.heap.size w5 wr) := ⟨hR1, hR3, hR4⟩
        have hwz : w5.heap.size ≤ wr.heap.size := hR4.size
        clear hR1 hR2 hR3 hR4 HR
        go_upto_region 29 with (first | (at_builtin; go_must (refine push_Bs rfl _ _ rfl w5.heap.size _ O rfl HT.out.1 _ rfl (by simp; omega) hwz ?_); intro v14 w6 hO6 hb6) | fail)
        obtain ⟨M, hM⟩ : ∃ M, M = ins s.data.toList L (hasI ws) 0 0 toks := ⟨_, rfl⟩
        have hO8 : OwnB w6 w5.heap.size v14 M := by rw [hM, ← HT.out.2.1, ← ext_drop]; exact hO6
        have hcv := conv_row w6 _ _ M hO8
        have hMl : M.length ≤ 2000000000 := by rw [hM]; exact ins_bound s.data.toList L (hasI ws) toks 0 0 (by simpa using hs) hl hLl
        have hB8 : Below w5.heap.size w5 w6 := HT.out.2.2.trans hb6
        have HF : Hid (BF w w6 s toks (.slice tA toks.length tc) ls lA) := (HB.out.after HL.out.2.2.2).after hB8
        have HM : Hid (M = ins s.data.toList L (hasI ws) 0 0 toks ∧ LetBy L) := ⟨hM, HL.out.2.1⟩
        obtain ⟨oA, oc, rfl⟩ := hO8.form
        clear hO6 hb6 hO8 hM hB8 HT HL HB hOl hwz HV
        by_cases hlong : 32768 < M.length
        · have d2 : decide ((32768 : Int) < (M.length : Int)) = true := by simp; omega
          go_wp2
          go_ret
          exact ⟨rfl, HF.out.bel⟩
        · have d2 : decide ((32768 : Int) < (M.length : Int)) = false := by simp; omega
          have hY : ∃ ls', PYes ⟨M.toArray⟩ ls' ∧ All2 SameL ls ls' := by
            have hz : (⟨M.toArray⟩ : ByteArray).size = M.length := size_lit M
            obtain ⟨toks', hR', hA'⟩ := ins_run s ⟨M.toArray⟩ (by unfold maxLen; omega) (by rw [hz]; unfold maxLen; omega) HM.out.2 (hasI ws) HH.out.1 rfl 0 0 false (by omega) (by omega) (by rw [← HM.out.1]; simp [bL])
            have hlt := hA'.length
            have hsim := ts_lines s.size (⟨M.toArray⟩ : ByteArray).size toks.length toks toks' hA'
            rw [HH.out.2.2.1] at hsim
            cases hS' : linesT (⟨M.toArray⟩ : ByteArray).size toks.length toks' with
            | no a c => rw [hS'] at hsim; exact hsim.elim
            | ok ls' r' =>
              rw [hS'] at hsim
              exact ⟨ls', parse_yes _ (by rw [hz]; omega) toks' 0 hR' (by omega) (by rw [← hlt]; exact hS'), hsim.1⟩
          obtain ⟨ls', hY1, hY2⟩ := hY
          have HY : Hid (PYes ⟨M.toArray⟩ ls' ∧ All2 SameL ls ls') := ⟨hY1, hY2⟩
          clear hY1 hY2 HM HH
          go_wp2_with fail
          refine (HY.out.1 _).mono ?_
          rintro e w8 ⟨mv, rfl, hm, hb8⟩
          obtain ⟨mA, mc, rfl, hm2⟩ := hm.rd
          have hF : Hid (FB (w8.alloc (.cells #[.int .i64 0, .int .i64 0] 32)) w8.heap.size 0 0) := FB.new w8 0 0
          have hb9 : Below w8.heap.size w8 (w8.alloc (.cells #[.int .i64 0, .int .i64 0] 32)) := (Below.refl _ w8).alloc (Nat.le_refl _) _
          have HG : Hid (BF w (w8.alloc (.cells #[.int .i64 0, .int .i64 0] 32)) s toks (.slice tA toks.length tc) ls lA ∧ RdLs 3 (w8.alloc (.cells #[.int .i64 0, .int .i64 0] 32)) mA ls'.length ls') := ⟨(HF.out.after hb8).after hb9, hm2.ck (ck_below hb9)⟩
          clear hm hm2 hb8 hb9 HF
          go_wp2_with fail
          refine (lines_any 3 false _ lA mA ls.length ls'.length lc mc ls ls' ?_ HG.out.1.rl HG.out.2 (HY.out.2.mono fun _ _ h => ⟨h, fun e => by cases e⟩)).mono ?_
          · omega
          rintro e w9 ⟨rfl, hb9⟩
          have c1 := ((hF.out.below hb9 hF.out.lt).cells).2.1
          have HE : Hid (Below w.heap.size w w9) := HG.out.1.bel.trans (hb9.mono HG.out.1.bel.size)
          clear hb9 hF HG
          go_wp2
          go_ret
          exact ⟨rfl, HE.out⟩
theorem blanks_any (s r : ByteArray) (v : Value) (ws : List Int) (hr : r.size ≤ maxLen) (hws : ws.length ≤ maxLen) (w : World) (hv : Ints w v ws) : Calls Tryz.prog 7 #[.string s, v, .string r] w fun e w' => e = .returned (.bool true) ∧ Below w.heap.size w w' := by
  rcases parse_any s with ⟨fa, fe, h⟩ | ⟨hs, toks, fa, ls, rr, h1, h2, hl, hS⟩
  · exact blanks_no s r v fa fe h w
  · exact blanks_yes s r v ws hs hr hws toks fa ls rr h1 h2 hl hS w hv
end Go.Proofs
