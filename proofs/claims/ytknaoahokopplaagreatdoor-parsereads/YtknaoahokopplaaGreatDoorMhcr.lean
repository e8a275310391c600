/-
  Several texts in one (Ysr Yyr).
-/
import Derived.Test.YtknaoahokopplaaGreatDoorYor
import Derived.Test.YtknaoahokopplaaGreatDoorMhar
namespace Go.Proofs
open Go.RowKit Go.Shelf

set_option maxRecDepth 100000
attribute [local go_sem] Oper.semAt_some

/-- what the rule's rest tells, when the first row is read -/
def rlA (e a : Int) (bg : Bool) (x : List It) (r1 : List Tok) : Res Ln :=
  (anteT e bg x r1).bind fun ak r2 => (postT e r2).bind fun pe r3 => (wantT e 10 r3).bind fun _ r4 => (tailT e r4).bind fun rc r5 => (wantT e 11 r5).bind fun _ r6 => .ok ⟨2, a, ⟨#[]⟩, bg, pe.2, ak.1, ak.2, pe.1, rc.1, rc.2⟩ r6
def rlB (e a : Int) (bg : Bool) (ak : List It × List It) (r2 : List Tok) : Res Ln :=
  (postT e r2).bind fun pe r3 => (wantT e 10 r3).bind fun _ r4 => (tailT e r4).bind fun rc r5 => (wantT e 11 r5).bind fun _ r6 => .ok ⟨2, a, ⟨#[]⟩, bg, pe.2, ak.1, ak.2, pe.1, rc.1, rc.2⟩ r6
def rlC (e a : Int) (bg : Bool) (ak : List It × List It) (pe : List It × Bool) (r3 : List Tok) : Res Ln :=
  (wantT e 10 r3).bind fun _ r4 => (tailX e (-1) [] r4).bind fun rc r5 => (wantT e 11 r5).bind fun _ r6 => .ok ⟨2, a, ⟨#[]⟩, bg, pe.2, ak.1, ak.2, pe.1, rc.1, rc.2⟩ r6
def rlE (e a : Int) (bg : Bool) (ak : List It × List It) (pe : List It × Bool) (rc : List It × Int) (r5 : List Tok) : Res Ln :=
  (wantT e 11 r5).bind fun _ r6 => .ok ⟨2, a, ⟨#[]⟩, bg, pe.2, ak.1, ak.2, pe.1, rc.1, rc.2⟩ r6
theorem rlC_eq (e a : Int) (bg : Bool) (ak : List It × List It) (pe : List It × Bool) (r3 : List Tok) : ((wantT e 10 r3).bind fun _ r4 => (tailT e r4).bind fun rc r5 => (wantT e 11 r5).bind fun _ r6 => (.ok ⟨2, a, ⟨#[]⟩, bg, pe.2, ak.1, ak.2, pe.1, rc.1, rc.2⟩ r6 : Res Ln)) = rlC e a bg ak pe r3 := by
  unfold rlC
  congr 1
  funext _ r4
  rw [← tail_endX, bind_assoc]
  congr 1
  funext rc r5
  exact (endR_want e rc r5 (fun y r2 => (.ok ⟨2, a, ⟨#[]⟩, bg, pe.2, ak.1, ak.2, pe.1, y.1, y.2⟩ r2 : Res Ln))).symm
theorem rlB_eq (e a : Int) (bg : Bool) (ak : List It × List It) (r2 : List Tok) : rlB e a bg ak r2 = (postT e r2).bind fun pe r3 => rlC e a bg ak pe r3 := by
  unfold rlB
  congr 1
  funext pe r3
  exact rlC_eq e a bg ak pe r3
theorem rule_line (e a : Int) (ts : List Tok) : ((ruleT e ts).bind fun l r => (wantT e 11 r).bind fun _ r2 => (.ok { l with a := a } r2 : Res Ln)) = (sidesT e (passT 15 ts).2).bind fun x r1 => rlA e a (passT 15 ts).1 x r1 := by
  unfold ruleT rlA
  simp only [bind_assoc]
  rfl
theorem rlA_eq (e a : Int) (bg : Bool) (x : List It) (r1 : List Tok) : rlA e a bg x r1 = (anteT e bg x r1).bind fun ak r2 => rlB e a bg ak r2 := rfl
end Go.Proofs
namespace Go.Proofs
open Go.RowKit Go.Shelf

set_option maxRecDepth 100000
attribute [local go_sem] Oper.semAt_some
theorem line_rule (e : Int) {t : Tok} {r : List Tok} (h : which t ≠ 116) (h2 : ¬ (which t = 36 ∧ nxt r = 21)) : lineT e (t :: r) = (sidesT e (passT 15 (t :: r)).2).bind fun x r1 => rlA e t.a (passT 15 (t :: r)).1 x r1 := by
  unfold lineT
  rw [someT, if_neg h, if_neg h2]
  exact rule_line e t.a (t :: r)
abbrev rL (a : Int) (bg en : Bool) (s1 s2 s3 s4 : SL) (cur : Int) : ML := ⟨2, a, ⟨#[]⟩, bg, en, s1, s2, s3, s4, cur⟩
theorem VQR.rows {b b' : Nat} {w : World} {v : Value} {l : List It} (h : VQR b w v l) (hb : b' ≤ b) : ∃ s : SL, v = s.v ∧ RowsS 3 w b' none s l := by
  obtain ⟨A, c, rfl, h⟩ := h
  have h1 : RowsS 2 w b none ⟨A, l.length, c⟩ l := h
  exact ⟨⟨A, _, c⟩, rfl, (h1.step hb (.inl rfl) (fun _ _ _ _ => rfl)).up⟩
theorem VQT.rows {b b' : Nat} {w : World} {v : Value} {l : List It × Int} (h : VQT b w v l) (hb : b' ≤ b) : ∃ s : SL, v = .tuple #[s.v, .int .i64 l.2] ∧ RowsS 3 w b' none s l.1 := by
  obtain ⟨A, c, rfl, h⟩ := h
  have h1 : RowsS 3 w b none ⟨A, l.1.length, c⟩ l.1 := h
  exact ⟨⟨A, _, c⟩, rfl, h1.step hb (.inl rfl) (fun _ _ _ _ => rfl)⟩
theorem pass_tkk {R : Nat} {tA : Option Addr} {c : Nat} {all : List Tok} {e : Int} {w : World} {k : Nat} {fa fc : Int} (h : RQ R tA c all e w k fa fc) (i : Nat) (hi : i < 13) : passT (10 + (i : Int)) (all.drop k) = (kd (all.drop k) == 10 + (i : Int), all.drop (tkk (kd (all.drop k)) i k)) := by
  have q := (h.nk k rfl rfl).2.2 i hi
  unfold passT tkk
  by_cases hk : kd (all.drop k) = 10 + (i : Int)
  · rw [if_pos (q.2 hk), beq_iff_eq.2 hk, if_pos rfl, List.tail_drop]
  · have e0 : (kd (all.drop k) == 10 + (i : Int)) = false := by simpa using hk
    rw [if_neg (fun h => hk (q.1 h)), e0]
    rfl
/-- the first row is read -/
def S1 (R : Nat) (tA : Option Addr) (c : Nat) (all : List Tok) (e : Int) (w : World) (S : Res Ln) (a : Int) (bg : Bool) (W : World) : Prop := BadL R tA c all e w S (w.heap.size + 1) W ∨ ∃ x k s, LQ R tA c all e w W k 0 0 (w.heap.size + 1) (rL a bg false noS s noS noS 0) ∧ RowsS 3 W (w.heap.size + 1 + 1) none s x ∧ S = rlA e a bg x (all.drop k)
/-- .. and whether an opening brace stood there -/
def S2 (R : Nat) (tA : Option Addr) (c : Nat) (all : List Tok) (e : Int) (w : World) (S : Res Ln) (a : Int) (bg : Bool) (b : Bool) (W : World) : Prop := (b = false ∧ BadL R tA c all e w S (w.heap.size + 1) W) ∨ ∃ x k s, LQ R tA c all e w W k 0 0 (w.heap.size + 1) (rL a bg false noS s noS noS 0) ∧ RowsS 3 W (w.heap.size + 1 + 1) none s x ∧ S = if b then (sidesT e (all.drop k)).bind fun y r2 => rlB e a bg (x, y) r2 else if bg then .no (atOf e (all.drop k)) 50 else rlB e a bg ([], x) (all.drop k)
/-- what stands ahead, and the key, are read -/
def S3 (R : Nat) (tA : Option Addr) (c : Nat) (all : List Tok) (e : Int) (w : World) (S : Res Ln) (a : Int) (bg : Bool) (W : World) : Prop := BadL R tA c all e w S (w.heap.size + 1) W ∨ ∃ ak k s1 s2, LQ R tA c all e w W k 0 0 (w.heap.size + 1) (rL a bg false s1 s2 noS noS 0) ∧ RowsS 3 W (w.heap.size + 1 + 1) none s1 ak.1 ∧ RowsS 3 W (w.heap.size + 1 + 1) none s2 ak.2 ∧ S = rlB e a bg ak (all.drop k)
def S4 (R : Nat) (tA : Option Addr) (c : Nat) (all : List Tok) (e : Int) (w : World) (S : Res Ln) (a : Int) (bg : Bool) (b : Bool) (W : World) : Prop := (b = false ∧ BadL R tA c all e w S (w.heap.size + 1) W) ∨ ∃ ak k s1 s2, LQ R tA c all e w W k 0 0 (w.heap.size + 1) (rL a bg false s1 s2 noS noS 0) ∧ RowsS 3 W (w.heap.size + 1 + 1) none s1 ak.1 ∧ RowsS 3 W (w.heap.size + 1 + 1) none s2 ak.2 ∧ S = if b then (sidesT e (all.drop k)).bind fun po r => rlC e a bg ak (po, (passT 16 r).1) (passT 16 r).2 else rlC e a bg ak ([], false) (all.drop k)
def S5 (R : Nat) (tA : Option Addr) (c : Nat) (all : List Tok) (e : Int) (w : World) (S : Res Ln) (a : Int) (bg : Bool) (W : World) : Prop := BadL R tA c all e w S (w.heap.size + 1) W ∨ ∃ ak pe k s1 s2 s3, LQ R tA c all e w W k 0 0 (w.heap.size + 1) (rL a bg pe.2 s1 s2 s3 noS 0) ∧ RowsS 3 W (w.heap.size + 1 + 1) none s1 ak.1 ∧ RowsS 3 W (w.heap.size + 1 + 1) none s2 ak.2 ∧ RowsS 3 W (w.heap.size + 1 + 1) none s3 pe.1 ∧ S = rlC e a bg ak pe (all.drop k)
theorem rlA_brace (e a : Int) (bg : Bool) (x : List It) {ts : List Tok} (h : nxt ts = 12) : rlA e a bg x ts = (sidesT e ts.tail).bind fun y r2 => rlB e a bg (x, y) r2 := by
  rw [rlA_eq]
  unfold anteT wantT
  rw [h, if_pos (by simp), if_pos rfl]
  show ((sidesT e ts.tail).bind _).bind _ = _
  rw [bind_assoc]
  rfl
theorem rlA_none (e a : Int) (bg : Bool) (x : List It) {ts : List Tok} (h : nxt ts ≠ 12) : rlA e a bg x ts = if bg then .no (atOf e ts) 50 else rlB e a bg ([], x) ts := by
  have h0 : (nxt ts == 12) = false := by simpa using h
  rw [rlA_eq]
  unfold anteT wantT
  rw [h0, if_neg h]
  cases bg <;> rfl
theorem rlB_brace (e a : Int) (bg : Bool) (ak : List It × List It) {ts : List Tok} (h : nxt ts = 13) : rlB e a bg ak ts = (sidesT e ts.tail).bind fun po r => rlC e a bg ak (po, (passT 16 r).1) (passT 16 r).2 := by
  rw [rlB_eq]
  unfold postT
  rw [if_pos h, bind_assoc]
  rfl
theorem rlB_none (e a : Int) (bg : Bool) (ak : List It × List It) {ts : List Tok} (h : nxt ts ≠ 13) : rlB e a bg ak ts = rlC e a bg ak ([], false) ts := by
  rw [rlB_eq]
  unfold postT
  rw [if_neg h]
  rfl
theorem nz_tailX (e q : Int) (xs : List It) (ts : List Tok) : NZ (tailX e q xs ts) := by
  have hend : ∀ x r, NZ (endR e x r) := fun x r a c h => by
    unfold endR at h
    split at h
    · cases h
    · cases h; decide
  have hb : ∀ {α β : Type} (x : Res α) (f : α → List Tok → Res β), NZ x → (∀ a r, NZ (f a r)) → NZ (x.bind f) := fun x f h1 h2 a c h => by
    cases x with
    | ok y r => exact h2 y r a c h
    | no a' c' => cases h; exact h1 _ _ rfl
  unfold tailX
  refine hb _ _ (nz_result e _ ts) (fun y r => ?_)
  split
  · split
    · exact hb _ _ (nz_result e _ _) (fun z r2 => hend _ _)
    · exact hend _ _
  · exact hend _ _
/-- what stands behind a statement -/
def codeTl : Code → Code
  | .seq _ b => b
  | x => x
set_option maxHeartbeats 16000000 in
theorem qrule_end {R g : Nat} {c : Nat} {all : List Tok} {e : Int} {w : World} {S : Res Ln} {ta : Int} {bg : Bool} {wc : World} (hW : S5 R (some ⟨g, 0, none⟩) c all e w S ta bg wc) {u4 u5 u6 u7 u8 u9 u10 u11 u12 u13 u14 u15 u16 u17 u18 u19 u20 u21 u22 u23 u24 u25 u26 u27 u28 u29 u30 u31 u32 u33 u34 u35 u36 u37 u38 u39 u40 u41 u42 u43 u44 u45 u46 u47 u48 u49 u50 u51 u52 u53 u54 u55 u56 u57 u58 u59 u60 u61 u62 u63 u64 u65 u66 u67 u68 u69 u70 u71 u72 u73 u74 u75 u76 u77 u78 u79 u80 u81 u82 u83 u84 u85 u86 u87 u88 u89 u90 u91 u92 u93 u94 u95 u96 u97 u98 u99 u100 u101 u102 u103 u104 u105 u106 u107 u108 u109 u110 u111 u112 u113 u114 u115 u116 u117 u118 u119 u120 u121 u122 u123 u124 u125 u126 u127 u128 u129 u130 u131 u132 u133 u134 u135 u136 u137 u138 u139 u140 u141 u142 u143 u144 u145 u146 u147 u148 u149 u150 u151 u152 u153 u154 : Value} {cd : Code} (hcd : cd = codeTl (codeTl (codeTl (codeTl (codeTl (codeTl (codeTl (codeTl (Tryz.f30.body.getD .skip))))))))) :
    cd.wp Tryz.prog (bodyPost Tryz.prog Tryz.f30 (OutQ R (some ⟨g, 0, none⟩) c all e w (VL 3 w.heap.size) ShL S)) { tmps := #[.pointer (some ⟨R, 0, none⟩), undef, .pointer (some ⟨w.heap.size, 0, none⟩), .pointer (some ⟨w.heap.size + 1, 0, none⟩), u4, u5, u6, u7, u8, u9, u10, u11, u12, u13, u14, u15, u16, u17, u18, u19, u20, u21, u22, u23, u24, u25, u26, u27, u28, u29, u30, u31, u32, u33, u34, u35, u36, u37, u38, u39, u40, u41, u42, u43, u44, u45, u46, u47, u48, u49, u50, u51, u52, u53, u54, u55, u56, u57, u58, u59, u60, u61, u62, u63, u64, u65, u66, u67, u68, u69, u70, u71, u72, u73, u74, u75, u76, u77, u78, u79, u80, u81, u82, u83, u84, u85, u86, u87, u88, u89, u90, u91, u92, u93, u94, u95, u96, u97, u98, u99, u100, u101, u102, u103, u104, u105, u106, u107, u108, u109, u110, u111, u112, u113, u114, u115, u116, u117, u118, u119, u120, u121, u122, u123, u124, u125, u126, u127, u128, u129, u130, u131, u132, u133, u134, u135, u136, u137, u138, u139, u140, u141, u142, u143, u144, u145, u146, u147, u148, u149, u150, u151, u152, u153, u154], defers := [] } wc := by
  have HW : Hid (S5 R (some ⟨g, 0, none⟩) c all e w S ta bg wc) := hW
  clear hW
  delta Tryz.f30 at hcd
  dsimp only [codeTl, Option.getD] at hcd
  subst hcd
  rcases HW.out with ⟨k1, fa, fc, m, hL, hfc, hS⟩ | ⟨ak, pe, k1, s1, s2, s3, hL, hrow1, hrow2, hrow3, hS⟩
  · have HB : Hid (LQ R (some ⟨g, 0, none⟩) c all e w wc k1 fa fc (w.heap.size + 1) m) := hL
    have HSB : Hid (S = .no fa fc) := hS
    have e0 : (fc == 0) = false := by simpa using hfc
    clear hL hfc hS HW
    go_wp2_with fail
    refine (fine_any HB.out.rq).mono ?_
    rintro y wz ⟨rfl, rfl⟩
    rw [e0]
    go_wp2_with fail
    refine (fine_any HB.out.rq).mono ?_
    rintro y wz ⟨rfl, rfl⟩
    rw [e0]
    go_wp2_with fail
    refine (fine_any HB.out.rq).mono ?_
    rintro y wz ⟨rfl, rfl⟩
    rw [e0]
    obtain ⟨c0, c1, c2, c3, c4, c5, c6, c7, c8, c9⟩ := HB.out.own.cells
    obtain ⟨d0, d1, d2, d3, d4, d5, d6, d7, d8, d9⟩ := HB.out.res.cells
    obtain ⟨f0, f1, f2, f3, f4, f5, f6, f7, f8, f9⟩ := HB.out.res.frozen
    go_wp2
    obtain ⟨m1, m2, m3⟩ := HB.out.tell m
    refine ret_ln rfl rfl m1 ?_
    unfold OutQ
    rw [HSB.out]
    exact ⟨m2, _, k1, rfl, ⟨_, rfl⟩, m3⟩
  · have HB : Hid (LQ R (some ⟨g, 0, none⟩) c all e w wc k1 0 0 (w.heap.size + 1) (rL ta bg pe.2 s1 s2 s3 noS 0) ∧ RowsS 3 wc (w.heap.size + 1 + 1) none s1 ak.1 ∧ RowsS 3 wc (w.heap.size + 1 + 1) none s2 ak.2 ∧ RowsS 3 wc (w.heap.size + 1 + 1) none s3 pe.1) := ⟨hL, hrow1, hrow2, hrow3⟩
    have HS7 : Hid (S = rlC e ta bg ak pe (all.drop k1)) := hS
    clear hL hrow1 hrow2 hrow3 hS HW
    go_wp2_with fail
    refine (fine_any HB.out.1.rq).mono ?_
    rintro y w5 ⟨rfl, rfl⟩
    rw [show ((0 : Int) == 0) = true from rfl]
    go_wp2_with fail
    refine (qwant_any HB.out.1.rq 0 (by omega) _ rfl rfl rfl).mono ?_
    rintro y w6 ⟨rfl, hm, hr⟩
    rw [wF_zero, wF_zero] at hr
    have hRB := HB.out.1.Rlt
    have hr2 := HB.out.1.next hm hr
    have HRW : Hid (RowsS 3 w6 (w.heap.size + 1 + 1) none s1 ak.1 ∧ RowsS 3 w6 (w.heap.size + 1 + 1) none s2 ak.2 ∧ RowsS 3 w6 (w.heap.size + 1 + 1) none s3 pe.1) := ⟨HB.out.2.1.after hm (by omega), HB.out.2.2.1.after hm (by omega), HB.out.2.2.2.after hm (by omega)⟩
    have q2 := (HB.out.1.rq.nk k1 rfl rfl).2.2 0 (by omega)
    clear hm hr hRB
    by_cases hK : kd (all.drop k1) = 10 + ((0 : Nat) : Int)
    · have e1 : (kd (all.drop k1) == 10 + ((0 : Nat) : Int)) = true := by simpa using hK
      rw [tkk, e1, if_pos rfl, if_pos rfl] at hr2
      have H6 : Hid (LQ R (some ⟨g, 0, none⟩) c all e w w6 (k1 + 1) 0 0 (w.heap.size + 1) (rL ta bg pe.2 s1 s2 s3 noS 0)) := hr2
      have HS8 : Hid (S = (tailX e (-1) [] (all.drop (k1 + 1))).bind fun rc r5 => rlE e ta bg ak pe rc r5) := by
        show _ = _
        rw [HS7.out, rlC, wantT, if_pos (by have := q2.2 hK; omega), List.tail_drop]
        rfl
      clear hr2 e1 hK q2 HB HS7
      go_wp2_with fail
      refine (fine_any H6.out.rq).mono ?_
      rintro y w7 ⟨rfl, rfl⟩
      rw [show ((0 : Int) == 0) = true from rfl]
      go_wp2_with fail
      refine (qresult_any H6.out.rq).mono ?_
      intro x8 w8 hx
      obtain ⟨hm, hx⟩ := hx
      have hz6 := H6.out.own.lt
      have hRB := H6.out.Rlt
      have HRV : Hid (RowsS 3 w8 (w.heap.size + 1 + 1) none s1 ak.1 ∧ RowsS 3 w8 (w.heap.size + 1 + 1) none s2 ak.2 ∧ RowsS 3 w8 (w.heap.size + 1 + 1) none s3 pe.1) := ⟨HRW.out.1.after hm (by omega), HRW.out.2.1.after hm (by omega), HRW.out.2.2.after hm (by omega)⟩
      cases hp : tailX e (-1) [] (all.drop (k1 + 1)) with
      | no a cd =>
        rw [hp] at hx
        obtain ⟨v, k', rfl, ⟨Aq, nq, cq, qq, rfl⟩, hr⟩ := hx
        have hcd : cd ≠ 0 := nz_tailX e _ _ _ a cd hp
        have e0 : (cd == 0) = false := by simpa using hcd
        have HSB : Hid (S = .no a cd) := by
          show _ = _
          rw [HS8.out, hp]
          rfl
        have H9 : Hid (LQ R (some ⟨g, 0, none⟩) c all e w w8 k' a cd (w.heap.size + 1) (rL ta bg pe.2 s1 s2 s3 noS 0)) := H6.out.next hm hr
        clear hm hr hp hcd H6 hz6 hRB HRV HRW
        obtain ⟨c0, c1, c2, c3, c4, c5, c6, c7, c8, c9⟩ := H9.out.own.cells
        obtain ⟨f0, f1, f2, f3, f4, f5, f6, f7, f8, f9⟩ := H9.out.own.frozen
        have HB : Hid (LQ R (some ⟨g, 0, none⟩) c all e w ((w8.setCell ⟨w.heap.size + 1, 8, none⟩ (.slice Aq nq cq)).setCell ⟨w.heap.size + 1, 9, none⟩ (.int .i64 qq)) k' a cd (w.heap.size + 1) (rL ta bg pe.2 s1 s2 s3 ⟨Aq, nq, cq⟩ qq)) := LQ.put (m' := rL ta bg pe.2 s1 s2 s3 ⟨Aq, nq, cq⟩ qq) (LQ.put (m' := rL ta bg pe.2 s1 s2 s3 ⟨Aq, nq, cq⟩ 0) H9.out 8 (.slice Aq nq cq) rfl) 9 (.int .i64 qq) rfl
        go_wp2_with fail
        refine (fine_any HB.out.rq).mono ?_
        rintro y w9 ⟨rfl, rfl⟩
        rw [e0]
        generalize (w8.setCell ⟨w.heap.size + 1, 8, none⟩ (.slice Aq nq cq)).setCell ⟨w.heap.size + 1, 9, none⟩ (.int .i64 qq) = W9 at HB ⊢
        clear c0 c1 c2 c3 c4 c5 c6 c7 c8 c9 f0 f1 f2 f3 f4 f5 f6 f7 f8 f9 H9
        obtain ⟨c0, c1, c2, c3, c4, c5, c6, c7, c8, c9⟩ := HB.out.own.cells
        obtain ⟨d0, d1, d2, d3, d4, d5, d6, d7, d8, d9⟩ := HB.out.res.cells
        obtain ⟨f0, f1, f2, f3, f4, f5, f6, f7, f8, f9⟩ := HB.out.res.frozen
        go_wp2
        obtain ⟨m1, m2, m3⟩ := HB.out.tell (rL ta bg pe.2 s1 s2 s3 ⟨Aq, nq, cq⟩ qq)
        refine ret_ln rfl rfl m1 ?_
        unfold OutQ
        rw [HSB.out]
        exact ⟨m2, _, k', rfl, ⟨_, rfl⟩, m3⟩
      | ok rc r5 =>
        rw [hp] at hx
        obtain ⟨v, k', rfl, hV, hdr, hr⟩ := hx
        obtain ⟨s4, rfl, hrow4⟩ := hV.rows (b' := w.heap.size + 1 + 1) (by omega)
        have HS9 : Hid (S = rlE e ta bg ak pe rc (all.drop k')) := by
          show _ = _
          rw [HS8.out, hp, hdr]
          rfl
        have H9 : Hid (LQ R (some ⟨g, 0, none⟩) c all e w w8 k' 0 0 (w.heap.size + 1) (rL ta bg pe.2 s1 s2 s3 noS 0) ∧ RowsS 3 w8 (w.heap.size + 1 + 1) none s4 rc.1) := ⟨H6.out.next hm hr, hrow4⟩
        clear hm hr hp H6 hz6 hRB HRW HS8 hdr hV hrow4
        obtain ⟨c0, c1, c2, c3, c4, c5, c6, c7, c8, c9⟩ := H9.out.1.own.cells
        obtain ⟨f0, f1, f2, f3, f4, f5, f6, f7, f8, f9⟩ := H9.out.1.own.frozen
        have HA : Hid (LQ R (some ⟨g, 0, none⟩) c all e w ((w8.setCell ⟨w.heap.size + 1, 8, none⟩ (.slice s4.A s4.n s4.c)).setCell ⟨w.heap.size + 1, 9, none⟩ (.int .i64 rc.2)) k' 0 0 (w.heap.size + 1) (rL ta bg pe.2 s1 s2 s3 s4 rc.2)) := LQ.put (m' := rL ta bg pe.2 s1 s2 s3 s4 rc.2) (LQ.put (m' := rL ta bg pe.2 s1 s2 s3 s4 0) H9.out.1 8 (.slice s4.A s4.n s4.c) rfl) 9 (.int .i64 rc.2) rfl
        have hput : ∀ {s : SL} {l : List It}, RowsS 3 w8 (w.heap.size + 1 + 1) none s l → RowsS 3 ((w8.setCell ⟨w.heap.size + 1, 8, none⟩ (.slice s4.A s4.n s4.c)).setCell ⟨w.heap.size + 1, 9, none⟩ (.int .i64 rc.2)) (w.heap.size + 1 + 1) none s l := fun h => (h.put (by omega) _ _).put (by omega) _ _
        have HRU : Hid (RowsS 3 ((w8.setCell ⟨w.heap.size + 1, 8, none⟩ (.slice s4.A s4.n s4.c)).setCell ⟨w.heap.size + 1, 9, none⟩ (.int .i64 rc.2)) (w.heap.size + 1 + 1) none s1 ak.1 ∧ RowsS 3 ((w8.setCell ⟨w.heap.size + 1, 8, none⟩ (.slice s4.A s4.n s4.c)).setCell ⟨w.heap.size + 1, 9, none⟩ (.int .i64 rc.2)) (w.heap.size + 1 + 1) none s2 ak.2 ∧ RowsS 3 ((w8.setCell ⟨w.heap.size + 1, 8, none⟩ (.slice s4.A s4.n s4.c)).setCell ⟨w.heap.size + 1, 9, none⟩ (.int .i64 rc.2)) (w.heap.size + 1 + 1) none s3 pe.1 ∧ RowsS 3 ((w8.setCell ⟨w.heap.size + 1, 8, none⟩ (.slice s4.A s4.n s4.c)).setCell ⟨w.heap.size + 1, 9, none⟩ (.int .i64 rc.2)) (w.heap.size + 1 + 1) none s4 rc.1) := ⟨hput HRV.out.1, hput HRV.out.2.1, hput HRV.out.2.2, hput H9.out.2⟩
        clear hput
        go_wp2_with fail
        refine (fine_any HA.out.rq).mono ?_
        rintro y w9 ⟨rfl, rfl⟩
        rw [show ((0 : Int) == 0) = true from rfl]
        generalize (w8.setCell ⟨w.heap.size + 1, 8, none⟩ (.slice s4.A s4.n s4.c)).setCell ⟨w.heap.size + 1, 9, none⟩ (.int .i64 rc.2) = W9 at HA HRU ⊢
        clear c0 c1 c2 c3 c4 c5 c6 c7 c8 c9 f0 f1 f2 f3 f4 f5 f6 f7 f8 f9 H9 HRV
        go_wp2_with fail
        refine (qwant_any HA.out.rq 1 (by omega) _ rfl rfl rfl).mono ?_
        rintro y wA ⟨rfl, hm, hr⟩
        rw [wF_zero, wF_zero] at hr
        have hRB := HA.out.Rlt
        have hr2 := HA.out.next hm hr
        have HRT : Hid (RowsS 3 wA (w.heap.size + 1 + 1) none s1 ak.1 ∧ RowsS 3 wA (w.heap.size + 1 + 1) none s2 ak.2 ∧ RowsS 3 wA (w.heap.size + 1 + 1) none s3 pe.1 ∧ RowsS 3 wA (w.heap.size + 1 + 1) none s4 rc.1) := ⟨HRU.out.1.after hm (by omega), HRU.out.2.1.after hm (by omega), HRU.out.2.2.1.after hm (by omega), HRU.out.2.2.2.after hm (by omega)⟩
        have q3 := (HA.out.rq.nk k' rfl rfl).2.2 1 (by omega)
        clear hm hr hRB HRU HA
        by_cases hK : kd (all.drop k') = 10 + ((1 : Nat) : Int)
        · have e1 : (kd (all.drop k') == 10 + ((1 : Nat) : Int)) = true := by simpa using hK
          rw [tkk, e1, if_pos rfl, if_pos rfl] at hr2
          have HF : Hid (LQ R (some ⟨g, 0, none⟩) c all e w wA (k' + 1) 0 0 (w.heap.size + 1) (rL ta bg pe.2 s1 s2 s3 s4 rc.2)) := hr2
          have HSF : Hid (S = .ok ⟨2, ta, ⟨#[]⟩, bg, pe.2, ak.1, ak.2, pe.1, rc.1, rc.2⟩ (all.drop (k' + 1))) := by
            show _ = _
            rw [HS9.out, rlE, wantT, if_pos (by have := q3.2 hK; omega), List.tail_drop]
            rfl
          clear hr2 e1 hK q3 HS9
          obtain ⟨c0, c1, c2, c3, c4, c5, c6, c7, c8, c9⟩ := HF.out.own.cells
          obtain ⟨d0, d1, d2, d3, d4, d5, d6, d7, d8, d9⟩ := HF.out.res.cells
          obtain ⟨f0, f1, f2, f3, f4, f5, f6, f7, f8, f9⟩ := HF.out.res.frozen
          go_wp2
          obtain ⟨m1, m2, m3⟩ := HF.out.tell (rL ta bg pe.2 s1 s2 s3 s4 rc.2)
          refine ret_ln rfl rfl m1 ?_
          unfold OutQ
          rw [HSF.out]
          have hst : ∀ {s : SL} {l : List It}, RowsS 3 wA (w.heap.size + 1 + 1) none s l → RowsS 3 (Proofs.set10 wA w.heap.size (rL ta bg pe.2 s1 s2 s3 s4 rc.2)) w.heap.size none s l := fun h => h.step (by omega) (.inl rfl) (fun b _ h2 _ => set10_other _ _ _ (by omega))
          have hLR : LR 3 (Proofs.set10 wA w.heap.size (rL ta bg pe.2 s1 s2 s3 s4 rc.2)) w.heap.size none (rL ta bg pe.2 s1 s2 s3 s4 rc.2) ⟨2, ta, ⟨#[]⟩, bg, pe.2, ak.1, ak.2, pe.1, rc.1, rc.2⟩ := ⟨⟨rfl, rfl, rfl, rfl, rfl, rfl⟩, hst HRT.out.1, hst HRT.out.2.1, hst HRT.out.2.2.1, hst HRT.out.2.2.2⟩
          exact ⟨m2, _, k' + 1, rfl, ⟨_, rfl, hLR⟩, rfl, m3⟩
        · have e1 : (kd (all.drop k') == 10 + ((1 : Nat) : Int)) = false := by simpa using hK
          rw [tkk, e1] at hr2
          have HB : Hid (LQ R (some ⟨g, 0, none⟩) c all e w wA k' (atOf e (all.drop k')) 50 (w.heap.size + 1) (rL ta bg pe.2 s1 s2 s3 s4 rc.2)) := hr2
          have HSB : Hid (S = .no (atOf e (all.drop k')) 50) := by
            show _ = _
            rw [HS9.out, rlE, wantT, if_neg (fun h => hK (q3.1 (by omega)))]
            rfl
          clear hr2 e1 hK q3 HS9 HRT
          obtain ⟨c0, c1, c2, c3, c4, c5, c6, c7, c8, c9⟩ := HB.out.own.cells
          obtain ⟨d0, d1, d2, d3, d4, d5, d6, d7, d8, d9⟩ := HB.out.res.cells
          obtain ⟨f0, f1, f2, f3, f4, f5, f6, f7, f8, f9⟩ := HB.out.res.frozen
          go_wp2
          obtain ⟨m1, m2, m3⟩ := HB.out.tell (rL ta bg pe.2 s1 s2 s3 s4 rc.2)
          refine ret_ln rfl rfl m1 ?_
          unfold OutQ
          rw [HSB.out]
          exact ⟨m2, _, k', rfl, ⟨_, rfl⟩, m3⟩
    · have e1 : (kd (all.drop k1) == 10 + ((0 : Nat) : Int)) = false := by simpa using hK
      rw [tkk, e1] at hr2
      have HB2 : Hid (LQ R (some ⟨g, 0, none⟩) c all e w w6 k1 (atOf e (all.drop k1)) 50 (w.heap.size + 1) (rL ta bg pe.2 s1 s2 s3 noS 0)) := hr2
      have HSB : Hid (S = .no (atOf e (all.drop k1)) 50) := by
        show _ = _
        rw [HS7.out, rlC, wantT, if_neg (fun h => hK (q2.1 (by omega)))]
        rfl
      have e0 : ((50 : Int) == 0) = false := rfl
      clear hr2 e1 hK q2 HB HS7 HRW
      go_wp2_with fail
      refine (fine_any HB2.out.rq).mono ?_
      rintro y wz ⟨rfl, rfl⟩
      rw [e0]
      go_wp2_with fail
      refine (fine_any HB2.out.rq).mono ?_
      rintro y wz ⟨rfl, rfl⟩
      rw [e0]
      obtain ⟨c0, c1, c2, c3, c4, c5, c6, c7, c8, c9⟩ := HB2.out.own.cells
      obtain ⟨d0, d1, d2, d3, d4, d5, d6, d7, d8, d9⟩ := HB2.out.res.cells
      obtain ⟨f0, f1, f2, f3, f4, f5, f6, f7, f8, f9⟩ := HB2.out.res.frozen
      go_wp2
      obtain ⟨m1, m2, m3⟩ := HB2.out.tell (rL ta bg pe.2 s1 s2 s3 noS 0)
      refine ret_ln rfl rfl m1 ?_
      unfold OutQ
      rw [HSB.out]
      exact ⟨m2, _, k1, rfl, ⟨_, rfl⟩, m3⟩
end Go.Proofs
