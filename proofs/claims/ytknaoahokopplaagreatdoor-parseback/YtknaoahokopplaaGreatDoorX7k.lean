/-
  The words of a rule ahead of its result.
-/
import Derived.Deep.DeepCutAuto
import Derived.Test.YtknaoahokopplaaGreatDoorMhgk
namespace Go.Proofs
open Go.RowKit Go.Shelf
set_option maxRecDepth 100000
attribute [local go_sem] Oper.semAt_some
structure SWd (w wr:World) (m:ML) (v:Value) (xs:List ByteArray):Prop where
 lb:LB wr w.heap.size m
 bl:Below w.heap.size w wr
 own:OwnX wr (w.heap.size+1) v xs
 sz:w.heap.size+1≤wr.heap.size
theorem SWd.after {w wr w1:World} {m:ML} {v:Value} {xs:List ByteArray} (h:SWd w wr m v xs) (hb:Below wr.heap.size wr w1):SWd w w1 m v xs:=
 ⟨h.lb.same (hb.block _ h.lb.lt),h.bl.trans (hb.mono h.bl.size),h.own.step fun k hk _=>hb.block k hk,by have:=h.sz;have:=hb.size;omega⟩
theorem SWd.alloc {w wr:World} {m:ML} {v:Value} {xs:List ByteArray} (h:SWd w wr m v xs) (o:Obj):SWd w (wr.alloc o) m v xs:=h.after ((Below.refl _ wr).alloc (Nat.le_refl _) _)
theorem SWd.app {w wr w1:World} {m:ML} {v v':Value} {xs ys:List ByteArray} (h:SWd w wr m v xs) (ho:OwnX w1 (w.heap.size+1) v' ys) (hg:wr.grownBy w1 v.ownBlock):SWd w w1 m v' ys:=
 ⟨h.lb.same (hg.block _ h.lb.lt fun e=>by have:=(h.own.lt _ e.symm).1;omega),h.bl.grown hg h.bl.size (fun k hk=>by have:=(h.own.lt k hk).1;omega),ho,by have:=h.sz;have:=hg.size;omega⟩
theorem SWd.new (w:World) (m:ML):SWd w (w.alloc (.cells (ml1 m).toArray 44)) m (.slice none 0 0) []:=⟨LB.new w m,(Below.refl _ w).alloc (Nat.le_refl _) _,OwnX.nil _ _,by simp⟩
def RowCk (d may:Nat) (w:World) (s:SL) (l:List It):Prop:=RdI d w s.A s.n l∧l.length≤512∧∀ i∈l,ckI d may i=none
theorem RowCk.texts {d may:Nat} {w wr:World} {s:SL} {l:List It} (h:RowCk d may w s l) (hb:Below w.heap.size w wr) (hE:Env w):Calls Tryz.prog 119 #[.slice s.A s.n s.c] wr fun x w'=>∃ v,x = .returned v∧OwnX w' wr.heap.size v (l.map texS)∧Below wr.heap.size wr w':=
 texts_row (h.1.ck (ck_below hb)) h.2.1 h.2.2 (hE.below hb)
noncomputable def sideW (bg en:Bool) (an ky po:List It):List ByteArray:=(((((((if bg then [⟨#[94]⟩] else [])++an.map texS)++(if bg || decide (0<an.length) then [⟨#[123]⟩] else []))++ky.map texS)++(if en || decide (0<po.length) then [⟨#[125]⟩] else []))++po.map texS)++(if en then [⟨#[36]⟩] else []))
theorem sign_r (k:Int) (c:UInt8) (hs:signB k=⟨#[c]⟩) (W:World):Calls Tryz.prog 68 #[.int .i64 k] W fun e w'=>e = .returned (.string ⟨#[c]⟩)∧w'=W:=by rw [←hs];exact signK_any k W
set_option maxHeartbeats 8000000 in
theorem sideWords_any (d:Nat) (k a:Int) (t:ByteArray) (bg en:Bool) (A1 A2 A3:Option Addr) (n1 n2 n3 c1 c2 c3:Nat) (s4:SL) (cur:Int) (an ky po:List It) (w:World) (hE:Env w)
 (h1:RowCk d 62 w ⟨A1,n1,c1⟩ an) (h2:RowCk d 62 w ⟨A2,n2,c2⟩ ky) (h3:RowCk d 62 w ⟨A3,n3,c3⟩ po) :
 Calls Tryz.prog 70 #[mla ⟨k,a,t,bg,en,⟨A1,n1,c1⟩,⟨A2,n2,c2⟩,⟨A3,n3,c3⟩,s4,cur⟩] w fun x w'=>∃ v,x = .returned v∧OwnX w' (w.heap.size+1) v (sideW bg en an ky po)∧Below w.heap.size w w':=by
 have e1:n1=an.length:=h1.1.len
 have e3:n3=po.length:=h3.1.len
 have HR:Hid (RowCk d 62 w ⟨A1,n1,c1⟩ an∧RowCk d 62 w ⟨A2,n2,c2⟩ ky∧RowCk d 62 w ⟨A3,n3,c3⟩ po∧Env w∧n1=an.length∧n3=po.length):=⟨h1,h2,h3,hE,e1,e3⟩
 obtain ⟨T1,hT1⟩:∃ T1,an.map texS=T1:=⟨_,rfl⟩
 obtain ⟨T2,hT2⟩:∃ T2,ky.map texS=T2:=⟨_,rfl⟩
 obtain ⟨T3,hT3⟩:∃ T3,po.map texS=T3:=⟨_,rfl⟩
 have HT:Hid ((T1.length≤512∧T2.length≤512∧T3.length≤512)∧sideW bg en an ky po=(((((((if bg then [⟨#[94]⟩] else [])++T1)++(if bg || decide (0<n1) then [⟨#[123]⟩] else []))++T2)++(if en || decide (0<n3) then [⟨#[125]⟩] else []))++T3)++(if en then [⟨#[36]⟩] else []))):=⟨⟨by rw [←hT1,List.length_map];exact h1.2.1,by rw [←hT2,List.length_map];exact h2.2.1,by rw [←hT3,List.length_map];exact h3.2.1⟩,by rw [sideW,hT1,hT2,hT3,←e1,←e3]⟩
 have HC:Hid (∀ wr,Below w.heap.size w wr→(Calls Tryz.prog 119 #[.slice A1 n1 c1] wr fun x w'=>∃ v,x = .returned v∧OwnX w' wr.heap.size v T1∧Below wr.heap.size wr w')∧(Calls Tryz.prog 119 #[.slice A2 n2 c2] wr fun x w'=>∃ v,x = .returned v∧OwnX w' wr.heap.size v T2∧Below wr.heap.size wr w')∧(Calls Tryz.prog 119 #[.slice A3 n3 c3] wr fun x w'=>∃ v,x = .returned v∧OwnX w' wr.heap.size v T3∧Below wr.heap.size wr w')):=fun wr hb=>⟨by rw [←hT1];exact h1.texts hb hE,by rw [←hT2];exact h2.texts hb hE,by rw [←hT3];exact h3.texts hb hE⟩
 have H68:Hid (∀ W,(Calls Tryz.prog 68 #[.int .i64 15] W fun e w'=>e = .returned (.string ⟨#[94]⟩)∧w'=W)∧(Calls Tryz.prog 68 #[.int .i64 12] W fun e w'=>e = .returned (.string ⟨#[123]⟩)∧w'=W)∧(Calls Tryz.prog 68 #[.int .i64 13] W fun e w'=>e = .returned (.string ⟨#[125]⟩)∧w'=W)∧(Calls Tryz.prog 68 #[.int .i64 16] W fun e w'=>e = .returned (.string ⟨#[36]⟩)∧w'=W)):=fun W=>⟨sign_r 15 94 (by decide +kernel) W,sign_r 12 123 (by decide +kernel) W,sign_r 13 125 (by decide +kernel) W,sign_r 16 36 (by decide +kernel) W⟩
 have HS:Hid (SWd w (w.alloc (.cells (ml1 ⟨k,a,t,bg,en,⟨A1,n1,c1⟩,⟨A2,n2,c2⟩,⟨A3,n3,c3⟩,s4,cur⟩).toArray 44)) ⟨k,a,t,bg,en,⟨A1,n1,c1⟩,⟨A2,n2,c2⟩,⟨A3,n3,c3⟩,s4,cur⟩ (.slice none 0 0) []):=SWd.new _ _
 clear h1 h2 h3 hE e1 e3 hT1 hT2 hT3
 go_enter Tryz.func70,Tryz.ntmps70
 obtain ⟨k0,k1,k2,k3,k4,k5,k6,k7,k8,k9⟩:=HS.out.lb.cells
 go_upto_if 5 with fail
 clear k0 k1 k2 k3 k4 k5 k6 k7 k8 k9
 go_cut [3] (fun v3 wx=>Hid (SWd w wx ⟨k,a,t,bg,en,⟨A1,n1,c1⟩,⟨A2,n2,c2⟩,⟨A3,n3,c3⟩,s4,cur⟩ v3 ([]++if bg then [⟨#[94]⟩] else [])))
 case first=>
  have hzX:=HS.out.sz
  have hXl:=(show ([]:List ByteArray).length≤0 from Nat.le_refl _)
  cases bg with
  | false=>
   go_wp2
   go_meet
   show SWd _ _ _ _ _
   rw [if_neg (by decide),List.append_nil]
   exact HS.out
  | true=>
   go_wp2_with fail
   refine (H68.out _).1.mono ?_
   rintro x w2 ⟨rfl,rfl⟩
   go_wp2_with (first | (at_builtin;go_must (refine push_XX rfl _ _ rfl (w.heap.size+1) _ [] rfl (HS.out.alloc _).own _ [⟨#[94]⟩] rfl (RdT.new (by simp)) (by first | (simp;done) | (simp;omega)) (by first | (simp;done) | (simp;omega)) ?_);intro A8 n8 c8 w8 hO8 hg8) | fail)
   have H8:=Hid.mk2 ((HS.out.alloc _).app hO8 hg8)
   clear hO8 hg8
   go_wp2
   go_meet
   show SWd _ _ _ _ _
   first | (rw [if_pos trivial]) | (rw [if_pos rfl])
   exact H8.out
 case rest=>
  obtain ⟨X1,hX1⟩:∃ X,([]++if bg then [(⟨#[94]⟩:ByteArray)] else [])=X:=⟨_,rfl⟩
  have HX1:Hid (([]++if bg then [(⟨#[94]⟩:ByteArray)] else [])=X1∧X1.length≤1):=⟨hX1,by rw [←hX1,List.length_append];split <;> simp⟩
  rw [hX1] at hcut
  clear hX1
  try clear HS
  obtain ⟨k0,k1,k2,k3,k4,k5,k6,k7,k8,k9⟩:=hcut.out.lb.cells
  have hzX:=hcut.out.sz
  go_wp2_with fail
  refine (HC.out _ hcut.out.bl).1.mono ?_
  rintro x w2 ⟨y,rfl,hO,hb⟩
  have H2:=Hid.mk2 (And.intro (hcut.out.after hb) hO.rdT)
  have hz2:=H2.out.1.sz
  have hlT:=HT.out.1
  have hlX:=HX1.out.2
  clear hO hb k0 k1 k2 k3 k4 k5 k6 k7 k8 k9
  go_upto_region 5 with (first | (at_builtin;go_must (refine push_XX rfl _ _ rfl (w.heap.size+1) _ X1 rfl H2.out.1.own _ T1 rfl H2.out.2 (by omega) (by omega) ?_);intro A8 n8 c8 w8 hO8 hg8) | fail)
  have HS:=Hid.mk2 (H2.out.1.app hO8 hg8)
  obtain ⟨v8,hv8⟩:∃ v8,Value.slice A8 n8 c8=v8:=⟨_,rfl⟩
  rw [hv8] at HS ⊢
  clear hO8 hg8 H2 hlT hlX hz2 hzX hcut hv8
  obtain ⟨X2,hX2⟩:∃ X,X1++T1=X:=⟨_,rfl⟩
  have HX2:Hid (X1++T1=X2∧X2.length≤600):=⟨hX2,by rw [←hX2,List.length_append];have:=HX1.out.2;have:=HT.out.1;omega⟩
  rw [hX2] at HS
  clear hX2
  obtain ⟨k0,k1,k2,k3,k4,k5,k6,k7,k8,k9⟩:=HS.out.lb.cells
  go_upto_region 5 with fail
  go_cut [22] (fun vi wx=>vi = .bool (bg || decide (0<n1))∧Hid (SWd w wx ⟨k,a,t,bg,en,⟨A1,n1,c1⟩,⟨A2,n2,c2⟩,⟨A3,n3,c3⟩,s4,cur⟩ v8 X2))
  case first=>
   cases bg with
   | true=>
    go_wp2
    go_meet
    exact ⟨rfl,HS⟩
   | false=>
    by_cases hn:0<n1
    · have dn:decide ((0:Int)<(n1:Int))=true:=by simpa using hn
      go_wp2
      go_meet
      exact ⟨by rw [decide_eq_true hn];rfl,HS⟩
    · have dn:decide ((0:Int)<(n1:Int))=false:=by simpa using hn
      go_wp2
      go_meet
      exact ⟨by rw [decide_eq_false hn];rfl,HS⟩
  case rest=>
   obtain ⟨rfl,hcut⟩:=hcut
   clear HS k0 k1 k2 k3 k4 k5 k6 k7 k8 k9
   obtain ⟨bo,hbo⟩:∃ bo,(bg || decide (0<n1))=bo:=⟨_,rfl⟩
   have HBO:Hid ((bg || decide (0<n1))=bo):=hbo
   rw [hbo]
   clear hbo
   go_upto_if 22 with fail
   go_cut [3] (fun v3 wx=>Hid (SWd w wx ⟨k,a,t,bg,en,⟨A1,n1,c1⟩,⟨A2,n2,c2⟩,⟨A3,n3,c3⟩,s4,cur⟩ v3 (X2++if bo then [⟨#[123]⟩] else [])))
   case first=>
    have hzX:=hcut.out.sz
    have hXl:=HX2.out.2
    cases bo with
    | true=>
     go_wp2_with fail
     refine (H68.out _).2.1.mono ?_
     rintro x w2 ⟨rfl,rfl⟩
     go_wp2_with (first | (at_builtin;go_must (refine push_XX rfl _ _ rfl (w.heap.size+1) _ X2 rfl (hcut.out.alloc _).own _ [⟨#[123]⟩] rfl (RdT.new (by simp)) (by first | (simp;done) | (simp;omega)) (by first | (simp;done) | (simp;omega)) ?_);intro A8 n8 c8 w8 hO8 hg8) | fail)
     have H8:=Hid.mk2 ((hcut.out.alloc _).app hO8 hg8)
     clear hO8 hg8
     go_wp2
     go_meet
     show SWd _ _ _ _ _
     first | (rw [if_pos trivial]) | (rw [if_pos rfl])
     exact H8.out
    | false=>
     go_wp2
     go_meet
     show SWd _ _ _ _ _
     rw [if_neg (by decide),List.append_nil]
     exact hcut.out
   case rest=>
    rw [←HBO.out] at hcut
    clear HBO
    obtain ⟨X3,hX3⟩:∃ X,(X2++if bg || decide (0<n1) then [(⟨#[123]⟩:ByteArray)] else [])=X:=⟨_,rfl⟩
    have HX3:Hid ((X2++if bg || decide (0<n1) then [(⟨#[123]⟩:ByteArray)] else [])=X3∧X3.length≤601):=⟨hX3,by rw [←hX3,List.length_append];have:=HX2.out.2;split <;> simp <;> omega⟩
    rw [hX3] at hcut
    clear hX3
    try clear HS
    obtain ⟨k0,k1,k2,k3,k4,k5,k6,k7,k8,k9⟩:=hcut.out.lb.cells
    have hzX:=hcut.out.sz
    go_wp2_with fail
    refine (HC.out _ hcut.out.bl).2.1.mono ?_
    rintro x w2 ⟨y,rfl,hO,hb⟩
    have H2:=Hid.mk2 (And.intro (hcut.out.after hb) hO.rdT)
    have hz2:=H2.out.1.sz
    have hlT:=HT.out.1
    have hlX:=HX3.out.2
    clear hO hb k0 k1 k2 k3 k4 k5 k6 k7 k8 k9
    go_upto_region 8 with (first | (at_builtin;go_must (refine push_XX rfl _ _ rfl (w.heap.size+1) _ X3 rfl H2.out.1.own _ T2 rfl H2.out.2 (by omega) (by omega) ?_);intro A8 n8 c8 w8 hO8 hg8) | fail)
    have HS:=Hid.mk2 (H2.out.1.app hO8 hg8)
    obtain ⟨v8,hv8⟩:∃ v8,Value.slice A8 n8 c8=v8:=⟨_,rfl⟩
    rw [hv8] at HS ⊢
    clear hO8 hg8 H2 hlT hlX hz2 hzX hcut hv8
    obtain ⟨X4,hX4⟩:∃ X,X3++T2=X:=⟨_,rfl⟩
    have HX4:Hid (X3++T2=X4∧X4.length≤1200):=⟨hX4,by rw [←hX4,List.length_append];have:=HX3.out.2;have:=HT.out.1;omega⟩
    rw [hX4] at HS
    clear hX4
    obtain ⟨k0,k1,k2,k3,k4,k5,k6,k7,k8,k9⟩:=HS.out.lb.cells
    go_upto_region 8 with fail
    go_cut [39] (fun vi wx=>vi = .bool (en || decide (0<n3))∧Hid (SWd w wx ⟨k,a,t,bg,en,⟨A1,n1,c1⟩,⟨A2,n2,c2⟩,⟨A3,n3,c3⟩,s4,cur⟩ v8 X4))
    case first=>
     cases en with
     | true=>
      go_wp2
      go_meet
      exact ⟨rfl,HS⟩
     | false=>
      by_cases hn:0<n3
      · have dn:decide ((0:Int)<(n3:Int))=true:=by simpa using hn
        go_wp2
        go_meet
        exact ⟨by rw [decide_eq_true hn];rfl,HS⟩
      · have dn:decide ((0:Int)<(n3:Int))=false:=by simpa using hn
        go_wp2
        go_meet
        exact ⟨by rw [decide_eq_false hn];rfl,HS⟩
    case rest=>
     obtain ⟨rfl,hcut⟩:=hcut
     clear HS k0 k1 k2 k3 k4 k5 k6 k7 k8 k9
     obtain ⟨bo,hbo⟩:∃ bo,(en || decide (0<n3))=bo:=⟨_,rfl⟩
     have HBO:Hid ((en || decide (0<n3))=bo):=hbo
     rw [hbo]
     clear hbo
     go_upto_if 39 with fail
     go_cut [3] (fun v3 wx=>Hid (SWd w wx ⟨k,a,t,bg,en,⟨A1,n1,c1⟩,⟨A2,n2,c2⟩,⟨A3,n3,c3⟩,s4,cur⟩ v3 (X4++if bo then [⟨#[125]⟩] else [])))
     case first=>
      have hzX:=hcut.out.sz
      have hXl:=HX4.out.2
      cases bo with
      | true=>
       go_wp2_with fail
       refine (H68.out _).2.2.1.mono ?_
       rintro x w2 ⟨rfl,rfl⟩
       go_wp2_with (first | (at_builtin;go_must (refine push_XX rfl _ _ rfl (w.heap.size+1) _ X4 rfl (hcut.out.alloc _).own _ [⟨#[125]⟩] rfl (RdT.new (by simp)) (by first | (simp;done) | (simp;omega)) (by first | (simp;done) | (simp;omega)) ?_);intro A8 n8 c8 w8 hO8 hg8) | fail)
       have H8:=Hid.mk2 ((hcut.out.alloc _).app hO8 hg8)
       clear hO8 hg8
       go_wp2
       go_meet
       show SWd _ _ _ _ _
       first | (rw [if_pos trivial]) | (rw [if_pos rfl])
       exact H8.out
      | false=>
       go_wp2
       go_meet
       show SWd _ _ _ _ _
       rw [if_neg (by decide),List.append_nil]
       exact hcut.out
     case rest=>
      rw [←HBO.out] at hcut
      clear HBO
      obtain ⟨X5,hX5⟩:∃ X,(X4++if en || decide (0<n3) then [(⟨#[125]⟩:ByteArray)] else [])=X:=⟨_,rfl⟩
      have HX5:Hid ((X4++if en || decide (0<n3) then [(⟨#[125]⟩:ByteArray)] else [])=X5∧X5.length≤1201):=⟨hX5,by rw [←hX5,List.length_append];have:=HX4.out.2;split <;> simp <;> omega⟩
      rw [hX5] at hcut
      clear hX5
      try clear HS
      obtain ⟨k0,k1,k2,k3,k4,k5,k6,k7,k8,k9⟩:=hcut.out.lb.cells
      have hzX:=hcut.out.sz
      go_wp2_with fail
      refine (HC.out _ hcut.out.bl).2.2.mono ?_
      rintro x w2 ⟨y,rfl,hO,hb⟩
      have H2:=Hid.mk2 (And.intro (hcut.out.after hb) hO.rdT)
      have hz2:=H2.out.1.sz
      have hlT:=HT.out.1
      have hlX:=HX5.out.2
      clear hO hb k0 k1 k2 k3 k4 k5 k6 k7 k8 k9
      go_upto_region 11 with (first | (at_builtin;go_must (refine push_XX rfl _ _ rfl (w.heap.size+1) _ X5 rfl H2.out.1.own _ T3 rfl H2.out.2 (by omega) (by omega) ?_);intro A8 n8 c8 w8 hO8 hg8) | fail)
      have HS:=Hid.mk2 (H2.out.1.app hO8 hg8)
      obtain ⟨v8,hv8⟩:∃ v8,Value.slice A8 n8 c8=v8:=⟨_,rfl⟩
      rw [hv8] at HS ⊢
      clear hO8 hg8 H2 hlT hlX hz2 hzX hcut hv8
      obtain ⟨X6,hX6⟩:∃ X,X5++T3=X:=⟨_,rfl⟩
      have HX6:Hid (X5++T3=X6∧X6.length≤1800):=⟨hX6,by rw [←hX6,List.length_append];have:=HX5.out.2;have:=HT.out.1;omega⟩
      rw [hX6] at HS
      clear hX6
      obtain ⟨k0,k1,k2,k3,k4,k5,k6,k7,k8,k9⟩:=HS.out.lb.cells
      go_upto_if 50 with fail
      clear k0 k1 k2 k3 k4 k5 k6 k7 k8 k9
      go_cut [3] (fun v3 wx=>Hid (SWd w wx ⟨k,a,t,bg,en,⟨A1,n1,c1⟩,⟨A2,n2,c2⟩,⟨A3,n3,c3⟩,s4,cur⟩ v3 (X6++if en then [⟨#[36]⟩] else [])))
      case first=>
       have hzX:=HS.out.sz
       have hXl:=HX6.out.2
       cases en with
       | false=>
        go_wp2
        go_meet
        show SWd _ _ _ _ _
        rw [if_neg (by decide),List.append_nil]
        exact HS.out
       | true=>
        go_wp2_with fail
        refine (H68.out _).2.2.2.mono ?_
        rintro x w2 ⟨rfl,rfl⟩
        go_wp2_with (first | (at_builtin;go_must (refine push_XX rfl _ _ rfl (w.heap.size+1) _ X6 rfl (HS.out.alloc _).own _ [⟨#[36]⟩] rfl (RdT.new (by simp)) (by first | (simp;done) | (simp;omega)) (by first | (simp;done) | (simp;omega)) ?_);intro A8 n8 c8 w8 hO8 hg8) | fail)
        have H8:=Hid.mk2 ((HS.out.alloc _).app hO8 hg8)
        clear hO8 hg8
        go_wp2
        go_meet
        show SWd _ _ _ _ _
        first | (rw [if_pos trivial]) | (rw [if_pos rfl])
        exact H8.out
      case rest=>
       have HF:Hid (OwnX wc (w.heap.size+1) u3 (sideW bg en an ky po)∧Below w.heap.size w wc):=⟨by rw [HT.out.2,←List.nil_append (if bg then [(⟨#[94]⟩:ByteArray)] else []),HX1.out.1,HX2.out.1,HX3.out.1,HX4.out.1,HX5.out.1,HX6.out.1];exact hcut.out.own,hcut.out.bl⟩
       clear hcut HS
       go_wp2
       go_ret
       exact ⟨_,rfl,HF.out.1,HF.out.2⟩
end Go.Proofs
