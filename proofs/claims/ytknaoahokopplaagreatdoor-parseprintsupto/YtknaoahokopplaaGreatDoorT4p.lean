/-
  The document's writing of a rule.
-/
import Derived.Deep.DeepCutAuto
import Derived.Test.YtknaoahokopplaaGreatDoorMgxp
namespace Go.Proofs
open Go.RowKit Go.Shelf
set_option maxRecDepth 100000
attribute [local go_sem] Oper.semAt_some
structure RSt (W:World) (m:ML) (R:Nat) (bs ts:List UInt8) (K:Nat) (o:Option Int) (wr:World):Prop where
 lb:LB wr W.heap.size m
 ne:W.heap.size≠R
 wk:WK W R bs ts K o wr
theorem WK.up {W W':World} {R:Nat} {bs ts:List UInt8} {K K':Nat} {o:Option Int} (h:WK W R bs ts K o W') (hK:K≤K'):WK W R bs ts K' o W':=⟨h.wp.up hK,fun e=>Nat.le_trans (h.len e) hK,h.nz⟩
theorem RSt.go {W wr w2:World} {m:ML} {R:Nat} {bs ts ts':List UInt8} {K K':Nat} {o o':Option Int} (h:RSt W m R bs ts K o wr) (hm:MvW wr w2 R) (hk:WK W R bs ts' K' o' w2):RSt W m R bs ts' K' o' w2:=⟨h.lb.mvW hm h.ne,h.ne,hk⟩
theorem RSt.skip {W wr:World} {m:ML} {R:Nat} {bs ts:List UInt8} {K K':Nat} {o:Option Int} (h:RSt W m R bs ts K o wr) (hK:K≤K'):RSt W m R bs ts K' o wr:=⟨h.lb,h.ne,h.wk.up hK⟩
noncomputable def rulQ (bg en:Bool) (an ky po rs:List It) (cur:Int):List UInt8:=
 (((((((((((((([]++if bg then [94,32] else [])++rwJ (-1) an an.length)++if 0<an.length then [32] else [])++if bg || decide (0<an.length) then [123,32] else [])++rwJ (-1) ky ky.length)++if 0<ky.length then [32] else [])++if en || decide (0<po.length) then [125,32] else [])++rwJ (-1) po po.length)++if 0<po.length then [32] else [])++if en then [36,32] else [])++[62,32])++rwJ cur rs rs.length)++if 0<rs.length then [32] else [])++[59,10])
set_option maxHeartbeats 8000000 in
theorem qrule_any {d R:Nat} {w W:World} {bs:List UInt8} (hR:R=w.heap.size) (hb:Below R w W) (h:WR W R bs 0) (hl:bs.length≤10000000000000) (k a:Int) (t:ByteArray) (bg en:Bool) (A1 A2 A3 A4:Option Addr) (n1 n2 n3 n4 c1 c2 c3 c4:Nat) (cur:Int) (an ky po rs:List It)
 (r1:RdI d w A1 n1 an) (r2:RdI d w A2 n2 ky) (r3:RdI d w A3 n3 po) (r4:RdI d w A4 n4 rs) (t1:∀ i∈an,Tz d i) (t2:∀ i∈ky,Tz d i) (t3:∀ i∈po,Tz d i) (t4:∀ i∈rs,Tz d i) :
 Calls Tryz.prog 75 #[.pointer (some ⟨R,0,none⟩),mla ⟨k,a,t,bg,en,⟨A1,n1,c1⟩,⟨A2,n2,c2⟩,⟨A3,n3,c3⟩,⟨A4,n4,c4⟩,cur⟩] W fun x W'=>x = .returned (.tuple #[])∧WK W R bs (rulQ bg en an ky po rs cur) 400000000 ((((ckRw (ckI d 62) an).or (ckRw (ckI d 62) ky)).or (ckRw (ckI d 62) po)).or (ckRw (ckI d 386) rs)) W':=by
 have e1:=r1.len
 have e2:=r2.len
 have e3:=r3.len
 have e4:=r4.len
 have hlt:=h.lt
 obtain ⟨T1,hT1⟩:∃ T,rwJ (-1) an an.length=T:=⟨_,rfl⟩
 obtain ⟨T2,hT2⟩:∃ T,rwJ (-1) ky ky.length=T:=⟨_,rfl⟩
 obtain ⟨T3,hT3⟩:∃ T,rwJ (-1) po po.length=T:=⟨_,rfl⟩
 obtain ⟨T4,hT4⟩:∃ T,rwJ cur rs rs.length=T:=⟨_,rfl⟩
 obtain ⟨o1,ho1⟩:∃ o,ckRw (ckI d 62) an=o:=⟨_,rfl⟩
 obtain ⟨o2,ho2⟩:∃ o,ckRw (ckI d 62) ky=o:=⟨_,rfl⟩
 obtain ⟨o3,ho3⟩:∃ o,ckRw (ckI d 62) po=o:=⟨_,rfl⟩
 obtain ⟨o4,ho4⟩:∃ o,ckRw (ckI d 386) rs=o:=⟨_,rfl⟩
 obtain ⟨G,hG⟩:∃ G,rulQ bg en an ky po rs cur=G:=⟨_,rfl⟩
 obtain ⟨O,hO⟩:∃ O,(((ckRw (ckI d 62) an).or (ckRw (ckI d 62) ky)).or (ckRw (ckI d 62) po)).or (ckRw (ckI d 386) rs)=O:=⟨_,rfl⟩
 have HG:Hid ((((((((((((((([]++if bg then [94,32] else [])++T1)++if 0<n1 then [32] else [])++if bg || decide (0<n1) then [123,32] else [])++T2)++if 0<n2 then [32] else [])++if en || decide (0<n3) then [125,32] else [])++T3)++if 0<n3 then [32] else [])++if en then [36,32] else [])++[62,32])++T4)++if 0<n4 then [32] else [])++[59,10])=G∧(((o1).or o2).or o3).or o4=O∧bs.length≤10000000000000):=by
  refine ⟨?_,?_,hl⟩
  · rw [←hG,rulQ,hT1,hT2,hT3,hT4,←e1,←e2,←e3,←e4]
  · rw [←hO,ho1,ho2,ho3,ho4]
 have HR:Hid (∀ (ts:List UInt8) (K:Nat) (o:Option Int) (W1:World),WK W R bs ts K o W1→K≤400000000 →
  (Calls Tryz.prog 122 #[.pointer (some ⟨R,0,none⟩),.slice A1 n1 c1,.bool false,.bool false,.int .i64 (-1)] W1 fun x W2=>x = .returned (.tuple #[])∧MvW W1 W2 R∧WK W R bs (ts++T1) (K+83000000) (o.or o1) W2) ∧
  (Calls Tryz.prog 122 #[.pointer (some ⟨R,0,none⟩),.slice A2 n2 c2,.bool false,.bool false,.int .i64 (-1)] W1 fun x W2=>x = .returned (.tuple #[])∧MvW W1 W2 R∧WK W R bs (ts++T2) (K+83000000) (o.or o2) W2) ∧
  (Calls Tryz.prog 122 #[.pointer (some ⟨R,0,none⟩),.slice A3 n3 c3,.bool false,.bool false,.int .i64 (-1)] W1 fun x W2=>x = .returned (.tuple #[])∧MvW W1 W2 R∧WK W R bs (ts++T3) (K+83000000) (o.or o3) W2) ∧
  (Calls Tryz.prog 122 #[.pointer (some ⟨R,0,none⟩),.slice A4 n4 c4,.bool false,.bool true,.int .i64 cur] W1 fun x W2=>x = .returned (.tuple #[])∧MvW W1 W2 R∧WK W R bs (ts++T4) (K+83000000) (o.or o4) W2)):=fun ts K o W1 hk hK=>by
  rw [←hT1,←hT2,←hT3,←hT4,←ho1,←ho2,←ho3,←ho4]
  exact ⟨hk.row hR hb r1 t1 (by omega) false 62 (.inl ⟨rfl,rfl⟩) (-1),hk.row hR hb r2 t2 (by omega) false 62 (.inl ⟨rfl,rfl⟩) (-1),hk.row hR hb r3 t3 (by omega) false 62 (.inl ⟨rfl,rfl⟩) (-1),hk.row hR hb r4 t4 (by omega) true 386 (.inr ⟨rfl,rfl⟩) cur⟩
 have HP:Hid (∀ (s:ByteArray) (ts:List UInt8) (K:Nat) (o:Option Int) (W1:World),WK W R bs ts K o W1→K≤400000000→s.size≤10→Calls Tryz.prog 72 #[.pointer (some ⟨R,0,none⟩),.string s] W1 fun x W2=>x = .returned (.tuple #[])∧MvW W1 W2 R∧WK W R bs (ts++s.data.toList) (K+s.size) o W2):=fun s ts K o W1 hk hK hs=>hk.put s (by omega)
 rw [hG,hO]
 have hB0:Below W.heap.size W (W.alloc (.cells (ml1 ⟨k,a,t,bg,en,⟨A1,n1,c1⟩,⟨A2,n2,c2⟩,⟨A3,n3,c3⟩,⟨A4,n4,c4⟩,cur⟩).toArray 44)):=(Below.refl _ W).alloc (Nat.le_refl _) _
 have HS:Hid (RSt W ⟨k,a,t,bg,en,⟨A1,n1,c1⟩,⟨A2,n2,c2⟩,⟨A3,n3,c3⟩,⟨A4,n4,c4⟩,cur⟩ R bs [] 0 none (W.alloc (.cells (ml1 ⟨k,a,t,bg,en,⟨A1,n1,c1⟩,⟨A2,n2,c2⟩,⟨A3,n3,c3⟩,⟨A4,n4,c4⟩,cur⟩).toArray 44))):=⟨LB.new _ _,by omega,WK.start (h.below hB0) (MvW.of_below (by omega) hB0)⟩
 clear hB0 hG hO ho1 ho2 ho3 ho4 hT1 hT2 hT3 hT4 hR hb h hl r1 r2 r3 r4 t1 t2 t3 t4 e1 e2 e3 e4
 go_enter Tryz.func75,Tryz.ntmps75
 obtain ⟨k0,k1,k2,k3,k4,k5,k6,k7,k8,k9⟩:=HS.out.lb.cells
 go_upto_if 5 with fail
 clear k0 k1 k2 k3 k4 k5 k6 k7 k8 k9
 go_cut [] (fun wx=>Hid (RSt W ⟨k,a,t,bg,en,⟨A1,n1,c1⟩,⟨A2,n2,c2⟩,⟨A3,n3,c3⟩,⟨A4,n4,c4⟩,cur⟩ R bs ([]++if bg then [94,32] else []) 2 none wx))
 case first=>
  cases bg with
  | false=>
   go_wp2
   go_meet
   show RSt _ _ _ _ _ _ _ _
   rw [if_neg (by decide),List.append_nil]
   exact HS.out.skip (by omega)
  | true=>
   go_wp2_with fail
   refine (HP.out ⟨#[94,32]⟩ _ _ _ _ HS.out.wk (by omega) (by decide)).mono ?_
   rintro x w2 ⟨rfl,m2,q2⟩
   have H8:Hid (RSt W _ R bs ([]++[94,32]) 2 none w2):=HS.out.go m2 q2
   clear m2 q2
   go_wp2
   go_meet
   show RSt _ _ _ _ _ _ _ _
   first | (rw [if_pos trivial]) | (rw [if_pos rfl])
   exact H8.out
 case rest=>
  have HS:=hcut
  clear hcut
  obtain ⟨Y1,hY1⟩:∃ X:List UInt8,([]++if bg then [94,32] else [])=X:=⟨_,rfl⟩
  have HY1:Hid (([]++if bg then [94,32] else [])=Y1):=hY1
  rw [hY1] at HS
  clear hY1
  obtain ⟨k0,k1,k2,k3,k4,k5,k6,k7,k8,k9⟩:=HS.out.lb.cells
  go_wp2_with fail
  refine (HR.out _ _ _ _ HS.out.wk (by omega)).1.mono ?_
  rintro x w2 ⟨rfl,m2,q2⟩
  have H2:Hid (RSt W ⟨k,a,t,bg,en,⟨A1,n1,c1⟩,⟨A2,n2,c2⟩,⟨A3,n3,c3⟩,⟨A4,n4,c4⟩,cur⟩ R bs (Y1++T1) 83000002 (Option.or none o1) w2):=HS.out.go m2 q2
  clear m2 q2 HS k0 k1 k2 k3 k4 k5 k6 k7 k8 k9
  have HS:=H2
  clear H2
  obtain ⟨Y2,hY2⟩:∃ X:List UInt8,(Y1++T1)=X:=⟨_,rfl⟩
  have HY2:Hid ((Y1++T1)=Y2):=hY2
  rw [hY2] at HS
  clear hY2
  obtain ⟨k0,k1,k2,k3,k4,k5,k6,k7,k8,k9⟩:=HS.out.lb.cells
  go_upto_if 15 with fail
  clear k0 k1 k2 k3 k4 k5 k6 k7 k8 k9
  go_cut [] (fun wx=>Hid (RSt W ⟨k,a,t,bg,en,⟨A1,n1,c1⟩,⟨A2,n2,c2⟩,⟨A3,n3,c3⟩,⟨A4,n4,c4⟩,cur⟩ R bs (Y2++if 0<n1 then [32] else []) 83000003 (Option.or none o1) wx))
  case first=>
   by_cases hn:0<n1
   · have dn:decide ((0:Int)<(n1:Int))=true:=by simpa using hn
     go_wp2_with fail
     refine (HP.out ⟨#[32]⟩ _ _ _ _ HS.out.wk (by omega) (by decide)).mono ?_
     rintro x w2 ⟨rfl,m2,q2⟩
     have H8:Hid (RSt W _ R bs (Y2++[32]) 83000003 (Option.or none o1) w2):=HS.out.go m2 q2
     clear m2 q2
     go_wp2
     go_meet
     show RSt _ _ _ _ _ _ _ _
     rw [if_pos hn]
     exact H8.out
   · have dn:decide ((0:Int)<(n1:Int))=false:=by simpa using hn
     go_wp2
     go_meet
     show RSt _ _ _ _ _ _ _ _
     rw [if_neg hn,List.append_nil]
     exact HS.out.skip (by omega)
  case rest=>
   have HS:=hcut
   clear hcut
   obtain ⟨Y3,hY3⟩:∃ X:List UInt8,(Y2++if 0<n1 then [32] else [])=X:=⟨_,rfl⟩
   have HY3:Hid ((Y2++if 0<n1 then [32] else [])=Y3):=hY3
   rw [hY3] at HS
   clear hY3
   obtain ⟨k0,k1,k2,k3,k4,k5,k6,k7,k8,k9⟩:=HS.out.lb.cells
   go_upto_region 6 with fail
   go_cut [25] (fun vi wx=>vi = .bool (bg || decide (0<n1))∧Hid (RSt W ⟨k,a,t,bg,en,⟨A1,n1,c1⟩,⟨A2,n2,c2⟩,⟨A3,n3,c3⟩,⟨A4,n4,c4⟩,cur⟩ R bs Y3 83000003 (Option.or none o1) wx))
   case first=>
    cases bg with
    | true=>
     go_wp2
     go_meet
     exact ⟨rfl,HS⟩
    | false=>
     by_cases hn:0<n1
     · have dn:decide ((0:Int)<(n1:Int))=true:=by simpa using hn
       go_wp2
       go_meet
       exact ⟨by rw [decide_eq_true hn];rfl,HS⟩
     · have dn:decide ((0:Int)<(n1:Int))=false:=by simpa using hn
       go_wp2
       go_meet
       exact ⟨by rw [decide_eq_false hn];rfl,HS⟩
   case rest=>
    obtain ⟨rfl,hcut⟩:=hcut
    clear HS k0 k1 k2 k3 k4 k5 k6 k7 k8 k9
    have HS:=hcut
    clear hcut
    obtain ⟨bo,hbo⟩:∃ bo,(bg || decide (0<n1))=bo:=⟨_,rfl⟩
    have HBO:Hid ((bg || decide (0<n1))=bo):=hbo
    rw [hbo]
    clear hbo
    go_upto_if 25 with fail
    go_cut [] (fun wx=>Hid (RSt W ⟨k,a,t,bg,en,⟨A1,n1,c1⟩,⟨A2,n2,c2⟩,⟨A3,n3,c3⟩,⟨A4,n4,c4⟩,cur⟩ R bs (Y3++if bo then [123,32] else []) 83000005 (Option.or none o1) wx))
    case first=>
     cases bo with
     | false=>
      go_wp2
      go_meet
      show RSt _ _ _ _ _ _ _ _
      rw [if_neg (by decide),List.append_nil]
      exact HS.out.skip (by omega)
     | true=>
      go_wp2_with fail
      refine (HP.out ⟨#[123,32]⟩ _ _ _ _ HS.out.wk (by omega) (by decide)).mono ?_
      rintro x w2 ⟨rfl,m2,q2⟩
      have H8:Hid (RSt W _ R bs (Y3++[123,32]) 83000005 (Option.or none o1) w2):=HS.out.go m2 q2
      clear m2 q2
      go_wp2
      go_meet
      show RSt _ _ _ _ _ _ _ _
      first | (rw [if_pos trivial]) | (rw [if_pos rfl])
      exact H8.out
    case rest=>
     have HS:=hcut
     clear hcut
     rw [←HBO.out] at HS
     clear HBO
     obtain ⟨Y4,hY4⟩:∃ X:List UInt8,(Y3++if bg || decide (0<n1) then [123,32] else [])=X:=⟨_,rfl⟩
     have HY4:Hid ((Y3++if bg || decide (0<n1) then [123,32] else [])=Y4):=hY4
     rw [hY4] at HS
     clear hY4
     obtain ⟨k0,k1,k2,k3,k4,k5,k6,k7,k8,k9⟩:=HS.out.lb.cells
     go_wp2_with fail
     refine (HR.out _ _ _ _ HS.out.wk (by omega)).2.1.mono ?_
     rintro x w2 ⟨rfl,m2,q2⟩
     have H2:Hid (RSt W ⟨k,a,t,bg,en,⟨A1,n1,c1⟩,⟨A2,n2,c2⟩,⟨A3,n3,c3⟩,⟨A4,n4,c4⟩,cur⟩ R bs (Y4++T2) 166000005 (Option.or (Option.or none o1) o2) w2):=HS.out.go m2 q2
     clear m2 q2 HS k0 k1 k2 k3 k4 k5 k6 k7 k8 k9
     have HS:=H2
     clear H2
     obtain ⟨Y5,hY5⟩:∃ X:List UInt8,(Y4++T2)=X:=⟨_,rfl⟩
     have HY5:Hid ((Y4++T2)=Y5):=hY5
     rw [hY5] at HS
     clear hY5
     obtain ⟨k0,k1,k2,k3,k4,k5,k6,k7,k8,k9⟩:=HS.out.lb.cells
     go_upto_if 35 with fail
     clear k0 k1 k2 k3 k4 k5 k6 k7 k8 k9
     go_cut [] (fun wx=>Hid (RSt W ⟨k,a,t,bg,en,⟨A1,n1,c1⟩,⟨A2,n2,c2⟩,⟨A3,n3,c3⟩,⟨A4,n4,c4⟩,cur⟩ R bs (Y5++if 0<n2 then [32] else []) 166000006 (Option.or (Option.or none o1) o2) wx))
     case first=>
      by_cases hn:0<n2
      · have dn:decide ((0:Int)<(n2:Int))=true:=by simpa using hn
        go_wp2_with fail
        refine (HP.out ⟨#[32]⟩ _ _ _ _ HS.out.wk (by omega) (by decide)).mono ?_
        rintro x w2 ⟨rfl,m2,q2⟩
        have H8:Hid (RSt W _ R bs (Y5++[32]) 166000006 (Option.or (Option.or none o1) o2) w2):=HS.out.go m2 q2
        clear m2 q2
        go_wp2
        go_meet
        show RSt _ _ _ _ _ _ _ _
        rw [if_pos hn]
        exact H8.out
      · have dn:decide ((0:Int)<(n2:Int))=false:=by simpa using hn
        go_wp2
        go_meet
        show RSt _ _ _ _ _ _ _ _
        rw [if_neg hn,List.append_nil]
        exact HS.out.skip (by omega)
     case rest=>
      have HS:=hcut
      clear hcut
      obtain ⟨Y6,hY6⟩:∃ X:List UInt8,(Y5++if 0<n2 then [32] else [])=X:=⟨_,rfl⟩
      have HY6:Hid ((Y5++if 0<n2 then [32] else [])=Y6):=hY6
      rw [hY6] at HS
      clear hY6
      obtain ⟨k0,k1,k2,k3,k4,k5,k6,k7,k8,k9⟩:=HS.out.lb.cells
      go_upto_region 11 with fail
      go_cut [45] (fun vi wx=>vi = .bool (en || decide (0<n3))∧Hid (RSt W ⟨k,a,t,bg,en,⟨A1,n1,c1⟩,⟨A2,n2,c2⟩,⟨A3,n3,c3⟩,⟨A4,n4,c4⟩,cur⟩ R bs Y6 166000006 (Option.or (Option.or none o1) o2) wx))
      case first=>
       cases en with
       | true=>
        go_wp2
        go_meet
        exact ⟨rfl,HS⟩
       | false=>
        by_cases hn:0<n3
        · have dn:decide ((0:Int)<(n3:Int))=true:=by simpa using hn
          go_wp2
          go_meet
          exact ⟨by rw [decide_eq_true hn];rfl,HS⟩
        · have dn:decide ((0:Int)<(n3:Int))=false:=by simpa using hn
          go_wp2
          go_meet
          exact ⟨by rw [decide_eq_false hn];rfl,HS⟩
      case rest=>
       obtain ⟨rfl,hcut⟩:=hcut
       clear HS k0 k1 k2 k3 k4 k5 k6 k7 k8 k9
       have HS:=hcut
       clear hcut
       obtain ⟨bo,hbo⟩:∃ bo,(en || decide (0<n3))=bo:=⟨_,rfl⟩
       have HBO:Hid ((en || decide (0<n3))=bo):=hbo
       rw [hbo]
       clear hbo
       go_upto_if 45 with fail
       go_cut [] (fun wx=>Hid (RSt W ⟨k,a,t,bg,en,⟨A1,n1,c1⟩,⟨A2,n2,c2⟩,⟨A3,n3,c3⟩,⟨A4,n4,c4⟩,cur⟩ R bs (Y6++if bo then [125,32] else []) 166000008 (Option.or (Option.or none o1) o2) wx))
       case first=>
        cases bo with
        | false=>
         go_wp2
         go_meet
         show RSt _ _ _ _ _ _ _ _
         rw [if_neg (by decide),List.append_nil]
         exact HS.out.skip (by omega)
        | true=>
         go_wp2_with fail
         refine (HP.out ⟨#[125,32]⟩ _ _ _ _ HS.out.wk (by omega) (by decide)).mono ?_
         rintro x w2 ⟨rfl,m2,q2⟩
         have H8:Hid (RSt W _ R bs (Y6++[125,32]) 166000008 (Option.or (Option.or none o1) o2) w2):=HS.out.go m2 q2
         clear m2 q2
         go_wp2
         go_meet
         show RSt _ _ _ _ _ _ _ _
         first | (rw [if_pos trivial]) | (rw [if_pos rfl])
         exact H8.out
       case rest=>
        have HS:=hcut
        clear hcut
        rw [←HBO.out] at HS
        clear HBO
        obtain ⟨Y7,hY7⟩:∃ X:List UInt8,(Y6++if en || decide (0<n3) then [125,32] else [])=X:=⟨_,rfl⟩
        have HY7:Hid ((Y6++if en || decide (0<n3) then [125,32] else [])=Y7):=hY7
        rw [hY7] at HS
        clear hY7
        obtain ⟨k0,k1,k2,k3,k4,k5,k6,k7,k8,k9⟩:=HS.out.lb.cells
        go_wp2_with fail
        refine (HR.out _ _ _ _ HS.out.wk (by omega)).2.2.1.mono ?_
        rintro x w2 ⟨rfl,m2,q2⟩
        have H2:Hid (RSt W ⟨k,a,t,bg,en,⟨A1,n1,c1⟩,⟨A2,n2,c2⟩,⟨A3,n3,c3⟩,⟨A4,n4,c4⟩,cur⟩ R bs (Y7++T3) 249000008 (Option.or (Option.or (Option.or none o1) o2) o3) w2):=HS.out.go m2 q2
        clear m2 q2 HS k0 k1 k2 k3 k4 k5 k6 k7 k8 k9
        have HS:=H2
        clear H2
        obtain ⟨Y8,hY8⟩:∃ X:List UInt8,(Y7++T3)=X:=⟨_,rfl⟩
        have HY8:Hid ((Y7++T3)=Y8):=hY8
        rw [hY8] at HS
        clear hY8
        obtain ⟨k0,k1,k2,k3,k4,k5,k6,k7,k8,k9⟩:=HS.out.lb.cells
        go_upto_if 55 with fail
        clear k0 k1 k2 k3 k4 k5 k6 k7 k8 k9
        go_cut [] (fun wx=>Hid (RSt W ⟨k,a,t,bg,en,⟨A1,n1,c1⟩,⟨A2,n2,c2⟩,⟨A3,n3,c3⟩,⟨A4,n4,c4⟩,cur⟩ R bs (Y8++if 0<n3 then [32] else []) 249000009 (Option.or (Option.or (Option.or none o1) o2) o3) wx))
        case first=>
         by_cases hn:0<n3
         · have dn:decide ((0:Int)<(n3:Int))=true:=by simpa using hn
           go_wp2_with fail
           refine (HP.out ⟨#[32]⟩ _ _ _ _ HS.out.wk (by omega) (by decide)).mono ?_
           rintro x w2 ⟨rfl,m2,q2⟩
           have H8:Hid (RSt W _ R bs (Y8++[32]) 249000009 (Option.or (Option.or (Option.or none o1) o2) o3) w2):=HS.out.go m2 q2
           clear m2 q2
           go_wp2
           go_meet
           show RSt _ _ _ _ _ _ _ _
           rw [if_pos hn]
           exact H8.out
         · have dn:decide ((0:Int)<(n3:Int))=false:=by simpa using hn
           go_wp2
           go_meet
           show RSt _ _ _ _ _ _ _ _
           rw [if_neg hn,List.append_nil]
           exact HS.out.skip (by omega)
        case rest=>
         have HS:=hcut
         clear hcut
         obtain ⟨Y9,hY9⟩:∃ X:List UInt8,(Y8++if 0<n3 then [32] else [])=X:=⟨_,rfl⟩
         have HY9:Hid ((Y8++if 0<n3 then [32] else [])=Y9):=hY9
         rw [hY9] at HS
         clear hY9
         obtain ⟨k0,k1,k2,k3,k4,k5,k6,k7,k8,k9⟩:=HS.out.lb.cells
         go_upto_if 59 with fail
         clear k0 k1 k2 k3 k4 k5 k6 k7 k8 k9
         go_cut [] (fun wx=>Hid (RSt W ⟨k,a,t,bg,en,⟨A1,n1,c1⟩,⟨A2,n2,c2⟩,⟨A3,n3,c3⟩,⟨A4,n4,c4⟩,cur⟩ R bs (Y9++if en then [36,32] else []) 249000011 (Option.or (Option.or (Option.or none o1) o2) o3) wx))
         case first=>
          cases en with
          | false=>
           go_wp2
           go_meet
           show RSt _ _ _ _ _ _ _ _
           rw [if_neg (by decide),List.append_nil]
           exact HS.out.skip (by omega)
          | true=>
           go_wp2_with fail
           refine (HP.out ⟨#[36,32]⟩ _ _ _ _ HS.out.wk (by omega) (by decide)).mono ?_
           rintro x w2 ⟨rfl,m2,q2⟩
           have H8:Hid (RSt W _ R bs (Y9++[36,32]) 249000011 (Option.or (Option.or (Option.or none o1) o2) o3) w2):=HS.out.go m2 q2
           clear m2 q2
           go_wp2
           go_meet
           show RSt _ _ _ _ _ _ _ _
           first | (rw [if_pos trivial]) | (rw [if_pos rfl])
           exact H8.out
         case rest=>
          have HS:=hcut
          clear hcut
          obtain ⟨Y10,hY10⟩:∃ X:List UInt8,(Y9++if en then [36,32] else [])=X:=⟨_,rfl⟩
          have HY10:Hid ((Y9++if en then [36,32] else [])=Y10):=hY10
          rw [hY10] at HS
          clear hY10
          go_wp2_with fail
          refine (HP.out ⟨#[62,32]⟩ _ _ _ _ HS.out.wk (by omega) (by decide)).mono ?_
          rintro x w2 ⟨rfl,m2,q2⟩
          have H2:Hid (RSt W ⟨k,a,t,bg,en,⟨A1,n1,c1⟩,⟨A2,n2,c2⟩,⟨A3,n3,c3⟩,⟨A4,n4,c4⟩,cur⟩ R bs (Y10++[62,32]) 249000013 (Option.or (Option.or (Option.or none o1) o2) o3) w2):=HS.out.go m2 q2
          clear m2 q2 HS
          have HS:=H2
          clear H2
          obtain ⟨Y11,hY11⟩:∃ X:List UInt8,(Y10++[62,32])=X:=⟨_,rfl⟩
          have HY11:Hid ((Y10++[62,32])=Y11):=hY11
          rw [hY11] at HS
          clear hY11
          obtain ⟨k0,k1,k2,k3,k4,k5,k6,k7,k8,k9⟩:=HS.out.lb.cells
          go_wp2_with fail
          refine (HR.out _ _ _ _ HS.out.wk (by omega)).2.2.2.mono ?_
          rintro x w2 ⟨rfl,m2,q2⟩
          have H2:Hid (RSt W ⟨k,a,t,bg,en,⟨A1,n1,c1⟩,⟨A2,n2,c2⟩,⟨A3,n3,c3⟩,⟨A4,n4,c4⟩,cur⟩ R bs (Y11++T4) 332000013 (Option.or (Option.or (Option.or (Option.or none o1) o2) o3) o4) w2):=HS.out.go m2 q2
          clear m2 q2 HS k0 k1 k2 k3 k4 k5 k6 k7 k8 k9
          have HS:=H2
          clear H2
          obtain ⟨Y12,hY12⟩:∃ X:List UInt8,(Y11++T4)=X:=⟨_,rfl⟩
          have HY12:Hid ((Y11++T4)=Y12):=hY12
          rw [hY12] at HS
          clear hY12
          obtain ⟨k0,k1,k2,k3,k4,k5,k6,k7,k8,k9⟩:=HS.out.lb.cells
          go_upto_if 73 with fail
          clear k0 k1 k2 k3 k4 k5 k6 k7 k8 k9
          go_cut [] (fun wx=>Hid (RSt W ⟨k,a,t,bg,en,⟨A1,n1,c1⟩,⟨A2,n2,c2⟩,⟨A3,n3,c3⟩,⟨A4,n4,c4⟩,cur⟩ R bs (Y12++if 0<n4 then [32] else []) 332000014 (Option.or (Option.or (Option.or (Option.or none o1) o2) o3) o4) wx))
          case first=>
           by_cases hn:0<n4
           · have dn:decide ((0:Int)<(n4:Int))=true:=by simpa using hn
             go_wp2_with fail
             refine (HP.out ⟨#[32]⟩ _ _ _ _ HS.out.wk (by omega) (by decide)).mono ?_
             rintro x w2 ⟨rfl,m2,q2⟩
             have H8:Hid (RSt W _ R bs (Y12++[32]) 332000014 (Option.or (Option.or (Option.or (Option.or none o1) o2) o3) o4) w2):=HS.out.go m2 q2
             clear m2 q2
             go_wp2
             go_meet
             show RSt _ _ _ _ _ _ _ _
             rw [if_pos hn]
             exact H8.out
           · have dn:decide ((0:Int)<(n4:Int))=false:=by simpa using hn
             go_wp2
             go_meet
             show RSt _ _ _ _ _ _ _ _
             rw [if_neg hn,List.append_nil]
             exact HS.out.skip (by omega)
          case rest=>
           have HS:=hcut
           clear hcut
           obtain ⟨Y13,hY13⟩:∃ X:List UInt8,(Y12++if 0<n4 then [32] else [])=X:=⟨_,rfl⟩
           have HY13:Hid ((Y12++if 0<n4 then [32] else [])=Y13):=hY13
           rw [hY13] at HS
           clear hY13
           go_wp2_with fail
           refine (HP.out ⟨#[59,10]⟩ _ _ _ _ HS.out.wk (by omega) (by decide)).mono ?_
           rintro x w2 ⟨rfl,m2,q2⟩
           have H2:Hid (RSt W ⟨k,a,t,bg,en,⟨A1,n1,c1⟩,⟨A2,n2,c2⟩,⟨A3,n3,c3⟩,⟨A4,n4,c4⟩,cur⟩ R bs (Y13++[59,10]) 332000016 (Option.or (Option.or (Option.or (Option.or none o1) o2) o3) o4) w2):=HS.out.go m2 q2
           clear m2 q2 HS
           have HS:=H2
           clear H2
           obtain ⟨Y14,hY14⟩:∃ X:List UInt8,(Y13++[59,10])=X:=⟨_,rfl⟩
           have HY14:Hid ((Y13++[59,10])=Y14):=hY14
           rw [hY14] at HS
           clear hY14
           have HF:Hid (WK W R bs G 400000000 O w2):=by
            show WK _ _ _ _ _ _ _
            rw [←HG.out.1,←HG.out.2.1,HY1.out,HY2.out,HY3.out,HY4.out,HY5.out,HY6.out,HY7.out,HY8.out,HY9.out,HY10.out,HY11.out,HY12.out,HY13.out,HY14.out]
            exact HS.out.wk.up (by omega)
           clear HS HR HP
           go_wp2
           refine bodyPost_end (results_none rfl _ _ _) rfl ?_
           exact ⟨rfl,HF.out⟩
end Go.Proofs
