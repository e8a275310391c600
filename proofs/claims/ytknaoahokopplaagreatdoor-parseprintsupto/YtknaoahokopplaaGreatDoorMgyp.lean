/-
  Several texts in one (T5p T6p).
-/
import Derived.Test.YtknaoahokopplaaGreatDoorT4p
namespace Go.Proofs
open Go.RowKit Go.Shelf
set_option maxRecDepth 100000
def tlB (ws:List ByteArray):List UInt8:=(ws.map fun x=>x.data.toList++[32]).flatten
theorem tlB_app (a b:List ByteArray):tlB (a++b)=tlB a++tlB b:=by simp [tlB]
theorem tlB_ite (c:Bool) (x:ByteArray):tlB (if c then [x] else [])=if c then x.data.toList++[32] else []:=by cases c <;> simp [tlB]
theorem tlB_tail (r:List ByteArray):Lib.joinTail [32] (r.map (·.data.toList))++[32]=[32]++tlB r:=by
 induction r with
 | nil=>rfl
 | cons x r ih=>
  have e1:Lib.joinTail [32] ((x::r).map (·.data.toList))=[32]++x.data.toList++Lib.joinTail [32] (r.map (·.data.toList)):=by simp [Lib.joinTail]
  have e2:tlB (x::r)=x.data.toList++[32]++tlB r:=by simp [tlB]
  rw [e1,e2,List.append_assoc,List.append_assoc,ih]
  simp
theorem jnB_bytes (xs:List ByteArray):(jnB xs).data.toList=Lib.join (xs.map (·.data.toList)) [32]:=by
 show (Lib.join (xs.map (·.data.toList)) [32]).toArray.toList=_
 rfl
theorem jn_tl (ws:List ByteArray) (x:ByteArray):(jnB (ws++[x])).data.toList=tlB ws++x.data.toList:=by
 rw [jnB_bytes]
 cases ws with
 | nil=>rw [List.nil_append,List.map_cons,List.map_nil,Lib.join_one];rfl
 | cons a r=>
  rw [List.cons_append,List.map_cons,Lib.join_cons]
  have e1:Lib.joinTail [32] ((r++[x]).map (·.data.toList))=Lib.joinTail [32] (r.map (·.data.toList))++([32]++x.data.toList):=by simp [Lib.joinTail]
  have e2:tlB (a::r)=a.data.toList++[32]++tlB r:=by simp [tlB]
  rw [e1,e2,←List.append_assoc,←List.append_assoc]
  rw [List.append_assoc a.data.toList,tlB_tail]
  simp
theorem rw_tl (l:List It):rwJ (-1) l l.length++(if 0<l.length then [32] else [])=tlB (l.map texS):=by
 rw [rwJ_join]
 rcases List.eq_nil_or_concat l with rfl | ⟨r,x,rfl⟩
 · rfl
 · rw [List.concat_eq_append,List.map_append,List.map_cons,List.map_nil,jn_tl,if_pos (by simp),tlB_app,List.append_assoc]
   simp [tlB]
noncomputable def curW (q:Nat) (l:List It) (j:Nat):List ByteArray:=(l.take (min q j)).map texS++(if q<j then [⟨#[124]⟩]++((l.drop q).take (j - q)).map texS else [])
theorem cur_tl (q:Nat) (l:List It):∀ j,j≤l.length→rwJ (q:Int) l j++(if 0<j then [32] else [])=tlB (curW q l j)
 | 0,_=>by
  have:¬ q<0:=by omega
  simp [rwJ,curW,tlB]
 | j+1,hj=>by
  obtain ⟨i,hi⟩:∃ i,l[j]? = some i:=⟨l[j]'(by omega),List.getElem?_eq_getElem _⟩
  have ih:=cur_tl q l j (by omega)
  have e1:rwJ (q:Int) l (j+1)++[32]=(rwJ (q:Int) l j++(if 0<j then [32] else []))++((if j=q then [124,32] else [])++((texS i).data.toList++[32])):=by
   rw [rwJ_succ hi]
   unfold sepB
   have:((j:Int)=(q:Int))↔j=q:=by omega
   simp only [this,List.append_assoc]
  rw [if_pos (by omega),e1,ih]
  rcases Nat.lt_trichotomy j q with h | h | h
  · have e2:curW q l (j+1)=curW q l j++[texS i]:=by
     unfold curW
     rw [if_neg (by omega),if_neg (by omega),show min q (j+1)=j+1 by omega,show min q j=j by omega,List.take_add_one,hi]
     simp
    rw [e2,tlB_app,if_neg (by omega)]
    simp [tlB]
  · subst h
    have e2:curW j l (j+1)=curW j l j++[⟨#[124]⟩,texS i]:=by
     unfold curW
     have h1:(l.drop j)[0]? = some i:=by rw [List.getElem?_drop];simpa using hi
     rw [if_pos (by omega),if_neg (by omega),show min j (j+1)=j by omega,show min j j=j by omega,show j+1 - j=0+1 by omega,List.take_add_one,h1]
     simp
    rw [e2,tlB_app,if_pos rfl]
    simp [tlB]
  · have e2:curW q l (j+1)=curW q l j++[texS i]:=by
     unfold curW
     have h1:(l.drop q)[j - q]? = some i:=by rw [List.getElem?_drop,show q+(j - q)=j by omega];exact hi
     rw [if_pos (by omega),if_pos (by omega),show min q (j+1)=q by omega,show min q j=q by omega,show j+1 - q=(j - q)+1 by omega,List.take_add_one,h1]
     simp
    rw [e2,tlB_app,if_neg (by omega)]
    simp [tlB]
theorem rulQ_words (bg en:Bool) (an ky po rs:List It) (q:Nat) (hq:q≤rs.length):rulQ bg en an ky po rs (q:Int)=(jnB (sideW bg en an ky po++[⟨#[62]⟩]++resW q rs)).data.toList++[10]:=by
 have e0:resW q rs=curW q rs rs.length++[⟨#[59]⟩]:=by
  unfold resW curW
  rw [show min q rs.length=q by omega]
  have:(rs.drop q).take (rs.length - q)=rs.drop q:=List.take_of_length_le (by rw [List.length_drop];omega)
  rw [this]
 rw [e0,←List.append_assoc,jn_tl]
 have h1:=rw_tl an
 have h2:=rw_tl ky
 have h3:=rw_tl po
 have h4:=cur_tl q rs rs.length (Nat.le_refl _)
 unfold sideW rulQ
 simp only [tlB_app,tlB_ite,←h1,←h2,←h3,←h4,List.append_assoc,List.nil_append]
 rfl
theorem line3_text:(jnB [⟨#[116,104,101,110]⟩,⟨#[59]⟩]).data.toList++[10]=[116,104,101,110,32,59,10]:=by decide +kernel
theorem line1_text (t:ByteArray) (P:ByteArray):(jnB [(⟨#[36]⟩:ByteArray)++t,⟨#[61]⟩,P,⟨#[59]⟩]).data.toList++[10]=((⟨#[36]⟩:ByteArray)++t++(⟨#[32,61,32]⟩:ByteArray)).data.toList++P.data.toList++[32,59,10]:=by
 have:=jn_tl [(⟨#[36]⟩:ByteArray)++t,⟨#[61]⟩,P] ⟨#[59]⟩
 rw [show [(⟨#[36]⟩:ByteArray)++t,⟨#[61]⟩,P,⟨#[59]⟩]=[(⟨#[36]⟩:ByteArray)++t,⟨#[61]⟩,P]++[⟨#[59]⟩] from rfl,this]
 simp [tlB]
end Go.Proofs
namespace Go.Proofs
open Go.RowKit Go.Shelf
set_option maxRecDepth 100000
attribute [local go_sem] Oper.semAt_some
theorem RSt.start {W:World} {R:Nat} {bs:List UInt8} (h:WR W R bs 0) (m:ML):RSt W m R bs [] 0 none (W.alloc (.cells (ml1 m).toArray 44)):=by
 have hlt:=h.lt
 have hB0:Below W.heap.size W (W.alloc (.cells (ml1 m).toArray 44)):=(Below.refl _ W).alloc (Nat.le_refl _) _
 exact ⟨LB.new _ _,by omega,WK.start (h.below hB0) (MvW.of_below (by omega) hB0)⟩
theorem WK.wr {W W':World} {R:Nat} {bs:List UInt8} (h:WK W R bs [] 0 none W'):WR W' R bs 0:=by
 have:=h.wp.2
 rwa [List.append_nil] at this
set_option maxHeartbeats 8000000 in
theorem qline_w {R:Nat} {W:World} {bs:List UInt8} (h:WR W R bs 0) (hl:bs.length≤10000000000000) (m:ML) (hT:m.t.size≤maxLen) (P:World→Prop)
 (h3:m.k=3→stL m=true→∀ W2,WK W R bs [116,104,101,110,32,59,10] 7 none W2→P W2)
 (h1:m.k=1→stL m=true→∃ g z m1,m.s2.A=some ⟨g,z,none⟩∧g<R∧1≤m.s2.n∧(∀ i v,(mi1 m1)[i]? = some v→W.cell? ⟨g,z+i,none⟩=some v)∧∀ W2,WK W R bs ((⟨#[36]⟩:ByteArray)++m.t++(⟨#[32,61,32]⟩:ByteArray)).data.toList 100 none W2→Calls Tryz.prog 74 #[.pointer (some ⟨R,0,none⟩),mia m1,.bool false,.bool false] W2 fun x W3=>x = .returned (.tuple #[])∧MvW W2 W3 R∧∃ ts K o,WK W R bs ts K o W3∧K≤1000000∧∀ W4,WK W R bs (ts++[32,59,10]) (K+3) o W4→P W4)
 (h2:m.k=2→stL m=true→∀ W2,WR W2 R bs 0→MvW W W2 R→Calls Tryz.prog 75 #[.pointer (some ⟨R,0,none⟩),mla m] W2 fun x W3=>x = .returned (.tuple #[])∧P W3)
 (hno:stL m=false→∀ W2,WR W2 R bs 50→MvW W W2 R→P W2) :
 Calls Tryz.prog 42 #[.pointer (some ⟨R,0,none⟩),mla m] W fun x W'=>x = .returned (.tuple #[])∧P W':=by
 have HS:Hid (RSt W m R bs [] 0 none (W.alloc (.cells (ml1 m).toArray 44))):=RSt.start h m
 have H3:Hid (m.k=3→stL m=true→∀ W2,WK W R bs [116,104,101,110,32,59,10] 7 none W2→P W2):=h3
 have H1:Hid (m.k=1→stL m=true→∃ g z m1,m.s2.A=some ⟨g,z,none⟩∧g<R∧1≤m.s2.n∧(∀ i v,(mi1 m1)[i]? = some v→W.cell? ⟨g,z+i,none⟩=some v)∧∀ W2,WK W R bs ((⟨#[36]⟩:ByteArray)++m.t++(⟨#[32,61,32]⟩:ByteArray)).data.toList 100 none W2→Calls Tryz.prog 74 #[.pointer (some ⟨R,0,none⟩),mia m1,.bool false,.bool false] W2 fun x W3=>x = .returned (.tuple #[])∧MvW W2 W3 R∧∃ ts K o,WK W R bs ts K o W3∧K≤1000000∧∀ W4,WK W R bs (ts++[32,59,10]) (K+3) o W4→P W4):=h1
 have H2:Hid (m.k=2→stL m=true→∀ W2,WR W2 R bs 0→MvW W W2 R→Calls Tryz.prog 75 #[.pointer (some ⟨R,0,none⟩),mla m] W2 fun x W3=>x = .returned (.tuple #[])∧P W3):=h2
 have HNO:Hid (stL m=false→∀ W2,WR W2 R bs 50→MvW W W2 R→P W2):=hno
 have HL:Hid (bs.length≤10000000000000):=hl
 have H73:Hid (∀ w:World,Calls Tryz.prog 73 #[.string m.t] w fun e w'=>e = .returned (.bool (nameOk m.t))∧w'=w):=fun w=>qnamed_any m.t hT w
 clear h hl h3 h1 h2 hno hT
 obtain ⟨k,a,t,bg,en,⟨A1,n1,c1⟩,⟨A2,n2,c2⟩,⟨A3,n3,c3⟩,⟨A4,n4,c4⟩,cur⟩:=m
 go_enter Tryz.func42,Tryz.ntmps42
 obtain ⟨k0,k1,k2,k3,k4,k5,k6,k7,k8,k9⟩:=HS.out.lb.cells
 go_upto_region 1 with fail
 go_cut [4] (fun v4 wx=>v4 = .bool (noRuleB ⟨k,a,t,bg,en,⟨A1,n1,c1⟩,⟨A2,n2,c2⟩,⟨A3,n3,c3⟩,⟨A4,n4,c4⟩,cur⟩)∧Hid (RSt W ⟨k,a,t,bg,en,⟨A1,n1,c1⟩,⟨A2,n2,c2⟩,⟨A3,n3,c3⟩,⟨A4,n4,c4⟩,cur⟩ R bs [] 0 none wx))
 case first=>
  clear H1 H2 H3 HNO H73
  by_cases z0:n1=0
  · have d0:((n1:Int) == 0)=true:=by simpa using z0
    have Z0:=Hid.mk2 z0
    clear z0
    by_cases z1:n3=0
    · have d1:((n3:Int) == 0)=true:=by simpa using z1
      have Z1:=Hid.mk2 z1
      clear z1
      by_cases z2:n4=0
      · have d2:((n4:Int) == 0)=true:=by simpa using z2
        have Z2:=Hid.mk2 z2
        clear z2
        cases bg with
        | true=>
         go_wp2
         go_meet
         exact ⟨by have g0:=Z0.out;have g1:=Z1.out;have g2:=Z2.out;simp [noRuleB, *],HS⟩
        | false=>
         cases en with
         | true=>
          go_wp2
          go_meet
          exact ⟨by have g0:=Z0.out;have g1:=Z1.out;have g2:=Z2.out;simp [noRuleB, *],HS⟩
         | false=>
          by_cases z5:cur=0
          · have d5:(cur == 0)=true:=by simpa using z5
            have Z5:=Hid.mk2 z5
            clear z5
            go_wp2
            go_meet
            exact ⟨by have g0:=Z0.out;have g1:=Z1.out;have g2:=Z2.out;have g5:=Z5.out;simp [noRuleB, *],HS⟩
          · have d5:(cur == 0)=false:=by simpa using z5
            have Z5:=Hid.mk2 z5
            clear z5
            go_wp2
            go_meet
            exact ⟨by have g0:=Z0.out;have g1:=Z1.out;have g2:=Z2.out;have g5:=Z5.out;simp [noRuleB, *],HS⟩
      · have d2:((n4:Int) == 0)=false:=by simpa using z2
        have Z2:=Hid.mk2 z2
        clear z2
        go_wp2
        go_meet
        exact ⟨by have g0:=Z0.out;have g1:=Z1.out;have g2:=Z2.out;simp [noRuleB, *],HS⟩
    · have d1:((n3:Int) == 0)=false:=by simpa using z1
      have Z1:=Hid.mk2 z1
      clear z1
      go_wp2
      go_meet
      exact ⟨by have g0:=Z0.out;have g1:=Z1.out;simp [noRuleB, *],HS⟩
  · have d0:((n1:Int) == 0)=false:=by simpa using z0
    have Z0:=Hid.mk2 z0
    clear z0
    go_wp2
    go_meet
    exact ⟨by have g0:=Z0.out;simp [noRuleB, *],HS⟩
 case rest=>
  obtain ⟨rfl,hcut⟩:=hcut
  clear HS k0 k1 k2 k3 k4 k5 k6 k7 k8 k9
  have HS:=hcut
  clear hcut
  obtain ⟨nr,hnr⟩:∃ nr,noRuleB ⟨k,a,t,bg,en,⟨A1,n1,c1⟩,⟨A2,n2,c2⟩,⟨A3,n3,c3⟩,⟨A4,n4,c4⟩,cur⟩=nr:=⟨_,rfl⟩
  rw [hnr]
  have HNR:Hid (noRuleB ⟨k,a,t,bg,en,⟨A1,n1,c1⟩,⟨A2,n2,c2⟩,⟨A3,n3,c3⟩,⟨A4,n4,c4⟩,cur⟩=nr):=hnr
  clear hnr
  obtain ⟨k0,k1,k2,k3,k4,k5,k6,k7,k8,k9⟩:=HS.out.lb.cells
  by_cases hk3:k=3
  · subst hk3
    generalize hE:emptyB t=E
    have hE2:(t.toList == [])=E:=hE
    have HST:Hid (stL ⟨3,a,t,bg,en,⟨A1,n1,c1⟩,⟨A2,n2,c2⟩,⟨A3,n3,c3⟩,⟨A4,n4,c4⟩,cur⟩=(E && (decide (n2=0) && nr))):=by
     show (emptyB t && (decide (n2=0) && noRuleB _))=_
     rw [hE,HNR.out]
    clear hE H1 H2 H73 HNR
    have hall:(nr=true∧n2=0∧E=true)∨¬ (nr=true∧n2=0∧E=true):=Classical.em _
    rcases hall with ⟨h1,h2,h3⟩ | hbad
    · subst h1
      subst h3
      have hn2:((n2:Int) == 0)=true:=by simpa using h2
      have HO:=Hid.mk2 (H3.out rfl (by rw [HST.out,decide_eq_true h2];rfl))
      clear h2 HST HNO H3
      go_wp2_with fail
      refine (HS.out.wk.put ⟨#[116,104,101,110,32,59,10]⟩ (by have:=HL.out;show _+0+7≤_;omega)).mono ?_
      rintro x w2 ⟨rfl,m2,q2⟩
      have HF:=Hid.mk2 (HO.out w2 q2)
      clear m2 q2
      go_wp2
      first | refine bodyPost_end (results_none rfl _ _ _) rfl ?_ | refine bodyPost_ret (results_none rfl _ _ _) rfl ?_
      exact ⟨rfl,HF.out⟩
    · have HN:=Hid.mk2 (HNO.out (by
       rw [HST.out]
       cases E with
       | false=>rfl
       | true=>
        cases nr with
        | false=>simp
        | true=>simp at hbad ⊢;omega))
      have HBAD:=Hid.mk2 hbad
      clear H3 HNO HST hbad
      cases nr with
      | false=>
       go_wp2_with fail
       refine (qfail_any 50 HS.out.wk.wr).mono ?_
       rintro x w2 ⟨rfl,q2,m2⟩
       have HF:=Hid.mk2 (HN.out w2 q2 (HS.out.wk.wp.1.trans m2))
       clear m2 q2
       go_wp2
       first | refine bodyPost_end (results_none rfl _ _ _) rfl ?_ | refine bodyPost_ret (results_none rfl _ _ _) rfl ?_
       exact ⟨rfl,HF.out⟩
      | true=>
       by_cases hn:n2=0
       · have hn2:((n2:Int) == 0)=true:=by simpa using hn
         have HN0:=Hid.mk2 hn
         clear hn
         cases E with
         | true=>exact absurd ⟨rfl,HN0.out,rfl⟩ HBAD.out
         | false=>
          go_wp2_with fail
          refine (qfail_any 50 HS.out.wk.wr).mono ?_
          rintro x w2 ⟨rfl,q2,m2⟩
          have HF:=Hid.mk2 (HN.out w2 q2 (HS.out.wk.wp.1.trans m2))
          clear m2 q2
          go_wp2
          first | refine bodyPost_end (results_none rfl _ _ _) rfl ?_ | refine bodyPost_ret (results_none rfl _ _ _) rfl ?_
          exact ⟨rfl,HF.out⟩
       · have hn2:((n2:Int) == 0)=false:=by simpa using hn
         clear hn
         go_wp2_with fail
         refine (qfail_any 50 HS.out.wk.wr).mono ?_
         rintro x w2 ⟨rfl,q2,m2⟩
         have HF:=Hid.mk2 (HN.out w2 q2 (HS.out.wk.wp.1.trans m2))
         clear m2 q2
         go_wp2
         first | refine bodyPost_end (results_none rfl _ _ _) rfl ?_ | refine bodyPost_ret (results_none rfl _ _ _) rfl ?_
         exact ⟨rfl,HF.out⟩
  · have e3:(k == 3)=false:=by simpa using hk3
    clear H3
    by_cases hk1:k=1
    · subst hk1
      obtain ⟨nb,hnb⟩:∃ nb,nameOk t=nb:=⟨_,rfl⟩
      have HST:Hid (stL ⟨1,a,t,bg,en,⟨A1,n1,c1⟩,⟨A2,n2,c2⟩,⟨A3,n3,c3⟩,⟨A4,n4,c4⟩,cur⟩=(nb && (decide (n2=1) && nr))∧(nb=true→t.size≤32)):=by
       refine ⟨?_,fun h=>nameOk_small (by rw [hnb];exact h)⟩
       show (nameOk t && (decide (n2=1) && noRuleB _))=_
       rw [hnb,HNR.out]
      have H73':Hid (∀ w:World,Calls Tryz.prog 73 #[.string t] w fun e w'=>e = .returned (.bool nb)∧w'=w):=fun w=>by rw [←hnb];exact H73.out w
      clear hnb H2 H73 HNR hk3 e3
      cases nr with
      | false=>
       have HN:=Hid.mk2 (HNO.out (by rw [HST.out.1];simp))
       clear HNO HST H1 H73'
       go_wp2_with fail
       refine (qfail_any 50 HS.out.wk.wr).mono ?_
       rintro x w2 ⟨rfl,q2,m2⟩
       have HF:=Hid.mk2 (HN.out w2 q2 (HS.out.wk.wp.1.trans m2))
       clear m2 q2
       go_wp2
       first | refine bodyPost_end (results_none rfl _ _ _) rfl ?_ | refine bodyPost_ret (results_none rfl _ _ _) rfl ?_
       exact ⟨rfl,HF.out⟩
      | true=>
       by_cases hn:n2=1
       · have hn2:((n2:Int) == 1)=true:=by simp;omega
         have HN1:=Hid.mk2 hn
         clear hn
         go_wp2_with fail
         refine (H73'.out _).mono ?_
         rintro x w9 ⟨rfl,rfl⟩
         cases nb with
         | false=>
          have HN:=Hid.mk2 (HNO.out (by rw [HST.out.1];rfl))
          clear HNO HST H1 H73'
          go_wp2_with fail
          refine (qfail_any 50 HS.out.wk.wr).mono ?_
          rintro x w2 ⟨rfl,q2,m2⟩
          have HF:=Hid.mk2 (HN.out w2 q2 (HS.out.wk.wp.1.trans m2))
          clear m2 q2
          go_wp2
          first | refine bodyPost_end (results_none rfl _ _ _) rfl ?_ | refine bodyPost_ret (results_none rfl _ _ _) rfl ?_
          exact ⟨rfl,HF.out⟩
         | true=>
          obtain ⟨g,z,m1,hA,hg,hn1,hce,hI⟩:=H1.out (by first | trivial | rfl) (by rw [HST.out.1,decide_eq_true HN1.out];rfl)
          have hA:A2=some ⟨g,z,none⟩:=hA
          have hn1:1≤n2:=hn1
          subst hA
          have ht:=HST.out.2 rfl
          have hx:((⟨#[36]⟩:ByteArray)++t).size=1+t.size:=by rw [ByteArray.size_append];rfl
          have hx2:((⟨#[36]⟩:ByteArray)++t++(⟨#[32,61,32]⟩:ByteArray)).size=1+t.size+3:=by rw [ByteArray.size_append,hx];rfl
          have HPUT:Hid (Calls Tryz.prog 72 #[.pointer (some ⟨R,0,none⟩),.string ((⟨#[36]⟩:ByteArray)++t++(⟨#[32,61,32]⟩:ByteArray))] w9 fun x W2=>x = .returned (.tuple #[])∧MvW w9 W2 R∧WK W R bs (((⟨#[36]⟩:ByteArray)++t++(⟨#[32,61,32]⟩:ByteArray)).data.toList) 100 none W2):=by
           have hl:=HL.out
           refine (HS.out.wk.put ((⟨#[36]⟩:ByteArray)++t++(⟨#[32,61,32]⟩:ByteArray)) (by rw [hx2];clear hx hx2;omega)).mono ?_
           rintro x W2 ⟨rfl,m2,q2⟩
           refine ⟨rfl,m2,q2.up ?_⟩
           rw [hx2]
           clear hx hx2
           omega
          have HI:=Hid.mk2 (And.intro hg (And.intro hce hI))
          have hnI:(0:Int)<(n2:Int):=by omega
          clear hg hce hI HNO HST H1 H73'
          go_wp2_with fail
          refine HPUT.out.mono ?_
          rintro x w2 ⟨rfl,m2,q2⟩
          have H2:Hid (RSt W ⟨1,a,t,bg,en,⟨A1,n1,c1⟩,⟨some ⟨g,z,none⟩,n2,c2⟩,⟨A3,n3,c3⟩,⟨A4,n4,c4⟩,cur⟩ R bs (((⟨#[36]⟩:ByteArray)++t++(⟨#[32,61,32]⟩:ByteArray)).data.toList) 100 none w2):=HS.out.go m2 q2
          clear m2 q2 HPUT k0 k1 k2 k3 k4 k5 k6 k7 k8 k9
          obtain ⟨k0,k1,k2,k3,k4,k5,k6,k7,k8,k9⟩:=H2.out.lb.cells
          have hcw:∀ i v,(mi1 m1)[i]? = some v→w2.cell? ⟨g,z+i,none⟩=some v:=fun i v hv=>by
           rw [←HI.out.2.1 i v hv]
           exact H2.out.wk.wp.1.bel.cell (p:=⟨g,z+i,none⟩) HI.out.1
          have q0:=hcw 0 _ rfl
          have q1:=hcw 1 _ rfl
          have q2:=hcw 2 _ rfl
          have q3:=hcw 3 _ rfl
          have q4:=hcw 4 _ rfl
          have q5:=hcw 5 _ rfl
          have q6:=hcw 6 _ rfl
          have q7:=hcw 7 _ rfl
          simp only [Nat.add_zero] at q0
          clear hcw hx hx2 ht
          go_wp2_with fail
          refine (HI.out.2.2 _ H2.out.wk).mono ?_
          rintro x w3 ⟨rfl,m3,ts,K,o,hk,hK,hfin⟩
          have H3:=Hid.mk2 (And.intro hk (And.intro hK hfin))
          clear m3 hk hK hfin q0 q1 q2 q3 q4 q5 q6 q7
          go_wp2_with fail
          refine (H3.out.1.put ⟨#[32,59,10]⟩ (by have:=HL.out;have:=H3.out.2.1;show _+K+3≤_;omega)).mono ?_
          rintro x w4 ⟨rfl,m4,q4⟩
          have HF:=Hid.mk2 (H3.out.2.2 w4 q4)
          clear m4 q4
          go_wp2
          first | refine bodyPost_end (results_none rfl _ _ _) rfl ?_ | refine bodyPost_ret (results_none rfl _ _ _) rfl ?_
          exact ⟨rfl,HF.out⟩
       · have hn2:((n2:Int) == 1)=false:=by simp;omega
         have HN:=Hid.mk2 (HNO.out (by rw [HST.out.1,decide_eq_false hn];simp))
         clear hn HNO HST H1 H73'
         go_wp2_with fail
         refine (qfail_any 50 HS.out.wk.wr).mono ?_
         rintro x w2 ⟨rfl,q2,m2⟩
         have HF:=Hid.mk2 (HN.out w2 q2 (HS.out.wk.wp.1.trans m2))
         clear m2 q2
         go_wp2
         first | refine bodyPost_end (results_none rfl _ _ _) rfl ?_ | refine bodyPost_ret (results_none rfl _ _ _) rfl ?_
         exact ⟨rfl,HF.out⟩
    · have e1:(k == 1)=false:=by simpa using hk1
      clear H1
      by_cases hk2:k=2
      · subst hk2
        generalize hE:emptyB t=E
        have hE2:(t.toList == [])=E:=hE
        have HST:Hid (stL ⟨2,a,t,bg,en,⟨A1,n1,c1⟩,⟨A2,n2,c2⟩,⟨A3,n3,c3⟩,⟨A4,n4,c4⟩,cur⟩=(E && (decide (0≤cur) && decide (cur≤(n4:Int))))):=by
         show (emptyB t && (decide (0≤cur) && decide (cur≤(n4:Int))))=_
         rw [hE]
        clear hE H73 HNR hk3 e3 hk1 e1
        cases E with
        | false=>
         have HN:=Hid.mk2 (HNO.out (by rw [HST.out];rfl))
         clear HNO HST H2
         go_wp2_with fail
         refine (qfail_any 50 HS.out.wk.wr).mono ?_
         rintro x w2 ⟨rfl,q2,m2⟩
         have HF:=Hid.mk2 (HN.out w2 q2 (HS.out.wk.wp.1.trans m2))
         clear m2 q2
         go_wp2
         first | refine bodyPost_end (results_none rfl _ _ _) rfl ?_ | refine bodyPost_ret (results_none rfl _ _ _) rfl ?_
         exact ⟨rfl,HF.out⟩
        | true=>
         by_cases h0:0≤cur
         · have d0:decide ((0:Int)≤cur)=true:=by simpa using h0
           by_cases h4:cur≤(n4:Int)
           · have d4:decide (cur≤(n4:Int))=true:=by simpa using h4
             have HR:=Hid.mk2 (H2.out rfl (by rw [HST.out,d0,d4];rfl))
             clear HNO HST H2
             go_wp2_with fail
             refine (HR.out _ HS.out.wk.wr HS.out.wk.wp.1).mono ?_
             rintro x w2 ⟨rfl,q2⟩
             have HF:=Hid.mk2 q2
             clear q2
             go_wp2
             first | refine bodyPost_end (results_none rfl _ _ _) rfl ?_ | refine bodyPost_ret (results_none rfl _ _ _) rfl ?_
             exact ⟨rfl,HF.out⟩
           · have d4:decide (cur≤(n4:Int))=false:=by simpa using h4
             have HN:=Hid.mk2 (HNO.out (by rw [HST.out,d4];simp))
             clear HNO HST H2
             go_wp2_with fail
             refine (qfail_any 50 HS.out.wk.wr).mono ?_
             rintro x w2 ⟨rfl,q2,m2⟩
             have HF:=Hid.mk2 (HN.out w2 q2 (HS.out.wk.wp.1.trans m2))
             clear m2 q2
             go_wp2
             first | refine bodyPost_end (results_none rfl _ _ _) rfl ?_ | refine bodyPost_ret (results_none rfl _ _ _) rfl ?_
             exact ⟨rfl,HF.out⟩
         · have d0:decide ((0:Int)≤cur)=false:=by simpa using h0
           have HN:=Hid.mk2 (HNO.out (by rw [HST.out,d0];rfl))
           clear HNO HST H2
           go_wp2_with fail
           refine (qfail_any 50 HS.out.wk.wr).mono ?_
           rintro x w2 ⟨rfl,q2,m2⟩
           have HF:=Hid.mk2 (HN.out w2 q2 (HS.out.wk.wp.1.trans m2))
           clear m2 q2
           go_wp2
           first | refine bodyPost_end (results_none rfl _ _ _) rfl ?_ | refine bodyPost_ret (results_none rfl _ _ _) rfl ?_
           exact ⟨rfl,HF.out⟩
      · have e2:(k == 2)=false:=by simpa using hk2
        have HN:=Hid.mk2 (HNO.out (by
         unfold stL
         exact (if_neg hk3).trans ((if_neg hk1).trans (if_neg hk2))))
        clear HNO H2 H73 HNR hk1 hk2 hk3
        go_wp2_with fail
        refine (qfail_any 50 HS.out.wk.wr).mono ?_
        rintro x w2 ⟨rfl,q2,m2⟩
        have HF:=Hid.mk2 (HN.out w2 q2 (HS.out.wk.wp.1.trans m2))
        clear m2 q2
        go_wp2
        first | refine bodyPost_end (results_none rfl _ _ _) rfl ?_ | refine bodyPost_ret (results_none rfl _ _ _) rfl ?_
        exact ⟨rfl,HF.out⟩
end Go.Proofs
