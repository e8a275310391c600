/-
  The document's writing of items, of all levels: what fails is what the look refuses; else the text is the same.
-/
import Derived.Test.YtknaoahokopplaaGreatDoorT0p
namespace Go.Proofs
open Go.RowKit Go.Shelf
set_option maxRecDepth 100000
theorem rwJ_join (l:List It):rwJ (-1) l l.length=(jnB (l.map texS)).data.toList:=by
 have key:∀ (x:It) (r:List It) (j:Nat),j≤r.length→rwJ (-1) (x::r) (j+1)=(texS x).data.toList++Lib.joinTail [32] ((r.take j).map fun i=>(texS i).data.toList):=by
  intro x r j
  induction j with
  | zero=>
   intro _
   rw [rwJ_succ (i:=x) rfl]
   simp [rwJ,sepB,Lib.joinTail]
  | succ j ih=>
   intro hj
   obtain ⟨i,hi⟩:∃ i,r[j]? = some i:=⟨r[j]'(by omega),List.getElem?_eq_getElem _⟩
   rw [rwJ_succ (i:=i) (by simpa using hi),ih (by omega)]
   have e:sepB (-1) (j+1)=[32]:=by
    unfold sepB
    rw [if_pos (by omega),if_neg (by omega)]
    rfl
   rw [e,List.take_add_one,hi]
   simp [Lib.joinTail]
 have e:(jnB (l.map texS)).data.toList=Lib.join (l.map fun i=>(texS i).data.toList) [32]:=by
  show (Lib.join ((l.map texS).map (·.data.toList)) [32]).toArray.toList=_
  rw [List.map_map]
  rfl
 rw [e]
 cases l with
 | nil=>rfl
 | cons x r=>
  rw [List.length_cons,key x r r.length (Nat.le_refl _),List.take_length,List.map_cons,Lib.join_cons]
theorem setS_bytes (nt:Bool) (xs:List ByteArray):(setS nt xs).data.toList=(if nt then [91,94] else [91])++(jnB xs).data.toList++[93]:=by
 unfold setS
 cases nt <;> simp
theorem wd_nn (u:Int):0≤wd u:=by
 unfold wd
 split
 · omega
 · split
   · rename_i h
     have:=wd_rune h
     unfold Lib.runeLen
     repeat (first | omega | split)
   · omega
theorem RdM.part {d:Nat} {w:World} {m:MI} {i:It} (h:RdM d w m i) (hn:m.n=1):∃ e g z m1 p1,d=e+1∧m.A=some ⟨g,z,none⟩∧g<w.heap.size∧i.ps=[p1]∧RdM e w m1 p1∧∀ k v,(mi1 m1)[k]? = some v→w.cell? ⟨g,z+k,none⟩=some v:=by
 cases d with
 | zero=>obtain ⟨_,_,h0⟩:=h;omega
 | succ e=>
  obtain ⟨_,ms,⟨h1,_,hr⟩,hA⟩:=h
  obtain ⟨g,z,hg,hr⟩:=hr.resolve_left (by omega)
  match ms,h1,i.ps,hA with
  | [m1],_,[p1],hA=>
   have hce:∀ k v,(mi1 m1)[k]? = some v→w.cell? ⟨g,z+k,none⟩=some v:=fun k v hv=>by
    have:=hr 0 m1 rfl k v hv
    rwa [Nat.zero_mul,Nat.add_zero] at this
   obtain ⟨o,ho,_⟩:=cells_of_cell (hce 0 _ rfl)
   exact ⟨e,g,z,m1,p1,rfl,hg,(Array.getElem?_eq_some_iff.1 ho).1,rfl,hA.1,hce⟩
  | _::_::_,h1,_,_=>simp at h1;omega
  | [],h1,_,_=>simp at h1;omega
def Flg (part piece:Bool) (may:Nat):Prop:=(part=true∧piece=false∧may=78)∨(part=false∧piece=false∧may=62)∨(part=false∧piece=true∧may=386)
theorem WP.fail {W W':World} {R:Nat} {bs ts:List UInt8} {B:Nat} {o:Option Int} (h:WR W' R bs 50) (hm:MvW W W' R) (ho:o=some 50):WP W R bs ts B o W':=by
 rw [ho]
 exact ⟨hm,bs,h,by omega⟩
theorem ckB_eq {may:Nat} {i:It} {sub:Nat→Option Int} {m:MI} (hs:stI m=stI (itM i)):ckB may i sub=if hasK may i.knd && stI m then (if i.knd=5 then sub 78 else if i.knd=8 then sub 60 else if i.knd=6 then (if i.rng then none else some 51) else none) else some 50:=by
 rw [hs]
 rfl
set_option maxHeartbeats 4000000 in
theorem item_level {part piece:Bool} {may:Nat} (hf:Flg part piece may) {d:Nat} {R:Nat} {m:MI} {i:It} {W:World} {bs:List UInt8} {B:Nat} (hB:300≤B) (_hB2:B≤100000000) (hM:RdM d W m i) (hP:∀ g z o,m.A=some ⟨g,z,o⟩→m.n≠0→g<R) (hT:m.t.size≤maxLen) (h:WR W R bs 0) (hl:bs.length≤90000000000000) (sub:Nat→Option Int)
 (hset:i.knd=5→may=62→∃ ts Bq,ts.length+Bq≤1000000000∧Bq+3≤B∧(sub 78=none→ts=(jnB (i.ps.map leafS)).data.toList)∧∀ W2 bs2,WR W2 R bs2 0→MvW W W2 R→bs2.length≤bs.length+2→Calls Tryz.prog 122 #[.pointer (some ⟨R,0,none⟩),.slice m.A m.n m.c,.bool true,.bool false,.int .i64 (-1)] W2 fun x W'=>x = .returned (.tuple #[])∧WP W2 R bs2 ts Bq (sub 78) W')
 (hpair:i.knd=8→may=386→∀ m1 p1,i.ps=[p1]→p1.knd≠1→(∀ k v,(mi1 m1)[k]? = some v→W.cell? ⟨(m.A.map (·.block)).getD 0,(m.A.map (·.off)).getD 0+k,none⟩=some v)→(∃ e,d=e+1∧RdM e W m1 p1)→∃ ts Bq,Bq+200≤B∧(sub 60=none→ts=(itemS p1).data.toList)∧∀ W2 bs2,WR W2 R bs2 0→MvW W W2 R→bs2.length≤bs.length+200→Calls Tryz.prog 74 #[.pointer (some ⟨R,0,none⟩),mia m1,.bool false,.bool false] W2 fun x W'=>x = .returned (.tuple #[])∧WP W2 R bs2 ts Bq (sub 60) W')
 (hone:i.knd=8→∀ p1,i.ps=[p1]→p1.knd=1→sub 60=some 50) :
 Calls Tryz.prog 74 #[.pointer (some ⟨R,0,none⟩),mia m,.bool part,.bool piece] W fun x W'=>x = .returned (.tuple #[])∧WP W R bs (texS i).data.toList B (ckB may i sub) W':=by
 have hPl:=hM.plain
 have hn:m.n=i.ps.length:=by
  cases d with
  | zero=>obtain ⟨_,e,e2⟩:=hM;rw [e,e2];rfl
  | succ d=>obtain ⟨_,ms,h1,h2⟩:=hM;rw [←h2.length];exact h1.1
 have hst:=stI_same hPl hn
 rw [ckB_eq (m:=m) hst]
 have hpp:=fun h1=>hM.part h1
 obtain ⟨k,u,t,ps,lo,hi,nt,key⟩:=i
 obtain ⟨mk,mu,mt,A,n,c,mlo,mhi,mnt,mkey⟩:=m
 obtain ⟨h1,h2,h3,h4,h5,h6,h7⟩:=hPl
 simp only at h1 h2 h3 h4 h5 h6 h7
 subst h1 h2 h3 h4 h5 h6 h7
 have hn:n=ps.length:=hn
 have hT:mt.size≤maxLen:=hT
 have hP:∀ g z o,A=some ⟨g,z,o⟩→n≠0→g<R:=hP
 simp only [show (It.mk mk mu mt ps mlo mhi mnt mkey).knd=mk from rfl,show (It.mk mk mu mt ps mlo mhi mnt mkey).rng=isRng mlo mhi from rfl]
 by_cases hk:mk<1∨8<mk
 · have hh:hasK may mk=false:=by
    unfold hasK
    rcases hk with hk | hk
    · rw [decide_eq_false (show ¬ 0<mk by omega)];rfl
    · rw [decide_eq_false (show ¬ mk≤8 by omega)];simp
   refine (qitem_else mk mu mt A n c mlo mhi mnt mkey part piece hk h).mono ?_
   rintro x W' ⟨rfl,h2,m2⟩
   exact ⟨rfl,WP.fail h2 m2 (by rw [hh];rfl)⟩
 have hk8:mk=1∨mk=2∨mk=3∨mk=4∨mk=5∨mk=6∨mk=7∨mk=8:=by omega
 rcases hk8 with rfl | rfl | rfl | rfl | rfl | rfl | rfl | rfl
 · have hh:hasK may 1=true:=by rcases hf with ⟨_,_,rfl⟩ | ⟨_,_,rfl⟩ | ⟨_,_,rfl⟩ <;> decide
   refine qitem_1 mu mt A n c mlo mhi mnt mkey part piece hT h _ (fun hok W2 hw hm => ?_) (fun hno W2 hw hm => ?_)
   · have hst':stI ⟨1,mu,mt,A,n,c,mlo,mhi,mnt,mkey⟩=decide (0<wd mu):=by
      show (decide (0<wd mu) && blankB ⟨1,0,mt,A,n,c,mlo,mhi,mnt,mkey⟩)=_
      rw [hok,Bool.and_true]
     refine (qform_1 mu mt A n c mlo mhi mnt mkey hw hl _ rfl).mono ?_
     rintro x W' ⟨rfl,hx⟩
     refine ⟨rfl,?_⟩
     have hx:=(WP.up hx hB).trans hm
     rw [hh,hst']
     by_cases hu:wd mu=0
     · rw [if_pos hu] at hx
       rw [decide_eq_false (by omega)]
       exact hx.ts (fun e=>by cases e)
     · rw [if_neg hu] at hx
       have:=wd_nn mu
       rw [decide_eq_true (show 0<wd mu by omega)]
       exact hx
   · refine WP.fail hw hm ?_
     have hst':stI ⟨1,mu,mt,A,n,c,mlo,mhi,mnt,mkey⟩=false:=by
      show (decide (0<wd mu) && blankB ⟨1,0,mt,A,n,c,mlo,mhi,mnt,mkey⟩)=_
      rw [hno,Bool.and_false]
     rw [hst',Bool.and_false]
     rfl
 · have hst':stI ⟨2,mu,mt,A,n,c,mlo,mhi,mnt,mkey⟩=(nameOk mt && blankB ⟨2,mu,⟨#[]⟩,A,n,c,mlo,mhi,mnt,mkey⟩):=rfl
   have hh:hasK may 2 = !piece:=by rcases hf with ⟨_,rfl,rfl⟩ | ⟨_,rfl,rfl⟩ | ⟨_,rfl,rfl⟩ <;> decide
   rw [hst',hh]
   refine qitem_2 mu mt A n c mlo mhi mnt mkey part piece hT h _ (fun hok W2 hw hm => ?_) (fun hno W2 hw hm => ?_)
   · rw [Bool.and_comm] at hok
     rw [if_pos hok]
     simp only [Bool.and_eq_true] at hok
     refine (qform_2 mu mt A n c mlo mhi mnt mkey hw hl (nameOk_small hok.2.1)).mono ?_
     rintro x W' ⟨rfl,hx⟩
     exact ⟨rfl,(WP.up hx hB).trans hm⟩
   · rw [Bool.and_comm] at hno
     exact WP.fail hw hm (by rw [hno];rfl)
 · have hst':stI ⟨3,mu,mt,A,n,c,mlo,mhi,mnt,mkey⟩=(nameOk mt && blankB ⟨3,mu,⟨#[]⟩,A,n,c,mlo,mhi,mnt,mkey⟩):=rfl
   have hh:hasK may 3 = !piece:=by rcases hf with ⟨_,rfl,rfl⟩ | ⟨_,rfl,rfl⟩ | ⟨_,rfl,rfl⟩ <;> decide
   rw [hst',hh]
   refine qitem_3 mu mt A n c mlo mhi mnt mkey part piece hT h _ (fun hok W2 hw hm => ?_) (fun hno W2 hw hm => ?_)
   · rw [Bool.and_comm] at hok
     rw [if_pos hok]
     simp only [Bool.and_eq_true] at hok
     refine (qform_3 mu mt A n c mlo mhi mnt mkey hw hl (nameOk_small hok.2.1)).mono ?_
     rintro x W' ⟨rfl,hx⟩
     exact ⟨rfl,(WP.up hx hB).trans hm⟩
   · rw [Bool.and_comm] at hno
     exact WP.fail hw hm (by rw [hno];rfl)
 · have hst':stI ⟨4,mu,mt,A,n,c,mlo,mhi,mnt,mkey⟩=blankB ⟨4,mu,mt,A,n,c,mlo,mhi,mnt,mkey⟩:=rfl
   have hh:hasK may 4=(!part && !piece):=by rcases hf with ⟨rfl,rfl,rfl⟩ | ⟨rfl,rfl,rfl⟩ | ⟨rfl,rfl,rfl⟩ <;> decide
   rw [hst',hh]
   refine qitem_4 mu mt A n c mlo mhi mnt mkey part piece hT h _ (fun hok W2 hw hm => ?_) (fun hno W2 hw hm => ?_)
   · rw [Bool.and_comm] at hok
     rw [if_pos hok]
     refine (qform_4 mu mt A n c mlo mhi mnt mkey hw hl).mono ?_
     rintro x W' ⟨rfl,hx⟩
     exact ⟨rfl,(WP.up hx hB).trans hm⟩
   · rw [Bool.and_comm] at hno
     exact WP.fail hw hm (by rw [hno];rfl)
 · have hst':stI ⟨5,mu,mt,A,n,c,mlo,mhi,mnt,mkey⟩=blankB ⟨5,mu,mt,A,0,c,mlo,mhi,false,mkey⟩:=by
    show (true && blankB ⟨5,mu,mt,none,0,0,mlo,mhi,false,mkey⟩)=_
    rfl
   have hh:hasK may 5=(!part && !piece):=by rcases hf with ⟨rfl,rfl,rfl⟩ | ⟨rfl,rfl,rfl⟩ | ⟨rfl,rfl,rfl⟩ <;> decide
   rw [hst',hh]
   refine qitem_5 mu mt A n c mlo mhi mnt mkey part piece hT h _ (fun hok W2 hw hm => ?_) (fun hno W2 hw hm => ?_)
   · have hok2:=hok
     rw [Bool.and_comm] at hok
     rw [if_pos hok,if_pos rfl]
     simp only [Bool.and_eq_true] at hok
     have hmay:may=62:=by
      rcases hf with ⟨rfl,rfl,rfl⟩ | ⟨rfl,rfl,rfl⟩ | ⟨rfl,rfl,rfl⟩
      · exact absurd hok.1.1 (by decide)
      · rfl
      · exact absurd hok.1.2 (by decide)
     obtain ⟨ts,Bq,hb1,hb2,hts,hrow⟩:=hset rfl hmay
     refine (qform_5 mu mt A n c mlo mhi mnt mkey hw hl ts Bq hb1 (sub 78) (fun W3 bs3 hw3 hm3 hl3=>hrow W3 bs3 hw3 (hm.trans hm3) hl3)).mono ?_
     rintro x W' ⟨rfl,hx⟩
     refine ⟨rfl,((WP.up hx hb2).trans hm).ts fun e => ?_⟩
     rw [hts e]
     exact (setS_bytes mnt (ps.map leafS)).symm
   · rw [Bool.and_comm] at hno
     exact WP.fail hw hm (by rw [hno];rfl)
 · have hst':stI ⟨6,mu,mt,A,n,c,mlo,mhi,mnt,mkey⟩=((decide (0<wd mlo) && decide (0<wd mhi)) && blankB ⟨6,mu,mt,A,n,c,0,0,mnt,mkey⟩):=rfl
   have hh:hasK may 6=part:=by rcases hf with ⟨rfl,rfl,rfl⟩ | ⟨rfl,rfl,rfl⟩ | ⟨rfl,rfl,rfl⟩ <;> decide
   rw [hst',hh]
   refine qitem_6 mu mt A n c mlo mhi mnt mkey part piece hT h _ (fun hok W2 hw hm => ?_) (fun hno W2 hw hm => ?_)
   · simp only [Bool.and_eq_true] at hok
     rw [hok.1,hok.2]
     refine (qform_6 mu mt A n c mlo mhi mnt mkey hw hl _ rfl).mono ?_
     rintro x W' ⟨rfl,hx⟩
     refine ⟨rfl,?_⟩
     have hx:=(WP.up hx hB).trans hm
     have n1:=wd_nn mlo
     have n2:=wd_nn mhi
     by_cases h1:wd mlo=0
     · rw [if_pos h1] at hx
       rw [decide_eq_false (show ¬ 0<wd mlo by omega)]
       exact hx.ts (fun e=>by cases e)
     · rw [if_neg h1] at hx
       by_cases h2:wd mhi=0
       · rw [if_pos h2] at hx
         rw [decide_eq_false (show ¬ 0<wd mhi by omega)]
         rw [Bool.and_false]
         exact hx.ts (fun e=>by cases e)
       · rw [if_neg h2] at hx
         rw [decide_eq_true (show 0<wd mlo by omega),decide_eq_true (show 0<wd mhi by omega)]
         exact hx
   · refine WP.fail hw hm ?_
     rw [Bool.and_comm] at hno
     cases part with
     | false=>rfl
     | true=>
      rw [Bool.true_and] at hno
      rw [hno,Bool.and_false]
      rfl
 · have hst':stI ⟨7,mu,mt,A,n,c,mlo,mhi,mnt,mkey⟩=(cpB mkey && blankB ⟨7,mu,mt,A,n,c,mlo,mhi,mnt,0⟩):=rfl
   have hh:hasK may 7=piece:=by rcases hf with ⟨rfl,rfl,rfl⟩ | ⟨rfl,rfl,rfl⟩ | ⟨rfl,rfl,rfl⟩ <;> decide
   rw [hst',hh]
   refine qitem_7 mu mt A n c mlo mhi mnt mkey part piece hT h _ (fun hok W2 hw hm => ?_) (fun hno W2 hw hm => ?_)
   · rw [Bool.and_comm] at hok
     rw [if_pos hok]
     simp only [Bool.and_eq_true] at hok
     refine (qform_7 mu mt A n c mlo mhi mnt mkey hw hl hok.2.1).mono ?_
     rintro x W' ⟨rfl,hx⟩
     exact ⟨rfl,(WP.up hx hB).trans hm⟩
   · rw [Bool.and_comm] at hno
     exact WP.fail hw hm (by rw [hno];rfl)
 · have hst':stI ⟨8,mu,mt,A,n,c,mlo,mhi,mnt,mkey⟩=((cpB mkey && decide (n=1)) && blankB ⟨8,mu,mt,A,0,c,mlo,mhi,mnt,0⟩):=by
    show ((cpB mkey && decide (n=1)) && blankB ⟨8,mu,mt,none,0,0,mlo,mhi,mnt,0⟩)=_
    rfl
   have hh:hasK may 8=piece:=by rcases hf with ⟨rfl,rfl,rfl⟩ | ⟨rfl,rfl,rfl⟩ | ⟨rfl,rfl,rfl⟩ <;> decide
   rw [hst',hh]
   have hk0:∃ k0:Int,n=1→∃ e g z m1 p1,d=e+1∧A=some ⟨g,z,none⟩∧g<R∧ps=[p1]∧p1.knd=k0∧RdM e W m1 p1∧∀ k v,(mi1 m1)[k]? = some v→W.cell? ⟨g,z+k,none⟩=some v:=by
    by_cases hn1:n=1
    · obtain ⟨e,g,z,m1,p1,h1,h2,h3,h4,h5,h6⟩:=hpp hn1
      exact ⟨p1.knd,fun _=>⟨e,g,z,m1,p1,h1,h2,hP g z none h2 (fun h0=>by rw [hn1] at h0;cases h0),h4,rfl,h5,h6⟩⟩
    · exact ⟨0,fun h=>absurd h hn1⟩
   obtain ⟨k0,hk0⟩:=hk0
   refine qitem_8 mu mt A n c mlo mhi mnt mkey part piece k0 h _ (fun hn1 => ?_) (fun hok W2 hw hm => ?_) (fun hno W2 hw hm => ?_)
   · obtain ⟨e,g,z,m1,p1,_,hA,hg,_,hkk,h5,h6⟩:=hk0 hn1
     refine ⟨g,z,hA,fun W' hb => ?_⟩
     have hc:=h6 0 _ rfl
     have hmk:m1.k=k0:=by
      have:=h5.plain
      obtain ⟨pk,pu,pt,pps,plo,phi,pnt,pkey⟩:=p1
      rw [←hkk]
      exact this.1
     rw [Nat.add_zero,hmk] at hc
     rw [←hc]
     exact hb.cell (p:=⟨g,z,none⟩) hg
   · simp only [Bool.and_eq_true,decide_eq_true_eq,Bool.not_eq_true',beq_eq_false_iff_ne,ne_eq] at hok
     obtain ⟨⟨⟨hc,hn1⟩,hb⟩,hp,hk1⟩:=hok
     obtain ⟨e,g,z,m1,p1,hd,hA,hg,hps,hkk,h5,h6⟩:=hk0 hn1
     subst hA
     have hmay:may=386:=by
      rcases hf with ⟨rfl,rfl,rfl⟩ | ⟨rfl,rfl,rfl⟩ | ⟨rfl,rfl,rfl⟩
      · cases hp
      · cases hp
      · rfl
     rw [hc,hb,hp,decide_eq_true hn1]
     simp only [Bool.and_self,if_true,show ¬ (8:Int)=5 by decide,if_false]
     obtain ⟨ts,Bq,hb1,hts,hitem⟩:=hpair rfl hmay m1 p1 hps (by rw [hkk];exact hk1) h6 ⟨e,hd,h5⟩
     refine (qform_8 mu mt g z n c mlo mhi mnt mkey hw hl hc (by omega) m1 hg (fun i v hv => ?_) ts Bq (sub 60) (fun W3 bs3 hw3 hm3 hl3=>hitem W3 bs3 hw3 (hm.trans hm3) hl3)).mono ?_
     · rw [←h6 i v hv]
       exact hm.bel.cell (p:=⟨g,z+i,none⟩) hg
     · rintro x W' ⟨rfl,hx⟩
       refine ⟨rfl,((WP.up hx hb1).trans hm).ts fun e => ?_⟩
       rw [hts e]
       show _=(copyS mkey++⟨#[58]⟩++itemS (ps.headD nIt)).data.toList
       rw [hps]
       simp
   · refine WP.fail hw hm ?_
     cases piece with
     | false=>rfl
     | true=>
      cases hst2:((cpB mkey && decide (n=1)) && blankB ⟨8,mu,mt,A,0,c,mlo,mhi,mnt,0⟩) with
      | false=>rfl
      | true=>
       have hn1:n=1:=by simp only [Bool.and_eq_true,decide_eq_true_eq] at hst2;exact hst2.1.2
       rw [hst2] at hno
       obtain ⟨e,g,z,m1,p1,hd,hA,hg,hps,hkk,h5,h6⟩:=hk0 hn1
       have hk1:k0=1:=by simpa using hno
       simp only [Bool.and_self,if_true,show ¬ (8:Int)=5 by decide,if_false]
       exact hone rfl p1 hps (by rw [hkk];exact hk1)
end Go.Proofs
