/-
  Several texts in one (O3k T9k Z0k Z1k O5k Z4k).
-/
import Derived.Test.YtknaoahokopplaaGreatDoorMhkk
import Derived.Test.YtknaoahokopplaaGreatDoorMhak
import Derived.Laws.MakeOwn
import Derived.Test.YtknaoahokopplaaGreatDoorMhgk
import Derived.RangeFuncNested
import Derived.RangeFuncBound
import Derived.RangeFuncCalls
import Derived.RangeFuncLeaves
import Derived.Shelf.Abstract
import Derived.Shelf.RegionOpen
import Derived.WalkKit
import Derived.WalkSpells
import Derived.WalkLawsBesides
import Derived.OwnWalkIn
import Derived.TacticsInMore
import Derived.LoopNIn
import Derived.LoopIn
import Derived.BigQuiet
import Derived.RegionIn
import Derived.Deep.QuietTactic
import Derived.Deep.RegionWith
import Derived.Lib.OthersKept
import Derived.Maps.AppendAt
import Derived.Lib.SmallJoins
import Derived.Shelf.SlSortCmp.QuietGrown
import Derived.RangeFuncWrites
import Derived.RangeFuncBox
import Derived.Maps.OwnIn
import Derived.Deep.DrawnRows
import Derived.Test.YtknaoahokopplaaGreatDoorMhek
namespace Go.Proofs
open Go.RowKit Go.Shelf
theorem sameL_parts {x y:Ln} (h:SameL x y):x.k=y.k∧x.t=y.t∧x.bg=y.bg∧x.en=y.en∧x.ante=y.ante∧x.key=y.key∧x.post=y.post∧x.res=y.res∧x.cur=y.cur:=by
 obtain ⟨k,a,t,bg,en,an,ky,po,rs,cur⟩:=x
 obtain ⟨k',a',t',bg',en',an',ky',po',rs',cur'⟩:=y
 unfold SameL at h
 injection h with h1 h2 h3 h4 h5 h6 h7 h8 h9 h10
 exact ⟨h1,h3,h4,h5,h6,h7,h8,h9,h10⟩
theorem same_lineB {x y:Ln} (h:SameL x y):lineB x=lineB y:=by
 obtain ⟨h1,h2,h3,h4,h5,h6,h7,h8,h9⟩:=sameL_parts h
 unfold lineB lineW
 rw [h1,h2,h3,h4,h5,h6,h7,h8,h9]
theorem same_outS:∀ {xs ys:List Ln},All2 SameL xs ys→outS xs=outS ys
 | [],[],_=>rfl
 | x::xs,y::ys,h=>by
  have h1:=same_lineB h.1
  have h2:=same_outS h.2
  unfold outS at h2 ⊢
  rw [List.map_cons,List.map_cons,List.flatten_cons,List.flatten_cons,h1,h2]
 | [],_::_,h=>h.elim
 | _::_,[],h=>h.elim
theorem tz_none:∀ {d may:Nat} {i:It},ckI d may i=none→Dp d i→Tz d i
 | 0,may,i,h,hD=>by
  obtain ⟨h1,h2,_,_⟩:=ckI_none h hD
  exact tz_txt h1 h2
 | d+1,may,i,h,hD=>by
  obtain ⟨h1,h2,h3,h4⟩:=ckB_noneN h
  have h2':=h2
  refine ⟨tz_txt h1 h2,fun p hp => ?_⟩
  have hb:=hasK_bitsN h1
  by_cases e5:i.knd=5
  · exact tz_none ((ckRw_noneN (h3 e5)).2 p hp) (hD p hp)
  · by_cases e8:i.knd=8
    · exact tz_none ((ckRw_noneN (h4 e8)).2 p hp) (hD p hp)
    · exfalso
      obtain ⟨k,u,t,ps,lo,hi,nt,key⟩:=i
      obtain ⟨q1,q2,q4,_,q6,q7,_⟩:=leaf_eq h2
      have e5:k≠5:=e5
      have e8:k≠8:=e8
      obtain ⟨b0,b1,_⟩:=hb
      have b0:1≤k:=b0
      have b1:k≤8:=b1
      have hps:ps=[]:=by
       have hcase:k=1∨(k=2∨k=3)∨k=4∨k=6∨k=7:=by omega
       rcases hcase with e | e | e | e | e
       · have:=q1 e;injection this
       · have:=q2 e;injection this
       · have:=q4 e;injection this
       · have:=q6 e;injection this
       · have:=q7 e;injection this
      have hp:p∈ps:=hp
      rw [hps] at hp
      cases hp
where
 tz_txt {may:Nat} {i:It} (h1:hasK may i.knd=true) (h2:stI (itM i)=true):i.txt.size≤maxLen:=by
  obtain ⟨k,u,t,ps,lo,hi,nt,key⟩:=i
  show t.size≤maxLen
  obtain ⟨b0,b1,_⟩:=hasK_bitsN h1
  have b0:1≤k:=b0
  have b1:k≤8:=b1
  obtain ⟨q1,q2,q4,q5,q6,q7,q8⟩:=leaf_eq h2
  have hz:(⟨#[]⟩:ByteArray).size≤maxLen:=by unfold maxLen;exact Nat.zero_le _
  have hcase:k=1∨(k=2∨k=3)∨k=4∨k=5∨k=6∨k=7∨k=8:=by omega
  rcases hcase with e | e | e | e | e | e | e
  · have:=q1 e;injection this with _ _ e3;rw [e3];exact hz
  · unfold stI itM at h2
    simp only at h2
    rw [if_neg (by omega),if_pos e] at h2
    simp only [Bool.and_eq_true] at h2
    have:=h2.1
    unfold nameOk at this
    simp only [Bool.and_eq_true,decide_eq_true_eq] at this
    have:=this.2.2
    unfold maxLen
    omega
  · have:=q4 e;injection this with _ _ e3;rw [e3];exact hz
  · have:=q5 e;injection this with _ _ e3;rw [e3];exact hz
  · have:=q6 e;injection this with _ _ e3;rw [e3];exact hz
  · have:=q7 e;injection this with _ _ e3;rw [e3];exact hz
  · obtain ⟨p,this⟩:=q8 e;injection this with _ _ e3;rw [e3];exact hz
theorem tzL_none {d:Nat} {l:Ln} (h:ckLn d l=none) (hD:DpL d l):TzL d l:=by
 obtain ⟨hs,c1,c2,c3,c4⟩:=ckLn_noneN h
 refine ⟨?_,fun i hi=>tz_none ((ckRw_noneN c1).2 i hi) (hD.1 i hi),fun i hi=>tz_none ((ckRw_noneN c2).2 i hi) (hD.2.1 i hi),fun i hi=>tz_none ((ckRw_noneN c3).2 i hi) (hD.2.2.1 i hi),fun i hi=>tz_none ((ckRw_noneN c4).2 i hi) (hD.2.2.2 i hi)⟩
 have hz:(⟨#[]⟩:ByteArray).size≤maxLen:=by unfold maxLen;exact Nat.zero_le _
 unfold stL at hs
 split at hs
 · simp only [Bool.and_eq_true] at hs
   rw [show l.t=⟨#[]⟩ from emptyB_nil hs.1]
   exact hz
 · split at hs
   · simp only [Bool.and_eq_true] at hs
     have:=hs.1
     unfold nameOk at this
     simp only [Bool.and_eq_true,decide_eq_true_eq] at this
     have:=this.2.2
     have e:(lnM l).t=l.t:=rfl
     rw [e] at this
     unfold maxLen
     omega
   · split at hs
     · simp only [Bool.and_eq_true] at hs
       rw [show l.t=⟨#[]⟩ from emptyB_nil hs.1]
       exact hz
     · cases hs
theorem RdLn.dp {d:Nat} {w:World} {m:ML} {l:Ln} (h:RdLn d w m l):DpL d l:=by
 have row:∀ {A:Option Addr} {n:Nat} {x:List It},RdI d w A n x→∀ i∈x,Dp d i:=fun hI i hi=>by
  obtain ⟨ms,_,hA⟩:=hI
  obtain ⟨j,hj,rfl⟩:=List.getElem_of_mem hi
  have hl:=hA.length
  exact (hA.get (List.getElem?_eq_getElem (show j<ms.length by omega)) (List.getElem?_eq_getElem hj)).dp
 exact ⟨row h.2.1,row h.2.2.1,row h.2.2.2.1,row h.2.2.2.2⟩
theorem RdLs.dp {d:Nat} {w:World} {A:Option Addr} {n:Nat} {ls:List Ln} (h:RdLs d w A n ls):∀ l∈ls,DpL d l:=by
 obtain ⟨ms,_,_,hA⟩:=h
 intro l hl
 obtain ⟨j,hj,rfl⟩:=List.getElem_of_mem hl
 have hn:=hA.length
 exact (hA.get (List.getElem?_eq_getElem (show j<ms.length by omega)) (List.getElem?_eq_getElem hj)).dp
theorem outS_cons (l:Ln) (ls:List Ln):outS (l::ls)=lineB l++outS ls:=rfl
theorem outS_many:∀ (ls:List Ln),ls.length≤(outS ls).length
 | []=>Nat.zero_le _
 | l::ls=>by
  have:=outS_many ls
  rw [outS_cons,List.length_append,List.length_cons]
  unfold lineB
  rw [List.length_append,List.length_singleton]
  omega
theorem flat_many:∀ (ls:List Ln),ls.length≤(ls.flatMap tokLn).length
 | []=>Nat.zero_le _
 | l::ls=>by
  have:=flat_many ls
  have:=line_len l
  rw [List.flatMap_cons,List.length_append,List.length_cons]
  omega
theorem back_yes {d:Nat} {ls:List Ln} (hck:∀ l∈ls,ckLn d l=none∧DpL d l) (hlen:(outS ls).length≤32768):∃ ls2,PYes ⟨(outS ls).toArray⟩ ls2∧All2 SameL ls2 ls∧(∀ d2,ckAll (d2+1+1) ls2=0)∧outS ls2=outS ls:=by
 obtain ⟨S,hS⟩:∃ S:ByteArray,S=⟨(outS ls).toArray⟩:=⟨_,rfl⟩
 have hsz:S.size=(outS ls).length:=by rw [hS];exact size_lit _
 have hz:S.size≤maxLen:=by unfold maxLen;omega
 obtain ⟨toks,hR,hT⟩:=(outS_run hck).run hz (p:=0) (by omega) (by rw [hS];simp)
 have hl:=run_len hR
 have htl:=hT.length
 have hfm:=flat_many ls
 obtain ⟨ls2,e2,hA⟩:=lines_back (S.size:Int) ls toks.length (by omega) hck
 have hts:=ts_lines (S.size:Int) (S.size:Int) toks.length toks _ (ts_mk0 hT)
 rw [e2] at hts
 cases hP:linesT S.size toks.length toks with
 | no a c=>rw [hP] at hts;exact hts.elim
 | ok ls3 r=>
  rw [hP] at hts
  have h3:All2 SameL ls3 ls:=all2_trans hts.1 hA
  refine ⟨ls3,?_,h3,fun d2=>read_let d2 (hR.fit hz) hP,same_outS h3⟩
  rw [←hS]
  exact parse_yes S (by omega) toks 0 hR (by omega) hP
where
 all2_trans:∀ {a b c:List Ln},All2 SameL a b→All2 SameL b c→All2 SameL a c
  | [],[],[],_,_=>trivial
  | _::_,_::_,_::_,h,k=>⟨show _=_ from Eq.trans h.1 k.1,all2_trans h.2 k.2⟩
  | [],[],_::_,_,k=>k.elim
  | [],_::_,_,h,_=>h.elim
  | _::_,[],_,h,_=>h.elim
  | _::_,_::_,[],_,k=>k.elim
theorem printS_cases {d:Nat} (ls:List Ln):(∃ c,c≠0∧printS d ls=(⟨#[]⟩,c)∧(ckAll d ls=0→c=2))∨(ckAll d ls=0∧(outS ls).length≤32768∧printS d ls=(⟨(outS ls).toArray⟩,0)):=by
 unfold printS
 by_cases h:ckAll d ls=0
 · rw [if_pos h]
   by_cases h2:32768<(outS ls).length
   · rw [if_pos h2]
     exact .inl ⟨2,by decide,rfl,fun _=>rfl⟩
   · rw [if_neg h2]
     exact .inr ⟨h,by omega,rfl⟩
 · rw [if_neg h]
   exact .inl ⟨_,h,rfl,fun e=>absurd e h⟩
theorem printS_back {d:Nat} {ls:List Ln} (h:ckAll d ls=0) (hlen:(outS ls).length≤32768):printS d ls=(⟨(outS ls).toArray⟩,0):=by
 unfold printS
 rw [if_pos h,if_neg (by omega)]
theorem RowsL.rz {w:World} {b:Nat} {v:Value} {l:List Ln} (h:RowsL w b v l):∃ A c,v = .slice A l.length c∧RdLz 3 w A l.length l:=by
 obtain ⟨A,c,ms,e,h1,h2⟩:=h
 have hl:=h1.length
 refine ⟨A,c,e,ms,hl.symm,?_,h1.mono fun _ _ r=>⟨LR.rd r,?_⟩⟩
 · rcases h2 with ⟨rfl,-⟩ | ⟨g,cur,rfl,_,hg,ht,-⟩
   · exact .inl rfl
   · refine .inr ⟨g,0,rfl,fun j y hj i v hv => ?_⟩
     rw [Nat.zero_add]
     have:=fl10_at ms hj i v hv
     rw [←ht,List.getElem?_take] at this
     split at this
     · simp only [World.cell?,hg]
       simpa using this
     · cases this
 · obtain ⟨ms4,hI,_⟩:=r.2.2.2.2
   rcases hI.2 with ⟨_,h0,_⟩ | ⟨_,_,_,_,_,_,h0,_⟩
   · omega
   · exact h0
theorem RdM.up {w:World} : ∀ {d:Nat} {m:MI} {i:It},RdM d w m i→RdM (d+1) w m i
 | 0,_,_,h=>⟨h.1,[],⟨h.2.2,by rw [h.2.2];decide,.inl h.2.2⟩,by rw [h.2.1];trivial⟩
 | _+1,_,_,h=>⟨h.1,h.2.imp fun _ q=>⟨q.1,q.2.mono fun _ _ r=>r.up⟩⟩
theorem RdI.up {d:Nat} {w:World} {A:Option Addr} {n:Nat} {l:List It} (h:RdI d w A n l):RdI (d+1) w A n l:=h.imp fun _ q=>⟨q.1,q.2.mono fun _ _ r=>r.up⟩
theorem RdLs.up {d:Nat} {w:World} {A:Option Addr} {n:Nat} {ls:List Ln} (h:RdLs d w A n ls):RdLs (d+1) w A n ls:=h.imp fun _ q=>⟨q.1,q.2.1,q.2.2.mono fun _ _ r=>⟨r.1,r.2.1.up,r.2.2.1.up,r.2.2.2.1.up,r.2.2.2.2.up⟩⟩
theorem RdLs.ups {w:World} {A:Option Addr} {n:Nat} {ls:List Ln} (d:Nat):∀ (k:Nat),RdLs d w A n ls→RdLs (d+k) w A n ls
 | 0,h=>h
 | k+1,h=>(RdLs.ups d k h).up
end Go.Proofs
namespace Go.Proofs
open Go.RowKit Go.Shelf
set_option maxRecDepth 100000
end Go.Proofs
namespace Go.Proofs
open Go.RowKit Go.Shelf
set_option maxRecDepth 100000
attribute [local go_sem] Oper.semAt_some
end Go.Proofs
namespace Go.Proofs
open Go.RowKit Go.Shelf
set_option maxRecDepth 100000
attribute [local go_sem] Oper.semAt_some
end Go.Proofs
namespace Go.Proofs
open Go.RowKit Go.Shelf
set_option maxRecDepth 100000
attribute [local go_sem] Oper.semAt_some
theorem RdM.partsG {d:Nat} {W:World} {m:MI} {i:It} (h:RdM d W m i):∃ e ms,RdR W m.A m.n ms∧All2 (RdM e W) ms i.ps:=by
 cases d with
 | zero=>exact ⟨0,[],⟨h.2.2,by rw [h.2.2];decide,.inl h.2.2⟩,by rw [h.2.1];trivial⟩
 | succ d=>
  obtain ⟨_,ms,hR,hA⟩:=h
  exact ⟨d,ms,hR,hA⟩
set_option maxHeartbeats 4000000 in
theorem countedG_step (deep:Nat) (hdeep:deep≤9) (W:World) (A:Option Addr) (n c:Nat) (ms:List MI) (hR:RdR W A n ms)
 (hsub:0<deep→∀ m∈ms,∀ W2,Below W.heap.size W W2→Calls Tryz.prog 33 #[.slice m.A m.n m.c,.int .i64 20000,.int .i64 ((deep:Int) - 1)] W2 fun x W'=>(∃ r:Int,x = .returned (.int .i64 r))∧Below W2.heap.size W2 W') :
 Calls Tryz.prog 33 #[.slice A n c,.int .i64 20000,.int .i64 (deep:Nat)] W fun x W'=>(∃ r:Int,x = .returned (.int .i64 r))∧Below W.heap.size W W':=by
 have H:Hid (n=ms.length∧(n=0∨∃ g z,A=some ⟨g,z,none⟩∧ReadsI W g z ms)):=⟨hR.1,hR.2.2⟩
 have HSUB:=Hid.mk2 hsub
 have hn:n≤9223372036854775807:=hR.2.1
 clear hR hsub
 go_enter Tryz.func33,Tryz.ntmps33
 go_wp2
 go_loopw [7,8] (fun vr vi wr=>∃ (r:Int) (j:Nat),vr = .int .i64 r∧vi = .int .i64 j∧j≤n∧Hid (Below W.heap.size W wr)) (fun _ vi _=>n - (intOf vi).toNat)
 case atStart=>exact ⟨n,0,rfl,rfl,by omega,Below.refl _ _⟩
 case round=>
  obtain ⟨r,j,rfl,rfl,hj,HB⟩:=hrel
  obtain ⟨wo,rfl⟩:∃ wo,wo=wr:=⟨_,rfl⟩
  by_cases hjn:j<n
  · have e1:decide ((j:Int)<(n:Int))=true:=by simpa using hjn
    by_cases hr2:r≤20000
    · have e2:decide (r≤(20000:Int))=true:=by simpa using hr2
      obtain ⟨m,hm⟩:∃ m,ms[j]? = some m:=⟨ms[j]'(by have:=H.out.1;omega),List.getElem?_eq_getElem _⟩
      obtain ⟨g,z,hA,hr⟩:=H.out.2.resolve_left (by omega)
      subst hA
      have q3:=ck_below HB.out _ _ (hr j m hm 3 _ rfl)
      by_cases hd:0<deep
      · have d1:decide ((0:Int)<(deep:Int))=true:=by simpa using hd
        have d2:decide ((deep:Int)<1)=false:=by simp;omega
        have hd1:(1:Int)≤(deep:Int):=by omega
        have HC:=Hid.mk2 (HSUB.out hd m (List.mem_of_getElem? hm) wo HB.out)
        clear hm hr HSUB
        by_cases hmn:0<m.n
        · have d3:decide ((0:Int)<(m.n:Int))=true:=by simpa using hmn
          go_wp2_with fail
          refine HC.out.mono ?_
          rintro x w2 ⟨⟨r2,rfl⟩,hb2⟩
          have HB2:Hid (Below W.heap.size W w2):=HB.out.trans (hb2.mono HB.out.size)
          obtain ⟨s,hs⟩:∃ s,IntKind.i64.wrap (r+r2)=s:=⟨_,rfl⟩
          clear hb2 HC q3
          go_wp2
          exact ⟨⟨_,j+1,rfl,by go_num,by omega,HB2⟩,by simp [intOf];omega⟩
        · have d3:decide ((0:Int)<(m.n:Int))=false:=by simpa using hmn
          go_wp2_with fail
          refine HC.out.mono ?_
          rintro x w2 ⟨⟨r2,rfl⟩,hb2⟩
          have HB2:Hid (Below W.heap.size W w2):=HB.out.trans (hb2.mono HB.out.size)
          obtain ⟨s,hs⟩:∃ s,IntKind.i64.wrap (r+r2)=s:=⟨_,rfl⟩
          clear hb2 HC q3
          go_wp2
          exact ⟨⟨_,j+1,rfl,by go_num,by omega,HB2⟩,by simp [intOf];omega⟩
      · have d1:decide ((0:Int)<(deep:Int))=false:=by simpa using hd
        have d2:decide ((deep:Int)<1)=true:=by simp;omega
        clear hm hr HSUB
        by_cases hmn:0<m.n
        · have d3:decide ((0:Int)<(m.n:Int))=true:=by simpa using hmn
          go_wp2
          go_ret
          exact ⟨⟨20001,rfl⟩,HB.out⟩
        · have d3:decide ((0:Int)<(m.n:Int))=false:=by simpa using hmn
          go_wp2
          exact ⟨⟨r,j+1,rfl,by go_num,by omega,HB⟩,by simp [intOf];omega⟩
    · have e2:decide (r≤(20000:Int))=false:=by simpa using hr2
      clear HSUB
      go_wp2
      go_ret
      exact ⟨⟨r,rfl⟩,HB.out⟩
  · have e1:decide ((j:Int)<(n:Int))=false:=by simpa using hjn
    clear HSUB
    go_wp2
    go_ret
    exact ⟨⟨r,rfl⟩,HB.out⟩
theorem countedG_any:∀ (deep:Nat),deep≤9→∀ (d:Nat) (W:World) (A:Option Addr) (n c:Nat) (l:List It),RdI d W A n l →
 Calls Tryz.prog 33 #[.slice A n c,.int .i64 20000,.int .i64 (deep:Nat)] W fun x W'=>(∃ r:Int,x = .returned (.int .i64 r))∧Below W.heap.size W W'
 | deep,hdeep,d,W,A,n,c,l,hI=>by
  obtain ⟨ms,hR,hA⟩:=hI
  refine countedG_step deep hdeep W A n c ms hR fun h1 m hm W2 hb => ?_
  obtain ⟨j,hj⟩:=List.getElem?_of_mem hm
  have hjl:j<l.length:=by have:=hA.length;have:=(List.getElem?_eq_some_iff.1 hj).1;omega
  have hM:=hA.get hj (List.getElem?_eq_getElem hjl)
  obtain ⟨e,ms2,hR2,hA2⟩:=hM.partsG
  match deep,h1 with
  | k+1,_=>
   have hc:(((k+1:Nat):Int) - 1)=(k:Int):=by omega
   rw [hc]
   refine (countedG_any k (by omega) e W2 m.A m.n m.c _ ⟨ms2,hR2.ck (ck_below hb),hA2.mono fun _ _ r=>r.ck (ck_below hb)⟩).mono ?_
   rintro x W' ⟨⟨r,e1⟩,hb'⟩
   exact ⟨⟨r,e1⟩,hb'⟩
end Go.Proofs
namespace Go.Proofs
open Go.RowKit Go.Shelf
set_option maxRecDepth 100000
attribute [local go_sem] Oper.semAt_some
attribute [local go_sem ↓] Go.wp_at_zero Go.wp_at_succ
def Shut (ops:Array Oper) (l:List Nat):Prop:=∀ k∈l,∀ o,ops[k]? = some o→∀ e∈o.after,Region.binds .any e=true→e.on∈l
def waitsB (ops:Array Oper) (i:Nat):Nat→Nat→Bool
 | 0,_=>false
 | f+1,k=>match ops[k]? with
  | none=>false
  | some o=>o.after.any fun e=>Region.binds .any e && (e.on == i || waitsB ops i f e.on)
def freeB (ops:Array Oper) (i:Nat) (d:Tmp):Bool:=(List.range ops.size).all fun k=>match ops[k]? with
 | none=>true
 | some p => !decide (p.dst=some d) || waitsB ops i 40 k
theorem waitsB_mem {ops:Array Oper} {l:List Nat} (hc:Shut ops l) (i:Nat):∀ (f k:Nat),k∈l→waitsB ops i f k=true→i∈l
 | 0,_,_,h=>by cases h
 | f+1,k,hk,h=>by
  unfold waitsB at h
  split at h
  · cases h
  · rename_i o ho
    rw [Array.any_eq_true'] at h
    obtain ⟨e,hme,h2⟩:=h
    simp only [Bool.and_eq_true,Bool.or_eq_true,beq_iff_eq] at h2
    have:=hc k hk o ho e hme h2.1
    rcases h2.2 with rfl | h3
    · exact this
    · exact waitsB_mem hc i f e.on this h3
theorem freeB_mem {ops:Array Oper} {l:List Nat} {i:Nat} {d:Tmp} (hc:Shut ops l) (hf:freeB ops i d=true) {k:Nat} (hk:k∈l) {p:Oper} (hp:ops[k]? = some p) (hd:p.dst=some d):i∈l:=by
 have hlt:=(Array.getElem?_eq_some_iff.1 hp).1
 have:=List.all_eq_true.1 hf k (by simpa using hlt)
 rw [hp] at this
 simp only [hd,decide_true,Bool.not_true,Bool.false_or] at this
 exact waitsB_mem hc i 40 k hk this
theorem fold_off {ops:Array Oper} {vs:Nat→Value} {l:List Nat} {d:Tmp} (h:∀ i∈l,∀ o,ops[i]? = some o→o.dst≠some d) (a:Act):(l.foldl (put1 ops vs) a).tmps.getD d undef=a.tmps.getD d undef:=by
 induction l generalizing a with
 | nil=>rfl
 | cons i l ih=>
  rw [List.foldl_cons,ih fun j hj=>h j (List.mem_cons_of_mem _ hj)]
  unfold put1
  split
  · rename_i o ho
    cases hd:o.dst with
    | none=>rfl
    | some e=>
     have hne:e≠d:=fun he=>h i List.mem_cons_self o ho (by rw [hd,he])
     simp [Act.put,Array.getElem?_setIfInBounds_ne hne]
  · rfl
def HStep (P:Program) (ops:Array Oper) (Q:Exit→Act→World→Prop) (I:Nat→Value→World→Prop) (a0:Act) (w0:World) (i:Nat) (o:Oper):Prop:=
 ∀ (a:Act) (w:World),Ext w0 w→(∀ j,(o.after.any fun e=>Region.binds .any e && e.on == j)=true→∀ (oj:Oper) (d:Tmp),ops[j]? = some oj→oj.dst=some d→I j (a.tmps.getD d undef) w)→(∀ d,freeB ops i d=true→a.tmps.getD d undef=a0.tmps.getD d undef) →
  ∀ K:Act→World→Prop,(∀ v w',Ext w w'→I i v w'→K (a.put o.dst v) w')→if Region.wanted o (yielded ops a.tmps)=true then Oper.wp P o a w K Q else K (a.put o.dst undef) w
def HSteps (P:Program) (ops:Array Oper) (Q:Exit→Act→World→Prop) (I:Nat→Value→World→Prop) (a0:Act) (w0:World):List Oper→Nat→Prop
 | [],_=>True
 | o::l,k=>HStep P ops Q I a0 w0 k o∧HSteps P ops Q I a0 w0 l (k+1)
theorem hsteps_at {P:Program} {ops:Array Oper} {Q:Exit→Act→World→Prop} {I:Nat→Value→World→Prop} {a0:Act} {w0:World} : ∀ (l:List Oper) (k:Nat),HSteps P ops Q I a0 w0 l k→∀ (i:Nat) (o:Oper),l[i]? = some o→HStep P ops Q I a0 w0 (k+i) o
 | [],_,_,i,o,h=>by simp at h
 | x::l,k,hs,i,o,h=>by
  cases i with
  | zero=>simp at h;subst h;exact hs.1
  | succ i=>
   have:=hsteps_at l (k+1) hs.2 i o (by simpa using h)
   rwa [show k+1+i=k+(i+1) by omega] at this
theorem wpAny_waits {P:Program} {ops:Array Oper} {Q:Exit→Act→World→Prop} {I:Nat→Value→World→Prop} {a0:Act} {w0:World} (hd:Once ops) (he:Early ops) (hsz:∀ (i:Nat) (o:Oper) (d:Tmp),ops[i]? = some o→o.dst=some d→d<a0.tmps.size) (hI:∀ i v w w',I i v w→Ext w w'→I i v w')
 (hst:∀ (i:Nat) (o:Oper),ops[i]? = some o→HStep P ops Q I a0 w0 i o) (hfin:∀ vs w,Ext w0 w→(∀ i,i<ops.size→I i (vs i) w)→Q .normal (putL vs ops.toList 0 a0) w) :
 ∀ (fuel:Nat) (listed:Array Bool) (w:World) (l m:List Nat) (vs:Nat→Value),m.length=fuel→(l++m).Perm (List.range ops.size)→(∀ i,i<ops.size→listed.getD i true=decide (i∈l))→listed.size=ops.size→Ext w0 w→(∀ i∈l,I i (vs i) w)→Shut ops l →
  wpAny P .any ops Q fuel listed (l.foldl (put1 ops vs) a0) w:=by
 have fin:∀ (l m:List Nat) (vs:Nat→Value) (w:World),m=[]→(l++m).Perm (List.range ops.size)→Ext w0 w→(∀ i∈l,I i (vs i) w)→Q .normal (l.foldl (put1 ops vs) a0) w:=by
  intro l m vs w hm hp hw hl
  subst hm
  rw [List.append_nil] at hp
  rw [hp.foldl_eq' (fun x _ y _ z=>put1_comm hd x y z)]
  have:List.range ops.size=List.range' 0 ops.toList.length:=by rw [Array.length_toList,List.range_eq_range']
  rw [this,fold_range vs ops ops.toList 0 a0 (fun j=>by simp)]
  exact hfin vs w hw (fun i hi=>hl i (hp.mem_iff.2 (by simpa using hi)))
 have nodup:∀ (l m:List Nat),(l++m).Perm (List.range ops.size)→(l++m).Nodup:=fun l m hp=>hp.nodup_iff.2 List.nodup_range
 have stuck:∀ (l m:List Nat) (listed:Array Bool),(l++m).Perm (List.range ops.size)→(∀ i,i<ops.size→listed.getD i true=decide (i∈l))→listed.size=ops.size→Region.ready .any ops listed=[]→m=[]:=by
  intro l m listed hp hl hs hr
  have all:∀ i,i<ops.size→i∈l:=by
   intro i
   induction i using Nat.strongRecOn with
   | _ i ih=>
    intro hi
    refine Classical.byContradiction fun hn => ?_
    have hmem:i∈Region.ready .any ops listed:=by
     rw [mem_ready]
     refine ⟨by rw [hl i hi];simp [hn],ops[i],by simp [hi],fun e hme hb => ?_⟩
     have hlt:=he i ops[i] (by simp [hi]) e hme hb
     have h1:=ih e.on hlt (by omega)
     have h2:=hl e.on (by omega)
     rw [decide_eq_true h1] at h2
     have h3:e.on<listed.size:=by omega
     simpa [h3] using h2
    rw [hr] at hmem
    cases hmem
  cases m with
  | nil=>rfl
  | cons x m=>
   have hx:x<ops.size:=by
    have:x∈List.range ops.size:=hp.mem_iff.1 (by simp)
    simpa using this
   have h1:=all x hx
   have h2:=nodup l (x::m) hp
   rw [List.nodup_append] at h2
   exact absurd rfl (h2.2.2 x h1 x (by simp))
 intro fuel
 induction fuel with
 | zero=>
  intro listed w l m vs hm hp hl hs hw hi hc
  have hm0:=List.eq_nil_of_length_eq_zero hm
  refine ⟨?_,fin l m vs w hm0 hp hw hi⟩
  rw [List.eq_nil_iff_forall_not_mem]
  intro j hj
  rw [mem_ready] at hj
  obtain ⟨h1,o,ho,_⟩:=hj
  have hlt:=(Array.getElem?_eq_some_iff.1 ho).1
  rw [hl j hlt] at h1
  subst hm0
  rw [List.append_nil] at hp
  exact absurd (hp.mem_iff.2 (by simpa using hlt)) (of_decide_eq_false h1)
 | succ fuel ih=>
  intro listed w l m vs hm hp hl hs hw hi hc
  refine ⟨fun hr=>fin l m vs w (stuck l m listed hp hl hs hr) hp hw hi,fun i hir => ?_⟩
  rw [mem_ready] at hir
  obtain ⟨h1,o,ho,hall⟩:=hir
  have hlt:=(Array.getElem?_eq_some_iff.1 ho).1
  rw [hl i hlt] at h1
  have hil:i ∉ l:=of_decide_eq_false h1
  have him:i∈m:=by
   have:i∈l++m:=hp.mem_iff.2 (by simpa using hlt)
   rw [List.mem_append] at this
   exact this.resolve_left hil
  refine wpOp_step ho (fun K hK=>hst i o ho _ w hw ?_ ?_ K (fun v w' hww hv=>hK _ _ ?_))
  · intro j hj oj d hoj hod
    have hjl:j∈l:=by
     rw [Array.any_eq_true'] at hj
     obtain ⟨e,hme,h2⟩:=hj
     simp only [Bool.and_eq_true,beq_iff_eq] at h2
     obtain ⟨hb,rfl⟩:=h2
     have h3:=hall e hme hb
     have hjlt:=(Array.getElem?_eq_some_iff.1 hoj).1
     have h4:=hl e.on hjlt
     have h5:e.on<listed.size:=by omega
     have h6:listed.getD e.on true=true:=by simpa [h5] using h3
     rw [h6] at h4
     exact of_decide_eq_true h4.symm
    rw [fold_get hd hjl hoj hod (hsz j oj d hoj hod)]
    exact hi j hjl
  · intro d hfree
    exact fold_off (fun k hk p hp2 h2=>hil (freeB_mem hc hfree hk hp2 h2)) a0
  · let us:Nat→Value:=fun j=>if j=i then v else vs j
    have hus:∀ j∈l,us j=vs j:=fun j hj=>by
     show (if j=i then v else vs j)=vs j
     rw [if_neg (fun e=>hil (by rw [←e];exact hj))]
    have hui:us i=v:=by show (if i=i then v else vs i)=v;rw [if_pos rfl]
    have e1:(l.foldl (put1 ops vs) a0).put o.dst v=(l++[i]).foldl (put1 ops us) a0:=by
     rw [List.foldl_append,fold_congr hus]
     show _=put1 ops us _ i
     unfold put1
     rw [ho,hui]
    rw [e1]
    refine ih (listed.setIfInBounds i true) w' (l++[i]) (m.erase i) us (by rw [List.length_erase_of_mem him];omega) ?_ ?_ (by simpa using hs) (hw.trans hww) ?_ ?_
    · rw [List.append_assoc]
      exact (List.Perm.append_left l (List.perm_cons_erase him).symm).trans hp
    · intro j hj
      by_cases hji:j=i
      · subst hji
        have h5:j<listed.size:=by omega
        simp [h5]
      · have h5:j<listed.size:=by omega
        have:=hl j hj
        simp only [Array.getD_eq_getD_getElem?] at this ⊢
        rw [Array.getElem?_setIfInBounds_ne (fun e=>hji e.symm),this]
        simp [hji]
    · intro j hj
      rw [List.mem_append] at hj
      rcases hj with hj | hj
      · rw [hus j hj]
        exact hI j _ _ _ (hi j hj) hww
      · obtain rfl:j=i:=by simpa using hj
        rw [hui]
        exact hv
    · intro k hk p hp2 e hme hb
      rw [List.mem_append] at hk ⊢
      rcases hk with hk | hk
      · exact .inl (hc k hk p hp2 e hme hb)
      · obtain rfl:k=i:=by simpa using hk
        rw [ho] at hp2
        cases hp2
        have hlt2:=he k o ho e hme hb
        have h3:=hall e hme hb
        have h4:=hl e.on (by omega)
        have h5:e.on<listed.size:=by omega
        have h6:listed.getD e.on true=true:=by simpa [h5] using h3
        rw [h6] at h4
        exact .inl (of_decide_eq_true h4.symm)
theorem wp_region_waits {P:Program} {id:Nat} {l:List Oper} {Q:Exit→Act→World→Prop} {a0:Act} {w0:World} (hm:P.follows .mixedOrders=true) (h1:onceB l=true) (h2:earlyB 0 l=true) (h3:(l.all fun o=>match o.dst with | none=>true | some d=>decide (d<a0.tmps.size))=true)
 (I:Nat→Value→World→Prop) (hI:∀ i v w w',I i v w→Ext w w'→I i v w') (hst:HSteps P l.toArray Q I a0 w0 l 0) (hfin:∀ vs w,Ext w0 w→(∀ i,i<l.length→I i (vs i) w)→Q .normal (putL vs l 0 a0) w):(Code.region id l.toArray true).wp P Q a0 w0:=by
 refine wp_region_any hm ?_
 have h:=wpAny_waits (P:=P) (ops:=l.toArray) (Q:=Q) (I:=I) (a0:=a0) (w0:=w0) (once_of h1) (early_of h2) (fun i o d ho hod=>by
  have:=List.all_eq_true.1 h3 o (List.mem_of_getElem? (by simpa using ho))
  rw [hod] at this
  exact of_decide_eq_true this) hI (fun i o ho=>by
  have:=hsteps_at l 0 hst i o (by simpa using ho)
  rwa [Nat.zero_add] at this) (fun vs w hw hi=>hfin vs w hw (fun i hl=>hi i (by simpa using hl)))
  l.toArray.size (Array.replicate l.toArray.size false) { w0 with drawn:=w0.drawn+1 } [] (List.range l.toArray.size) (fun _=>undef) (by simp) (by simp) (fun i hi=>by simp at hi;simp [hi]) (by simp) ⟨rfl,rfl,rfl,Nat.le_refl _,fun _ _=>rfl⟩ (by simp) (fun k hk=>by cases hk)
 exact h
end Go.Proofs
