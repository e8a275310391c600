/-
  Several texts in one (N5k N6k X6k).
-/
import Derived.Test.YtknaoahokopplaaGreatDoorMhfk
import Derived.Test.YtknaoahokopplaaGreatDoorMgzk
import Derived.Deep.Upon
import Derived.Maps.AppendAt
namespace Go.Proofs
open Go.RowKit Go.Shelf
def tokI:It→List TW
 | .mk k u t ps lo hi nt key=>if k=5 then tokS nt ps else tokL (.mk k u t ps lo hi nt key)
def tokT:It→List TW
 | .mk k u t ps lo hi nt key=>if k=8 then ⟨3,0,⟨#[]⟩,key⟩::sgT 22::tokI (ps.headD nIt) else tokI (.mk k u t ps lo hi nt key)
def IOk:It→Prop
 | .mk k u t ps lo hi nt key=>(k=5→∀ p∈ps,LfOk p)∧(k≠5→LfOk (.mk k u t ps lo hi nt key))
def TOk:It→Prop
 | .mk k u t ps lo hi nt key=>(k=8→cpB key=true∧IOk (ps.headD nIt))∧(k≠8→IOk (.mk k u t ps lo hi nt key))
theorem item_run (i:It) (hi:IOk i) {L:List UInt8} {ts:List TW} (hL:Fol L) (h:RunL L false ts):RunL ((itemS i).data.toList++L) false (tokI i++ts):=by
 obtain ⟨k,u,t,ps,lo,hi',nt,key⟩:=i
 unfold itemS tokI
 simp only
 by_cases e5:k=5
 · rw [if_pos e5,if_pos e5]
   exact set_run nt ps (hi.1 e5) h
 · rw [if_neg e5,if_neg e5]
   exact leaf_run _ (hi.2 e5) hL h
theorem tex_run (i:It) (hi:TOk i) {L:List UInt8} {ts:List TW} (hL:Fol L) (h:RunL L false ts):RunL ((texS i).data.toList++L) false (tokT i++ts):=by
 obtain ⟨k,u,t,ps,lo,hi',nt,key⟩:=i
 unfold texS tokT
 simp only
 by_cases e8:k=8
 · rw [if_pos e8,if_pos e8]
   obtain ⟨hc,hp⟩:=hi.1 e8
   unfold cpB at hc
   simp only [Bool.and_eq_true,decide_eq_true_eq] at hc
   obtain ⟨v,rfl⟩:∃ v:Nat,key=(v:Int):=⟨key.toNat,by omega⟩
   have r1:=item_run _ hp hL h
   have r2:=RunL.sign (fresh:=false) 12 58 (by decide) ⟨by decide,by decide⟩ (fun e=>absurd e (by decide)) (fun e=>absurd e (by decide)) r1
   have r3:=RunL.copy (fresh:=false) v (by omega) (by omega) (fun c hc=>by simp at hc;subst hc;decide) r2
   rw [ByteArray.data_append,ByteArray.data_append]
   simpa using r3
 · rw [if_neg e8,if_neg e8]
   exact item_run _ (hi.2 e8) hL h
def Dp:Nat→It→Prop
 | 0,i=>i.ps=[]
 | d+1,i=>∀ p∈i.ps,Dp d p
theorem RdM.dp {w:World} : ∀ {d:Nat} {m:MI} {i:It},RdM d w m i→Dp d i
 | 0,_,_,h=>h.2.1
 | _+1,_,_,h=>by
  obtain ⟨_,ms,_,hA⟩:=h
  intro p hp
  obtain ⟨j,hj,rfl⟩:=List.getElem_of_mem hp
  have hl:=hA.length
  exact (hA.get (List.getElem?_eq_getElem (show j<ms.length by omega)) (List.getElem?_eq_getElem hj)).dp
theorem LfOk.of {may:Nat} {i:It} (hk:hasK may i.knd=true) (hs:stI (itM i)=true) (h5:i.knd≠5) (h8:i.knd≠8):LfOk i:=by
 obtain ⟨k,u,t,ps,lo,hi,nt,key⟩:=i
 simp only [It.knd] at hk h5 h8
 unfold hasK at hk
 simp only [Bool.and_eq_true,decide_eq_true_eq] at hk
 unfold stI itM at hs
 simp only at hs
 refine ⟨fun e => ?_,fun e => ?_,fun e => ?_,fun n1 n2 n3 n4 n6 => ?_⟩
 · rw [if_pos e] at hs
   simp only [Bool.and_eq_true,decide_eq_true_eq] at hs
   omega
 · rw [if_neg (by omega),if_pos e] at hs
   simp only [Bool.and_eq_true] at hs
   exact hs.1
 · rw [if_neg (by omega),if_neg (by omega),if_neg (by omega),if_pos e] at hs
   simp only [Bool.and_eq_true,decide_eq_true_eq] at hs
   constructor <;> omega
 · have e7:k=7:=by omega
   rw [if_neg (by omega),if_neg (by omega),if_neg (by omega),if_neg (by omega),if_pos e7] at hs
   simp only [Bool.and_eq_true] at hs
   exact hs.1
theorem ckB_noneN {may:Nat} {i:It} {sub:Nat→Option Int} (h:ckB may i sub=none):hasK may i.knd=true∧stI (itM i)=true∧(i.knd=5→sub 78=none)∧(i.knd=8→sub 60=none):=by
 unfold ckB at h
 split at h
 · rename_i hb
   simp only [Bool.and_eq_true] at hb
   refine ⟨hb.1,hb.2,fun e => ?_,fun e => ?_⟩
   · rw [if_pos e] at h;exact h
   · rw [if_neg (by omega),if_pos e] at h;exact h
 · cases h
theorem ckRw_noneN {f:It→Option Int} {l:List It} (h:ckRw f l=none):l.length≤512∧∀ i∈l,f i=none:=by
 unfold ckRw at h
 split at h
 · cases h
 · exact ⟨by omega,List.findSome?_eq_none_iff.1 h⟩
theorem ckI_none:∀ {d may:Nat} {i:It},ckI d may i=none→Dp d i→hasK may i.knd=true∧stI (itM i)=true∧(i.knd=5→i.ps.length≤512∧∀ p∈i.ps,∃ d0,ckI d0 78 p=none∧Dp d0 p)∧(i.knd=8→∀ p∈i.ps,∃ d0,ckI d0 60 p=none∧Dp d0 p)
 | 0,_,_,h,hD=>by
  obtain ⟨h1,h2,_,_⟩:=ckB_noneN h
  have hD:_=[]:=hD
  exact ⟨h1,h2,fun _=>by rw [hD];exact ⟨by simp,by simp⟩,fun _=>by rw [hD];simp⟩
 | d+1,_,_,h,hD=>by
  obtain ⟨h1,h2,h3,h4⟩:=ckB_noneN h
  exact ⟨h1,h2,fun e=>⟨(ckRw_noneN (h3 e)).1,fun p hp=>⟨d,(ckRw_noneN (h3 e)).2 p hp,hD p hp⟩⟩,fun e p hp=>⟨d,(ckRw_noneN (h4 e)).2 p hp,hD p hp⟩⟩
theorem hasK_bitsN {may:Nat} {k:Int} (h:hasK may k=true):1≤k∧k≤8∧may.testBit k.toNat=true:=by
 unfold hasK at h
 simp only [Bool.and_eq_true,decide_eq_true_eq] at h
 exact ⟨by omega,h.2.1,h.2.2⟩
theorem IOk.of {d may:Nat} {i:It} (h:ckI d may i=none) (hD:Dp d i) (h8:may.testBit 8=false):IOk i:=by
 obtain ⟨h1,h2,h3,_⟩:=ckI_none h hD
 have hb:=hasK_bitsN h1
 have n8:i.knd≠8:=fun e=>by
  have:=hb.2.2
  rw [e] at this
  rw [show (8:Int).toNat=8 from rfl,h8] at this
  cases this
 obtain ⟨k,u,t,ps,lo,hi,nt,key⟩:=i
 refine ⟨fun e p hp => ?_,fun e=>LfOk.of h1 h2 e n8⟩
 obtain ⟨d0,k1,k2⟩:=(h3 e).2 p hp
 obtain ⟨j1,j2,_,_⟩:=ckI_none k1 k2
 have hb:=hasK_bitsN j1
 refine LfOk.of j1 j2 (fun e => ?_) (fun e => ?_)
 · rw [e] at hb;exact absurd hb.2.2 (by decide)
 · rw [e] at hb;exact absurd hb.2.2 (by decide)
theorem TOk.of {d may:Nat} {i:It} (h:ckI d may i=none) (hD:Dp d i):TOk i:=by
 obtain ⟨h1,h2,h3,h4⟩:=ckI_none h hD
 by_cases e8:i.knd=8
 · obtain ⟨k,u,t,ps,lo,hi,nt,key⟩:=i
   have e8:k=8:=e8
   refine ⟨fun _ => ?_,fun n=>absurd e8 n⟩
   unfold stI itM at h2
   simp only at h2
   rw [if_neg (by omega),if_neg (by omega),if_neg (by omega),if_neg (by omega),if_neg (by omega),if_pos e8] at h2
   simp only [Bool.and_eq_true,decide_eq_true_eq] at h2
   refine ⟨h2.1.1,?_⟩
   cases ps with
   | nil=>simp at h2
   | cons p l=>
    obtain ⟨d0,k1,k2⟩:=h4 e8 p (by simp [It.ps])
    exact IOk.of k1 k2 (by decide)
 · obtain ⟨k,u,t,ps,lo,hi,nt,key⟩:=i
   refine ⟨fun e=>absurd e e8,fun _=>⟨fun e p hp => ?_,fun e=>LfOk.of h1 h2 e e8⟩⟩
   obtain ⟨d0,k1,k2⟩:=(h3 e).2 p hp
   obtain ⟨j1,j2,_,_⟩:=ckI_none k1 k2
   have hb:=hasK_bitsN j1
   refine LfOk.of j1 j2 (fun e => ?_) (fun e => ?_)
   · rw [e] at hb;exact absurd hb.2.2 (by decide)
   · rw [e] at hb;exact absurd hb.2.2 (by decide)
end Go.Proofs
namespace Go.Proofs
open Go.RowKit Go.Shelf
theorem TokS.h116 {L:List UInt8} {fresh:Bool} {k:Int} {l:Nat} {u:Int} {t:List UInt8} {n:Int} (h:TokS L fresh k l u t n) (hk:k=1) (e:L[0]? = some 116):l=1:=by
 cases h with
 | var m h0=>omega
 | cls n h0=>omega
 | sgn i c h0 hi=>omega
 | cpy m v h0=>omega
 | thn hf he=>omega
 | esx a b h0=>rw [e] at h0;exact absurd h0 (by decide)
 | esb a b h0=>rw [e] at h0;exact absurd h0 (by decide)
 | esp c h0=>rw [e] at h0;exact absurd h0 (by decide)
 | bar c h0 h36 hi=>
  have h1:=uw_pos ⟨L.toArray⟩ 0
  by_cases h2:1<uw ⟨L.toArray⟩ 0
  · have:=(uw_many _ 0 h2).2.1
    rw [get_lit,List.getD_eq_getElem?_getD,e] at this
    exact absurd this (by decide)
  · omega
theorem TokS.begun {L:List UInt8} {k:Int} {l:Nat} {u:Int} {t:List UInt8} {n:Int} (h:TokS L false k l u t n) (hE:endsB ⟨L.toArray⟩=false):TokS L true k l u t n:=by
 cases h with
 | var m h0 hm hm0 h32=>exact .var m h0 hm hm0 h32
 | cls n h0 h1 hn hn0 h32 h2 h3=>exact .cls n h0 h1 hn hn0 h32 h2 h3
 | sgn i c h0 hi hp hd2=>exact .sgn i c h0 hi hp hd2
 | cpy m v h0 hm hn0 h9 hc hv=>exact .cpy m _ h0 hm hn0 h9 hc hv
 | esx a b h0 h1 h2 ha hn0 h6 hc hb hh hw=>exact .esx a _ h0 h1 h2 ha hn0 h6 hc hb hh hw
 | esb a b h0 h1 h2 ha hn0 h6 hc hb hlo hh=>exact .esb a _ h0 h1 h2 ha hn0 h6 hc hb hlo hh
 | esp c h0 h1 hx hb h32 h126 hlt hdg=>exact .esp c h0 h1 hx hb h32 h126 hlt hdg
 | thn hf he=>cases hf
 | bar c h0 h36 hi h64 h92 hf h1 h2 h3 hr=>exact .bar c h0 h36 hi h64 h92 (fun _=>hE) h1 h2 h3 hr
theorem RunL.begun {L:List UInt8} {ts:List TW} (h:RunL L false ts) (h0:pastN false L=0) (hE:endsB ⟨L.toArray⟩=false):RunL L true ts:=by
 cases h with
 | fin=>exact .fin
 | ws hc hr=>rw [pastN_ws hc] at h0;omega
 | tok h0 hw hT hr=>exact .tok h0 hw (hT.begun hE) hr
def NoTh (L:List UInt8):Prop:=L[0]? = some 116→L[1]? ≠ some 104
theorem NoTh.ends {L:List UInt8} (h:NoTh L):endsB ⟨L.toArray⟩=false:=by
 rw [ends_lit]
 cases hp:Lib.hasPrefix L [116,104,101,110] with
 | false=>rfl
 | true=>
  exfalso
  have:=(pre4_iff L _ _ _ _).1 hp
  have h0:(L.take 4)[0]? = some 116:=by rw [this];rfl
  have h1:(L.take 4)[1]? = some 104:=by rw [this];rfl
  rw [List.getElem?_take,if_pos (by decide)] at h0 h1
  exact h h0 h1
def WdOk (b:List UInt8) (tk:List TW):Prop:=(∀ L ts,Fol L→RunL L false ts→RunL (b++L) false (tk++ts))∧∀ L,L[0]? = some 32→pastN false (b++L)=0∧NoTh (b++L)
theorem wd_sign (i:Nat) (c:UInt8) (hi:Lib.indexByte sgnL c=i) (hc:isWs c=false∧c.toNat≠35) (h91:c≠91) (h1:i≠1):WdOk [c] [sgT (10+i)]:=by
 refine ⟨fun L ts hL h=>RunL.sign i c hi hc (fun e=>absurd e h91) (fun _ => ?_) (by rw [decide_eq_false (by omega)];exact h),fun L hL=>⟨pastN_stop hc.1 hc.2 _,fun _ e => ?_⟩⟩
 · cases L with
   | nil=>rfl
   | cons d r=>
    show spanN isNm (d::r)=0
    rw [spanN_cons,(hL d rfl).1]
    rfl
 · have:L[0]? = some 104:=e
   rw [hL] at this
   exact absurd this (by decide)
theorem unit_noth (u:Int) (hu:wd u≠0) {L:List UInt8} (hL:L[0]? ≠ some 104):NoTh ((unitS u).data.toList++L):=by
 obtain ⟨h1,h2,_⟩:=unit_word u hu
 intro e e1
 rw [List.getElem?_append_left h1] at e
 rw [List.append_nil] at h2
 have hl:=h2.h116 rfl e
 rw [List.getElem?_append_right (by omega),hl] at e1
 exact hL e1
theorem leaf_first (i:It) (hi:LfOk i) {L:List UInt8} (hL:L[0]? = some 32):pastN false ((leafS i).data.toList++L)=0∧NoTh ((leafS i).data.toList++L):=by
 obtain ⟨k,u,t,ps,lo,hi',nt,key⟩:=i
 obtain ⟨h1,h2,h6,h7⟩:=hi
 have hL':L[0]? ≠ some 104:=by rw [hL];decide
 have nb:∀ (c:UInt8) (x:List UInt8),c≠116→NoTh (c::x):=fun c x hc e=>absurd (Option.some.inj e) hc
 unfold leafS
 simp only
 split
 · exact ⟨(unit_word u (h1 ‹_›)).2.2 _,unit_noth u (h1 ‹_›) hL'⟩
 · split
   · rw [ByteArray.data_append,Array.toList_append]
     exact ⟨pastN_stop (by decide) (by decide) _,nb 36 _ (by decide)⟩
   · split
     · rw [ByteArray.data_append,ByteArray.data_append,Array.toList_append,Array.toList_append]
       exact ⟨pastN_stop (by decide) (by decide) _,nb 91 _ (by decide)⟩
     · split
       · exact ⟨pastN_stop (by decide) (by decide) _,nb 46 _ (by decide)⟩
       · split
         · rename_i e6
           rw [ByteArray.data_append,ByteArray.data_append,Array.toList_append,Array.toList_append,List.append_assoc,List.append_assoc]
           exact ⟨(unit_word lo (h6 e6).1).2.2 _,unit_noth lo (h6 e6).1 (by simp)⟩
         · unfold copyS
           rw [ByteArray.data_append,Array.toList_append]
           exact ⟨pastN_stop (by decide) (by decide) _,nb 64 _ (by decide)⟩
theorem wd_tex (i:It) (hi:TOk i):WdOk (texS i).data.toList (tokT i):=by
 refine ⟨fun L ts hL h=>tex_run i hi hL h,fun L hL => ?_⟩
 obtain ⟨k,u,t,ps,lo,hi',nt,key⟩:=i
 have nb:∀ (c:UInt8) (x:List UInt8),c≠116→NoTh (c::x):=fun c x hc e=>absurd (Option.some.inj e) hc
 unfold texS
 simp only
 by_cases e8:k=8
 · rw [if_pos e8]
   unfold copyS
   rw [ByteArray.data_append,ByteArray.data_append,ByteArray.data_append,Array.toList_append,Array.toList_append,Array.toList_append]
   exact ⟨pastN_stop (by decide) (by decide) _,nb 64 _ (by decide)⟩
 · rw [if_neg e8]
   unfold itemS
   simp only
   by_cases e5:k=5
   · rw [if_pos e5]
     unfold setS
     rw [ByteArray.data_append,ByteArray.data_append,Array.toList_append,Array.toList_append]
     cases nt
     · exact ⟨pastN_stop (by decide) (by decide) _,nb 91 _ (by decide)⟩
     · rw [if_pos rfl,ByteArray.data_append]
       exact ⟨pastN_stop (by decide) (by decide) _,nb 91 _ (by decide)⟩
   · rw [if_neg e5]
     exact leaf_first _ ((hi.2 e8).2 e5) hL
theorem line_run (ws:List (List UInt8 × List TW)) (hn:ws≠[]) (h:∀ w∈ws,WdOk w.1 w.2) {rest:List UInt8} {ts:List TW} (hr:RunL rest true ts):RunL (Lib.join (ws.map Prod.fst) [32]++32::59::10::rest) true (ws.flatMap Prod.snd++sgT 11::ts):=by
 have r1:=RunL.sign (fresh:=false) 1 59 (by decide) ⟨by decide,by decide⟩ (fun e=>absurd e (by decide)) (fun e=>absurd e (by decide)) (L:=10::rest) (ts:=ts) hr.line
 have r2:=words_run Prod.fst Prod.snd ws (fun w hw L ts hL hr=>(h w hw).1 L ts hL hr) (fol_32 _) r1.blank
 cases ws with
 | nil=>exact absurd rfl hn
 | cons w l=>
  have hf:∃ M,M[0]? = some 32∧Lib.join ((w::l).map Prod.fst) [32]++32::59::10::rest=w.1++M:=by
   cases l with
   | nil=>exact ⟨_,rfl,by rw [List.map_cons,List.map_nil,Lib.join_one]⟩
   | cons y l=>exact ⟨32::(Lib.join ((y::l).map Prod.fst) [32]++32::59::10::rest),rfl,by rw [List.map_cons,List.map_cons,join_cons2];simp⟩
  obtain ⟨M,hM,e⟩:=hf
  obtain ⟨k1,k2⟩:=(h w (by simp)).2 M hM
  rw [e] at r2 ⊢
  exact r2.begun k1 k2.ends
end Go.Proofs
namespace Go.Proofs
open Go.RowKit Go.Shelf
set_option maxRecDepth 100000
attribute [local go_sem] Oper.semAt_some
theorem hasK_all {may:Nat} {k:Int} (h:hasK may k=true):k=8∨k=5∨(k=1∨k=2∨k=3∨k=4∨k=6∨k=7):=by
 obtain ⟨n,rfl,h1,h2,_⟩:=hasK_bits h
 omega
theorem pair_part {d:Nat} {i:It} (h:ckSub (d+1) i 60=none):∀ p∈i.ps,(p.knd=5∨(p.knd=1∨p.knd=2∨p.knd=3∨p.knd=4∨p.knd=6∨p.knd=7))∧stI (itM p)=true∧(p.knd=5→ckSub d p 78=none):=by
 have h:=ckRw_none h
 intro p hp
 have h1:=h.2 p hp
 rw [ckI_eq] at h1
 have h2:=ckB_none h1
 refine ⟨?_,h2.2.1,h2.2.2.1⟩
 rcases hasK_60 h2.1 with e | e | e | e <;> simp [e]
theorem text_any {d may:Nat} {w:World} {m:MI} {i:It} (h:RdM d w m i) (hc:ckI d may i=none) (hE:Env w):Calls Tryz.prog 69 #[mia m] w (ItX w (texS i)):=by
 rw [ckI_eq] at hc
 have hc:=ckB_none hc
 rcases hasK_all hc.1 with hk | hk
 · have hP:=h.plain
   have h8:=hc.2.2.2.1 hk
   have hst:=hc.2.1
   obtain ⟨k,u,t,ps,lo,hi,nt,key⟩:=i
   have hk:k=8:=hk
   subst hk
   have hs:((cpB key && decide (ps.length=1)) && blankB { itM (.mk 8 u t ps lo hi nt key) with key:=0,A:=none,n:=0,c:=0 })=true:=hst
   simp only [Bool.and_eq_true,decide_eq_true_eq] at hs
   have hl:ps.length=1:=hs.1.2
   have hcs:=copyS_small hs.1.1
   cases d with
   | zero=>
    obtain ⟨_,e,_⟩:=h
    have e:ps=[]:=e
    rw [e] at hl
    cases hl
   | succ d=>
    obtain ⟨_,ms,hR,hA⟩:=h
    have hA:All2 (RdM d w) ms ps:=hA
    have hp:=pair_part h8
    have hp:∀ p∈ps,_:=hp
    obtain ⟨mk,mu,mt,A,n,c,mlo,mhi,mnt,mkey⟩:=m
    obtain ⟨h1,h2,h3,h4,h5',h6,h7⟩:=hP
    simp only at h1 h2 h3 h4 h5' h6 h7
    subst h1 h2 h3 h4 h5' h6 h7
    match ps,hl,ms,hA with
    | [p],_,[m1],hA=>
     obtain ⟨hq1,hq2,hq3⟩:=hp p List.mem_cons_self
     obtain ⟨hn,hnm,hr0⟩:=hR
     have hn:n=1:=hn
     have hr0:n=0∨∃ g z,A=some ⟨g,z,none⟩∧ReadsI w g z [m1]:=hr0
     obtain ⟨g,z,rfl,hr⟩:=hr0.resolve_left (by omega)
     have hM1:RdM d w m1 p:=hA.1
     have hcell:∀ i v,(mi1 m1)[i]? = some v→w.cell? ⟨g,z+i,none⟩=some v:=fun i v hv=>by
      have:=hr 0 m1 rfl i v hv
      rwa [Nat.zero_mul,Nat.add_zero] at this
     have hps:(itemS p).size≤155000:=item_small (d:=d) hq1 hq2 hq3 (fun e=>by subst e;exact hM1.2.1)
     exact itemText_8 mu mt g z n c mlo mhi mnt mkey w m1 (copyS mkey) (itemS p) (by omega) (by omega) hcs.1 (by omega) hcell
      (fun W hW=>(copyText_any ⟨8,mu,mt,some ⟨g,z,none⟩,n,c,mlo,mhi,mnt,mkey⟩ hcs.2.1 hcs.2.2 W (fun o=>((hE.below hW).alloc o).2)).mono fun x w' hx=>⟨hx.1,hx.2.below⟩)
      (fun W hW=>text_item (hM1.ck (ck_below hW)) hq1 hq2 hq3 (hE.below hW))
 · have:texS i=itemS i:=by
    obtain ⟨k,u,t,ps,lo,hi,nt,key⟩:=i
    have hk:k=5∨(k=1∨k=2∨k=3∨k=4∨k=6∨k=7):=hk
    exact if_neg (by omega)
   rw [this]
   exact text_item h hk hc.2.1 hc.2.2.1 hE
theorem tex_small {d may:Nat} {i:It} (hc:ckI d may i=none) (hd:d=0→i.ps=[]) (hd1:∀ p∈i.ps,d=1→p.ps=[]):(texS i).size≤156000:=by
 rw [ckI_eq] at hc
 have hc:=ckB_none hc
 rcases hasK_all hc.1 with hk | hk
 · have h8:=hc.2.2.2.1 hk
   have hst:=hc.2.1
   obtain ⟨k,u,t,ps,lo,hi,nt,key⟩:=i
   have hk:k=8:=hk
   subst hk
   have hs:((cpB key && decide (ps.length=1)) && blankB { itM (.mk 8 u t ps lo hi nt key) with key:=0,A:=none,n:=0,c:=0 })=true:=hst
   simp only [Bool.and_eq_true,decide_eq_true_eq] at hs
   have hl:ps.length=1:=hs.1.2
   have hcs:=copyS_small hs.1.1
   cases d with
   | zero=>
    have e:ps=[]:=hd rfl
    rw [e] at hl
    cases hl
   | succ d=>
    have hp:=pair_part h8
    have hp:∀ p∈ps,_:=hp
    match ps,hl with
    | [p],_=>
     obtain ⟨hq1,hq2,hq3⟩:=hp p List.mem_cons_self
     have hps:(itemS p).size≤155000:=item_small (d:=d) hq1 hq2 hq3 (fun e=>hd1 p List.mem_cons_self (by omega))
     show (copyS key++⟨#[58]⟩++itemS p).size≤156000
     rw [ByteArray.size_append,ByteArray.size_append]
     have h1:(⟨#[58]⟩:ByteArray).size=1:=rfl
     have h2:=hcs.1
     omega
 · have:texS i=itemS i:=by
    obtain ⟨k,u,t,ps,lo,hi,nt,key⟩:=i
    have hk:k=5∨(k=1∨k=2∨k=3∨k=4∨k=6∨k=7):=hk
    exact if_neg (by omega)
   rw [this]
   have:=item_small (d:=d) hk hc.2.1 hc.2.2.1 hd
   omega
theorem RdM.sm {d may:Nat} {w:World} {m:MI} {i:It} (h:RdM d w m i) (hc:ckI d may i=none):(texS i).size≤156000:=by
 refine tex_small hc (fun e=>by subst e;exact h.2.1) (fun p hp e => ?_)
 subst e
 obtain ⟨_,ms,_,hA⟩:=h
 obtain ⟨j,hj⟩:=List.getElem?_of_mem hp
 have hjl:j<ms.length:=by have:=hA.length;have:=(List.getElem?_eq_some_iff.1 hj).1;omega
 have:=hA.get (List.getElem?_eq_getElem hjl) hj
 exact this.2.1
theorem texts_row {d may:Nat} {w:World} {A:Option Addr} {n c:Nat} {l:List It} (h:RdI d w A n l) (hl:l.length≤512) (hc:∀ i∈l,ckI d may i=none) (hE:Env w) :
 Calls Tryz.prog 119 #[.slice A n c] w fun x w'=>∃ v,x = .returned v∧OwnX w' w.heap.size v (l.map texS)∧Below w.heap.size w w':=by
 have hn:=h.len
 obtain ⟨ms,hR,hA⟩:=h
 refine itemTexts_step texS w A n c ms l hR hA.length (by omega) fun j m i e1 e2 W hW => ?_
 exact text_any ((hA.get e1 e2).ck (ck_below hW)) (hc i (List.mem_of_getElem? e2)) (hE.below hW)
theorem row_small {d may:Nat} {w:World} {A:Option Addr} {n:Nat} {l:List It} (h:RdI d w A n l) (hc:∀ i∈l,ckI d may i=none):∀ x∈l.map texS,x.size≤156000:=by
 obtain ⟨ms,hR,hA⟩:=h
 intro x hx
 obtain ⟨i,hi,rfl⟩:=List.mem_map.1 hx
 obtain ⟨j,hj⟩:=List.getElem?_of_mem hi
 have hjl:j<ms.length:=by have:=hA.length;have:=(List.getElem?_eq_some_iff.1 hj).1;omega
 exact (hA.get (List.getElem?_eq_getElem hjl) hj).sm (hc i hi)
theorem All2.take {α β:Type} {R:α→β→Prop} : ∀ {l:List α} {m:List β} (k:Nat),All2 R l m→All2 R (l.take k) (m.take k)
 | _,_,0,_=>by simp [All2]
 | [],[],_+1,_=>by simp [All2]
 | _::_,_::_,k+1,h=>by simp only [List.take_succ_cons];exact ⟨h.1,All2.take k h.2⟩
 | [],_::_,_+1,h=>h.elim
 | _::_,[],_+1,h=>h.elim
theorem All2.drop {α β:Type} {R:α→β→Prop} : ∀ {l:List α} {m:List β} (k:Nat),All2 R l m→All2 R (l.drop k) (m.drop k)
 | _,_,0,h=>h
 | [],[],_+1,_=>by simp [All2]
 | _::_,_::_,k+1,h=>by simp only [List.drop_succ_cons];exact All2.drop k h.2
 | [],_::_,_+1,h=>h.elim
 | _::_,[],_+1,h=>h.elim
theorem RdI.take {d:Nat} {w:World} {A:Option Addr} {n:Nat} {l:List It} (h:RdI d w A n l) (k:Nat) (hk:k≤n):RdI d w A k (l.take k):=by
 have hn:=h.len
 obtain ⟨ms,⟨h1,h2,h3⟩,hA⟩:=h
 refine ⟨ms.take k,⟨by rw [List.length_take];omega,by omega,?_⟩,hA.take k⟩
 rcases h3 with h3 | ⟨g,z,e,hr⟩
 · exact .inl (by omega)
 · refine .inr ⟨g,z,e,fun j x hj=>hr j x ?_⟩
   rw [List.getElem?_take] at hj
   split at hj
   · exact hj
   · cases hj
theorem RdI.drop {d:Nat} {w:World} {g z n:Nat} {l:List It} (h:RdI d w (some ⟨g,z,none⟩) n l) (k:Nat) (hk:k≤n):RdI d w (some ⟨g,z+k*8,none⟩) (n - k) (l.drop k):=by
 have hn:=h.len
 obtain ⟨ms,⟨h1,h2,h3⟩,hA⟩:=h
 refine ⟨ms.drop k,⟨by rw [List.length_drop];omega,by omega,?_⟩,hA.drop k⟩
 rcases h3 with h3 | ⟨g',z',e,hr⟩
 · exact .inl (by omega)
 · cases e
   refine .inr ⟨g,z+k*8,rfl,fun j x hj i v hv => ?_⟩
   rw [List.getElem?_drop] at hj
   have:=hr (k+j) x hj i v hv
   rwa [Nat.add_mul,←Nat.add_assoc] at this
def RdT (w:World) (y:Value) (ys:List ByteArray):Prop:=∃ A c,y = .slice A ys.length c∧ys.length≤c∧(ys=[]∨∃ g z,A=some ⟨g,z,none⟩∧∀ j x,ys[j]? = some x→w.cell? ⟨g,z+j,none⟩=some (.string x))
theorem OwnX.cap {w:World} {b:Nat} {v:Value} {xs:List ByteArray} (h:OwnX w b v xs):∃ A c,v = .slice A xs.length c∧xs.length≤c:=by
 rcases h.2 with ⟨e,h0⟩ | ⟨g,cap,cur,e,k1,k2,k3,_⟩
 · exact ⟨none,0,by rw [h0,e],by omega⟩
 · exact ⟨_,_,e,k3⟩
theorem OwnX.rdT {w:World} {b:Nat} {v:Value} {xs:List ByteArray} (h:OwnX w b v xs):RdT w v xs:=by
 rcases h.2 with ⟨e,h0⟩ | ⟨g,cap,cur,e,k1,k2,k3,k4,k5,k6⟩
 · exact ⟨none,0,by rw [h0,e],by omega,.inl (List.eq_nil_of_length_eq_zero h0)⟩
 · refine ⟨_,_,e,k3,.inr ⟨g,0,rfl,fun j x hj => ?_⟩⟩
   have hj2:(xs.map Value.string)[j]? = some (.string x):=by rw [List.getElem?_map,hj];rfl
   rw [←k6,List.getElem?_take] at hj2
   split at hj2
   · simp only [World.cell?,k2,Nat.zero_add]
     simpa using hj2
   · cases hj2
theorem RdT.one {w:World} {g:Nat} {t:ByteArray} (h:w.cell? ⟨g,0,none⟩=some (.string t)):RdT w (.slice (some ⟨g,0,none⟩) 1 1) [t]:=by
 refine ⟨_,1,rfl,Nat.le_refl _,.inr ⟨g,0,rfl,fun j x hj => ?_⟩⟩
 match j,hj with
 | 0,hj=>simp at hj;subst hj;exact h
theorem RdT.new {W:World} {g:Nat} {t:ByteArray} (hg:g=W.heap.size):RdT (W.alloc (.cells #[.string t] 9)) (.slice (some ⟨g,0,none⟩) 1 1) [t]:=by
 subst hg
 exact RdT.one (by rw [Lib.cell_of_heap (World.alloc_heap_new W _) 0];rfl)
theorem OwnX.le {w:World} {b b':Nat} {v:Value} {xs:List ByteArray} (h:OwnX w b' v xs) (hb:b≤b'):OwnX w b v xs:=
 ⟨h.1,h.2.imp id fun ⟨g,cap,cur,e,k1,k⟩=>⟨g,cap,cur,e,Nat.le_trans hb k1,k⟩⟩
theorem join_rd (w:World) (v:Value) (xs:List ByteArray) (h:RdT w v xs) (hn:xs.length≤1000000) (hl:(jnB xs).size≤140737488355328):Calls Tryz.prog 37 #[v,.string ⟨#[32]⟩] w fun e w'=>e = .returned (.string (jnB xs))∧Below w.heap.size w w':=by
 obtain ⟨A,c,rfl,hc,hr⟩:=h
 by_cases hx:xs=[]
 · subst hx
   refine (Any.strings_Join_none Tryz.lays156 Tryz.Builder_Extra_156 A c ⟨#[32]⟩ w).mono ?_
   rintro x w' ⟨rfl,rfl⟩
   exact ⟨rfl,Below.refl _ _⟩
 · obtain ⟨g,z,rfl,hd⟩:=hr.resolve_left hx
   have hlt:g<w.heap.size:=by
    cases xs with
    | nil=>exact absurd rfl hx
    | cons x xs=>
     obtain ⟨o,ho,_⟩:=cells_of_cell (hd 0 x rfl)
     exact (Array.getElem?_eq_some_iff.1 ho).1
   refine Tryz.strings_Join g z c xs ⟨#[32]⟩ w hd hlt (by omega) hc ?_
   have:(jnB xs).size=(Lib.join (xs.map (·.data.toList)) [32]).length:=jnB_size xs
   rw [←this]
   exact hl
theorem run_appX (w:World) (ty:TypeId) (b:Nat) (v:Value) (xs:List ByteArray) (hown:OwnX w b v xs) (y:Value) (ys:List ByteArray) (hy:RdT w y ys) (hl:xs.length+ys.length≤1000000) (hbase:b≤w.heap.size) :
 ∃ v' w',(Builtin.append_ #[77,77] ty #[v,y]).run Tryz.prog w = .ok v' w'∧OwnX w' b v' (xs++ys)∧w.grownBy w' v.ownBlock:=by
 obtain ⟨i0,hi,hz0,hz1,hz2⟩:=info_parts info9x
 obtain ⟨A,c,rfl,-,hr⟩:=hy
 by_cases he:ys=[]
 · subst he
   obtain ⟨A0,c0,rfl,hc0⟩:=hown.cap
   have hr:=run_append_nothing (P:=Tryz.prog) w 77 77 ty 9 i0 Tryz.underlying77 hi A0 xs.length c0 hc0 (.slice A 0 c) ⟨.inl ⟨9,Tryz.underlying77⟩,fun w'=>by cases A <;> simp [Builtin.lenOf,go_sem],by cases A <;> simp [Builtin.firstCells,go_sem],by cases A <;> simp [Builtin.firstCells,go_sem],by simp,by simp⟩
   exact ⟨_,_,hr,by rw [List.append_nil];exact hown,⟨rfl,rfl,rfl,Nat.le_refl _,fun _ _ _=>rfl⟩⟩
 · obtain ⟨g,z,rfl,hd⟩:=hr.resolve_left he
   obtain ⟨v',w',h1,h2,h3,_⟩:=run_append_own_at (P:=Tryz.prog) w b 77 ty 9 i0 _ 1 16 Tryz.underlying77 hi hz0 hz1 hz2 rfl (by decide) v xs.length (xs.map Value.string) hown ⟨g,z,none⟩ ys.length c (ys.map Value.string) (by simp) (fun j u hj=>by
    have:(⟨g,z,none⟩:Addr).add j=⟨g,z+j,none⟩:=by unfold Addr.add;split <;> simp_all
    rw [this]
    rw [List.getElem?_map] at hj
    cases hx:ys[j]? with
    | none=>rw [hx] at hj;cases hj
    | some x=>
     rw [hx] at hj
     simp at hj
     subst hj
     exact hd j x hx) (fun u hu=>by
     obtain ⟨x,_,rfl⟩:=List.mem_map.1 hu
     rfl) (by unfold maxLen;omega) (by omega) hbase
   refine ⟨v',w',h1,?_,h3⟩
   unfold OwnX
   rw [List.length_append,List.map_append]
   exact h2
theorem wp_appX {o:Oper} {a:Act} {w:World} {K:Act→World→Prop} {Q:Exit→Act→World→Prop} (s x:Operand) (hop:o.op = .call { callee := .builtin .append,args:=#[s,x],argTypes:=#[77,77] })
 (b:Nat) (v:Value) (xs:List ByteArray) (hs:a.eval s=v) (hown:OwnX w b v xs) (y:Value) (ys:List ByteArray) (hx:a.eval x=y) (hy:RdT w y ys) (hl:xs.length+ys.length≤1000000) (hbase:b≤w.heap.size)
 (hK:∀ v' w',OwnX w' b v' (xs++ys)→w.grownBy w' v.ownBlock→K (a.put o.dst v') w'):o.wp Tryz.prog a w K Q:=by
 obtain ⟨v',w',hr,h1,h2⟩:=run_appX w o.type b v xs hown y ys hy hl hbase
 unfold Oper.wp execOp
 simp only [hop,resolve,invoke,builtin,Sem.run_bind,Sem.run_pure,Result.andThen_ok,List.map_toArray,List.map_cons,List.map_nil,hs,hx,hr]
 exact hK v' w' h1 h2
theorem step_appX {ops:Array Oper} {o:Oper} {a:Act} {w:World} {K:Act→World→Prop} {Q:Exit→Act→World→Prop} {E:Prop} (hg:o.guard=none) (s x:Operand) (hop:o.op = .call { callee := .builtin .append,args:=#[s,x],argTypes:=#[77,77] })
 (b:Nat) (v:Value) (xs:List ByteArray) (hs:a.eval s=v) (hown:OwnX w b v xs) (y:Value) (ys:List ByteArray) (hx:a.eval x=y) (hy:RdT w y ys) (hl:xs.length+ys.length≤1000000) (hbase:b≤w.heap.size)
 (hK:∀ v' w',OwnX w' b v' (xs++ys)→w.grownBy w' v.ownBlock→K (a.put o.dst v') w') :
 if Region.wanted o (yielded ops a.tmps)=true then Oper.wp Tryz.prog o a w K Q else E:=by
 have hw:Region.wanted o (yielded ops a.tmps)=true:=by simp [Region.wanted,hg]
 rw [if_pos hw]
 exact wp_appX s x hop b v xs hs hown y ys hx hy hl hbase hK
theorem push_XX {ops:Array Oper} {rest:List Oper} {o:Oper} {a:Act} {Q:Exit→Act→World→Prop} {w:World} (hgd:o.guard=none) (s x:Operand) (ho:o.op = .call { callee := .builtin .append,args:=#[s,x],argTypes:=#[77,77] })
 (b:Nat) (v:Value) (xs:List ByteArray) (hs:a.eval s=v) (hown:OwnX w b v xs) (y:Value) (ys:List ByteArray) (hx:a.eval x=y) (hy:RdT w y ys) (hl:xs.length+ys.length≤1000000) (hbase:b≤w.heap.size)
 (h:∀ A n c w',OwnX w' b (.slice A n c) (xs++ys)→w.grownBy w' v.ownBlock→wpList Tryz.prog ops Q rest (a.put o.dst (.slice A n c)) w'):wpList Tryz.prog ops Q (o::rest) a w:=
 wpList_plain hgd fun _ hK=>wp_appX s x ho b v xs hs hown y ys hx hy hl hbase fun v' w' h1 h2=>by
  obtain ⟨A,c,rfl⟩:=h1.form
  exact hK _ _ (h A _ c w' h1 h2)
end Go.Proofs
