/-
  Several texts in one (Tnx Mgpx S0x).
-/
import Derived.RangeFuncNested
import Derived.RangeFuncBound
import Derived.RangeFuncCalls
import Derived.RangeFuncLeaves
import Derived.Shelf.Abstract
import Derived.Shelf.RegionOpen
import Derived.WalkKit
import Derived.WalkSpells
import Derived.WalkLawsBesides
import Derived.OwnWalkIn
import Derived.TacticsInMore
import Derived.LoopNIn
import Derived.LoopIn
import Derived.BigQuiet
import Derived.RegionIn
import Derived.Deep.QuietTactic
import Derived.Lib.OthersKept
import Derived.Maps.AppendAt
import Derived.Lib.IndexBytes
import Derived.Lib.SmallJoins
import Derived.Deep.RegionWith
import Derived.ArgAppend
import Derived.Laws.CopyOwn
import Derived.Laws.MakeOwn
import Derived.Test.YtcfcjljapamcoaaGreatDoorTex
import Derived.Test.YtcfcjljapamcoaaGreatDoorMgox
import Derived.Test.YtcfcjljapamcoaaGreatDoorMglx
import Derived.Shelf.SlSortCmp.QuietGrown
import Derived.Deep.Upon
import Derived.Test.YtcfcjljapamcoaaGreatDoorMgnx
import Derived.Test.YtcfcjljapamcoaaGreatDoorMgmx
import Derived.Test.YtcfcjljapamcoaaGreatDoorMpsx
import Derived.Test.YtcfcjljapamcoaaGreatDoorMptx
namespace Go.Proofs
open Go.RowKit Go.Shelf
set_option maxRecDepth 100000
attribute [local go_sem] Oper.semAt_some
theorem row_below5 {w w':World} {base n:Nat} {e:TypeId} {v:Value} {k:Nat} {xs:List Value} (h:w.ownsRow base e 1 v k xs) (hb:Below n w w') (hn:w.heap.size≤n):w'.ownsRow base e 1 v k xs:=by
 refine ⟨h.1,?_⟩
 rcases h.2 with h | ⟨g,cap,cur,rfl,h1,h2,h3⟩
 · exact .inl h
 · have:g<w.heap.size:=(Array.getElem?_eq_some_iff.1 h2).1
   exact .inr ⟨g,cap,cur,rfl,h1,(hb.block g (by omega)).trans h2,h3⟩
theorem wd_pos_size (u:Int) (h:wd u≠0):0<(put u).size:=by
 by_cases a:1114240≤u∧u≤1114367
 · rw [put_stray a];exact Nat.one_pos
 · by_cases b:(0≤u∧u<55296)∨(57343<u∧u≤1114111)
   · rw [put_rune b]
     obtain ⟨c,rfl⟩:∃ c:Nat,u=c:=⟨u.toNat,by omega⟩
     by_cases h1:c<128
     · rw [enc1 c h1,size_lit];simp
     · by_cases h2:c<2048
       · rw [enc2 c (by omega) h2,size_lit];simp
       · by_cases h3:c<65536
         · rw [enc3 c (by omega) h3 (by omega),size_lit];simp
         · rw [enc4 c (by omega) (by omega),size_lit];simp
   · exact absurd (wd_no (by omega) (by omega)) h
theorem bc_append (a b:List UInt8):bc (a++b)=bc a++bc b:=by simp [bc]
theorem bc_length (a:List UInt8):(bc a).length=a.length:=by simp [bc]
set_option maxHeartbeats 4000000 in
theorem rjoin_any (v:Value) (l:List Int) (w:World) (hv:Ints w v l) (hl:l.length≤4398046511104) :
 Calls Tryz.prog 91 #[v] w fun e w'=>e = .returned (JoinRes (joinB l))∧Below w.heap.size w w':=by
 obtain ⟨i0,hi0,hz0,hz1,hz2⟩:=uinfo_parts info5
 obtain ⟨a,cap,rfl,hc⟩:=hv
 obtain ⟨n,hn⟩:∃ n,l.length=n:=⟨_,rfl⟩
 have HN:Hid (l.length=n):=hn
 rw [hn] at hl ⊢
 obtain ⟨R,hR⟩:∃ R,joinB l=R:=⟨_,rfl⟩
 rw [hR]
 have HC:Hid (l=[]∨∃ g o,a=some ⟨g,o,none⟩∧∀ j,j<l.length→w.cell? ⟨g,o+j,none⟩=some (.int .i64 (l[j]?.getD 0))):=hc
 have HR:Hid (joinB l=R):=hR
 clear hc hR hn
 go_enter Tryz.func91,Tryz.ntmps91
 go_wp2_with fail
 go_loopw [4,5] (fun vo vi wr=>∃ (k:Nat) (acc:List UInt8),vi = .int .i64 k∧k≤n∧acc.length≤4*k∧wr.ownsRow w.heap.size 5 1 vo acc.length (bc acc)∧Hid (R=(joinB (l.drop k)).map (acc ++ ·))∧Below w.heap.size w wr) (fun _ vi _=>n - (intOf vi).toNat)
 case atStart=>
  refine ⟨0,[],rfl,Nat.zero_le _,Nat.zero_le _,World.ownsRow_lit w _ 0 (Nat.le_refl _) (by unfold maxLen;omega) rfl,?_,(Below.refl _ _).alloc (Nat.le_refl _) _⟩
  show R=(joinB l).map ([] ++ ·)
  rw [HR.out];cases R <;> rfl
 case round=>
  clear HR
  obtain ⟨k,acc,rfl,hk,hacc,hO,hJ,hb⟩:=hrel
  have HO:Hid (wr.ownsRow w.heap.size 5 1 u4 acc.length (bc acc)):=hO
  have HB:Hid (Below w.heap.size w wr):=hb
  clear hO hb
  by_cases hlt:k<n
  · have hk2:k<l.length:=by rw [HN.out];exact hlt
    obtain ⟨g,o,rfl,hcell⟩:=HC.out.resolve_left (fun e=>by rw [e] at hk2;simp at hk2)
    have hcx:=hcell k hk2
    have hgw:g<w.heap.size:=by
     obtain ⟨ob,ho,_⟩:=cells_of_cell hcx
     exact (Array.getElem?_eq_some_iff.1 ho).1
    have hc1:=(HB.out.cell (p:=⟨g,o+k,none⟩) hgw).trans hcx
    have hJ1:=hJ.out
    rw [List.drop_eq_getElem_cons hk2] at hJ1
    have hget:l[k]?.getD 0=l[k]:=by simp [hk2]
    rw [hget] at hc1
    generalize l[k]=u at hc1 hJ1
    clear hcell hcx hget hJ HC
    have hlt':(k:Int)<(n:Int):=by omega
    by_cases hw:wd u=0
    · as_aux_lemma=>
       have HRN:Hid (R=none):=by show R=none;rw [hJ1];simp [joinB,hw]
       have cW:Hid (∀ W:World,Calls Tryz.prog 90 #[.int .i64 u] W fun e w'=>e = .returned (.int .i64 0)∧w'=W):=fun W=>by have:=rwidth_any u W;rw [hw] at this;exact this
       clear hJ1 hw
       go_wp2_with (go_at_call 90;refine (cW.out _).mono ?_;rintro e w' ⟨rfl,rfl⟩)
       go_ret2
       exact ⟨by rw [HRN.out];rfl,HB.out⟩
    · as_aux_lemma=>
       have HJ2:Hid (R=(joinB (l.drop (k+1))).map ((acc++(put u).data.toList) ++ ·)):=by
        show R=_
        rw [hJ1,joinB_step hw,Option.map_map]
        congr 1
        funext t
        simp
       have hps:=put_size_le u
       have hp0:=wd_pos_size u hw
       have hw0:(wd u == 0)=false:=beq_eq_false_iff_ne.2 hw
       have cW:Hid (∀ W:World,Calls Tryz.prog 90 #[.int .i64 u] W fun e w'=>e = .returned (.int .i64 (wd u))∧w'=W):=fun W=>rwidth_any u W
       generalize wd u=d at *
       clear hJ1 hw
       go_wp2_with (go_at_call 90;refine (cW.out _).mono ?_;rintro e w' ⟨rfl,rfl⟩)
       refine (bytes_any _ _).mono ?_
       rintro e w2 ⟨v2,rfl,ho2,hb2⟩
       obtain ⟨m,hm⟩:∃ m,(put u).size=m:=⟨_,rfl⟩
       rw [hm] at ho2 hps hp0
       obtain ⟨g2,c2,rfl⟩:=Joins.ownsRow_form ho2 hp0
       have hO2:w2.ownsRow w.heap.size 5 1 u4 acc.length (bc acc):=row_below5 HO.out hb2 (Nat.le_refl _)
       have hB2:Below w.heap.size w w2:=HB.out.trans (hb2.mono HB.out.size)
       have HM:Hid ((put u).data.toList.length=m):=by show _=_;rw [←Lib.size_eq,hm]
       have hz:=hB2.size
       clear hb2 cW HO
       go_wp2_with (at_builtin;go_must (refine wpList_append_own _ rfl _ _ 153 rfl w.heap.size 5 i0 (.int .u8 0) 1 1 Tryz.underlying153 hi0 hz0 hz1 hz2 rfl (by decide) _ _ _ rfl hO2 ⟨g2,0,none⟩ m c2 (bc (put u).data.toList) rfl (by rw [bc_length,HM.out];omega) (fun j x hx=>ho2.cells rfl j x hx) (by intro x hx;simp [bc] at hx;obtain ⟨b,_,rfl⟩:=hx;rfl) (by unfold maxLen;omega) (by omega) (by omega) ?_);intro v' w3 hown' hgrow _)
       have hB3:Below w.heap.size w w3:=hB2.trans ((Below.refl _ w2).grown hgrow hz (fun j e=>(World.ownsRow.lt hO2 j e).1))
       exact ⟨⟨k+1,acc++(put u).data.toList,by go_num,by omega,by rw [List.length_append,HM.out];omega,by rw [bc_append,List.length_append,HM.out];exact hown',HJ2,hB3⟩,by simp [intOf];omega⟩
  · as_aux_lemma=>
     have hkn:k=n:=by omega
     have hRR:R=some acc:=by
      have:=hJ.out
      rw [List.drop_of_length_le (by rw [HN.out,hkn];exact Nat.le_refl _)] at this
      rw [this];simp [joinB]
     subst hRR
     have hcv:=conv_row wr _ u4 acc HO.out
     clear hJ HC
     go_wp2
     go_ret2
     exact ⟨rfl,HB.out⟩
end Go.Proofs
namespace Go.Proofs
open Go.RowKit Go.Shelf
set_option maxRecDepth 100000
attribute [local go_sem] Oper.semAt_some
attribute [local go_sem ↓] Go.wp_at_zero Go.wp_at_succ
def joinS (l:List Int):ByteArray:=match joinB l with | some t=>⟨t.toArray⟩ | none=>⟨#[]⟩
def joinE (l:List Int):Int:=match joinB l with | some _=>0 | none=>11
theorem joinRes_eq (l:List Int):JoinRes (joinB l) = .tuple #[.string (joinS l),.int .i64 (joinE l)]:=by
 unfold JoinRes joinS joinE
 cases joinB l <;> rfl
set_option maxHeartbeats 4000000 in
theorem rtext_any (v:Value) (l:List Int) (w:World) (hv:IR w v l) (hl:l.length≤4398046511104):Calls Tryz.prog 58 #[v] w fun e w'=>e = .returned (.string (joinS l))∧Below w.heap.size w w':=by
 have HJ:Hid (∀ W,Grown w W→Calls Tryz.prog 91 #[v] W fun e w'=>e = .returned (.tuple #[.string (joinS l),.int .i64 (joinE l)])∧Below w.heap.size w w'):=fun W g=>(rjoin_any v l W (hv.grown g).ints hl).mono fun e w' h=>⟨by rw [h.1,joinRes_eq],g.below.trans (h.2.mono g.size)⟩
 obtain ⟨v1,v2,v3,rfl⟩:=hv.sl
 clear hv hl
 go_enter Tryz.func58,Tryz.ntmps58
 go_wp2_with (go_at_call 91;refine (HJ.out _ (by (repeat (first | exact Grown.refl _ | refine Grown.alloc ?_ _ | refine Grown.drew ?_)))).mono ?_;rintro e w2 ⟨rfl,hb⟩)
 go_ret
 exact ⟨rfl,hb⟩
def endOf (rs:List Rl) (s:ByteArray):List Stp × List Int:=match (wgh rs).1 with
 | some st=>((fin3 rs st (intsU (units s))).1,(fin3 rs st (intsU (units s))).2.1)
 | none=>([],[])
theorem may_ok {rs:List Rl} {s:ByteArray} (h:mayE rs s=0):∃ st,wgh rs=(some st,0,0)∧s.size≤16384∧Fin rs st∧(allE rs).2=0∧(∀ r∈rs,chk r=0)∧G3 rs (intsU (units s)) (endOf rs s).1 (endOf rs s).2 []:=by
 unfold mayE at h
 by_cases h1:(chkW rs).2≠0
 · rw [if_pos h1] at h;exact absurd h h1
 · rw [if_neg h1] at h
   by_cases h2:16384<s.size
   · rw [if_pos h2] at h;cases h
   · have hfe:fea rs=true:=by
      cases e:fea rs with
      | true=>rfl
      | false=>exact absurd (fea_chk e) h1
     obtain ⟨st,hw⟩:=wgh_zero2 hfe
     have hF:=wgh_fin hw
     have hc:=wgh_chk hw
     refine ⟨st,hw,by omega,hF,fea_all hw,hc,?_⟩
     have:=fin3_G3 hF hc (intsU (units s))
     unfold endOf
     rw [hw]
     exact this
def runT (rs:List Rl) (s:ByteArray):ByteArray:=if mayE rs s=0 then joinS (endOf rs s).2 else ⟨#[]⟩
end Go.Proofs
namespace Go.Proofs
open Go.RowKit Go.Shelf
set_option maxRecDepth 100000
theorem set_one_u {S:List (Int × Int)} (h:okS S=true) (h1:lenU S=1):∃ u,S=[(u,u)]:=by
 have hv:=(validB_iff S).1 (okS_valid h)
 have hl:tot S=1:=by
  unfold lenU at h1
  rwa [if_pos (okS_valid h)] at h1
 match S,h,hv,hl with
 | [],h,_,_=>simp [okS] at h
 | [x],_,_,hl=>
  simp [tot] at hl
  exact ⟨x.1,by rw [show x=(x.1,x.2) from rfl,show x.2=x.1 by omega]⟩
 | x::y::l,_,hv,hl=>
  exfalso
  have hw:∀ z∈x::y::l,z.1≤z.2:=fun z hz=>(hv.2.1 z hz).1
  have hp:∀ l:List (Int × Int),(∀ z∈l,z.1≤z.2)→0≤tot l:=by
   intro l
   induction l with
   | nil=>intro _;exact Int.le_refl _
   | cons z l ih=>
    intro h
    rw [tot_cons]
    have h1:=h z (by simp)
    have h2:=ih fun z hz=>h z (List.mem_cons_of_mem _ hz)
    omega
  rw [tot_cons,tot_cons] at hl
  have h1:=hw x (by simp)
  have h2:=hw y (by simp)
  have h3:=hp l fun z hz=>hw z (List.mem_cons_of_mem _ (List.mem_cons_of_mem _ hz))
  omega
theorem hasB_one {u v:Int} (h:hasB [(u,u)] v=true):v=u:=by
 unfold hasB at h
 simp [hasU] at h
 omega
theorem rest_alt2 {r:Rl} (ho:Ok r) (ht:telB r r.key.length=true) {k:Nat} (hk:k<r.key.length) :
 (lenU (r.key.getD k [])=1∧restP r (r.key.getD k []) k=⟨1,(rg (r.key.getD k []) 0).1,0,[]⟩) ∨
 (¬ lenU (r.key.getD k [])=1∧∃ (j:Nat) (q:Pc),r.res[j]? = some q∧q.y=k∧((q.k=2∧restP r (r.key.getD k []) k=⟨2,0,j,[]⟩)∨(q.k=3∧restP r (r.key.getD k []) k=⟨3,0,j,r.key.getD k []⟩))):=by
 rcases rest_alt ho ht hk with h | ⟨h1,j,q,h2,h3,h4⟩
 · exact .inl h
 · obtain ⟨i,q',e,_,hq',_,hy⟩:=spk_one (r:=r) (p:=k) (n:=(j:Int)) (by rw [h2];simp)
   obtain rfl:j=i:=by omega
   rw [h3] at hq'
   injection hq' with hq'
   subst hq'
   exact .inr ⟨h1,j,q,h3,hy,h4⟩
theorem key_ok {r:Rl} (ho:Ok r) {k:Nat} (hk:k<r.key.length):okS (r.key.getD k [])=true:=by
 rw [List.getD_eq_getElem?_getD,List.getElem?_eq_getElem hk]
 exact List.all_eq_true.1 ho.kS _ (List.getElem_mem hk)
theorem img_at {r:Rl} {j:Nat} {q:Pc} (h:r.res[j]? = some q):keyAt (img r) j=imgP r.key q:=by
 unfold keyAt img
 simp [h]
theorem twice_key {r:Rl} (ho:Ok r) (hb:Bk r):img (turnR r)=r.key:=by
 refine List.ext_getElem (by rw [img_len];show (resT r r.key.length).length=_;rw [resT_len]) fun k h1 h2 => ?_
 have hg:r.key.getD k []=r.key[k]:=by rw [List.getD_eq_getElem?_getD,List.getElem?_eq_getElem h2];rfl
 have e:(img (turnR r))[k]=imgP (img r) (restP r (r.key.getD k []) k):=by
  simp [img,turnR,resT]
 rw [e]
 have hS:=key_ok ho h2
 have halt:=rest_alt2 ho hb.tl h2
 rw [hg] at hS halt ⊢
 rcases halt with ⟨h3,h4⟩ | ⟨h3,j,q,h4,h5,⟨h6,h7⟩ | ⟨h6,h7⟩⟩
 · rw [h4]
   obtain ⟨u,hu⟩:=set_one_u hS h3
   rw [hu]
   rfl
 · rw [h7]
   show keyAt (img r) (j:Nat)=_
   rw [img_at h4]
   unfold imgP
   rw [if_neg (by omega),if_pos h6,h5]
   unfold keyAt
   simp [h2]
 · rw [h7]
   rfl
theorem stB_at {ls:List (List (Int × Int))} {us:List Int} (h:stB ls us=true) {k:Nat} (hk:k<ls.length):hasB (keyAt ls k) (unitAt us k)=true:=by
 have hl:=st_len h
 simp only [stB,Bool.and_eq_true,List.all_eq_true] at h
 have h2:=h.2 (ls[k],us[k]'(by omega)) (by
  have:(ls.zip us)[k]'(by simp;omega)=(ls[k],us[k]'(by omega)):=by simp
  rw [←this]
  exact List.getElem_mem _)
 have e1:keyAt ls k=ls[k]:=by unfold keyAt;simp [hk]
 have e2:unitAt us k=us[k]'(by omega):=by unfold unitAt;simp [show k<us.length by omega]
 rw [e1,e2]
 exact h2
theorem twice_wrt {r:Rl} (ho:Ok r) (hb:Bk r) (hT:telB (turnR r) (turnR r).key.length=true) {us:List Int} (hu:stB r.key us=true) {n:Nat} {q:Pc} (hq:r.res[n]? = some q) :
 wrt r.key us (restP (turnR r) ((turnR r).key.getD n []) n)=wrt r.key us q:=by
 have hn:n<r.res.length:=(List.getElem?_eq_some_iff.1 hq).1
 have hTk:n<(turnR r).key.length:=by show n<(img r).length;rw [img_len];exact hn
 have hI:(turnR r).key.getD n []=imgP r.key q:=by
  have:=img_at hq
  unfold keyAt at this
  rw [←this,List.getD_eq_getElem?_getD]
  rfl
 have hTO:=turn_ok ho hb
 have hIok:=key_ok hTO hTk
 have halt:=rest_alt2 hTO hT hTk
 rw [hI] at hIok halt ⊢
 have hpc:=pc_ok (ho.pc q (List.mem_of_getElem? hq))
 rcases halt with ⟨h3,h4⟩ | ⟨h3,j,q',h4,h5,h6⟩
 · rw [h4]
   obtain ⟨v,hv⟩:=set_one_u hIok h3
   rw [hv]
   show v=_
   rcases hpc with ⟨e,_⟩ | ⟨e,_,_,e4,e5⟩ | ⟨e,_,e3,e4,e5⟩
   · have:imgP r.key q=[(q.u,q.u)]:=by unfold imgP;rw [if_pos e]
     rw [this] at hv
     injection hv with hv
     injection hv with hv
     unfold wrt
     rw [if_neg (by omega),if_neg (by omega)]
     exact hv.symm
   · have:imgP r.key q=keyAt r.key q.y:=by unfold imgP;rw [if_neg (by omega),if_pos e]
     obtain ⟨y,hy⟩:∃ y:Nat,q.y=y:=⟨q.y.toNat,by omega⟩
     have h7:=stB_at hu (k:=y) (by omega)
     rw [this,hy] at hv
     rw [show keyAt r.key ((y:Nat):Int)=[(v,v)] from hv] at h7
     unfold wrt
     rw [if_neg (by omega),if_pos e,hy]
     exact (hasB_one h7).symm
   · have:imgP r.key q=q.tl:=by unfold imgP;rw [if_neg (by omega),if_neg (by omega)]
     obtain ⟨y,hy⟩:∃ y:Nat,q.y=y:=⟨q.y.toNat,by omega⟩
     have hyl:y<r.key.length:=by omega
     rw [this] at hv
     rw [hv] at e5
     simp only [matB,Bool.and_eq_true,decide_eq_true_eq] at e5
     have hkey:okS (keyAt r.key q.y)=true:=by
      have:=key_ok ho hyl
      rw [hy]
      unfold keyAt
      rwa [List.getD_eq_getElem?_getD] at this
     have h1v:lenU [(v,v)]=1:=by rw [←hv,←this];exact h3
     obtain ⟨a,ha⟩:=set_one_u hkey (by rw [e5.2,h1v])
     have h7:=stB_at hu hyl
     rw [←hy,ha] at h7
     have h8:=hasB_one h7
     unfold wrt
     rw [if_pos e,ha,h8,hv]
     have hvv:validB [(v,v)]=true:=e5.1
     unfold partU
     have hp:placeU [(a,a)] a=0:=by simp [placeU,fnd,rg,tot]
     rw [show hasB [(a,a)] a=true by rw [h8] at h7;exact h7,if_pos rfl,hp]
     unfold nthU
     rw [if_neg (by simp [hvv])]
     simp [nthL]
 · have h7:q'=restP r (r.key.getD j []) j∧j<r.key.length:=by
    have hjl:=(List.getElem?_eq_some_iff.1 h4).1
    have hjl':j<r.key.length:=by
     have:(turnR r).res.length=r.key.length:=by show (resT r _).length=_;rw [resT_len]
     omega
    refine ⟨?_,hjl'⟩
    have:(turnR r).res[j]? = some (restP r (r.key.getD j []) j):=by
     simp [turnR,resT,hjl']
    rw [h4] at this
    injection this
   obtain ⟨h7,hjl⟩:=h7
   rcases rest_alt2 ho hb.tl hjl with ⟨_,h9⟩ | ⟨_,i,q'',h9,h10,⟨h11,h12⟩ | ⟨h11,h12⟩⟩
   · rw [h9] at h7
     rcases h6 with ⟨h6,_⟩ | ⟨h6,_⟩ <;> (rw [h7] at h6;cases h6)
   · rw [h12] at h7
     have:i=n:=by rw [h7] at h5;simp only at h5;omega
     subst this
     rw [hq] at h9
     injection h9 with h9
     subst h9
     rcases h6 with ⟨h6,h8⟩ | ⟨h6,_⟩
     · rw [h8]
       unfold wrt
       rw [if_neg (by simp),if_pos rfl,if_neg (by omega),if_pos h11,h10]
     · rw [h7] at h6
       cases h6
   · rw [h12] at h7
     have:i=n:=by rw [h7] at h5;simp only at h5;omega
     subst this
     rw [hq] at h9
     injection h9 with h9
     subst h9
     rcases h6 with ⟨h6,_⟩ | ⟨h6,h8⟩
     · rw [h7] at h6
       cases h6
     · rw [h8]
       have:imgP r.key q=q.tl:=by unfold imgP;rw [if_neg (by omega),if_neg (by omega)]
       unfold wrt
       rw [if_pos rfl,if_pos h11,h10,this]
structure Alk (r r':Rl):Prop where
 bg:r'.bg=r.bg
 en:r'.en=r.en
 an:r'.ante=r.ante
 po:r'.post=r.post
 ke:r'.key=r.key
 cu:r'.cu=r.cu
 bk:(backP r').length=(backP r).length
 ou:∀ us,stB r.key us=true→outs r' us=outs r us
theorem twice_alk {r:Rl} (ho:Ok r) (hb:Bk r) (hT:telB (turnR r) (turnR r).key.length=true):Alk r (turnR (turnR r)):=by
 have hcu:r.cu=r.res.length:=by
  have h1:=hb.cu
  rw [img_len] at h1
  have:=ho.c1
  omega
 refine ⟨rfl,rfl,rfl,rfl,twice_key ho hb,?_,?_,fun us hu => ?_⟩
 · show ((img r).length:Int)=r.cu
   rw [img_len,hcu]
 · rw [back_turn]
   unfold backP
   rw [List.drop_eq_nil_of_le (by omega)]
 · unfold outs
   rw [show (turnR (turnR r)).key=r.key from twice_key ho hb]
   refine List.ext_getElem (by simp [turnR,resT,img]) fun n h1 h2 => ?_
   have h2':n<r.res.length:=by simpa using h2
   have hq:r.res[n]? = some r.res[n]:=List.getElem?_eq_getElem h2'
   have:=twice_wrt ho hb hT hu hq
   simp only [List.getElem_map]
   rw [←this]
   congr 1
   show (resT (turnR r) (turnR r).key.length)[n]'_=_
   simp [resT]
theorem stF_alk {r r':Rl} (h:Alk r r') (d l:List Int):stF r' d l=stF r d l:=by
 unfold stF
 rw [h.bg,h.en,h.an,h.po,h.ke]
structure Alks (rs rs':List Rl):Prop where
 ln:rs'.length=rs.length
 el:∀ (i:Nat) (h:i<rs.length) (h':i<rs'.length),Alk rs[i] rs'[i]
theorem Alks.kl {rs rs':List Rl} (h:Alks rs rs') (i:Int):Go.Proofs.kl rs' i=Go.Proofs.kl rs i:=by
 unfold Go.Proofs.kl
 by_cases hi:i.toNat<rs.length
 · have hi':i.toNat<rs'.length:=by rw [h.ln];exact hi
   rw [List.getElem?_eq_getElem hi,List.getElem?_eq_getElem hi']
   show (rs'[i.toNat]).key.length=(rs[i.toNat]).key.length
   rw [(h.el _ hi hi').ke]
 · rw [List.getElem?_eq_none (by have:=h.ln;omega),List.getElem?_eq_none (by have:=h.ln;omega)]
theorem Alks.nxt {rs rs':List Rl} (h:Alks rs rs') (d l:List Int):∀ k,nxtK rs' d l k=nxtK rs d l k
 | 0=>rfl
 | k+1=>by
  have e:((rs'[k]?).map fun r=>stF r d l).getD false=((rs[k]?).map fun r=>stF r d l).getD false:=by
   by_cases hi:k<rs.length
   · have hi':k<rs'.length:=by rw [h.ln];exact hi
     rw [List.getElem?_eq_getElem hi,List.getElem?_eq_getElem hi']
     exact stF_alk (h.el k hi hi') d l
   · rw [List.getElem?_eq_none (by have:=h.ln;omega),List.getElem?_eq_none (by have:=h.ln;omega)]
  rw [nxtK,nxtK,Alks.nxt h d l k,e,h.kl,h.kl]
theorem Alks.rule {rs rs':List Rl} (h:Alks rs rs') (d l:List Int):(ruleN rs d l=none∧ruleN rs' d l=none)∨∃ r r',ruleN rs d l=some r∧ruleN rs' d l=some r'∧Alk r r'∧stB r.key (l.take r.key.length)=true:=by
 have hn:=h.nxt d l rs.length
 unfold ruleN
 rw [h.ln,hn]
 rcases nxtK_is rs d l rs.length (Nat.le_refl _) with e | ⟨i,hi,_,e,hf⟩
 · rw [e]
   exact .inl ⟨rfl,rfl⟩
 · have hi':i<rs'.length:=by rw [h.ln];exact hi
   rw [e,if_neg (by omega),if_neg (by omega)]
   refine .inr ⟨rs[i],rs'[i],by simp [hi],by simp [hi'],h.el i hi hi',(stF_key hf).2⟩
theorem Alks.stp {rs rs':List Rl} (h:Alks rs rs') (d l:List Int):Go.Proofs.stp rs' d l=Go.Proofs.stp rs d l∧layd rs' d l=layd rs d l∧lefd rs' d l=lefd rs d l:=by
 unfold Go.Proofs.stp layd lefd
 rcases h.rule d l with ⟨e1,e2⟩ | ⟨r,r',e1,e2,ha,hs⟩
 · rw [e1,e2]
   exact ⟨rfl,rfl,rfl⟩
 · rw [e1,e2]
   simp only []
   rw [h.ln,h.nxt,ha.ke,ha.cu,ha.bk,ha.ou _ hs]
   exact ⟨rfl,rfl,rfl⟩
theorem Alks.go {rs rs':List Rl} (h:Alks rs rs') (l0:List Int):∀ k,go3 rs' l0 k=go3 rs l0 k
 | 0=>rfl
 | k+1=>by
  rw [go3,go3,Alks.go h l0 k]
  obtain ⟨e1,e2,e3⟩:=h.stp (go3 rs l0 k).2.1 (go3 rs l0 k).2.2
  rw [e1,e2,e3]
theorem Alks.run {rs rs':List Rl} (h:Alks rs rs') {s:ByteArray} (h1:mayE rs s=0) (h2:mayE rs' s=0):runT rs' s=runT rs s:=by
 unfold runT
 rw [if_pos h1,if_pos h2]
 obtain ⟨_,_,_,_,_,_,g1⟩:=may_ok h1
 obtain ⟨_,_,_,_,_,_,g2⟩:=may_ok h2
 have g3:G3 rs (intsU (units s)) (endOf rs' s).1 (endOf rs' s).2 []:=by
  unfold G3 at g2 ⊢
  rw [←h.go]
  exact g2
 rw [(g1.one g3).2]
theorem twice_alks {rs:List Rl} (h:∀ r∈rs,Ok r∧Bk r) (hT:∀ r∈rs.map turnR,Ok r∧Bk r):Alks rs ((rs.map turnR).map turnR):=by
 refine ⟨by simp,fun i hi hi' => ?_⟩
 have h1:=h rs[i] (List.getElem_mem hi)
 have h2:=hT (turnR rs[i]) (List.mem_map.2 ⟨_,List.getElem_mem hi,rfl⟩)
 have:=twice_alk h1.1 h1.2 h2.2.tl
 simpa using this
theorem may_small {rs:List Rl} {s:ByteArray} (h:(chkW rs).2=0) (hs:s.size≤16384):mayE rs s=0:=by
 unfold mayE
 rw [if_neg (by rw [h];simp),if_neg (by omega)]
end Go.Proofs
