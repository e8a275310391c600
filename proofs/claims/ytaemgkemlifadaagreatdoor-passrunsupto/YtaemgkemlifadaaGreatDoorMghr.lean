/-
  Several texts in one (Sg Sh Si Ob Oc Od Sj Ra2).
-/
import Derived.RangeFuncNested
import Derived.RangeFuncBound
import Derived.RangeFuncCalls
import Derived.RangeFuncLeaves
import Derived.Shelf.Abstract
import Derived.Shelf.RegionOpen
import Derived.WalkKit
import Derived.WalkSpells
import Derived.WalkLawsBesides
import Derived.OwnWalkIn
import Derived.TacticsInMore
import Derived.LoopNIn
import Derived.LoopIn
import Derived.BigQuiet
import Derived.RegionIn
import Derived.Deep.QuietTactic
import Derived.Deep.RegionWith
import Derived.Lib.OthersKept
import Derived.Maps.AppendAt
import Derived.Lib.SmallJoins
import Derived.Shelf.SlSortCmp.QuietGrown
import Derived.Test.YtaemgkemlifadaaGreatDoorSfr
import Derived.Test.YtaemgkemlifadaaGreatDoorMgar
import Derived.Test.YtaemgkemlifadaaGreatDoorMgfr
import Derived.Deep.AppendLies
import Derived.Deep.Upon
import Derived.Lib.AppendZeros
namespace Go.Proofs
open Go.RowKit Go.Shelf
set_option maxRecDepth 100000
attribute [local go_sem] Oper.semAt_some
attribute [local go_sem ↓] Go.wp_at_zero Go.wp_at_succ
structure Sg (key:Int→Int) (d:List Int) (a b:Nat):Prop where
 s:SS key d a b
 r:∀ i,a≤i→i<b→(a:Int)≤bAt d i∧bAt d i<(b:Int)
theorem Sg.same {key:Int→Int} {d e:List Int} {a b:Nat} (h:Sg key d a b) (he:∀ k,a≤k→k<b→bAt e k=bAt d k):Sg key e a b:=⟨h.s.same he,fun i h1 h2=>by rw [he i h1 h2];exact h.r i h1 h2⟩
theorem Sg.mix {key:Int→Int} {d e:List Int} {a b:Nat} (hm:Mix d e a b) (hs:SS key e a b) (hr:∀ i,a≤i→i<b→(a:Int)≤bAt d i∧bAt d i<(b:Int)):Sg key e a b:=⟨hs,fun i h1 h2=>by
 obtain ⟨j,k1,k2,k3⟩:=(hm.s (bAt e i)).1 ⟨i,h1,h2,rfl⟩
 rw [←k3];exact hr j k1 k2⟩
theorem Sg.join {key:Int→Int} {d:List Int} {a m b:Nat} (h1:Sg key d a m) (h2:Sg key d m b):Hx d a m b:=fun i j k1 k2 k3 k4=>by
 have:=h1.r i k1 k2
 have:=h2.r j k3 k4
 omega
theorem Sg.both {key:Int→Int} {d e:List Int} {a m b:Nat} (h1:Sg key d a m) (h2:Sg key d m b) (ham:a≤m) (hmb:m≤b) (hm:Mix d e a b) (hs:SS key e a b):Sg key e a b:=Sg.mix hm hs fun i k1 k2=>by
 by_cases hi:i<m
 · have:=h1.r i k1 hi;omega
 · have:=h2.r i (by omega) k2;omega
def Bl (key:Int→Int) (d:List Int) (bs lo n:Nat):Prop:=∀ k,lo≤k*bs→k*bs<n→Sg key d (k*bs) (min (k*bs+bs) n)
theorem Bl.keep {key:Int→Int} {d e:List Int} {bs lo n lo':Nat} (h:Bl key d bs lo n) (hl:lo≤lo') (he:∀ k,lo'≤k→bAt e k=bAt d k):Bl key e bs lo' n:=fun k h1 h2=>(h k (by omega) h2).same fun t k1 _=>he t (by omega)
def Br (key:Int→Int) (d:List Int) (bs hi:Nat):Prop:=∀ k,k*bs+bs≤hi→Sg key d (k*bs) (k*bs+bs)
theorem Br.keep {key:Int→Int} {d e:List Int} {bs hi:Nat} (h:Br key d bs hi) (he:∀ k,k<hi→bAt e k=bAt d k):Br key e bs hi:=fun k h1=>(h k h1).same fun t _ k2=>he t (by omega)
theorem Br.step {key:Int→Int} {d:List Int} {bs t:Nat} (h:Br key d bs (t*bs)) (hg:Sg key d (t*bs) (t*bs+bs)) (hb:0<bs):Br key d bs ((t+1)*bs):=fun k h1=>by
 by_cases hk:k=t
 · subst hk;exact hg
 · refine h k ?_
   have hkt:k<t+1:=by
    by_cases hx:k<t+1
    · exact hx
    · exfalso
      have:(t+1)*bs≤k*bs:=Nat.mul_le_mul_right bs (by omega)
      omega
   have:(k+1)*bs≤t*bs:=Nat.mul_le_mul_right bs (by omega)
   rw [Nat.succ_mul] at this
   omega
set_option maxHeartbeats 16000000 in
theorem stable_any {w0 w:World} {blk cap n:Nat} {d:List Int} {key:Int→Int} {bx:Nat} (h:Sq w0 w blk cap n d) (hc:CmpC w0 blk n key bx) (hkey:∀ x,0≤key x∧key x≤1000000) (hn:n≤1000000) (hid:∀ i,i<n→bAt d i=(i:Int)) :
 Calls Tryz.prog 95 #[.slice (some ⟨blk,0,none⟩) n cap,.int .i64 n,.func (.func 71) #[] #[.pointer (some ⟨bx,0,none⟩)]] w fun e w'=>e = .returned (.tuple #[])∧∃ d',Sq w0 w' blk cap n d'∧Sg key d' 0 n:=by
 have HS:Hid (Sq w0 w blk cap n d):=h
 have HID:=Hid.mk' hid
 have hnI:(n:Int)≤1000000:=by omega
 have n0:(0:Int)≤(n:Int):=by omega
 have HIN:=Hid.mk' (fun (W:World) (e:List Int) (a b:Nat) (hq:Sq w0 W blk cap n e) (h1:a≤b) (h2:b≤n) (h3:∀ i j,a≤i→i<j→j<b→bAt e i<bAt e j)=>insertion_any hq hc hkey a b h1 h2 hn h3)
 have HSY:=Hid.mk' (fun (W:World) (e:List Int) (a m b:Nat) (hq:Sq w0 W blk cap n e) (h1:a<m) (h2:m<b) (h3:b≤n) (h4:Sg key e a m) (h5:Sg key e m b)=>sym_any hc hkey hn (b - a) a m b e W (Nat.le_refl _) h1 h2 h3 hq h4.s h5.s (h4.join h5))
 clear h hc hkey hid
 go_enter Tryz.func95,Tryz.ntmps95
 go_wp2
 go_loopw [7,8] (fun v7 v8 wr=>∃ t:Nat,v7 = .int .i64 ((t*20:Nat):Int)∧v8 = .int .i64 ((t*20+20:Nat):Int)∧t*20≤n∧Hid (∃ e,Sq w0 wr blk cap n e∧Br key e 20 (t*20)∧∀ k,t*20≤k→k<n→bAt e k=(k:Int))) (fun v7 _ _=>n+20 - (intOf v7).toNat)
 case atStart=>exact ⟨0,rfl,rfl,by omega,d,HS.out,fun k h1=>by omega,fun k _ h2=>HID.out k h2⟩
 case round=>
  obtain ⟨t,rfl,rfl,htn,HE⟩:=hrel
  obtain ⟨A,hA⟩:∃ A,t*20=A:=⟨_,rfl⟩
  have HA:=Hid.mk' hA
  rw [hA] at HE htn ⊢
  clear hA
  have A0:(0:Int)≤(A:Int):=by omega
  obtain ⟨e,hsq,hbr,hrest⟩:=HE.out
  by_cases hle:A+20≤n
  · have hleI:((A+20:Nat):Int)≤(n:Int):=by omega
    have HC:=Hid.mk' (HIN.out wr e A (A+20) hsq (by omega) hle fun i j h1 h2 h3=>by rw [hrest i h1 (by omega),hrest j (by omega) (by omega)];omega)
    have HBR:=Hid.mk' hbr
    have HRE:=Hid.mk' hrest
    clear hsq hbr hrest HE
    go_wp2_with (go_at_call 111;refine HC.out.mono ?_;rintro e' w1 ⟨rfl,f,hs1,hm1,hss1⟩;have H1:Hid (Sq w0 w1 blk cap n f∧Mix e f A (A+20)∧SS key f A (A+20)):=⟨hs1,hm1,hss1⟩;clear hs1 hm1 hss1)
    refine ⟨⟨t+1,?_,?_,?_,f,H1.out.1,?_,?_⟩,?_⟩
    · have:=HA.out;congr 1;omega
    · have:=HA.out;congr 1;omega
    · have:=HA.out;omega
    · have hg:Sg key f A (A+20):=Sg.mix H1.out.2.1 H1.out.2.2 fun i h1 h2=>by rw [HRE.out i h1 (by omega)];omega
      have:=Br.step (t:=t) (bs:=20) (key:=key) (d:=f) (by rw [HA.out];exact HBR.out.keep fun k hk=>H1.out.2.1.o k (by omega)) (by rw [HA.out];exact hg) (by omega)
      exact this
    · intro k h1 h2
      have:=HA.out
      rw [H1.out.2.1.o k (by omega)]
      exact HRE.out k (by omega) h2
    · have:=HA.out;simp [intOf];omega
  · have hleI:¬ ((A+20:Nat):Int)≤(n:Int):=by omega
    have HC:=Hid.mk' (HIN.out wr e A n hsq htn (Nat.le_refl _) fun i j h1 h2 h3=>by rw [hrest i h1 (by omega),hrest j (by omega) (by omega)];omega)
    have HBR:=Hid.mk' hbr
    have HRE:=Hid.mk' hrest
    clear hsq hbr hrest HE
    go_wp2_with (go_at_call 111;refine HC.out.mono ?_;rintro e' w1 ⟨rfl,f,hs1,hm1,hss1⟩;have H1:Hid (Sq w0 w1 blk cap n f∧Bl key f 20 0 n):=⟨hs1,fun k _ hk=>by
     have ha:=HA.out
     by_cases hkt:k*20+20≤A
     · rw [show min (k*20+20) n=k*20+20 by omega]
       exact (HBR.out.keep fun k hk=>hm1.o k (by omega)) k hkt
     · rw [show k*20=A by omega,show min (A+20) n=n by omega]
       exact Sg.mix hm1 hss1 fun i h1 h2=>by rw [HRE.out i h1 h2];omega⟩;clear hs1 hm1 hss1)
    go_loopw [6] (fun v6 wr=>∃ bs:Nat,v6 = .int .i64 bs∧20≤bs∧bs≤4000000∧Hid (∃ e,Sq w0 wr blk cap n e∧Bl key e bs 0 n)) (fun v6 _=>n - (intOf v6).toNat)
    case atStart=>exact ⟨20,rfl,by omega,by omega,f,H1.out⟩
    case round=>
     clear H1 HBR HRE HC
     obtain ⟨bs,rfl,hb1,hb2,HE⟩:=hrel
     have bs0:(0:Int)≤(bs:Int):=by omega
     have bsI:(bs:Int)≤4000000:=by omega
     by_cases hbn:bs<n
     · have hbnI:(bs:Int)<(n:Int):=by omega
       go_wp2
       go_loopw [7,8] (fun v7 v8 wr=>∃ t A:Nat,v7 = .int .i64 A∧v8 = .int .i64 ((A+2*bs:Nat):Int)∧A=t*(2*bs)∧A≤n∧Hid (∃ e,Sq w0 wr blk cap n e∧Br key e (2*bs) A∧Bl key e bs A n)) (fun v7 _ _=>n+1 - (intOf v7).toNat)
       case atStart=>
        obtain ⟨e,h1,h2⟩:=HE.out
        exact ⟨0,0,rfl,by go_num,by omega,by omega,e,h1,fun k hk=>by omega,h2⟩
       case round=>
        obtain ⟨t,B,rfl,rfl,hB,hBn,HF⟩:=hrel
        have hB1:B=2*t*bs:=by rw [hB,←Nat.mul_assoc,Nat.mul_comm t 2]
        have hB2:B+bs=(2*t+1)*bs:=by rw [Nat.succ_mul,hB1]
        have hB3:B+2*bs=(t+1)*(2*bs):=by rw [Nat.add_mul t 1 (2*bs),Nat.one_mul,hB]
        have HB:=Hid.mk' (show B=t*(2*bs)∧B=2*t*bs∧B+bs=(2*t+1)*bs∧B+2*bs=(t+1)*(2*bs) from ⟨hB,hB1,hB2,hB3⟩)
        clear hB hB1 hB2 hB3
        have B0:(0:Int)≤(B:Int):=by omega
        have BI:(B:Int)≤1000000:=by omega
        obtain ⟨e,hsq,hbr,hbl⟩:=HF.out
        have HBR:=Hid.mk' hbr
        have HBL:=Hid.mk' hbl
        have HSQ:=Hid.mk' hsq
        have HG1:Hid (B<n→Sg key e B (min (B+bs) n)):=fun hb=>by
         have:=hbl (2*t) (by rw [←HB.out.2.1];exact Nat.le_refl _) (by rw [←HB.out.2.1];exact hb)
         rw [←HB.out.2.1] at this
         exact this
        have HG2:Hid (B+bs<n→Sg key e (B+bs) (min (B+2*bs) n)):=fun hb=>by
         have:=hbl (2*t+1) (by rw [←HB.out.2.2.1];omega) (by rw [←HB.out.2.2.1];exact hb)
         rw [←HB.out.2.2.1,show B+bs+bs=B+2*bs by omega] at this
         exact this
        clear hsq hbr hbl HF
        by_cases hle2:B+2*bs≤n
        · have hle2I:((B+2*bs:Nat):Int)≤(n:Int):=by omega
          have HC:Hid (Calls Tryz.prog 112 #[.slice (some ⟨blk,0,none⟩) n cap,.int .i64 B,.int .i64 ((B:Int)+(bs:Int)),.int .i64 ((B+2*bs:Nat):Int),.func (.func 71) #[] #[.pointer (some ⟨bx,0,none⟩)]] wr fun e' w'=>e' = .returned (.tuple #[])∧∃ d',Sq w0 w' blk cap n d'∧Mix e d' B (B+2*bs)∧SS key d' B (B+2*bs)):=by
           have g1:=HG1.out (by omega)
           have g2:=HG2.out (by omega)
           rw [show min (B+bs) n=B+bs by omega] at g1
           rw [show min (B+2*bs) n=B+2*bs by omega] at g2
           rw [show (B:Int)+(bs:Int)=((B+bs:Nat):Int) by omega]
           exact HSY.out wr e B (B+bs) (B+2*bs) HSQ.out (by omega) (by omega) hle2 g1 g2
          go_wp2_with (go_at_call 112;refine HC.out.mono ?_;rintro e' w2 ⟨rfl,f,hs2,hm2,hss2⟩;have H2:Hid (Sq w0 w2 blk cap n f∧Mix e f B (B+2*bs)∧SS key f B (B+2*bs)):=⟨hs2,hm2,hss2⟩;clear hs2 hm2 hss2)
          refine ⟨⟨t+1,B+2*bs,?_,?_,HB.out.2.2.2,hle2,f,H2.out.1,?_,?_⟩,?_⟩
          · congr 1
          · (congr 1) <;> omega
          · have g1:=HG1.out (by omega)
            have g2:=HG2.out (by omega)
            rw [show min (B+bs) n=B+bs by omega] at g1
            rw [show min (B+2*bs) n=B+2*bs by omega] at g2
            have hg:=g1.both g2 (by omega) (by omega) H2.out.2.1 H2.out.2.2
            rw [HB.out.2.2.2]
            refine Br.step (by rw [←HB.out.1];exact HBR.out.keep fun k hk=>H2.out.2.1.o k (by omega)) (by rw [←HB.out.1];exact hg) (by omega)
          · exact HBL.out.keep (by omega) fun k hk=>H2.out.2.1.o k (by omega)
          · simp [intOf];omega
        · have hle2I:¬ ((B+2*bs:Nat):Int)≤(n:Int):=by omega
          have HFI:Hid (∀ W f,Sq w0 W blk cap n f→Mix e f B n→(B<n→Sg key f B n)→∃ e,Sq w0 W blk cap n e∧Bl key e (2*bs) 0 n):=fun W f hs hm hg=>⟨f,hs,fun k _ hk=>by
           have hb4:=HB.out.2.2.2
           have hb1:=HB.out.1
           by_cases hkt:k<t
           · have:(k+1)*(2*bs)≤t*(2*bs):=Nat.mul_le_mul_right _ (by omega)
             rw [Nat.succ_mul] at this
             rw [show min (k*(2*bs)+2*bs) n=k*(2*bs)+2*bs by omega]
             exact (HBR.out.keep fun k hk=>hm.o k (by omega)) k (by omega)
           · by_cases hk2:k=t
             · subst hk2
               rw [←hb1] at hk ⊢
               rw [show min (B+2*bs) n=n by omega]
               exact hg hk
             · exfalso
               have:(t+1)*(2*bs)≤k*(2*bs):=Nat.mul_le_mul_right _ (by omega)
               omega⟩
          by_cases hmn:B+bs<n
          · have hmnI:(B:Int)+(bs:Int)<(n:Int):=by omega
            have HC:Hid (Calls Tryz.prog 112 #[.slice (some ⟨blk,0,none⟩) n cap,.int .i64 B,.int .i64 ((B:Int)+(bs:Int)),.int .i64 n,.func (.func 71) #[] #[.pointer (some ⟨bx,0,none⟩)]] wr fun e' w'=>e' = .returned (.tuple #[])∧∃ d',Sq w0 w' blk cap n d'∧Mix e d' B n∧Sg key d' B n):=by
             have g1:=HG1.out (by omega)
             have g2:=HG2.out hmn
             rw [show min (B+bs) n=B+bs by omega] at g1
             rw [show min (B+2*bs) n=n by omega] at g2
             rw [show (B:Int)+(bs:Int)=((B+bs:Nat):Int) by omega]
             refine (HSY.out wr e B (B+bs) n HSQ.out (by omega) hmn (Nat.le_refl _) g1 g2).mono ?_
             rintro e' w' ⟨h1,f,h2,h3,h4⟩
             exact ⟨h1,f,h2,h3,g1.both g2 (by omega) (by omega) h3 h4⟩
            go_wp2_with (go_at_call 112;refine HC.out.mono ?_;rintro e' w2 ⟨rfl,f,hs2,hm2,hg2⟩;have H2:=Hid.mk' (HFI.out w2 f hs2 hm2 fun _=>hg2);clear hs2 hm2 hg2)
            exact ⟨⟨2*bs,by rw [show ((2*bs:Nat):Int)=(bs:Int)*2 by omega],by omega,by omega,H2.out⟩,by simp [intOf];omega⟩
          · have hmnI:¬ (B:Int)+(bs:Int)<(n:Int):=by omega
            have H2:=Hid.mk' (HFI.out wr e HSQ.out (Mix.refl _ _ _) fun hb=>by have:=HG1.out hb;rw [show min (B+bs) n=n by omega] at this;exact this)
            go_wp2
            exact ⟨⟨2*bs,by rw [show ((2*bs:Nat):Int)=(bs:Int)*2 by omega],by omega,by omega,H2.out⟩,by simp [intOf];omega⟩
     · have hbnI:¬ (bs:Int)<(n:Int):=by omega
       have HFI:Hid (∃ d',Sq w0 wr blk cap n d'∧Sg key d' 0 n):=by
        obtain ⟨e,h1,h2⟩:=HE.out
        by_cases hz:n=0
        · subst hz
          exact ⟨e,h1,fun i j _ _ h=>by omega,fun i _ h=>by omega⟩
        · have:=h2 0 (by omega) (by omega)
          rw [Nat.zero_mul,Nat.zero_add,show min bs n=n by omega] at this
          exact ⟨e,h1,this⟩
       go_wp2
       go_end0
       exact ⟨rfl,HFI.out⟩
def klI (rs:List Rl) (x:Int):Int:=((rs[x.toNat]?.map fun r=>r.key.length).getD 0:Nat)
theorem kl_at {rs:List Rl} {j:Nat} (h:j<rs.length):klI rs (j:Int)=(rs[j].key.length:Int):=by simp [klI,h]
theorem kl_in {rs:List Rl} (h:∀ r∈rs,r.key.length≤1000000) (x:Int):0≤klI rs x∧klI rs x≤1000000:=by
 unfold klI
 cases hx:rs[x.toNat]? with
 | none=>simp
 | some r=>
  have:=h r (List.mem_of_getElem? hx)
  simp
  omega
theorem psr_key {w:World} {a:Option Addr} {n c:Nat} {rs:List Rl} (h:PsR w (.slice a n c) rs) {j:Nat} (hj:j<rs.length):∃ g o ka kc,a=some ⟨g,o,none⟩∧w.cell? ⟨g,o+j*7+2,none⟩=some (.slice ka rs[j].key.length kc):=by
 obtain ⟨a',c',e,_,h⟩:=h
 injection e with e1 _ _
 subst e1
 obtain ⟨g,o,e,h⟩:=h.resolve_left fun e=>by rw [e] at hj;simp at hj
 obtain ⟨av,kv,pv,rv,_,_,q2,_,_,_,_,hR⟩:=h j hj
 obtain ⟨ka,kc,hk,_⟩:=hR.k
 rw [hk] at q2
 exact ⟨g,o,ka,kc,e,q2⟩
set_option maxHeartbeats 4000000 in
theorem cmp_any {w0:World} {blk n bx:Nat} {ra:Option Addr} {rc:Nat} {rs:List Rl} (hP:PsR w0 (.slice ra n rc) rs) (hN:rs.length=n) (hb:w0.cell? ⟨bx,0,none⟩=some (.slice ra n rc)) (hbb:bx≠blk) (hlt:∀ g o,ra=some ⟨g,o,none⟩→g≠blk) (hz:∀ r∈rs,r.key.length≤1000000) (hn:n≤1000000):CmpC w0 blk n (klI rs) bx:=by
 intro W hf x y hx0 hxn hy0 hyn
 obtain ⟨i,rfl⟩:∃ i:Nat,x=(i:Int):=⟨x.toNat,by omega⟩
 obtain ⟨j,rfl⟩:∃ j:Nat,y=(j:Int):=⟨y.toNat,by omega⟩
 have hil:i<rs.length:=by omega
 have hjl:j<rs.length:=by omega
 obtain ⟨g,o,ka,kc,e1,c1⟩:=psr_key hP hil
 obtain ⟨g',o',la,lc,e2,c2⟩:=psr_key hP hjl
 rw [e1] at e2
 injection e2 with e2
 injection e2 with e2 e3
 subst e2 e3
 have hg:=hlt g o e1
 subst e1
 rw [kl_at hil,kl_at hjl]
 have hk1:=hz _ (List.getElem_mem hil)
 have hk2:=hz _ (List.getElem_mem hjl)
 have b0:W.cell? ⟨bx,0,none⟩=some (.slice (some ⟨g,o,none⟩) n rc):=by rw [cell_same (hf.block bx (cell_lt hb) hbb)];exact hb
 have d1:W.cell? ⟨g,o+i*7+2,none⟩=some (.slice ka rs[i].key.length kc):=by rw [cell_same (hf.block g (cell_lt c1) hg)];exact c1
 have d2:W.cell? ⟨g,o+j*7+2,none⟩=some (.slice la rs[j].key.length lc):=by rw [cell_same (hf.block g (cell_lt c1) hg)];exact c2
 generalize rs[i].key.length=X at *
 generalize rs[j].key.length=Y at *
 have XI:(X:Int)≤1000000:=by omega
 have YI:(Y:Int)≤1000000:=by omega
 have X0:(0:Int)≤(X:Int):=by omega
 have Y0:(0:Int)≤(Y:Int):=by omega
 have nI:(n:Int)≤1000000:=by omega
 have k0:=fun m os=>((Grown.refl W).quiet m os).cellv b0
 have k1:=fun m os=>((Grown.refl W).quiet m os).cellv d1
 have k2:=fun m os=>((Grown.refl W).quiet m os).cellv d2
 clear hP hN hb hf hz c1 c2 hil hjl hlt
 go_enter Tryz.func71,Tryz.ntmps71
 go_wp2
 refine wp_region_quiet_grown mixed (by kernel_rfl) ?_
 repeat (go_big_quiet_step (fail))
 refine wpQuiet_nil ?_
 intro _ hw'
 obtain ⟨⟨nq,osq⟩,hw''⟩:=hw'
 subst hw''
 go_wp2
 go_ret
 exact ⟨rfl,(Grown.refl W).quiet _ _⟩
theorem insertion_nil (w:World) (cv:Value) (c:Nat):Calls Tryz.prog 111 #[.slice none 0 c,.int .i64 0,.int .i64 0,cv] w fun e w'=>e = .returned (.tuple #[])∧w'=w:=by
 go_enter Tryz.func111,Tryz.ntmps111
 go_wp2
 refine wp_loop_rounds 1 ?_
 rw [rounds_succ]
 go_wp2
 go_end0
 exact ⟨rfl,rfl⟩
theorem stable_nil (w:World) (cv:Value) (c:Nat):Calls Tryz.prog 95 #[.slice none 0 c,.int .i64 0,cv] w fun e w'=>e = .returned (.tuple #[])∧w'=w:=by
 have HC:=Hid.mk' (insertion_nil w cv c)
 go_enter Tryz.func95,Tryz.ntmps95
 go_wp2
 refine wp_loop_rounds 1 ?_
 rw [rounds_succ]
 go_wp2_with (go_at_call 111;refine HC.out.mono ?_;rintro e w1 ⟨rfl,rfl⟩)
 refine wp_loop_rounds 1 ?_
 rw [rounds_succ]
 go_wp2
 go_end0
 exact ⟨rfl,rfl⟩
theorem sort_some {w0 w:World} {blk cap n:Nat} {d:List Int} {key:Int→Int} {bx:Nat} (h:Sq w0 w blk cap n d) (hc:CmpC w0 blk n key bx) (hkey:∀ x,0≤key x∧key x≤1000000) (hn:n≤1000000) (hid:∀ i,i<n→bAt d i=(i:Int)) :
 Calls Tryz.prog 70 #[.slice (some ⟨blk,0,none⟩) n cap,.func (.func 71) #[] #[.pointer (some ⟨bx,0,none⟩)]] w fun e w'=>e = .returned (.tuple #[])∧∃ d',Sq w0 w' blk cap n d'∧Sg key d' 0 n:=by
 have HC:=Hid.mk' (stable_any h hc hkey hn hid)
 clear h hc hkey hid
 go_enter Tryz.func70,Tryz.ntmps70
 go_wp2_with (go_at_call 95;refine HC.out.mono ?_;rintro e w1 ⟨rfl,hq⟩;have HQ:=Hid.mk' hq;clear hq)
 go_end0
 exact ⟨rfl,HQ.out⟩
theorem sort_nil (w:World) (cv:Value) (c:Nat):Calls Tryz.prog 70 #[.slice none 0 c,cv] w fun e w'=>e = .returned (.tuple #[])∧w'=w:=by
 have HC:=Hid.mk' (stable_nil w cv c)
 go_enter Tryz.func70,Tryz.ntmps70
 go_wp2_with (go_at_call 95;refine HC.out.mono ?_;rintro e w1 ⟨rfl,rfl⟩)
 go_end0
 exact ⟨rfl,rfl⟩
section
variable {w:World} {base xb:Nat} {pv rv sv gv cv:Value} {G:List It} {S:List (Value × List It)} {C:List (Value × List (Pc × Value))} {R:List LRu} {re:List Value} {n:Nat}
theorem LX.other (h:LX w base xb pv rv sv gv cv G S C R re n) {t:Value} {E:TypeId} {T:Nat} {tl:List Value} {tn:Nat} (ht:w.ownsRow base E T t tn tl) {w1:World} {j:Nat} {u:Value} (hf:Fr w w1 fun k=>t.ownBlock=some k) {e:TypeId} {size:Nat} {v:Value} {m:Nat} {xs:List Value} (hr:w.ownsRow base e size v m xs) (he:e≠36) (hd:e≠E∨∀ b,v.ownBlock=some b→t.ownBlock≠some b):(w1.setCell ⟨xb,j,none⟩ u).ownsRow base e size v m xs:=by
 have hf2:Fr w (w1.setCell ⟨xb,j,none⟩ u) fun k=>t.ownBlock=some k∨k=xb:=(hf.mono fun k _ e => .inl e).trans (fr_set w1 xb j u) fun i _ e => .inr e
 refine own_fr hr hf2 fun b hb hc => ?_
 rcases hc with hc | hc
 · rcases hd with hd | hd
   · exact own_ne hr ht hd hb hc
   · exact hd b hb hc
 · subst hc;exact h.x_ne hr he hb
theorem LX.pushS (h:LX w base xb pv rv sv gv cv G S C R re n) {v' sv' mv:Value} {its:List It} {w1:World} (hv:w.ownsRow base 60 1 v' (its.length+1) (its.map (fun y=>cut y.1)++[mv])) (hm:Len1 mv) (hi:∀ y∈its,y∈G) (hvb:∀ b,v'.ownBlock=some b→¬ Bs xb rv sv gv cv G S C b) (hf:Fr w w1 fun k=>sv.ownBlock=some k) (ho:w1.ownsRow base 33 1 sv' (S.length+1) (S.map Prod.fst++[v'])) (hgb:sv'.ownBlock=sv.ownBlock∨∃ i,sv'.ownBlock=some i∧w.heap.size≤i) :
 LX (w1.setCell ⟨xb,2,none⟩ sv') base xb pv rv sv' gv cv G (S++[(v',its)]) C R re n∧Fr w (w1.setCell ⟨xb,2,none⟩ sv') (Bs xb rv sv gv cv G S C)∧∀ b,Bs xb rv sv' gv cv G (S++[(v',its)]) C b→Bs xb rv sv gv cv G S C b∨w.heap.size≤b∨v'.ownBlock=some b:=by
 have hx1:w1.heap[xb]? = some (.cells #[pv,rv,sv,gv,cv] 36 (0,0)):=(hf.block xb (blk_lt h.x) (h.x_ne h.s (by decide))).trans h.x
 have hf2:Fr w (w1.setCell ⟨xb,2,none⟩ sv') fun k=>sv.ownBlock=some k∨k=xb:=(hf.mono fun k _ e => .inl e).trans (fr_set w1 xb 2 sv') fun i _ e => .inr e
 have hgx:sv'.ownBlock≠some xb:=fun e=>by
  obtain ⟨cur,hc⟩:=own_at ho e
  rw [hx1] at hc
  injection hc with hc
  injection hc with _ h2 _
  exact absurd h2 (by decide)
 obtain ⟨g2,_,hv2,_,_,_,hob2⟩:=fl_slice hv
 refine ⟨⟨h.hb,?_,h.other h.s hf h.g (by decide) (.inl (by decide)),?_,h.other h.s hf h.c (by decide) (.inl (by decide)),h.other h.s hf h.r (by decide) (.inl (by decide)),fun x hx=>h.other h.s hf (h.gi x hx) (by decide) (.inl (by decide)),fun x hx => ?_,fun x hx=>⟨h.other h.s hf (h.ci x hx).1 (by decide) (.inl (by decide)),(h.ci x hx).2⟩,fun r hr => ?_,h.ng,?_,h.nc⟩,?_,?_⟩
 · rw [set_heap hx1];rfl
 · have:(w1.setCell ⟨xb,2,none⟩ sv').ownsRow base 33 1 sv' (S.length+1) (S.map Prod.fst++[v']):=own_fr ho (fr_set w1 xb 2 sv') fun b hb e=>by subst e;exact hgx hb
   simpa using this
 · rcases List.mem_append.1 hx with hx | hx
   · obtain ⟨⟨mv',h0,h1⟩,h2⟩:=h.si x hx
     exact ⟨⟨mv',h0,h.other h.s hf h1 (by decide) (.inl (by decide))⟩,h2⟩
   · simp at hx;subst hx;exact ⟨⟨mv,hm,h.other h.s hf hv (by decide) (.inl (by decide))⟩,hi⟩
 · obtain ⟨a1,a2,a3,a4⟩:=h.ri r hr
   exact ⟨List.mem_append_left _ a1,List.mem_append_left _ a2,List.mem_append_left _ a3,a4⟩
 · rw [List.map_append,←List.cons_append,List.nodup_append]
   refine ⟨h.ns,by simp,fun a ha b hb e => ?_⟩
   simp at hb
   subst hb
   subst e
   refine hvb g2 hob2 ?_
   rw [hob2] at ha
   rcases List.mem_cons.1 ha with ha | ha
   · exact .inr (.inr (.inr (.inl ha.symm)))
   · obtain ⟨x,hx,e⟩:=List.mem_map.1 ha
     exact .inr (.inr (.inr (.inr (.inr (.inr (.inl ⟨x,hx,e⟩))))))
 · exact hf2.mono fun k _ e=>by
    rcases e with e | e
    · simp [Bs,e]
    · exact .inl e
 · rintro b (hb | hb | hb | hb | hb | ⟨x,hx,hb⟩ | ⟨x,hx,hb⟩ | ⟨x,hx,hb⟩)
   · exact .inl (.inl hb)
   · exact .inl (by simp [Bs,hb])
   · rcases hgb with e | ⟨i,e,hi2⟩
     · exact .inl (by rw [e] at hb;simp [Bs,hb])
     · rw [e] at hb;injection hb with hb;exact .inr (.inl (by omega))
   · exact .inl (by simp [Bs,hb])
   · exact .inl (by simp [Bs,hb])
   · exact .inl (.inr (.inr (.inr (.inr (.inr (.inl ⟨x,hx,hb⟩))))))
   · rcases List.mem_append.1 hx with hx | hx
     · exact .inl (.inr (.inr (.inr (.inr (.inr (.inr (.inl ⟨x,hx,hb⟩)))))))
     · simp at hx;subst hx;exact .inr (.inr hb)
   · exact .inl (.inr (.inr (.inr (.inr (.inr (.inr (.inr ⟨x,hx,hb⟩)))))))
theorem LX.pushC (h:LX w base xb pv rv sv gv cv G S C R re n) {v' cv':Value} {its:List (Pc × Value)} {w1:World} (hv:w.ownsRow base 65 4 v' (its.length+1) (pcells its++pend)) (hi:∀ y∈its,(y.2,y.1.tl)∈G) (hvb:∀ b,v'.ownBlock=some b→¬ Bs xb rv sv gv cv G S C b) (hf:Fr w w1 fun k=>cv.ownBlock=some k) (ho:w1.ownsRow base 51 1 cv' (C.length+1) (C.map Prod.fst++[v'])) (hgb:cv'.ownBlock=cv.ownBlock∨∃ i,cv'.ownBlock=some i∧w.heap.size≤i) :
 LX (w1.setCell ⟨xb,4,none⟩ cv') base xb pv rv sv gv cv' G S (C++[(v',its)]) R re n∧Fr w (w1.setCell ⟨xb,4,none⟩ cv') (Bs xb rv sv gv cv G S C)∧∀ b,Bs xb rv sv gv cv' G S (C++[(v',its)]) b→Bs xb rv sv gv cv G S C b∨w.heap.size≤b∨v'.ownBlock=some b:=by
 have hx1:w1.heap[xb]? = some (.cells #[pv,rv,sv,gv,cv] 36 (0,0)):=(hf.block xb (blk_lt h.x) (h.x_ne h.c (by decide))).trans h.x
 have hf2:Fr w (w1.setCell ⟨xb,4,none⟩ cv') fun k=>cv.ownBlock=some k∨k=xb:=(hf.mono fun k _ e => .inl e).trans (fr_set w1 xb 4 cv') fun i _ e => .inr e
 have hgx:cv'.ownBlock≠some xb:=fun e=>by
  obtain ⟨cur,hc⟩:=own_at ho e
  rw [hx1] at hc
  injection hc with hc
  injection hc with _ h2 _
  exact absurd h2 (by decide)
 obtain ⟨g2,_,hv2,_,_,_,hob2⟩:=fl_slice hv
 refine ⟨⟨h.hb,?_,h.other h.c hf h.g (by decide) (.inl (by decide)),h.other h.c hf h.s (by decide) (.inl (by decide)),?_,h.other h.c hf h.r (by decide) (.inl (by decide)),fun x hx=>h.other h.c hf (h.gi x hx) (by decide) (.inl (by decide)),fun x hx => ?_,fun x hx => ?_,fun r hr => ?_,h.ng,h.ns,?_⟩,?_,?_⟩
 · rw [set_heap hx1];rfl
 · have:(w1.setCell ⟨xb,4,none⟩ cv').ownsRow base 51 1 cv' (C.length+1) (C.map Prod.fst++[v']):=own_fr ho (fr_set w1 xb 4 cv') fun b hb e=>by subst e;exact hgx hb
   simpa using this
 · obtain ⟨⟨mv',h0,h1⟩,h2⟩:=h.si x hx
   exact ⟨⟨mv',h0,h.other h.c hf h1 (by decide) (.inl (by decide))⟩,h2⟩
 · rcases List.mem_append.1 hx with hx | hx
   · exact ⟨h.other h.c hf (h.ci x hx).1 (by decide) (.inl (by decide)),(h.ci x hx).2⟩
   · simp at hx;subst hx;exact ⟨h.other h.c hf hv (by decide) (.inl (by decide)),hi⟩
 · obtain ⟨a1,a2,a3,a4⟩:=h.ri r hr
   exact ⟨a1,a2,a3,List.mem_append_left _ a4⟩
 · rw [List.map_append,List.nodup_append]
   refine ⟨h.nc,by simp,fun a ha b hb e => ?_⟩
   simp at hb
   subst hb
   subst e
   refine hvb g2 hob2 ?_
   rw [hob2] at ha
   obtain ⟨x,hx,e⟩:=List.mem_map.1 ha
   exact .inr (.inr (.inr (.inr (.inr (.inr (.inr ⟨x,hx,e⟩))))))
 · exact hf2.mono fun k _ e=>by
    rcases e with e | e
    · simp [Bs,e]
    · exact .inl e
 · rintro b (hb | hb | hb | hb | hb | ⟨x,hx,hb⟩ | ⟨x,hx,hb⟩ | ⟨x,hx,hb⟩)
   · exact .inl (.inl hb)
   · exact .inl (by simp [Bs,hb])
   · exact .inl (by simp [Bs,hb])
   · exact .inl (by simp [Bs,hb])
   · rcases hgb with e | ⟨i,e,hi2⟩
     · exact .inl (by rw [e] at hb;simp [Bs,hb])
     · rw [e] at hb;injection hb with hb;exact .inr (.inl (by omega))
   · exact .inl (.inr (.inr (.inr (.inr (.inr (.inl ⟨x,hx,hb⟩))))))
   · exact .inl (.inr (.inr (.inr (.inr (.inr (.inr (.inl ⟨x,hx,hb⟩)))))))
   · rcases List.mem_append.1 hx with hx | hx
     · exact .inl (.inr (.inr (.inr (.inr (.inr (.inr (.inr ⟨x,hx,hb⟩)))))))
     · simp at hx;subst hx;exact .inr (.inr hb)
theorem LX.pushR (h:LX w base xb pv rv sv gv cv G S C R [] n) {rv':Value} {R':List LRu} {re':List Value} {w1:World} (hi:∀ r∈R',r.a∈S∧r.k∈S∧r.p∈S∧r.q∈C) (hf:Fr w w1 fun k=>rv.ownBlock=some k) (ho:w1.ownsRow base 53 7 rv' (n+1) (rucells R'++re')) (hgb:rv'.ownBlock=rv.ownBlock∨∃ i,rv'.ownBlock=some i∧w.heap.size≤i) :
 LX (w1.setCell ⟨xb,1,none⟩ rv') base xb pv rv' sv gv cv G S C R' re' (n+1)∧Fr w (w1.setCell ⟨xb,1,none⟩ rv') (Bs xb rv sv gv cv G S C)∧∀ b,Bs xb rv' sv gv cv G S C b→Bs xb rv sv gv cv G S C b∨w.heap.size≤b:=by
 have hx1:w1.heap[xb]? = some (.cells #[pv,rv,sv,gv,cv] 36 (0,0)):=(hf.block xb (blk_lt h.x) (h.x_ne h.r (by decide))).trans h.x
 have hf2:Fr w (w1.setCell ⟨xb,1,none⟩ rv') fun k=>rv.ownBlock=some k∨k=xb:=(hf.mono fun k _ e => .inl e).trans (fr_set w1 xb 1 rv') fun i _ e => .inr e
 have hgx:rv'.ownBlock≠some xb:=fun e=>by
  obtain ⟨cur,hc⟩:=own_at ho e
  rw [hx1] at hc
  injection hc with hc
  injection hc with _ h2 _
  exact absurd h2 (by decide)
 refine ⟨⟨h.hb,?_,h.other h.r hf h.g (by decide) (.inl (by decide)),h.other h.r hf h.s (by decide) (.inl (by decide)),h.other h.r hf h.c (by decide) (.inl (by decide)),?_,fun x hx=>h.other h.r hf (h.gi x hx) (by decide) (.inl (by decide)),fun x hx => ?_,fun x hx=>⟨h.other h.r hf (h.ci x hx).1 (by decide) (.inl (by decide)),(h.ci x hx).2⟩,hi,h.ng,h.ns,h.nc⟩,?_,?_⟩
 · rw [set_heap hx1];rfl
 · exact own_fr ho (fr_set w1 xb 1 rv') fun b hb e=>by subst e;exact hgx hb
 · obtain ⟨⟨mv',h0,h1⟩,h2⟩:=h.si x hx
   exact ⟨⟨mv',h0,h.other h.r hf h1 (by decide) (.inl (by decide))⟩,h2⟩
 · exact hf2.mono fun k _ e=>by
    rcases e with e | e
    · simp [Bs,e]
    · exact .inl e
 · rintro b (hb | hb | hb | hb | hb | ⟨x,hx,hb⟩ | ⟨x,hx,hb⟩ | ⟨x,hx,hb⟩)
   · exact .inl (.inl hb)
   · rcases hgb with e | ⟨i,e,hi2⟩
     · exact .inl (by rw [e] at hb;simp [Bs,hb])
     · rw [e] at hb;injection hb with hb;exact .inr (by omega)
   · exact .inl (by simp [Bs,hb])
   · exact .inl (by simp [Bs,hb])
   · exact .inl (by simp [Bs,hb])
   · exact .inl (.inr (.inr (.inr (.inr (.inr (.inl ⟨x,hx,hb⟩))))))
   · exact .inl (.inr (.inr (.inr (.inr (.inr (.inr (.inl ⟨x,hx,hb⟩)))))))
   · exact .inl (.inr (.inr (.inr (.inr (.inr (.inr (.inr ⟨x,hx,hb⟩)))))))
theorem LX.setP (h:LX w base xb pv rv sv gv cv G S C R re n) (u:Value):LX (w.setCell ⟨xb,0,none⟩ u) base xb u rv sv gv cv G S C R re n:=by
 have hf:=fr_set w xb 0 u
 have o:∀ {e:TypeId} {size:Nat} {v:Value} {m:Nat} {xs:List Value},w.ownsRow base e size v m xs→e≠36→(w.setCell ⟨xb,0,none⟩ u).ownsRow base e size v m xs:=fun hr he=>own_fr hr hf fun b hb e=>by subst e;exact h.x_ne hr he hb
 refine ⟨h.hb,by rw [set_heap h.x];rfl,o h.g (by decide),o h.s (by decide),o h.c (by decide),o h.r (by decide),fun x hx=>o (h.gi x hx) (by decide),fun x hx => ?_,fun x hx=>⟨o (h.ci x hx).1 (by decide),(h.ci x hx).2⟩,h.ri,h.ng,h.ns,h.nc⟩
 obtain ⟨⟨mv',h0,h1⟩,h2⟩:=h.si x hx
 exact ⟨⟨mv',h0,o h1 (by decide)⟩,h2⟩
end
theorem inf59:(Tryz.prog.info? 60).map (fun i=>(i.zero,i.size,i.bytes))=some (some (.slice none 0 0),1,24):=by kernel_rfl
theorem inf35:(Tryz.prog.info? 33).map (fun i=>(i.zero,i.size,i.bytes))=some (some (.slice none 0 0),1,24):=by kernel_rfl
theorem inf52:(Tryz.prog.info? 51).map (fun i=>(i.zero,i.size,i.bytes))=some (some (.slice none 0 0),1,24):=by kernel_rfl
theorem inf66:(Tryz.prog.info? 65).map (fun i=>(i.zero,i.size,i.bytes))=some (some (.agg #[.int .i64 0,.int .i64 0,.int .i64 0,.slice none 0 0]),4,48):=by kernel_rfl
theorem inf54:(Tryz.prog.info? 53).map (fun i=>(i.zero,i.size,i.bytes))=some (some (.agg #[.bool false,.slice none 0 0,.slice none 0 0,.slice none 0 0,.bool false,.slice none 0 0,.int .i64 0]),7,120):=by kernel_rfl
theorem app_gen {ops:Array Oper} {rest:List Oper} {o:Oper} {a:Act} {Q:Exit→Act→World→Prop} {w:World} (hgd:o.guard=none) (s x:Operand) (t:TypeId)
 (ho:o.op = .call { callee := .builtin .append,args:=#[s,x],argTypes:=#[t,t] }) (e:TypeId) (z:Value) (size bytes:Nat) (ht:Tryz.prog.underlying t=some (.slice e))
 (hinf:(Tryz.prog.info? e).map (fun i=>(i.zero,i.size,i.bytes))=some (some z,size,bytes)) (hzs:z.cells.size=size) (hsz:0<size)
 (base:Nat) (v:Value) (n:Nat) (xs:List Value) (hs:a.eval s=v) (hown:w.ownsRow base e size v n xs) (gs c:Nat) (news:List Value) (hx:a.eval x = .slice (some ⟨gs,0,none⟩) 1 c)
 (hl:news.length=size) (te:TypeId) (hblk:w.heap[gs]? = some (.cells news.toArray te (0,0))) (h1:∀ u∈news,u.oneCell'=true) (hn:n≤4398046511104) (hby:(n+1)*bytes≤140737488355328) (hbase:base≤w.heap.size)
 (h:∀ g cap w',w'.ownsRow base e size (.slice (some ⟨g,0,none⟩) (n+1) cap) (n+1) (xs++news)→Fr w w' (fun k=>v.ownBlock=some k)→(v.ownBlock=some g∨g=w.heap.size)→wpList Tryz.prog ops Q rest (a.put o.dst (.slice (some ⟨g,0,none⟩) (n+1) cap)) w'):wpList Tryz.prog ops Q (o::rest) a w:=by
 obtain ⟨i0,hi,hz0,hz1,hz2⟩:=info_parts hinf
 refine wpList_append_lies w hgd s x t ho base e i0 z size bytes ht hi hz0 hz1 hz2 hzs hsz v n xs hs hown ⟨gs,0,none⟩ 1 c news hx (by omega) (fun j u hj=>World.news_of_block hblk j u hj) h1 (by omega) (by unfold maxLen;omega) hby hbase w.heap.size rfl (fun g cap w' h2 h3 h4 _=>h g cap w' h2 (fr_by h3) h4)
theorem run_appR (w:World) (ty:TypeId) (base g cap:Nat) (l b:List (Int × Int)) (xv:Value) (hown:OwnR w base (.slice (some ⟨g,0,none⟩) l.length cap) l) (hr:Rs w xv b) (hl:l.length+b.length≤4294967296) (hbase:base≤w.heap.size) :
 ∃ g' cap' w',(Builtin.append_ #[60,60] ty #[.slice (some ⟨g,0,none⟩) l.length cap,xv]).run Tryz.prog w = .ok (.slice (some ⟨g',0,none⟩) (l++b).length cap') w'∧OwnR w' base (.slice (some ⟨g',0,none⟩) (l++b).length cap') (l++b)∧Fr w w' (fun k=>g=k)∧(g=g'∨g'=w.heap.size):=by
 obtain ⟨i0,hi0,hz0,hz1,hz2⟩:=info_parts info38
 obtain ⟨A,c,rfl,hc,hr⟩:=hr
 have hcap:l.length≤cap:=by
  rcases hown.2 with ⟨e,_⟩ | ⟨g',cap',cur,e,_,_,h3,_⟩
  · cases e
  · injection e with _ _ e3;omega
 by_cases he:b=[]
 · subst he
   have hr:=run_append_nothing (P:=Tryz.prog) w 60 60 ty 84 i0 Tryz.underlying60 hi0 (some ⟨g,0,none⟩) l.length cap hcap (.slice A 0 c) ⟨.inl ⟨84,Tryz.underlying60⟩,fun w'=>by cases A <;> simp [Builtin.lenOf,go_sem],by cases A <;> simp [Builtin.firstCells,go_sem],by cases A <;> simp [Builtin.firstCells,go_sem],by simp,by simp⟩
   exact ⟨g,cap,w,by simpa using hr,by simpa using hown,Fr.refl _ _,.inl rfl⟩
 · obtain ⟨g1,o',rfl,hd⟩:=hr.resolve_left he
   obtain ⟨v',w',h1,h2,h3,h4,h5⟩:=run_append_own_at (P:=Tryz.prog) w base 60 ty 84 i0 (.agg #[.int .i64 0,.int .i64 0]) 2 16 Tryz.underlying60 hi0 hz0 hz1 hz2 rfl (by decide) (.slice (some ⟨g,0,none⟩) l.length cap) l.length (fl l) hown ⟨g1,o',none⟩ b.length c (fl b) (fl_length b) (fun j u hj=>by
    have hjl:j<b.length*2:=by rw [←fl_length];exact (List.getElem?_eq_some_iff.1 hj).1
    have hadd:(⟨g1,o',none⟩:Addr).add j=⟨g1,o'+j,none⟩:=by unfold Addr.add;split <;> simp_all
    rw [hadd]
    obtain ⟨i,hi⟩:∃ i,j=i*2∨j=i*2+1:=⟨j / 2,by omega⟩
    have hil:i<b.length:=by omega
    have k1:=hd i hil
    have k2:=fl_at b hil
    rcases hi with rfl | rfl
    · rw [k2.1] at hj;injection hj with hj;subst hj;exact k1.1
    · rw [k2.2] at hj;injection hj with hj;subst hj;rw [←Nat.add_assoc];exact k1.2) (fl_one _) (by unfold maxLen;omega) (by omega) hbase
   have hO:OwnR w' base v' (l++b):=by
    unfold OwnR
    rw [List.length_append,fl_append];exact h2
   rcases hO.2 with ⟨e,_⟩ | ⟨g2,cap2,cur,e,_,_,hcp,_⟩
   · exact absurd (h4.1 e).1 (by intro e;cases e)
   · subst e
     refine ⟨g2,cap2,w',h1,hO,(fr_by h3).mono fun k _ e=>by injection e,?_⟩
     rcases h5 with h5 | h5
     · injection h5 with h5;exact .inl h5.symm
     · injection h5 with h5;exact .inr h5
theorem app_R2 {ops:Array Oper} {rest:List Oper} {o:Oper} {a:Act} {Q:Exit→Act→World→Prop} {w:World} (hgd:o.guard=none) (s x:Operand)
 (ho:o.op = .call { callee := .builtin .append,args:=#[s,x],argTypes:=#[60,60] })
 (base g cap:Nat) (l b k:List (Int × Int)) (hk:l++b=k) (xv:Value) (hs:a.eval s = .slice (some ⟨g,0,none⟩) l.length cap) (hown:OwnR w base (.slice (some ⟨g,0,none⟩) l.length cap) l) (hx:a.eval x=xv) (hr:Rs w xv b) (hl:l.length+b.length≤4294967296) (hbase:base≤w.heap.size)
 (h:∀ g' cap' w',OwnR w' base (.slice (some ⟨g',0,none⟩) k.length cap') k→Fr w w' (fun j=>g=j)→(g=g'∨g'=w.heap.size)→wpList Tryz.prog ops Q rest (a.put o.dst (.slice (some ⟨g',0,none⟩) k.length cap')) w'):wpList Tryz.prog ops Q (o::rest) a w:=by
 subst hk
 refine wpList_plain hgd fun K hK => ?_
 obtain ⟨g',cap',w',hr2,h1,h2,h3⟩:=run_appR w o.type base g cap l b xv hown hr hl hbase
 unfold Oper.wp execOp
 simp only [ho,resolve,invoke,builtin,Sem.run_bind,Sem.run_pure,Result.andThen_ok,List.map_toArray,List.map_cons,List.map_nil,hs,hx,hr2]
 exact hK _ _ (h g' cap' w' h1 h2 h3)
theorem own_emptyR (w:World):OwnR (w.alloc (.cells #[] 84)) w.heap.size (.slice (some ⟨w.heap.size,0,none⟩) 0 0) []:=
 ⟨rfl,.inr ⟨w.heap.size,0,#[],rfl,Nat.le_refl _,heap_alloc_new w _,Nat.le_refl _,Nat.zero_le _,rfl,rfl⟩⟩
theorem mark_any (w:World):Calls Tryz.prog 33 #[] w fun e w'=>e = .returned (.agg #[.int .i64 (-77),.int .i64 (-78)])∧Grown w w':=by
 go_enter Tryz.func33,Tryz.ntmps33
 go_wp2
 refine bodyPost_ret (v := .agg #[.int .i64 (-77),.int .i64 (-78)]) ?_ rfl ⟨rfl,(Grown.refl _).alloc _⟩
 have hr:Tryz.f33.results=#[.cell 0 84]:=rfl
 simp only [results,hr]
 simp [go_sem]
theorem rs_mark {W:World} {g:Nat} (h:W.heap[g]? = some (.cells #[.int .i64 (-77),.int .i64 (-78)] 84 (0,0))):Rs W (.slice (some ⟨g,0,none⟩) 1 1) [(-77,-78)]:=by
 refine ⟨_,1,rfl,Nat.le_refl _,.inr ⟨g,0,rfl,fun j hj => ?_⟩⟩
 have:j=0:=by simp at hj;omega
 subst this
 exact ⟨by rw [cell_of h];rfl,by rw [cell_of h];rfl⟩
set_option maxHeartbeats 4000000 in
theorem set_lx {w:World} {base xb:Nat} {pv rv sv gv cv:Value} {G:List It} {S:List (Value × List It)} {C:List (Value × List (Pc × Value))} {R:List LRu} {re:List Value} {n:Nat} (h:LX w base xb pv rv sv gv cv G S C R re n) (xv:Value) (l:List (Int × Int)) (hr:Rs w xv l) (hl:l.length≤2147483647) (hG:G.length≤4398046511103) :
 Calls Tryz.prog 23 #[.pointer (some ⟨xb,0,none⟩),xv] w fun e w'=>∃ v' gv',e = .returned (cut v')∧LX w' base xb pv rv sv gv' cv (G++[(v',l)]) S C R re n∧Fr w w' (Bs xb rv sv gv cv G S C)∧∀ b,Bs xb rv sv gv' cv (G++[(v',l)]) S C b→Bs xb rv sv gv cv G S C b∨w.heap.size≤b:=by
 have HX:Hid (LX w base xb pv rv sv gv cv G S C R re n):=h
 have HR:Hid (∀ ob,Rs (w.alloc ob) xv l):=fun ob=>hr.grown ((Grown.refl _).alloc ob)
 have HO0:Hid (OwnR (w.alloc (.cells #[] 84)) w.heap.size (.slice (some ⟨w.heap.size,0,none⟩) ([]:List (Int × Int)).length 0) []):=own_emptyR w
 obtain ⟨xa,xc,hxv,hx1,hx2⟩:=hr
 clear hx1 hx2
 obtain ⟨m,hm⟩:∃ m,l.length=m:=⟨_,rfl⟩
 have HM:Hid (l.length=m):=hm
 rw [hm] at hxv hl
 have hmI:(m:Int)≤2147483647:=by omega
 have hm0:(0:Int)≤(m:Int):=by omega
 subst hxv
 have HS:Hid (xb<w.heap.size):=(h.lt (.inl rfl)).2
 have HBW:Hid (base≤w.heap.size):=by have:=(h.lt (.inl rfl));show _≤_;omega
 clear h hm
 go_enter Tryz.func23,Tryz.ntmps23
 go_wp2_with (first
  | (go_at_call 33
     refine (mark_any _).mono ?_
     rintro e w2 ⟨rfl,hg2⟩
     have HF2:Hid (Fr w w2 fun _=>False):=HF1.out.trans (fr_grown hg2 _) fun _ _ e=>e
     have HO2:Hid (∀ ob,OwnR (w2.alloc ob) w.heap.size (.slice (some ⟨g1,0,none⟩) l.length c1) l):=fun ob=>(own_fr HO1.out (fr_grown hg2 fun _=>False) fun _ _=>id).alloc ob
     have HZ2:Hid (∀ ob,w.heap.size≤(w2.alloc ob).heap.size):=fun ob=>by have:=HF2.out.size;simp;omega
     clear hg2)
  | (at_builtin;go_must (first
   | (refine app_R2 rfl _ _ rfl w.heap.size w.heap.size 0 [] l l rfl _ rfl HO0.out rfl (HR.out _) (by have:=HM.out;show 0+l.length≤_;omega) (((Grown.refl w).alloc _).size) ?_
      intro g1 c1 w1 hO1 hF1 hg1
      have HF1:Hid (Fr w w1 fun _=>False):=((fr_grown ((Grown.refl w).alloc (.cells #[] 84)) _).trans hF1 fun i hi e=>by have e:w.heap.size=i:=e;omega)
      have HO1:Hid (OwnR w1 w.heap.size (.slice (some ⟨g1,0,none⟩) l.length c1) l):=hO1
      have HG1:Hid (w.heap.size≤g1):=hg1.elim (fun e=>by show _≤_;omega) (fun e=>by show _≤_;rw [e];exact ((Grown.refl w).alloc _).size)
      rw [HM.out]
      clear hO1 hF1 hg1)
   | (refine app_R2 rfl _ _ rfl w.heap.size g1 c1 l [(-77,-78)] _ rfl _ (by rw [HM.out];rfl) (HO2.out _) rfl (rs_mark (heap_alloc_new _ _)) (by have:=HM.out;show l.length+1≤_;omega) (HZ2.out _) ?_
      intro g2 c2 w3 hO3 hF3 hg3
      have HO3:Hid (OwnR w3 w.heap.size (.slice (some ⟨g2,0,none⟩) (l++[(-77,-78)]).length c2) (l++[(-77,-78)])):=hO3
      have HF3:Hid (Fr w w3 fun _=>False):=(HF2.out.trans (fr_grown ((Grown.refl w2).alloc (.cells #[.int .i64 (-77),.int .i64 (-78)] 84)) fun _=>False) fun _ _ e=>e).trans hF3 fun i hi e=>by have e:g1=i:=e;have:=HG1.out;omega
      have HG2:Hid (w.heap.size≤g2):=hg3.elim (fun e=>by have:=HG1.out;show _≤_;omega) (fun e=>by show _≤_;rw [e];exact HZ2.out _)
      have HL:Hid ((l++[(-77,-78)]).length=m+1):=by show _=_;rw [List.length_append,HM.out];rfl
      have HX3:Hid (LX w3 base xb pv rv sv gv cv G S C R re n):=HX.out.fr HF3.out fun _ _=>id
      have e3:w3.cell? ⟨xb,3,none⟩=some gv:=by rw [cell_of HX3.out.x];rfl
      have hcc:m+1≤c2:=by obtain ⟨_,_,e,h2,_⟩:=hO3.rs;injection e with _ _ e;have:=HL.out;omega
      have hccI:(m:Int)≤(c2:Int):=by omega
      rw [HL.out]
      clear hO3 hF3 hg3)
   | (refine app_gen rfl _ _ 33 rfl 60 (.slice none 0 0) 1 24 Tryz.underlying33 inf59 rfl (by decide) base _ G.length (G.map Prod.fst) rfl (HX3.out.grown ((Grown.refl _).alloc _)).g w3.heap.size _ [.slice (some ⟨g2,0,none⟩) (m+1) c2] rfl rfl 60 (heap_alloc_new _ _) (by intro u hu;simp at hu;subst hu;rfl) (by omega) (by omega) (by have:=HBW.out;have:=HF3.out.size;simp;omega) ?_
      intro g4 c4 w4 hO4 hF4 hg4
      have HO4:Hid (w4.ownsRow base 60 1 (.slice (some ⟨g4,0,none⟩) (G.length+1) c4) (G.length+1) (G.map Prod.fst++[.slice (some ⟨g2,0,none⟩) (m+1) c2])):=hO4
      have HF4:Hid (Fr w3 w4 fun k=>gv.ownBlock=some k):=(fr_grown ((Grown.refl w3).alloc _) _).trans hF4 fun _ _ e=>e
      have HG4:Hid (gv.ownBlock=some g4∨w3.heap.size≤g4):=hg4.elim .inl fun e => .inr (by rw [e];exact ((Grown.refl w3).alloc _).size)
      have HX4:Hid (w4.heap[xb]? = some (.cells #[pv,rv,sv,gv,cv] 36 (0,0))):=(HF4.out.block xb (blk_lt HX3.out.x) (HX3.out.x_ne HX3.out.g (by decide))).trans HX3.out.x
      have e4:w4.cell? ⟨xb,3,none⟩=some gv:=by rw [cell_of HX4.out];rfl
      have f4:w4.frozen? ⟨xb,3,none⟩=false:=free_of HX4.out
      clear hO4 hF4 hg4))))
 go_ret
 have hv:OwnR w3 base (.slice (some ⟨g2,0,none⟩) (m+1) c2) (l++[(-77,-78)]):=by
  have:=HO3.out.le HBW.out
  rw [HL.out] at this
  exact this
 have hlt:∀ b,Bs xb rv sv gv cv G S C b→b<w.heap.size:=fun b hb=>(HX.out.lt hb).2
 obtain ⟨hp1,hp2,hp3⟩:=HX3.out.pushG hv (fun b e hb=>by injection e with e;have e:g2=b:=e;have:=hlt b hb;have:=HG2.out;omega) HF4.out HO4.out (HG4.out.elim (fun e => .inl e.symm) fun e => .inr ⟨g4,rfl,e⟩)
 refine ⟨_,_,rfl,hp1,(HF3.out.mono fun _ _ e=>e.elim).trans hp2 fun _ _ e=>e,fun b hb => ?_⟩
 rcases hp3 b hb with h | h | h
 · exact .inl h
 · exact .inr (by have:=HF3.out.size;omega)
 · injection h with h;have h:g2=b:=h;exact .inr (by have:=HG2.out;omega)
theorem new_blk {W:World} {b:Nat} {o:Obj} (h:W.heap.size=b):(W.alloc o).heap[b]? = some o:=by subst h;exact heap_alloc_new _ _
def RowI (w:World) (base xb:Nat) (pv rv sv gv cv:Value) (G:List It) (S:List (Value × List It)) (C:List (Value × List (Pc × Value))) (R:List LRu) (re:List Value) (n:Nat) (ls:List (List (Int × Int))) (wr:World) (ov:Value) (k:Nat):Prop:=
 ∃ gv' its ob cap,ov = .slice (some ⟨ob,0,none⟩) k cap∧its.length=k∧its.map Prod.snd=ls.take k∧LX wr base xb pv rv sv gv' cv (G++its) S C R re n∧wr.ownsRow base 60 1 ov k (its.map fun y=>cut y.1)∧Fr w wr (Bs xb rv sv gv cv G S C)∧(∀ b,Bs xb rv sv gv' cv (G++its) S C b→Bs xb rv sv gv cv G S C b∨w.heap.size≤b)∧w.heap.size≤ob∧¬ Bs xb rv sv gv' cv (G++its) S C ob
theorem own_empty59 (w:World) (base:Nat) (hb:base≤w.heap.size):(w.alloc (.cells #[] 60)).ownsRow base 60 1 (.slice (some ⟨w.heap.size,0,none⟩) 0 0) 0 []:=
 ⟨rfl,.inr ⟨w.heap.size,0,#[],rfl,hb,heap_alloc_new w _,Nat.le_refl _,Nat.zero_le _,rfl,rfl⟩⟩
set_option maxHeartbeats 8000000 in
theorem row_lx {w:World} {base xb:Nat} {pv rv sv gv cv:Value} {G:List It} {S:List (Value × List It)} {C:List (Value × List (Pc × Value))} {R:List LRu} {re:List Value} {n:Nat} (h:LX w base xb pv rv sv gv cv G S C R re n) (lv:Value) (ls:List (List (Int × Int))) (hs:∀ V,Below base w V→SR V lv ls) (hl:∀ l∈ls,l.length≤2147483647) (hn:ls.length≤2147483647) (hG:G.length+ls.length≤4398046511104) (hS:S.length≤4294967295) :
 Calls Tryz.prog 24 #[.pointer (some ⟨xb,0,none⟩),lv] w fun e w'=>∃ v' gv' sv' its,e = .returned (cut v')∧its.map Prod.snd=ls∧LX w' base xb pv rv sv' gv' cv (G++its) (S++[(v',its)]) C R re n∧Fr w w' (Bs xb rv sv gv cv G S C)∧∀ b,Bs xb rv sv' gv' cv (G++its) (S++[(v',its)]) C b→Bs xb rv sv gv cv G S C b∨w.heap.size≤b:=by
 have HX:Hid (LX w base xb pv rv sv gv cv G S C R re n):=h
 have HSR:Hid (∀ V,Below base w V→SR V lv ls):=hs
 have HBW:Hid (base≤w.heap.size):=by have:=(h.lt (.inl rfl));show _≤_;omega
 have HBB:Hid (∀ b,Bs xb rv sv gv cv G S C b→base≤b∧b<w.heap.size):=fun b hb=>h.lt hb
 obtain ⟨la,lc,hlv,hx1,hx2⟩:=hs w (Below.refl _ _)
 subst hlv
 clear hx1 hx2 hs
 obtain ⟨N,hN⟩:∃ N,ls.length=N:=⟨_,rfl⟩
 have HN:Hid (ls.length=N):=hN
 rw [hN] at HSR hn hG ⊢
 have hNI:(N:Int)≤2147483647:=by omega
 have hN0:(0:Int)≤(N:Int):=by omega
 have HL:Hid (∀ l∈ls,l.length≤2147483647):=hl
 have HI0:Hid (RowI w base xb pv rv sv gv cv G S C R re n ls (w.alloc (.cells #[] 60)) (.slice (some ⟨w.heap.size,0,none⟩) 0 0) 0):=by
  have hg:=(Grown.refl w).alloc (.cells #[] 60)
  refine ⟨gv,[],w.heap.size,0,rfl,rfl,by simp,by simpa using h.grown hg,own_empty59 w base HBW.out,fr_grown hg _,fun b hb => .inl (by simpa using hb),Nat.le_refl _,fun hb => ?_⟩
  have:=HBB.out w.heap.size (by simpa using hb)
  omega
 clear hN hl h
 go_enter Tryz.func24,Tryz.ntmps24
 go_wp2
 generalize w.alloc (.cells #[] 60)=wI at HI0 ⊢
 go_loopw [5,6] (fun v5 v6 wr=>∃ k:Nat,v6 = .int .i64 k∧k≤N∧Hid (RowI w base xb pv rv sv gv cv G S C R re n ls wr v5 k)) (fun _ v6 _=>N - (intOf v6).toNat)
 case atStart=>exact ⟨0,rfl,by omega,HI0⟩
 case round=>
  obtain ⟨k,rfl,hk,HI⟩:=hrel
  have hk0:(0:Int)≤(k:Int):=by omega
  obtain ⟨gv1,its,ob,cap,hov,hil,him,hLX,hown,hfr,hgr,hob,hnb⟩:=HI.out
  subst hov
  have HLX:Hid (LX wr base xb pv rv sv gv1 cv (G++its) S C R re n):=hLX
  have HOW:Hid (wr.ownsRow base 60 1 (.slice (some ⟨ob,0,none⟩) k cap) k (its.map fun y=>cut y.1)):=hown
  have HFR:Hid (Fr w wr (Bs xb rv sv gv cv G S C)):=hfr
  have HGR:Hid (∀ b,Bs xb rv sv gv1 cv (G++its) S C b→Bs xb rv sv gv cv G S C b∨w.heap.size≤b):=hgr
  have HOB:Hid (w.heap.size≤ob∧ob<wr.heap.size∧¬ Bs xb rv sv gv1 cv (G++its) S C ob):=⟨hob,(World.ownsRow.lt hown ob rfl).2,hnb⟩
  have HIL:Hid (its.length=k∧its.map Prod.snd=ls.take k):=⟨hil,him⟩
  have HB:Hid (Below base w wr):=hfr.below (fun k hk=>(HBB.out k hk).1) HBW.out
  clear hLX hown hfr hgr hob hnb hil him HI HI0
  by_cases hlt:k<N
  · have hltI:(k:Int)<(N:Int):=by omega
    have hkl:k<ls.length:=by rw [HN.out];exact hlt
    obtain ⟨la',lc',e',_,hR⟩:=HSR.out wr HB.out
    obtain ⟨lg,lo,hla,hR2⟩:=hR.resolve_left (fun e=>by rw [e] at hkl;simp at hkl)
    injection e' with e1 e2 e3
    clear e2 e3
    rw [hla] at e1
    subst e1
    obtain ⟨xv,cx,hrx⟩:=hR2 k hkl
    obtain ⟨x1,x2,x3,rfl⟩:=hrx.sl
    have HC:Hid (Calls Tryz.prog 23 #[.pointer (some ⟨xb,0,none⟩),.slice x1 x2 x3] wr fun e w'=>∃ v' gv',e = .returned (cut v')∧LX w' base xb pv rv sv gv' cv ((G++its)++[(v',ls[k])]) S C R re n∧Fr wr w' (Bs xb rv sv gv1 cv (G++its) S C)∧∀ b,Bs xb rv sv gv' cv ((G++its)++[(v',ls[k])]) S C b→Bs xb rv sv gv1 cv (G++its) S C b∨wr.heap.size≤b):=
     set_lx HLX.out _ ls[k] hrx (HL.out _ (List.getElem_mem hkl)) (by rw [List.length_append,HIL.out.1];omega)
    clear hR hR2 hrx hla
    go_wp2_with (first
     | (go_at_call 23
        refine HC.out.mono ?_
        rintro e w1 ⟨v1,gv2,rfl,hLX1,hFR1,hGR1⟩
        have HLX1:Hid (LX w1 base xb pv rv sv gv2 cv ((G++its)++[(v1,ls[k])]) S C R re n):=hLX1
        have HFR1:Hid (Fr wr w1 (Bs xb rv sv gv1 cv (G++its) S C)):=hFR1
        have HGR1:Hid (∀ b,Bs xb rv sv gv2 cv ((G++its)++[(v1,ls[k])]) S C b→Bs xb rv sv gv1 cv (G++its) S C b∨wr.heap.size≤b):=hGR1
        have HOW1:Hid (w1.ownsRow base 60 1 (.slice (some ⟨ob,0,none⟩) k cap) k (its.map fun y=>cut y.1)):=own_fr HOW.out hFR1 fun b e hb=>by injection e with e;have e:ob=b:=e;subst e;exact HOB.out.2.2 hb
        have hvf:∃ g c,v1 = .slice (some ⟨g,0,none⟩) (ls[k].length+1) c:=by
         have:=hLX1.gi (v1,ls[k]) (by simp)
         unfold OwnR at this
         rw [List.length_append] at this
         obtain ⟨g,c,e,_⟩:=fl_slice this
         exact ⟨g,c,e⟩
        obtain ⟨vg,vc,hv1⟩:=hvf
        have HV1:Hid (v1 = .slice (some ⟨vg,0,none⟩) (ls[k].length+1) vc):=hv1
        have hcv:cut v1 = .slice (some ⟨vg,0,none⟩) ls[k].length vc:=by rw [hv1];rfl
        obtain ⟨vn,hvn⟩:∃ vn,ls[k].length=vn:=⟨_,rfl⟩
        rw [hvn] at hcv
        rw [hcv]
        have HCV:Hid (cut v1 = .slice (some ⟨vg,0,none⟩) vn vc):=hcv
        clear hLX1 hFR1 hGR1 hv1 hcv hvn)
     | (at_builtin;go_must (first
        | (refine app_gen rfl _ _ 33 rfl 60 (.slice none 0 0) 1 24 Tryz.underlying33 inf59 rfl (by decide) base _ k (its.map fun y=>cut y.1) rfl (World.ownsRow.alloc HOW1.out _) w1.heap.size _ [cut v1] rfl rfl 60 (by rw [HCV.out];exact heap_alloc_new _ _) (by intro u hu;simp at hu;subst hu;rw [HCV.out];rfl) (by omega) (by omega) (by have:=HBW.out;have:=HFR.out.size;have:=HFR1.out.size;simp;omega) ?_
           intro g4 c4 w4 hO4 hF4 hg4
           have HO4:Hid (w4.ownsRow base 60 1 (.slice (some ⟨g4,0,none⟩) (k+1) c4) (k+1) ((its.map fun y=>cut y.1)++[cut v1])):=hO4
           have HF4:Hid (Fr w1 w4 fun j=>ob=j):=(fr_grown ((Grown.refl w1).alloc _) _).trans hF4 fun _ _ e=>by injection e
           have HG4:Hid (ob=g4∨w1.heap.size≤g4):=hg4.elim (fun e => .inl (by injection e)) fun e => .inr (by rw [e];exact ((Grown.refl w1).alloc _).size)
           clear hO4 hF4 hg4))))
    have hOB:=HOB.out
    have hnb1:¬ Bs xb rv sv gv2 cv ((G++its)++[(v1,ls[k])]) S C ob:=fun hb=>by
     rcases HGR1.out ob hb with h | h
     · exact hOB.2.2 h
     · omega
    have hLX4:=HLX1.out.fr HF4.out fun b hb e=>hnb1 (by rw [e];exact hb)
    refine ⟨⟨k+1,by go_num,by omega,gv2,its++[(v1,ls[k])],g4,c4,rfl,by simp [HIL.out.1],?_,by rw [←List.append_assoc];exact hLX4,?_,?_,?_,?_,?_⟩,by simp [intOf];omega⟩
    · rw [List.map_append,HIL.out.2,List.take_add_one,List.getElem?_eq_getElem hkl];rfl
    · rw [List.map_append];exact HO4.out
    · exact (HFR.out.trans HFR1.out fun i hi e=>(HGR.out i e).resolve_right (by omega)).trans HF4.out fun i hi e=>by have e:ob=i:=e;omega
    · rw [←List.append_assoc]
      intro b hb
      rcases HGR1.out b hb with h | h
      · exact HGR.out b h
      · exact .inr (by have:=HFR.out.size;omega)
    · rcases HG4.out with e | e
      · omega
      · have:=HFR.out.size;have:=HFR1.out.size;omega
    · rw [←List.append_assoc]
      intro hb
      rcases HG4.out with e | e
      · rw [←e] at hb;exact hnb1 hb
      · have:=(HLX1.out.lt hb).2;omega
  · have hge:¬ (k:Int)<(N:Int):=by omega
    have HKN:Hid (k=N):=by show _=_;omega
    have HIM:Hid (its.length=N∧its.map Prod.snd=ls):=⟨by rw [HIL.out.1];exact HKN.out,by rw [HIL.out.2,HKN.out,←HN.out,List.take_length]⟩
    go_wp2_with (first
     | (go_at_call 33
        refine (mark_any _).mono ?_
        rintro e w1 ⟨rfl,hg1⟩
        have HG1:Hid (Grown wr w1):=hg1
        clear hg1)
     | (at_builtin;go_must (first
        | (refine app_gen rfl _ _ 33 rfl 60 (.slice none 0 0) 1 24 Tryz.underlying33 inf59 rfl (by decide) base _ k (its.map fun y=>cut y.1) rfl (World.ownsRow.alloc (World.ownsRow.alloc (own_fr HOW.out (fr_grown HG1.out fun _=>False) fun _ _=>id) _) _) _ _ [.slice (some ⟨w1.heap.size,0,none⟩) 1 1] rfl rfl 60 (new_blk (by simp)) (by intro u hu;simp at hu;subst hu;rfl) (by omega) (by omega) (by have:=HBW.out;have:=HFR.out.size;have:=HG1.out.size;simp;omega) ?_
           intro g4 c4 w4 hO4 hF4 hg4
           have HO4:Hid (w4.ownsRow base 60 1 (.slice (some ⟨g4,0,none⟩) (k+1) c4) (k+1) ((its.map fun y=>cut y.1)++[.slice (some ⟨w1.heap.size,0,none⟩) 1 1])):=hO4
           have HGA:Hid (∀ o1 o2,Grown wr ((w1.alloc o1).alloc o2)):=fun o1 o2=>(HG1.out.alloc o1).alloc o2
           have HF4:Hid (Fr wr w4 fun j=>ob=j):=(fr_grown (HGA.out _ _) _).trans hF4 fun _ _ e=>by injection e
           have HG4:Hid (ob=g4∨wr.heap.size≤g4):=hg4.elim (fun e => .inl (by injection e)) fun e => .inr (by rw [e];exact (HGA.out _ _).size)
           have HX4:Hid (LX w4 base xb pv rv sv gv1 cv (G++its) S C R re n):=HLX.out.fr HF4.out fun b hb e=>HOB.out.2.2 (by rw [e];exact hb)
           have e4:w4.cell? ⟨xb,2,none⟩=some sv:=by rw [cell_of HX4.out.x];rfl
           have hcc:k+1≤c4:=by
            rcases hO4.2 with ⟨e,_⟩ | ⟨_,_,_,e,_,_,h2,_⟩
            · cases e
            · injection e with _ _ e;omega
           have hccI:(N:Int)≤(c4:Int):=by have:=HKN.out;omega
           have hccN:N≤c4:=by have:=HKN.out;omega
           clear hO4 hF4 hg4 hcc)
        | (refine app_gen rfl _ _ 32 rfl 33 (.slice none 0 0) 1 24 Tryz.underlying32 inf35 rfl (by decide) base _ S.length (S.map Prod.fst) rfl (HX4.out.grown ((Grown.refl _).alloc _)).s w4.heap.size _ [.slice (some ⟨g4,0,none⟩) (k+1) c4] rfl rfl 33 (heap_alloc_new _ _) (by intro u hu;simp at hu;subst hu;rfl) (by omega) (by omega) (by have:=HBW.out;have:=HFR.out.size;have:=HF4.out.size;simp;omega) ?_
           intro g5 c5 w5 hO5 hF5 hg5
           have HO5:Hid (w5.ownsRow base 33 1 (.slice (some ⟨g5,0,none⟩) (S.length+1) c5) (S.length+1) (S.map Prod.fst++[.slice (some ⟨g4,0,none⟩) (k+1) c4])):=hO5
           have HF5:Hid (Fr w4 w5 fun j=>sv.ownBlock=some j):=(fr_grown ((Grown.refl w4).alloc _) _).trans hF5 fun _ _ e=>e
           have HG5:Hid (sv.ownBlock=some g5∨w4.heap.size≤g5):=hg5.elim .inl fun e => .inr (by rw [e];exact ((Grown.refl w4).alloc _).size)
           have HX5:Hid (w5.heap[xb]? = some (.cells #[pv,rv,sv,gv1,cv] 36 (0,0))):=(HF5.out.block xb (blk_lt HX4.out.x) (HX4.out.x_ne HX4.out.s (by decide))).trans HX4.out.x
           have e5:w5.cell? ⟨xb,2,none⟩=some sv:=by rw [cell_of HX5.out];rfl
           have f5:w5.frozen? ⟨xb,2,none⟩=false:=free_of HX5.out
           clear hO5 hF5 hg5))))
    go_ret
    have hk1:k+1=its.length+1:=by rw [HIL.out.1]
    have hO4:=HO4.out
    rw [hk1] at hO4
    have hnb4:¬ Bs xb rv sv gv1 cv (G++its) S C g4:=fun hb=>by
     rcases HG4.out with e | e
     · rw [←e] at hb;exact HOB.out.2.2 hb
     · have:=(HLX.out.lt hb).2;omega
    obtain ⟨hp1,hp2,hp3⟩:=HX4.out.pushS (sv' := .slice (some ⟨g5,0,none⟩) (S.length+1) c5) hO4 ⟨_,_,rfl⟩ (fun y hy=>List.mem_append_right _ hy) (fun b e hb=>by injection e with e;have e:g4=b:=e;subst e;exact hnb4 hb) HF5.out (by rw [←hk1];exact HO5.out) (HG5.out.elim (fun e => .inl e.symm) fun e => .inr ⟨g5,rfl,e⟩)
    refine ⟨.slice (some ⟨g4,0,none⟩) (its.length+1) c4,gv1,.slice (some ⟨g5,0,none⟩) (S.length+1) c5,its,by rw [HIM.out.1];rfl,HIM.out.2,hp1,?_,fun b hb => ?_⟩
    · refine (HFR.out.trans HF4.out fun i hi e => ?_).trans hp2 fun i hi e=>(HGR.out i e).resolve_right (by omega)
      have e:ob=i:=e
      have:=HOB.out.1
      omega
    · rcases hp3 b hb with h | h | h
      · exact HGR.out b h
      · exact .inr (by have:=HFR.out.size;have:=HF4.out.size;omega)
      · injection h with h
        have h:g4=b:=h
        rcases HG4.out with e | e
        · exact .inr (by have:=HOB.out.1;omega)
        · exact .inr (by have:=HFR.out.size;omega)
def idL (k:Nat):List Int:=(List.range k).map fun i:Nat=>(i:Int)
theorem idL_succ (k:Nat):idL (k+1)=idL k++[(k:Int)]:=by simp [idL,List.range_succ]
theorem idL_len (k:Nat):(idL k).length=k:=by simp [idL]
theorem idL_at {k i:Nat} (h:i<k):bAt (idL k) i=(i:Int):=by simp [bAt,idL,h]
def LfQ (w:World) (rs:List Rl) (e:Ending) (w':World):Prop:=∃ lv d,e = .returned lv∧OwnI w' w.heap.size lv d∧d.length=rs.length∧Sg (klI rs) d 0 rs.length∧Below w.heap.size w w'
set_option maxHeartbeats 8000000 in
theorem longest_any (v:Value) (rs:List Rl) (w:World) (h:PsR w v rs) (hn:rs.length≤1000000) (hz:∀ r∈rs,r.key.length≤1000000):Calls Tryz.prog 46 #[v] w (LfQ w rs):=by
 have HP:Hid (∀ V,Below w.heap.size w V→PsR V v rs):=fun V hb=>h.below hb (Nat.le_refl _)
 have HZ:=Hid.mk' hz
 have HLT:Hid (∀ a n c g o,v = .slice a n c→a=some ⟨g,o,none⟩→0<rs.length→g<w.heap.size):=fun a n c g o e1 e2 h0=>by
  subst e1
  obtain ⟨g',o',ka,kc,e3,c1⟩:=psr_key h h0
  rw [e2] at e3
  injection e3 with e3
  injection e3 with e3 _
  subst e3
  exact cell_lt c1
 obtain ⟨ra,rc,hv,hx1,hx2⟩:=h
 subst hv
 clear hx1 hx2 hz
 obtain ⟨n,hN⟩:∃ n,rs.length=n:=⟨_,rfl⟩
 have HN:Hid (rs.length=n):=hN
 rw [hN] at HP hn HLT ⊢
 have nI:(n:Int)≤1000000:=by omega
 clear hN
 go_enter Tryz.func46,Tryz.ntmps46
 go_wp2
 obtain ⟨bx,hbx⟩:∃ bx,w.heap.size=bx:=⟨_,rfl⟩
 have HBX:=Hid.mk' hbx
 obtain ⟨w1,hw1⟩:∃ w1,w1=w.alloc (.cells #[.slice ra n rc] 22):=⟨_,rfl⟩
 have HW1:Hid (Grown w w1∧w1.cell? ⟨bx,0,none⟩=some (.slice ra n rc)∧w1.heap.size=bx+1):=by
  rw [hw1]
  exact ⟨(Grown.refl _).alloc _,by rw [cell_of (new_blk hbx)];rfl,by simp;omega⟩
 rw [←hw1,hbx]
 clear hw1 hbx
 go_loopw [3,7] (fun v3 v7 wr=>∃ k:Nat,v7 = .int .i64 k∧k≤n∧Hid (OwnI wr (bx+1) v3 (idL k)∧Below (bx+1) w1 wr∧(k=0→v3 = .slice none 0 0))) (fun _ v7 _=>n - (intOf v7).toNat)
 case atStart=>exact ⟨0,rfl,by omega,OwnI.nil _ _,Below.refl _ _,fun _=>rfl⟩
 case round=>
  obtain ⟨k,rfl,hk,HO⟩:=hrel
  have k0:(0:Int)≤(k:Int):=by omega
  obtain ⟨hO,hB,hNil⟩:=HO.out
  obtain ⟨x1,x2,x3,hsl⟩:=hO.ir.sl
  subst hsl
  by_cases hlt:k<n
  · have hltI:(k:Int)<(n:Int):=by omega
    have HY:Hid (∀ ob,OwnI (wr.alloc ob) (bx+1) (.slice x1 x2 x3) (idL k)∧bx+1≤(wr.alloc ob).heap.size∧Below (bx+1) w1 (wr.alloc ob)):=fun ob=>by
     have g:=(Grown.refl wr).alloc ob
     have:=HW1.out.2.2
     have:=hB.size
     exact ⟨hO.below g.below (Nat.le_refl _),by simp;omega,hB.trans (g.below.mono (by omega))⟩
    have hkN:(idL k).length+1≤8796093022208:=by rw [idL_len];omega
    clear hO hB HO hNil
    go_wp2_with (at_builtin;go_must (refine push_I rfl _ _ 38 rfl Tryz.underlying38 (bx+1) _ (idL k) rfl (HY.out _).1 _ _ k rfl (by (first | (simp;done) | exact new_cell _ _ _ _ rfl)) hkN (HY.out _).2.1 ?_;intro v3 w3 hO3 hB3;have HZ3:Hid (OwnI w3 (bx+1) v3 (idL (k+1))∧Below (bx+1) w1 w3∧(k+1=0→v3 = .slice none 0 0)):=⟨by rw [idL_succ];exact hO3,(HY.out _).2.2.trans hB3,fun h=>by omega⟩;clear hO3 hB3))
    exact ⟨⟨k+1,by go_num,by omega,HZ3⟩,by simp [intOf];omega⟩
  · have hge:¬ (k:Int)<(n:Int):=by omega
    have hkn:k=n:=by omega
    subst hkn
    have HBW:Hid (Below w.heap.size w wr):=HW1.out.1.below.trans (hB.mono (by rw [HBX.out];omega))
    by_cases hn0:k=0
    · subst hn0
      have e:=hNil rfl
      injection e with e1 e2 e3
      subst e1 e2 e3
      have HC:=Hid.mk' (sort_nil wr (.func (.func 71) #[] #[.pointer (some ⟨bx,0,none⟩)]) 0)
      have HOO:=Hid.mk' (hO.le (show w.heap.size≤bx+1 by rw [HBX.out];omega))
      clear HO hO hB hNil
      go_wp2_with (go_at_call 70;refine HC.out.mono ?_;rintro e w4 ⟨rfl,rfl⟩)
      go_ret
      exact ⟨_,_,rfl,HOO.out,by rw [HN.out];rfl,⟨fun i j _ _ h=>by rw [HN.out] at h;omega,fun i _ h=>by rw [HN.out] at h;omega⟩,HBW.out⟩
    · obtain ⟨g,cap,hv,hg1,hg2⟩:=World.ownsRow.form hO (by rw [idL_len];omega)
      rw [idL_len] at hv
      injection hv with e1 e2 e3
      subst e1 e2 e3
      have hgb:bx+1≤g:=(World.ownsRow.lt hO g rfl).1
      have hbx:=HBX.out
      have hsq:Sq wr wr g x3 x2 (idL x2):=⟨idL_len _,by have:=Joins.ownsRow_le hO (Nat.zero_le _);rw [idL_len] at this;exact this,Fr.refl _ _,fun i hi=>by rw [idL_at hi];omega⟩
      have hcm:CmpC wr g x2 (klI rs) bx:=cmp_any (HP.out wr HBW.out) HN.out (cell_below HW1.out.2.1 hB (by have:=HW1.out.2.2;omega)) (by omega) (fun g' o' e=>by have:=HLT.out _ _ _ g' o' rfl e (by omega);omega) HZ.out hn
      have HC:=Hid.mk' (sort_some hsq hcm (kl_in HZ.out) hn fun i hi=>idL_at hi)
      clear HO hO hB hNil hsq hcm hg1 hg2
      go_wp2_with (go_at_call 70;refine HC.out.mono ?_;rintro e w4 ⟨rfl,d4,hs4,hg4⟩;have H4:Hid (Sq wr w4 g x3 x2 d4∧Sg (klI rs) d4 0 x2):=⟨hs4,hg4⟩;clear hs4 hg4)
      go_ret
      have hl4:=H4.out.1.l
      refine ⟨_,d4,rfl,?_,by rw [HN.out];exact hl4,by rw [HN.out];exact H4.out.2,HBW.out.trans (H4.out.1.f.below (fun b e=>by have e:b=g:=e;omega) HBW.out.size)⟩
      have ho:=H4.out.1.o
      unfold OwnI
      rw [hl4]
      refine ⟨ho.1,?_⟩
      rcases ho.2 with h | ⟨g',c',cur,e,_,h2,h3⟩
      · exact .inl h
      · injection e with e1 e2 e3
        injection e1 with e1
        injection e1 with e1 _
        subst e1 e3
        exact .inr ⟨g,x3,cur,rfl,by omega,h2,h3⟩
theorem run_appI (w:World) (ty:TypeId) (base:Nat) (v:Value) (l b:List Int) (xv:Value) (hown:OwnI w base v l) (hr:IR w xv b) (hl:l.length+b.length≤8796093022208) (hbase:base≤w.heap.size) :
 ∃ v' w',(Builtin.append_ #[38,38] ty #[v,xv]).run Tryz.prog w = .ok v' w'∧OwnI w' base v' (l++b)∧w.grownBy w' v.ownBlock∧(v'.ownBlock=v.ownBlock∨v'.ownBlock=some w.heap.size):=by
 obtain ⟨i0,hi0,hz0,hz1,hz2⟩:=info_parts iinfo3
 obtain ⟨A,c,rfl,hc,hr⟩:=hr
 by_cases he:b=[]
 · subst he
   obtain ⟨va,vn,vc,hv⟩:=hown.ir.sl
   have hvn:vn=l.length∧vn≤vc:=by
    obtain ⟨a',c',e,h1,_⟩:=hown.ir
    rw [hv] at e
    injection e with _ e2 e3
    omega
   subst hv
   have hr:=run_append_nothing (P:=Tryz.prog) w 38 38 ty 3 i0 Tryz.underlying38 hi0 va vn vc hvn.2 (.slice A 0 c) ⟨.inl ⟨3,Tryz.underlying38⟩,fun w'=>by cases A <;> simp [Builtin.lenOf,go_sem],by cases A <;> simp [Builtin.firstCells,go_sem],by cases A <;> simp [Builtin.firstCells,go_sem],by simp,by simp⟩
   exact ⟨_,w,hr,by simpa using hown,⟨rfl,rfl,rfl,Nat.le_refl _,fun _ _ _=>rfl⟩,.inl rfl⟩
 · obtain ⟨g1,o',rfl,hd⟩:=hr.resolve_left he
   obtain ⟨v',w',h1,h2,h3,h4,h5⟩:=run_append_own_at (P:=Tryz.prog) w base 38 ty 3 i0 (.int .i64 0) 1 8 Tryz.underlying38 hi0 hz0 hz1 hz2 rfl (by decide) v l.length (ints l) hown ⟨g1,o',none⟩ b.length c (ints b) (by rw [ints_length,Nat.mul_one]) (fun j u hj=>by
    have hadd:(⟨g1,o',none⟩:Addr).add j=⟨g1,o'+j,none⟩:=by unfold Addr.add;split <;> simp_all
    rw [hadd]
    simp only [ints,List.getElem?_map,Option.map_eq_some_iff] at hj
    obtain ⟨y,hy,rfl⟩:=hj
    obtain ⟨hj1,hj2⟩:=List.getElem?_eq_some_iff.1 hy
    rw [hd j hj1,hj2]) (ints_one _) (by unfold maxLen;omega) (by omega) hbase
   exact ⟨v',w',h1,by unfold OwnI;rw [ints_append,List.length_append];exact h2,h3,h5⟩
theorem app_I2 {ops:Array Oper} {rest:List Oper} {o:Oper} {a:Act} {Q:Exit→Act→World→Prop} {w:World} (hgd:o.guard=none) (s x:Operand)
 (ho:o.op = .call { callee := .builtin .append,args:=#[s,x],argTypes:=#[38,38] })
 (base:Nat) (v xv:Value) (l b:List Int) (hs:a.eval s=v) (hown:OwnI w base v l) (hx:a.eval x=xv) (hr:IR w xv b) (hl:l.length+b.length≤8796093022208) (hbase:base≤w.heap.size)
 (h:∀ v' w',OwnI w' base v' (l++b)→w.grownBy w' v.ownBlock→wpList Tryz.prog ops Q rest (a.put o.dst v') w'):wpList Tryz.prog ops Q (o::rest) a w:=by
 refine wpList_plain hgd fun K hK => ?_
 obtain ⟨v',w',hr2,h1,h2,_⟩:=run_appI w o.type base v l b xv hown hr hl hbase
 unfold Oper.wp execOp
 simp only [ho,resolve,invoke,builtin,Sem.run_bind,Sem.run_pure,Result.andThen_ok,List.map_toArray,List.map_cons,List.map_nil,hs,hx,hr2]
 exact hK _ _ (h v' w' h1 h2)
theorem app_I3 {ops:Array Oper} {rest:List Oper} {o:Oper} {a:Act} {Q:Exit→Act→World→Prop} {w:World} (hgd:o.guard=none) (s x:Operand)
 (ho:o.op = .call { callee := .builtin .append,args:=#[s,x],argTypes:=#[38,38] })
 (base:Nat) (v xv:Value) (l b:List Int) (hs:a.eval s=v) (hown:OwnI w base v l) (hx:a.eval x=xv) (hr:IR w xv b) (hl:l.length+b.length≤8796093022208) (hbase:base≤w.heap.size)
 (h:∀ v' w',OwnI w' base v' (l++b)→w.grownBy w' v.ownBlock→(v'.ownBlock=v.ownBlock∨v'.ownBlock=some w.heap.size)→wpList Tryz.prog ops Q rest (a.put o.dst v') w'):wpList Tryz.prog ops Q (o::rest) a w:=by
 refine wpList_plain hgd fun K hK => ?_
 obtain ⟨v',w',hr2,h1,h2,h3⟩:=run_appI w o.type base v l b xv hown hr hl hbase
 unfold Oper.wp execOp
 simp only [ho,resolve,invoke,builtin,Sem.run_bind,Sem.run_pure,Result.andThen_ok,List.map_toArray,List.map_cons,List.map_nil,hs,hx,hr2]
 exact hK _ _ (h v' w' h1 h2 h3)
set_option maxHeartbeats 4000000 in
theorem grow_any (n:Nat) (hn0:0<n) (hn:n≤1000000000) (w:World):Calls Tryz.prog 121 #[.slice none 0 0,.int .i64 n] w fun e w'=>∃ cap,e = .returned (.slice (some ⟨w.heap.size,0,none⟩) 0 cap)∧OwnI w' w.heap.size (.slice (some ⟨w.heap.size,0,none⟩) 0 cap) []∧Grown w w':=by
 obtain ⟨i0,hi0,hz0,hz1,hz2⟩:=info_parts iinfo3
 have hr:=fun W ty=>Go.Lib.run_append_nil_zeros (P:=Tryz.prog) W 38 3 ty 3 i0 (.int .i64 0) .i64 .i64 Tryz.underlying38 Tryz.underlying3 hi0 hz0 n hn0 (by rw [hz1];decide) (by omega) (by rw [hz2];omega)
 have HR:=Hid.mk' hr
 have nI:(n:Int)≤1000000000:=by omega
 have n0:(0:Int)<(n:Int):=by omega
 clear hr
 go_enter Tryz.func121,Tryz.ntmps121
 go_wp2_with (at_builtin;go_must (refine Go.Lib.wpList_append_run _ rfl _ _ 38 3 rfl _ _ rfl rfl _ _ (HR.out _ _) ?_))
 go_ret
 refine ⟨grownCap w n 0 3,rfl,⟨rfl,.inr ⟨w.heap.size,grownCap w n 0 3,_,rfl,Nat.le_refl _,heap_alloc_new w _,Nat.zero_le _,grownCap_le_maxLen w n 0 3 (by unfold maxLen;omega),?_,by simp [ints]⟩⟩,((Grown.refl _).alloc _).drew⟩
 have:=grownCap_ge w n 0 3
 simp only [Array.size_append,size_zeroCells]
 show n*1+(grownCap w n 0 3 - n)*1=_
 omega
set_option maxHeartbeats 8000000 in
theorem concat_any (b:Nat) (v1 v2:Value) (l1 l2:List Int) (w:World) (c1:w.cell? ⟨b,0,none⟩=some v1) (c2:w.cell? ⟨b,1,none⟩=some v2) (h1:IR w v1 l1) (h2:IR w v2 l2) (h0:0<l1.length+l2.length) (hn:l1.length+l2.length≤1000000000) :
 Calls Tryz.prog 102 #[.slice (some ⟨b,0,none⟩) 2 2] w fun e w'=>∃ v',e = .returned v'∧OwnI w' w.heap.size v' (l1++l2)∧Below w.heap.size w w':=by
 have H1:Hid (∀ V,Below w.heap.size w V→IR V v1 l1):=fun V hb=>h1.below hb (Nat.le_refl _)
 have H2:Hid (∀ V,Below w.heap.size w V→IR V v2 l2):=fun V hb=>h2.below hb (Nat.le_refl _)
 have HC1:Hid (∀ V,Below w.heap.size w V→V.cell? ⟨b,0,none⟩=some v1∧V.cell? ⟨b,1,none⟩=some v2):=fun V hb=>⟨cell_below c1 hb (Nat.le_refl _),cell_below c2 hb (Nat.le_refl _)⟩
 have HG:=Hid.mk' (fun W=>grow_any (l1.length+l2.length) h0 hn W)
 obtain ⟨x1,x3,e1,_,_⟩:=h1
 obtain ⟨y1,y3,e2,_,_⟩:=h2
 obtain ⟨n1,hn1⟩:∃ n1,l1.length=n1:=⟨_,rfl⟩
 obtain ⟨n2,hn2⟩:∃ n2,l2.length=n2:=⟨_,rfl⟩
 have HN1:=Hid.mk' hn1
 have HN2:=Hid.mk' hn2
 rw [hn1] at e1 hn HG
 rw [hn2] at e2 hn HG
 subst e1 e2
 have n1I:(n1:Int)≤1000000000:=by omega
 have n2I:(n2:Int)≤1000000000:=by omega
 have n10:(0:Int)≤(n1:Int):=by omega
 have n20:(0:Int)≤(n2:Int):=by omega
 have ns:(n1:Int)+(n2:Int)≤1000000000:=by omega
 have ncast:((n1+n2:Nat):Int)=(n1:Int)+(n2:Int):=by omega
 rw [ncast] at HG
 clear hn1 hn2 h0 ncast
 go_enter Tryz.func102,Tryz.ntmps102
 go_wp2
 refine wp_loop_rounds 3 ?_
 rw [rounds_succ]
 go_wp2
 rw [rounds_succ]
 go_wp2
 rw [rounds_succ]
 go_wp2_with (go_at_call 121;refine (HG.out _).mono ?_;rintro e w1 ⟨cap,rfl,hO1,hG1⟩;have HO1:=Hid.mk' hO1;have HG1:=Hid.mk' hG1;clear hO1 hG1)
 have hB1:Below w.heap.size w w1:=HG1.out.below
 obtain ⟨d1,d2⟩:=HC1.out w1 hB1
 have HB1:=Hid.mk' hB1
 clear c1 c2 hB1
 refine wp_loop_rounds 3 ?_
 rw [rounds_succ]
 go_wp2_with (at_builtin;go_must (refine app_I2 rfl _ _ rfl w.heap.size _ _ [] l1 rfl HO1.out rfl (H1.out w1 HB1.out) (by rw [HN1.out];simp;omega) HB1.out.size ?_;intro v2 w2 hO2 hg2;have HO2:Hid (OwnI w2 w.heap.size v2 l1):=hO2;have HB2:Hid (Below w.heap.size w w2):=HB1.out.grown hg2 HB1.out.size (fun k hk=>(World.ownsRow.lt HO1.out k hk).1);obtain ⟨p1,p2,p3,hv2⟩:=hO2.ir.sl;subst hv2;clear hO2 hg2))
 obtain ⟨f1,f2⟩:=HC1.out w2 HB2.out
 rw [rounds_succ]
 go_wp2_with (at_builtin;go_must (refine app_I2 rfl _ _ rfl w.heap.size _ _ l1 l2 rfl HO2.out rfl (H2.out w2 HB2.out) (by rw [HN1.out,HN2.out];omega) HB2.out.size ?_;intro v3 w3 hO3 hg3;have HO3:Hid (OwnI w3 w.heap.size v3 (l1++l2)):=hO3;have HB3:Hid (Below w.heap.size w w3):=HB2.out.grown hg3 HB2.out.size (fun k hk=>(World.ownsRow.lt HO2.out k hk).1);obtain ⟨q1,q2,q3,hv3⟩:=hO3.ir.sl;subst hv3;clear hO3 hg3))
 rw [rounds_succ]
 go_wp2
 go_ret
 exact ⟨_,rfl,HO3.out,HB3.out⟩
end Go.Proofs
