/-
  Several texts in one (Sg Sh Si Oc Od Sj Ra2).
-/
import Derived.RangeFuncNested
import Derived.RangeFuncBound
import Derived.RangeFuncCalls
import Derived.RangeFuncLeaves
import Derived.Shelf.Abstract
import Derived.Shelf.RegionOpen
import Derived.WalkKit
import Derived.WalkSpells
import Derived.WalkLawsBesides
import Derived.OwnWalkIn
import Derived.TacticsInMore
import Derived.LoopNIn
import Derived.LoopIn
import Derived.BigQuiet
import Derived.RegionIn
import Derived.Deep.QuietTactic
import Derived.Deep.RegionWith
import Derived.Lib.OthersKept
import Derived.Maps.AppendAt
import Derived.Lib.SmallJoins
import Derived.Shelf.SlSortCmp.QuietGrown
import Derived.Test.YtibgnkpagfpinaaGreatDoorMggp
import Derived.Test.YtibgnkpagfpinaaGreatDoorMgap
import Derived.Deep.AppendLies
import Derived.Deep.Upon
import Derived.Test.YtibgnkpagfpinaaGreatDoorMgfp
import Derived.Lib.AppendZeros
namespace Go.Proofs
open Go.RowKit Go.Shelf
set_option maxRecDepth 100000
attribute [local go_sem] Oper.semAt_some
attribute [local go_sem ↓] Go.wp_at_zero Go.wp_at_succ
structure Sg (key:Int→Int) (d:List Int) (a b:Nat):Prop where
 s:SS key d a b
 r:∀ i,a≤i→i<b→(a:Int)≤bAt d i∧bAt d i<(b:Int)
theorem Sg.same {key:Int→Int} {d e:List Int} {a b:Nat} (h:Sg key d a b) (he:∀ k,a≤k→k<b→bAt e k=bAt d k):Sg key e a b:=⟨h.s.same he,fun i h1 h2=>by rw [he i h1 h2];exact h.r i h1 h2⟩
theorem Sg.mix {key:Int→Int} {d e:List Int} {a b:Nat} (hm:Mix d e a b) (hs:SS key e a b) (hr:∀ i,a≤i→i<b→(a:Int)≤bAt d i∧bAt d i<(b:Int)):Sg key e a b:=⟨hs,fun i h1 h2=>by
 obtain ⟨j,k1,k2,k3⟩:=(hm.s (bAt e i)).1 ⟨i,h1,h2,rfl⟩
 rw [←k3];exact hr j k1 k2⟩
theorem Sg.join {key:Int→Int} {d:List Int} {a m b:Nat} (h1:Sg key d a m) (h2:Sg key d m b):Hx d a m b:=fun i j k1 k2 k3 k4=>by
 have:=h1.r i k1 k2
 have:=h2.r j k3 k4
 omega
theorem Sg.both {key:Int→Int} {d e:List Int} {a m b:Nat} (h1:Sg key d a m) (h2:Sg key d m b) (ham:a≤m) (hmb:m≤b) (hm:Mix d e a b) (hs:SS key e a b):Sg key e a b:=Sg.mix hm hs fun i k1 k2=>by
 by_cases hi:i<m
 · have:=h1.r i k1 hi;omega
 · have:=h2.r i (by omega) k2;omega
def Bl (key:Int→Int) (d:List Int) (bs lo n:Nat):Prop:=∀ k,lo≤k*bs→k*bs<n→Sg key d (k*bs) (min (k*bs+bs) n)
theorem Bl.keep {key:Int→Int} {d e:List Int} {bs lo n lo':Nat} (h:Bl key d bs lo n) (hl:lo≤lo') (he:∀ k,lo'≤k→bAt e k=bAt d k):Bl key e bs lo' n:=fun k h1 h2=>(h k (by omega) h2).same fun t k1 _=>he t (by omega)
def Br (key:Int→Int) (d:List Int) (bs hi:Nat):Prop:=∀ k,k*bs+bs≤hi→Sg key d (k*bs) (k*bs+bs)
theorem Br.keep {key:Int→Int} {d e:List Int} {bs hi:Nat} (h:Br key d bs hi) (he:∀ k,k<hi→bAt e k=bAt d k):Br key e bs hi:=fun k h1=>(h k h1).same fun t _ k2=>he t (by omega)
theorem Br.step {key:Int→Int} {d:List Int} {bs t:Nat} (h:Br key d bs (t*bs)) (hg:Sg key d (t*bs) (t*bs+bs)) (hb:0<bs):Br key d bs ((t+1)*bs):=fun k h1=>by
 by_cases hk:k=t
 · subst hk;exact hg
 · refine h k ?_
   have hkt:k<t+1:=by
    by_cases hx:k<t+1
    · exact hx
    · exfalso
      have:(t+1)*bs≤k*bs:=Nat.mul_le_mul_right bs (by omega)
      omega
   have:(k+1)*bs≤t*bs:=Nat.mul_le_mul_right bs (by omega)
   rw [Nat.succ_mul] at this
   omega
set_option maxHeartbeats 16000000 in
theorem stable_any {w0 w:World} {blk cap n:Nat} {d:List Int} {key:Int→Int} {bx:Nat} (h:Sq w0 w blk cap n d) (hc:CmpC w0 blk n key bx) (hkey:∀ x,0≤key x∧key x≤1000000) (hn:n≤1000000) (hid:∀ i,i<n→bAt d i=(i:Int)) :
 Calls Tryz.prog 123 #[.slice (some ⟨blk,0,none⟩) n cap,.int .i64 n,.func (.func 96) #[] #[.pointer (some ⟨bx,0,none⟩)]] w fun e w'=>e = .returned (.tuple #[])∧∃ d',Sq w0 w' blk cap n d'∧Sg key d' 0 n:=by
 have HS:Hid (Sq w0 w blk cap n d):=h
 have HID:=Hid.mk' hid
 have hnI:(n:Int)≤1000000:=by omega
 have n0:(0:Int)≤(n:Int):=by omega
 have HIN:=Hid.mk' (fun (W:World) (e:List Int) (a b:Nat) (hq:Sq w0 W blk cap n e) (h1:a≤b) (h2:b≤n) (h3:∀ i j,a≤i→i<j→j<b→bAt e i<bAt e j)=>insertion_any hq hc hkey a b h1 h2 hn h3)
 have HSY:=Hid.mk' (fun (W:World) (e:List Int) (a m b:Nat) (hq:Sq w0 W blk cap n e) (h1:a<m) (h2:m<b) (h3:b≤n) (h4:Sg key e a m) (h5:Sg key e m b)=>sym_any hc hkey hn (b - a) a m b e W (Nat.le_refl _) h1 h2 h3 hq h4.s h5.s (h4.join h5))
 clear h hc hkey hid
 go_enter Tryz.func123,Tryz.ntmps123
 go_wp2
 go_loopw [7,8] (fun v7 v8 wr=>∃ t:Nat,v7 = .int .i64 ((t*20:Nat):Int)∧v8 = .int .i64 ((t*20+20:Nat):Int)∧t*20≤n∧Hid (∃ e,Sq w0 wr blk cap n e∧Br key e 20 (t*20)∧∀ k,t*20≤k→k<n→bAt e k=(k:Int))) (fun v7 _ _=>n+20 - (intOf v7).toNat)
 case atStart=>exact ⟨0,rfl,rfl,by omega,d,HS.out,fun k h1=>by omega,fun k _ h2=>HID.out k h2⟩
 case round=>
  obtain ⟨t,rfl,rfl,htn,HE⟩:=hrel
  obtain ⟨A,hA⟩:∃ A,t*20=A:=⟨_,rfl⟩
  have HA:=Hid.mk' hA
  rw [hA] at HE htn ⊢
  clear hA
  have A0:(0:Int)≤(A:Int):=by omega
  obtain ⟨e,hsq,hbr,hrest⟩:=HE.out
  by_cases hle:A+20≤n
  · have hleI:((A+20:Nat):Int)≤(n:Int):=by omega
    have HC:=Hid.mk' (HIN.out wr e A (A+20) hsq (by omega) hle fun i j h1 h2 h3=>by rw [hrest i h1 (by omega),hrest j (by omega) (by omega)];omega)
    have HBR:=Hid.mk' hbr
    have HRE:=Hid.mk' hrest
    clear hsq hbr hrest HE
    go_wp2_with (go_at_call 145;refine HC.out.mono ?_;rintro e' w1 ⟨rfl,f,hs1,hm1,hss1⟩;have H1:Hid (Sq w0 w1 blk cap n f∧Mix e f A (A+20)∧SS key f A (A+20)):=⟨hs1,hm1,hss1⟩;clear hs1 hm1 hss1)
    refine ⟨⟨t+1,?_,?_,?_,f,H1.out.1,?_,?_⟩,?_⟩
    · have:=HA.out;congr 1;omega
    · have:=HA.out;congr 1;omega
    · have:=HA.out;omega
    · have hg:Sg key f A (A+20):=Sg.mix H1.out.2.1 H1.out.2.2 fun i h1 h2=>by rw [HRE.out i h1 (by omega)];omega
      have:=Br.step (t:=t) (bs:=20) (key:=key) (d:=f) (by rw [HA.out];exact HBR.out.keep fun k hk=>H1.out.2.1.o k (by omega)) (by rw [HA.out];exact hg) (by omega)
      exact this
    · intro k h1 h2
      have:=HA.out
      rw [H1.out.2.1.o k (by omega)]
      exact HRE.out k (by omega) h2
    · have:=HA.out;simp [intOf];omega
  · have hleI:¬ ((A+20:Nat):Int)≤(n:Int):=by omega
    have HC:=Hid.mk' (HIN.out wr e A n hsq htn (Nat.le_refl _) fun i j h1 h2 h3=>by rw [hrest i h1 (by omega),hrest j (by omega) (by omega)];omega)
    have HBR:=Hid.mk' hbr
    have HRE:=Hid.mk' hrest
    clear hsq hbr hrest HE
    go_wp2_with (go_at_call 145;refine HC.out.mono ?_;rintro e' w1 ⟨rfl,f,hs1,hm1,hss1⟩;have H1:Hid (Sq w0 w1 blk cap n f∧Bl key f 20 0 n):=⟨hs1,fun k _ hk=>by
     have ha:=HA.out
     by_cases hkt:k*20+20≤A
     · rw [show min (k*20+20) n=k*20+20 by omega]
       exact (HBR.out.keep fun k hk=>hm1.o k (by omega)) k hkt
     · rw [show k*20=A by omega,show min (A+20) n=n by omega]
       exact Sg.mix hm1 hss1 fun i h1 h2=>by rw [HRE.out i h1 h2];omega⟩;clear hs1 hm1 hss1)
    go_loopw [6] (fun v6 wr=>∃ bs:Nat,v6 = .int .i64 bs∧20≤bs∧bs≤4000000∧Hid (∃ e,Sq w0 wr blk cap n e∧Bl key e bs 0 n)) (fun v6 _=>n - (intOf v6).toNat)
    case atStart=>exact ⟨20,rfl,by omega,by omega,f,H1.out⟩
    case round=>
     clear H1 HBR HRE HC
     obtain ⟨bs,rfl,hb1,hb2,HE⟩:=hrel
     have bs0:(0:Int)≤(bs:Int):=by omega
     have bsI:(bs:Int)≤4000000:=by omega
     by_cases hbn:bs<n
     · have hbnI:(bs:Int)<(n:Int):=by omega
       go_wp2
       go_loopw [7,8] (fun v7 v8 wr=>∃ t A:Nat,v7 = .int .i64 A∧v8 = .int .i64 ((A+2*bs:Nat):Int)∧A=t*(2*bs)∧A≤n∧Hid (∃ e,Sq w0 wr blk cap n e∧Br key e (2*bs) A∧Bl key e bs A n)) (fun v7 _ _=>n+1 - (intOf v7).toNat)
       case atStart=>
        obtain ⟨e,h1,h2⟩:=HE.out
        exact ⟨0,0,rfl,by go_num,by omega,by omega,e,h1,fun k hk=>by omega,h2⟩
       case round=>
        obtain ⟨t,B,rfl,rfl,hB,hBn,HF⟩:=hrel
        have hB1:B=2*t*bs:=by rw [hB,←Nat.mul_assoc,Nat.mul_comm t 2]
        have hB2:B+bs=(2*t+1)*bs:=by rw [Nat.succ_mul,hB1]
        have hB3:B+2*bs=(t+1)*(2*bs):=by rw [Nat.add_mul t 1 (2*bs),Nat.one_mul,hB]
        have HB:=Hid.mk' (show B=t*(2*bs)∧B=2*t*bs∧B+bs=(2*t+1)*bs∧B+2*bs=(t+1)*(2*bs) from ⟨hB,hB1,hB2,hB3⟩)
        clear hB hB1 hB2 hB3
        have B0:(0:Int)≤(B:Int):=by omega
        have BI:(B:Int)≤1000000:=by omega
        obtain ⟨e,hsq,hbr,hbl⟩:=HF.out
        have HBR:=Hid.mk' hbr
        have HBL:=Hid.mk' hbl
        have HSQ:=Hid.mk' hsq
        have HG1:Hid (B<n→Sg key e B (min (B+bs) n)):=fun hb=>by
         have:=hbl (2*t) (by rw [←HB.out.2.1];exact Nat.le_refl _) (by rw [←HB.out.2.1];exact hb)
         rw [←HB.out.2.1] at this
         exact this
        have HG2:Hid (B+bs<n→Sg key e (B+bs) (min (B+2*bs) n)):=fun hb=>by
         have:=hbl (2*t+1) (by rw [←HB.out.2.2.1];omega) (by rw [←HB.out.2.2.1];exact hb)
         rw [←HB.out.2.2.1,show B+bs+bs=B+2*bs by omega] at this
         exact this
        clear hsq hbr hbl HF
        by_cases hle2:B+2*bs≤n
        · have hle2I:((B+2*bs:Nat):Int)≤(n:Int):=by omega
          have HC:Hid (Calls Tryz.prog 146 #[.slice (some ⟨blk,0,none⟩) n cap,.int .i64 B,.int .i64 ((B:Int)+(bs:Int)),.int .i64 ((B+2*bs:Nat):Int),.func (.func 96) #[] #[.pointer (some ⟨bx,0,none⟩)]] wr fun e' w'=>e' = .returned (.tuple #[])∧∃ d',Sq w0 w' blk cap n d'∧Mix e d' B (B+2*bs)∧SS key d' B (B+2*bs)):=by
           have g1:=HG1.out (by omega)
           have g2:=HG2.out (by omega)
           rw [show min (B+bs) n=B+bs by omega] at g1
           rw [show min (B+2*bs) n=B+2*bs by omega] at g2
           rw [show (B:Int)+(bs:Int)=((B+bs:Nat):Int) by omega]
           exact HSY.out wr e B (B+bs) (B+2*bs) HSQ.out (by omega) (by omega) hle2 g1 g2
          go_wp2_with (go_at_call 146;refine HC.out.mono ?_;rintro e' w2 ⟨rfl,f,hs2,hm2,hss2⟩;have H2:Hid (Sq w0 w2 blk cap n f∧Mix e f B (B+2*bs)∧SS key f B (B+2*bs)):=⟨hs2,hm2,hss2⟩;clear hs2 hm2 hss2)
          refine ⟨⟨t+1,B+2*bs,?_,?_,HB.out.2.2.2,hle2,f,H2.out.1,?_,?_⟩,?_⟩
          · congr 1
          · (congr 1) <;> omega
          · have g1:=HG1.out (by omega)
            have g2:=HG2.out (by omega)
            rw [show min (B+bs) n=B+bs by omega] at g1
            rw [show min (B+2*bs) n=B+2*bs by omega] at g2
            have hg:=g1.both g2 (by omega) (by omega) H2.out.2.1 H2.out.2.2
            rw [HB.out.2.2.2]
            refine Br.step (by rw [←HB.out.1];exact HBR.out.keep fun k hk=>H2.out.2.1.o k (by omega)) (by rw [←HB.out.1];exact hg) (by omega)
          · exact HBL.out.keep (by omega) fun k hk=>H2.out.2.1.o k (by omega)
          · simp [intOf];omega
        · have hle2I:¬ ((B+2*bs:Nat):Int)≤(n:Int):=by omega
          have HFI:Hid (∀ W f,Sq w0 W blk cap n f→Mix e f B n→(B<n→Sg key f B n)→∃ e,Sq w0 W blk cap n e∧Bl key e (2*bs) 0 n):=fun W f hs hm hg=>⟨f,hs,fun k _ hk=>by
           have hb4:=HB.out.2.2.2
           have hb1:=HB.out.1
           by_cases hkt:k<t
           · have:(k+1)*(2*bs)≤t*(2*bs):=Nat.mul_le_mul_right _ (by omega)
             rw [Nat.succ_mul] at this
             rw [show min (k*(2*bs)+2*bs) n=k*(2*bs)+2*bs by omega]
             exact (HBR.out.keep fun k hk=>hm.o k (by omega)) k (by omega)
           · by_cases hk2:k=t
             · subst hk2
               rw [←hb1] at hk ⊢
               rw [show min (B+2*bs) n=n by omega]
               exact hg hk
             · exfalso
               have:(t+1)*(2*bs)≤k*(2*bs):=Nat.mul_le_mul_right _ (by omega)
               omega⟩
          by_cases hmn:B+bs<n
          · have hmnI:(B:Int)+(bs:Int)<(n:Int):=by omega
            have HC:Hid (Calls Tryz.prog 146 #[.slice (some ⟨blk,0,none⟩) n cap,.int .i64 B,.int .i64 ((B:Int)+(bs:Int)),.int .i64 n,.func (.func 96) #[] #[.pointer (some ⟨bx,0,none⟩)]] wr fun e' w'=>e' = .returned (.tuple #[])∧∃ d',Sq w0 w' blk cap n d'∧Mix e d' B n∧Sg key d' B n):=by
             have g1:=HG1.out (by omega)
             have g2:=HG2.out hmn
             rw [show min (B+bs) n=B+bs by omega] at g1
             rw [show min (B+2*bs) n=n by omega] at g2
             rw [show (B:Int)+(bs:Int)=((B+bs:Nat):Int) by omega]
             refine (HSY.out wr e B (B+bs) n HSQ.out (by omega) hmn (Nat.le_refl _) g1 g2).mono ?_
             rintro e' w' ⟨h1,f,h2,h3,h4⟩
             exact ⟨h1,f,h2,h3,g1.both g2 (by omega) (by omega) h3 h4⟩
            go_wp2_with (go_at_call 146;refine HC.out.mono ?_;rintro e' w2 ⟨rfl,f,hs2,hm2,hg2⟩;have H2:=Hid.mk' (HFI.out w2 f hs2 hm2 fun _=>hg2);clear hs2 hm2 hg2)
            exact ⟨⟨2*bs,by rw [show ((2*bs:Nat):Int)=(bs:Int)*2 by omega],by omega,by omega,H2.out⟩,by simp [intOf];omega⟩
          · have hmnI:¬ (B:Int)+(bs:Int)<(n:Int):=by omega
            have H2:=Hid.mk' (HFI.out wr e HSQ.out (Mix.refl _ _ _) fun hb=>by have:=HG1.out hb;rw [show min (B+bs) n=n by omega] at this;exact this)
            go_wp2
            exact ⟨⟨2*bs,by rw [show ((2*bs:Nat):Int)=(bs:Int)*2 by omega],by omega,by omega,H2.out⟩,by simp [intOf];omega⟩
     · have hbnI:¬ (bs:Int)<(n:Int):=by omega
       have HFI:Hid (∃ d',Sq w0 wr blk cap n d'∧Sg key d' 0 n):=by
        obtain ⟨e,h1,h2⟩:=HE.out
        by_cases hz:n=0
        · subst hz
          exact ⟨e,h1,fun i j _ _ h=>by omega,fun i _ h=>by omega⟩
        · have:=h2 0 (by omega) (by omega)
          rw [Nat.zero_mul,Nat.zero_add,show min bs n=n by omega] at this
          exact ⟨e,h1,this⟩
       go_wp2
       go_end0
       exact ⟨rfl,HFI.out⟩
def klI (rs:List Rl) (x:Int):Int:=((rs[x.toNat]?.map fun r=>r.key.length).getD 0:Nat)
theorem kl_at {rs:List Rl} {j:Nat} (h:j<rs.length):klI rs (j:Int)=(rs[j].key.length:Int):=by simp [klI,h]
theorem kl_in {rs:List Rl} (h:∀ r∈rs,r.key.length≤1000000) (x:Int):0≤klI rs x∧klI rs x≤1000000:=by
 unfold klI
 cases hx:rs[x.toNat]? with
 | none=>simp
 | some r=>
  have:=h r (List.mem_of_getElem? hx)
  simp
  omega
theorem psr_key {w:World} {a:Option Addr} {n c:Nat} {rs:List Rl} (h:PsR w (.slice a n c) rs) {j:Nat} (hj:j<rs.length):∃ g o ka kc,a=some ⟨g,o,none⟩∧w.cell? ⟨g,o+j*7+2,none⟩=some (.slice ka rs[j].key.length kc):=by
 obtain ⟨a',c',e,_,h⟩:=h
 injection e with e1 _ _
 subst e1
 obtain ⟨g,o,e,h⟩:=h.resolve_left fun e=>by rw [e] at hj;simp at hj
 obtain ⟨av,kv,pv,rv,_,_,q2,_,_,_,_,hR⟩:=h j hj
 obtain ⟨ka,kc,hk,_⟩:=hR.k
 rw [hk] at q2
 exact ⟨g,o,ka,kc,e,q2⟩
set_option maxHeartbeats 4000000 in
theorem cmp_any {w0:World} {blk n bx:Nat} {ra:Option Addr} {rc:Nat} {rs:List Rl} (hP:PsR w0 (.slice ra n rc) rs) (hN:rs.length=n) (hb:w0.cell? ⟨bx,0,none⟩=some (.slice ra n rc)) (hbb:bx≠blk) (hlt:∀ g o,ra=some ⟨g,o,none⟩→g≠blk) (hz:∀ r∈rs,r.key.length≤1000000) (hn:n≤1000000):CmpC w0 blk n (klI rs) bx:=by
 intro W hf x y hx0 hxn hy0 hyn
 obtain ⟨i,rfl⟩:∃ i:Nat,x=(i:Int):=⟨x.toNat,by omega⟩
 obtain ⟨j,rfl⟩:∃ j:Nat,y=(j:Int):=⟨y.toNat,by omega⟩
 have hil:i<rs.length:=by omega
 have hjl:j<rs.length:=by omega
 obtain ⟨g,o,ka,kc,e1,c1⟩:=psr_key hP hil
 obtain ⟨g',o',la,lc,e2,c2⟩:=psr_key hP hjl
 rw [e1] at e2
 injection e2 with e2
 injection e2 with e2 e3
 subst e2 e3
 have hg:=hlt g o e1
 subst e1
 rw [kl_at hil,kl_at hjl]
 have hk1:=hz _ (List.getElem_mem hil)
 have hk2:=hz _ (List.getElem_mem hjl)
 have b0:W.cell? ⟨bx,0,none⟩=some (.slice (some ⟨g,o,none⟩) n rc):=by rw [cell_same (hf.block bx (cell_lt hb) hbb)];exact hb
 have d1:W.cell? ⟨g,o+i*7+2,none⟩=some (.slice ka rs[i].key.length kc):=by rw [cell_same (hf.block g (cell_lt c1) hg)];exact c1
 have d2:W.cell? ⟨g,o+j*7+2,none⟩=some (.slice la rs[j].key.length lc):=by rw [cell_same (hf.block g (cell_lt c1) hg)];exact c2
 generalize rs[i].key.length=X at *
 generalize rs[j].key.length=Y at *
 have XI:(X:Int)≤1000000:=by omega
 have YI:(Y:Int)≤1000000:=by omega
 have X0:(0:Int)≤(X:Int):=by omega
 have Y0:(0:Int)≤(Y:Int):=by omega
 have nI:(n:Int)≤1000000:=by omega
 have k0:=fun m os=>((Grown.refl W).quiet m os).cellv b0
 have k1:=fun m os=>((Grown.refl W).quiet m os).cellv d1
 have k2:=fun m os=>((Grown.refl W).quiet m os).cellv d2
 clear hP hN hb hf hz c1 c2 hil hjl hlt
 go_enter Tryz.func96,Tryz.ntmps96
 go_wp2
 refine wp_region_quiet_grown mixed (by kernel_rfl) ?_
 repeat (go_big_quiet_step (fail))
 refine wpQuiet_nil ?_
 intro _ hw'
 obtain ⟨⟨nq,osq⟩,hw''⟩:=hw'
 subst hw''
 go_wp2
 go_ret
 exact ⟨rfl,(Grown.refl W).quiet _ _⟩
theorem insertion_nil (w:World) (cv:Value) (c:Nat):Calls Tryz.prog 145 #[.slice none 0 c,.int .i64 0,.int .i64 0,cv] w fun e w'=>e = .returned (.tuple #[])∧w'=w:=by
 go_enter Tryz.func145,Tryz.ntmps145
 go_wp2
 refine wp_loop_rounds 1 ?_
 rw [rounds_succ]
 go_wp2
 go_end0
 exact ⟨rfl,rfl⟩
theorem stable_nil (w:World) (cv:Value) (c:Nat):Calls Tryz.prog 123 #[.slice none 0 c,.int .i64 0,cv] w fun e w'=>e = .returned (.tuple #[])∧w'=w:=by
 have HC:=Hid.mk' (insertion_nil w cv c)
 go_enter Tryz.func123,Tryz.ntmps123
 go_wp2
 refine wp_loop_rounds 1 ?_
 rw [rounds_succ]
 go_wp2_with (go_at_call 145;refine HC.out.mono ?_;rintro e w1 ⟨rfl,rfl⟩)
 refine wp_loop_rounds 1 ?_
 rw [rounds_succ]
 go_wp2
 go_end0
 exact ⟨rfl,rfl⟩
theorem sort_some {w0 w:World} {blk cap n:Nat} {d:List Int} {key:Int→Int} {bx:Nat} (h:Sq w0 w blk cap n d) (hc:CmpC w0 blk n key bx) (hkey:∀ x,0≤key x∧key x≤1000000) (hn:n≤1000000) (hid:∀ i,i<n→bAt d i=(i:Int)) :
 Calls Tryz.prog 95 #[.slice (some ⟨blk,0,none⟩) n cap,.func (.func 96) #[] #[.pointer (some ⟨bx,0,none⟩)]] w fun e w'=>e = .returned (.tuple #[])∧∃ d',Sq w0 w' blk cap n d'∧Sg key d' 0 n:=by
 have HC:=Hid.mk' (stable_any h hc hkey hn hid)
 clear h hc hkey hid
 go_enter Tryz.func95,Tryz.ntmps95
 go_wp2_with (go_at_call 123;refine HC.out.mono ?_;rintro e w1 ⟨rfl,hq⟩;have HQ:=Hid.mk' hq;clear hq)
 go_end0
 exact ⟨rfl,HQ.out⟩
theorem sort_nil (w:World) (cv:Value) (c:Nat):Calls Tryz.prog 95 #[.slice none 0 c,cv] w fun e w'=>e = .returned (.tuple #[])∧w'=w:=by
 have HC:=Hid.mk' (stable_nil w cv c)
 go_enter Tryz.func95,Tryz.ntmps95
 go_wp2_with (go_at_call 123;refine HC.out.mono ?_;rintro e w1 ⟨rfl,rfl⟩)
 go_end0
 exact ⟨rfl,rfl⟩
theorem inf59:(Tryz.prog.info? 51).map (fun i=>(i.zero,i.size,i.bytes))=some (some (.slice none 0 0),1,24):=by kernel_rfl
theorem inf66:(Tryz.prog.info? 58).map (fun i=>(i.zero,i.size,i.bytes))=some (some (.agg #[.int .i64 0,.int .i64 0,.int .i64 0,.slice none 0 0]),4,48):=by kernel_rfl
theorem inf54:(Tryz.prog.info? 56).map (fun i=>(i.zero,i.size,i.bytes))=some (some (.agg #[.bool false,.slice none 0 0,.slice none 0 0,.slice none 0 0,.bool false,.slice none 0 0,.int .i64 0]),7,120):=by kernel_rfl
theorem new_blk {W:World} {b:Nat} {o:Obj} (h:W.heap.size=b):(W.alloc o).heap[b]? = some o:=by subst h;exact heap_alloc_new _ _
def idL (k:Nat):List Int:=(List.range k).map fun i:Nat=>(i:Int)
theorem idL_succ (k:Nat):idL (k+1)=idL k++[(k:Int)]:=by simp [idL,List.range_succ]
theorem idL_len (k:Nat):(idL k).length=k:=by simp [idL]
theorem idL_at {k i:Nat} (h:i<k):bAt (idL k) i=(i:Int):=by simp [bAt,idL,h]
def LfQ (w:World) (rs:List Rl) (e:Ending) (w':World):Prop:=∃ lv d,e = .returned lv∧OwnI w' w.heap.size lv d∧d.length=rs.length∧Sg (klI rs) d 0 rs.length∧Below w.heap.size w w'
set_option maxHeartbeats 8000000 in
theorem longest_any (v:Value) (rs:List Rl) (w:World) (h:PsR w v rs) (hn:rs.length≤1000000) (hz:∀ r∈rs,r.key.length≤1000000):Calls Tryz.prog 59 #[v] w (LfQ w rs):=by
 have HP:Hid (∀ V,Below w.heap.size w V→PsR V v rs):=fun V hb=>h.below hb (Nat.le_refl _)
 have HZ:=Hid.mk' hz
 have HLT:Hid (∀ a n c g o,v = .slice a n c→a=some ⟨g,o,none⟩→0<rs.length→g<w.heap.size):=fun a n c g o e1 e2 h0=>by
  subst e1
  obtain ⟨g',o',ka,kc,e3,c1⟩:=psr_key h h0
  rw [e2] at e3
  injection e3 with e3
  injection e3 with e3 _
  subst e3
  exact cell_lt c1
 obtain ⟨ra,rc,hv,hx1,hx2⟩:=h
 subst hv
 clear hx1 hx2 hz
 obtain ⟨n,hN⟩:∃ n,rs.length=n:=⟨_,rfl⟩
 have HN:Hid (rs.length=n):=hN
 rw [hN] at HP hn HLT ⊢
 have nI:(n:Int)≤1000000:=by omega
 clear hN
 go_enter Tryz.func59,Tryz.ntmps59
 go_wp2
 obtain ⟨bx,hbx⟩:∃ bx,w.heap.size=bx:=⟨_,rfl⟩
 have HBX:=Hid.mk' hbx
 obtain ⟨w1,hw1⟩:∃ w1,w1=w.alloc (.cells #[.slice ra n rc] 22):=⟨_,rfl⟩
 have HW1:Hid (Grown w w1∧w1.cell? ⟨bx,0,none⟩=some (.slice ra n rc)∧w1.heap.size=bx+1):=by
  rw [hw1]
  exact ⟨(Grown.refl _).alloc _,by rw [cell_of (new_blk hbx)];rfl,by simp;omega⟩
 rw [←hw1,hbx]
 clear hw1 hbx
 go_loopw [3,7] (fun v3 v7 wr=>∃ k:Nat,v7 = .int .i64 k∧k≤n∧Hid (OwnI wr (bx+1) v3 (idL k)∧Below (bx+1) w1 wr∧(k=0→v3 = .slice none 0 0))) (fun _ v7 _=>n - (intOf v7).toNat)
 case atStart=>exact ⟨0,rfl,by omega,OwnI.nil _ _,Below.refl _ _,fun _=>rfl⟩
 case round=>
  obtain ⟨k,rfl,hk,HO⟩:=hrel
  have k0:(0:Int)≤(k:Int):=by omega
  obtain ⟨hO,hB,hNil⟩:=HO.out
  obtain ⟨x1,x2,x3,hsl⟩:=hO.ir.sl
  subst hsl
  by_cases hlt:k<n
  · have hltI:(k:Int)<(n:Int):=by omega
    have HY:Hid (∀ ob,OwnI (wr.alloc ob) (bx+1) (.slice x1 x2 x3) (idL k)∧bx+1≤(wr.alloc ob).heap.size∧Below (bx+1) w1 (wr.alloc ob)):=fun ob=>by
     have g:=(Grown.refl wr).alloc ob
     have:=HW1.out.2.2
     have:=hB.size
     exact ⟨hO.below g.below (Nat.le_refl _),by simp;omega,hB.trans (g.below.mono (by omega))⟩
    have hkN:(idL k).length+1≤8796093022208:=by rw [idL_len];omega
    clear hO hB HO hNil
    go_wp2_with (at_builtin;go_must (refine push_I rfl _ _ 46 rfl Tryz.underlying46 (bx+1) _ (idL k) rfl (HY.out _).1 _ _ k rfl (by (first | (simp;done) | exact new_cell _ _ _ _ rfl)) hkN (HY.out _).2.1 ?_;intro v3 w3 hO3 hB3;have HZ3:Hid (OwnI w3 (bx+1) v3 (idL (k+1))∧Below (bx+1) w1 w3∧(k+1=0→v3 = .slice none 0 0)):=⟨by rw [idL_succ];exact hO3,(HY.out _).2.2.trans hB3,fun h=>by omega⟩;clear hO3 hB3))
    exact ⟨⟨k+1,by go_num,by omega,HZ3⟩,by simp [intOf];omega⟩
  · have hge:¬ (k:Int)<(n:Int):=by omega
    have hkn:k=n:=by omega
    subst hkn
    have HBW:Hid (Below w.heap.size w wr):=HW1.out.1.below.trans (hB.mono (by rw [HBX.out];omega))
    by_cases hn0:k=0
    · subst hn0
      have e:=hNil rfl
      injection e with e1 e2 e3
      subst e1 e2 e3
      have HC:=Hid.mk' (sort_nil wr (.func (.func 96) #[] #[.pointer (some ⟨bx,0,none⟩)]) 0)
      have HOO:=Hid.mk' (hO.le (show w.heap.size≤bx+1 by rw [HBX.out];omega))
      clear HO hO hB hNil
      go_wp2_with (go_at_call 95;refine HC.out.mono ?_;rintro e w4 ⟨rfl,rfl⟩)
      go_ret
      exact ⟨_,_,rfl,HOO.out,by rw [HN.out];rfl,⟨fun i j _ _ h=>by rw [HN.out] at h;omega,fun i _ h=>by rw [HN.out] at h;omega⟩,HBW.out⟩
    · obtain ⟨g,cap,hv,hg1,hg2⟩:=World.ownsRow.form hO (by rw [idL_len];omega)
      rw [idL_len] at hv
      injection hv with e1 e2 e3
      subst e1 e2 e3
      have hgb:bx+1≤g:=(World.ownsRow.lt hO g rfl).1
      have hbx:=HBX.out
      have hsq:Sq wr wr g x3 x2 (idL x2):=⟨idL_len _,by have:=Joins.ownsRow_le hO (Nat.zero_le _);rw [idL_len] at this;exact this,Fr.refl _ _,fun i hi=>by rw [idL_at hi];omega⟩
      have hcm:CmpC wr g x2 (klI rs) bx:=cmp_any (HP.out wr HBW.out) HN.out (cell_below HW1.out.2.1 hB (by have:=HW1.out.2.2;omega)) (by omega) (fun g' o' e=>by have:=HLT.out _ _ _ g' o' rfl e (by omega);omega) HZ.out hn
      have HC:=Hid.mk' (sort_some hsq hcm (kl_in HZ.out) hn fun i hi=>idL_at hi)
      clear HO hO hB hNil hsq hcm hg1 hg2
      go_wp2_with (go_at_call 95;refine HC.out.mono ?_;rintro e w4 ⟨rfl,d4,hs4,hg4⟩;have H4:Hid (Sq wr w4 g x3 x2 d4∧Sg (klI rs) d4 0 x2):=⟨hs4,hg4⟩;clear hs4 hg4)
      go_ret
      have hl4:=H4.out.1.l
      refine ⟨_,d4,rfl,?_,by rw [HN.out];exact hl4,by rw [HN.out];exact H4.out.2,HBW.out.trans (H4.out.1.f.below (fun b e=>by have e:b=g:=e;omega) HBW.out.size)⟩
      have ho:=H4.out.1.o
      unfold OwnI
      rw [hl4]
      refine ⟨ho.1,?_⟩
      rcases ho.2 with h | ⟨g',c',cur,e,_,h2,h3⟩
      · exact .inl h
      · injection e with e1 e2 e3
        injection e1 with e1
        injection e1 with e1 _
        subst e1 e3
        exact .inr ⟨g,x3,cur,rfl,by omega,h2,h3⟩
theorem run_appI (w:World) (ty:TypeId) (base:Nat) (v:Value) (l b:List Int) (xv:Value) (hown:OwnI w base v l) (hr:IR w xv b) (hl:l.length+b.length≤8796093022208) (hbase:base≤w.heap.size) :
 ∃ v' w',(Builtin.append_ #[46,46] ty #[v,xv]).run Tryz.prog w = .ok v' w'∧OwnI w' base v' (l++b)∧w.grownBy w' v.ownBlock∧(v'.ownBlock=v.ownBlock∨v'.ownBlock=some w.heap.size):=by
 obtain ⟨i0,hi0,hz0,hz1,hz2⟩:=info_parts iinfo3
 obtain ⟨A,c,rfl,hc,hr⟩:=hr
 by_cases he:b=[]
 · subst he
   obtain ⟨va,vn,vc,hv⟩:=hown.ir.sl
   have hvn:vn=l.length∧vn≤vc:=by
    obtain ⟨a',c',e,h1,_⟩:=hown.ir
    rw [hv] at e
    injection e with _ e2 e3
    omega
   subst hv
   have hr:=run_append_nothing (P:=Tryz.prog) w 46 46 ty 3 i0 Tryz.underlying46 hi0 va vn vc hvn.2 (.slice A 0 c) ⟨.inl ⟨3,Tryz.underlying46⟩,fun w'=>by cases A <;> simp [Builtin.lenOf,go_sem],by cases A <;> simp [Builtin.firstCells,go_sem],by cases A <;> simp [Builtin.firstCells,go_sem],by simp,by simp⟩
   exact ⟨_,w,hr,by simpa using hown,⟨rfl,rfl,rfl,Nat.le_refl _,fun _ _ _=>rfl⟩,.inl rfl⟩
 · obtain ⟨g1,o',rfl,hd⟩:=hr.resolve_left he
   obtain ⟨v',w',h1,h2,h3,h4,h5⟩:=run_append_own_at (P:=Tryz.prog) w base 46 ty 3 i0 (.int .i64 0) 1 8 Tryz.underlying46 hi0 hz0 hz1 hz2 rfl (by decide) v l.length (ints l) hown ⟨g1,o',none⟩ b.length c (ints b) (by rw [ints_length,Nat.mul_one]) (fun j u hj=>by
    have hadd:(⟨g1,o',none⟩:Addr).add j=⟨g1,o'+j,none⟩:=by unfold Addr.add;split <;> simp_all
    rw [hadd]
    simp only [ints,List.getElem?_map,Option.map_eq_some_iff] at hj
    obtain ⟨y,hy,rfl⟩:=hj
    obtain ⟨hj1,hj2⟩:=List.getElem?_eq_some_iff.1 hy
    rw [hd j hj1,hj2]) (ints_one _) (by unfold maxLen;omega) (by omega) hbase
   exact ⟨v',w',h1,by unfold OwnI;rw [ints_append,List.length_append];exact h2,h3,h5⟩
theorem app_I2 {ops:Array Oper} {rest:List Oper} {o:Oper} {a:Act} {Q:Exit→Act→World→Prop} {w:World} (hgd:o.guard=none) (s x:Operand)
 (ho:o.op = .call { callee := .builtin .append,args:=#[s,x],argTypes:=#[46,46] })
 (base:Nat) (v xv:Value) (l b:List Int) (hs:a.eval s=v) (hown:OwnI w base v l) (hx:a.eval x=xv) (hr:IR w xv b) (hl:l.length+b.length≤8796093022208) (hbase:base≤w.heap.size)
 (h:∀ v' w',OwnI w' base v' (l++b)→w.grownBy w' v.ownBlock→wpList Tryz.prog ops Q rest (a.put o.dst v') w'):wpList Tryz.prog ops Q (o::rest) a w:=by
 refine wpList_plain hgd fun K hK => ?_
 obtain ⟨v',w',hr2,h1,h2,_⟩:=run_appI w o.type base v l b xv hown hr hl hbase
 unfold Oper.wp execOp
 simp only [ho,resolve,invoke,builtin,Sem.run_bind,Sem.run_pure,Result.andThen_ok,List.map_toArray,List.map_cons,List.map_nil,hs,hx,hr2]
 exact hK _ _ (h v' w' h1 h2)
theorem app_I3 {ops:Array Oper} {rest:List Oper} {o:Oper} {a:Act} {Q:Exit→Act→World→Prop} {w:World} (hgd:o.guard=none) (s x:Operand)
 (ho:o.op = .call { callee := .builtin .append,args:=#[s,x],argTypes:=#[46,46] })
 (base:Nat) (v xv:Value) (l b:List Int) (hs:a.eval s=v) (hown:OwnI w base v l) (hx:a.eval x=xv) (hr:IR w xv b) (hl:l.length+b.length≤8796093022208) (hbase:base≤w.heap.size)
 (h:∀ v' w',OwnI w' base v' (l++b)→w.grownBy w' v.ownBlock→(v'.ownBlock=v.ownBlock∨v'.ownBlock=some w.heap.size)→wpList Tryz.prog ops Q rest (a.put o.dst v') w'):wpList Tryz.prog ops Q (o::rest) a w:=by
 refine wpList_plain hgd fun K hK => ?_
 obtain ⟨v',w',hr2,h1,h2,h3⟩:=run_appI w o.type base v l b xv hown hr hl hbase
 unfold Oper.wp execOp
 simp only [ho,resolve,invoke,builtin,Sem.run_bind,Sem.run_pure,Result.andThen_ok,List.map_toArray,List.map_cons,List.map_nil,hs,hx,hr2]
 exact hK _ _ (h v' w' h1 h2 h3)
set_option maxHeartbeats 4000000 in
theorem grow_any (n:Nat) (hn0:0<n) (hn:n≤1000000000) (w:World):Calls Tryz.prog 148 #[.slice none 0 0,.int .i64 n] w fun e w'=>∃ cap,e = .returned (.slice (some ⟨w.heap.size,0,none⟩) 0 cap)∧OwnI w' w.heap.size (.slice (some ⟨w.heap.size,0,none⟩) 0 cap) []∧Grown w w':=by
 obtain ⟨i0,hi0,hz0,hz1,hz2⟩:=info_parts iinfo3
 have hr:=fun W ty=>Go.Lib.run_append_nil_zeros (P:=Tryz.prog) W 46 3 ty 3 i0 (.int .i64 0) .i64 .i64 Tryz.underlying46 Tryz.underlying3 hi0 hz0 n hn0 (by rw [hz1];decide) (by omega) (by rw [hz2];omega)
 have HR:=Hid.mk' hr
 have nI:(n:Int)≤1000000000:=by omega
 have n0:(0:Int)<(n:Int):=by omega
 clear hr
 go_enter Tryz.func148,Tryz.ntmps148
 go_wp2_with (at_builtin;go_must (refine Go.Lib.wpList_append_run _ rfl _ _ 46 3 rfl _ _ rfl rfl _ _ (HR.out _ _) ?_))
 go_ret
 refine ⟨grownCap w n 0 3,rfl,⟨rfl,.inr ⟨w.heap.size,grownCap w n 0 3,_,rfl,Nat.le_refl _,heap_alloc_new w _,Nat.zero_le _,grownCap_le_maxLen w n 0 3 (by unfold maxLen;omega),?_,by simp [ints]⟩⟩,((Grown.refl _).alloc _).drew⟩
 have:=grownCap_ge w n 0 3
 simp only [Array.size_append,size_zeroCells]
 show n*1+(grownCap w n 0 3 - n)*1=_
 omega
set_option maxHeartbeats 8000000 in
theorem concat_any (b:Nat) (v1 v2:Value) (l1 l2:List Int) (w:World) (c1:w.cell? ⟨b,0,none⟩=some v1) (c2:w.cell? ⟨b,1,none⟩=some v2) (h1:IR w v1 l1) (h2:IR w v2 l2) (h0:0<l1.length+l2.length) (hn:l1.length+l2.length≤1000000000) :
 Calls Tryz.prog 126 #[.slice (some ⟨b,0,none⟩) 2 2] w fun e w'=>∃ v',e = .returned v'∧OwnI w' w.heap.size v' (l1++l2)∧Below w.heap.size w w':=by
 have H1:Hid (∀ V,Below w.heap.size w V→IR V v1 l1):=fun V hb=>h1.below hb (Nat.le_refl _)
 have H2:Hid (∀ V,Below w.heap.size w V→IR V v2 l2):=fun V hb=>h2.below hb (Nat.le_refl _)
 have HC1:Hid (∀ V,Below w.heap.size w V→V.cell? ⟨b,0,none⟩=some v1∧V.cell? ⟨b,1,none⟩=some v2):=fun V hb=>⟨cell_below c1 hb (Nat.le_refl _),cell_below c2 hb (Nat.le_refl _)⟩
 have HG:=Hid.mk' (fun W=>grow_any (l1.length+l2.length) h0 hn W)
 obtain ⟨x1,x3,e1,_,_⟩:=h1
 obtain ⟨y1,y3,e2,_,_⟩:=h2
 obtain ⟨n1,hn1⟩:∃ n1,l1.length=n1:=⟨_,rfl⟩
 obtain ⟨n2,hn2⟩:∃ n2,l2.length=n2:=⟨_,rfl⟩
 have HN1:=Hid.mk' hn1
 have HN2:=Hid.mk' hn2
 rw [hn1] at e1 hn HG
 rw [hn2] at e2 hn HG
 subst e1 e2
 have n1I:(n1:Int)≤1000000000:=by omega
 have n2I:(n2:Int)≤1000000000:=by omega
 have n10:(0:Int)≤(n1:Int):=by omega
 have n20:(0:Int)≤(n2:Int):=by omega
 have ns:(n1:Int)+(n2:Int)≤1000000000:=by omega
 have ncast:((n1+n2:Nat):Int)=(n1:Int)+(n2:Int):=by omega
 rw [ncast] at HG
 clear hn1 hn2 h0 ncast
 go_enter Tryz.func126,Tryz.ntmps126
 go_wp2
 refine wp_loop_rounds 3 ?_
 rw [rounds_succ]
 go_wp2
 rw [rounds_succ]
 go_wp2
 rw [rounds_succ]
 go_wp2_with (go_at_call 148;refine (HG.out _).mono ?_;rintro e w1 ⟨cap,rfl,hO1,hG1⟩;have HO1:=Hid.mk' hO1;have HG1:=Hid.mk' hG1;clear hO1 hG1)
 have hB1:Below w.heap.size w w1:=HG1.out.below
 obtain ⟨d1,d2⟩:=HC1.out w1 hB1
 have HB1:=Hid.mk' hB1
 clear c1 c2 hB1
 refine wp_loop_rounds 3 ?_
 rw [rounds_succ]
 go_wp2_with (at_builtin;go_must (refine app_I2 rfl _ _ rfl w.heap.size _ _ [] l1 rfl HO1.out rfl (H1.out w1 HB1.out) (by rw [HN1.out];simp;omega) HB1.out.size ?_;intro v2 w2 hO2 hg2;have HO2:Hid (OwnI w2 w.heap.size v2 l1):=hO2;have HB2:Hid (Below w.heap.size w w2):=HB1.out.grown hg2 HB1.out.size (fun k hk=>(World.ownsRow.lt HO1.out k hk).1);obtain ⟨p1,p2,p3,hv2⟩:=hO2.ir.sl;subst hv2;clear hO2 hg2))
 obtain ⟨f1,f2⟩:=HC1.out w2 HB2.out
 rw [rounds_succ]
 go_wp2_with (at_builtin;go_must (refine app_I2 rfl _ _ rfl w.heap.size _ _ l1 l2 rfl HO2.out rfl (H2.out w2 HB2.out) (by rw [HN1.out,HN2.out];omega) HB2.out.size ?_;intro v3 w3 hO3 hg3;have HO3:Hid (OwnI w3 w.heap.size v3 (l1++l2)):=hO3;have HB3:Hid (Below w.heap.size w w3):=HB2.out.grown hg3 HB2.out.size (fun k hk=>(World.ownsRow.lt HO2.out k hk).1);obtain ⟨q1,q2,q3,hv3⟩:=hO3.ir.sl;subst hv3;clear hO3 hg3))
 rw [rounds_succ]
 go_wp2
 go_ret
 exact ⟨_,rfl,HO3.out,HB3.out⟩
end Go.Proofs
