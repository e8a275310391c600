/-
  Several texts in one (Ib Ie Pg Tk Tl Oa9 Rv If).
-/
import Derived.RangeFuncNested
import Derived.RangeFuncBound
import Derived.RangeFuncCalls
import Derived.RangeFuncLeaves
import Derived.Shelf.Abstract
import Derived.Shelf.RegionOpen
import Derived.WalkKit
import Derived.WalkSpells
import Derived.WalkLawsBesides
import Derived.OwnWalkIn
import Derived.TacticsInMore
import Derived.LoopNIn
import Derived.LoopIn
import Derived.BigQuiet
import Derived.RegionIn
import Derived.Deep.QuietTactic
import Derived.Deep.RegionWith
import Derived.Lib.OthersKept
import Derived.Maps.AppendAt
import Derived.Lib.SmallJoins
import Derived.Shelf.SlSortCmp.QuietGrown
import Derived.Test.YtaemgkemlifadaaGreatDoorMglr
import Derived.Test.YtaemgkemlifadaaGreatDoorMgar
import Derived.Test.YtaemgkemlifadaaGreatDoorMgir
import Derived.Test.YtaemgkemlifadaaGreatDoorMgkr
import Derived.RangeFuncWrites
import Derived.RangeFuncBox
import Derived.Test.YtaemgkemlifadaaGreatDoorMgfr
import Derived.Test.YtaemgkemlifadaaGreatDoorBqr
import Derived.Deep.AppendLies
import Derived.Deep.Upon
import Derived.Test.YtaemgkemlifadaaGreatDoorMgjr
namespace Go.Proofs
open Go.RowKit Go.Shelf
set_option maxRecDepth 100000
attribute [local go_sem] Oper.semAt_some
attribute [local go_sem ↓] Go.wp_at_zero Go.wp_at_succ
def kl (rs:List Rl) (i:Int):Nat:=((rs[i.toNat]?).map fun r=>r.key.length).getD 0
def nxtK (rs:List Rl) (d l:List Int):Nat→Int
 | 0 => -1
 | k+1=>if ((rs[k]?).map fun r=>stF r d l).getD false=true∧(nxtK rs d l k<0∨kl rs (nxtK rs d l k)<kl rs k) then (k:Int) else nxtK rs d l k
theorem nxtK_is (rs:List Rl) (d l:List Int):∀ k,k≤rs.length→nxtK rs d l k = -1∨∃ i:Nat,∃ hi:i<rs.length,i<k∧nxtK rs d l k=i∧stF rs[i] d l=true
 | 0,_ => .inl rfl
 | k+1,hk=>by
  rw [nxtK]
  split
  · rename_i h
    refine .inr ⟨k,by omega,by omega,rfl,?_⟩
    have:=h.1
    rw [List.getElem?_eq_getElem (by omega)] at this
    simpa using this
  · rcases nxtK_is rs d l k (by omega) with h | ⟨i,hi,h1,h2⟩
    · exact .inl h
    · exact .inr ⟨i,hi,by omega,h2⟩
set_option maxHeartbeats 8000000 in
theorem rnext_any (v dv lv:Value) (rs:List Rl) (d l:List Int) (w:World) (h:PsR w v rs) (hO:∀ r∈rs,Ok r) (hn:rs.length≤256) (hd:IR w dv d) (hl:IR w lv l) (hdn:d.length≤1000000000) (hdw:dv = .slice none 0 0∨∃ g o n c,dv = .slice (some ⟨g,o,none⟩) n c) (hln:l.length≤1000000000) :
 Calls Tryz.prog 55 #[.agg #[v],dv,lv] w fun e w'=>e = .returned (.int .i64 (nxtK rs d l rs.length))∧Grown w w':=by
 have HP:Hid (∀ V,Grown w V→PsR V v rs):=fun V hg=>h.grown hg
 have HO:Hid (∀ r∈rs,Ok r):=hO
 have HS:Hid (∀ (V:World) (r:Rl) (av kv pv rv:Value),Grown w V→RR V av kv pv rv r→Ok r→Calls Tryz.prog 80 #[.agg #[.bool r.bg,av,kv,pv,.bool r.en,rv,.int .i64 r.cu],dv,lv] V fun e w'=>e = .returned (.bool (stF r d l))∧Grown V w'):=fun V r av kv pv rv hg hr ho=>rstF_any r av kv pv rv dv lv d l V hr (hd.grown hg) (hl.grown hg) ho hdn hdw hln
 obtain ⟨d1,d2,d3,rfl⟩:=hd.sl
 obtain ⟨l1,l2,l3,rfl⟩:=hl.sl
 obtain ⟨ra,rc,hv,hx1,hx2⟩:=h
 subst hv
 clear hx1 hx2 hd hl hdn hdw hln hO
 obtain ⟨n,hN⟩:∃ n,rs.length=n:=⟨_,rfl⟩
 have HN:Hid (rs.length=n):=hN
 have hnI:(n:Int)≤256:=by omega
 rw [hN] at HP ⊢
 obtain ⟨R,hR⟩:∃ R,nxtK rs d l n=R:=⟨_,rfl⟩
 have HR:Hid (nxtK rs d l n=R):=hR
 rw [hR]
 clear hN hn hR
 go_enter Tryz.func55,Tryz.ntmps55
 go_wp2
 obtain ⟨wA,hwA⟩:∃ wA,wA=w.alloc (.cells #[.slice ra n rc] 24):=⟨_,rfl⟩
 have HGA:Hid (Grown w wA):=by show Grown _ _;rw [hwA];exact (Grown.refl _).alloc _
 have cA:wA.cell? ⟨w.heap.size,0,none⟩=some (.slice ra n rc):=by rw [hwA];simp
 try rw [←hwA]
 clear hwA
 go_loopw [7,8] (fun vb vi wr=>∃ (k:Nat) (b:Int),vi = .int .i64 k∧vb = .int .i64 b∧k≤n∧Hid (b=nxtK rs d l k)∧Grown wA wr) (fun _ vi _=>n - (intOf vi).toNat)
 case atStart=>exact ⟨0,-1,rfl,rfl,by omega,rfl,Grown.refl _⟩
 case round=>
  obtain ⟨k,b,rfl,rfl,hk,HB,hG⟩:=hrel
  have hk0:(0:Int)≤(k:Int):=by omega
  have c0:=hG.cellv cA
  by_cases hlt:k<n
  · have hlt':(k:Int)<(n:Int):=by omega
    have hkl:k<rs.length:=by rw [HN.out];exact hlt
    obtain ⟨a',c',e',_,hP⟩:=HP.out wr (HGA.out.trans hG)
    obtain ⟨g,o,ha',hP2⟩:=hP.resolve_left (fun e=>by rw [e] at hkl;simp at hkl)
    injection e' with e1 e2 e3
    clear e2 e3
    rw [ha'] at e1
    subst e1
    obtain ⟨av,kv,pv,rv,q0,q1,q2,q3,q4,q5,q6,hR⟩:=hP2 k hkl
    have HC0:=fun (V:World) (hg:Grown wr V)=>HS.out V rs[k] av kv pv rv (HGA.out.trans (hG.trans hg)) (hR.grown hg) (HO.out _ (List.getElem_mem hkl))
    have hnx:nxtK rs d l (k+1)=if stF rs[k] d l=true∧(b<0∨kl rs b<rs[k].key.length) then (k:Int) else b:=by
     have e:kl rs (k:Int)=rs[k].key.length:=by simp [kl,hkl]
     rw [nxtK,List.getElem?_eq_getElem hkl,HB.out,e]
     simp
    obtain ⟨S,hS⟩:∃ S,stF rs[k] d l=S:=⟨_,rfl⟩
    rw [hS] at HC0 hnx
    have HC:Hid (∀ m os,Calls Tryz.prog 80 #[.agg #[.bool rs[k].bg,av,kv,pv,.bool rs[k].en,rv,.int .i64 rs[k].cu],.slice d1 d2 d3,.slice l1 l2 l3] (Go.Sort.grow (wr.drewN m) os) fun e w'=>e = .returned (.bool S)∧Grown (Go.Sort.grow (wr.drewN m) os) w'):=fun m os=>HC0 _ ((Grown.refl wr).quiet m os)
    have hbi:=nxtK_is rs d l k (by omega)
    rw [←HB.out] at hbi
    obtain ⟨ka,kc,hkv,hx1,hx2⟩:=hR.k
    clear hx1 hx2
    obtain ⟨kn,hkn⟩:∃ kn,rs[k].key.length=kn:=⟨_,rfl⟩
    rw [hkn] at hkv hnx
    subst hkv
    obtain ⟨a1,a2,a3,rfl⟩:=hR.a.sl
    obtain ⟨p1,p2,p3,rfl⟩:=hR.p.sl
    obtain ⟨r1,r2,r3,rfl⟩:=hR.r.sl
    generalize rs[k].bg=xb at q0 HC
    generalize rs[k].en=xe at q4 HC
    generalize rs[k].cu=xc at q6 HC
    have k0:=fun m os=>((Grown.refl wr).quiet m os).cellv c0
    have p0:=fun m os=>((Grown.refl wr).quiet m os).cellv q0
    have p1:=fun m os=>((Grown.refl wr).quiet m os).cellv q1
    have p2:=fun m os=>((Grown.refl wr).quiet m os).cellv q2
    have p3:=fun m os=>((Grown.refl wr).quiet m os).cellv q3
    have p4:=fun m os=>((Grown.refl wr).quiet m os).cellv q4
    have p5:=fun m os=>((Grown.refl wr).quiet m os).cellv q5
    have p6:=fun m os=>((Grown.refl wr).quiet m os).cellv q6
    have HGW:Hid (∀ m os,Grown wA (Go.Sort.grow (wr.drewN m) os)):=fun m os=>hG.quiet m os
    have HKL:Hid (∀ i:Nat,i<n→∃ kn' ka' kc',(∀ m os,(Go.Sort.grow (wr.drewN m) os).cell? ⟨g,o+i*7+2,none⟩=some (.slice ka' kn' kc'))∧kl rs (i:Int)=kn'):=fun i hi=>by
     have hil:i<rs.length:=by rw [HN.out];exact hi
     obtain ⟨_,kv',_,_,_,_,z2,_,_,_,_,hR'⟩:=hP2 i hil
     obtain ⟨ka',kc',hkv',_,_⟩:=hR'.k
     exact ⟨_,ka',kc',fun m os=>by rw [←hkv'];exact ((Grown.refl wr).quiet m os).cellv z2,by simp [kl,hil]⟩
    have HNX:=Hid.mk' hnx
    have HBI:=Hid.mk' hbi
    clear HC0 hR hP hP2 ha' hS hnx hbi hkn q0 q1 q2 q3 q4 q5 q6 HB hG
    cases S with
    | false=>
     as_aux_lemma=>
      have HX:Hid (b=nxtK rs d l (k+1)):=by rw [HNX.out];simp [Hid]
      clear HNX HKL HBI
      go_wp2
      refine wp_region_quiet_grown mixed (by kernel_rfl) ?_
      repeat (go_big_quiet_step ((go_at_call 80;exact grown_of (HC.out _ _))))
      refine wpQuiet_nil ?_
      intro _ hw'
      obtain ⟨⟨nq,osq⟩,hw''⟩:=hw'
      subst hw''
      go_wp2
      exact ⟨⟨k+1,b,by go_num,rfl,by omega,HX,HGW.out _ _⟩,by simp [intOf];omega⟩
    | true=>
     by_cases hb:b<0
     · as_aux_lemma=>
        have HX:Hid ((k:Int)=nxtK rs d l (k+1)):=by rw [HNX.out];simp [Hid,hb]
        clear HNX HKL HBI
        go_wp2
        refine wp_region_quiet_grown mixed (by kernel_rfl) ?_
        repeat (go_big_quiet_step ((go_at_call 80;exact grown_of (HC.out _ _))))
        refine wpQuiet_nil ?_
        intro _ hw'
        obtain ⟨⟨nq,osq⟩,hw''⟩:=hw'
        subst hw''
        go_wp2
        exact ⟨⟨k+1,k,by go_num,rfl,by omega,HX,HGW.out _ _⟩,by simp [intOf];omega⟩
     · obtain ⟨bi,hbi⟩:∃ bi:Nat,b=(bi:Int):=⟨b.toNat,by omega⟩
       subst hbi
       have hbn:bi<n:=by
        rcases HBI.out with h1 | ⟨i,_,h2,h3,_⟩
        · omega
        · omega
       have hbnI:(bi:Int)<(n:Int):=by omega
       have hb0:(0:Int)≤(bi:Int):=by omega
       have hbd:decide ((bi:Int)<0)=false:=by simp
       obtain ⟨kn',ka',kc',z2,hz⟩:=HKL.out bi hbn
       have HNY:=Hid.mk' (by have:=HNX.out;rw [hz] at this;exact this)
       clear HNX HKL HBI hz
       by_cases hgt:kn'<kn
       · as_aux_lemma=>
          have hgtI:(kn':Int)<(kn:Int):=by omega
          have HX:Hid ((k:Int)=nxtK rs d l (k+1)):=by rw [HNY.out];simp [Hid,hgt]
          clear HNY
          go_wp2
          refine wp_region_quiet_grown mixed (by kernel_rfl) ?_
          repeat (go_big_quiet_step ((go_at_call 80;exact grown_of (HC.out _ _))))
          refine wpQuiet_nil ?_
          intro _ hw'
          obtain ⟨⟨nq,osq⟩,hw''⟩:=hw'
          subst hw''
          go_wp2
          exact ⟨⟨k+1,k,by go_num,rfl,by omega,HX,HGW.out _ _⟩,by simp [intOf];omega⟩
       · as_aux_lemma=>
          have hgtI:¬ (kn':Int)<(kn:Int):=by omega
          have hgtD:decide ((kn':Int)<(kn:Int))=false:=by simp;omega
          have hgtE:decide (kn'<kn)=false:=by simp;omega
          have HX:Hid ((bi:Int)=nxtK rs d l (k+1)):=by rw [HNY.out,if_neg (by simp;omega)];rfl
          clear HNY
          go_wp2
          refine wp_region_quiet_grown mixed (by kernel_rfl) ?_
          repeat (go_big_quiet_step ((go_at_call 80;exact grown_of (HC.out _ _))))
          refine wpQuiet_nil ?_
          intro _ hw'
          obtain ⟨⟨nq,osq⟩,hw''⟩:=hw'
          subst hw''
          go_wp2
          exact ⟨⟨k+1,bi,by go_num,rfl,by omega,HX,HGW.out _ _⟩,by simp [intOf];omega⟩
  · as_aux_lemma=>
     have hge:¬ (k:Int)<(n:Int):=by omega
     have HQ:Hid (b=R):=by
      have:k=n:=by omega
      rw [HB.out,this];exact HR.out
     clear HB
     go_wp2
     go_ret
     exact ⟨by rw [HQ.out];rfl,HGA.out.trans hG⟩
structure Stp where
 (r d l t a b:Int)
def stepL (rs:List Rl) (l:List Int) (x:Stp):List Int:=
 if x.r<0 then l.drop 1 else match rs[x.r.toNat]? with
 | none=>[]
 | some r=>(backP r).map (wrt r.key (l.take x.t.toNat))++l.drop x.t.toNat
def OkStp (rs:List Rl) (l:List Int) (x:Stp):Prop:=
 (x.r = -1∧x.t=1∧x.a=1∧0<l.length)∨∃ (i:Nat) (hi:i<rs.length),x.r=i∧x.t=rs[i].key.length∧rs[i].key.length≤l.length∧layB rs[i] (l.take rs[i].key.length)=true∧x.a=rs[i].cu
def AllU (l:List Int):Prop:=∀ u∈l,wd u≠0
theorem AllU.append {l k:List Int} (h:AllU l) (h2:AllU k):AllU (l++k):=fun u hu=>(List.mem_append.1 hu).elim (h u) (h2 u)
theorem stepL_rule {rs:List Rl} {l:List Int} {x:Stp} {i:Nat} (hi:i<rs.length) (h1:x.r=i) (h2:x.t=rs[i].key.length):stepL rs l x=(backP rs[i]).map (wrt rs[i].key (l.take rs[i].key.length))++l.drop rs[i].key.length:=by
 unfold stepL
 rw [if_neg (by omega),h1,h2]
 simp [hi]
theorem back_units {r:Rl} {us:List Int} (hl:layB r us=true):AllU ((backP r).map (wrt r.key us)):=fun u hu=>by
 obtain ⟨p,hp,rfl⟩:=List.mem_map.1 hu
 exact (wr_any hl (List.mem_of_mem_drop hp)).w
theorem OkStp.light {rs:List Rl} {st:St} (h:Fin rs st) {l:List Int} {x:Stp} (hx:OkStp rs l x):wS rs st (stepL rs l x)+1≤wS rs st l:=by
 rcases hx with ⟨h1,h2,h3,h4⟩ | ⟨i,hi,h1,h2,h3,h4,h5⟩
 · unfold stepL
   rw [if_pos (by omega)]
   match l,h4 with
   | u::l,_=>
    rw [List.drop_one,List.tail_cons,wS]
    have:=(h.wK_in u).1
    omega
 · rw [stepL_rule hi h1 h2,wS_append]
   have:=h.light hi h4
   have e:wS rs st l=wS rs st (l.take rs[i].key.length)+wS rs st (l.drop rs[i].key.length):=by rw [←wS_append,List.take_append_drop]
   omega
theorem OkStp.units {rs:List Rl} {l:List Int} {x:Stp} (hx:OkStp rs l x) (hu:AllU l):AllU (stepL rs l x):=by
 rcases hx with ⟨h1,h2,h3,h4⟩ | ⟨i,hi,h1,h2,h3,h4,h5⟩
 · unfold stepL
   rw [if_pos (by omega)]
   exact fun u h=>hu u (List.mem_of_mem_drop h)
 · rw [stepL_rule hi h1 h2]
   exact (back_units h4).append fun u h=>hu u (List.mem_of_mem_drop h)
def lft (rs:List Rl) (l:List Int) (xs:List Stp):List Int:=xs.foldl (stepL rs) l
theorem lft_snoc (rs:List Rl) (l:List Int) (xs:List Stp) (x:Stp):lft rs l (xs++[x])=stepL rs (lft rs l xs) x:=by simp [lft]
def GoOk (rs:List Rl) (l:List Int) (xs:List Stp):Prop:=∀ (i:Nat) (h:i<xs.length),OkStp rs (lft rs l (xs.take i)) xs[i]
theorem GoOk.nil (rs:List Rl) (l:List Int):GoOk rs l []:=fun i h=>by simp at h
theorem GoOk.snoc {rs:List Rl} {l:List Int} {xs:List Stp} {x:Stp} (h:GoOk rs l xs) (hx:OkStp rs (lft rs l xs) x):GoOk rs l (xs++[x]):=fun i hi=>by
 by_cases e:i<xs.length
 · have:=h i e
   rw [List.take_append_of_le_length (by omega),List.getElem_append_left e]
   exact this
 · have e2:i=xs.length:=by rw [List.length_append,List.length_singleton] at hi;omega
   subst e2
   simpa using hx
theorem lft_succ (rs:List Rl) (l:List Int) (xs:List Stp) {i:Nat} (h:i<xs.length):lft rs l (xs.take (i+1))=stepL rs (lft rs l (xs.take i)) xs[i]:=by
 rw [List.take_add_one,List.getElem?_eq_getElem h]
 exact lft_snoc rs l _ _
theorem GoOk.weight {rs:List Rl} {st:St} (hF:Fin rs st) {l:List Int} {xs:List Stp} (h:GoOk rs l xs):∀ i,i≤xs.length→(i:Int)+wS rs st (lft rs l (xs.take i))≤wS rs st l
 | 0,_=>by simp [lft]
 | i+1,hi=>by
  have ih:=h.weight hF i (by omega)
  have:=(h i (by omega)).light hF
  rw [lft_succ rs l xs (by omega)]
  omega
theorem wS_len {rs:List Rl} {st:St} (h:Fin rs st):∀ l:List Int,(l.length:Int)≤wS rs st l∧wS rs st l≤64*l.length
 | []=>by simp [wS]
 | u::l=>by
  have:=wS_len h l
  have:=h.wK_in u
  rw [wS,List.length_cons]
  omega
def sumA:List Stp→Int
 | []=>0
 | x::l=>x.a+sumA l
theorem sumA_snoc (l:List Stp) (x:Stp):sumA (l++[x])=sumA l+x.a:=by
 induction l with
 | nil=>simp [sumA]
 | cons y l ih=>simp only [List.cons_append,sumA,ih];omega
theorem nextS_ok {rs:List Rl} (hc:∀ r∈rs,chk r=0) (d:List Int) {l:List Int} (hl:0<l.length) :
 (nxtK rs d l rs.length = -1∧OkStp rs l ⟨-1,d.length,l.length,1,1,0⟩)∨∃ (i:Nat) (hi:i<rs.length),nxtK rs d l rs.length=i∧rs[i].key.length≤l.length∧layB rs[i] (l.take rs[i].key.length)=true∧OkStp rs l ⟨i,d.length,l.length,rs[i].key.length,rs[i].cu,(backP rs[i]).length⟩:=by
 rcases nxtK_is rs d l rs.length (Nat.le_refl _) with h | ⟨i,hi,_,h1,h2⟩
 · exact .inl ⟨h,.inl ⟨rfl,rfl,rfl,hl⟩⟩
 · have h3:=stF_key h2
   have h4:layB rs[i] (l.take rs[i].key.length)=true:=by
    simp only [layB,Bool.and_eq_true,decide_eq_true_eq]
    exact ⟨hc _ (List.getElem_mem hi),h3.2⟩
   exact .inr ⟨i,hi,h1,h3.1,h4,.inr ⟨i,hi,rfl,rfl,h3.1,h4,rfl⟩⟩
def ruleN (rs:List Rl) (d l:List Int):Option Rl:=if nxtK rs d l rs.length<0 then none else rs[(nxtK rs d l rs.length).toNat]?
def stp (rs:List Rl) (d l:List Int):Stp:=match ruleN rs d l with
 | none=>⟨-1,d.length,l.length,1,1,0⟩
 | some r=>⟨nxtK rs d l rs.length,d.length,l.length,r.key.length,r.cu,(backP r).length⟩
def layd (rs:List Rl) (d l:List Int):List Int:=match ruleN rs d l with
 | none=>l.take 1
 | some r=>(outs r (l.take r.key.length)).take r.cu.toNat
def lefd (rs:List Rl) (d l:List Int):List Int:=match ruleN rs d l with
 | none=>l.drop 1
 | some r=>(outs r (l.take r.key.length)).drop r.cu.toNat++l.drop r.key.length
def go3 (rs:List Rl) (l0:List Int):Nat→List Stp × List Int × List Int
 | 0=>([],[],l0)
 | k+1=>if (go3 rs l0 k).2.2=[] then go3 rs l0 k else ((go3 rs l0 k).1++[stp rs (go3 rs l0 k).2.1 (go3 rs l0 k).2.2],(go3 rs l0 k).2.1++layd rs (go3 rs l0 k).2.1 (go3 rs l0 k).2.2,lefd rs (go3 rs l0 k).2.1 (go3 rs l0 k).2.2)
def G3 (rs:List Rl) (l0:List Int) (xs:List Stp) (d l:List Int):Prop:=go3 rs l0 xs.length=(xs,d,l)
theorem G3.nil (rs:List Rl) (l0:List Int):G3 rs l0 [] [] l0:=rfl
theorem G3.snoc {rs:List Rl} {l0:List Int} {xs:List Stp} {d l:List Int} (h:G3 rs l0 xs d l) (hl:l≠[]):G3 rs l0 (xs++[stp rs d l]) (d++layd rs d l) (lefd rs d l):=by
 unfold G3 at h ⊢
 rw [List.length_append,List.length_singleton,go3,h]
 simp only []
 rw [if_neg hl]
theorem go3_stay {rs:List Rl} {l0:List Int} {k:Nat} (h:(go3 rs l0 k).2.2=[]):∀ m,go3 rs l0 (k+m)=go3 rs l0 k
 | 0=>rfl
 | m+1=>by
  have ih:=go3_stay h m
  rw [←Nat.add_assoc,go3,ih,if_pos h]
theorem G3.one {rs:List Rl} {l0:List Int} {xs xs':List Stp} {d d':List Int} (h:G3 rs l0 xs d []) (h':G3 rs l0 xs' d' []):xs=xs'∧d=d':=by
 unfold G3 at h h'
 have key:∀ (a b:Nat),a≤b→(go3 rs l0 a).2.2=[]→go3 rs l0 b=go3 rs l0 a:=fun a b hab h0=>by
  have:=go3_stay h0 (b - a)
  rwa [show a+(b - a)=b by omega] at this
 have e:(xs,d,([]:List Int))=(xs',d',[]):=by
  rcases Nat.le_total xs.length xs'.length with hl | hl
  · have:=key _ _ hl (by rw [h])
    rw [h,h'] at this
    exact this.symm
  · have:=key _ _ hl (by rw [h'])
    rw [h,h'] at this
    exact this
 injection e with e1 e2
 injection e2 with e2 _
 exact ⟨e1,e2⟩
theorem ruleN_is {rs:List Rl} (d l:List Int):(ruleN rs d l=none∧nxtK rs d l rs.length = -1)∨∃ (i:Nat) (hi:i<rs.length),nxtK rs d l rs.length=i∧ruleN rs d l=some rs[i]:=by
 rcases nxtK_is rs d l rs.length (Nat.le_refl _) with h | ⟨i,hi,_,h1,_⟩
 · exact .inl ⟨by unfold ruleN;rw [if_pos (by omega)],h⟩
 · exact .inr ⟨i,hi,h1,by unfold ruleN;rw [if_neg (by omega),h1];simp [hi]⟩
theorem stp_none {rs:List Rl} {d l:List Int} (h:nxtK rs d l rs.length = -1):stp rs d l=⟨-1,d.length,l.length,1,1,0⟩∧layd rs d l=l.take 1∧lefd rs d l=l.drop 1:=by
 have e:ruleN rs d l=none:=by unfold ruleN;rw [if_pos (by omega)]
 unfold stp layd lefd
 rw [e]
 exact ⟨rfl,rfl,rfl⟩
theorem stp_rule {rs:List Rl} {d l:List Int} {i:Nat} (hi:i<rs.length) (h:nxtK rs d l rs.length=i):stp rs d l=⟨i,d.length,l.length,rs[i].key.length,rs[i].cu,(backP rs[i]).length⟩∧layd rs d l=(outs rs[i] (l.take rs[i].key.length)).take rs[i].cu.toNat∧lefd rs d l=(outs rs[i] (l.take rs[i].key.length)).drop rs[i].cu.toNat++l.drop rs[i].key.length:=by
 have e:ruleN rs d l=some rs[i]:=by unfold ruleN;rw [if_neg (by omega),h];simp [hi]
 unfold stp layd lefd
 rw [e,h]
 exact ⟨rfl,rfl,rfl⟩
structure G3K (rs:List Rl) (l0:List Int) (k:Nat) (p:List Stp × List Int × List Int):Prop where
 ok:GoOk rs l0 p.1
 lf:lft rs l0 p.1=p.2.2
 dn:(p.2.1.length:Int)=sumA p.1
 d16:p.2.1.length≤16*p.1.length
 un:AllU l0→AllU p.2.2∧AllU p.2.1
 k:p.1.length=k∨p.1.length≤k∧p.2.2=[]
theorem stp_ok {rs:List Rl} (hc:∀ r∈rs,chk r=0) (d:List Int) {l:List Int} (hl:l≠[]):OkStp rs l (stp rs d l)∧stepL rs l (stp rs d l)=lefd rs d l∧(layd rs d l).length=(stp rs d l).a∧(layd rs d l).length≤16∧(AllU l→AllU (layd rs d l)):=by
 have hl0:=List.length_pos_iff.2 hl
 rcases nextS_ok hc d hl0 with ⟨h,hok⟩ | ⟨i,hi,h,h2,h3,hok⟩
 · obtain ⟨e1,e2,e3⟩:=stp_none h
   rw [e1,e2,e3]
   refine ⟨hok,by unfold stepL;rw [if_pos (show (-1:Int)<0 by decide)],by simp;omega,by simp;omega,fun hu u h=>hu u (List.mem_of_mem_take h)⟩
 · obtain ⟨e1,e2,e3⟩:=stp_rule hi h
   rw [e1,e2,e3]
   have hO:=chk_ok (hc _ (List.getElem_mem hi))
   have ho:(outs rs[i] (l.take rs[i].key.length)).length=rs[i].res.length:=by simp [outs]
   have q1:=hO.r16
   have q2:=hO.c0
   have q3:=hO.c1
   have e4:((outs rs[i] (l.take rs[i].key.length)).take rs[i].cu.toNat).length=rs[i].cu.toNat:=by rw [List.length_take,ho];omega
   refine ⟨hok,?_,by rw [e4];show _=rs[i].cu;omega,by rw [e4];omega,fun hu u h => ?_⟩
   · rw [stepL_rule hi rfl rfl]
     simp [outs,backP,List.map_drop]
   · obtain ⟨p,hp,rfl⟩:=List.mem_map.1 (List.mem_of_mem_take h)
     exact (wr_any h3 hp).w
theorem go3_ok {rs:List Rl} (hc:∀ r∈rs,chk r=0) (l0:List Int):∀ k,G3K rs l0 k (go3 rs l0 k)
 | 0=>⟨GoOk.nil _ _,rfl,rfl,by simp [go3],fun h=>⟨h,fun u hu=>by simp [go3] at hu⟩,.inl rfl⟩
 | k+1=>by
  have ih:=go3_ok hc l0 k
  rw [go3]
  by_cases hl:(go3 rs l0 k).2.2=[]
  · rw [if_pos hl]
    exact ⟨ih.ok,ih.lf,ih.dn,ih.d16,ih.un,.inr ⟨by rcases ih.k with h | h <;> omega,hl⟩⟩
  · rw [if_neg hl]
    obtain ⟨h1,h2,h3,h4,h5⟩:=stp_ok hc (go3 rs l0 k).2.1 hl
    have hk:(go3 rs l0 k).1.length=k:=ih.k.resolve_right fun h=>hl h.2
    refine ⟨ih.ok.snoc (by rw [ih.lf];exact h1),by rw [lft_snoc,ih.lf];exact h2,?_,?_,fun hu => ?_,.inl (by simp [hk])⟩
    · have:=ih.dn
      rw [sumA_snoc,List.length_append]
      omega
    · have:=ih.d16
      simp only [List.length_append,List.length_singleton]
      omega
    · have:=ih.un hu
      refine ⟨?_,this.2.append (h5 this.1)⟩
      show AllU (lefd rs _ _)
      rw [←h2]
      exact h1.units this.1
theorem G3.k {rs:List Rl} (hc:∀ r∈rs,chk r=0) {l0:List Int} {xs:List Stp} {d l:List Int} (h:G3 rs l0 xs d l):G3K rs l0 xs.length (xs,d,l):=by
 have:=go3_ok hc l0 xs.length
 unfold G3 at h
 rwa [h] at this
theorem G3.lens {rs:List Rl} {st:St} (hF:Fin rs st) (hc:∀ r∈rs,chk r=0) {l0:List Int} {xs:List Stp} {d l:List Int} (h:G3 rs l0 xs d l):(xs.length:Int)+l.length≤wS rs st l0∧wS rs st l0≤64*l0.length∧d.length≤16*xs.length:=by
 have hk:=h.k hc
 have h1:=hk.ok.weight hF xs.length (Nat.le_refl _)
 have e:lft rs l0 (xs.take xs.length)=l:=by rw [List.take_length];exact hk.lf
 rw [e] at h1
 have h2:=(wS_len hF l0).2
 have h3:=(wS_len hF l).1
 exact ⟨by omega,h2,hk.d16⟩
def fin3 (rs:List Rl) (st:St) (l0:List Int):List Stp × List Int × List Int:=go3 rs l0 (wS rs st l0).toNat
theorem fin3_end {rs:List Rl} {st:St} (hF:Fin rs st) (hc:∀ r∈rs,chk r=0) (l0:List Int):(fin3 rs st l0).2.2=[]:=by
 unfold fin3
 have hk:=go3_ok hc l0 (wS rs st l0).toNat
 rcases hk.k with h | h
 · have h1:=hk.ok.weight hF _ (Nat.le_refl _)
   rw [List.take_length,hk.lf,h] at h1
   have h2:=(wS_len hF l0).1
   have h3:=(wS_len hF (go3 rs l0 (wS rs st l0).toNat).2.2).1
   exact List.eq_nil_of_length_eq_zero (by omega)
 · exact h.2
theorem go3_pre (rs:List Rl) (l0:List Int):∀ k m,(go3 rs l0 k).1 <+: (go3 rs l0 (k+m)).1
 | k,0=>List.prefix_refl _
 | k,m+1=>by
  refine (go3_pre rs l0 k m).trans ?_
  rw [←Nat.add_assoc,go3]
  split
  · exact List.prefix_refl _
  · exact List.prefix_append _ _
theorem fin3_G3 {rs:List Rl} {st:St} (hF:Fin rs st) (hc:∀ r∈rs,chk r=0) (l0:List Int):G3 rs l0 (fin3 rs st l0).1 (fin3 rs st l0).2.1 []:=by
 have he:=fin3_end hF hc l0
 have hk:=go3_ok hc l0 (wS rs st l0).toNat
 unfold G3
 have key:go3 rs l0 (fin3 rs st l0).1.length=fin3 rs st l0:=by
  have:∀ K,go3 rs l0 (go3 rs l0 K).1.length=go3 rs l0 K:=fun K=>by
   induction K with
   | zero=>rfl
   | succ K ih=>
    by_cases hl:(go3 rs l0 K).2.2=[]
    · have e:go3 rs l0 (K+1)=go3 rs l0 K:=by rw [go3,if_pos hl]
      rw [e,ih]
    · have hK:=(go3_ok hc l0 K).k.resolve_right fun h=>hl h.2
      have e:(go3 rs l0 (K+1)).1.length=K+1:=by rw [go3,if_neg hl];simp [hK]
      rw [e]
  exact this _
 rw [key]
 rcases hX:fin3 rs st l0 with ⟨a,b,c⟩
 rw [hX] at he
 simp only at he
 rw [he]
theorem G3.prefix {rs:List Rl} {l0:List Int} {xs xf:List Stp} {d l df:List Int} (h:G3 rs l0 xs d l) (hf:G3 rs l0 xf df []):xs=xf.take xs.length:=by
 unfold G3 at h hf
 rcases Nat.le_total xs.length xf.length with h1 | h1
 · have hp:=go3_pre rs l0 xs.length (xf.length - xs.length)
   rw [show xs.length+(xf.length - xs.length)=xf.length by omega,hf,h] at hp
   exact List.prefix_iff_eq_take.1 hp
 · have:=go3_stay (rs:=rs) (l0:=l0) (k:=xf.length) (by rw [hf]) (xs.length - xf.length)
   rw [show xf.length+(xs.length - xf.length)=xs.length by omega,h,hf] at this
   injection this with e _
   rw [e];simp
theorem beg_of_fit {r:Rl} {u:Int} {dn lr:List Int} (h:fitsB r dn (u::lr)=true):fitsB (key1 r) [] [u]=true:=by
 unfold fitsB at h
 rw [Bool.and_eq_true,decide_eq_true_iff] at h
 obtain ⟨h1,h2⟩:=h
 have hO:=chk_ok h1
 unfold fitB at h2
 rw [Bool.and_eq_true] at h2
 have hk:=hO.k0
 have hS:=hO.kS
 cases hke:r.key with
 | nil=>rw [hke] at hk;simp at hk
 | cons s ks=>
  rw [hke] at h2 hS
  have h3:=h2.1
  rw [List.cons_append] at h3
  unfold stU at h3
  rw [Bool.and_eq_true] at h3
  rw [List.all_cons,Bool.and_eq_true] at hS
  have hc:chk (key1 r)=0:=by
   unfold chk key1
   simp [hke,hS.1,fstE]
  unfold fitsB fitB
  rw [hc]
  simp [key1,hke,stU,h3.1]
theorem begF_fit {rs:List Rl} {u:Int} {dn lr:List Int} (n:Int):(begF rs u n && fitN rs dn (u::lr) n)=fitN rs dn (u::lr) n:=by
 unfold begF fitN
 cases rs[n.toNat]? with
 | none=>rfl
 | some r=>
  cases hf:fitsB r dn (u::lr) with
  | false=>simp [hf]
  | true=>simp [hf,beg_of_fit hf]
theorem nxtW_eq (rs:List Rl) (d dn:List Int) (u:Int) (lr:List Int):nxtW rs d dn (u::lr)=(d.find? (fitN rs dn (u::lr))).getD (-1):=by
 unfold nxtW begL
 rw [List.find?_filter]
 have e:(fun a=>decide (begF rs ((u::lr).headD 0) a=true∧fitN rs dn (u::lr) a=true))=fitN rs dn (u::lr):=by
  funext n
  have:=begF_fit (rs:=rs) (u:=u) (dn:=dn) (lr:=lr) n
  refine Eq.trans ?_ this
  rw [Bool.decide_and,Bool.decide_eq_true,Bool.decide_eq_true]
  rfl
 rw [e]
theorem pig:∀ (n:Nat) (f:Nat→Nat),(∀ i,i<n→f i<n)→(∀ i j,i<j→j<n→f i≠f j)→∀ m,m<n→∃ i,i<n∧f i=m
 | 0,_,_,_,m,hm=>by omega
 | n+1,f,h1,h2,m,hm=>by
  have ih:=pig n (fun i=>if f i=n then f n else f i) (fun i hi=>by
   have a:=h1 i (by omega)
   have b:=h1 n (by omega)
   have c:=h2 i n hi (by omega)
   show (if f i=n then f n else f i)<n
   split <;> omega) (fun i j hij hj=>by
   have a:=h2 i j hij (by omega)
   have b:=h2 i n (by omega) (by omega)
   have c:=h2 j n hj (by omega)
   show (if f i=n then f n else f i)≠(if f j=n then f n else f j)
   split <;> split <;> omega)
  by_cases hmn:m=n
  · by_cases hp:f n=n
    · exact ⟨n,by omega,by omega⟩
    · obtain ⟨i,hi,he⟩:=ih (f n) (by have:=h1 n (by omega);omega)
      have c:=h2 i n hi (by omega)
      have he:(if f i=n then f n else f i)=f n:=he
      split at he
      · rename_i h;exact ⟨i,by omega,by omega⟩
      · exact absurd he c
  · obtain ⟨i,hi,he⟩:=ih m (by omega)
    have he:(if f i=n then f n else f i)=m:=he
    split at he
    · exact ⟨n,by omega,he⟩
    · exact ⟨i,by omega,he⟩
theorem bAt_in {d:List Int} {i:Nat} (h:i<d.length):bAt d i=d[i]:=by simp [bAt,h]
theorem ord_all {key:Int→Int} {d:List Int} {n:Nat} (h:Sg key d 0 n) (m:Nat) (hm:m<n):∃ i,i<n∧bAt d i=(m:Int):=by
 obtain ⟨i,hi,he⟩:=pig n (fun i=>(bAt d i).toNat) (fun i hi=>by have:=h.r i (Nat.zero_le _) hi;show (bAt d i).toNat<n;omega) (fun i j hij hj=>by
  have a:=h.s i j (Nat.zero_le _) hij hj
  have b:=h.r i (Nat.zero_le _) (by omega)
  have c:=h.r j (Nat.zero_le _) hj
  show (bAt d i).toNat≠(bAt d j).toNat
  intro e
  have e2:bAt d i=bAt d j:=by omega
  unfold lt at a
  rw [e2] at a
  omega) m hm
 have b:=h.r i (Nat.zero_le _) hi
 have he:(bAt d i).toNat=m:=he
 exact ⟨i,hi,by omega⟩
theorem fitN_at {rs:List Rl} {dn lf:List Int} {j:Nat} (hj:j<rs.length) (hc:chk rs[j]=0):fitN rs dn lf (j:Int)=fitB rs[j] dn lf:=by
 unfold fitN
 rw [Int.toNat_natCast,List.getElem?_eq_getElem hj]
 simp [fitsB,hc]
theorem nxt_best {rs:List Rl} {d dn lf:List Int} (h:Sg (klI rs) d 0 rs.length) (hl:d.length=rs.length) (hall:(allE rs).2=0) (hck:∀ r∈rs,chk r=0):(d.find? (fitN rs dn lf)).getD (-1)=fdF rs dn lf:=by
 obtain ⟨m,hB⟩:=fdF_best dn lf hall
 have hfit:∀ (j:Nat) (hj:j<rs.length),fitN rs dn lf (j:Int)=fitB rs[j] dn lf:=fun j hj=>fitN_at hj (hck _ (List.getElem_mem hj))
 cases hf:d.find? (fitN rs dn lf) with
 | none=>
  have hno:=List.find?_eq_none.1 hf
  rcases hB with ⟨e,_⟩ | ⟨j,hj,_,_,hfj,_⟩
  · injection e with e _
    rw [e];rfl
  · obtain ⟨i,hi,he⟩:=ord_all h j hj
    rw [bAt_in (by omega)] at he
    have:=hno d[i] (List.getElem_mem (by omega))
    rw [he,hfit j hj] at this
    exact absurd hfj this
 | some x=>
  obtain ⟨hx,aa,bs,hd,has⟩:=List.find?_eq_some_iff_append.1 hf
  have hk:aa.length<d.length:=by rw [hd];simp
  have hdk:bAt d aa.length=x:=by rw [bAt_in hk];simp [hd]
  have hr:=h.r aa.length (Nat.zero_le _) (by omega)
  rw [hdk] at hr
  obtain ⟨j,rfl⟩:∃ j:Nat,x=(j:Int):=⟨x.toNat,by omega⟩
  have hj:j<rs.length:=by omega
  rw [hfit j hj] at hx
  rcases hB with ⟨_,hno⟩ | ⟨j',hj',_,e,hfj',hmax⟩
  · rw [hno j hj hj] at hx;cases hx
  · injection e with e _
    rw [e]
    show (j:Int)=(j':Int)
    obtain ⟨i,hi,he⟩:=ord_all h j' hj'
    by_cases hik:i<aa.length
    · have hmem:d[i]'(by omega)∈aa:=by
       have:d[i]'(by omega)=aa[i]:=by simp [hd,hik]
       rw [this]
       exact List.getElem_mem hik
      have:=has _ hmem
      rw [bAt_in (by omega)] at he
      rw [he,hfit j' hj',hfj'] at this
      cases this
    · by_cases hik2:i=aa.length
      · subst hik2;rw [←hdk,he]
      · have hlt:=h.s aa.length i (Nat.zero_le _) (by omega) hi
        rw [hdk,he] at hlt
        unfold lt at hlt
        rw [kl_at hj,kl_at hj'] at hlt
        have:=hmax j hj hj hx
        omega
theorem stB_iff:∀ (ls:List (List (Int × Int))) (us:List Int),stB ls us=true↔ls.length=us.length∧∀ (i:Nat) (s:List (Int × Int)) (u:Int),ls[i]? = some s→us[i]? = some u→hasB s u=true
 | [],[]=>by simp [stB]
 | [],u::us=>by simp [stB]
 | s::ls,[]=>by simp [stB]
 | s::ls,u::us=>by
  have e:stB (s::ls) (u::us)=(hasB s u && stB ls us):=by
   unfold stB
   simp only [List.length_cons,List.zip_cons_cons,List.all_cons,Nat.add_right_cancel_iff]
   cases decide (ls.length=us.length) <;> cases hasB s u <;> simp
  rw [e,Bool.and_eq_true,stB_iff ls us]
  constructor
  · rintro ⟨h1,h2,h3⟩
    refine ⟨by simp [h2],fun i a b ha hb => ?_⟩
    cases i with
    | zero=>simp at ha hb;subst ha hb;exact h1
    | succ i=>exact h3 i a b (by simpa using ha) (by simpa using hb)
  · rintro ⟨h1,h2⟩
    exact ⟨h2 0 s u rfl rfl,by simpa using h1,fun i a b ha hb=>h2 (i+1) a b (by simpa using ha) (by simpa using hb)⟩
theorem stU_iff:∀ (ss:List (List (Int × Int))) (us:List Int) (al:Bool),stU us ss al=true↔ss.length≤us.length∧(∀ (i:Nat) (s:List (Int × Int)) (u:Int),ss[i]? = some s→us[i]? = some u→hasB s u=true)∧(al=true→us.length≤ss.length)
 | [],us,al=>by
  rw [stU_end]
  cases us <;> cases al <;> simp
 | s::ss,[],al=>by simp [stU_none]
 | s::ss,u::us,al=>by
  rw [stU_cons,Bool.and_eq_true,stU_iff ss us al]
  constructor
  · rintro ⟨h1,h2,h3,h4⟩
    refine ⟨by simpa using h2,fun i a b ha hb => ?_,fun h=>by simpa using h4 h⟩
    cases i with
    | zero=>simp at ha hb;subst ha hb;exact h1
    | succ i=>exact h3 i a b (by simpa using ha) (by simpa using hb)
  · rintro ⟨h1,h2,h3⟩
    exact ⟨h2 0 s u rfl rfl,by simpa using h1,fun i a b ha hb=>h2 (i+1) a b (by simpa using ha) (by simpa using hb),fun h=>by simpa using h3 h⟩
theorem stF_fit (r:Rl) (d l:List Int):stF r d l=fitB r d l:=by
 rw [Bool.eq_iff_iff]
 unfold fitB stF
 rw [Bool.and_eq_true,stU_iff,stU_iff,List.length_append,List.length_reverse,List.length_reverse]
 by_cases h1:l.length<r.key.length+r.post.length∨d.length<r.ante.length
 · rw [if_pos h1]
   constructor
   · intro h;cases h
   · rintro ⟨⟨a,_⟩,b,_⟩;omega
 · rw [if_neg h1]
   by_cases h2:(r.bg=true∧r.ante.length<d.length)∨(r.en=true∧r.key.length+r.post.length<l.length)
   · rw [if_pos h2]
     constructor
     · intro h;cases h
     · rintro ⟨⟨_,_,a⟩,_,_,b⟩
       rcases h2 with ⟨e,h⟩ | ⟨e,h⟩
       · have:=b e;omega
       · have:=a e;omega
   · rw [if_neg h2,Bool.and_eq_true,Bool.and_eq_true,stB_iff,stB_iff,stB_iff]
     have hl1:r.key.length+r.post.length≤l.length:=by omega
     have hd1:r.ante.length≤d.length:=by omega
     constructor
     · rintro ⟨⟨⟨_,hk⟩,⟨_,hp⟩⟩,⟨_,ha⟩⟩
       refine ⟨⟨hl1,fun i s u hs hu => ?_,fun e => ?_⟩,hd1,fun i s u hs hu => ?_,fun e => ?_⟩
       · by_cases hi:i<r.key.length
         · rw [List.getElem?_append_left hi] at hs
           exact hk i s u hs (by rw [List.getElem?_take,if_pos hi];exact hu)
         · rw [List.getElem?_append_right (by omega)] at hs
           have hip:=(List.getElem?_eq_some_iff.1 hs).1
           refine hp (i - r.key.length) s u hs ?_
           rw [List.getElem?_take,if_pos hip,List.getElem?_drop,show r.key.length+(i - r.key.length)=i by omega]
           exact hu
       · rcases Nat.lt_or_ge (r.key.length+r.post.length) l.length with h | h
         · exact absurd (.inr ⟨e,h⟩) h2
         · exact h
       · have hi:i<r.ante.length:=by have:=(List.getElem?_eq_some_iff.1 hs).1;simpa using this
         rw [List.getElem?_reverse hi] at hs
         rw [List.getElem?_reverse (by omega)] at hu
         refine ha (r.ante.length - 1 - i) s u hs ?_
         rw [List.getElem?_drop,show d.length - r.ante.length+(r.ante.length - 1 - i)=d.length - 1 - i by omega]
         exact hu
       · rcases Nat.lt_or_ge r.ante.length d.length with h | h
         · exact absurd (.inl ⟨e,h⟩) h2
         · exact h
     · rintro ⟨⟨_,hk,_⟩,_,ha,_⟩
       refine ⟨⟨⟨by rw [List.length_take];omega,fun i s u hs hu => ?_⟩,⟨by rw [List.length_take,List.length_drop];omega,fun i s u hs hu => ?_⟩⟩,⟨by rw [List.length_drop];omega,fun i s u hs hu => ?_⟩⟩
       · have hi:=(List.getElem?_eq_some_iff.1 hs).1
         rw [List.getElem?_take,if_pos hi] at hu
         exact hk i s u (by rw [List.getElem?_append_left hi];exact hs) hu
       · have hi:=(List.getElem?_eq_some_iff.1 hs).1
         rw [List.getElem?_take,if_pos hi,List.getElem?_drop] at hu
         exact hk (r.key.length+i) s u (by rw [List.getElem?_append_right (by omega),show r.key.length+i - r.key.length=i by omega];exact hs) hu
       · have hi:=(List.getElem?_eq_some_iff.1 hs).1
         rw [List.getElem?_drop] at hu
         refine ha (r.ante.length - 1 - i) s u ?_ ?_
         · rw [List.getElem?_reverse (by omega),show r.ante.length - 1 - (r.ante.length - 1 - i)=i by omega];exact hs
         · rw [List.getElem?_reverse (by omega),show d.length - 1 - (r.ante.length - 1 - i)=d.length - r.ante.length+i by omega];exact hu
theorem nxtK_fd {rs:List Rl} (d l:List Int) (hO:∀ r∈rs,0<r.key.length):∀ k,k≤rs.length→nxtK rs d l k=(fdK rs d l k).1
 | 0,_=>rfl
 | k+1,hk=>by
  have hkl:k<rs.length:=hk
  have h0:=hO _ (List.getElem_mem hkl)
  have e:kl rs (k:Int)=rs[k].key.length:=by simp [kl,hkl]
  rw [nxtK,fdK_succ d l hkl,nxtK_fd d l hO k (by omega),List.getElem?_eq_getElem hkl,e]
  have hs:(((some rs[k]).map fun r=>stF r d l).getD false)=fitB rs[k] d l:=stF_fit _ _ _
  rw [hs]
  rcases fdK_best d l hO k (by omega) with ⟨e1,_⟩ | ⟨j,hj,_,e1,_⟩
  · rw [e1]
    by_cases hf:fitB rs[k] d l=true
    · rw [if_pos ⟨hf,.inl (by decide)⟩,if_pos ⟨h0,hf⟩]
    · rw [if_neg (fun h=>hf h.1),if_neg (fun h=>hf h.2)]
  · rw [e1]
    have ej:kl rs (j:Int)=rs[j].key.length:=by simp [kl,hj]
    simp only [ej]
    by_cases hf:fitB rs[k] d l=true∧rs[j].key.length<rs[k].key.length
    · rw [if_pos ⟨hf.1,.inr hf.2⟩,if_pos ⟨hf.2,hf.1⟩]
    · rw [if_neg,if_neg]
      · exact fun h=>hf ⟨h.2,h.1⟩
      · rintro ⟨h1,h2 | h2⟩
        · omega
        · exact hf ⟨h1,h2⟩
structure KAll (Z:Nat→Prop) (b:Nat) (X Y:World):Prop where
 bel:Below b X Y
 same:∀ k o,Z k→X.heap[k]? = some o→Y.heap[k]? = some o
theorem KAll.refl (Z:Nat→Prop) (b:Nat) (X:World):KAll Z b X X:=⟨Below.refl _ _,fun _ _ _ h=>h⟩
theorem KAll.trans {Z:Nat→Prop} {b:Nat} {X Y V:World} (h:KAll Z b X Y) (k:KAll Z b Y V):KAll Z b X V:=⟨h.bel.trans k.bel,fun i o hi ho=>k.same i o hi (h.same i o hi ho)⟩
theorem KAll.mono {Z Z':Nat→Prop} {b b':Nat} {X Y:World} (h:KAll Z b X Y) (hz:∀ k,Z' k→Z k) (hb:b'≤b):KAll Z' b' X Y:=⟨h.bel.mono hb,fun k o hk ho=>h.same k o (hz k hk) ho⟩
theorem KAll.grown {Z:Nat→Prop} {b:Nat} {X Y:World} (h:Grown X Y) (hb:b≤X.heap.size):KAll Z b X Y:=⟨h.below.mono hb,fun k _ _ ho=>(h.below.block k (blk_lt ho)).trans ho⟩
theorem KAll.put {Z:Nat→Prop} {b l:Nat} {X:World} (o:Obj) (hl:¬ Z l) (hb:b≤l):KAll Z b X (X.putObj l o):=⟨⟨rfl,rfl,rfl,by simp,fun k hk=>World.putObj_heap_other (by omega)⟩,fun k o' hk ho=>(World.putObj_heap_other (fun e=>hl (by rw [←e];exact hk))).trans ho⟩
theorem fr_put {X:World} {l:Nat} (o:Obj):Fr X (X.putObj l o) fun k=>k=l:=⟨rfl,rfl,rfl,by simp,fun k _ hn=>World.putObj_heap_other hn⟩
def Stab {α:Type} (Z:Nat→Prop) (J:List α→World→Prop):Prop:=∀ s X Y,J s X→Fr X Y Z→J s Y
def SeqZ {α:Type} (n g:Nat) (pa lb:Array Value) (enc:α→Array Value) (xf:List α) (b:Nat) (Z:Nat→Prop) (E:World→Prop) (V:World) (l:Nat):Prop:=
 ∀ (J Jx:List α→World→Prop),Stab Z J→Stab Z Jx →
  (∀ pre x X,J pre X→pre++[x] <+: xf→YieldAt Fence.wide (n - 1) Tryz.prog l (enc x) X fun e Y=>(e = .returned (.bool true)∧J (pre++[x]) Y∧KAll Z b X Y)∨(e = .returned (.bool false)∧Jx (pre++[x]) Y∧KAll Z b X Y)) →
  J [] V→CallsIn Fence.wide n Tryz.prog g (pa++#[.func (.yield l) #[] #[]]++lb) V fun e Y=>(∃ v,e = .returned v)∧((J xf Y∧E Y)∨∃ pre,(pre <+: xf∧pre≠[])∧Jx pre Y)
def wPost {α:Type} (Z:Nat→Prop) (b:Nat) (I:List α→World→Prop) (Ix:Code→List α→World→Prop) (s:List α) (X:World):Exit→Act→World→Prop
 | .normal,_,Y=>KAll Z b X Y∧I s Y
 | .ret,_,Y=>KAll Z b X Y∧Ix .ret s Y
 | .exit id,_,Y=>KAll Z b X Y∧Ix (.exit id) s Y
 | .goto t,_,Y=>KAll Z b X Y∧Ix (.goto t) s Y
 | .panic _,_,_=>False
 | .outgrown,_,_=>False
theorem wpIn_overR {α:Type} {enc:α→Array Value} {n:Nat} {g:Operand} {ps:Array Tmp} {assign body:Code} {Q:Exit→Act→World→Prop} {a:Act} {w:World} (h1:1≤n) {gf:Nat} {pa lb:Array Value}
 (hg:a.eval g = .func (.func gf) pa lb) (eg:∀ args w,(callFunc gf args).run Tryz.prog w = .ok (.enter gf args) w) {xf:List α} {b h:Nat} {Z:Nat→Prop} {E:World→Prop} (hh:h=w.heap.size) (hbh:b≤h) (hZ0:¬ Z h) (hZ1:¬ Z (h+1))
 (hseq:∀ r:Loop,SeqZ (n - 1) gf pa lb enc xf b Z E ((w.alloc (.deferred (some []))).alloc (.loop r)) (h+1)) (hE:∀ X o,E X→E (X.putObj (h+1) o)) (hps:∀ x,(enc x).size=ps.size)
 (I:List α→World→Prop) (Ix:Code→List α→World→Prop) (hI:Stab (fun k=>Z k∨h≤k) I) (hIx:∀ c,Stab (fun k=>Z k∨h≤k) (Ix c)) (h0:I [] w)
 (hround:∀ (l:Nat) (pre:List α) (x:α) (W:World),pre++[x] <+: xf→h+2≤W.heap.size→assign.wpIn (Fence.wide.inRound l) (n - 1 - 1) Tryz.prog (Exit.then (fun a' W'=>Grown W W'∧∀ X,I pre X→X.heap.size=W'.heap.size→(∀ k,k≠h+1→X.heap[k]? = W'.heap[k]?)→body.wpIn (Fence.wide.inRound l) (n - 1 - 1) Tryz.prog (wPost (fun k=>Z k∨h≤k) b I Ix (pre++[x]) X) a' X) (fun _ _ _=>False)) { tmps:=(ps.zip (enc x)).foldl (fun t (p,v)=>t.setIfInBounds p v) a.tmps,defers:=[] } W)
 (hdone:∀ (D:Nat) (W:World),h≤D→I xf W→E W→W.heap[D]? = some (.deferred (some []))→Q .normal { a with defers := { target := .collected D,args:=#[] } :: a.defers } W)
 (hstop:∀ (D:Nat) (c:Code) (pre:List α) (W:World),h≤D→(pre <+: xf∧pre≠[])→Ix c pre W→W.heap[D]? = some (.deferred (some []))→c.wpIn Fence.wide n Tryz.prog Q { a with defers := { target := .collected D,args:=#[] } :: a.defers } W) :
 (Code.rangeFunc g ps assign body).wpIn Fence.wide n Tryz.prog Q a w:=by
 refine wpIn_rangeFunc ?_
 intro fn hfn
 let rc:LoopState→Option Code→Loop:=fun st pe => { state:=st,pending:=pe,fn,tmps:=a.tmps,params:=ps,assign,body,defers:=h }
 let V:World:=(w.alloc (.deferred (some []))).alloc (.loop (rc .ready none))
 have hV:V.heap.size=h+2:=by simp [V,hh]
 have hV1:V.heap[h+1]? = some (.loop (rc .ready none)):=by
  have e:=World.alloc_heap_new (w.alloc (.deferred (some []))) (.loop (rc .ready none))
  rw [World.size_alloc,←hh] at e;exact e
 have hV0:V.heap[h]? = some (.deferred (some [])):=by
  have e:=World.alloc_heap_new w (.deferred (some []))
  rw [←hh] at e
  exact (Below.heap_alloc _ _ _ (by simp [hh])).trans e
 have hfV:Fr w V fun k=>Z k∨h≤k:=fr_grown (((Grown.refl w).alloc _).alloc _) _
 have far:∀ {X Y:World} {k:Nat} {o:Obj},Fr X Y Z→¬ Z k→X.heap[k]? = some o→Y.heap[k]? = some o:=fun {X Y k o} hf hk ho=>(hf.block k (blk_lt ho) hk).trans ho
 have wide:∀ {X Y:World},Fr X Y Z→Fr X Y fun k=>Z k∨h≤k:=fun {X Y} hf=>hf.mono fun _ _ e => .inl e
 have putI:∀ {X:World} {s:List α} (o:Obj),I s X→I s (X.putObj (h+1) o):=fun {X s} o hi=>hI s X _ hi ((fr_put o).mono fun k _ e => .inr (by omega))
 have putIx:∀ {X:World} {s:List α} {c:Code} (o:Obj),Ix c s X→Ix c s (X.putObj (h+1) o):=fun {X s c} o hi=>hIx c s X _ hi ((fr_put o).mono fun k _ e => .inr (by omega))
 refine ⟨h+1,[{ target := .collected h,args:=#[] }],V,{ target := .fn (.func gf) lb,args:=pa++#[.func (.yield (h+1)) #[] #[]] },V,gf,pa++#[.func (.yield (h+1)) #[] #[]]++lb,V,?_,?_,?_,?_,fun _=>h1,?_⟩
 · have e:=run_enterLoop_outer (P:=Tryz.prog) (w:=w) fn a.tmps ps assign body
   rw [←hh] at e
   exact e
 · simp only [resolve,hg]
   simp [go_sem]
 · intro f' _;trivial
 · simp [invoke,go_sem,eg]
 · refine (hseq (rc .ready none) (fun pre W=>I pre W∧W.heap[h+1]? = some (.loop (rc .ready none))∧W.heap[h]? = some (.deferred (some [])))
    (fun pre W=>∃ c,Ix c pre W∧W.heap[h+1]? = some (.loop (rc .done (some c)))∧W.heap[h]? = some (.deferred (some [])))
    (fun s X Y hs hf=>⟨hI s X Y hs.1 (wide hf),far hf hZ1 hs.2.1,far hf hZ0 hs.2.2⟩)
    (fun s X Y hs hf=>by
     obtain ⟨c,hc,e1,e2⟩:=hs
     exact ⟨c,hIx c s X Y hc (wide hf),far hf hZ1 e1,far hf hZ0 e2⟩) ?_ ⟨hI _ _ _ h0 hfV,hV1,hV0⟩).mono ?_
   · rintro pre x X ⟨hi,e1,e0⟩ hlen
     have hy:=run_yield (P:=Tryz.prog) (args:=enc x) e1 (by simp [rc,hps])
     have hlt:h+1<X.heap.size:=blk_lt e1
     refine ⟨fn,_,assign,body,hy,roundIn_of_wpIn hfn (wpIn_mono (hround _ pre x X hlen (by omega)) ?_)⟩
     clear hy
     rintro ee a' W' hp'
     cases ee with
     | exit id=>exact hp'.elim
     | goto t=>exact hp'.elim
     | ret=>exact hp'.elim
     | panic ch=>exact hp'.elim
     | outgrown=>exact hp'.elim
     | normal=>
     obtain ⟨hgx,hbody⟩:=hp'
     have e1':W'.heap[h+1]? = some (.loop (rc .ready none)):=(hgx.below.block _ hlt).trans e1
     have e0':W'.heap[h]? = some (.deferred (some [])):=(hgx.below.block _ (by omega)).trans e0
     refine ⟨_,run_beginRound e1' rfl,?_⟩
     let X2:World:=W'.putObj (h+1) (.loop { rc .ready none with state := .busy })
     have f1:X2.heap[h+1]? = some (.loop { rc .ready none with state := .busy }):=World.putObj_heap_same (blk_lt e1')
     have f0:X2.heap[h]? = some (.deferred (some [])):=(World.putObj_heap_other (by omega)).trans e0'
     have fk:KAll Z b X X2:=(KAll.grown hgx (by omega)).trans (KAll.put _ hZ1 (by omega))
     have hi2:I pre X2:=putI _ (hI _ _ _ hi (fr_grown hgx _))
     -- how a round ends
     have fin:∀ (jump:Option Code) (Y:World),KAll (fun k=>Z k∨h≤k) b X2 Y→∃ V',(Instr.endRound (h+1) jump).run Tryz.prog Y = .ok (.bool jump.isNone) V'∧V'=Y.putObj (h+1) (.loop (rc (if jump.isNone then .ready else .done) jump)) ∧
      V'.heap[h+1]? = some (.loop (rc (if jump.isNone then .ready else .done) jump))∧V'.heap[h]? = some (.deferred (some []))∧KAll Z b X V':=fun jump Y hY=>by
      have y1:=hY.same _ _ (.inr (by omega)) f1
      have y0:=hY.same _ _ (.inr (Nat.le_refl _)) f0
      exact ⟨_,run_endRound jump y1,rfl,World.putObj_heap_same (blk_lt y1),(World.putObj_heap_other (by omega)).trans y0,(fk.trans (hY.mono (fun _ e => .inl e) (Nat.le_refl _))).trans (KAll.put _ hZ1 (by omega))⟩
     refine wpIn_mono (hbody X2 hi2 (by simp [X2]) (fun k hk=>World.putObj_heap_other hk)) ?_
     rintro e a3 Y hp
     cases e with
     | normal=>
      obtain ⟨k1,k3⟩:=hp
      obtain ⟨V',hr,rfl,z1,z0,kz⟩:=fin none Y k1
      exact ⟨_,_,hr,.inl ⟨rfl,⟨putI _ k3,z1,z0⟩,kz⟩⟩
     | ret=>
      obtain ⟨k1,k3⟩:=hp
      obtain ⟨V',hr,rfl,z1,z0,kz⟩:=fin (some .ret) Y k1
      exact ⟨_,_,hr,.inr ⟨rfl,⟨.ret,putIx _ k3,z1,z0⟩,kz⟩⟩
     | exit id=>
      obtain ⟨k1,k3⟩:=hp
      obtain ⟨V',hr,rfl,z1,z0,kz⟩:=fin (some (.exit id)) Y k1
      exact ⟨_,_,hr,.inr ⟨rfl,⟨.exit id,putIx _ k3,z1,z0⟩,kz⟩⟩
     | goto t=>
      obtain ⟨k1,k3⟩:=hp
      obtain ⟨V',hr,rfl,z1,z0,kz⟩:=fin (some (.goto t)) Y k1
      exact ⟨_,_,hr,.inr ⟨rfl,⟨.goto t,putIx _ k3,z1,z0⟩,kz⟩⟩
     | panic ch=>exact hp.elim
     | outgrown=>exact hp.elim
   · rintro e Y ⟨⟨v,rfl⟩,(⟨⟨hi,e1,e0⟩,hEY⟩ | ⟨pre,hSp,c,hi,e1,e0⟩)⟩
     · exact ⟨none,_,run_endLoop e1 (by simp [rc]),hdone _ _ (Nat.le_refl _) (putI _ hi) (hE _ _ hEY) ((World.putObj_heap_other (by omega)).trans e0)⟩
     · exact ⟨some c,_,run_endLoop e1 (by simp [rc]),hstop _ c pre _ (Nat.le_refl _) hSp (putIx _ hi) ((World.putObj_heap_other (by omega)).trans e0)⟩
theorem wpIn_overZ {α:Type} {enc:α→Array Value} {n:Nat} {g:Operand} {ps:Array Tmp} {assign body:Code} {Q:Exit→Act→World→Prop} {a:Act} {w:World} (h1:1≤n) {gf:Nat} {pa lb:Array Value}
 (hg:a.eval g = .func (.func gf) pa lb) (eg:∀ args w,(callFunc gf args).run Tryz.prog w = .ok (.enter gf args) w) {xf:List α} {b h:Nat} {Z:Nat→Prop} {E:World→Prop} (hh:h=w.heap.size) (hbh:b≤h) (hZ0:¬ Z h) (hZ1:¬ Z (h+1))
 (hseq:∀ r:Loop,SeqZ (n - 1) gf pa lb enc xf b Z E ((w.alloc (.deferred (some []))).alloc (.loop r)) (h+1)) (hE:∀ X o,E X→E (X.putObj (h+1) o)) (hps:∀ x,(enc x).size=ps.size)
 (I:List α→World→Prop) (Ix:Code→List α→World→Prop) (hI:Stab (fun k=>Z k∨h≤k) I) (hIx:∀ c,Stab (fun k=>Z k∨h≤k) (Ix c)) (h0:I [] w) (a₁:α→World→Act) (gw:α→World→World) (hgw:∀ x W,Grown W (gw x W))
 (hassign:∀ (l:Nat) (x:α) (W:World) (K:Act→World→Prop),K (a₁ x W) (gw x W)→assign.wpIn (Fence.wide.inRound l) (n - 1 - 1) Tryz.prog (Exit.then K (fun _ _ _=>False)) { tmps:=(ps.zip (enc x)).foldl (fun t (p,v)=>t.setIfInBounds p v) a.tmps,defers:=[] } W)
 (hbody:∀ (l:Nat) (pre:List α) (x:α) (W X:World),I pre X→pre++[x] <+: xf→h+2≤W.heap.size→X.heap.size=(gw x W).heap.size→(∀ k,k≠h+1→X.heap[k]? = (gw x W).heap[k]?)→body.wpIn (Fence.wide.inRound l) (n - 1 - 1) Tryz.prog (wPost (fun k=>Z k∨h≤k) b I Ix (pre++[x]) X) (a₁ x W) X)
 (hdone:∀ (D:Nat) (W:World),h≤D→I xf W→E W→W.heap[D]? = some (.deferred (some []))→Q .normal { a with defers := { target := .collected D,args:=#[] } :: a.defers } W)
 (hstop:∀ (D:Nat) (c:Code) (pre:List α) (W:World),h≤D→(pre <+: xf∧pre≠[])→Ix c pre W→W.heap[D]? = some (.deferred (some []))→c.wpIn Fence.wide n Tryz.prog Q { a with defers := { target := .collected D,args:=#[] } :: a.defers } W) :
 (Code.rangeFunc g ps assign body).wpIn Fence.wide n Tryz.prog Q a w:=
 wpIn_overR h1 hg eg hh hbh hZ0 hZ1 hseq hE hps I Ix hI hIx h0 (fun l pre x W hpre hW=>hassign l x W _ ⟨hgw x W,fun X hX hs hk=>hbody l pre x W X hX hpre hW hs hk⟩) hdone hstop
theorem yield_wide {m m' l l1:Nat} {args:Array Value} {W:World} {R:Ending→World→Prop} (h:YieldAt Fence.wide m Tryz.prog l args W R):YieldAt (Fence.wide.inRound l1) m' Tryz.prog l args W R:=by
 obtain ⟨fn,tmps,assign,body,hy,hR⟩:=h
 exact ⟨fn,tmps,assign,body,hy,hR.1,fun c cs _=>hR.2 c cs (room_wide _)⟩
def fs1 (x:Stp):List Value:=[.int .i64 x.r,.int .i64 x.d,.int .i64 x.l,.int .i64 x.t,.int .i64 x.a,.int .i64 x.b]
def fs (xs:List Stp):List Value:=xs.flatMap fs1
theorem fs_append (l k:List Stp):fs (l++k)=fs l++fs k:=by simp [fs]
theorem fs_one (l:List Stp):∀ u∈fs l,u.oneCell'=true:=by
 intro u hu
 simp only [fs,List.mem_flatMap] at hu
 obtain ⟨x,_,hx⟩:=hu
 simp only [fs1,List.mem_cons,List.not_mem_nil,or_false] at hx
 rcases hx with rfl | rfl | rfl | rfl | rfl | rfl <;> rfl
def OwnS (w:World) (base:Nat) (v:Value) (l:List Stp):Prop:=w.ownsRow base 47 6 v l.length (fs l)
theorem OwnS.nil (w:World) (base:Nat):OwnS w base (.slice none 0 0) []:=World.ownsRow_nil _ _ _ _
theorem OwnS.below {w w':World} {base n:Nat} {v:Value} {l:List Stp} (h:OwnS w base v l) (hb:Below n w w') (hn:w.heap.size≤n):OwnS w' base v l:=by
 refine ⟨h.1,?_⟩
 rcases h.2 with h1 | ⟨g,cap,cur,h1,h2,h3,h4⟩
 · exact .inl h1
 · exact .inr ⟨g,cap,cur,h1,h2,blk_below h3 hb (by have:=blk_lt h3;omega),h4⟩
theorem OwnS.turn {w w':World} {base:Nat} {v:Value} {l:List Stp} (h:OwnS w base v l) (hk:∀ b,base≤b→w'.heap[b]? = w.heap[b]?):OwnS w' base v l:=by
 refine ⟨h.1,?_⟩
 rcases h.2 with h1 | ⟨g,cap,cur,h1,h2,h3,h4⟩
 · exact .inl h1
 · exact .inr ⟨g,cap,cur,h1,h2,(hk g h2).trans h3,h4⟩
theorem row_blk {w:World} {base size n:Nat} {e:TypeId} {v:Value} {xs:List Value} (h:w.ownsRow base e size v n xs):v.ownBlock=none∨∃ g cur,v.ownBlock=some g∧base≤g∧w.heap[g]? = some (.cells cur e (0,0)):=by
 rcases h.2 with ⟨rfl,_⟩ | ⟨g,cap,cur,rfl,h2,h3,_⟩
 · exact .inl rfl
 · exact .inr ⟨g,cur,rfl,h2,h3⟩
structure GS (w1:World) (op:Nat) (wr:World) (uv sv lv:Value) (d:List Int) (xs:List Stp) (l:List Int):Prop where
 blk:wr.heap[op]? = some (.cells #[uv,sv] 80 (0,0))
 own:OwnI wr (op+1) uv d
 ows:OwnS wr (op+1) sv xs
 lef:IR wr lv l
 lap:l≠[]→∀ g,lv.ownBlock=some g→g≠op∧uv.ownBlock≠some g∧sv.ownBlock≠some g∧g<wr.heap.size
 bel:Below op w1 wr
theorem ir_some {w:World} {v:Value} {l:List Int} (h:IR w v l) (hl:l≠[]):∃ g o n c,v = .slice (some ⟨g,o,none⟩) n c∧l.length=n∧n≤c∧IRd w g o l:=by
 obtain ⟨a,c,rfl,hc,hr⟩:=h
 obtain ⟨g,o,rfl,hd⟩:=hr.resolve_left hl
 exact ⟨g,o,_,c,rfl,rfl,hc,hd⟩
theorem ir_turn {w w':World} {v:Value} {l:List Int} (h:IR w v l) (hk:l≠[]→∀ g,v.ownBlock=some g→w'.heap[g]? = w.heap[g]?):IR w' v l:=by
 by_cases hl:l=[]
 · subst hl
   obtain ⟨a,c,rfl,hc,_⟩:=h
   exact ⟨a,c,rfl,hc,.inl rfl⟩
 · obtain ⟨g,o,n,c,rfl,h1,h2,hd⟩:=ir_some h hl
   exact ⟨_,c,by rw [h1],by omega,.inr ⟨g,o,rfl,fun j hj=>(cell_same (hk hl g rfl)).trans (hd j hj)⟩⟩
theorem GS.grown {w1:World} {op:Nat} {wr wr':World} {uv sv lv:Value} {d:List Int} {xs:List Stp} {l:List Int} (h:GS w1 op wr uv sv lv d xs l) (k:Grown wr wr'):GS w1 op wr' uv sv lv d xs l:=
 ⟨blk_below h.blk k.below (blk_lt h.blk),h.own.below k.below (Nat.le_refl _),h.ows.below k.below (Nat.le_refl _),h.lef.grown k,fun hl g hg=>by
  obtain ⟨a,b,c,e⟩:=h.lap hl g hg
  exact ⟨a,b,c,Nat.lt_of_lt_of_le e k.size⟩,h.bel.trans (k.below.mono (by have:=h.bel.size;have:=blk_lt h.blk;omega))⟩
theorem GS.apart {w1:World} {op:Nat} {wr:World} {uv sv lv:Value} {d:List Int} {xs:List Stp} {l:List Int} (h:GS w1 op wr uv sv lv d xs l):(uv.ownBlock=none∨uv.ownBlock≠sv.ownBlock)∧uv.ownBlock≠some op∧sv.ownBlock≠some op∧(∀ g,uv.ownBlock=some g→g<wr.heap.size)∧(∀ g,sv.ownBlock=some g→g<wr.heap.size):=by
 have h1:=row_blk h.own
 have h2:=row_blk h.ows
 refine ⟨?_,?_,?_,?_,?_⟩
 · rcases h1 with h1 | ⟨g,cur,h1,_,h3⟩
   · exact .inl h1
   · refine .inr fun e => ?_
     rcases h2 with h2 | ⟨g',cur',h2,_,h4⟩
     · rw [h1,h2] at e;cases e
     · rw [h1,h2] at e
       injection e with e
       subst e
       rw [h3] at h4
       injection h4 with h4
       injection h4 with _ h4
       cases h4
 · intro e
   rcases h1 with h1 | ⟨g,cur,h1,h5,_⟩
   · rw [h1] at e;cases e
   · rw [h1] at e;injection e with e;omega
 · intro e
   rcases h2 with h2 | ⟨g,cur,h2,h5,_⟩
   · rw [h2] at e;cases e
   · rw [h2] at e;injection e with e;omega
 · intro g hg
   rcases h1 with h1 | ⟨g',cur,h1,_,h3⟩
   · rw [h1] at hg;cases hg
   · rw [h1] at hg;injection hg with hg;subst hg;exact blk_lt h3
 · intro g hg
   rcases h2 with h2 | ⟨g',cur,h2,_,h3⟩
   · rw [h2] at hg;cases hg
   · rw [h2] at hg;injection hg with hg;subst hg;exact blk_lt h3
theorem GS.unit {w1:World} {op:Nat} {wr w2:World} {uv sv lv:Value} {d e:List Int} {xs:List Stp} {l:List Int} (h:GS w1 op wr uv sv lv d xs l) {g n cap:Nat} (ho:w2.ownsRow (op+1) 3 1 (.slice (some ⟨g,0,none⟩) n cap) n (ints (d++e))) (hn:n=(d++e).length) (hg:wr.grownBy w2 uv.ownBlock) (hG:uv.ownBlock=some g∨g=wr.heap.size) :
 GS w1 op (w2.setCell ⟨op,0,none⟩ (.slice (some ⟨g,0,none⟩) n cap)) (.slice (some ⟨g,0,none⟩) n cap) sv lv (d++e) xs l:=by
 obtain ⟨ap1,ap2,ap3,ap4,ap5⟩:=h.apart
 have hop:=blk_lt h.blk
 have hsz:w2.heap.size≤(w2.setCell ⟨op,0,none⟩ (.slice (some ⟨g,0,none⟩) n cap)).heap.size:=by simp
 have hb:w2.heap[op]? = some (.cells #[uv,sv] 80 (0,0)):=(hg.block op hop (fun x=>ap2 x.symm)).trans h.blk
 have ht:∀ b,op+1≤b→(w2.setCell ⟨op,0,none⟩ (.slice (some ⟨g,0,none⟩) n cap)).heap[b]? = w2.heap[b]? := fun b hb=>turns_set _ _ _ _ b (by omega)
 refine ⟨by rw [set_heap hb];rfl,?_,?_,?_,fun hl g' hg' => ?_,?_⟩
 · exact OwnI.turn (l:=d++e) (by unfold OwnI;rw [←hn];exact ho) ht
 · refine OwnS.turn (World.ownsRow.kept h.ows hg ?_) ht
   rcases ap1 with ap1 | ap1
   · rw [ap1]
     cases hs:sv.ownBlock with
     | none=>exact .inl rfl
     | some x=>exact .inr (by simp)
   · exact .inr fun x=>ap1 x.symm
 · refine ir_turn h.lef fun hl g' hg' => ?_
   obtain ⟨q1,q2,q3,q4⟩:=h.lap hl g' hg'
   rw [turns_set _ _ _ _ g' q1]
   exact hg.block g' q4 (fun x=>q2 x.symm)
 · obtain ⟨q1,q2,q3,q4⟩:=h.lap hl g' hg'
   refine ⟨q1,fun x => ?_,q3,by have:=hg.size;omega⟩
   have e1:g=g':=by simpa [Value.ownBlock] using x
   rcases hG with hG | hG
   · rw [e1] at hG;exact q2 hG
   · omega
 · exact ((h.bel.grown hg (by have:=h.bel.size;have:=hg.size;omega) (fun k hk=>by
    rcases row_blk h.own with h1 | ⟨g',_,h1,h2,_⟩
    · rw [h1] at hk;cases hk
    · rw [h1] at hk;injection hk with hk;omega)).setCell (Nat.le_refl _) _)
theorem GS.step {w1:World} {op:Nat} {wr w2:World} {uv sv lv:Value} {d:List Int} {xs e:List Stp} {l:List Int} (h:GS w1 op wr uv sv lv d xs l) {g n cap:Nat} (ho:w2.ownsRow (op+1) 47 6 (.slice (some ⟨g,0,none⟩) n cap) n (fs (xs++e))) (hn:n=(xs++e).length) (hg:wr.grownBy w2 sv.ownBlock) (hG:sv.ownBlock=some g∨g=wr.heap.size) :
 GS w1 op (w2.setCell ⟨op,1,none⟩ (.slice (some ⟨g,0,none⟩) n cap)) uv (.slice (some ⟨g,0,none⟩) n cap) lv d (xs++e) l:=by
 obtain ⟨ap1,ap2,ap3,ap4,ap5⟩:=h.apart
 have hop:=blk_lt h.blk
 have hsz:w2.heap.size≤(w2.setCell ⟨op,1,none⟩ (.slice (some ⟨g,0,none⟩) n cap)).heap.size:=by simp
 have hb:w2.heap[op]? = some (.cells #[uv,sv] 80 (0,0)):=(hg.block op hop (fun x=>ap3 x.symm)).trans h.blk
 have ht:∀ b,op+1≤b→(w2.setCell ⟨op,1,none⟩ (.slice (some ⟨g,0,none⟩) n cap)).heap[b]? = w2.heap[b]? := fun b hb=>turns_set _ _ _ _ b (by omega)
 refine ⟨by rw [set_heap hb];rfl,?_,?_,?_,fun hl g' hg' => ?_,?_⟩
 · exact OwnI.turn (World.ownsRow.kept h.own hg ap1) ht
 · exact OwnS.turn (l:=xs++e) (by unfold OwnS;rw [←hn];exact ho) ht
 · refine ir_turn h.lef fun hl g' hg' => ?_
   obtain ⟨q1,q2,q3,q4⟩:=h.lap hl g' hg'
   rw [turns_set _ _ _ _ g' q1]
   exact hg.block g' q4 (fun x=>q3 x.symm)
 · obtain ⟨q1,q2,q3,q4⟩:=h.lap hl g' hg'
   refine ⟨q1,q2,fun x => ?_,by have:=hg.size;omega⟩
   have e1:g=g':=by simpa [Value.ownBlock] using x
   rcases hG with hG | hG
   · rw [e1] at hG;exact q3 hG
   · omega
 · exact ((h.bel.grown hg (by have:=h.bel.size;have:=hg.size;omega) (fun k hk=>by
    rcases row_blk h.ows with h1 | ⟨g',_,h1,h2,_⟩
    · rw [h1] at hk;cases hk
    · rw [h1] at hk;injection hk with hk;omega)).setCell (Nat.le_refl _) _)
theorem GS.left {w1:World} {op:Nat} {wr:World} {uv sv lv lv':Value} {d:List Int} {xs:List Stp} {l l':List Int} (h:GS w1 op wr uv sv lv d xs l) (hi:IR wr lv' l') (ha:l'≠[]→∀ g,lv'.ownBlock=some g→g≠op∧uv.ownBlock≠some g∧sv.ownBlock≠some g∧g<wr.heap.size):GS w1 op wr uv sv lv' d xs l':=
 ⟨h.blk,h.own,h.ows,hi,ha,h.bel⟩
theorem sinfo49:(Tryz.prog.info? 47).map (fun i=>(i.zero,i.size,i.bytes))=some (some (.agg #[.int .i64 0,.int .i64 0,.int .i64 0,.int .i64 0,.int .i64 0,.int .i64 0]),6,48):=by kernel_rfl
theorem push_St {ops:Array Oper} {rest:List Oper} {o:Oper} {a:Act} {Q:Exit→Act→World→Prop} {w w1:World} {op:Nat} {uv sv lv:Value} {d:List Int} {xs:List Stp} {l:List Int} (hgd:o.guard=none) (s x:Operand)
 (ho:o.op = .call { callee := .builtin .append,args:=#[s,x],argTypes:=#[43,43] }) (hs:a.eval s=sv) (h:GS w1 op w uv sv lv d xs l) (gb c:Nat) (y:Stp) (hx:a.eval x = .slice (some ⟨gb,0,none⟩) 1 c)
 (hc:w.heap[gb]? = some (.cells (fs1 y).toArray 47 (0,0))) (hl:xs.length+1≤1000000000)
 (hK:∀ g cap w2,w2.ownsRow (op+1) 47 6 (.slice (some ⟨g,0,none⟩) (xs.length+1) cap) (xs.length+1) (fs (xs++[y]))→w.grownBy w2 sv.ownBlock→(sv.ownBlock=some g∨g=w.heap.size)→wpList Tryz.prog ops Q rest (a.put o.dst (.slice (some ⟨g,0,none⟩) (xs.length+1) cap)) w2):wpList Tryz.prog ops Q (o::rest) a w:=by
 obtain ⟨i0,hi,hz0,hz1,hz2⟩:=info_parts sinfo49
 have hown:=h.ows
 unfold OwnS at hown
 refine wpList_plain hgd fun _ hK2=>wp_append_lies w s x 43 ho (op+1) 47 i0 _ 6 48 Tryz.underlying43 hi hz0 hz1 hz2 rfl (by decide) sv xs.length (fs xs) hs hown ⟨gb,0,none⟩ 1 c (fs [y]) hx rfl ?_ (fs_one _) (by omega) (by unfold maxLen;omega) (by omega) (by have:=blk_lt h.blk;omega) _ rfl fun g cap w' h2 h3 h4 _=>hK2 _ _ (hK g cap w' (by rw [fs_append];exact h2) h3 h4)
 intro j u hj
 rw [add_at,Nat.zero_add,cell_of hc]
 simpa [fs] using hj
structure UP (w1:World) (op:Nat) (w:World) (uv sv lv:Value) (d':List Int) (xs:List Stp) (l:List Int) (uv':Value) (w2:World):Prop where
 gs:GS w1 op (w2.setCell ⟨op,0,none⟩ uv') uv' sv lv d' xs l
 sl:IsSl uv'
 c:w2.cell? ⟨op,0,none⟩=some uv
 f:w2.frozen? ⟨op,0,none⟩=false
 k:∀ b,b<w.heap.size→b≠op→uv.ownBlock≠some b→(w2.setCell ⟨op,0,none⟩ uv').heap[b]? = w.heap[b]?
theorem GS.up {w1:World} {op:Nat} {wr w2:World} {uv sv lv:Value} {d e:List Int} {xs:List Stp} {l:List Int} (h:GS w1 op wr uv sv lv d xs l) {g n cap:Nat} (ho:w2.ownsRow (op+1) 3 1 (.slice (some ⟨g,0,none⟩) n cap) n (ints (d++e))) (hn:n=(d++e).length) (hg:wr.grownBy w2 uv.ownBlock) (hG:uv.ownBlock=some g∨g=wr.heap.size):UP w1 op wr uv sv lv (d++e) xs l (.slice (some ⟨g,0,none⟩) n cap) w2:=by
 have hb:w2.heap[op]? = some (.cells #[uv,sv] 80 (0,0)):=(hg.block op (blk_lt h.blk) (fun x=>h.apart.2.1 x.symm)).trans h.blk
 exact ⟨h.unit ho hn hg hG,⟨_,_,_,rfl⟩,by rw [cell_of hb];simp,free_of hb,fun b h1 h2 h3=>(turns_set _ _ _ _ b h2).trans (hg.block b h1 (fun x=>h3 x.symm))⟩
theorem GS.same {w1:World} {op:Nat} {wr:World} {uv sv lv:Value} {d:List Int} {xs:List Stp} {l:List Int} (h:GS w1 op wr uv sv lv d xs l):UP w1 op wr uv sv lv d xs l uv wr:=by
 have ht:∀ b,op+1≤b→(wr.setCell ⟨op,0,none⟩ uv).heap[b]? = wr.heap[b]? := fun b hb=>turns_set _ _ _ _ b (by omega)
 refine ⟨⟨by rw [set_heap h.blk];rfl,h.own.turn ht,h.ows.turn ht,ir_turn h.lef fun hl g hg=>turns_set _ _ _ _ g (h.lap hl g hg).1,fun hl g hg => ?_,h.bel.setCell (Nat.le_refl _) _⟩,?_,by rw [cell_of h.blk];simp,free_of h.blk,fun b _ h2 _=>turns_set _ _ _ _ b h2⟩
 · obtain ⟨a,b,c,e⟩:=h.lap hl g hg
   exact ⟨a,b,c,by simpa using e⟩
 · obtain ⟨a,c,e⟩:=h.own.sl
   exact ⟨a,_,c,e⟩
theorem step_unit {ops:Array Oper} {o:Oper} {a:Act} {K:Act→World→Prop} {Q:Exit→Act→World→Prop} {E:Prop} {w w1:World} {op:Nat} {uv sv lv:Value} {d:List Int} {xs:List Stp} {l:List Int} (hgd:o.guard=none) (s x:Operand)
 (ho:o.op = .call { callee := .builtin .append,args:=#[s,x],argTypes:=#[38,38] }) (hs:a.eval s=uv) (h:GS w1 op w uv sv lv d xs l) (gb c:Nat) (p:Int) (hx:a.eval x = .slice (some ⟨gb,0,none⟩) 1 c)
 (hp:w.cell? ⟨gb,0,none⟩=some (.int .i64 p)) (hl:d.length+1≤1000000000)
 (hK:∀ uv' w2,UP w1 op w uv sv lv (d++[p]) xs l uv' w2→K (a.put o.dst uv') w2):if Region.wanted o (yielded ops a.tmps)=true then Oper.wp Tryz.prog o a w K Q else E:=by
 obtain ⟨i0,hi,hz0,hz1,hz2⟩:=info_parts iinfo3
 refine step_append_lies w hgd s x 38 ho (op+1) 3 i0 (.int .i64 0) 1 8 Tryz.underlying38 hi hz0 hz1 hz2 rfl (by decide) uv d.length (ints d) hs h.own ⟨gb,0,none⟩ 1 c (ints [p]) hx rfl ?_ (ints_one _) (by omega) (by unfold maxLen;omega) (by omega) (by have:=blk_lt h.blk;omega) _ rfl fun g cap w' h2 h3 h4 _=>hK _ w' (h.up (by rw [ints_append];exact h2) (by simp) h3 h4)
 intro j u hj
 match j,hj with
 | 0,hj=>simp [ints] at hj;subst hj;exact hp
theorem push_units {ops:Array Oper} {rest:List Oper} {o:Oper} {a:Act} {Q:Exit→Act→World→Prop} {w w1:World} {op:Nat} {uv sv lv:Value} {d:List Int} {xs:List Stp} {l:List Int} (hgd:o.guard=none) (s x:Operand)
 (ho:o.op = .call { callee := .builtin .append,args:=#[s,x],argTypes:=#[38,38] }) (hs:a.eval s=uv) (h:GS w1 op w uv sv lv d xs l) (e:List Int) (xv:Value) (hx:a.eval x=xv) (hi:IR w xv e) (hl:d.length+e.length≤1000000000)
 (hK:∀ uv' w2,UP w1 op w uv sv lv (d++e) xs l uv' w2→wpList Tryz.prog ops Q rest (a.put o.dst uv') w2):wpList Tryz.prog ops Q (o::rest) a w:=by
 obtain ⟨i0,hi0,hz0,hz1,hz2⟩:=info_parts iinfo3
 by_cases he:e=[]
 · subst he
   rw [List.append_nil] at hK
   obtain ⟨A,c,rfl⟩:=ir_nil hi
   obtain ⟨ua,uc,huv⟩:=h.own.sl
   have hle:d.length≤uc:=by obtain ⟨_,c',e',h1,_⟩:=h.own.ir;rw [huv] at e';injection e' with _ _ e3;omega
   refine wpList_plain hgd fun _ hK2 => ?_
   have hr:=run_append_nothing (P:=Tryz.prog) w 38 38 o.type 3 i0 Tryz.underlying38 hi0 ua d.length uc hle (.slice A 0 c) ?_
   · unfold Oper.wp execOp
     simp only [ho,resolve,invoke,builtin,Sem.run_bind,Sem.run_pure,Result.andThen_ok,List.map_toArray,List.map_cons,List.map_nil,hs,hx,huv,hr]
     exact hK2 _ _ (by rw [←huv];exact hK uv w h.same)
   · exact ⟨.inl ⟨3,Tryz.underlying38⟩,fun w'=>by cases A <;> simp [Builtin.lenOf,go_sem],by cases A <;> simp [Builtin.firstCells,go_sem],by cases A <;> simp [Builtin.firstCells,go_sem],by simp,by simp⟩
 · obtain ⟨g,o',n,c,rfl,h1,h2,hd⟩:=ir_some hi he
   refine wpList_append_lies w hgd s x 38 ho (op+1) 3 i0 (.int .i64 0) 1 8 Tryz.underlying38 hi0 hz0 hz1 hz2 rfl (by decide) uv d.length (ints d) hs h.own ⟨g,o',none⟩ n c (ints e) hx (by rw [ints_length];omega) ?_ (ints_one _) (by have:=List.length_pos_iff.2 he;omega) (by unfold maxLen;omega) (by omega) (by have:=blk_lt h.blk;omega) _ rfl fun g cap w' h2 h3 h4 _=>hK _ w' (h.up (by rw [ints_append];exact h2) (by rw [List.length_append];omega) h3 h4)
   intro j u hj
   simp only [ints,List.getElem?_map,Option.map_eq_some_iff] at hj
   obtain ⟨y,hy,rfl⟩:=hj
   obtain ⟨hj1,hj2⟩:=List.getElem?_eq_some_iff.1 hy
   rw [add_at,hd j hj1,hj2]
structure SP (w1:World) (op:Nat) (w:World) (uv sv lv:Value) (d:List Int) (xs':List Stp) (l:List Int) (sv':Value) (w2:World):Prop where
 gs:GS w1 op (w2.setCell ⟨op,1,none⟩ sv') uv sv' lv d xs' l
 sl:IsSl sv'
 c:w2.cell? ⟨op,1,none⟩=some sv
 f:w2.frozen? ⟨op,1,none⟩=false
theorem push_step {ops:Array Oper} {rest:List Oper} {o:Oper} {a:Act} {Q:Exit→Act→World→Prop} {w w1:World} {op:Nat} {uv sv lv:Value} {d:List Int} {xs:List Stp} {l:List Int} (hgd:o.guard=none) (s x:Operand)
 (ho:o.op = .call { callee := .builtin .append,args:=#[s,x],argTypes:=#[43,43] }) (hs:a.eval s=sv) (h:GS w1 op w uv sv lv d xs l) (gb c:Nat) (y:Stp) (hx:a.eval x = .slice (some ⟨gb,0,none⟩) 1 c)
 (hc:w.heap[gb]? = some (.cells (fs1 y).toArray 47 (0,0))) (hl:xs.length+1≤1000000000)
 (hK:∀ sv' w2,SP w1 op w uv sv lv d (xs++[y]) l sv' w2→wpList Tryz.prog ops Q rest (a.put o.dst sv') w2):wpList Tryz.prog ops Q (o::rest) a w:=
 push_St hgd s x ho hs h gb c y hx hc hl fun g cap w2 h1 h2 h3=>hK _ w2 (by
  have hb:w2.heap[op]? = some (.cells #[uv,sv] 80 (0,0)):=(h2.block op (blk_lt h.blk) (fun x=>h.apart.2.2.1 x.symm)).trans h.blk
  exact ⟨h.step h1 (by simp) h2 h3,⟨_,_,_,rfl⟩,by rw [cell_of hb];simp,free_of hb⟩)
end Go.Proofs
