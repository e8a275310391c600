/-
  Several texts in one (Hc Hd He Hf).
-/
import Derived.RangeFuncNested
import Derived.RangeFuncBound
import Derived.RangeFuncCalls
import Derived.RangeFuncLeaves
import Derived.Shelf.Abstract
import Derived.Shelf.RegionOpen
import Derived.WalkKit
import Derived.WalkSpells
import Derived.WalkLawsBesides
import Derived.OwnWalkIn
import Derived.TacticsInMore
import Derived.LoopNIn
import Derived.LoopIn
import Derived.BigQuiet
import Derived.RegionIn
import Derived.Deep.QuietTactic
import Derived.Deep.RegionWith
import Derived.Lib.OthersKept
import Derived.Maps.AppendAt
import Derived.Lib.SmallJoins
import Derived.Shelf.SlSortCmp.QuietGrown
import Derived.Test.YtcfcjljapamcoaaGreatDoorMgcv
import Derived.Deep.AppendLies
import Derived.Deep.RegionLaw
import Derived.Deep.DeepCutAuto
import Derived.Deep.CutBlock
import Derived.Laws.OwnMore
import Derived.Laws.ResultCell
import Derived.Test.YtcfcjljapamcoaaGreatDoorMgbv
namespace Go.Proofs
open Go.RowKit Go.Shelf
set_option maxRecDepth 100000
attribute [local go_sem] Oper.semAt_some
attribute [local go_sem ↓] Go.wp_at_zero Go.wp_at_succ
structure Srt (l m:List Int):Prop where
 p:m.Pairwise (· < ·)
 n:m.length≤l.length
 m:∀ x,x∈m↔x∈l
structure MJ (l a b o:List Int):Prop where
 pa:a.Pairwise (· < ·)
 pb:b.Pairwise (· < ·)
 po:o.Pairwise (· < ·)
 la:∀ x∈o,∀ y∈a,x<y
 lb:∀ x∈o,∀ y∈b,x<y
 m:∀ x,(x∈o∨x∈a∨x∈b)↔x∈l
 n:o.length+a.length+b.length≤l.length
theorem snoc_lt {o:List Int} {x:Int} (h:o.Pairwise (· < ·)) (k:∀ y∈o,y<x):(o++[x]).Pairwise (· < ·):=by
 rw [List.pairwise_append]
 exact ⟨h,List.pairwise_singleton _ _,fun a ha b hb=>by simp at hb;subst hb;exact k a ha⟩
theorem all_lt {x y:Int} {b:List Int} (h:(y::b).Pairwise (· < ·)) (hx:x<y):∀ z∈y::b,x<z:=by
 intro z hz
 rw [List.pairwise_cons] at h
 rcases List.mem_cons.1 hz with rfl | hz
 · exact hx
 · have:=h.1 z hz;omega
theorem MJ.left {l a b o:List Int} {x:Int} (h:MJ l (x::a) b o) (k:∀ y∈b,x<y):MJ l a b (o++[x]):=by
 have ha:=List.pairwise_cons.1 h.pa
 refine ⟨ha.2,h.pb,snoc_lt h.po (fun y hy=>h.la y hy x (by simp)),?_,?_,?_,?_⟩
 · intro z hz y hy
   rcases List.mem_append.1 hz with hz | hz
   · exact h.la z hz y (by simp [hy])
   · simp at hz;subst hz;exact ha.1 y hy
 · intro z hz y hy
   rcases List.mem_append.1 hz with hz | hz
   · exact h.lb z hz y hy
   · simp at hz;subst hz;exact k y hy
 · intro z
   rw [←h.m z]
   simp only [List.mem_append,List.mem_cons,List.not_mem_nil,or_false]
   constructor <;> (intro h;rcases h with h | h | h <;> first | (rcases h with h | h <;> simp [h];done) | (simp [h];done))
 · have:=h.n
   simp at this ⊢
   omega
theorem MJ.swap {l a b o:List Int} (h:MJ l a b o):MJ l b a o:=⟨h.pb,h.pa,h.po,h.lb,h.la,fun x=>by rw [←h.m x];constructor <;> (intro h;rcases h with h | h | h <;> simp [h]),by have:=h.n;omega⟩
theorem MJ.right {l a b o:List Int} {y:Int} (h:MJ l a (y::b) o) (k:∀ x∈a,y<x):MJ l a b (o++[y]):=(h.swap.left k).swap
theorem MJ.both {l a b o:List Int} {x:Int} (h:MJ l (x::a) (x::b) o):MJ l a b (o++[x]):=by
 have ha:=List.pairwise_cons.1 h.pa
 have hb:=List.pairwise_cons.1 h.pb
 refine ⟨ha.2,hb.2,snoc_lt h.po (fun y hy=>h.la y hy x (by simp)),?_,?_,?_,?_⟩
 · intro z hz y hy
   rcases List.mem_append.1 hz with hz | hz
   · exact h.la z hz y (by simp [hy])
   · simp at hz;subst hz;exact ha.1 y hy
 · intro z hz y hy
   rcases List.mem_append.1 hz with hz | hz
   · exact h.lb z hz y (by simp [hy])
   · simp at hz;subst hz;exact hb.1 y hy
 · intro z
   rw [←h.m z]
   simp only [List.mem_append,List.mem_cons,List.not_mem_nil,or_false]
   constructor
   · intro h;rcases h with (h | h) | h | h <;> simp [h]
   · intro h;rcases h with h | (h | h) | (h | h) <;> simp [h]
 · have:=h.n
   simp at this ⊢
   omega
theorem MJ.start {l a b:List Int} {n:Nat} (ha:Srt (l.take n) a) (hb:Srt (l.drop n) b):MJ l a b []:=by
 refine ⟨ha.p,hb.p,List.Pairwise.nil,by simp,by simp,?_,?_⟩
 · intro x
   rw [ha.m,hb.m]
   have e:x∈l↔x∈l.take n++l.drop n:=by rw [List.take_append_drop]
   rw [e,List.mem_append]
   simp
 · have:=ha.n
   have:=hb.n
   simp at *
   omega
theorem MJ.done {l o:List Int} (h:MJ l [] [] o):Srt l o:=⟨h.po,by have:=h.n;simp at this;omega,fun x=>by rw [←h.m x];simp⟩
theorem srt_small {l:List Int} (h:l.length<2):Srt l l:=by
 refine ⟨?_,Nat.le_refl _,fun _=>Iff.rfl⟩
 match l,h with
 | [],_=>exact List.Pairwise.nil
 | [x],_=>exact List.pairwise_singleton _ _
theorem ir_cons {w:World} {v:Value} {x:Int} {a:List Int} (h:IR w v (x::a)):∃ g o n c:Nat,v = .slice (some ⟨g,o,none⟩) n c∧n=a.length+1∧n≤c∧w.cell? ⟨g,o,none⟩=some (.int .i64 x)∧(c≠1→IR w (.slice (some ⟨g,o+1,none⟩) (n - 1) (c - 1)) a)∧(c=1→IR w (.slice (some ⟨g,o,none⟩) 0 0) a):=by
 obtain ⟨A,c,rfl,hc,hr⟩:=h
 obtain ⟨g,o,rfl,hd⟩:=hr.resolve_left (by simp)
 clear hr
 refine ⟨g,o,_,c,rfl,rfl,hc,?_,fun _=>⟨_,c - 1,by simp,by simp at hc;omega,.inr ⟨g,o+1,rfl,fun j hj => ?_⟩⟩,fun h1 => ?_⟩
 · exact hd 0 (by simp)
 · have:=hd (j+1) (by simpa using hj)
   rw [List.getElem_cons_succ] at this
   rw [←this,Nat.add_assoc,Nat.add_comm 1 j]
 · subst h1
   have:a=[]:=List.eq_nil_of_length_eq_zero (by rw [List.length_cons] at hc;omega)
   subst this
   exact ⟨_,0,rfl,Nat.le_refl _,.inl rfl⟩
theorem ir_nil {w:World} {v:Value} (h:IR w v []):∃ A c,v = .slice A 0 c:=by
 obtain ⟨A,c,rfl,_,_⟩:=h
 exact ⟨A,c,rfl⟩
theorem ir_take {w:World} {g o N c n:Nat} {l:List Int} (h:IR w (.slice (some ⟨g,o,none⟩) N c) l) (hn:n≤N):IR w (.slice (some ⟨g,o,none⟩) n c) (l.take n):=by
 obtain ⟨A,c',e,hc,hr⟩:=h
 injection e with e1 e2 e3
 subst e3
 have ht:(l.take n).length=n:=by rw [List.length_take];omega
 refine ⟨_,c,by rw [ht],by omega,?_⟩
 rcases hr with rfl | ⟨g',o',h1,hr⟩
 · exact .inl (by simp)
 · rw [←e1] at h1
   injection h1 with h1
   injection h1 with h1 h2
   subst h1 h2
   exact .inr ⟨g,o,rfl,fun j hj=>by rw [List.getElem_take];exact hr j (by omega)⟩
theorem ir_drop {w:World} {g o N c n:Nat} {l:List Int} (h:IR w (.slice (some ⟨g,o,none⟩) N c) l) (hn:n≤N):IR w (.slice (some ⟨g,o+n,none⟩) (N - n) (c - n)) (l.drop n):=by
 obtain ⟨A,c',e,hc,hr⟩:=h
 injection e with e1 e2 e3
 subst e3
 refine ⟨_,c - n,by rw [List.length_drop,e2],by rw [List.length_drop];omega,?_⟩
 rcases hr with rfl | ⟨g',o',h1,hr⟩
 · exact .inl (by simp)
 · rw [←e1] at h1
   injection h1 with h1
   injection h1 with h1 h2
   subst h1 h2
   exact .inr ⟨g,o+n,rfl,fun j hj=>by
    rw [List.length_drop] at hj
    have:=hr (n+j) (by omega)
    rw [List.getElem_drop,Nat.add_assoc]
    exact this⟩
theorem new_cell (W:World) (b:Nat) (x:Value) (t:TypeId) (h:W.heap.size=b):(W.alloc (.cells #[x] t)).cell? ⟨b,0,none⟩=some x:=by
 subst h
 simp
def SoQ (w:World) (l:List Int) (e:Ending) (w':World):Prop:=∃ v m,e = .returned v∧IR w' v m∧Srt l m∧Below w.heap.size w w'
set_option maxHeartbeats 4000000 in
theorem sorted_small (v:Value) (l:List Int) (w:World) (h2:l.length<2) (h:IR w v l):Calls Tryz.prog 79 #[v] w (SoQ w l):=by
 have HQ:Hid (SoQ w l (.returned v) w):=⟨v,l,rfl,h,srt_small h2,Below.refl _ _⟩
 obtain ⟨A,c,rfl,_,_⟩:=h
 generalize l.length=n at HQ h2 ⊢
 have hI:(n:Int)<2:=by omega
 go_enter Tryz.func79,Tryz.ntmps79
 go_wp2
 go_ret
 exact HQ.out
set_option maxHeartbeats 16000000 in
theorem sorted_any:∀ (k:Nat) (v:Value) (l:List Int) (w:World),l.length≤k→l.length≤1099511627776→IR w v l→Calls Tryz.prog 79 #[v] w (SoQ w l)
 | 0,v,l,w,hk,_,h=>sorted_small v l w (by omega) h
 | k+1,v,l,w,hk,hL,h=>by
  by_cases h2:l.length<2
  · exact sorted_small v l w h2 h
  have HI:Hid (∀ (v:Value) (l:List Int) (w:World),l.length≤k→l.length≤1099511627776→IR w v l→Calls Tryz.prog 79 #[v] w (SoQ w l)):=sorted_any k
  have HIR:Hid (IR w v l):=h
  obtain ⟨A,c,hv,hc,hr⟩:=h
  obtain ⟨g,o,hA,hd⟩:=hr.resolve_left (fun e=>by rw [e] at h2;simp at h2)
  clear hd
  subst hA
  subst hv
  obtain ⟨N,hN⟩:∃ N,l.length=N:=⟨_,rfl⟩
  have HN:Hid (l.length=N):=hN
  rw [hN] at HIR hc h2 hk hL ⊢
  obtain ⟨m,hm⟩:∃ m,N / 2=m:=⟨_,rfl⟩
  have hmI:(N:Int).tdiv 2=(m:Int):=by rw [Int.tdiv_eq_ediv_of_nonneg (by omega)];omega
  have hge:¬ (N:Int)<2:=by omega
  have hmN:(m:Int)≤(N:Int):=by omega
  have hm0:(0:Int)≤(m:Int):=by omega
  have hmc:(m:Int)≤(c:Int):=by omega
  have hNc:(N:Int)≤(c:Int):=by omega
  have hme:((m:Int) == (c:Int))=false:=by simp;omega
  have hmne:¬ m=c:=by omega
  have H1:Hid (Calls Tryz.prog 79 #[.slice (some ⟨g,o,none⟩) m c] w (SoQ w (l.take m))):=HI.out _ _ _ (by rw [List.length_take];omega) (by rw [List.length_take];omega) (ir_take HIR.out (by omega))
  have H2:Hid (∀ W,Below w.heap.size w W→Calls Tryz.prog 79 #[.slice (some ⟨g,o+m,none⟩) (N - m) (c - m)] W (SoQ W (l.drop m))):=fun W hb=>HI.out _ _ _ (by rw [List.length_drop];omega) (by rw [List.length_drop];omega) (ir_drop (HIR.out.below hb (Nat.le_refl _)) (by omega))
  have HL:Hid (N≤1099511627776):=hL
  have hmB:(m:Int)≤1099511627776:=by omega
  have hNB:(N:Int)≤1099511627776:=by omega
  clear hr hN HI hm hk hL
  go_enter Tryz.func79,Tryz.ntmps79
  go_wp2_with fail
  refine H1.out.mono ?_
  rintro e w1 ⟨va,la,rfl,hIa,hSa,hB1⟩
  have HA1:Hid (IR w1 va la∧Srt (l.take m) la∧Below w.heap.size w w1):=⟨hIa,hSa,hB1⟩
  obtain ⟨xa,na,ya,hva⟩:=hIa.sl
  subst hva
  clear hIa hSa hB1 H1
  go_wp2_with fail
  have H2':=H2.out w1 HA1.out.2.2
  refine H2'.mono ?_
  rintro e w2 ⟨vb,lb,rfl,hIb,hSb,hB2⟩
  have HA:Hid (IR w2 (.slice xa na ya) la∧IR w2 vb lb∧MJ l la lb []∧Below w.heap.size w w2):=⟨HA1.out.1.below hB2 (Nat.le_refl _),hIb,MJ.start HA1.out.2.1 hSb,HA1.out.2.2.trans (hB2.mono HA1.out.2.2.size)⟩
  obtain ⟨xb,nb,yb,hvb⟩:=hIb.sl
  subst hvb
  clear hIb hSb hB2 HA1 H2 H2' HIR
  go_wp2
  obtain ⟨w3,hw3⟩:∃ w3,w3=w2.alloc (.cells #[] 3):=⟨_,rfl⟩
  have HO3:Hid (OwnI w3 w2.heap.size (.slice (some ⟨w2.heap.size,0,none⟩) 0 0) []∧Below w2.heap.size w2 w3):=by
   rw [hw3]
   exact ⟨NewI.own ⟨w2.heap.size,rfl,Nat.le_refl _,Array.getElem?_push_size⟩ (Nat.zero_le _),((Grown.refl w2).alloc _).below⟩
  rw [←hw3]
  clear hw3
  go_loopg [4,5,6] (la.length+lb.length) (fun f va vb vo wr=>Hid (∃ a b oo,IR w2 va a∧IR w2 vb b∧OwnI wr w2.heap.size vo oo∧Below w2.heap.size w2 wr∧MJ l a b oo∧a.length+b.length=f))
  case atStart=>exact ⟨la,lb,[],HA.out.1,HA.out.2.1,HO3.out.1,HO3.out.2,HA.out.2.2.1,rfl⟩
  case round=>
   have HB:Hid (Below w.heap.size w w2):=HA.out.2.2.2
   clear HA HO3
   obtain ⟨a,b,oo,ha,hb,hoo,hB,hJ,hf⟩:=hrel.out
   clear hrel
   have HAa:Hid (IR w2 u4 a):=ha
   have HAb:Hid (IR w2 u5 b):=hb
   have HO:Hid (OwnI wr w2.heap.size u6 oo):=hoo
   have HW:Hid (Below w2.heap.size w2 wr):=hB
   have HJ:Hid (MJ l a b oo):=hJ
   have HF:Hid (a.length+b.length=gk):=hf
   have HLo:Hid (oo.length+1≤8796093022208∨(a=[]∧b=[])):=by
    have h1:=hJ.n
    rw [HN.out] at h1
    have h2:=HL.out
    exact .inl (by omega)
   obtain ⟨vo,no,co,hvo⟩:=hoo.ir.sl
   subst hvo
   clear ha hb hoo hB hJ hf
   match a,b,HAa,HAb,HJ,HF,HLo with
   | [],[],HAa,HAb,HJ,HF,HLo=>
    as_aux_lemma=>
     obtain ⟨A1,c1,rfl⟩:=ir_nil HAa.out
     obtain ⟨A2,c2,rfl⟩:=ir_nil HAb.out
     have HQ:Hid (SoQ w l (.returned (.slice vo no co)) wr):=⟨_,_,rfl,HO.out.ir,HJ.out.done,HB.out.trans (HW.out.mono HB.out.size)⟩
     clear HAa HAb HJ HF HLo HO
     go_wp2
     go_ret
     exact HQ.out
   | x::a,[],HAa,HAb,HJ,HF,HLo=>
    as_aux_lemma=>
     have HLL:Hid (oo.length+1≤8796093022208):=HLo.out.resolve_right (by simp)
     obtain ⟨ga,oa,na,ca,rfl,hna,hca,qa,Ta,Ua⟩:=ir_cons HAa.out
     have TTa:Hid (ca≠1→IR w2 (.slice (some ⟨ga,oa+1,none⟩) (na - 1) (ca - 1)) a):=Ta
     have UUa:Hid (ca=1→IR w2 (.slice (some ⟨ga,oa,none⟩) 0 0) a):=Ua
     have pa:=cell_below qa HW.out (Nat.le_refl _)
     have h0a:0<na:=by omega
     have i0a:(0:Int)<(na:Int):=by omega
     have i1a:(1:Int)≤(na:Int):=by omega
     have ica:(na:Int)≤(ca:Int):=by omega
     have d0a:decide (0<na)=true:=by simp;omega
     have e0a:(na == 0)=false:=by simp;omega
     have f0a:((na:Int) == 0)=false:=by simp;omega
     have HNa:Hid (na=a.length+1):=hna
     clear hna qa Ta Ua HAa
     obtain ⟨Ab,cb,rfl⟩:=ir_nil HAb.out
     have HNb:Hid (IR w2 (.slice Ab 0 cb) []):=HAb.out
     clear HAb
     have HP:Hid (∀ W,Grown wr W→OwnI W w2.heap.size (.slice vo no co) oo∧w2.heap.size≤W.heap.size∧Below w2.heap.size w2 W):=fun W hg=>by
      have hb6:Below wr.heap.size wr W:=hg.below
      exact ⟨HO.out.below hb6 (Nat.le_refl _),Nat.le_trans HW.out.size hb6.size,HW.out.trans (hb6.mono HW.out.size)⟩
     have HJ2:Hid (MJ l a [] (oo++[x])):=HJ.out.left (by simp)
     clear HJ HLo HO
     by_cases hxa:ca=1
     · have Ra:Hid (IR w2 (.slice (some ⟨ga,oa,none⟩) 0 0) a):=UUa.out hxa
       subst hxa
       clear TTa UUa
       go_wp2
       go_quiet (fail)
       skip
       go_wp2_with (at_builtin;go_must (refine push_I rfl _ _ 49 rfl Tryz.underlying49 w2.heap.size _ oo rfl (HP.out _ (by (repeat (first | exact Grown.refl _ | refine Grown.alloc ?_ _ | refine Grown.drew ?_ | refine Grown.drewN ?_ _ | refine Grown.quiet ?_ _ _)))).1 _ _ x rfl (by (first | (simp;done) | exact new_cell _ _ _ _ rfl)) HLL.out (HP.out _ (by (repeat (first | exact Grown.refl _ | refine Grown.alloc ?_ _ | refine Grown.drew ?_ | refine Grown.drewN ?_ _ | refine Grown.quiet ?_ _ _)))).2.1 ?_;intro v3 w3 hO3 hB3;have HE:Hid (OwnI w3 w2.heap.size v3 (oo++[x])∧Below w2.heap.size w2 w3):=⟨hO3,(HP.out _ (by (repeat (first | exact Grown.refl _ | refine Grown.alloc ?_ _ | refine Grown.drew ?_ | refine Grown.drewN ?_ _ | refine Grown.quiet ?_ _ _)))).2.2.trans hB3⟩;clear hO3 hB3))
       try go_wp2
       go_roundg (gk - 1)
       case measure=>have:=HF.out;simp at this;omega
       case rel=>exact ⟨_,_,oo++[x],Ra.out,HNb.out,HE.out.1,HE.out.2,HJ2.out,by have:=HF.out;simp at this ⊢;omega⟩
     · have Ra:Hid (IR w2 (.slice (some ⟨ga,oa+1,none⟩) (na - 1) (ca - 1)) a):=TTa.out hxa
       have x1a:((1:Int) == (ca:Int))=false:=by simp;omega
       have x2a:¬ 1=ca:=by omega
       clear TTa UUa
       go_wp2
       go_quiet (fail)
       skip
       go_wp2_with (at_builtin;go_must (refine push_I rfl _ _ 49 rfl Tryz.underlying49 w2.heap.size _ oo rfl (HP.out _ (by (repeat (first | exact Grown.refl _ | refine Grown.alloc ?_ _ | refine Grown.drew ?_ | refine Grown.drewN ?_ _ | refine Grown.quiet ?_ _ _)))).1 _ _ x rfl (by (first | (simp;done) | exact new_cell _ _ _ _ rfl)) HLL.out (HP.out _ (by (repeat (first | exact Grown.refl _ | refine Grown.alloc ?_ _ | refine Grown.drew ?_ | refine Grown.drewN ?_ _ | refine Grown.quiet ?_ _ _)))).2.1 ?_;intro v3 w3 hO3 hB3;have HE:Hid (OwnI w3 w2.heap.size v3 (oo++[x])∧Below w2.heap.size w2 w3):=⟨hO3,(HP.out _ (by (repeat (first | exact Grown.refl _ | refine Grown.alloc ?_ _ | refine Grown.drew ?_ | refine Grown.drewN ?_ _ | refine Grown.quiet ?_ _ _)))).2.2.trans hB3⟩;clear hO3 hB3))
       try go_wp2
       go_roundg (gk - 1)
       case measure=>have:=HF.out;simp at this;omega
       case rel=>exact ⟨_,_,oo++[x],Ra.out,HNb.out,HE.out.1,HE.out.2,HJ2.out,by have:=HF.out;simp at this ⊢;omega⟩
   | [],y::b,HAa,HAb,HJ,HF,HLo=>
    as_aux_lemma=>
     have HLL:Hid (oo.length+1≤8796093022208):=HLo.out.resolve_right (by simp)
     obtain ⟨gb,ob,nb,cb,rfl,hnb,hcb,qb,Tb,Ub⟩:=ir_cons HAb.out
     have TTb:Hid (cb≠1→IR w2 (.slice (some ⟨gb,ob+1,none⟩) (nb - 1) (cb - 1)) b):=Tb
     have UUb:Hid (cb=1→IR w2 (.slice (some ⟨gb,ob,none⟩) 0 0) b):=Ub
     have pb:=cell_below qb HW.out (Nat.le_refl _)
     have h0b:0<nb:=by omega
     have i0b:(0:Int)<(nb:Int):=by omega
     have i1b:(1:Int)≤(nb:Int):=by omega
     have icb:(nb:Int)≤(cb:Int):=by omega
     have d0b:decide (0<nb)=true:=by simp;omega
     have e0b:(nb == 0)=false:=by simp;omega
     have f0b:((nb:Int) == 0)=false:=by simp;omega
     have HNb:Hid (nb=b.length+1):=hnb
     clear hnb qb Tb Ub HAb
     obtain ⟨Aa,ca,rfl⟩:=ir_nil HAa.out
     have HNa:Hid (IR w2 (.slice Aa 0 ca) []):=HAa.out
     clear HAa
     have HP:Hid (∀ W,Grown wr W→OwnI W w2.heap.size (.slice vo no co) oo∧w2.heap.size≤W.heap.size∧Below w2.heap.size w2 W):=fun W hg=>by
      have hb6:Below wr.heap.size wr W:=hg.below
      exact ⟨HO.out.below hb6 (Nat.le_refl _),Nat.le_trans HW.out.size hb6.size,HW.out.trans (hb6.mono HW.out.size)⟩
     have HJ2:Hid (MJ l [] b (oo++[y])):=HJ.out.right (by simp)
     clear HJ HLo HO
     by_cases hxb:cb=1
     · have Rb:Hid (IR w2 (.slice (some ⟨gb,ob,none⟩) 0 0) b):=UUb.out hxb
       subst hxb
       clear TTb UUb
       go_wp2
       go_quiet (fail)
       go_wp2;go_quiet (fail)
       go_wp2_with (at_builtin;go_must (refine push_I rfl _ _ 49 rfl Tryz.underlying49 w2.heap.size _ oo rfl (HP.out _ (by (repeat (first | exact Grown.refl _ | refine Grown.alloc ?_ _ | refine Grown.drew ?_ | refine Grown.drewN ?_ _ | refine Grown.quiet ?_ _ _)))).1 _ _ y rfl (by (first | (simp;done) | exact new_cell _ _ _ _ rfl)) HLL.out (HP.out _ (by (repeat (first | exact Grown.refl _ | refine Grown.alloc ?_ _ | refine Grown.drew ?_ | refine Grown.drewN ?_ _ | refine Grown.quiet ?_ _ _)))).2.1 ?_;intro v3 w3 hO3 hB3;have HE:Hid (OwnI w3 w2.heap.size v3 (oo++[y])∧Below w2.heap.size w2 w3):=⟨hO3,(HP.out _ (by (repeat (first | exact Grown.refl _ | refine Grown.alloc ?_ _ | refine Grown.drew ?_ | refine Grown.drewN ?_ _ | refine Grown.quiet ?_ _ _)))).2.2.trans hB3⟩;clear hO3 hB3))
       try go_wp2
       go_roundg (gk - 1)
       case measure=>have:=HF.out;simp at this;omega
       case rel=>exact ⟨_,_,oo++[y],HNa.out,Rb.out,HE.out.1,HE.out.2,HJ2.out,by have:=HF.out;simp at this ⊢;omega⟩
     · have Rb:Hid (IR w2 (.slice (some ⟨gb,ob+1,none⟩) (nb - 1) (cb - 1)) b):=TTb.out hxb
       have x1b:((1:Int) == (cb:Int))=false:=by simp;omega
       have x2b:¬ 1=cb:=by omega
       clear TTb UUb
       go_wp2
       go_quiet (fail)
       go_wp2;go_quiet (fail)
       go_wp2_with (at_builtin;go_must (refine push_I rfl _ _ 49 rfl Tryz.underlying49 w2.heap.size _ oo rfl (HP.out _ (by (repeat (first | exact Grown.refl _ | refine Grown.alloc ?_ _ | refine Grown.drew ?_ | refine Grown.drewN ?_ _ | refine Grown.quiet ?_ _ _)))).1 _ _ y rfl (by (first | (simp;done) | exact new_cell _ _ _ _ rfl)) HLL.out (HP.out _ (by (repeat (first | exact Grown.refl _ | refine Grown.alloc ?_ _ | refine Grown.drew ?_ | refine Grown.drewN ?_ _ | refine Grown.quiet ?_ _ _)))).2.1 ?_;intro v3 w3 hO3 hB3;have HE:Hid (OwnI w3 w2.heap.size v3 (oo++[y])∧Below w2.heap.size w2 w3):=⟨hO3,(HP.out _ (by (repeat (first | exact Grown.refl _ | refine Grown.alloc ?_ _ | refine Grown.drew ?_ | refine Grown.drewN ?_ _ | refine Grown.quiet ?_ _ _)))).2.2.trans hB3⟩;clear hO3 hB3))
       try go_wp2
       go_roundg (gk - 1)
       case measure=>have:=HF.out;simp at this;omega
       case rel=>exact ⟨_,_,oo++[y],HNa.out,Rb.out,HE.out.1,HE.out.2,HJ2.out,by have:=HF.out;simp at this ⊢;omega⟩
   | x::a,y::b,HAa,HAb,HJ,HF,HLo=>
    as_aux_lemma=>
     have HLL:Hid (oo.length+1≤8796093022208):=HLo.out.resolve_right (by simp)
     obtain ⟨ga,oa,na,ca,rfl,hna,hca,qa,Ta,Ua⟩:=ir_cons HAa.out
     have TTa:Hid (ca≠1→IR w2 (.slice (some ⟨ga,oa+1,none⟩) (na - 1) (ca - 1)) a):=Ta
     have UUa:Hid (ca=1→IR w2 (.slice (some ⟨ga,oa,none⟩) 0 0) a):=Ua
     have pa:=cell_below qa HW.out (Nat.le_refl _)
     have h0a:0<na:=by omega
     have i0a:(0:Int)<(na:Int):=by omega
     have i1a:(1:Int)≤(na:Int):=by omega
     have ica:(na:Int)≤(ca:Int):=by omega
     have d0a:decide (0<na)=true:=by simp;omega
     have e0a:(na == 0)=false:=by simp;omega
     have f0a:((na:Int) == 0)=false:=by simp;omega
     have HNa:Hid (na=a.length+1):=hna
     clear hna qa Ta Ua
     obtain ⟨gb,ob,nb,cb,rfl,hnb,hcb,qb,Tb,Ub⟩:=ir_cons HAb.out
     have TTb:Hid (cb≠1→IR w2 (.slice (some ⟨gb,ob+1,none⟩) (nb - 1) (cb - 1)) b):=Tb
     have UUb:Hid (cb=1→IR w2 (.slice (some ⟨gb,ob,none⟩) 0 0) b):=Ub
     have pb:=cell_below qb HW.out (Nat.le_refl _)
     have h0b:0<nb:=by omega
     have i0b:(0:Int)<(nb:Int):=by omega
     have i1b:(1:Int)≤(nb:Int):=by omega
     have icb:(nb:Int)≤(cb:Int):=by omega
     have d0b:decide (0<nb)=true:=by simp;omega
     have e0b:(nb == 0)=false:=by simp;omega
     have f0b:((nb:Int) == 0)=false:=by simp;omega
     have HNb:Hid (nb=b.length+1):=hnb
     clear hnb qb Tb Ub
     have HP:Hid (∀ W,Grown wr W→OwnI W w2.heap.size (.slice vo no co) oo∧w2.heap.size≤W.heap.size∧Below w2.heap.size w2 W):=fun W hg=>by
      have hb6:Below wr.heap.size wr W:=hg.below
      exact ⟨HO.out.below hb6 (Nat.le_refl _),Nat.le_trans HW.out.size hb6.size,HW.out.trans (hb6.mono HW.out.size)⟩
     rcases Int.lt_trichotomy x y with hxy | hxy | hxy
     · as_aux_lemma=>
        have HJ2:Hid (MJ l a (y::b) (oo++[x])):=HJ.out.left (all_lt HJ.out.pb hxy)
        clear HJ HLo HO
        by_cases hxa:ca=1
        · have Ra:Hid (IR w2 (.slice (some ⟨ga,oa,none⟩) 0 0) a):=UUa.out hxa
          subst hxa
          clear TTa UUa
          go_wp2
          go_quiet (fail)
          skip
          go_wp2_with (at_builtin;go_must (refine push_I rfl _ _ 49 rfl Tryz.underlying49 w2.heap.size _ oo rfl (HP.out _ (by (repeat (first | exact Grown.refl _ | refine Grown.alloc ?_ _ | refine Grown.drew ?_ | refine Grown.drewN ?_ _ | refine Grown.quiet ?_ _ _)))).1 _ _ x rfl (by (first | (simp;done) | exact new_cell _ _ _ _ rfl)) HLL.out (HP.out _ (by (repeat (first | exact Grown.refl _ | refine Grown.alloc ?_ _ | refine Grown.drew ?_ | refine Grown.drewN ?_ _ | refine Grown.quiet ?_ _ _)))).2.1 ?_;intro v3 w3 hO3 hB3;have HE:Hid (OwnI w3 w2.heap.size v3 (oo++[x])∧Below w2.heap.size w2 w3):=⟨hO3,(HP.out _ (by (repeat (first | exact Grown.refl _ | refine Grown.alloc ?_ _ | refine Grown.drew ?_ | refine Grown.drewN ?_ _ | refine Grown.quiet ?_ _ _)))).2.2.trans hB3⟩;clear hO3 hB3))
          try go_wp2
          go_roundg (gk - 1)
          case measure=>have:=HF.out;simp at this;omega
          case rel=>exact ⟨_,_,oo++[x],Ra.out,HAb.out,HE.out.1,HE.out.2,HJ2.out,by have:=HF.out;simp at this ⊢;omega⟩
        · have Ra:Hid (IR w2 (.slice (some ⟨ga,oa+1,none⟩) (na - 1) (ca - 1)) a):=TTa.out hxa
          have x1a:((1:Int) == (ca:Int))=false:=by simp;omega
          have x2a:¬ 1=ca:=by omega
          clear TTa UUa
          go_wp2
          go_quiet (fail)
          skip
          go_wp2_with (at_builtin;go_must (refine push_I rfl _ _ 49 rfl Tryz.underlying49 w2.heap.size _ oo rfl (HP.out _ (by (repeat (first | exact Grown.refl _ | refine Grown.alloc ?_ _ | refine Grown.drew ?_ | refine Grown.drewN ?_ _ | refine Grown.quiet ?_ _ _)))).1 _ _ x rfl (by (first | (simp;done) | exact new_cell _ _ _ _ rfl)) HLL.out (HP.out _ (by (repeat (first | exact Grown.refl _ | refine Grown.alloc ?_ _ | refine Grown.drew ?_ | refine Grown.drewN ?_ _ | refine Grown.quiet ?_ _ _)))).2.1 ?_;intro v3 w3 hO3 hB3;have HE:Hid (OwnI w3 w2.heap.size v3 (oo++[x])∧Below w2.heap.size w2 w3):=⟨hO3,(HP.out _ (by (repeat (first | exact Grown.refl _ | refine Grown.alloc ?_ _ | refine Grown.drew ?_ | refine Grown.drewN ?_ _ | refine Grown.quiet ?_ _ _)))).2.2.trans hB3⟩;clear hO3 hB3))
          try go_wp2
          go_roundg (gk - 1)
          case measure=>have:=HF.out;simp at this;omega
          case rel=>exact ⟨_,_,oo++[x],Ra.out,HAb.out,HE.out.1,HE.out.2,HJ2.out,by have:=HF.out;simp at this ⊢;omega⟩
     · as_aux_lemma=>
        subst hxy
        have HJ2:Hid (MJ l a b (oo++[x])):=HJ.out.both
        have hxn:¬ x<x:=by omega
        clear HJ HLo HO
        by_cases hxa:ca=1
        · have Ra:Hid (IR w2 (.slice (some ⟨ga,oa,none⟩) 0 0) a):=UUa.out hxa
          subst hxa
          clear TTa UUa
          by_cases hxb:cb=1
          · have Rb:Hid (IR w2 (.slice (some ⟨gb,ob,none⟩) 0 0) b):=UUb.out hxb
            subst hxb
            clear TTb UUb
            go_wp2
            go_quiet (fail)
            go_wp2;go_quiet (fail)
            go_wp2_with (at_builtin;go_must (refine push_I rfl _ _ 49 rfl Tryz.underlying49 w2.heap.size _ oo rfl (HP.out _ (by (repeat (first | exact Grown.refl _ | refine Grown.alloc ?_ _ | refine Grown.drew ?_ | refine Grown.drewN ?_ _ | refine Grown.quiet ?_ _ _)))).1 _ _ x rfl (by (first | (simp;done) | exact new_cell _ _ _ _ rfl)) HLL.out (HP.out _ (by (repeat (first | exact Grown.refl _ | refine Grown.alloc ?_ _ | refine Grown.drew ?_ | refine Grown.drewN ?_ _ | refine Grown.quiet ?_ _ _)))).2.1 ?_;intro v3 w3 hO3 hB3;have HE:Hid (OwnI w3 w2.heap.size v3 (oo++[x])∧Below w2.heap.size w2 w3):=⟨hO3,(HP.out _ (by (repeat (first | exact Grown.refl _ | refine Grown.alloc ?_ _ | refine Grown.drew ?_ | refine Grown.drewN ?_ _ | refine Grown.quiet ?_ _ _)))).2.2.trans hB3⟩;clear hO3 hB3))
            try go_wp2
            go_roundg (gk - 2)
            case measure=>have:=HF.out;simp at this;omega
            case rel=>exact ⟨_,_,oo++[x],Ra.out,Rb.out,HE.out.1,HE.out.2,HJ2.out,by have:=HF.out;simp at this ⊢;omega⟩
          · have Rb:Hid (IR w2 (.slice (some ⟨gb,ob+1,none⟩) (nb - 1) (cb - 1)) b):=TTb.out hxb
            have x1b:((1:Int) == (cb:Int))=false:=by simp;omega
            have x2b:¬ 1=cb:=by omega
            clear TTb UUb
            go_wp2
            go_quiet (fail)
            go_wp2;go_quiet (fail)
            go_wp2_with (at_builtin;go_must (refine push_I rfl _ _ 49 rfl Tryz.underlying49 w2.heap.size _ oo rfl (HP.out _ (by (repeat (first | exact Grown.refl _ | refine Grown.alloc ?_ _ | refine Grown.drew ?_ | refine Grown.drewN ?_ _ | refine Grown.quiet ?_ _ _)))).1 _ _ x rfl (by (first | (simp;done) | exact new_cell _ _ _ _ rfl)) HLL.out (HP.out _ (by (repeat (first | exact Grown.refl _ | refine Grown.alloc ?_ _ | refine Grown.drew ?_ | refine Grown.drewN ?_ _ | refine Grown.quiet ?_ _ _)))).2.1 ?_;intro v3 w3 hO3 hB3;have HE:Hid (OwnI w3 w2.heap.size v3 (oo++[x])∧Below w2.heap.size w2 w3):=⟨hO3,(HP.out _ (by (repeat (first | exact Grown.refl _ | refine Grown.alloc ?_ _ | refine Grown.drew ?_ | refine Grown.drewN ?_ _ | refine Grown.quiet ?_ _ _)))).2.2.trans hB3⟩;clear hO3 hB3))
            try go_wp2
            go_roundg (gk - 2)
            case measure=>have:=HF.out;simp at this;omega
            case rel=>exact ⟨_,_,oo++[x],Ra.out,Rb.out,HE.out.1,HE.out.2,HJ2.out,by have:=HF.out;simp at this ⊢;omega⟩
        · have Ra:Hid (IR w2 (.slice (some ⟨ga,oa+1,none⟩) (na - 1) (ca - 1)) a):=TTa.out hxa
          have x1a:((1:Int) == (ca:Int))=false:=by simp;omega
          have x2a:¬ 1=ca:=by omega
          clear TTa UUa
          by_cases hxb:cb=1
          · have Rb:Hid (IR w2 (.slice (some ⟨gb,ob,none⟩) 0 0) b):=UUb.out hxb
            subst hxb
            clear TTb UUb
            go_wp2
            go_quiet (fail)
            go_wp2;go_quiet (fail)
            go_wp2_with (at_builtin;go_must (refine push_I rfl _ _ 49 rfl Tryz.underlying49 w2.heap.size _ oo rfl (HP.out _ (by (repeat (first | exact Grown.refl _ | refine Grown.alloc ?_ _ | refine Grown.drew ?_ | refine Grown.drewN ?_ _ | refine Grown.quiet ?_ _ _)))).1 _ _ x rfl (by (first | (simp;done) | exact new_cell _ _ _ _ rfl)) HLL.out (HP.out _ (by (repeat (first | exact Grown.refl _ | refine Grown.alloc ?_ _ | refine Grown.drew ?_ | refine Grown.drewN ?_ _ | refine Grown.quiet ?_ _ _)))).2.1 ?_;intro v3 w3 hO3 hB3;have HE:Hid (OwnI w3 w2.heap.size v3 (oo++[x])∧Below w2.heap.size w2 w3):=⟨hO3,(HP.out _ (by (repeat (first | exact Grown.refl _ | refine Grown.alloc ?_ _ | refine Grown.drew ?_ | refine Grown.drewN ?_ _ | refine Grown.quiet ?_ _ _)))).2.2.trans hB3⟩;clear hO3 hB3))
            try go_wp2
            go_roundg (gk - 2)
            case measure=>have:=HF.out;simp at this;omega
            case rel=>exact ⟨_,_,oo++[x],Ra.out,Rb.out,HE.out.1,HE.out.2,HJ2.out,by have:=HF.out;simp at this ⊢;omega⟩
          · have Rb:Hid (IR w2 (.slice (some ⟨gb,ob+1,none⟩) (nb - 1) (cb - 1)) b):=TTb.out hxb
            have x1b:((1:Int) == (cb:Int))=false:=by simp;omega
            have x2b:¬ 1=cb:=by omega
            clear TTb UUb
            go_wp2
            go_quiet (fail)
            go_wp2;go_quiet (fail)
            go_wp2_with (at_builtin;go_must (refine push_I rfl _ _ 49 rfl Tryz.underlying49 w2.heap.size _ oo rfl (HP.out _ (by (repeat (first | exact Grown.refl _ | refine Grown.alloc ?_ _ | refine Grown.drew ?_ | refine Grown.drewN ?_ _ | refine Grown.quiet ?_ _ _)))).1 _ _ x rfl (by (first | (simp;done) | exact new_cell _ _ _ _ rfl)) HLL.out (HP.out _ (by (repeat (first | exact Grown.refl _ | refine Grown.alloc ?_ _ | refine Grown.drew ?_ | refine Grown.drewN ?_ _ | refine Grown.quiet ?_ _ _)))).2.1 ?_;intro v3 w3 hO3 hB3;have HE:Hid (OwnI w3 w2.heap.size v3 (oo++[x])∧Below w2.heap.size w2 w3):=⟨hO3,(HP.out _ (by (repeat (first | exact Grown.refl _ | refine Grown.alloc ?_ _ | refine Grown.drew ?_ | refine Grown.drewN ?_ _ | refine Grown.quiet ?_ _ _)))).2.2.trans hB3⟩;clear hO3 hB3))
            try go_wp2
            go_roundg (gk - 2)
            case measure=>have:=HF.out;simp at this;omega
            case rel=>exact ⟨_,_,oo++[x],Ra.out,Rb.out,HE.out.1,HE.out.2,HJ2.out,by have:=HF.out;simp at this ⊢;omega⟩
     · as_aux_lemma=>
        have HJ2:Hid (MJ l (x::a) b (oo++[y])):=HJ.out.right (all_lt HJ.out.pa hxy)
        have hxn:¬ x<y:=by omega
        have hxd:decide (x<y)=false:=by simp;omega
        clear HJ HLo HO
        by_cases hxb:cb=1
        · have Rb:Hid (IR w2 (.slice (some ⟨gb,ob,none⟩) 0 0) b):=UUb.out hxb
          subst hxb
          clear TTb UUb
          go_wp2
          go_quiet (fail)
          go_wp2;go_quiet (fail)
          go_wp2_with (at_builtin;go_must (refine push_I rfl _ _ 49 rfl Tryz.underlying49 w2.heap.size _ oo rfl (HP.out _ (by (repeat (first | exact Grown.refl _ | refine Grown.alloc ?_ _ | refine Grown.drew ?_ | refine Grown.drewN ?_ _ | refine Grown.quiet ?_ _ _)))).1 _ _ y rfl (by (first | (simp;done) | exact new_cell _ _ _ _ rfl)) HLL.out (HP.out _ (by (repeat (first | exact Grown.refl _ | refine Grown.alloc ?_ _ | refine Grown.drew ?_ | refine Grown.drewN ?_ _ | refine Grown.quiet ?_ _ _)))).2.1 ?_;intro v3 w3 hO3 hB3;have HE:Hid (OwnI w3 w2.heap.size v3 (oo++[y])∧Below w2.heap.size w2 w3):=⟨hO3,(HP.out _ (by (repeat (first | exact Grown.refl _ | refine Grown.alloc ?_ _ | refine Grown.drew ?_ | refine Grown.drewN ?_ _ | refine Grown.quiet ?_ _ _)))).2.2.trans hB3⟩;clear hO3 hB3))
          try go_wp2
          go_roundg (gk - 1)
          case measure=>have:=HF.out;simp at this;omega
          case rel=>exact ⟨_,_,oo++[y],HAa.out,Rb.out,HE.out.1,HE.out.2,HJ2.out,by have:=HF.out;simp at this ⊢;omega⟩
        · have Rb:Hid (IR w2 (.slice (some ⟨gb,ob+1,none⟩) (nb - 1) (cb - 1)) b):=TTb.out hxb
          have x1b:((1:Int) == (cb:Int))=false:=by simp;omega
          have x2b:¬ 1=cb:=by omega
          clear TTb UUb
          go_wp2
          go_quiet (fail)
          go_wp2;go_quiet (fail)
          go_wp2_with (at_builtin;go_must (refine push_I rfl _ _ 49 rfl Tryz.underlying49 w2.heap.size _ oo rfl (HP.out _ (by (repeat (first | exact Grown.refl _ | refine Grown.alloc ?_ _ | refine Grown.drew ?_ | refine Grown.drewN ?_ _ | refine Grown.quiet ?_ _ _)))).1 _ _ y rfl (by (first | (simp;done) | exact new_cell _ _ _ _ rfl)) HLL.out (HP.out _ (by (repeat (first | exact Grown.refl _ | refine Grown.alloc ?_ _ | refine Grown.drew ?_ | refine Grown.drewN ?_ _ | refine Grown.quiet ?_ _ _)))).2.1 ?_;intro v3 w3 hO3 hB3;have HE:Hid (OwnI w3 w2.heap.size v3 (oo++[y])∧Below w2.heap.size w2 w3):=⟨hO3,(HP.out _ (by (repeat (first | exact Grown.refl _ | refine Grown.alloc ?_ _ | refine Grown.drew ?_ | refine Grown.drewN ?_ _ | refine Grown.quiet ?_ _ _)))).2.2.trans hB3⟩;clear hO3 hB3))
          try go_wp2
          go_roundg (gk - 1)
          case measure=>have:=HF.out;simp at this;omega
          case rel=>exact ⟨_,_,oo++[y],HAa.out,Rb.out,HE.out.1,HE.out.2,HJ2.out,by have:=HF.out;simp at this ⊢;omega⟩
def pcB (p:Pc):List Int:=if p.k=1 then [p.u,p.u+1] else if p.k=3 then endsL p.tl else []
def backB (l:List Pc):List Int:=l.flatMap pcB
def rlB (r:Rl):List Int:=endsL (keyAt r.key 0)++backB (backP r)
def bords (rs:List Rl):List Int:=rs.flatMap rlB
theorem backB_succ {l:List Pc} {k:Nat} (hk:k<l.length):backB (l.take (k+1))=backB (l.take k)++pcB l[k]:=by
 rw [take_pc hk,backB,List.flatMap_append]
 simp [backB]
theorem bords_succ {l:List Rl} {k:Nat} (hk:k<l.length):bords (l.take (k+1))=bords (l.take k)++rlB l[k]:=by
 rw [List.take_add_one,List.getElem?_eq_getElem hk,bords,List.flatMap_append]
 simp [bords]
theorem pcB_len {r:Rl} (hO:Ok r) {p:Pc} (hp:p∈backP r):(pcB p).length≤1024:=by
 unfold pcB
 split
 · simp
 · split
   · rename_i h
     have:=mayB_len hO hp
     rw [mayB,if_pos h] at this
     rw [endsL_len];omega
   · simp
theorem backB_len:∀ {l:List Pc},(∀ p∈l,(pcB p).length≤1024)→(backB l).length≤1024*l.length
 | [],_=>by simp [backB]
 | p::l,h=>by
  have h1:=backB_len (l:=l) fun q hq=>h q (by simp [hq])
  have h2:=h p (by simp)
  unfold backB at h1 ⊢
  rw [List.flatMap_cons,List.length_append,List.length_cons]
  omega
theorem keyG {r:Rl} (hO:Ok r):(keyAt r.key 0).length≤512∧Good (keyAt r.key 0):=by
 have hk:=hO.k0
 have e:keyAt r.key 0=r.key[0]:=by simp [keyAt,hk]
 rw [e]
 have:=List.all_eq_true.1 hO.kS r.key[0] (List.getElem_mem hk)
 simp only [okS,Bool.and_eq_true] at this
 exact (validB_iff _).1 this.1
theorem rlB_len {r:Rl} (hO:Ok r):(rlB r).length≤17408:=by
 unfold rlB
 rw [List.length_append,endsL_len]
 have:=(keyG hO).1
 have h1:=backB_len (l:=backP r) fun p hp=>pcB_len hO hp
 have h2:(backP r).length≤16:=by have:=hO.r16;simp [backP];omega
 omega
theorem bords_len:∀ {rs:List Rl},(∀ r∈rs,Ok r)→(bords rs).length≤17408*rs.length
 | [],_=>by simp [bords]
 | r::rs,h=>by
  have h1:=bords_len (rs:=rs) fun q hq=>h q (by simp [hq])
  have h2:=rlB_len (h r (by simp))
  unfold bords at h1 ⊢
  rw [List.flatMap_cons,List.length_append,List.length_cons]
  omega
theorem good_bound {s:List (Int × Int)} (h:Good s):∀ x∈s,-9000000000000000000≤x.2∧x.2≤9000000000000000000:=fun x hx=>by
 have:=h.1 x hx
 unfold Whole at this
 omega
def BoQ (w:World) (rs:List Rl) (e:Ending) (w':World):Prop:=∃ v m,e = .returned v∧IR w' v m∧Srt (0::bords rs) m∧Below w.heap.size w w'
set_option maxHeartbeats 16000000 in
theorem borders_any (v:Value) (rs:List Rl) (w:World) (h:PsR w v rs) (hO:∀ r∈rs,Ok r) (hn:rs.length≤1000000):Calls Tryz.prog 86 #[v] w (BoQ w rs):=by
 have HP:Hid (PsR w v rs):=h
 obtain ⟨ra,rc,rfl,_,_⟩:=h
 obtain ⟨n,hN⟩:∃ n,rs.length=n:=⟨_,rfl⟩
 have HN:Hid (rs.length=n):=hN
 have HO:Hid (∀ r∈rs,Ok r):=hO
 have hnI:(n:Int)≤1000000:=by omega
 rw [hN] at HP ⊢
 have HBL:Hid (∀ k,(bords (rs.take k)).length≤17408000000):=fun k=>by
  have h1:=bords_len (rs:=rs.take k) fun r hr=>hO r (List.mem_of_mem_take hr)
  rw [List.length_take] at h1
  omega
 have HE:Hid (∀ (V:World) (vv sv:Value) (l:List Int) (s:List (Int × Int)),Rs w sv s→Below w.heap.size w V→OwnI V w.heap.size vv l→Good s→l.length+2*s.length≤8796093022208→Calls Tryz.prog 114 #[vv,sv] V fun e w'=>∃ v',e = .returned v'∧OwnI w' w.heap.size v' (l++endsL s)∧Below w.heap.size V w'):=fun V vv sv l s h1 h2 h3 h4 h5=>ends_any vv sv l s V w h1 h2 h3 (good_bound h4) h5
 have HSo:Hid (∀ (V:World) (vv:Value) (l:List Int),Below w.heap.size w V→OwnI V w.heap.size vv l→l.length≤1099511627776→l=0::bords rs→Calls Tryz.prog 79 #[vv] V (BoQ w rs)):=fun V vv l hb ho hl he=>(sorted_any l.length vv l V (Nat.le_refl _) hl ho.ir).mono fun e w' ⟨v',m,h1,h2,h3,h4⟩=>⟨v',m,h1,h2,by rw [←he];exact h3,hb.trans (h4.mono hb.size)⟩
 obtain ⟨b0,hb0⟩:∃ b0,w.heap.size=b0:=⟨_,rfl⟩
 have HZ:Hid (w.heap.size=b0):=hb0
 rw [hb0] at HE HSo
 clear hN hO hn
 go_enter Tryz.func86,Tryz.ntmps86
 go_wp2
 try rw [hb0]
 obtain ⟨w1,hw1⟩:∃ w1,w1=w.alloc (.cells #[.int .i64 0] 3):=⟨_,rfl⟩
 have H1:Hid (OwnI w1 b0 (.slice (some ⟨b0,0,none⟩) 1 1) [0]∧Below b0 w w1):=by
  rw [hw1,←hb0]
  exact ⟨NewI.own ⟨w.heap.size,rfl,Nat.le_refl _,Array.getElem?_push_size⟩ (by simp [maxLen]),((Grown.refl w).alloc _).below⟩
 rw [←hw1]
 clear hw1 hb0
 go_loopw [3,4] (fun vr vi wr=>∃ k:Nat,vi = .int .i64 k∧k≤n∧Hid (OwnI wr b0 vr (0::bords (rs.take k))∧Below b0 w wr)) (fun _ vi _=>n - (intOf vi).toNat)
 case atStart=>exact ⟨0,rfl,by omega,by have:=H1.out;simpa [bords,Hid] using this⟩
 case round=>
  obtain ⟨k,rfl,hk,HX⟩:=hrel
  clear H1
  have hk0:(0:Int)≤(k:Int):=by omega
  obtain ⟨va,vc,rfl⟩:=HX.out.1.sl
  by_cases hlt:k<n
  · have hlt':(k:Int)<(n:Int):=by omega
    have hkl:k<rs.length:=by rw [HN.out];exact hlt
    obtain ⟨a',c',e',_,hPr⟩:=HP.out
    obtain ⟨g,o,ha',hPd⟩:=hPr.resolve_left (fun e=>by rw [e] at hkl;simp at hkl)
    injection e' with e1 e2 e3
    clear e2 e3
    rw [ha'] at e1
    subst e1
    obtain ⟨av,kv,pv,rv,q0,q1,q2,q3,q4,q5,q6,hR⟩:=hPd k hkl
    have hOk:=HO.out _ (List.getElem_mem hkl)
    have HBS:Hid (bords (rs.take (k+1))=bords (rs.take k)++rlB rs[k]):=bords_succ hkl
    obtain ⟨r,hr⟩:∃ r,rs[k]=r:=⟨_,rfl⟩
    rw [hr] at q0 q4 q6 hR hOk HBS
    have HR:Hid (RR w av kv pv rv r):=hR
    have HOk:Hid (Ok r):=hOk
    have HBk:Hid (∀ wx,Calls Tryz.prog 85 #[.agg #[.bool r.bg,av,kv,pv,.bool r.en,rv,.int .i64 r.cu]] wx fun e w'=>∃ v,e = .returned v∧PR w v (backP r)∧Grown wx w'):=fun wx=>rback_any r av kv pv rv wx w hR hOk.c0 hOk.c1
    have HQ:Hid (∀ V,Below b0 w V→V.cell? ⟨g,o+k*7,none⟩=some (.bool r.bg)∧V.cell? ⟨g,o+k*7+1,none⟩=some av∧V.cell? ⟨g,o+k*7+2,none⟩=some kv∧V.cell? ⟨g,o+k*7+3,none⟩=some pv∧V.cell? ⟨g,o+k*7+4,none⟩=some (.bool r.en)∧V.cell? ⟨g,o+k*7+5,none⟩=some rv∧V.cell? ⟨g,o+k*7+6,none⟩=some (.int .i64 r.cu)):=fun V hb=>by
     have hz:w.heap.size≤b0:=Nat.le_of_eq HZ.out
     exact ⟨cell_below q0 hb hz,cell_below q1 hb hz,cell_below q2 hb hz,cell_below q3 hb hz,cell_below q4 hb hz,cell_below q5 hb hz,cell_below q6 hb hz⟩
    obtain ⟨ka,kc,hkv,hkc,hks⟩:=hR.k
    obtain ⟨kg,ko,hka,hkd⟩:=hks.resolve_left (fun e=>by have:=hOk.k0;rw [e] at this;simp at this)
    subst hka
    obtain ⟨sv,qs,hs⟩:=hkd 0 hOk.k0
    have HS:Hid (Rs w sv (keyAt r.key 0)):=by
     have hk:=hOk.k0
     have e:keyAt r.key 0=r.key[0]:=by simp [keyAt,hk]
     rw [e];exact hs
    rw [Nat.add_zero] at qs
    obtain ⟨kn,hkn⟩:∃ kn,r.key.length=kn:=⟨_,rfl⟩
    have hkn0:(0:Int)<(kn:Int):=by have:=hOk.k0;omega
    have hkn1:0<kn:=by have:=hOk.k0;omega
    rw [hkn] at hkv
    subst hkv
    have HKc:Hid (∀ V,Below b0 w V→V.cell? ⟨kg,ko,none⟩=some sv):=fun V hb=>cell_below qs hb (Nat.le_of_eq HZ.out)
    obtain ⟨a1,n1,c1,rfl⟩:=hR.a.sl
    obtain ⟨a3,n3,c3,rfl⟩:=hR.p.sl
    obtain ⟨a5,n5,c5,rfl⟩:=hR.r.sl
    obtain ⟨sa,sn,sc,rfl⟩:=hs.sl
    have HE1:=HE.out wr _ _ _ _ HS.out HX.out.2 HX.out.1 (keyG HOk.out).2 (by have:=HBL.out k;have:=(keyG HOk.out).1;simp;omega)
    generalize (0::bords (rs.take k)).length=vn at HE1 HX ⊢
    have HE2:=Hid.mk' HE1
    obtain ⟨xb,hxb⟩:∃ xb,r.bg=xb:=⟨_,rfl⟩
    obtain ⟨xe,hxe⟩:∃ xe,r.en=xe:=⟨_,rfl⟩
    obtain ⟨xc,hxc⟩:∃ xc,r.cu=xc:=⟨_,rfl⟩
    rw [hxb,hxe,hxc] at HBk HQ
    obtain ⟨z0,z1,z2,z3,z4,z5,z6⟩:=HQ.out wr HX.out.2
    have y0:=HKc.out wr HX.out.2
    clear q0 q1 q2 q3 q4 q5 q6 qs hxb hxe hxc hr hR hOk hkn hs hkd hks ha' hPr hPd HE1 hkc
    go_wp2_with fail
    refine HE2.out.mono ?_
    rintro e w2 ⟨v2,rfl,hO2,hB2⟩
    have HX2:Hid (OwnI w2 b0 v2 ((0::bords (rs.take k))++endsL (keyAt r.key 0))∧Below b0 w w2):=⟨hO2,HX.out.2.trans hB2⟩
    clear z0 z1 z2 z3 z4 z5 z6 y0 hO2 hB2 HE2 HX
    obtain ⟨va2,vc2,rfl⟩:=HX2.out.1.sl
    obtain ⟨z0,z1,z2,z3,z4,z5,z6⟩:=HQ.out w2 HX2.out.2
    generalize ((0::bords (rs.take k))++endsL (keyAt r.key 0)).length=vn2 at HX2 ⊢
    go_wp2_with fail
    refine (HBk.out _).mono ?_
    rintro e w3 ⟨pv3,rfl,hPR,hG3⟩
    have HPR:Hid (PR w pv3 (backP r)):=hPR
    have HX3:Hid (OwnI w3 b0 (.slice va2 vn2 vc2) ((0::bords (rs.take k))++endsL (keyAt r.key 0))∧Below b0 w w3):=⟨HX2.out.1.below hG3.below (Nat.le_refl _),HX2.out.2.trans (hG3.below.mono (by have:=HX2.out.2.size;have:=HZ.out;omega))⟩
    clear z0 z1 z2 z3 z4 z5 z6 HBk HQ HKc hG3 HX2 hPR
    have HPC:Hid (∀ p∈backP r,(p.k=1∨p.k=2∨p.k=3)∧(p.k≠2→Good (mayB p))∧(pcB p).length≤1024):=fun p hp=>⟨by rcases pc_ok (HOk.out.pc p (List.mem_of_mem_drop hp)) with h | h | h <;> omega,fun h2=>mayB_good HOk.out hp h2,pcB_len HOk.out hp⟩
    have HL16:Hid ((backP r).length≤16):=by have:=HOk.out.r16;show _≤_;simp [backP];omega
    have HBF:Hid (bords (rs.take (k+1))=bords (rs.take k)++(endsL (keyAt r.key 0)++backB (backP r))):=HBS.out
    have HKL:Hid ((endsL (keyAt r.key 0)).length≤1024):=by show _≤_;rw [endsL_len];have:=(keyG HOk.out).1;omega
    generalize backP r=l at HPR HPC HL16 HBF
    obtain ⟨nb,hnb⟩:∃ nb,l.length=nb:=⟨_,rfl⟩
    have HNB:Hid (l.length=nb):=hnb
    obtain ⟨pa,pc,hpv,_,_⟩:=HPR.out
    rw [hnb] at hpv HL16
    subst hpv
    have hnbI:(nb:Int)≤16:=by have:=HL16.out;omega
    obtain ⟨X,hX⟩:∃ X,(0::bords (rs.take k))++endsL (keyAt r.key 0)=X:=⟨_,rfl⟩
    rw [hX] at HX3
    have HXL:Hid (X.length≤17408002000):=by show _≤_;rw [←hX,List.length_append,List.length_cons];have:=HBL.out k;have:=HKL.out;omega
    have HXF:Hid (0::bords (rs.take (k+1))=X++backB l):=by show _=_;rw [HBF.out,←hX];simp
    clear hX hnb HBF HKL HBS HS HR HOk
    go_wp2
    go_loopw [3,6] (fun vr vi wx=>∃ j:Nat,vi = .int .i64 j∧j≤nb∧Hid (OwnI wx b0 vr (X++backB (l.take j))∧Below b0 w wx)) (fun _ vi _=>nb - (intOf vi).toNat)
    case atStart=>exact ⟨0,rfl,by omega,by have:=HX3.out;simpa [backB,Hid] using this⟩
    case round=>
     obtain ⟨j,rfl,hj,HY⟩:=hrel
     clear HX3
     have hj0:(0:Int)≤(j:Int):=by omega
     obtain ⟨va3,vc3,rfl⟩:=HY.out.1.sl
     obtain ⟨Y,hY⟩:∃ Y,X++backB (l.take j)=Y:=⟨_,rfl⟩
     have HYL:Hid (Y.length≤17409000000):=by
      show _≤_
      have h1:=backB_len (l:=l.take j) fun p hp=>(HPC.out p (List.mem_of_mem_take hp)).2.2
      have h2:=HXL.out
      rw [←hY,List.length_append]
      rw [List.length_take] at h1
      omega
     by_cases hltj:j<nb
     · have hltj':(j:Int)<(nb:Int):=by omega
       have hjl:j<l.length:=by rw [HNB.out];exact hltj
       obtain ⟨a',c',e',_,hPr⟩:=HPR.out
       obtain ⟨pg,po,ha',hPd⟩:=hPr.resolve_left (fun e=>by rw [e] at hjl;simp at hjl)
       injection e' with e1 e2 e3
       clear e2 e3
       rw [ha'] at e1
       subst e1
       obtain ⟨tv,x0,x1,x2,x3,x4⟩:=hPd j hjl
       have hpc:=HPC.out _ (List.getElem_mem hjl)
       have HBC:Hid (X++backB (l.take (j+1))=Y++pcB l[j]):=by show _=_;rw [backB_succ hjl,←hY];simp
       obtain ⟨p,hp⟩:∃ p,l[j]=p:=⟨_,rfl⟩
       rw [hp] at x0 x1 x4 hpc HBC
       have y0:=cell_below x0 HY.out.2 (Nat.le_of_eq HZ.out)
       have y1:=cell_below x1 HY.out.2 (Nat.le_of_eq HZ.out)
       have y3:=cell_below x3 HY.out.2 (Nat.le_of_eq HZ.out)
       rw [hY] at HY
       obtain ⟨yn,hyn⟩:∃ yn,Y.length=yn:=⟨_,rfl⟩
       rw [hY,hyn]
       rw [hyn] at HY
       clear hyn x0 x1 x2 x3 hPr hPd ha' hp
       obtain ⟨hkd,hgd,hpl⟩:=hpc
       go_upto_block 3 with fail
       go_cut [3] (fun s wx=>Hid (OwnI wx b0 s (X++backB (l.take (j+1)))∧Below b0 w wx))
       case rest=>
        go_wp2
        exact ⟨⟨j+1,by go_num,by omega,hcut⟩,by simp [intOf];omega⟩
       rcases hkd with h1 | h1 | h1
       · have hg1:=hgd (by omega)
         have HB2:Hid (pcB p=[p.u,p.u+1]):=by show _=_;rw [pcB,if_pos h1]
         have hub:0≤p.u∧p.u≤1114367:=by
          rw [mayB,if_neg (by omega)] at hg1
          have:=hg1.1 (p.u,p.u) (by simp)
          unfold Whole at this
          simp at this
          omega
         rw [HB2.out] at HBC
         obtain ⟨u,hu⟩:∃ u,p.u=u:=⟨_,rfl⟩
         rw [hu] at y1 hub HBC
         rw [h1] at y0
         obtain ⟨u0,u1⟩:=hub
         have HU:Hid (IntKind.i64.wrap (u+1)=u+1):=IntWalk.i64_in _ ⟨by omega,by omega⟩
         have HW:Hid (∀ W,Grown wr W→OwnI W b0 (.slice va3 yn vc3) Y∧b0≤W.heap.size):=fun W hg=>⟨HY.out.1.below hg.below (Nat.le_refl _),by have:=HY.out.2.size;have:=HZ.out;have:=hg.size;omega⟩
         have HLN:Hid (Y.length+2≤8796093022208):=by have:=HYL.out;show _≤_;omega
         have HF:Hid (∀ v' W w',Grown wr W→OwnI w' b0 v' (Y++[u,u+1])→Below b0 W w'→OwnI w' b0 v' (X++backB (l.take (j+1)))∧Below b0 w w'):=fun v' W w' hg h1 h2=>⟨by rw [HBC.out];exact h1,(HY.out.2.trans (hg.below.mono (by have:=HY.out.2.size;have:=HZ.out;omega))).trans h2⟩
         clear hu h1 hg1 hgd x4 HBC HB2 HY hY HXF HE HSo
         go_wp2
         go_region_law (refine step_push2 rfl (.tmp 41) (.tmp 53) 49 rfl Tryz.underlying49 b0 (.slice va3 yn vc3) Y rfl (HW.out _ (by (repeat (first | exact Grown.refl _ | refine Grown.alloc ?_ _ | refine Grown.drew ?_ | refine Grown.drewN ?_ _ | refine Grown.quiet ?_ _ _)))).1 _ _ u (u+1) rfl (by simp) (by first | (simp;done) | (simp;exact HU.out)) HLN.out (HW.out _ (by (repeat (first | exact Grown.refl _ | refine Grown.alloc ?_ _ | refine Grown.drew ?_ | refine Grown.drewN ?_ _ | refine Grown.quiet ?_ _ _)))).2 ?_;intro v2 w2 hO2 hB2;have HO2:Hid (OwnI w2 b0 v2 (X++backB (l.take (j+1)))∧Below b0 w w2):=HF.out _ _ _ (by (repeat (first | exact Grown.refl _ | refine Grown.alloc ?_ _ | refine Grown.drew ?_ | refine Grown.drewN ?_ _ | refine Grown.quiet ?_ _ _))) hO2 hB2;clear hO2 hB2)
         all_goals (go_wp2;go_meet;exact HO2)
       · have HN2:Hid (OwnI wr b0 (.slice va3 yn vc3) (X++backB (l.take (j+1)))∧Below b0 w wr):=by
          rw [HBC.out,pcB,if_neg (by omega),if_neg (by omega),List.append_nil]
          exact HY.out
         rw [h1] at y0
         clear h1 hgd x4 HBC HY hY HXF HE HSo
         go_wp2
         go_meet
         exact HN2
       · have hg1:=hgd (by omega)
         rw [mayB,if_pos h1] at hg1
         rw [pcB,if_neg (by omega),if_pos h1] at hpl
         rw [endsL_len] at hpl
         have HE1:=Hid.mk' (HE.out wr _ _ _ _ x4 HY.out.2 HY.out.1 hg1 (by have:=HYL.out;omega))
         have HN2:Hid (∀ v' w',OwnI w' b0 v' (Y++endsL p.tl)→Below b0 wr w'→OwnI w' b0 v' (X++backB (l.take (j+1)))∧Below b0 w w'):=fun v' w' h2 h3=>by
          rw [HBC.out,pcB,if_neg (by omega),if_pos h1]
          exact ⟨h2,HY.out.2.trans h3⟩
         rw [h1] at y0
         obtain ⟨ta,tn,tc,rfl⟩:=x4.sl
         clear h1 hgd x4 HBC HY hY HXF HE HSo hg1 hpl
         go_wp2_with fail
         refine HE1.out.mono ?_
         rintro e w4 ⟨v4,rfl,h4,h5⟩
         obtain ⟨a4,m4,c4,rfl⟩:=h4.ir.sl
         have HO2:=Hid.mk' (HN2.out _ _ h4 h5)
         clear h4 h5 HN2 HE1
         go_wp2
         go_meet
         exact HO2
     · as_aux_lemma=>
        have hge:¬ (j:Int)<(nb:Int):=by omega
        have HZ2:Hid (OwnI wr b0 (.slice va3 (X++backB (l.take j)).length vc3) (0::bords (rs.take (k+1)))∧Below b0 w wr):=by
         have:=HY.out
         rw [List.take_of_length_le (by rw [HNB.out];omega)] at this ⊢
         rw [HXF.out];exact this
        generalize (X++backB (l.take j)).length=yn at HZ2 ⊢
        clear HY HYL hY
        go_wp2
        exact ⟨⟨k+1,by go_num,by omega,HZ2⟩,by simp [intOf];omega⟩
  · as_aux_lemma=>
     have hge:¬ (k:Int)<(n:Int):=by omega
     have HC:=Hid.mk' (HSo.out wr _ _ HX.out.2 HX.out.1 (by have:=HBL.out k;simp;omega) (by rw [List.take_of_length_le (by rw [HN.out];omega)]))
     generalize (0::bords (rs.take k)).length=vn at HC ⊢
     clear HX HE HSo
     go_wp2_with fail
     refine HC.out.mono ?_
     intro e w2 hQ
     have HQ:=Hid.mk' hQ
     obtain ⟨v2,m,rfl,hI,_,_⟩:=hQ
     obtain ⟨x1,x2,x3,rfl⟩:=hI.sl
     clear hI
     go_wp2
     go_ret
     exact HQ.out
def wK (rs:List Rl) (st:St) (u:Int):Int:=wgtK rs st.ws u rs.length
theorem Fin.unit_leK {rs:List Rl} {st:St} (h:Fin rs st) {j:Nat} (hj:j<st.bk.length) {u:Int} (hu:hasU (usAt st.bk j) u):wK rs st u≤wtAt st.bk j:=by
 have hpos:1≤wtAt st.bk j:=by
  unfold wtAt
  rw [List.getElem?_eq_getElem hj]
  exact (h.run.ok.pb _ (List.getElem_mem hj)).2.1
 unfold wK
 rcases wgtK_is (rs:=rs) (ws:=st.ws) (u:=u) rs.length with e | ⟨i,hi,h1,e⟩
 · omega
 · rw [e]
   have h2:hasU (fstS rs i) u:=by
    unfold hasB at h1
    simp only [Bool.and_eq_true,decide_eq_true_eq] at h1
    exact h1.2
   exact h.run.sn i j (by rw [csI_len];exact hi) hj (touch_of _ _ u (key_good h.ok hi) (h.us_good hj) h2 hu)
theorem Fin.ws_in {rs:List Rl} {st:St} (h:Fin rs st) {i:Nat} (hi:i<rs.length):1≤at0 st.ws i∧at0 st.ws i≤64:=h.run.ok.wb i (by rw [csI_len];exact hi)
theorem Fin.wK_in {rs:List Rl} {st:St} (h:Fin rs st) (u:Int):1≤wK rs st u∧wK rs st u≤64:=by
 refine ⟨wgtK_one _,?_⟩
 unfold wK
 rcases wgtK_is (rs:=rs) (ws:=st.ws) (u:=u) rs.length with e | ⟨i,hi,_,e⟩
 · omega
 · rw [e];exact (h.ws_in hi).2
theorem Fin.wK_ge {rs:List Rl} {st:St} {i:Nat} (hi:i<rs.length) {u:Int} (hu:hasB (fstS rs i) u=true):at0 st.ws i≤wK rs st u:=wgtK_ge hi hu
theorem Fin.gen {rs:List Rl} {st:St} (h:Fin rs st) (g:List (Int × Int)→Int) (hg:∀ j,j<st.bk.length→g (usAt st.bk j)≤wtAt st.bk j) {i:Nat} (hi:i<rs.length) :
 2 - (rs[i].key.length:Int)+copN (backP rs[i])+gs g (pbs i (backP rs[i])) i≤at0 st.ws i:=by
 have h2:gs g (pbs i (backP rs[i])) i=gs g st.bk i:=by
  rw [gs_same h.run.rk h.run.ok.uss,gs_bkI,if_pos hi,List.getElem?_eq_getElem hi]
  rfl
 have h3:gs g st.bk i≤wsum st.bk i:=gs_le (fun b hb=>by
  obtain ⟨j,hj,rfl⟩:=List.getElem_of_mem hb
  have:=hg j hj
  rw [usAt_at hj] at this
  unfold wtAt at this
  rw [List.getElem?_eq_getElem hj] at this
  exact this) i
 have h4:=h.run.ok.asum i (by rw [csI_len];exact hi)
 rw [csI_val hi] at h4
 have h5:=h.en i hi
 omega
theorem bAt_lt {L:List Int} {i:Nat} (h:i<L.length):bAt L i=L[i]:=by simp [bAt,h]
theorem rise_lt {L:List Int} (h:L.Pairwise (· < ·)) {i j:Nat} (hij:i<j) (hj:j<L.length):bAt L i<bAt L j:=by
 rw [bAt_lt (by omega),bAt_lt hj]
 exact List.pairwise_iff_getElem.1 h i j (by omega) hj hij
theorem rise_le {L:List Int} (h:L.Pairwise (· < ·)) {i j:Nat} (hij:i≤j) (hj:j<L.length):bAt L i≤bAt L j:=by
 by_cases e:i=j
 · subst e;exact Int.le_refl _
 · exact Int.le_of_lt (rise_lt h (by omega) hj)
theorem plc_at {L:List Int} (h:L.Pairwise (· < ·)) {x:Int} (hx:x∈L):bAt L (plc L x)=x:=by
 obtain ⟨q,hq,rfl⟩:=List.getElem_of_mem hx
 have e:bAt L q=L[q]:=bAt_lt hq
 rw [←e]
 have hp:=plcF_spec L (bAt L q) L.length 0 L.length (by omega) (by omega) (Nat.le_refl _) (rise_le h (Nat.zero_le _) hq) (.inl rfl)
 rw [←plc] at hp
 generalize plc L (bAt L q)=p at hp
 obtain ⟨h1,h2,h3⟩:=hp
 rcases Nat.lt_trichotomy p q with h4 | h4 | h4
 · rcases h3 with h3 | h3
   · omega
   · have:=rise_le h (show p+1≤q by omega) hq;omega
 · rw [h4]
 · have:=rise_lt h h4 h1;omega
theorem plc_ge {L:List Int} (h:L.Pairwise (· < ·)) {x:Int} (hx:x∈L) {k:Nat} (hk:plc L x≤k) (hl:k<L.length):x≤bAt L k:=by
 have:=rise_le h hk hl
 rw [plc_at h hx] at this
 exact this
structure WB (rs:List Rl) (st:St) (L W:List Int):Prop where
 e:W.length=L.length
 b:∀ k,k<L.length→1≤bAt W k∧bAt W k≤wK rs st (bAt L k)
theorem grK_le {L W:List Int} {hi X:Int} : ∀ (f k:Nat) (n:Int),n≤X→(∀ j,k≤j→j<L.length→bAt L j≤hi→bAt W j≤X)→grK L W hi f k n≤X
 | 0,_,_,h,_=>h
 | f+1,k,n,h,hk=>by
  rw [grK]
  split
  · rename_i hc
    refine grK_le f (k+1) _ ?_ fun j hj=>hk j (by omega)
    split
    · exact hk k (Nat.le_refl _) hc.1 hc.2
    · exact h
  · exact h
theorem grt_le {L W:List Int} {X:Int} (s:List (Int × Int)) (h0:0≤X) (h:∀ x∈s,∀ j,plc L x.1≤j→j<L.length→bAt L j≤x.2→bAt W j≤X):grt L W s≤X:=by
 have:∀ (s:List (Int × Int)) (n:Int),n≤X→(∀ x∈s,∀ j,plc L x.1≤j→j<L.length→bAt L j≤x.2→bAt W j≤X)→s.foldl (gr1 L W) n≤X:=by
  intro s
  induction s with
  | nil=>intro n hn _;exact hn
  | cons x s ih=>
   intro n hn hs
   exact ih _ (grK_le _ _ _ hn (hs x (by simp))) fun y hy=>hs y (by simp [hy])
 exact this s 0 h0 h
theorem grK_mono {L W:List Int} {hi:Int} : ∀ (f k:Nat) (n:Int),n≤grK L W hi f k n
 | 0,_,n=>Int.le_refl n
 | f+1,k,n=>by
  rw [grK]
  split
  · refine Int.le_trans ?_ (grK_mono f _ _)
    split <;> omega
  · exact Int.le_refl n
theorem grt_one {L W:List Int} (hS:L.Pairwise (· < ·)) {u:Int} (hu:u∈L):bAt W (plc L u)≤grt L W [(u,u)]:=by
 have hp:=plc_lt u (show 0<L.length from List.length_pos_of_mem hu)
 have ha:=plc_at hS hu
 unfold grt gr1
 simp only [List.foldl_cons,List.foldl_nil]
 obtain ⟨f,hf⟩:∃ f,L.length=f+1:=⟨L.length - 1,by omega⟩
 rw [hf,grK,if_pos ⟨by omega,by omega⟩]
 refine Int.le_trans ?_ (grK_mono f _ _)
 split <;> omega
theorem mem_bords {rs:List Rl} {r:Rl} (hr:r∈rs) {x:Int} (hx:x∈rlB r):x∈bords rs:=List.mem_flatMap.2 ⟨r,hr,hx⟩
theorem mem_ends {s:List (Int × Int)} {x:Int × Int} (hx:x∈s):x.1∈endsL s:=List.mem_flatMap.2 ⟨x,hx,by simp⟩
theorem mem_may {rs:List Rl} {r:Rl} (hr:r∈rs) {p:Pc} (hp:p∈backP r) (hk:p.k=1∨p.k=3) {x:Int × Int} (hx:x∈mayB p):x.1∈bords rs:=by
 refine mem_bords hr (List.mem_append_right _ (List.mem_flatMap.2 ⟨p,hp,?_⟩))
 unfold pcB
 rcases hk with h | h
 · rw [if_pos h]
   rw [mayB,if_neg (by omega)] at hx
   simp at hx
   subst hx
   simp
 · rw [if_neg (by omega),if_pos h]
   rw [mayB,if_pos h] at hx
   exact mem_ends hx
theorem us_may {rs:List Rl} {st:St} (h:Fin rs st) {j:Nat} (hj:j<st.bk.length):∃ r∈rs,∃ p∈backP r,p.k≠2∧usAt st.bk j=mayB p:=by
 have hu:=h.run.ok.uss
 have hl:st.bk.length=(bkI rs rs.length).length:=by simpa using congrArg List.length hu
 rw [usAt_eq hu]
 simp only [List.getElem?_map]
 rw [List.getElem?_eq_getElem (by omega)]
 have:∀ {k:Nat} {b:Pb},b∈bkI rs k→∃ r∈rs,∃ p∈backP r,p.k≠2∧b.us=mayB p:=by
  intro k
  induction k with
  | zero=>intro b hb;simp [bkI] at hb
  | succ k ih=>
   intro b hb
   rw [bkI] at hb
   rcases List.mem_append.1 hb with hb | hb
   · exact ih hb
   · obtain ⟨p,h1,h2,h3⟩:=pbs_mem2 hb
     cases hk:rs[k]? with
     | none=>rw [hk] at h1;simp at h1
     | some r=>
      rw [hk] at h1
      exact ⟨r,List.mem_of_getElem? hk,p,by simpa using h1,h2,h3⟩
 exact this (List.getElem_mem _)
theorem kind_of {rs:List Rl} {st:St} (h:Fin rs st) {r:Rl} (hr:r∈rs) {p:Pc} (hp:p∈backP r):p.k=1∨p.k=2∨p.k=3:=by
 rcases pc_ok ((h.ok r hr).pc p (List.mem_of_mem_drop hp)) with ⟨h1,_⟩ | ⟨h1,_⟩ | ⟨h1,_⟩ <;> omega
theorem grt_wt {rs:List Rl} {st:St} (h:Fin rs st) {L W:List Int} (hS:Srt (0::bords rs) L) (hB:WB rs st L W) {j:Nat} (hj:j<st.bk.length):grt L W (usAt st.bk j)≤wtAt st.bk j:=by
 have hpos:1≤wtAt st.bk j:=by
  unfold wtAt
  rw [List.getElem?_eq_getElem hj]
  exact (h.run.ok.pb _ (List.getElem_mem hj)).2.1
 obtain ⟨r,hr,p,hp,h2,hu⟩:=us_may h hj
 refine grt_le _ (by omega) fun x hx k hk hl hle => ?_
 have hm:x.1∈L:=(hS.m _).2 (List.mem_cons_of_mem _ (mem_may hr hp (by have:=kind_of h hr hp;omega) (by rw [←hu];exact hx)))
 have hge:=plc_ge hS.p hm hk hl
 exact Int.le_trans (hB.b k hl).2 (h.unit_leK hj ⟨x,hx,hge,hle⟩)
theorem pcS_gs {rs:List Rl} {st:St} (h:Fin rs st) {L W:List Int} (hS:Srt (0::bords rs) L) {r:Rl} (hr:r∈rs) (n:Nat):∀ l:List Pc,(∀ p∈l,p∈backP r)→pcS L W l≤gs (grt L W) (pbs n l) n
 | [],_=>by simp [pcS,pbs,gs]
 | p::l,hl=>by
  have ih:=pcS_gs (W:=W) h hS hr n l fun q hq=>hl q (List.mem_cons_of_mem _ hq)
  have hp:=hl p List.mem_cons_self
  simp only [pcS,pbs]
  rcases kind_of h hr hp with h1 | h1 | h1
  · rw [if_neg (by omega)]
    have hm:p.u∈L:=(hS.m _).2 (List.mem_cons_of_mem _ (mem_may hr hp (.inl h1) (x:=(p.u,p.u)) (by rw [mayB,if_neg (by omega)];simp)))
    have:=grt_one (W:=W) hS.p hm
    have e:mayB p=[(p.u,p.u)]:=by unfold mayB;rw [if_neg (by omega)]
    simp only [gs,if_pos,e]
    rw [pcW,if_pos h1]
    omega
  · rw [if_pos h1,pcW,if_neg (by omega),if_neg (by omega)];omega
  · rw [if_neg (by omega)]
    have e:mayB p=p.tl:=by unfold mayB;rw [if_pos h1]
    simp only [gs,if_pos,e]
    rw [pcW,if_neg (by omega),if_pos h1]
    omega
theorem wnt_le {rs:List Rl} {st:St} (h:Fin rs st) {L W:List Int} (hS:Srt (0::bords rs) L) (hB:WB rs st L W) {i:Nat} (hi:i<rs.length):wnt L W rs[i]≤at0 st.ws i:=by
 have h1:=h.gen (grt L W) (fun j hj=>grt_wt h hS hB hj) hi
 have h2:=pcS_gs (W:=W) h hS (List.getElem_mem hi) i (backP rs[i]) fun p hp=>hp
 unfold wnt
 omega
theorem bAt_set {l:List Int} {i j:Nat} {x:Int} (h:i<l.length):bAt (l.set i x) j=if j=i then x else bAt l j:=at0_set h
theorem WB.set {rs:List Rl} {st:St} {L W:List Int} (h:WB rs st L W) {k:Nat} (hk:k<L.length) {i:Nat} (hi:i<rs.length) (hu:hasU (fstS rs i) (bAt L k)) (hv:validB (fstS rs i)=true) {n:Int} (h1:bAt W k<n) (h2:n≤at0 st.ws i):WB rs st L (W.set k n):=by
 refine ⟨by simp [h.e],fun j hj => ?_⟩
 rw [bAt_set (by rw [h.e];exact hk)]
 split
 · rename_i e
   subst e
   have:=(h.b j hk).1
   exact ⟨by omega,Int.le_trans h2 (Fin.wK_ge hi (by simp [hasB,hv,hu]))⟩
 · exact h.b j hj
theorem tws_more {W:List Int} {k:Nat} (hk:k<W.length) {n:Int} (h0:0≤bAt W k) (h1:bAt W k<n):tws W<tws (W.set k n):=by
 have h2:=tws_set W k n hk
 have e:at0 W k=bAt W k:=rfl
 rw [e] at h2
 omega
theorem first_valid {rs:List Rl} (hO:∀ r∈rs,Ok r) {i:Nat} (hi:i<rs.length):validB (fstS rs i)=true∧(fstS rs i).length≤512∧Good (fstS rs i):=by
 rw [fstS_at hi]
 have:=keyG (hO _ (List.getElem_mem hi))
 exact ⟨(validB_iff _).2 this,this⟩
theorem first_in {rs:List Rl} {L:List Int} (hS:Srt (0::bords rs) L) {i:Nat} (hi:i<rs.length) {j:Nat} (hj:j<(fstS rs i).length) {k:Nat} (h1:plc L (rg (fstS rs i) j).1≤k) (h2:k<L.length) (h3:bAt L k≤(rg (fstS rs i) j).2):hasU (fstS rs i) (bAt L k):=by
 have hm:(rg (fstS rs i) j).1∈L:=by
  refine (hS.m _).2 (List.mem_cons_of_mem _ (mem_bords (List.getElem_mem hi) (List.mem_append_left _ ?_)))
  rw [←fstS_at hi]
  exact mem_ends (by rw [rg_lt hj];exact List.getElem_mem hj)
 exact ⟨rg (fstS rs i) j,by rw [rg_lt hj];exact List.getElem_mem hj,plc_ge hS.p hm h1 h2,h3⟩
theorem blk_lt {w:World} {g:Nat} {o:Obj} (h:w.heap[g]? = some o):g<w.heap.size:=(Array.getElem?_eq_some_iff.1 h).1
theorem blk_below {w w':World} {g n:Nat} {o:Obj} (h:w.heap[g]? = some o) (hb:Below n w w') (hg:g<n):w'.heap[g]? = some o:=by rw [hb.block g hg];exact h
theorem OwnI.turn {w w':World} {base:Nat} {v:Value} {l:List Int} (h:OwnI w base v l) (hk:∀ b,base≤b→w'.heap[b]? = w.heap[b]?):OwnI w' base v l:=by
 refine ⟨h.1,?_⟩
 rcases h.2 with h1 | ⟨g,cap,cur,h1,h2,h3,h4⟩
 · exact .inl h1
 · exact .inr ⟨g,cap,cur,h1,h2,(hk g h2).trans h3,h4⟩
theorem ints_set (l:List Int) (k:Nat) (x:Int):ints (l.set k x)=(ints l).set k (.int .i64 x):=by simp [ints,List.map_set]
theorem ret_sc {fn:Func} {p q:Tmp} {W:World} {B:Nat} {tmps:Array Value} {a b:Value} {t:Bool} {R:Ending→World→Prop} (hr:fn.results=#[.cell p 89,.tmp q]) (hp:tmps.getD p undef = .pointer (some ⟨B,0,none⟩)) (hq:tmps.getD q undef = .bool t) (h:W.heap[B]? = some (.cells #[a,b] 89 (0,0)))
 (K:R (.returned (.tuple #[.agg #[a,b],.bool t])) W):bodyPost Tryz.prog fn R Exit.ret { tmps:=tmps,defers:=[] } W:=by
 have c0:W.cell? ⟨B,0,none⟩=some a:=by rw [cell_of h];simp
 have c1:W.cell? ⟨B,1,none⟩=some b:=by rw [cell_of h];simp
 refine bodyPost_ret (v := .tuple #[.agg #[a,b],.bool t]) ?_ rfl K
 rw [results_cell_tmp hr]
 simp only [hp,hq]
 simp [go_sem,Result.andThen,c0,c1]
end Go.Proofs
