/-
  Several texts in one (Hd He Hf Oa Sa Sc).
-/
import Derived.RangeFuncNested
import Derived.RangeFuncBound
import Derived.RangeFuncCalls
import Derived.RangeFuncLeaves
import Derived.Shelf.Abstract
import Derived.Shelf.RegionOpen
import Derived.WalkKit
import Derived.WalkSpells
import Derived.WalkLawsBesides
import Derived.OwnWalkIn
import Derived.TacticsInMore
import Derived.LoopNIn
import Derived.LoopIn
import Derived.BigQuiet
import Derived.RegionIn
import Derived.Deep.QuietTactic
import Derived.Deep.RegionWith
import Derived.Lib.OthersKept
import Derived.Maps.AppendAt
import Derived.Lib.SmallJoins
import Derived.Shelf.SlSortCmp.QuietGrown
import Derived.Deep.AppendLies
import Derived.Deep.RegionLaw
import Derived.Deep.DeepCutAuto
import Derived.Deep.CutBlock
import Derived.Test.YtaemgkemlifadaaGreatDoorMggs
import Derived.Test.YtaemgkemlifadaaGreatDoorMgds
import Derived.Laws.OwnMore
import Derived.Laws.ResultCell
import Derived.Test.YtaemgkemlifadaaGreatDoorMgbs
import Derived.Test.YtaemgkemlifadaaGreatDoorMgas
namespace Go.Proofs
open Go.RowKit Go.Shelf
set_option maxRecDepth 100000
attribute [local go_sem] Oper.semAt_some
attribute [local go_sem ↓] Go.wp_at_zero Go.wp_at_succ
def pcB (p:Pc):List Int:=if p.k=1 then [p.u,p.u+1] else if p.k=3 then endsL p.tl else []
def backB (l:List Pc):List Int:=l.flatMap pcB
def rlB (r:Rl):List Int:=endsL (keyAt r.key 0)++backB (backP r)
def bords (rs:List Rl):List Int:=rs.flatMap rlB
theorem backB_succ {l:List Pc} {k:Nat} (hk:k<l.length):backB (l.take (k+1))=backB (l.take k)++pcB l[k]:=by
 rw [take_pc hk,backB,List.flatMap_append]
 simp [backB]
theorem bords_succ {l:List Rl} {k:Nat} (hk:k<l.length):bords (l.take (k+1))=bords (l.take k)++rlB l[k]:=by
 rw [List.take_add_one,List.getElem?_eq_getElem hk,bords,List.flatMap_append]
 simp [bords]
theorem pcB_len {r:Rl} (hO:Ok r) {p:Pc} (hp:p∈backP r):(pcB p).length≤1024:=by
 unfold pcB
 split
 · simp
 · split
   · rename_i h
     have:=mayB_len hO hp
     rw [mayB,if_pos h] at this
     rw [endsL_len];omega
   · simp
theorem backB_len:∀ {l:List Pc},(∀ p∈l,(pcB p).length≤1024)→(backB l).length≤1024*l.length
 | [],_=>by simp [backB]
 | p::l,h=>by
  have h1:=backB_len (l:=l) fun q hq=>h q (by simp [hq])
  have h2:=h p (by simp)
  unfold backB at h1 ⊢
  rw [List.flatMap_cons,List.length_append,List.length_cons]
  omega
theorem keyG {r:Rl} (hO:Ok r):(keyAt r.key 0).length≤512∧Good (keyAt r.key 0):=by
 have hk:=hO.k0
 have e:keyAt r.key 0=r.key[0]:=by simp [keyAt,hk]
 rw [e]
 have:=List.all_eq_true.1 hO.kS r.key[0] (List.getElem_mem hk)
 simp only [okS,Bool.and_eq_true] at this
 exact (validB_iff _).1 this.1
theorem rlB_len {r:Rl} (hO:Ok r):(rlB r).length≤17408:=by
 unfold rlB
 rw [List.length_append,endsL_len]
 have:=(keyG hO).1
 have h1:=backB_len (l:=backP r) fun p hp=>pcB_len hO hp
 have h2:(backP r).length≤16:=by have:=hO.r16;simp [backP];omega
 omega
theorem bords_len:∀ {rs:List Rl},(∀ r∈rs,Ok r)→(bords rs).length≤17408*rs.length
 | [],_=>by simp [bords]
 | r::rs,h=>by
  have h1:=bords_len (rs:=rs) fun q hq=>h q (by simp [hq])
  have h2:=rlB_len (h r (by simp))
  unfold bords at h1 ⊢
  rw [List.flatMap_cons,List.length_append,List.length_cons]
  omega
theorem good_bound {s:List (Int × Int)} (h:Good s):∀ x∈s,-9000000000000000000≤x.2∧x.2≤9000000000000000000:=fun x hx=>by
 have:=h.1 x hx
 unfold Whole at this
 omega
def BoQ (w:World) (rs:List Rl) (e:Ending) (w':World):Prop:=∃ v m,e = .returned v∧IR w' v m∧Srt (0::bords rs) m∧Below w.heap.size w w'
set_option maxHeartbeats 16000000 in
theorem borders_any (v:Value) (rs:List Rl) (w:World) (h:PsR w v rs) (hO:∀ r∈rs,Ok r) (hn:rs.length≤1000000):Calls Tryz.prog 64 #[v] w (BoQ w rs):=by
 have HP:Hid (PsR w v rs):=h
 obtain ⟨ra,rc,rfl,_,_⟩:=h
 obtain ⟨n,hN⟩:∃ n,rs.length=n:=⟨_,rfl⟩
 have HN:Hid (rs.length=n):=hN
 have HO:Hid (∀ r∈rs,Ok r):=hO
 have hnI:(n:Int)≤1000000:=by omega
 rw [hN] at HP ⊢
 have HBL:Hid (∀ k,(bords (rs.take k)).length≤17408000000):=fun k=>by
  have h1:=bords_len (rs:=rs.take k) fun r hr=>hO r (List.mem_of_mem_take hr)
  rw [List.length_take] at h1
  omega
 have HE:Hid (∀ (V:World) (vv sv:Value) (l:List Int) (s:List (Int × Int)),Rs w sv s→Below w.heap.size w V→OwnI V w.heap.size vv l→Good s→l.length+2*s.length≤8796093022208→Calls Tryz.prog 86 #[vv,sv] V fun e w'=>∃ v',e = .returned v'∧OwnI w' w.heap.size v' (l++endsL s)∧Below w.heap.size V w'):=fun V vv sv l s h1 h2 h3 h4 h5=>ends_any vv sv l s V w h1 h2 h3 (good_bound h4) h5
 have HSo:Hid (∀ (V:World) (vv:Value) (l:List Int),Below w.heap.size w V→OwnI V w.heap.size vv l→l.length≤1099511627776→l=0::bords rs→Calls Tryz.prog 87 #[vv] V (BoQ w rs)):=fun V vv l hb ho hl he=>(sorted_any l.length vv l V (Nat.le_refl _) hl ho.ir).mono fun e w' ⟨v',m,h1,h2,h3,h4⟩=>⟨v',m,h1,h2,by rw [←he];exact h3,hb.trans (h4.mono hb.size)⟩
 obtain ⟨b0,hb0⟩:∃ b0,w.heap.size=b0:=⟨_,rfl⟩
 have HZ:Hid (w.heap.size=b0):=hb0
 rw [hb0] at HE HSo
 clear hN hO hn
 go_enter Tryz.func64,Tryz.ntmps64
 go_wp2
 try rw [hb0]
 obtain ⟨w1,hw1⟩:∃ w1,w1=w.alloc (.cells #[.int .i64 0] 3):=⟨_,rfl⟩
 have H1:Hid (OwnI w1 b0 (.slice (some ⟨b0,0,none⟩) 1 1) [0]∧Below b0 w w1):=by
  rw [hw1,←hb0]
  exact ⟨NewI.own ⟨w.heap.size,rfl,Nat.le_refl _,Array.getElem?_push_size⟩ (by simp [maxLen]),((Grown.refl w).alloc _).below⟩
 rw [←hw1]
 clear hw1 hb0
 go_loopw [3,4] (fun vr vi wr=>∃ k:Nat,vi = .int .i64 k∧k≤n∧Hid (OwnI wr b0 vr (0::bords (rs.take k))∧Below b0 w wr)) (fun _ vi _=>n - (intOf vi).toNat)
 case atStart=>exact ⟨0,rfl,by omega,by have:=H1.out;simpa [bords,Hid] using this⟩
 case round=>
  obtain ⟨k,rfl,hk,HX⟩:=hrel
  clear H1
  have hk0:(0:Int)≤(k:Int):=by omega
  obtain ⟨va,vc,rfl⟩:=HX.out.1.sl
  by_cases hlt:k<n
  · have hlt':(k:Int)<(n:Int):=by omega
    have hkl:k<rs.length:=by rw [HN.out];exact hlt
    obtain ⟨a',c',e',_,hPr⟩:=HP.out
    obtain ⟨g,o,ha',hPd⟩:=hPr.resolve_left (fun e=>by rw [e] at hkl;simp at hkl)
    injection e' with e1 e2 e3
    clear e2 e3
    rw [ha'] at e1
    subst e1
    obtain ⟨av,kv,pv,rv,q0,q1,q2,q3,q4,q5,q6,hR⟩:=hPd k hkl
    have hOk:=HO.out _ (List.getElem_mem hkl)
    have HBS:Hid (bords (rs.take (k+1))=bords (rs.take k)++rlB rs[k]):=bords_succ hkl
    obtain ⟨r,hr⟩:∃ r,rs[k]=r:=⟨_,rfl⟩
    rw [hr] at q0 q4 q6 hR hOk HBS
    have HR:Hid (RR w av kv pv rv r):=hR
    have HOk:Hid (Ok r):=hOk
    have HBk:Hid (∀ wx,Calls Tryz.prog 67 #[.agg #[.bool r.bg,av,kv,pv,.bool r.en,rv,.int .i64 r.cu]] wx fun e w'=>∃ v,e = .returned v∧PR w v (backP r)∧Grown wx w'):=fun wx=>rback_any r av kv pv rv wx w hR hOk.c0 hOk.c1
    have HQ:Hid (∀ V,Below b0 w V→V.cell? ⟨g,o+k*7,none⟩=some (.bool r.bg)∧V.cell? ⟨g,o+k*7+1,none⟩=some av∧V.cell? ⟨g,o+k*7+2,none⟩=some kv∧V.cell? ⟨g,o+k*7+3,none⟩=some pv∧V.cell? ⟨g,o+k*7+4,none⟩=some (.bool r.en)∧V.cell? ⟨g,o+k*7+5,none⟩=some rv∧V.cell? ⟨g,o+k*7+6,none⟩=some (.int .i64 r.cu)):=fun V hb=>by
     have hz:w.heap.size≤b0:=Nat.le_of_eq HZ.out
     exact ⟨cell_below q0 hb hz,cell_below q1 hb hz,cell_below q2 hb hz,cell_below q3 hb hz,cell_below q4 hb hz,cell_below q5 hb hz,cell_below q6 hb hz⟩
    obtain ⟨ka,kc,hkv,hkc,hks⟩:=hR.k
    obtain ⟨kg,ko,hka,hkd⟩:=hks.resolve_left (fun e=>by have:=hOk.k0;rw [e] at this;simp at this)
    subst hka
    obtain ⟨sv,qs,hs⟩:=hkd 0 hOk.k0
    have HS:Hid (Rs w sv (keyAt r.key 0)):=by
     have hk:=hOk.k0
     have e:keyAt r.key 0=r.key[0]:=by simp [keyAt,hk]
     rw [e];exact hs
    rw [Nat.add_zero] at qs
    obtain ⟨kn,hkn⟩:∃ kn,r.key.length=kn:=⟨_,rfl⟩
    have hkn0:(0:Int)<(kn:Int):=by have:=hOk.k0;omega
    have hkn1:0<kn:=by have:=hOk.k0;omega
    rw [hkn] at hkv
    subst hkv
    have HKc:Hid (∀ V,Below b0 w V→V.cell? ⟨kg,ko,none⟩=some sv):=fun V hb=>cell_below qs hb (Nat.le_of_eq HZ.out)
    obtain ⟨a1,n1,c1,rfl⟩:=hR.a.sl
    obtain ⟨a3,n3,c3,rfl⟩:=hR.p.sl
    obtain ⟨a5,n5,c5,rfl⟩:=hR.r.sl
    obtain ⟨sa,sn,sc,rfl⟩:=hs.sl
    have HE1:=HE.out wr _ _ _ _ HS.out HX.out.2 HX.out.1 (keyG HOk.out).2 (by have:=HBL.out k;have:=(keyG HOk.out).1;simp;omega)
    generalize (0::bords (rs.take k)).length=vn at HE1 HX ⊢
    have HE2:=Hid.mk' HE1
    obtain ⟨xb,hxb⟩:∃ xb,r.bg=xb:=⟨_,rfl⟩
    obtain ⟨xe,hxe⟩:∃ xe,r.en=xe:=⟨_,rfl⟩
    obtain ⟨xc,hxc⟩:∃ xc,r.cu=xc:=⟨_,rfl⟩
    rw [hxb,hxe,hxc] at HBk HQ
    obtain ⟨z0,z1,z2,z3,z4,z5,z6⟩:=HQ.out wr HX.out.2
    have y0:=HKc.out wr HX.out.2
    clear q0 q1 q2 q3 q4 q5 q6 qs hxb hxe hxc hr hR hOk hkn hs hkd hks ha' hPr hPd HE1 hkc
    go_wp2_with fail
    refine HE2.out.mono ?_
    rintro e w2 ⟨v2,rfl,hO2,hB2⟩
    have HX2:Hid (OwnI w2 b0 v2 ((0::bords (rs.take k))++endsL (keyAt r.key 0))∧Below b0 w w2):=⟨hO2,HX.out.2.trans hB2⟩
    clear z0 z1 z2 z3 z4 z5 z6 y0 hO2 hB2 HE2 HX
    obtain ⟨va2,vc2,rfl⟩:=HX2.out.1.sl
    obtain ⟨z0,z1,z2,z3,z4,z5,z6⟩:=HQ.out w2 HX2.out.2
    generalize ((0::bords (rs.take k))++endsL (keyAt r.key 0)).length=vn2 at HX2 ⊢
    go_wp2_with fail
    refine (HBk.out _).mono ?_
    rintro e w3 ⟨pv3,rfl,hPR,hG3⟩
    have HPR:Hid (PR w pv3 (backP r)):=hPR
    have HX3:Hid (OwnI w3 b0 (.slice va2 vn2 vc2) ((0::bords (rs.take k))++endsL (keyAt r.key 0))∧Below b0 w w3):=⟨HX2.out.1.below hG3.below (Nat.le_refl _),HX2.out.2.trans (hG3.below.mono (by have:=HX2.out.2.size;have:=HZ.out;omega))⟩
    clear z0 z1 z2 z3 z4 z5 z6 HBk HQ HKc hG3 HX2 hPR
    have HPC:Hid (∀ p∈backP r,(p.k=1∨p.k=2∨p.k=3)∧(p.k≠2→Good (mayB p))∧(pcB p).length≤1024):=fun p hp=>⟨by rcases pc_ok (HOk.out.pc p (List.mem_of_mem_drop hp)) with h | h | h <;> omega,fun h2=>mayB_good HOk.out hp h2,pcB_len HOk.out hp⟩
    have HL16:Hid ((backP r).length≤16):=by have:=HOk.out.r16;show _≤_;simp [backP];omega
    have HBF:Hid (bords (rs.take (k+1))=bords (rs.take k)++(endsL (keyAt r.key 0)++backB (backP r))):=HBS.out
    have HKL:Hid ((endsL (keyAt r.key 0)).length≤1024):=by show _≤_;rw [endsL_len];have:=(keyG HOk.out).1;omega
    generalize backP r=l at HPR HPC HL16 HBF
    obtain ⟨nb,hnb⟩:∃ nb,l.length=nb:=⟨_,rfl⟩
    have HNB:Hid (l.length=nb):=hnb
    obtain ⟨pa,pc,hpv,_,_⟩:=HPR.out
    rw [hnb] at hpv HL16
    subst hpv
    have hnbI:(nb:Int)≤16:=by have:=HL16.out;omega
    obtain ⟨X,hX⟩:∃ X,(0::bords (rs.take k))++endsL (keyAt r.key 0)=X:=⟨_,rfl⟩
    rw [hX] at HX3
    have HXL:Hid (X.length≤17408002000):=by show _≤_;rw [←hX,List.length_append,List.length_cons];have:=HBL.out k;have:=HKL.out;omega
    have HXF:Hid (0::bords (rs.take (k+1))=X++backB l):=by show _=_;rw [HBF.out,←hX];simp
    clear hX hnb HBF HKL HBS HS HR HOk
    go_wp2
    go_loopw [3,6] (fun vr vi wx=>∃ j:Nat,vi = .int .i64 j∧j≤nb∧Hid (OwnI wx b0 vr (X++backB (l.take j))∧Below b0 w wx)) (fun _ vi _=>nb - (intOf vi).toNat)
    case atStart=>exact ⟨0,rfl,by omega,by have:=HX3.out;simpa [backB,Hid] using this⟩
    case round=>
     obtain ⟨j,rfl,hj,HY⟩:=hrel
     clear HX3
     have hj0:(0:Int)≤(j:Int):=by omega
     obtain ⟨va3,vc3,rfl⟩:=HY.out.1.sl
     obtain ⟨Y,hY⟩:∃ Y,X++backB (l.take j)=Y:=⟨_,rfl⟩
     have HYL:Hid (Y.length≤17409000000):=by
      show _≤_
      have h1:=backB_len (l:=l.take j) fun p hp=>(HPC.out p (List.mem_of_mem_take hp)).2.2
      have h2:=HXL.out
      rw [←hY,List.length_append]
      rw [List.length_take] at h1
      omega
     by_cases hltj:j<nb
     · have hltj':(j:Int)<(nb:Int):=by omega
       have hjl:j<l.length:=by rw [HNB.out];exact hltj
       obtain ⟨a',c',e',_,hPr⟩:=HPR.out
       obtain ⟨pg,po,ha',hPd⟩:=hPr.resolve_left (fun e=>by rw [e] at hjl;simp at hjl)
       injection e' with e1 e2 e3
       clear e2 e3
       rw [ha'] at e1
       subst e1
       obtain ⟨tv,x0,x1,x2,x3,x4⟩:=hPd j hjl
       have hpc:=HPC.out _ (List.getElem_mem hjl)
       have HBC:Hid (X++backB (l.take (j+1))=Y++pcB l[j]):=by show _=_;rw [backB_succ hjl,←hY];simp
       obtain ⟨p,hp⟩:∃ p,l[j]=p:=⟨_,rfl⟩
       rw [hp] at x0 x1 x4 hpc HBC
       have y0:=cell_below x0 HY.out.2 (Nat.le_of_eq HZ.out)
       have y1:=cell_below x1 HY.out.2 (Nat.le_of_eq HZ.out)
       have y3:=cell_below x3 HY.out.2 (Nat.le_of_eq HZ.out)
       rw [hY] at HY
       obtain ⟨yn,hyn⟩:∃ yn,Y.length=yn:=⟨_,rfl⟩
       rw [hY,hyn]
       rw [hyn] at HY
       clear hyn x0 x1 x2 x3 hPr hPd ha' hp
       obtain ⟨hkd,hgd,hpl⟩:=hpc
       go_upto_block 3 with fail
       go_cut [3] (fun s wx=>Hid (OwnI wx b0 s (X++backB (l.take (j+1)))∧Below b0 w wx))
       case rest=>
        go_wp2
        exact ⟨⟨j+1,by go_num,by omega,hcut⟩,by simp [intOf];omega⟩
       rcases hkd with h1 | h1 | h1
       · have hg1:=hgd (by omega)
         have HB2:Hid (pcB p=[p.u,p.u+1]):=by show _=_;rw [pcB,if_pos h1]
         have hub:0≤p.u∧p.u≤1114367:=by
          rw [mayB,if_neg (by omega)] at hg1
          have:=hg1.1 (p.u,p.u) (by simp)
          unfold Whole at this
          simp at this
          omega
         rw [HB2.out] at HBC
         obtain ⟨u,hu⟩:∃ u,p.u=u:=⟨_,rfl⟩
         rw [hu] at y1 hub HBC
         rw [h1] at y0
         obtain ⟨u0,u1⟩:=hub
         have HU:Hid (IntKind.i64.wrap (u+1)=u+1):=IntWalk.i64_in _ ⟨by omega,by omega⟩
         have HW:Hid (∀ W,Grown wr W→OwnI W b0 (.slice va3 yn vc3) Y∧b0≤W.heap.size):=fun W hg=>⟨HY.out.1.below hg.below (Nat.le_refl _),by have:=HY.out.2.size;have:=HZ.out;have:=hg.size;omega⟩
         have HLN:Hid (Y.length+2≤8796093022208):=by have:=HYL.out;show _≤_;omega
         have HF:Hid (∀ v' W w',Grown wr W→OwnI w' b0 v' (Y++[u,u+1])→Below b0 W w'→OwnI w' b0 v' (X++backB (l.take (j+1)))∧Below b0 w w'):=fun v' W w' hg h1 h2=>⟨by rw [HBC.out];exact h1,(HY.out.2.trans (hg.below.mono (by have:=HY.out.2.size;have:=HZ.out;omega))).trans h2⟩
         clear hu h1 hg1 hgd x4 HBC HB2 HY hY HXF HE HSo
         go_wp2
         go_region_law (refine step_push2 rfl (.tmp 41) (.tmp 53) 38 rfl Tryz.underlying38 b0 (.slice va3 yn vc3) Y rfl (HW.out _ (by (repeat (first | exact Grown.refl _ | refine Grown.alloc ?_ _ | refine Grown.drew ?_ | refine Grown.drewN ?_ _ | refine Grown.quiet ?_ _ _)))).1 _ _ u (u+1) rfl (by simp) (by first | (simp;done) | (simp;exact HU.out)) HLN.out (HW.out _ (by (repeat (first | exact Grown.refl _ | refine Grown.alloc ?_ _ | refine Grown.drew ?_ | refine Grown.drewN ?_ _ | refine Grown.quiet ?_ _ _)))).2 ?_;intro v2 w2 hO2 hB2;have HO2:Hid (OwnI w2 b0 v2 (X++backB (l.take (j+1)))∧Below b0 w w2):=HF.out _ _ _ (by (repeat (first | exact Grown.refl _ | refine Grown.alloc ?_ _ | refine Grown.drew ?_ | refine Grown.drewN ?_ _ | refine Grown.quiet ?_ _ _))) hO2 hB2;clear hO2 hB2)
         all_goals (go_wp2;go_meet;exact HO2)
       · have HN2:Hid (OwnI wr b0 (.slice va3 yn vc3) (X++backB (l.take (j+1)))∧Below b0 w wr):=by
          rw [HBC.out,pcB,if_neg (by omega),if_neg (by omega),List.append_nil]
          exact HY.out
         rw [h1] at y0
         clear h1 hgd x4 HBC HY hY HXF HE HSo
         go_wp2
         go_meet
         exact HN2
       · have hg1:=hgd (by omega)
         rw [mayB,if_pos h1] at hg1
         rw [pcB,if_neg (by omega),if_pos h1] at hpl
         rw [endsL_len] at hpl
         have HE1:=Hid.mk' (HE.out wr _ _ _ _ x4 HY.out.2 HY.out.1 hg1 (by have:=HYL.out;omega))
         have HN2:Hid (∀ v' w',OwnI w' b0 v' (Y++endsL p.tl)→Below b0 wr w'→OwnI w' b0 v' (X++backB (l.take (j+1)))∧Below b0 w w'):=fun v' w' h2 h3=>by
          rw [HBC.out,pcB,if_neg (by omega),if_pos h1]
          exact ⟨h2,HY.out.2.trans h3⟩
         rw [h1] at y0
         obtain ⟨ta,tn,tc,rfl⟩:=x4.sl
         clear h1 hgd x4 HBC HY hY HXF HE HSo hg1 hpl
         go_wp2_with fail
         refine HE1.out.mono ?_
         rintro e w4 ⟨v4,rfl,h4,h5⟩
         obtain ⟨a4,m4,c4,rfl⟩:=h4.ir.sl
         have HO2:=Hid.mk' (HN2.out _ _ h4 h5)
         clear h4 h5 HN2 HE1
         go_wp2
         go_meet
         exact HO2
     · as_aux_lemma=>
        have hge:¬ (j:Int)<(nb:Int):=by omega
        have HZ2:Hid (OwnI wr b0 (.slice va3 (X++backB (l.take j)).length vc3) (0::bords (rs.take (k+1)))∧Below b0 w wr):=by
         have:=HY.out
         rw [List.take_of_length_le (by rw [HNB.out];omega)] at this ⊢
         rw [HXF.out];exact this
        generalize (X++backB (l.take j)).length=yn at HZ2 ⊢
        clear HY HYL hY
        go_wp2
        exact ⟨⟨k+1,by go_num,by omega,HZ2⟩,by simp [intOf];omega⟩
  · as_aux_lemma=>
     have hge:¬ (k:Int)<(n:Int):=by omega
     have HC:=Hid.mk' (HSo.out wr _ _ HX.out.2 HX.out.1 (by have:=HBL.out k;simp;omega) (by rw [List.take_of_length_le (by rw [HN.out];omega)]))
     generalize (0::bords (rs.take k)).length=vn at HC ⊢
     clear HX HE HSo
     go_wp2_with fail
     refine HC.out.mono ?_
     intro e w2 hQ
     have HQ:=Hid.mk' hQ
     obtain ⟨v2,m,rfl,hI,_,_⟩:=hQ
     obtain ⟨x1,x2,x3,rfl⟩:=hI.sl
     clear hI
     go_wp2
     go_ret
     exact HQ.out
def wK (rs:List Rl) (st:St) (u:Int):Int:=wgtK rs st.ws u rs.length
theorem Fin.unit_leK {rs:List Rl} {st:St} (h:Fin rs st) {j:Nat} (hj:j<st.bk.length) {u:Int} (hu:hasU (usAt st.bk j) u):wK rs st u≤wtAt st.bk j:=by
 have hpos:1≤wtAt st.bk j:=by
  unfold wtAt
  rw [List.getElem?_eq_getElem hj]
  exact (h.run.ok.pb _ (List.getElem_mem hj)).2.1
 unfold wK
 rcases wgtK_is (rs:=rs) (ws:=st.ws) (u:=u) rs.length with e | ⟨i,hi,h1,e⟩
 · omega
 · rw [e]
   have h2:hasU (fstS rs i) u:=by
    unfold hasB at h1
    simp only [Bool.and_eq_true,decide_eq_true_eq] at h1
    exact h1.2
   exact h.run.sn i j (by rw [csI_len];exact hi) hj (touch_of _ _ u (key_good h.ok hi) (h.us_good hj) h2 hu)
theorem Fin.ws_in {rs:List Rl} {st:St} (h:Fin rs st) {i:Nat} (hi:i<rs.length):1≤at0 st.ws i∧at0 st.ws i≤64:=h.run.ok.wb i (by rw [csI_len];exact hi)
theorem Fin.wK_in {rs:List Rl} {st:St} (h:Fin rs st) (u:Int):1≤wK rs st u∧wK rs st u≤64:=by
 refine ⟨wgtK_one _,?_⟩
 unfold wK
 rcases wgtK_is (rs:=rs) (ws:=st.ws) (u:=u) rs.length with e | ⟨i,hi,_,e⟩
 · omega
 · rw [e];exact (h.ws_in hi).2
theorem Fin.wK_ge {rs:List Rl} {st:St} {i:Nat} (hi:i<rs.length) {u:Int} (hu:hasB (fstS rs i) u=true):at0 st.ws i≤wK rs st u:=wgtK_ge hi hu
theorem Fin.gen {rs:List Rl} {st:St} (h:Fin rs st) (g:List (Int × Int)→Int) (hg:∀ j,j<st.bk.length→g (usAt st.bk j)≤wtAt st.bk j) {i:Nat} (hi:i<rs.length) :
 2 - (rs[i].key.length:Int)+copN (backP rs[i])+gs g (pbs i (backP rs[i])) i≤at0 st.ws i:=by
 have h2:gs g (pbs i (backP rs[i])) i=gs g st.bk i:=by
  rw [gs_same h.run.rk h.run.ok.uss,gs_bkI,if_pos hi,List.getElem?_eq_getElem hi]
  rfl
 have h3:gs g st.bk i≤wsum st.bk i:=gs_le (fun b hb=>by
  obtain ⟨j,hj,rfl⟩:=List.getElem_of_mem hb
  have:=hg j hj
  rw [usAt_at hj] at this
  unfold wtAt at this
  rw [List.getElem?_eq_getElem hj] at this
  exact this) i
 have h4:=h.run.ok.asum i (by rw [csI_len];exact hi)
 rw [csI_val hi] at h4
 have h5:=h.en i hi
 omega
theorem bAt_lt {L:List Int} {i:Nat} (h:i<L.length):bAt L i=L[i]:=by simp [bAt,h]
theorem rise_lt {L:List Int} (h:L.Pairwise (· < ·)) {i j:Nat} (hij:i<j) (hj:j<L.length):bAt L i<bAt L j:=by
 rw [bAt_lt (by omega),bAt_lt hj]
 exact List.pairwise_iff_getElem.1 h i j (by omega) hj hij
theorem rise_le {L:List Int} (h:L.Pairwise (· < ·)) {i j:Nat} (hij:i≤j) (hj:j<L.length):bAt L i≤bAt L j:=by
 by_cases e:i=j
 · subst e;exact Int.le_refl _
 · exact Int.le_of_lt (rise_lt h (by omega) hj)
theorem plc_at {L:List Int} (h:L.Pairwise (· < ·)) {x:Int} (hx:x∈L):bAt L (plc L x)=x:=by
 obtain ⟨q,hq,rfl⟩:=List.getElem_of_mem hx
 have e:bAt L q=L[q]:=bAt_lt hq
 rw [←e]
 have hp:=plcF_spec L (bAt L q) L.length 0 L.length (by omega) (by omega) (Nat.le_refl _) (rise_le h (Nat.zero_le _) hq) (.inl rfl)
 rw [←plc] at hp
 generalize plc L (bAt L q)=p at hp
 obtain ⟨h1,h2,h3⟩:=hp
 rcases Nat.lt_trichotomy p q with h4 | h4 | h4
 · rcases h3 with h3 | h3
   · omega
   · have:=rise_le h (show p+1≤q by omega) hq;omega
 · rw [h4]
 · have:=rise_lt h h4 h1;omega
theorem plc_ge {L:List Int} (h:L.Pairwise (· < ·)) {x:Int} (hx:x∈L) {k:Nat} (hk:plc L x≤k) (hl:k<L.length):x≤bAt L k:=by
 have:=rise_le h hk hl
 rw [plc_at h hx] at this
 exact this
structure WB (rs:List Rl) (st:St) (L W:List Int):Prop where
 e:W.length=L.length
 b:∀ k,k<L.length→1≤bAt W k∧bAt W k≤wK rs st (bAt L k)
theorem grK_le {L W:List Int} {hi X:Int} : ∀ (f k:Nat) (n:Int),n≤X→(∀ j,k≤j→j<L.length→bAt L j≤hi→bAt W j≤X)→grK L W hi f k n≤X
 | 0,_,_,h,_=>h
 | f+1,k,n,h,hk=>by
  rw [grK]
  split
  · rename_i hc
    refine grK_le f (k+1) _ ?_ fun j hj=>hk j (by omega)
    split
    · exact hk k (Nat.le_refl _) hc.1 hc.2
    · exact h
  · exact h
theorem grt_le {L W:List Int} {X:Int} (s:List (Int × Int)) (h0:0≤X) (h:∀ x∈s,∀ j,plc L x.1≤j→j<L.length→bAt L j≤x.2→bAt W j≤X):grt L W s≤X:=by
 have:∀ (s:List (Int × Int)) (n:Int),n≤X→(∀ x∈s,∀ j,plc L x.1≤j→j<L.length→bAt L j≤x.2→bAt W j≤X)→s.foldl (gr1 L W) n≤X:=by
  intro s
  induction s with
  | nil=>intro n hn _;exact hn
  | cons x s ih=>
   intro n hn hs
   exact ih _ (grK_le _ _ _ hn (hs x (by simp))) fun y hy=>hs y (by simp [hy])
 exact this s 0 h0 h
theorem grK_mono {L W:List Int} {hi:Int} : ∀ (f k:Nat) (n:Int),n≤grK L W hi f k n
 | 0,_,n=>Int.le_refl n
 | f+1,k,n=>by
  rw [grK]
  split
  · refine Int.le_trans ?_ (grK_mono f _ _)
    split <;> omega
  · exact Int.le_refl n
theorem grt_one {L W:List Int} (hS:L.Pairwise (· < ·)) {u:Int} (hu:u∈L):bAt W (plc L u)≤grt L W [(u,u)]:=by
 have hp:=plc_lt u (show 0<L.length from List.length_pos_of_mem hu)
 have ha:=plc_at hS hu
 unfold grt gr1
 simp only [List.foldl_cons,List.foldl_nil]
 obtain ⟨f,hf⟩:∃ f,L.length=f+1:=⟨L.length - 1,by omega⟩
 rw [hf,grK,if_pos ⟨by omega,by omega⟩]
 refine Int.le_trans ?_ (grK_mono f _ _)
 split <;> omega
theorem mem_bords {rs:List Rl} {r:Rl} (hr:r∈rs) {x:Int} (hx:x∈rlB r):x∈bords rs:=List.mem_flatMap.2 ⟨r,hr,hx⟩
theorem mem_ends {s:List (Int × Int)} {x:Int × Int} (hx:x∈s):x.1∈endsL s:=List.mem_flatMap.2 ⟨x,hx,by simp⟩
theorem mem_may {rs:List Rl} {r:Rl} (hr:r∈rs) {p:Pc} (hp:p∈backP r) (hk:p.k=1∨p.k=3) {x:Int × Int} (hx:x∈mayB p):x.1∈bords rs:=by
 refine mem_bords hr (List.mem_append_right _ (List.mem_flatMap.2 ⟨p,hp,?_⟩))
 unfold pcB
 rcases hk with h | h
 · rw [if_pos h]
   rw [mayB,if_neg (by omega)] at hx
   simp at hx
   subst hx
   simp
 · rw [if_neg (by omega),if_pos h]
   rw [mayB,if_pos h] at hx
   exact mem_ends hx
theorem us_may {rs:List Rl} {st:St} (h:Fin rs st) {j:Nat} (hj:j<st.bk.length):∃ r∈rs,∃ p∈backP r,p.k≠2∧usAt st.bk j=mayB p:=by
 have hu:=h.run.ok.uss
 have hl:st.bk.length=(bkI rs rs.length).length:=by simpa using congrArg List.length hu
 rw [usAt_eq hu]
 simp only [List.getElem?_map]
 rw [List.getElem?_eq_getElem (by omega)]
 have:∀ {k:Nat} {b:Pb},b∈bkI rs k→∃ r∈rs,∃ p∈backP r,p.k≠2∧b.us=mayB p:=by
  intro k
  induction k with
  | zero=>intro b hb;simp [bkI] at hb
  | succ k ih=>
   intro b hb
   rw [bkI] at hb
   rcases List.mem_append.1 hb with hb | hb
   · exact ih hb
   · obtain ⟨p,h1,h2,h3⟩:=pbs_mem2 hb
     cases hk:rs[k]? with
     | none=>rw [hk] at h1;simp at h1
     | some r=>
      rw [hk] at h1
      exact ⟨r,List.mem_of_getElem? hk,p,by simpa using h1,h2,h3⟩
 exact this (List.getElem_mem _)
theorem kind_of {rs:List Rl} {st:St} (h:Fin rs st) {r:Rl} (hr:r∈rs) {p:Pc} (hp:p∈backP r):p.k=1∨p.k=2∨p.k=3:=by
 rcases pc_ok ((h.ok r hr).pc p (List.mem_of_mem_drop hp)) with ⟨h1,_⟩ | ⟨h1,_⟩ | ⟨h1,_⟩ <;> omega
theorem grt_wt {rs:List Rl} {st:St} (h:Fin rs st) {L W:List Int} (hS:Srt (0::bords rs) L) (hB:WB rs st L W) {j:Nat} (hj:j<st.bk.length):grt L W (usAt st.bk j)≤wtAt st.bk j:=by
 have hpos:1≤wtAt st.bk j:=by
  unfold wtAt
  rw [List.getElem?_eq_getElem hj]
  exact (h.run.ok.pb _ (List.getElem_mem hj)).2.1
 obtain ⟨r,hr,p,hp,h2,hu⟩:=us_may h hj
 refine grt_le _ (by omega) fun x hx k hk hl hle => ?_
 have hm:x.1∈L:=(hS.m _).2 (List.mem_cons_of_mem _ (mem_may hr hp (by have:=kind_of h hr hp;omega) (by rw [←hu];exact hx)))
 have hge:=plc_ge hS.p hm hk hl
 exact Int.le_trans (hB.b k hl).2 (h.unit_leK hj ⟨x,hx,hge,hle⟩)
theorem pcS_gs {rs:List Rl} {st:St} (h:Fin rs st) {L W:List Int} (hS:Srt (0::bords rs) L) {r:Rl} (hr:r∈rs) (n:Nat):∀ l:List Pc,(∀ p∈l,p∈backP r)→pcS L W l≤gs (grt L W) (pbs n l) n
 | [],_=>by simp [pcS,pbs,gs]
 | p::l,hl=>by
  have ih:=pcS_gs (W:=W) h hS hr n l fun q hq=>hl q (List.mem_cons_of_mem _ hq)
  have hp:=hl p List.mem_cons_self
  simp only [pcS,pbs]
  rcases kind_of h hr hp with h1 | h1 | h1
  · rw [if_neg (by omega)]
    have hm:p.u∈L:=(hS.m _).2 (List.mem_cons_of_mem _ (mem_may hr hp (.inl h1) (x:=(p.u,p.u)) (by rw [mayB,if_neg (by omega)];simp)))
    have:=grt_one (W:=W) hS.p hm
    have e:mayB p=[(p.u,p.u)]:=by unfold mayB;rw [if_neg (by omega)]
    simp only [gs,if_pos,e]
    rw [pcW,if_pos h1]
    omega
  · rw [if_pos h1,pcW,if_neg (by omega),if_neg (by omega)];omega
  · rw [if_neg (by omega)]
    have e:mayB p=p.tl:=by unfold mayB;rw [if_pos h1]
    simp only [gs,if_pos,e]
    rw [pcW,if_neg (by omega),if_pos h1]
    omega
theorem wnt_le {rs:List Rl} {st:St} (h:Fin rs st) {L W:List Int} (hS:Srt (0::bords rs) L) (hB:WB rs st L W) {i:Nat} (hi:i<rs.length):wnt L W rs[i]≤at0 st.ws i:=by
 have h1:=h.gen (grt L W) (fun j hj=>grt_wt h hS hB hj) hi
 have h2:=pcS_gs (W:=W) h hS (List.getElem_mem hi) i (backP rs[i]) fun p hp=>hp
 unfold wnt
 omega
theorem bAt_set {l:List Int} {i j:Nat} {x:Int} (h:i<l.length):bAt (l.set i x) j=if j=i then x else bAt l j:=at0_set h
theorem WB.set {rs:List Rl} {st:St} {L W:List Int} (h:WB rs st L W) {k:Nat} (hk:k<L.length) {i:Nat} (hi:i<rs.length) (hu:hasU (fstS rs i) (bAt L k)) (hv:validB (fstS rs i)=true) {n:Int} (h1:bAt W k<n) (h2:n≤at0 st.ws i):WB rs st L (W.set k n):=by
 refine ⟨by simp [h.e],fun j hj => ?_⟩
 rw [bAt_set (by rw [h.e];exact hk)]
 split
 · rename_i e
   subst e
   have:=(h.b j hk).1
   exact ⟨by omega,Int.le_trans h2 (Fin.wK_ge hi (by simp [hasB,hv,hu]))⟩
 · exact h.b j hj
theorem tws_more {W:List Int} {k:Nat} (hk:k<W.length) {n:Int} (h0:0≤bAt W k) (h1:bAt W k<n):tws W<tws (W.set k n):=by
 have h2:=tws_set W k n hk
 have e:at0 W k=bAt W k:=rfl
 rw [e] at h2
 omega
theorem first_valid {rs:List Rl} (hO:∀ r∈rs,Ok r) {i:Nat} (hi:i<rs.length):validB (fstS rs i)=true∧(fstS rs i).length≤512∧Good (fstS rs i):=by
 rw [fstS_at hi]
 have:=keyG (hO _ (List.getElem_mem hi))
 exact ⟨(validB_iff _).2 this,this⟩
theorem first_in {rs:List Rl} {L:List Int} (hS:Srt (0::bords rs) L) {i:Nat} (hi:i<rs.length) {j:Nat} (hj:j<(fstS rs i).length) {k:Nat} (h1:plc L (rg (fstS rs i) j).1≤k) (h2:k<L.length) (h3:bAt L k≤(rg (fstS rs i) j).2):hasU (fstS rs i) (bAt L k):=by
 have hm:(rg (fstS rs i) j).1∈L:=by
  refine (hS.m _).2 (List.mem_cons_of_mem _ (mem_bords (List.getElem_mem hi) (List.mem_append_left _ ?_)))
  rw [←fstS_at hi]
  exact mem_ends (by rw [rg_lt hj];exact List.getElem_mem hj)
 exact ⟨rg (fstS rs i) j,by rw [rg_lt hj];exact List.getElem_mem hj,plc_ge hS.p hm h1 h2,h3⟩
theorem blk_lt {w:World} {g:Nat} {o:Obj} (h:w.heap[g]? = some o):g<w.heap.size:=(Array.getElem?_eq_some_iff.1 h).1
theorem blk_below {w w':World} {g n:Nat} {o:Obj} (h:w.heap[g]? = some o) (hb:Below n w w') (hg:g<n):w'.heap[g]? = some o:=by rw [hb.block g hg];exact h
theorem OwnI.turn {w w':World} {base:Nat} {v:Value} {l:List Int} (h:OwnI w base v l) (hk:∀ b,base≤b→w'.heap[b]? = w.heap[b]?):OwnI w' base v l:=by
 refine ⟨h.1,?_⟩
 rcases h.2 with h1 | ⟨g,cap,cur,h1,h2,h3,h4⟩
 · exact .inl h1
 · exact .inr ⟨g,cap,cur,h1,h2,(hk g h2).trans h3,h4⟩
theorem ints_set (l:List Int) (k:Nat) (x:Int):ints (l.set k x)=(ints l).set k (.int .i64 x):=by simp [ints,List.map_set]
theorem ret_sc {fn:Func} {p q:Tmp} {W:World} {B:Nat} {tmps:Array Value} {a b:Value} {t:Bool} {R:Ending→World→Prop} (hr:fn.results=#[.cell p 93,.tmp q]) (hp:tmps.getD p undef = .pointer (some ⟨B,0,none⟩)) (hq:tmps.getD q undef = .bool t) (h:W.heap[B]? = some (.cells #[a,b] 93 (0,0)))
 (K:R (.returned (.tuple #[.agg #[a,b],.bool t])) W):bodyPost Tryz.prog fn R Exit.ret { tmps:=tmps,defers:=[] } W:=by
 have c0:W.cell? ⟨B,0,none⟩=some a:=by rw [cell_of h];simp
 have c1:W.cell? ⟨B,1,none⟩=some b:=by rw [cell_of h];simp
 refine bodyPost_ret (v := .tuple #[.agg #[a,b],.bool t]) ?_ rfl K
 rw [results_cell_tmp hr]
 simp only [hp,hq]
 simp [go_sem,Result.andThen,c0,c1]
structure Fr (w w':World) (B:Nat→Prop):Prop where
 os:w'.os=w.os
 tape:w'.tape=w.tape
 output:w'.output=w.output
 size:w.heap.size≤w'.heap.size
 block:∀ k,k<w.heap.size→¬ B k→w'.heap[k]? = w.heap[k]?
theorem Fr.refl (w:World) (B:Nat→Prop):Fr w w B:=⟨rfl,rfl,rfl,Nat.le_refl _,fun _ _ _=>rfl⟩
theorem Fr.mono {w w':World} {B C:Nat→Prop} (h:Fr w w' B) (hc:∀ k,k<w.heap.size→B k→C k):Fr w w' C:=⟨h.os,h.tape,h.output,h.size,fun k hk hn=>h.block k hk fun hb=>hn (hc k hk hb)⟩
theorem Fr.trans {a b c:World} {B C:Nat→Prop} (h:Fr a b B) (k:Fr b c C) (hc:∀ i,i<a.heap.size→C i→B i):Fr a c B:=
 ⟨k.os.trans h.os,k.tape.trans h.tape,k.output.trans h.output,Nat.le_trans h.size k.size,fun i hi hn=>(k.block i (by have:=h.size;omega) fun hi2=>hn (hc i hi hi2)).trans (h.block i hi hn)⟩
theorem Fr.below {w w':World} {B:Nat→Prop} {base:Nat} (h:Fr w w' B) (hB:∀ k,B k→base≤k) (hb:base≤w.heap.size):Below base w w':=⟨h.os,h.tape,h.output,h.size,fun k hk=>h.block k (by omega) fun hk2=>by have:=hB k hk2;omega⟩
theorem fr_by {w w':World} {row:Option Nat} (h:w.grownBy w' row):Fr w w' fun k=>row=some k:=⟨h.os,h.tape,h.output,h.size,fun k hk hn=>h.block k hk fun e=>hn e.symm⟩
theorem fr_below {w w':World} {n:Nat} (h:Below n w w') (hn:w.heap.size≤n) (B:Nat→Prop):Fr w w' B:=⟨h.os,h.tape,h.output,h.size,fun k hk _=>h.block k (by omega)⟩
theorem fr_grown {w w':World} (h:Grown w w') (B:Nat→Prop):Fr w w' B:=fr_below h.below (Nat.le_refl _) B
theorem fr_set (w:World) (b j:Nat) (u:Value):Fr w (w.setCell ⟨b,j,none⟩ u) fun k=>k=b:=⟨rfl,rfl,rfl,by simp [World.setCell],fun k _ hn=>Below.heap_setCell w ⟨b,j,none⟩ u k hn⟩
theorem own_fr {w w':World} {base:Nat} {e:TypeId} {size:Nat} {v:Value} {n:Nat} {xs:List Value} {B:Nat→Prop} (h:w.ownsRow base e size v n xs) (hf:Fr w w' B) (hB:∀ b,v.ownBlock=some b→¬ B b):w'.ownsRow base e size v n xs:=by
 refine ⟨h.1,?_⟩
 rcases h.2 with hn | ⟨g,cap,cur,rfl,hb,hgg,rest⟩
 · exact .inl hn
 · exact .inr ⟨g,cap,cur,rfl,hb,(hf.block g (blk_lt hgg) (hB g rfl)).trans hgg,rest⟩
theorem own_at {w:World} {base:Nat} {e:TypeId} {size:Nat} {v:Value} {n:Nat} {xs:List Value} (h:w.ownsRow base e size v n xs) {b:Nat} (hb:v.ownBlock=some b):∃ cur,w.heap[b]? = some (.cells cur e (0,0)):=by
 rcases h.2 with ⟨rfl,_⟩ | ⟨g,cap,cur,rfl,_,hg,_⟩
 · cases hb
 · injection hb with hb
   simp only at hb
   subst hb
   exact ⟨cur,hg⟩
abbrev It:=Value × List (Int × Int)
def cut:Value→Value
 | .slice a n c => .slice a (n - 1) c
 | v=>v
structure LRu where
 bg:Bool
 en:Bool
 cu:Int
 a:Value × List It
 k:Value × List It
 p:Value × List It
 q:Value × List (Pc × Value)
def LRu.cells (r:LRu):List Value:=[.bool r.bg,cut r.a.1,cut r.k.1,cut r.p.1,.bool r.en,cut r.q.1,.int .i64 r.cu]
section
variable {w:World} {base xb:Nat} {pv rv sv gv cv:Value} {G:List It} {S:List (Value × List It)} {C:List (Value × List (Pc × Value))} {R:List LRu} {re:List Value} {n:Nat}
end
structure Sq (w0 w:World) (blk cap n:Nat) (d:List Int):Prop where
 l:d.length=n
 o:w.ownsRow 0 3 1 (.slice (some ⟨blk,0,none⟩) n cap) n (ints d)
 f:Fr w0 w (fun b=>b=blk)
 r:∀ i,i<n→0≤bAt d i∧bAt d i<(n:Int)
theorem Sq.grown {w0 w w':World} {blk cap n:Nat} {d:List Int} (h:Sq w0 w blk cap n d) (k:Grown w w'):Sq w0 w' blk cap n d:=
 ⟨h.l,own_fr h.o (fr_grown k fun _=>False) fun _ _=>id,h.f.trans (fr_grown k fun _=>False) fun _ _ e=>e.elim,h.r⟩
theorem Sq.cell {w0 w:World} {blk cap n:Nat} {d:List Int} (h:Sq w0 w blk cap n d) {j:Nat} (hj:j<n):w.cell? ⟨blk,j,none⟩=some (.int .i64 (bAt d j)):=by
 rw [World.ownsRow.cellAt h.o j (by omega)]
 have hl:=h.l
 simp [ints,bAt,hl,hj]
theorem Sq.frozen {w0 w:World} {blk cap n:Nat} {d:List Int} (h:Sq w0 w blk cap n d) (j:Nat):w.frozen? ⟨blk,j,none⟩=false:=World.ownsRow.frozenAt h.o j
def swp (d:List Int) (i j:Nat):List Int:=(d.set i (bAt d j)).set j (bAt d i)
theorem swp_len (d:List Int) (i j:Nat):(swp d i j).length=d.length:=by simp [swp]
theorem swp_at {d:List Int} {i j:Nat} (hi:i<d.length) (hj:j<d.length) (k:Nat):bAt (swp d i j) k=if k=j then bAt d i else if k=i then bAt d j else bAt d k:=by
 unfold swp
 rw [bAt_set (by simpa using hj),bAt_set hi]
theorem Sq.swap {w0 w:World} {blk cap n:Nat} {d:List Int} (h:Sq w0 w blk cap n d) {i j:Nat} (hi:i<n) (hj:j<n):Sq w0 ((w.setCell ⟨blk,i,none⟩ (.int .i64 (bAt d j))).setCell ⟨blk,j,none⟩ (.int .i64 (bAt d i))) blk cap n (swp d i j):=by
 have o1:=(World.ownsRow.stored h.o i (.int .i64 (bAt d j))).1
 have o2:=(World.ownsRow.stored o1 j (.int .i64 (bAt d i))).1
 refine ⟨by rw [swp_len];exact h.l,by unfold swp;rw [ints_set,ints_set];exact o2,(h.f.trans (fr_set w blk i _) fun _ _ e=>e).trans (fr_set _ blk j _) fun _ _ e=>e,fun k hk => ?_⟩
 have hl:=h.l
 rw [swp_at (by omega) (by omega)]
 split
 · exact h.r i hi
 · split
   · exact h.r j hj
   · exact h.r k hk
def InS (d:List Int) (a b:Nat) (x:Int):Prop:=∃ i,a≤i∧i<b∧bAt d i=x
structure Mix (d d':List Int) (a b:Nat):Prop where
 l:d'.length=d.length
 o:∀ k,¬ (a≤k∧k<b)→bAt d' k=bAt d k
 s:∀ x,InS d' a b x↔InS d a b x
theorem Mix.refl (d:List Int) (a b:Nat):Mix d d a b:=⟨rfl,fun _ _=>rfl,fun _=>Iff.rfl⟩
theorem Mix.trans {d e f:List Int} {a b:Nat} (h:Mix d e a b) (k:Mix e f a b):Mix d f a b:=⟨k.l.trans h.l,fun i hi=>(k.o i hi).trans (h.o i hi),fun x=>(k.s x).trans (h.s x)⟩
theorem Mix.wide {d e:List Int} {a b a' b':Nat} (h:Mix d e a b) (ha:a'≤a) (hb:b≤b'):Mix d e a' b':=by
 refine ⟨h.l,fun i hi=>h.o i (by omega),fun x=>⟨?_,?_⟩⟩
 · rintro ⟨i,h1,h2,h3⟩
   by_cases hi:a≤i∧i<b
   · obtain ⟨j,k1,k2,k3⟩:=(h.s x).1 ⟨i,hi.1,hi.2,h3⟩
     exact ⟨j,by omega,by omega,k3⟩
   · exact ⟨i,h1,h2,by rw [←h.o i hi];exact h3⟩
 · rintro ⟨i,h1,h2,h3⟩
   by_cases hi:a≤i∧i<b
   · obtain ⟨j,k1,k2,k3⟩:=(h.s x).2 ⟨i,hi.1,hi.2,h3⟩
     exact ⟨j,by omega,by omega,k3⟩
   · exact ⟨i,h1,h2,by rw [h.o i hi];exact h3⟩
structure Ex (d d':List Int) (a b i:Nat):Prop where
 l:d'.length=d.length
 x:∀ k,a≤k→k<a+i→bAt d' k=bAt d (k+(b - a))
 y:∀ k,b≤k→k<b+i→bAt d' k=bAt d (k - (b - a))
 z:∀ k,¬ (a≤k∧k<a+i)→¬ (b≤k∧k<b+i)→bAt d' k=bAt d k
theorem Ex.zero (d:List Int) (a b:Nat):Ex d d a b 0:=⟨rfl,fun k h1 h2=>by omega,fun k h1 h2=>by omega,fun _ _ _=>rfl⟩
theorem Ex.succ {d d':List Int} {a b i n:Nat} (h:Ex d d' a b i) (hi:i<n) (hab:a+n≤b) (hb:b+n≤d.length):Ex d (swp d' (a+i) (b+i)) a b (i+1):=by
 have hl:=h.l
 have at':=swp_at (d:=d') (i:=a+i) (j:=b+i) (by omega) (by omega)
 have ha:=h.z (a+i) (by omega) (by omega)
 have hbb:=h.z (b+i) (by omega) (by omega)
 refine ⟨by rw [swp_len];exact hl,fun k h1 h2 => ?_,fun k h1 h2 => ?_,fun k h1 h2 => ?_⟩
 · rw [at',if_neg (by omega)]
   by_cases e:k=a+i
   · subst e
     rw [if_pos rfl,hbb]
     congr 1
     omega
   · rw [if_neg e];exact h.x k h1 (by omega)
 · rw [at']
   by_cases e:k=b+i
   · subst e
     rw [if_pos rfl,ha]
     congr 1
     omega
   · rw [if_neg e,if_neg (by omega)];exact h.y k h1 (by omega)
 · rw [at',if_neg (by omega),if_neg (by omega)]
   exact h.z k (by omega) (by omega)
structure Rot (d d':List Int) (a m b:Nat):Prop where
 l:d'.length=d.length
 x:∀ k,a≤k→k<a+(b - m)→bAt d' k=bAt d (k+(m - a))
 y:∀ k,a+(b - m)≤k→k<b→bAt d' k=bAt d (k - (b - m))
 z:∀ k,¬ (a≤k∧k<b)→bAt d' k=bAt d k
structure RotI (d e:List Int) (a m b i j:Nat):Prop where
 l:e.length=d.length
 i1:1≤i
 i2:i≤m - a
 j1:1≤j
 j2:j≤b - m
 g:∀ f,Rot e f (m - i) m (m+j)→Rot d f a m b
theorem rotI_start {d:List Int} {a m b:Nat} (h1:a<m) (h2:m<b):RotI d d a m b (m - a) (b - m):=by
 refine ⟨rfl,by omega,Nat.le_refl _,by omega,Nat.le_refl _,fun f hf => ?_⟩
 have e1:m - (m - a)=a:=by omega
 have e2:m+(b - m)=b:=by omega
 rw [e1,e2] at hf
 exact hf
theorem RotI.left {d e e':List Int} {a m b i j:Nat} (h:RotI d e a m b i j) (ha:a≤m) (hij:j<i) (hx:Ex e e' (m - i) m j):RotI d e' a m b (i - j) j:=by
 have:=h.i1;have:=h.i2;have:=h.j1;have:=h.j2
 refine ⟨hx.l.trans h.l,by omega,by omega,h.j1,h.j2,fun f hf=>h.g f ⟨hf.l.trans hx.l,fun k h1 h2 => ?_,fun k h1 h2 => ?_,fun k h1 => ?_⟩⟩
 · rw [hf.z k (by omega),hx.x k h1 (by omega)]
 · by_cases hk:k<m - (i - j)+(m+j - m)
   · rw [hf.x k (by omega) hk,hx.y _ (by omega) (by omega)]
     congr 1
     omega
   · rw [hf.y k (by omega) h2,hx.z _ (by omega) (by omega)]
 · rw [hf.z k (by omega),hx.z k (by omega) (by omega)]
theorem RotI.right {d e e':List Int} {a m b i j:Nat} (h:RotI d e a m b i j) (ha:a≤m) (hij:i<j) (hx:Ex e e' (m - i) (m+j - i) i):RotI d e' a m b i (j - i):=by
 have:=h.i1;have:=h.i2;have:=h.j1;have:=h.j2
 refine ⟨hx.l.trans h.l,h.i1,h.i2,by omega,by omega,fun f hf=>h.g f ⟨hf.l.trans hx.l,fun k h1 h2 => ?_,fun k h1 h2 => ?_,fun k h1 => ?_⟩⟩
 · by_cases hk:k<m - i+(m+(j - i) - m)
   · rw [hf.x k h1 hk,hx.z _ (by omega) (by omega)]
   · by_cases hk2:k<m+(j - i)
     · rw [hf.y k (by omega) hk2,hx.x _ (by omega) (by omega)]
       congr 1
       omega
     · omega
 · by_cases hk:k<m+(j - i)
   · omega
   · rw [hf.z k (by omega),hx.y k (by omega) (by omega)]
     congr 1
     omega
 · rw [hf.z k (by omega),hx.z k (by omega) (by omega)]
theorem RotI.done {d e f:List Int} {a m b i:Nat} (h:RotI d e a m b i i) (hx:Ex e f (m - i) m i):Rot d f a m b:=by
 have:=h.i1;have:=h.i2
 refine h.g f ⟨hx.l,fun k h1 h2 => ?_,fun k h1 h2 => ?_,fun k h1=>hx.z k (by omega) (by omega)⟩
 · rw [hx.x k h1 (by omega)]
 · rw [hx.y k (by omega) (by omega)]
   congr 1
   omega
def lt (key:Int→Int) (x y:Int):Prop:=key y<key x∨(key x=key y∧x<y)
theorem lt.trans {key:Int→Int} {x y z:Int} (h:lt key x y) (k:lt key y z):lt key x z:=by unfold lt at *;omega
theorem lt_clt {key:Int→Int} {x y:Int} (h:key y<key x):lt key x y := .inl h
theorem lt_not {key:Int→Int} {x y:Int} (hx:x<y) (h:¬ key x<key y):lt key x y:=by unfold lt;omega
def SS (key:Int→Int) (d:List Int) (a b:Nat):Prop:=∀ i j,a≤i→i<j→j<b→lt key (bAt d i) (bAt d j)
theorem SS.le {key:Int→Int} {d:List Int} {a b:Nat} (h:SS key d a b) {i j:Nat} (h1:a≤i) (h2:i≤j) (h3:j<b) {z:Int} (hz:lt key (bAt d j) z):lt key (bAt d i) z:=by
 by_cases e:i=j
 · subst e;exact hz
 · exact (h i j h1 (by omega) h3).trans hz
theorem SS.ge {key:Int→Int} {d:List Int} {a b:Nat} (h:SS key d a b) {i j:Nat} (h1:a≤i) (h2:i≤j) (h3:j<b) {z:Int} (hz:lt key z (bAt d i)):lt key z (bAt d j):=by
 by_cases e:i=j
 · subst e;exact hz
 · exact hz.trans (h i j h1 (by omega) h3)
theorem SS.same {key:Int→Int} {d e:List Int} {a b:Nat} (h:SS key d a b) (he:∀ k,a≤k→k<b→bAt e k=bAt d k):SS key e a b:=fun i j h1 h2 h3=>by rw [he i h1 (by omega),he j (by omega) h3];exact h i j h1 h2 h3
def Hx (d:List Int) (a m b:Nat):Prop:=∀ i j,a≤i→i<m→m≤j→j<b→bAt d i<bAt d j
theorem Rot.mix {d e:List Int} {a m b:Nat} (h:Rot d e a m b) (h1:a≤m) (h2:m≤b):Mix d e a b:=by
 refine ⟨h.l,h.z,fun x=>⟨?_,?_⟩⟩
 · rintro ⟨i,k1,k2,k3⟩
   by_cases hi:i<a+(b - m)
   · exact ⟨i+(m - a),by omega,by omega,by rw [←h.x i k1 hi];exact k3⟩
   · exact ⟨i - (b - m),by omega,by omega,by rw [←h.y i (by omega) k2];exact k3⟩
 · rintro ⟨i,k1,k2,k3⟩
   by_cases hi:i<m
   · refine ⟨i+(b - m),by omega,by omega,?_⟩
     rw [h.y _ (by omega) (by omega),Nat.add_sub_cancel];exact k3
   · refine ⟨i - (m - a),by omega,by omega,?_⟩
     rw [h.x _ (by omega) (by omega),Nat.sub_add_cancel (by omega)];exact k3
theorem rot_none {d:List Int} {a m b:Nat} (h:a=m∨m=b) (h1:a≤m) (h2:m≤b):Rot d d a m b:=by
 refine ⟨rfl,fun k k1 k2 => ?_,fun k k1 k2 => ?_,fun _ _=>rfl⟩
 · rcases h with h | h
   · subst h;congr 1;omega
   · omega
 · rcases h with h | h
   · omega
   · subst h;congr 1;omega
theorem rot_left {key:Int→Int} {d d1:List Int} {a m b st en:Nat} (hs1:SS key d a m) (hs2:SS key d m b) (hx:Hx d a m b) (k1:a≤st) (k2:st≤m) (k3:m≤en) (k4:en≤b) (hr:Rot d d1 st m en) :
 SS key d1 a st∧SS key d1 st (st+(en - m))∧Hx d1 a st (st+(en - m))∧SS key d1 (st+(en - m)) en∧SS key d1 en b∧Hx d1 (st+(en - m)) en b:=by
 have e1:∀ k,k<st→bAt d1 k=bAt d k:=fun k hk=>hr.z k (by omega)
 have e2:∀ k,st≤k→k<st+(en - m)→bAt d1 k=bAt d (k+(m - st)):=hr.x
 have e3:∀ k,st+(en - m)≤k→k<en→bAt d1 k=bAt d (k - (en - m)):=hr.y
 have e4:∀ k,en≤k→bAt d1 k=bAt d k:=fun k hk=>hr.z k (by omega)
 refine ⟨fun i j h1 h2 h3 => ?_,fun i j h1 h2 h3 => ?_,fun i j h1 h2 h3 h4 => ?_,fun i j h1 h2 h3 => ?_,fun i j h1 h2 h3 => ?_,fun i j h1 h2 h3 h4 => ?_⟩
 · rw [e1 i (by omega),e1 j h3];exact hs1 i j h1 h2 (by omega)
 · rw [e2 i h1 (by omega),e2 j (by omega) h3];exact hs2 _ _ (by omega) (by omega) (by omega)
 · rw [e1 i h2,e2 j h3 h4];exact hx _ _ h1 (by omega) (by omega) (by omega)
 · rw [e3 i h1 (by omega),e3 j (by omega) h3];exact hs1 _ _ (by omega) (by omega) (by omega)
 · rw [e4 i h1,e4 j (by omega)];exact hs2 i j (by omega) h2 h3
 · rw [e3 i h1 h2,e4 j h3];exact hx _ _ (by omega) (by omega) (by omega) h4
theorem sym_done {key:Int→Int} {d d1 d2 d3:List Int} {a m b st en mid:Nat} (hs1:SS key d a m) (hs2:SS key d m b) (k1:a≤st) (k2:st≤m) (k3:m≤en) (k4:en≤b) (hmid:mid=st+(en - m))
 (c1:a<st→en<b→lt key (bAt d (st - 1)) (bAt d en)) (c2:st<m→m<en→lt key (bAt d (en - 1)) (bAt d st)) (hr:Rot d d1 st m en) (m2:Mix d1 d2 a mid) (s2:SS key d2 a mid) (m3:Mix d2 d3 mid b) (s3:SS key d3 mid b):Mix d d3 a b∧SS key d3 a b:=by
 subst hmid
 have hmid2:st+(en - m)≤b:=by omega
 refine ⟨((hr.mix k2 k3).wide k1 k4).trans ((m2.wide (Nat.le_refl _) hmid2).trans (m3.wide (by omega) (Nat.le_refl _))),fun i j h1 h2 h3 => ?_⟩
 by_cases hj:j<st+(en - m)
 · rw [m3.o i (by omega),m3.o j (by omega)];exact s2 i j h1 h2 hj
 · by_cases hi:st+(en - m)≤i
   · exact s3 i j hi h2 h3
   · obtain ⟨i',a1,a2,a3⟩:=(m2.s (bAt d3 i)).1 ⟨i,h1,by omega,(m3.o i (by omega)).symm⟩
     obtain ⟨j',b1,b2,b3⟩:=(m3.s (bAt d3 j)).1 ⟨j,by omega,h3,rfl⟩
     rw [m2.o j' (by omega)] at b3
     rw [←a3,←b3]
     by_cases p:i'<st
     · rw [hr.z i' (by omega)]
       by_cases q:j'<en
       · rw [hr.y j' b1 q];exact hs1 _ _ a1 (by omega) (by omega)
       · rw [hr.z j' (by omega)]
         exact hs1.le a1 (show i'≤st - 1 by omega) (by omega) (hs2.ge (by omega) (show en≤j' by omega) b2 (c1 (by omega) (by omega)))
     · rw [hr.x i' (by omega) a2]
       by_cases q:j'<en
       · rw [hr.y j' b1 q]
         exact hs2.le (by omega) (show i'+(m - st)≤en - 1 by omega) (by omega) (hs1.ge k1 (show st≤j' - (en - m) by omega) (by omega) (c2 (by omega) (by omega)))
       · rw [hr.z j' (by omega)];exact hs2 _ _ (by omega) (by omega) b2
structure MvR (d e:List Int) (a k:Nat):Prop where
 l:e.length=d.length
 x:∀ t,a≤t→t<k→bAt e t=bAt d (t+1)
 y:bAt e k=bAt d a
 z:∀ t,¬ (a≤t∧t≤k)→bAt e t=bAt d t
theorem MvR.zero (d:List Int) (a:Nat):MvR d d a a:=⟨rfl,fun t h1 h2=>by omega,rfl,fun _ _=>rfl⟩
theorem MvR.succ {d e:List Int} {a k:Nat} (h:MvR d e a k) (ha:a≤k) (hk:k+1<d.length):MvR d (swp e k (k+1)) a (k+1):=by
 have hl:=h.l
 have at':=swp_at (d:=e) (i:=k) (j:=k+1) (by omega) (by omega)
 refine ⟨by rw [swp_len];exact hl,fun t h1 h2 => ?_,by rw [at',if_pos rfl];exact h.y,fun t ht => ?_⟩
 · rw [at',if_neg (by omega)]
   by_cases e1:t=k
   · subst e1;rw [if_pos rfl];exact h.z _ (by omega)
   · rw [if_neg e1];exact h.x t h1 (by omega)
 · rw [at',if_neg (by omega),if_neg (by omega)];exact h.z t (by omega)
structure MvL (d e:List Int) (m k:Nat):Prop where
 l:e.length=d.length
 x:∀ t,k<t→t≤m→bAt e t=bAt d (t - 1)
 y:bAt e k=bAt d m
 z:∀ t,¬ (k≤t∧t≤m)→bAt e t=bAt d t
theorem MvL.zero (d:List Int) (m:Nat):MvL d d m m:=⟨rfl,fun t h1 h2=>by omega,rfl,fun _ _=>rfl⟩
theorem MvL.succ {d e:List Int} {m k:Nat} (h:MvL d e m (k+1)) (hk:k+1≤m) (hm:m<d.length):MvL d (swp e (k+1) k) m k:=by
 have hl:=h.l
 have at':=swp_at (d:=e) (i:=k+1) (j:=k) (by omega) (by omega)
 refine ⟨by rw [swp_len];exact hl,fun t h1 h2 => ?_,by rw [at',if_pos rfl];exact h.y,fun t ht => ?_⟩
 · rw [at',if_neg (by omega)]
   by_cases e1:t=k+1
   · subst e1;rw [if_pos rfl,Nat.add_sub_cancel];exact h.z _ (by omega)
   · rw [if_neg e1];exact h.x t (by omega) h2
 · rw [at',if_neg (by omega),if_neg (by omega)];exact h.z t (by omega)
theorem MvR.mix {d e:List Int} {a k:Nat} (h:MvR d e a k) (ha:a≤k):Mix d e a (k+1):=by
 refine ⟨h.l,fun t ht=>h.z t (by omega),fun x=>⟨?_,?_⟩⟩
 · rintro ⟨i,h1,h2,h3⟩
   by_cases hi:i<k
   · exact ⟨i+1,by omega,by omega,by rw [←h.x i h1 hi];exact h3⟩
   · have:i=k:=by omega
     subst this
     exact ⟨a,Nat.le_refl _,by omega,by rw [←h.y];exact h3⟩
 · rintro ⟨i,h1,h2,h3⟩
   by_cases hi:i=a
   · subst hi;exact ⟨k,ha,by omega,by rw [h.y];exact h3⟩
   · exact ⟨i - 1,by omega,by omega,by rw [h.x _ (by omega) (by omega),Nat.sub_add_cancel (by omega)];exact h3⟩
theorem MvL.mix {d e:List Int} {m k:Nat} (h:MvL d e m k) (hk:k≤m):Mix d e k (m+1):=by
 refine ⟨h.l,fun t ht=>h.z t (by omega),fun x=>⟨?_,?_⟩⟩
 · rintro ⟨i,h1,h2,h3⟩
   by_cases hi:i=k
   · subst hi;exact ⟨m,hk,by omega,by rw [←h.y];exact h3⟩
   · exact ⟨i - 1,by omega,by omega,by rw [←h.x i (by omega) (by omega)];exact h3⟩
 · rintro ⟨i,h1,h2,h3⟩
   by_cases hi:i=m
   · subst hi;exact ⟨k,Nat.le_refl _,by omega,by rw [h.y];exact h3⟩
   · refine ⟨i+1,by omega,by omega,?_⟩
     rw [h.x _ (by omega) (by omega),Nat.add_sub_cancel];exact h3
theorem MvR.done {key:Int→Int} {d e:List Int} {a i b:Nat} (h:MvR d e a (i - 1)) (h1:a+1≤i) (h2:i≤b) (hs:SS key d (a+1) b) (c1:i=a+1∨lt key (bAt d (i - 1)) (bAt d a)) (c2:i=b∨lt key (bAt d a) (bAt d i)):Mix d e a b∧SS key e a b:=by
 refine ⟨(h.mix (by omega)).wide (Nat.le_refl _) (by omega),fun s t k1 k2 k3 => ?_⟩
 by_cases ht:t<i - 1
 · rw [h.x s k1 (by omega),h.x t (by omega) ht];exact hs _ _ (by omega) (by omega) (by omega)
 · by_cases ht2:t=i - 1
   · subst ht2
     rw [h.x s k1 k2,h.y]
     exact hs.le (by omega) (show s+1≤i - 1 by omega) (by omega) (c1.resolve_left (by omega))
   · rw [h.z t (by omega)]
     by_cases hs1:s<i - 1
     · rw [h.x s k1 hs1];exact hs _ _ (by omega) (by omega) k3
     · by_cases hs2:s=i - 1
       · subst hs2
         rw [h.y]
         exact hs.ge (by omega) (show i≤t by omega) k3 (c2.resolve_left (by omega))
       · rw [h.z s (by omega)];exact hs _ _ (by omega) k2 k3
theorem MvL.done {key:Int→Int} {d e:List Int} {a i m:Nat} (h:MvL d e m i) (h1:a≤i) (h2:i≤m) (hs:SS key d a m) (c1:i=a∨lt key (bAt d (i - 1)) (bAt d m)) (c2:i=m∨lt key (bAt d m) (bAt d i)):Mix d e a (m+1)∧SS key e a (m+1):=by
 refine ⟨(h.mix h2).wide h1 (Nat.le_refl _),fun s t k1 k2 k3 => ?_⟩
 by_cases hs1:s<i
 · rw [h.z s (by omega)]
   by_cases ht:t<i
   · rw [h.z t (by omega)];exact hs _ _ k1 k2 (by omega)
   · by_cases ht2:t=i
     · subst ht2
       rw [h.y]
       exact hs.le k1 (show s≤t - 1 by omega) (by omega) (c1.resolve_left (by omega))
     · rw [h.x t (by omega) (by omega)];exact hs _ _ k1 (by omega) (by omega)
 · by_cases hs2:s=i
   · subst hs2
     rw [h.y,h.x t k2 (by omega)]
     exact hs.ge h1 (show s≤t - 1 by omega) (by omega) (c2.resolve_left (by omega))
   · rw [h.x s (by omega) (by omega),h.x t (by omega) (by omega)];exact hs _ _ (by omega) (by omega) (by omega)
end Go.Proofs
