/-
  Several texts in one (Hd He Hf Oa Ob Oc Ca Cb).
-/
import Derived.RangeFuncNested
import Derived.RangeFuncBound
import Derived.RangeFuncCalls
import Derived.RangeFuncLeaves
import Derived.Shelf.Abstract
import Derived.Shelf.RegionOpen
import Derived.WalkKit
import Derived.WalkSpells
import Derived.WalkLawsBesides
import Derived.OwnWalkIn
import Derived.TacticsInMore
import Derived.LoopNIn
import Derived.LoopIn
import Derived.BigQuiet
import Derived.RegionIn
import Derived.Deep.QuietTactic
import Derived.Deep.RegionWith
import Derived.Lib.OthersKept
import Derived.Maps.AppendAt
import Derived.Lib.SmallJoins
import Derived.Shelf.SlSortCmp.QuietGrown
import Derived.Deep.AppendLies
import Derived.Deep.RegionLaw
import Derived.Deep.DeepCutAuto
import Derived.Deep.CutBlock
import Derived.Test.YtcfcjljapamcoaaGreatDoorMgdx
import Derived.Laws.OwnMore
import Derived.Laws.ResultCell
import Derived.Test.YtcfcjljapamcoaaGreatDoorMgbx
import Derived.Deep.Upon
namespace Go.Proofs
open Go.RowKit Go.Shelf
set_option maxRecDepth 100000
attribute [local go_sem] Oper.semAt_some
attribute [local go_sem ↓] Go.wp_at_zero Go.wp_at_succ
def pcB (p:Pc):List Int:=if p.k=1 then [p.u,p.u+1] else if p.k=3 then endsL p.tl else []
def backB (l:List Pc):List Int:=l.flatMap pcB
def rlB (r:Rl):List Int:=endsL (keyAt r.key 0)++backB (backP r)
def bords (rs:List Rl):List Int:=rs.flatMap rlB
theorem backB_succ {l:List Pc} {k:Nat} (hk:k<l.length):backB (l.take (k+1))=backB (l.take k)++pcB l[k]:=by
 rw [take_pc hk,backB,List.flatMap_append]
 simp [backB]
theorem bords_succ {l:List Rl} {k:Nat} (hk:k<l.length):bords (l.take (k+1))=bords (l.take k)++rlB l[k]:=by
 rw [List.take_add_one,List.getElem?_eq_getElem hk,bords,List.flatMap_append]
 simp [bords]
theorem pcB_len {r:Rl} (hO:Ok r) {p:Pc} (hp:p∈backP r):(pcB p).length≤1024:=by
 unfold pcB
 split
 · simp
 · split
   · rename_i h
     have:=mayB_len hO hp
     rw [mayB,if_pos h] at this
     rw [endsL_len];omega
   · simp
theorem backB_len:∀ {l:List Pc},(∀ p∈l,(pcB p).length≤1024)→(backB l).length≤1024*l.length
 | [],_=>by simp [backB]
 | p::l,h=>by
  have h1:=backB_len (l:=l) fun q hq=>h q (by simp [hq])
  have h2:=h p (by simp)
  unfold backB at h1 ⊢
  rw [List.flatMap_cons,List.length_append,List.length_cons]
  omega
theorem keyG {r:Rl} (hO:Ok r):(keyAt r.key 0).length≤512∧Good (keyAt r.key 0):=by
 have hk:=hO.k0
 have e:keyAt r.key 0=r.key[0]:=by simp [keyAt,hk]
 rw [e]
 have:=List.all_eq_true.1 hO.kS r.key[0] (List.getElem_mem hk)
 simp only [okS,Bool.and_eq_true] at this
 exact (validB_iff _).1 this.1
theorem rlB_len {r:Rl} (hO:Ok r):(rlB r).length≤17408:=by
 unfold rlB
 rw [List.length_append,endsL_len]
 have:=(keyG hO).1
 have h1:=backB_len (l:=backP r) fun p hp=>pcB_len hO hp
 have h2:(backP r).length≤16:=by have:=hO.r16;simp [backP];omega
 omega
theorem bords_len:∀ {rs:List Rl},(∀ r∈rs,Ok r)→(bords rs).length≤17408*rs.length
 | [],_=>by simp [bords]
 | r::rs,h=>by
  have h1:=bords_len (rs:=rs) fun q hq=>h q (by simp [hq])
  have h2:=rlB_len (h r (by simp))
  unfold bords at h1 ⊢
  rw [List.flatMap_cons,List.length_append,List.length_cons]
  omega
theorem good_bound {s:List (Int × Int)} (h:Good s):∀ x∈s,-9000000000000000000≤x.2∧x.2≤9000000000000000000:=fun x hx=>by
 have:=h.1 x hx
 unfold Whole at this
 omega
def BoQ (w:World) (rs:List Rl) (e:Ending) (w':World):Prop:=∃ v m,e = .returned v∧IR w' v m∧Srt (0::bords rs) m∧Below w.heap.size w w'
set_option maxHeartbeats 16000000 in
theorem borders_any (v:Value) (rs:List Rl) (w:World) (h:PsR w v rs) (hO:∀ r∈rs,Ok r) (hn:rs.length≤1000000):Calls Tryz.prog 86 #[v] w (BoQ w rs):=by
 have HP:Hid (PsR w v rs):=h
 obtain ⟨ra,rc,rfl,_,_⟩:=h
 obtain ⟨n,hN⟩:∃ n,rs.length=n:=⟨_,rfl⟩
 have HN:Hid (rs.length=n):=hN
 have HO:Hid (∀ r∈rs,Ok r):=hO
 have hnI:(n:Int)≤1000000:=by omega
 rw [hN] at HP ⊢
 have HBL:Hid (∀ k,(bords (rs.take k)).length≤17408000000):=fun k=>by
  have h1:=bords_len (rs:=rs.take k) fun r hr=>hO r (List.mem_of_mem_take hr)
  rw [List.length_take] at h1
  omega
 have HE:Hid (∀ (V:World) (vv sv:Value) (l:List Int) (s:List (Int × Int)),Rs w sv s→Below w.heap.size w V→OwnI V w.heap.size vv l→Good s→l.length+2*s.length≤8796093022208→Calls Tryz.prog 114 #[vv,sv] V fun e w'=>∃ v',e = .returned v'∧OwnI w' w.heap.size v' (l++endsL s)∧Below w.heap.size V w'):=fun V vv sv l s h1 h2 h3 h4 h5=>ends_any vv sv l s V w h1 h2 h3 (good_bound h4) h5
 have HSo:Hid (∀ (V:World) (vv:Value) (l:List Int),Below w.heap.size w V→OwnI V w.heap.size vv l→l.length≤1099511627776→l=0::bords rs→Calls Tryz.prog 79 #[vv] V (BoQ w rs)):=fun V vv l hb ho hl he=>(sorted_any l.length vv l V (Nat.le_refl _) hl ho.ir).mono fun e w' ⟨v',m,h1,h2,h3,h4⟩=>⟨v',m,h1,h2,by rw [←he];exact h3,hb.trans (h4.mono hb.size)⟩
 obtain ⟨b0,hb0⟩:∃ b0,w.heap.size=b0:=⟨_,rfl⟩
 have HZ:Hid (w.heap.size=b0):=hb0
 rw [hb0] at HE HSo
 clear hN hO hn
 go_enter Tryz.func86,Tryz.ntmps86
 go_wp2
 try rw [hb0]
 obtain ⟨w1,hw1⟩:∃ w1,w1=w.alloc (.cells #[.int .i64 0] 3):=⟨_,rfl⟩
 have H1:Hid (OwnI w1 b0 (.slice (some ⟨b0,0,none⟩) 1 1) [0]∧Below b0 w w1):=by
  rw [hw1,←hb0]
  exact ⟨NewI.own ⟨w.heap.size,rfl,Nat.le_refl _,Array.getElem?_push_size⟩ (by simp [maxLen]),((Grown.refl w).alloc _).below⟩
 rw [←hw1]
 clear hw1 hb0
 go_loopw [3,4] (fun vr vi wr=>∃ k:Nat,vi = .int .i64 k∧k≤n∧Hid (OwnI wr b0 vr (0::bords (rs.take k))∧Below b0 w wr)) (fun _ vi _=>n - (intOf vi).toNat)
 case atStart=>exact ⟨0,rfl,by omega,by have:=H1.out;simpa [bords,Hid] using this⟩
 case round=>
  obtain ⟨k,rfl,hk,HX⟩:=hrel
  clear H1
  have hk0:(0:Int)≤(k:Int):=by omega
  obtain ⟨va,vc,rfl⟩:=HX.out.1.sl
  by_cases hlt:k<n
  · have hlt':(k:Int)<(n:Int):=by omega
    have hkl:k<rs.length:=by rw [HN.out];exact hlt
    obtain ⟨a',c',e',_,hPr⟩:=HP.out
    obtain ⟨g,o,ha',hPd⟩:=hPr.resolve_left (fun e=>by rw [e] at hkl;simp at hkl)
    injection e' with e1 e2 e3
    clear e2 e3
    rw [ha'] at e1
    subst e1
    obtain ⟨av,kv,pv,rv,q0,q1,q2,q3,q4,q5,q6,hR⟩:=hPd k hkl
    have hOk:=HO.out _ (List.getElem_mem hkl)
    have HBS:Hid (bords (rs.take (k+1))=bords (rs.take k)++rlB rs[k]):=bords_succ hkl
    obtain ⟨r,hr⟩:∃ r,rs[k]=r:=⟨_,rfl⟩
    rw [hr] at q0 q4 q6 hR hOk HBS
    have HR:Hid (RR w av kv pv rv r):=hR
    have HOk:Hid (Ok r):=hOk
    have HBk:Hid (∀ wx,Calls Tryz.prog 85 #[.agg #[.bool r.bg,av,kv,pv,.bool r.en,rv,.int .i64 r.cu]] wx fun e w'=>∃ v,e = .returned v∧PR w v (backP r)∧Grown wx w'):=fun wx=>rback_any r av kv pv rv wx w hR hOk.c0 hOk.c1
    have HQ:Hid (∀ V,Below b0 w V→V.cell? ⟨g,o+k*7,none⟩=some (.bool r.bg)∧V.cell? ⟨g,o+k*7+1,none⟩=some av∧V.cell? ⟨g,o+k*7+2,none⟩=some kv∧V.cell? ⟨g,o+k*7+3,none⟩=some pv∧V.cell? ⟨g,o+k*7+4,none⟩=some (.bool r.en)∧V.cell? ⟨g,o+k*7+5,none⟩=some rv∧V.cell? ⟨g,o+k*7+6,none⟩=some (.int .i64 r.cu)):=fun V hb=>by
     have hz:w.heap.size≤b0:=Nat.le_of_eq HZ.out
     exact ⟨cell_below q0 hb hz,cell_below q1 hb hz,cell_below q2 hb hz,cell_below q3 hb hz,cell_below q4 hb hz,cell_below q5 hb hz,cell_below q6 hb hz⟩
    obtain ⟨ka,kc,hkv,hkc,hks⟩:=hR.k
    obtain ⟨kg,ko,hka,hkd⟩:=hks.resolve_left (fun e=>by have:=hOk.k0;rw [e] at this;simp at this)
    subst hka
    obtain ⟨sv,qs,hs⟩:=hkd 0 hOk.k0
    have HS:Hid (Rs w sv (keyAt r.key 0)):=by
     have hk:=hOk.k0
     have e:keyAt r.key 0=r.key[0]:=by simp [keyAt,hk]
     rw [e];exact hs
    rw [Nat.add_zero] at qs
    obtain ⟨kn,hkn⟩:∃ kn,r.key.length=kn:=⟨_,rfl⟩
    have hkn0:(0:Int)<(kn:Int):=by have:=hOk.k0;omega
    have hkn1:0<kn:=by have:=hOk.k0;omega
    rw [hkn] at hkv
    subst hkv
    have HKc:Hid (∀ V,Below b0 w V→V.cell? ⟨kg,ko,none⟩=some sv):=fun V hb=>cell_below qs hb (Nat.le_of_eq HZ.out)
    obtain ⟨a1,n1,c1,rfl⟩:=hR.a.sl
    obtain ⟨a3,n3,c3,rfl⟩:=hR.p.sl
    obtain ⟨a5,n5,c5,rfl⟩:=hR.r.sl
    obtain ⟨sa,sn,sc,rfl⟩:=hs.sl
    have HE1:=HE.out wr _ _ _ _ HS.out HX.out.2 HX.out.1 (keyG HOk.out).2 (by have:=HBL.out k;have:=(keyG HOk.out).1;simp;omega)
    generalize (0::bords (rs.take k)).length=vn at HE1 HX ⊢
    have HE2:=Hid.mk' HE1
    obtain ⟨xb,hxb⟩:∃ xb,r.bg=xb:=⟨_,rfl⟩
    obtain ⟨xe,hxe⟩:∃ xe,r.en=xe:=⟨_,rfl⟩
    obtain ⟨xc,hxc⟩:∃ xc,r.cu=xc:=⟨_,rfl⟩
    rw [hxb,hxe,hxc] at HBk HQ
    obtain ⟨z0,z1,z2,z3,z4,z5,z6⟩:=HQ.out wr HX.out.2
    have y0:=HKc.out wr HX.out.2
    clear q0 q1 q2 q3 q4 q5 q6 qs hxb hxe hxc hr hR hOk hkn hs hkd hks ha' hPr hPd HE1 hkc
    go_wp2_with fail
    refine HE2.out.mono ?_
    rintro e w2 ⟨v2,rfl,hO2,hB2⟩
    have HX2:Hid (OwnI w2 b0 v2 ((0::bords (rs.take k))++endsL (keyAt r.key 0))∧Below b0 w w2):=⟨hO2,HX.out.2.trans hB2⟩
    clear z0 z1 z2 z3 z4 z5 z6 y0 hO2 hB2 HE2 HX
    obtain ⟨va2,vc2,rfl⟩:=HX2.out.1.sl
    obtain ⟨z0,z1,z2,z3,z4,z5,z6⟩:=HQ.out w2 HX2.out.2
    generalize ((0::bords (rs.take k))++endsL (keyAt r.key 0)).length=vn2 at HX2 ⊢
    go_wp2_with fail
    refine (HBk.out _).mono ?_
    rintro e w3 ⟨pv3,rfl,hPR,hG3⟩
    have HPR:Hid (PR w pv3 (backP r)):=hPR
    have HX3:Hid (OwnI w3 b0 (.slice va2 vn2 vc2) ((0::bords (rs.take k))++endsL (keyAt r.key 0))∧Below b0 w w3):=⟨HX2.out.1.below hG3.below (Nat.le_refl _),HX2.out.2.trans (hG3.below.mono (by have:=HX2.out.2.size;have:=HZ.out;omega))⟩
    clear z0 z1 z2 z3 z4 z5 z6 HBk HQ HKc hG3 HX2 hPR
    have HPC:Hid (∀ p∈backP r,(p.k=1∨p.k=2∨p.k=3)∧(p.k≠2→Good (mayB p))∧(pcB p).length≤1024):=fun p hp=>⟨by rcases pc_ok (HOk.out.pc p (List.mem_of_mem_drop hp)) with h | h | h <;> omega,fun h2=>mayB_good HOk.out hp h2,pcB_len HOk.out hp⟩
    have HL16:Hid ((backP r).length≤16):=by have:=HOk.out.r16;show _≤_;simp [backP];omega
    have HBF:Hid (bords (rs.take (k+1))=bords (rs.take k)++(endsL (keyAt r.key 0)++backB (backP r))):=HBS.out
    have HKL:Hid ((endsL (keyAt r.key 0)).length≤1024):=by show _≤_;rw [endsL_len];have:=(keyG HOk.out).1;omega
    generalize backP r=l at HPR HPC HL16 HBF
    obtain ⟨nb,hnb⟩:∃ nb,l.length=nb:=⟨_,rfl⟩
    have HNB:Hid (l.length=nb):=hnb
    obtain ⟨pa,pc,hpv,_,_⟩:=HPR.out
    rw [hnb] at hpv HL16
    subst hpv
    have hnbI:(nb:Int)≤16:=by have:=HL16.out;omega
    obtain ⟨X,hX⟩:∃ X,(0::bords (rs.take k))++endsL (keyAt r.key 0)=X:=⟨_,rfl⟩
    rw [hX] at HX3
    have HXL:Hid (X.length≤17408002000):=by show _≤_;rw [←hX,List.length_append,List.length_cons];have:=HBL.out k;have:=HKL.out;omega
    have HXF:Hid (0::bords (rs.take (k+1))=X++backB l):=by show _=_;rw [HBF.out,←hX];simp
    clear hX hnb HBF HKL HBS HS HR HOk
    go_wp2
    go_loopw [3,6] (fun vr vi wx=>∃ j:Nat,vi = .int .i64 j∧j≤nb∧Hid (OwnI wx b0 vr (X++backB (l.take j))∧Below b0 w wx)) (fun _ vi _=>nb - (intOf vi).toNat)
    case atStart=>exact ⟨0,rfl,by omega,by have:=HX3.out;simpa [backB,Hid] using this⟩
    case round=>
     obtain ⟨j,rfl,hj,HY⟩:=hrel
     clear HX3
     have hj0:(0:Int)≤(j:Int):=by omega
     obtain ⟨va3,vc3,rfl⟩:=HY.out.1.sl
     obtain ⟨Y,hY⟩:∃ Y,X++backB (l.take j)=Y:=⟨_,rfl⟩
     have HYL:Hid (Y.length≤17409000000):=by
      show _≤_
      have h1:=backB_len (l:=l.take j) fun p hp=>(HPC.out p (List.mem_of_mem_take hp)).2.2
      have h2:=HXL.out
      rw [←hY,List.length_append]
      rw [List.length_take] at h1
      omega
     by_cases hltj:j<nb
     · have hltj':(j:Int)<(nb:Int):=by omega
       have hjl:j<l.length:=by rw [HNB.out];exact hltj
       obtain ⟨a',c',e',_,hPr⟩:=HPR.out
       obtain ⟨pg,po,ha',hPd⟩:=hPr.resolve_left (fun e=>by rw [e] at hjl;simp at hjl)
       injection e' with e1 e2 e3
       clear e2 e3
       rw [ha'] at e1
       subst e1
       obtain ⟨tv,x0,x1,x2,x3,x4⟩:=hPd j hjl
       have hpc:=HPC.out _ (List.getElem_mem hjl)
       have HBC:Hid (X++backB (l.take (j+1))=Y++pcB l[j]):=by show _=_;rw [backB_succ hjl,←hY];simp
       obtain ⟨p,hp⟩:∃ p,l[j]=p:=⟨_,rfl⟩
       rw [hp] at x0 x1 x4 hpc HBC
       have y0:=cell_below x0 HY.out.2 (Nat.le_of_eq HZ.out)
       have y1:=cell_below x1 HY.out.2 (Nat.le_of_eq HZ.out)
       have y3:=cell_below x3 HY.out.2 (Nat.le_of_eq HZ.out)
       rw [hY] at HY
       obtain ⟨yn,hyn⟩:∃ yn,Y.length=yn:=⟨_,rfl⟩
       rw [hY,hyn]
       rw [hyn] at HY
       clear hyn x0 x1 x2 x3 hPr hPd ha' hp
       obtain ⟨hkd,hgd,hpl⟩:=hpc
       go_upto_block 3 with fail
       go_cut [3] (fun s wx=>Hid (OwnI wx b0 s (X++backB (l.take (j+1)))∧Below b0 w wx))
       case rest=>
        go_wp2
        exact ⟨⟨j+1,by go_num,by omega,hcut⟩,by simp [intOf];omega⟩
       rcases hkd with h1 | h1 | h1
       · have hg1:=hgd (by omega)
         have HB2:Hid (pcB p=[p.u,p.u+1]):=by show _=_;rw [pcB,if_pos h1]
         have hub:0≤p.u∧p.u≤1114367:=by
          rw [mayB,if_neg (by omega)] at hg1
          have:=hg1.1 (p.u,p.u) (by simp)
          unfold Whole at this
          simp at this
          omega
         rw [HB2.out] at HBC
         obtain ⟨u,hu⟩:∃ u,p.u=u:=⟨_,rfl⟩
         rw [hu] at y1 hub HBC
         rw [h1] at y0
         obtain ⟨u0,u1⟩:=hub
         have HU:Hid (IntKind.i64.wrap (u+1)=u+1):=IntWalk.i64_in _ ⟨by omega,by omega⟩
         have HW:Hid (∀ W,Grown wr W→OwnI W b0 (.slice va3 yn vc3) Y∧b0≤W.heap.size):=fun W hg=>⟨HY.out.1.below hg.below (Nat.le_refl _),by have:=HY.out.2.size;have:=HZ.out;have:=hg.size;omega⟩
         have HLN:Hid (Y.length+2≤8796093022208):=by have:=HYL.out;show _≤_;omega
         have HF:Hid (∀ v' W w',Grown wr W→OwnI w' b0 v' (Y++[u,u+1])→Below b0 W w'→OwnI w' b0 v' (X++backB (l.take (j+1)))∧Below b0 w w'):=fun v' W w' hg h1 h2=>⟨by rw [HBC.out];exact h1,(HY.out.2.trans (hg.below.mono (by have:=HY.out.2.size;have:=HZ.out;omega))).trans h2⟩
         clear hu h1 hg1 hgd x4 HBC HB2 HY hY HXF HE HSo
         go_wp2
         go_region_law (refine step_push2 rfl (.tmp 41) (.tmp 53) 49 rfl Tryz.underlying49 b0 (.slice va3 yn vc3) Y rfl (HW.out _ (by (repeat (first | exact Grown.refl _ | refine Grown.alloc ?_ _ | refine Grown.drew ?_ | refine Grown.drewN ?_ _ | refine Grown.quiet ?_ _ _)))).1 _ _ u (u+1) rfl (by simp) (by first | (simp;done) | (simp;exact HU.out)) HLN.out (HW.out _ (by (repeat (first | exact Grown.refl _ | refine Grown.alloc ?_ _ | refine Grown.drew ?_ | refine Grown.drewN ?_ _ | refine Grown.quiet ?_ _ _)))).2 ?_;intro v2 w2 hO2 hB2;have HO2:Hid (OwnI w2 b0 v2 (X++backB (l.take (j+1)))∧Below b0 w w2):=HF.out _ _ _ (by (repeat (first | exact Grown.refl _ | refine Grown.alloc ?_ _ | refine Grown.drew ?_ | refine Grown.drewN ?_ _ | refine Grown.quiet ?_ _ _))) hO2 hB2;clear hO2 hB2)
         all_goals (go_wp2;go_meet;exact HO2)
       · have HN2:Hid (OwnI wr b0 (.slice va3 yn vc3) (X++backB (l.take (j+1)))∧Below b0 w wr):=by
          rw [HBC.out,pcB,if_neg (by omega),if_neg (by omega),List.append_nil]
          exact HY.out
         rw [h1] at y0
         clear h1 hgd x4 HBC HY hY HXF HE HSo
         go_wp2
         go_meet
         exact HN2
       · have hg1:=hgd (by omega)
         rw [mayB,if_pos h1] at hg1
         rw [pcB,if_neg (by omega),if_pos h1] at hpl
         rw [endsL_len] at hpl
         have HE1:=Hid.mk' (HE.out wr _ _ _ _ x4 HY.out.2 HY.out.1 hg1 (by have:=HYL.out;omega))
         have HN2:Hid (∀ v' w',OwnI w' b0 v' (Y++endsL p.tl)→Below b0 wr w'→OwnI w' b0 v' (X++backB (l.take (j+1)))∧Below b0 w w'):=fun v' w' h2 h3=>by
          rw [HBC.out,pcB,if_neg (by omega),if_pos h1]
          exact ⟨h2,HY.out.2.trans h3⟩
         rw [h1] at y0
         obtain ⟨ta,tn,tc,rfl⟩:=x4.sl
         clear h1 hgd x4 HBC HY hY HXF HE HSo hg1 hpl
         go_wp2_with fail
         refine HE1.out.mono ?_
         rintro e w4 ⟨v4,rfl,h4,h5⟩
         obtain ⟨a4,m4,c4,rfl⟩:=h4.ir.sl
         have HO2:=Hid.mk' (HN2.out _ _ h4 h5)
         clear h4 h5 HN2 HE1
         go_wp2
         go_meet
         exact HO2
     · as_aux_lemma=>
        have hge:¬ (j:Int)<(nb:Int):=by omega
        have HZ2:Hid (OwnI wr b0 (.slice va3 (X++backB (l.take j)).length vc3) (0::bords (rs.take (k+1)))∧Below b0 w wr):=by
         have:=HY.out
         rw [List.take_of_length_le (by rw [HNB.out];omega)] at this ⊢
         rw [HXF.out];exact this
        generalize (X++backB (l.take j)).length=yn at HZ2 ⊢
        clear HY HYL hY
        go_wp2
        exact ⟨⟨k+1,by go_num,by omega,HZ2⟩,by simp [intOf];omega⟩
  · as_aux_lemma=>
     have hge:¬ (k:Int)<(n:Int):=by omega
     have HC:=Hid.mk' (HSo.out wr _ _ HX.out.2 HX.out.1 (by have:=HBL.out k;simp;omega) (by rw [List.take_of_length_le (by rw [HN.out];omega)]))
     generalize (0::bords (rs.take k)).length=vn at HC ⊢
     clear HX HE HSo
     go_wp2_with fail
     refine HC.out.mono ?_
     intro e w2 hQ
     have HQ:=Hid.mk' hQ
     obtain ⟨v2,m,rfl,hI,_,_⟩:=hQ
     obtain ⟨x1,x2,x3,rfl⟩:=hI.sl
     clear hI
     go_wp2
     go_ret
     exact HQ.out
def wK (rs:List Rl) (st:St) (u:Int):Int:=wgtK rs st.ws u rs.length
theorem Fin.unit_leK {rs:List Rl} {st:St} (h:Fin rs st) {j:Nat} (hj:j<st.bk.length) {u:Int} (hu:hasU (usAt st.bk j) u):wK rs st u≤wtAt st.bk j:=by
 have hpos:1≤wtAt st.bk j:=by
  unfold wtAt
  rw [List.getElem?_eq_getElem hj]
  exact (h.run.ok.pb _ (List.getElem_mem hj)).2.1
 unfold wK
 rcases wgtK_is (rs:=rs) (ws:=st.ws) (u:=u) rs.length with e | ⟨i,hi,h1,e⟩
 · omega
 · rw [e]
   have h2:hasU (fstS rs i) u:=by
    unfold hasB at h1
    simp only [Bool.and_eq_true,decide_eq_true_eq] at h1
    exact h1.2
   exact h.run.sn i j (by rw [csI_len];exact hi) hj (touch_of _ _ u (key_good h.ok hi) (h.us_good hj) h2 hu)
theorem Fin.ws_in {rs:List Rl} {st:St} (h:Fin rs st) {i:Nat} (hi:i<rs.length):1≤at0 st.ws i∧at0 st.ws i≤64:=h.run.ok.wb i (by rw [csI_len];exact hi)
theorem Fin.wK_in {rs:List Rl} {st:St} (h:Fin rs st) (u:Int):1≤wK rs st u∧wK rs st u≤64:=by
 refine ⟨wgtK_one _,?_⟩
 unfold wK
 rcases wgtK_is (rs:=rs) (ws:=st.ws) (u:=u) rs.length with e | ⟨i,hi,_,e⟩
 · omega
 · rw [e];exact (h.ws_in hi).2
theorem Fin.wK_ge {rs:List Rl} {st:St} {i:Nat} (hi:i<rs.length) {u:Int} (hu:hasB (fstS rs i) u=true):at0 st.ws i≤wK rs st u:=wgtK_ge hi hu
theorem Fin.gen {rs:List Rl} {st:St} (h:Fin rs st) (g:List (Int × Int)→Int) (hg:∀ j,j<st.bk.length→g (usAt st.bk j)≤wtAt st.bk j) {i:Nat} (hi:i<rs.length) :
 2 - (rs[i].key.length:Int)+copN (backP rs[i])+gs g (pbs i (backP rs[i])) i≤at0 st.ws i:=by
 have h2:gs g (pbs i (backP rs[i])) i=gs g st.bk i:=by
  rw [gs_same h.run.rk h.run.ok.uss,gs_bkI,if_pos hi,List.getElem?_eq_getElem hi]
  rfl
 have h3:gs g st.bk i≤wsum st.bk i:=gs_le (fun b hb=>by
  obtain ⟨j,hj,rfl⟩:=List.getElem_of_mem hb
  have:=hg j hj
  rw [usAt_at hj] at this
  unfold wtAt at this
  rw [List.getElem?_eq_getElem hj] at this
  exact this) i
 have h4:=h.run.ok.asum i (by rw [csI_len];exact hi)
 rw [csI_val hi] at h4
 have h5:=h.en i hi
 omega
theorem bAt_lt {L:List Int} {i:Nat} (h:i<L.length):bAt L i=L[i]:=by simp [bAt,h]
theorem rise_lt {L:List Int} (h:L.Pairwise (· < ·)) {i j:Nat} (hij:i<j) (hj:j<L.length):bAt L i<bAt L j:=by
 rw [bAt_lt (by omega),bAt_lt hj]
 exact List.pairwise_iff_getElem.1 h i j (by omega) hj hij
theorem rise_le {L:List Int} (h:L.Pairwise (· < ·)) {i j:Nat} (hij:i≤j) (hj:j<L.length):bAt L i≤bAt L j:=by
 by_cases e:i=j
 · subst e;exact Int.le_refl _
 · exact Int.le_of_lt (rise_lt h (by omega) hj)
theorem plc_at {L:List Int} (h:L.Pairwise (· < ·)) {x:Int} (hx:x∈L):bAt L (plc L x)=x:=by
 obtain ⟨q,hq,rfl⟩:=List.getElem_of_mem hx
 have e:bAt L q=L[q]:=bAt_lt hq
 rw [←e]
 have hp:=plcF_spec L (bAt L q) L.length 0 L.length (by omega) (by omega) (Nat.le_refl _) (rise_le h (Nat.zero_le _) hq) (.inl rfl)
 rw [←plc] at hp
 generalize plc L (bAt L q)=p at hp
 obtain ⟨h1,h2,h3⟩:=hp
 rcases Nat.lt_trichotomy p q with h4 | h4 | h4
 · rcases h3 with h3 | h3
   · omega
   · have:=rise_le h (show p+1≤q by omega) hq;omega
 · rw [h4]
 · have:=rise_lt h h4 h1;omega
theorem plc_ge {L:List Int} (h:L.Pairwise (· < ·)) {x:Int} (hx:x∈L) {k:Nat} (hk:plc L x≤k) (hl:k<L.length):x≤bAt L k:=by
 have:=rise_le h hk hl
 rw [plc_at h hx] at this
 exact this
structure WB (rs:List Rl) (st:St) (L W:List Int):Prop where
 e:W.length=L.length
 b:∀ k,k<L.length→1≤bAt W k∧bAt W k≤wK rs st (bAt L k)
theorem grK_le {L W:List Int} {hi X:Int} : ∀ (f k:Nat) (n:Int),n≤X→(∀ j,k≤j→j<L.length→bAt L j≤hi→bAt W j≤X)→grK L W hi f k n≤X
 | 0,_,_,h,_=>h
 | f+1,k,n,h,hk=>by
  rw [grK]
  split
  · rename_i hc
    refine grK_le f (k+1) _ ?_ fun j hj=>hk j (by omega)
    split
    · exact hk k (Nat.le_refl _) hc.1 hc.2
    · exact h
  · exact h
theorem grt_le {L W:List Int} {X:Int} (s:List (Int × Int)) (h0:0≤X) (h:∀ x∈s,∀ j,plc L x.1≤j→j<L.length→bAt L j≤x.2→bAt W j≤X):grt L W s≤X:=by
 have:∀ (s:List (Int × Int)) (n:Int),n≤X→(∀ x∈s,∀ j,plc L x.1≤j→j<L.length→bAt L j≤x.2→bAt W j≤X)→s.foldl (gr1 L W) n≤X:=by
  intro s
  induction s with
  | nil=>intro n hn _;exact hn
  | cons x s ih=>
   intro n hn hs
   exact ih _ (grK_le _ _ _ hn (hs x (by simp))) fun y hy=>hs y (by simp [hy])
 exact this s 0 h0 h
theorem grK_mono {L W:List Int} {hi:Int} : ∀ (f k:Nat) (n:Int),n≤grK L W hi f k n
 | 0,_,n=>Int.le_refl n
 | f+1,k,n=>by
  rw [grK]
  split
  · refine Int.le_trans ?_ (grK_mono f _ _)
    split <;> omega
  · exact Int.le_refl n
theorem grt_one {L W:List Int} (hS:L.Pairwise (· < ·)) {u:Int} (hu:u∈L):bAt W (plc L u)≤grt L W [(u,u)]:=by
 have hp:=plc_lt u (show 0<L.length from List.length_pos_of_mem hu)
 have ha:=plc_at hS hu
 unfold grt gr1
 simp only [List.foldl_cons,List.foldl_nil]
 obtain ⟨f,hf⟩:∃ f,L.length=f+1:=⟨L.length - 1,by omega⟩
 rw [hf,grK,if_pos ⟨by omega,by omega⟩]
 refine Int.le_trans ?_ (grK_mono f _ _)
 split <;> omega
theorem mem_bords {rs:List Rl} {r:Rl} (hr:r∈rs) {x:Int} (hx:x∈rlB r):x∈bords rs:=List.mem_flatMap.2 ⟨r,hr,hx⟩
theorem mem_ends {s:List (Int × Int)} {x:Int × Int} (hx:x∈s):x.1∈endsL s:=List.mem_flatMap.2 ⟨x,hx,by simp⟩
theorem mem_may {rs:List Rl} {r:Rl} (hr:r∈rs) {p:Pc} (hp:p∈backP r) (hk:p.k=1∨p.k=3) {x:Int × Int} (hx:x∈mayB p):x.1∈bords rs:=by
 refine mem_bords hr (List.mem_append_right _ (List.mem_flatMap.2 ⟨p,hp,?_⟩))
 unfold pcB
 rcases hk with h | h
 · rw [if_pos h]
   rw [mayB,if_neg (by omega)] at hx
   simp at hx
   subst hx
   simp
 · rw [if_neg (by omega),if_pos h]
   rw [mayB,if_pos h] at hx
   exact mem_ends hx
theorem us_may {rs:List Rl} {st:St} (h:Fin rs st) {j:Nat} (hj:j<st.bk.length):∃ r∈rs,∃ p∈backP r,p.k≠2∧usAt st.bk j=mayB p:=by
 have hu:=h.run.ok.uss
 have hl:st.bk.length=(bkI rs rs.length).length:=by simpa using congrArg List.length hu
 rw [usAt_eq hu]
 simp only [List.getElem?_map]
 rw [List.getElem?_eq_getElem (by omega)]
 have:∀ {k:Nat} {b:Pb},b∈bkI rs k→∃ r∈rs,∃ p∈backP r,p.k≠2∧b.us=mayB p:=by
  intro k
  induction k with
  | zero=>intro b hb;simp [bkI] at hb
  | succ k ih=>
   intro b hb
   rw [bkI] at hb
   rcases List.mem_append.1 hb with hb | hb
   · exact ih hb
   · obtain ⟨p,h1,h2,h3⟩:=pbs_mem2 hb
     cases hk:rs[k]? with
     | none=>rw [hk] at h1;simp at h1
     | some r=>
      rw [hk] at h1
      exact ⟨r,List.mem_of_getElem? hk,p,by simpa using h1,h2,h3⟩
 exact this (List.getElem_mem _)
theorem kind_of {rs:List Rl} {st:St} (h:Fin rs st) {r:Rl} (hr:r∈rs) {p:Pc} (hp:p∈backP r):p.k=1∨p.k=2∨p.k=3:=by
 rcases pc_ok ((h.ok r hr).pc p (List.mem_of_mem_drop hp)) with ⟨h1,_⟩ | ⟨h1,_⟩ | ⟨h1,_⟩ <;> omega
theorem grt_wt {rs:List Rl} {st:St} (h:Fin rs st) {L W:List Int} (hS:Srt (0::bords rs) L) (hB:WB rs st L W) {j:Nat} (hj:j<st.bk.length):grt L W (usAt st.bk j)≤wtAt st.bk j:=by
 have hpos:1≤wtAt st.bk j:=by
  unfold wtAt
  rw [List.getElem?_eq_getElem hj]
  exact (h.run.ok.pb _ (List.getElem_mem hj)).2.1
 obtain ⟨r,hr,p,hp,h2,hu⟩:=us_may h hj
 refine grt_le _ (by omega) fun x hx k hk hl hle => ?_
 have hm:x.1∈L:=(hS.m _).2 (List.mem_cons_of_mem _ (mem_may hr hp (by have:=kind_of h hr hp;omega) (by rw [←hu];exact hx)))
 have hge:=plc_ge hS.p hm hk hl
 exact Int.le_trans (hB.b k hl).2 (h.unit_leK hj ⟨x,hx,hge,hle⟩)
theorem pcS_gs {rs:List Rl} {st:St} (h:Fin rs st) {L W:List Int} (hS:Srt (0::bords rs) L) {r:Rl} (hr:r∈rs) (n:Nat):∀ l:List Pc,(∀ p∈l,p∈backP r)→pcS L W l≤gs (grt L W) (pbs n l) n
 | [],_=>by simp [pcS,pbs,gs]
 | p::l,hl=>by
  have ih:=pcS_gs (W:=W) h hS hr n l fun q hq=>hl q (List.mem_cons_of_mem _ hq)
  have hp:=hl p List.mem_cons_self
  simp only [pcS,pbs]
  rcases kind_of h hr hp with h1 | h1 | h1
  · rw [if_neg (by omega)]
    have hm:p.u∈L:=(hS.m _).2 (List.mem_cons_of_mem _ (mem_may hr hp (.inl h1) (x:=(p.u,p.u)) (by rw [mayB,if_neg (by omega)];simp)))
    have:=grt_one (W:=W) hS.p hm
    have e:mayB p=[(p.u,p.u)]:=by unfold mayB;rw [if_neg (by omega)]
    simp only [gs,if_pos,e]
    rw [pcW,if_pos h1]
    omega
  · rw [if_pos h1,pcW,if_neg (by omega),if_neg (by omega)];omega
  · rw [if_neg (by omega)]
    have e:mayB p=p.tl:=by unfold mayB;rw [if_pos h1]
    simp only [gs,if_pos,e]
    rw [pcW,if_neg (by omega),if_pos h1]
    omega
theorem wnt_le {rs:List Rl} {st:St} (h:Fin rs st) {L W:List Int} (hS:Srt (0::bords rs) L) (hB:WB rs st L W) {i:Nat} (hi:i<rs.length):wnt L W rs[i]≤at0 st.ws i:=by
 have h1:=h.gen (grt L W) (fun j hj=>grt_wt h hS hB hj) hi
 have h2:=pcS_gs (W:=W) h hS (List.getElem_mem hi) i (backP rs[i]) fun p hp=>hp
 unfold wnt
 omega
theorem bAt_set {l:List Int} {i j:Nat} {x:Int} (h:i<l.length):bAt (l.set i x) j=if j=i then x else bAt l j:=at0_set h
theorem WB.set {rs:List Rl} {st:St} {L W:List Int} (h:WB rs st L W) {k:Nat} (hk:k<L.length) {i:Nat} (hi:i<rs.length) (hu:hasU (fstS rs i) (bAt L k)) (hv:validB (fstS rs i)=true) {n:Int} (h1:bAt W k<n) (h2:n≤at0 st.ws i):WB rs st L (W.set k n):=by
 refine ⟨by simp [h.e],fun j hj => ?_⟩
 rw [bAt_set (by rw [h.e];exact hk)]
 split
 · rename_i e
   subst e
   have:=(h.b j hk).1
   exact ⟨by omega,Int.le_trans h2 (Fin.wK_ge hi (by simp [hasB,hv,hu]))⟩
 · exact h.b j hj
theorem tws_more {W:List Int} {k:Nat} (hk:k<W.length) {n:Int} (h0:0≤bAt W k) (h1:bAt W k<n):tws W<tws (W.set k n):=by
 have h2:=tws_set W k n hk
 have e:at0 W k=bAt W k:=rfl
 rw [e] at h2
 omega
theorem first_valid {rs:List Rl} (hO:∀ r∈rs,Ok r) {i:Nat} (hi:i<rs.length):validB (fstS rs i)=true∧(fstS rs i).length≤512∧Good (fstS rs i):=by
 rw [fstS_at hi]
 have:=keyG (hO _ (List.getElem_mem hi))
 exact ⟨(validB_iff _).2 this,this⟩
theorem first_in {rs:List Rl} {L:List Int} (hS:Srt (0::bords rs) L) {i:Nat} (hi:i<rs.length) {j:Nat} (hj:j<(fstS rs i).length) {k:Nat} (h1:plc L (rg (fstS rs i) j).1≤k) (h2:k<L.length) (h3:bAt L k≤(rg (fstS rs i) j).2):hasU (fstS rs i) (bAt L k):=by
 have hm:(rg (fstS rs i) j).1∈L:=by
  refine (hS.m _).2 (List.mem_cons_of_mem _ (mem_bords (List.getElem_mem hi) (List.mem_append_left _ ?_)))
  rw [←fstS_at hi]
  exact mem_ends (by rw [rg_lt hj];exact List.getElem_mem hj)
 exact ⟨rg (fstS rs i) j,by rw [rg_lt hj];exact List.getElem_mem hj,plc_ge hS.p hm h1 h2,h3⟩
theorem blk_lt {w:World} {g:Nat} {o:Obj} (h:w.heap[g]? = some o):g<w.heap.size:=(Array.getElem?_eq_some_iff.1 h).1
theorem blk_below {w w':World} {g n:Nat} {o:Obj} (h:w.heap[g]? = some o) (hb:Below n w w') (hg:g<n):w'.heap[g]? = some o:=by rw [hb.block g hg];exact h
theorem OwnI.turn {w w':World} {base:Nat} {v:Value} {l:List Int} (h:OwnI w base v l) (hk:∀ b,base≤b→w'.heap[b]? = w.heap[b]?):OwnI w' base v l:=by
 refine ⟨h.1,?_⟩
 rcases h.2 with h1 | ⟨g,cap,cur,h1,h2,h3,h4⟩
 · exact .inl h1
 · exact .inr ⟨g,cap,cur,h1,h2,(hk g h2).trans h3,h4⟩
theorem ints_set (l:List Int) (k:Nat) (x:Int):ints (l.set k x)=(ints l).set k (.int .i64 x):=by simp [ints,List.map_set]
theorem ret_sc {fn:Func} {p q:Tmp} {W:World} {B:Nat} {tmps:Array Value} {a b:Value} {t:Bool} {R:Ending→World→Prop} (hr:fn.results=#[.cell p 89,.tmp q]) (hp:tmps.getD p undef = .pointer (some ⟨B,0,none⟩)) (hq:tmps.getD q undef = .bool t) (h:W.heap[B]? = some (.cells #[a,b] 89 (0,0)))
 (K:R (.returned (.tuple #[.agg #[a,b],.bool t])) W):bodyPost Tryz.prog fn R Exit.ret { tmps:=tmps,defers:=[] } W:=by
 have c0:W.cell? ⟨B,0,none⟩=some a:=by rw [cell_of h];simp
 have c1:W.cell? ⟨B,1,none⟩=some b:=by rw [cell_of h];simp
 refine bodyPost_ret (v := .tuple #[.agg #[a,b],.bool t]) ?_ rfl K
 rw [results_cell_tmp hr]
 simp only [hp,hq]
 simp [go_sem,Result.andThen,c0,c1]
structure Fr (w w':World) (B:Nat→Prop):Prop where
 os:w'.os=w.os
 tape:w'.tape=w.tape
 output:w'.output=w.output
 size:w.heap.size≤w'.heap.size
 block:∀ k,k<w.heap.size→¬ B k→w'.heap[k]? = w.heap[k]?
theorem Fr.refl (w:World) (B:Nat→Prop):Fr w w B:=⟨rfl,rfl,rfl,Nat.le_refl _,fun _ _ _=>rfl⟩
theorem Fr.mono {w w':World} {B C:Nat→Prop} (h:Fr w w' B) (hc:∀ k,k<w.heap.size→B k→C k):Fr w w' C:=⟨h.os,h.tape,h.output,h.size,fun k hk hn=>h.block k hk fun hb=>hn (hc k hk hb)⟩
theorem Fr.trans {a b c:World} {B C:Nat→Prop} (h:Fr a b B) (k:Fr b c C) (hc:∀ i,i<a.heap.size→C i→B i):Fr a c B:=
 ⟨k.os.trans h.os,k.tape.trans h.tape,k.output.trans h.output,Nat.le_trans h.size k.size,fun i hi hn=>(k.block i (by have:=h.size;omega) fun hi2=>hn (hc i hi hi2)).trans (h.block i hi hn)⟩
theorem Fr.below {w w':World} {B:Nat→Prop} {base:Nat} (h:Fr w w' B) (hB:∀ k,B k→base≤k) (hb:base≤w.heap.size):Below base w w':=⟨h.os,h.tape,h.output,h.size,fun k hk=>h.block k (by omega) fun hk2=>by have:=hB k hk2;omega⟩
theorem fr_by {w w':World} {row:Option Nat} (h:w.grownBy w' row):Fr w w' fun k=>row=some k:=⟨h.os,h.tape,h.output,h.size,fun k hk hn=>h.block k hk fun e=>hn e.symm⟩
theorem fr_below {w w':World} {n:Nat} (h:Below n w w') (hn:w.heap.size≤n) (B:Nat→Prop):Fr w w' B:=⟨h.os,h.tape,h.output,h.size,fun k hk _=>h.block k (by omega)⟩
theorem fr_grown {w w':World} (h:Grown w w') (B:Nat→Prop):Fr w w' B:=fr_below h.below (Nat.le_refl _) B
theorem fr_set (w:World) (b j:Nat) (u:Value):Fr w (w.setCell ⟨b,j,none⟩ u) fun k=>k=b:=⟨rfl,rfl,rfl,by simp [World.setCell],fun k _ hn=>Below.heap_setCell w ⟨b,j,none⟩ u k hn⟩
abbrev It:=Value × List (Int × Int)
def cut:Value→Value
 | .slice a n c => .slice a (n - 1) c
 | v=>v
structure LRu where
 bg:Bool
 en:Bool
 cu:Int
 a:Value × List It
 k:Value × List It
 p:Value × List It
 q:Value × List (Pc × Value)
def LRu.cells (r:LRu):List Value:=[.bool r.bg,cut r.a.1,cut r.k.1,cut r.p.1,.bool r.en,cut r.q.1,.int .i64 r.cu]
section
variable {w:World} {base xb:Nat} {pv rv sv gv cv:Value} {G:List It} {S:List (Value × List It)} {C:List (Value × List (Pc × Value))} {R:List LRu} {re:List Value} {n:Nat}
end
section
variable {w:World} {base xb:Nat} {pv rv sv gv cv:Value} {G:List It} {S:List (Value × List It)} {C:List (Value × List (Pc × Value))} {R:List LRu} {re:List Value} {n:Nat}
end
theorem inf59:(Tryz.prog.info? 40).map (fun i=>(i.zero,i.size,i.bytes))=some (some (.slice none 0 0),1,24):=by kernel_rfl
theorem inf66:(Tryz.prog.info? 64).map (fun i=>(i.zero,i.size,i.bytes))=some (some (.agg #[.int .i64 0,.int .i64 0,.int .i64 0,.slice none 0 0]),4,48):=by kernel_rfl
theorem inf54:(Tryz.prog.info? 60).map (fun i=>(i.zero,i.size,i.bytes))=some (some (.agg #[.bool false,.slice none 0 0,.slice none 0 0,.slice none 0 0,.bool false,.slice none 0 0,.int .i64 0]),7,120):=by kernel_rfl
def Rob (X:Nat→Prop) (w:World) (P:World→Prop):Prop:=∀ w'',Fr w w'' X→P w''
theorem Rob.now {X:Nat→Prop} {w:World} {P:World→Prop} (h:Rob X w P):P w:=h w (Fr.refl _ _)
theorem Rob.fr {X Y:Nat→Prop} {w w':World} {P:World→Prop} (h:Rob X w P) (hf:Fr w w' Y) (hy:∀ k,k<w.heap.size→Y k→X k):Rob X w' P:=fun w'' h2=>h w'' ((hf.mono hy).trans h2 fun _ _ e=>e)
theorem Rob.less {X Y:Nat→Prop} {w:World} {P:World→Prop} (h:Rob X w P) (hy:∀ k,k<w.heap.size→Y k→X k):Rob Y w P:=fun w'' h2=>h w'' (h2.mono hy)
def RowB (w:World) (g:Nat) (e:TypeId) (F:Nat→Value) (n:Nat):Prop:=∃ cur:Array Value,w.heap[g]? = some (.cells cur e (0,0))∧∀ j,j<n→cur[j]? = some (F j)
theorem RowB.cell {w:World} {g:Nat} {e:TypeId} {F:Nat→Value} {n j:Nat} (h:RowB w g e F n) (hj:j<n):w.cell? ⟨g,j,none⟩=some (F j):=by
 obtain ⟨cur,h1,h2⟩:=h
 rw [cell_of h1,h2 j hj]
theorem RowB.free {w:World} {g:Nat} {e:TypeId} {F:Nat→Value} {n j:Nat} (h:RowB w g e F n):w.frozen? ⟨g,j,none⟩=false:=by
 obtain ⟨cur,h1,h2⟩:=h
 exact free_of h1
theorem RowB.lt {w:World} {g:Nat} {e:TypeId} {F:Nat→Value} {n:Nat} (h:RowB w g e F n):g<w.heap.size:=by
 obtain ⟨cur,h1,_⟩:=h
 exact blk_lt h1
def updF (F:Nat→Value) (i:Nat) (u:Value):Nat→Value:=fun j=>if j=i then u else F j
theorem RowB.set {w:World} {g:Nat} {e:TypeId} {F:Nat→Value} {n:Nat} (h:RowB w g e F n) (i:Nat) (u:Value):RowB (w.setCell ⟨g,i,none⟩ u) g e (updF F i u) n:=by
 obtain ⟨cur,h1,h2⟩:=h
 refine ⟨_,set_heap h1,fun j hj => ?_⟩
 have hlt:j<cur.size:=(Array.getElem?_eq_some_iff.1 (h2 j hj)).1
 rw [Array.getElem?_setIfInBounds]
 by_cases e:i=j
 · subst e;rw [if_pos rfl,if_pos hlt];simp [updF]
 · rw [if_neg e,h2 j hj];simp [updF,Ne.symm e]
theorem RowB.fr {w w':World} {X:Nat→Prop} {g:Nat} {e:TypeId} {F:Nat→Value} {n:Nat} (h:RowB w g e F n) (hf:Fr w w' X) (hx:¬ X g):RowB w' g e F n:=by
 obtain ⟨cur,h1,h2⟩:=h
 exact ⟨cur,(hf.block g (blk_lt h1) hx).trans h1,h2⟩
theorem row_of {w:World} {base:Nat} {e:TypeId} {size:Nat} {v:Value} {n:Nat} {xs:List Value} (h:w.ownsRow base e size v n xs) (hn:n≠0):∃ g cap,v = .slice (some ⟨g,0,none⟩) n cap∧base≤g∧n≤cap∧RowB w g e (fun j=>xs.getD j undef) (n*size):=by
 rcases h.2 with ⟨_,h0⟩ | ⟨g,cap,cur,e1,h1,h2,h3,_,_,h5⟩
 · exact absurd h0 hn
 · refine ⟨g,cap,e1,h1,h3,cur,h2,fun j hj => ?_⟩
   have hl:xs.length=n*size:=h.1
   have hj2:j<xs.length:=by omega
   show cur[j]? = some (xs.getD j undef)
   rw [List.getD_eq_getElem?_getD,List.getElem?_eq_getElem hj2]
   have:(cur.toList.take (n*size))[j]? = some xs[j]:=by rw [h5];exact List.getElem?_eq_getElem hj2
   rw [List.getElem?_take,if_pos hj] at this
   simpa using this
theorem run_appX (w:World) (t ty e:TypeId) (z:Value) (size bytes:Nat) (ht:Tryz.prog.underlying t=some (.slice e)) (hinf:(Tryz.prog.info? e).map (fun i=>(i.zero,i.size,i.bytes))=some (some z,size,bytes)) (hzs:z.cells.size=size) (hsz:0<size) (hb0:bytes≤120)
 (base g:Nat) (hg:w.heap[g]? = some (.cells #[] e (0,0))) (hbg:base≤g) (a:Addr) (n c:Nat) (xs:List Value) (hl:xs.length=n*size) (hr:∀ j u,xs[j]? = some u→w.cell? (a.add j)=some u) (h1:∀ u∈xs,u.oneCell'=true) (hn:n≤4294967296) :
 ∃ v' w',(Builtin.append_ #[t,t] ty #[.slice (some ⟨g,0,none⟩) 0 0,.slice (some a) n c]).run Tryz.prog w = .ok v' w'∧w'.ownsRow base e size v' n xs∧Fr w w' (fun k=>k=g):=by
 obtain ⟨i0,hi0,hz0,hz1,hz2⟩:=info_parts hinf
 have hown:w.ownsRow base e size (.slice (some ⟨g,0,none⟩) 0 0) 0 []:=⟨by simp,.inr ⟨g,0,#[],rfl,hbg,hg,Nat.le_refl _,Nat.zero_le _,by simp,by simp⟩⟩
 by_cases he:n=0
 · subst he
   have hx:xs=[]:=List.eq_nil_of_length_eq_zero (by omega)
   subst hx
   have hr:=run_append_nothing (P:=Tryz.prog) w t t ty e i0 ht hi0 (some ⟨g,0,none⟩) 0 0 (Nat.le_refl _) (.slice (some a) 0 c) ⟨.inl ⟨e,ht⟩,fun w'=>by simp [Builtin.lenOf,go_sem],by simp [Builtin.firstCells,go_sem],by simp [Builtin.firstCells,go_sem],by simp,by simp⟩
   exact ⟨_,w,hr,hown,Fr.refl _ _⟩
 · obtain ⟨v',w',q1,q2,q3,_,_⟩:=run_append_own_at (P:=Tryz.prog) w base t ty e i0 z size bytes ht hi0 hz0 hz1 hz2 hzs hsz (.slice (some ⟨g,0,none⟩) 0 0) 0 [] hown a n c xs hl hr h1 (by unfold maxLen;omega) (by have:(0+n)*bytes≤4294967296*120:=Nat.mul_le_mul (by omega) hb0;omega) (by have:=blk_lt hg;omega)
   refine ⟨v',w',q1,by simpa using q2,(fr_by q3).mono fun k _ e => ?_⟩
   injection e with e
   exact e.symm
theorem app_X {ops:Array Oper} {rest:List Oper} {o:Oper} {ac:Act} {Q:Exit→Act→World→Prop} {w:World} (hgd:o.guard=none) (s x:Operand) (t:TypeId)
 (ho:o.op = .call { callee := .builtin .append,args:=#[s,x],argTypes:=#[t,t] }) (e:TypeId) (z:Value) (size bytes:Nat) (ht:Tryz.prog.underlying t=some (.slice e)) (hinf:(Tryz.prog.info? e).map (fun i=>(i.zero,i.size,i.bytes))=some (some z,size,bytes)) (hzs:z.cells.size=size) (hsz:0<size) (hb0:bytes≤120)
 (base g:Nat) (hs:ac.eval s = .slice (some ⟨g,0,none⟩) 0 0) (hg:w.heap[g]? = some (.cells #[] e (0,0))) (hbg:base≤g) (a:Addr) (n c:Nat) (hx:ac.eval x = .slice (some a) n c) (xs:List Value) (hl:xs.length=n*size) (hr:∀ j u,xs[j]? = some u→w.cell? (a.add j)=some u) (h1:∀ u∈xs,u.oneCell'=true) (hn:n≤4294967296)
 (h:∀ v' w',w'.ownsRow base e size v' n xs→Fr w w' (fun k=>k=g)→wpList Tryz.prog ops Q rest (ac.put o.dst v') w'):wpList Tryz.prog ops Q (o::rest) ac w:=by
 refine wpList_plain hgd fun K hK => ?_
 obtain ⟨v',w',hr2,q1,q2⟩:=run_appX w t o.type e z size bytes ht hinf hzs hsz hb0 base g hg hbg a n c xs hl hr h1 hn
 unfold Oper.wp execOp
 simp only [ho,resolve,invoke,builtin,Sem.run_bind,Sem.run_pure,Result.andThen_ok,List.map_toArray,List.map_cons,List.map_nil,hs,hx,hr2]
 exact hK _ _ (h v' w' q1 q2)
def Lies (w:World) (A:Option Addr) (xs:List Value):Prop:=∀ j u,xs[j]? = some u→∃ a,A=some a∧w.cell? (a.add j)=some u
theorem eqS22 (W:World) (a:Addr) (n c:Nat):(binOp .eql 22 (.slice (some a) n c) (.slice none 0 0)).run Tryz.prog W = .ok (.bool false) W:=by kernel_rfl
theorem eqN22 (W:World) (n c:Nat):(binOp .eql 22 (.slice none n c) (.slice none 0 0)).run Tryz.prog W = .ok (.bool true) W:=by kernel_rfl
set_option maxHeartbeats 2000000 in
theorem clone58 (w:World) (A:Option Addr) (n c:Nat) (xs:List Value) (hA:A=none→n=0) (hl:xs.length=n*7) (hr:Lies w A xs) (h1:∀ u∈xs,u.oneCell'=true) (hn:n≤4294967296) :
 Calls Tryz.prog 70 #[.slice A n c] w fun e w'=>∃ v',e = .returned v'∧w'.ownsRow w.heap.size 60 7 v' n xs∧Below w.heap.size w w':=by
 cases A with
 | none=>
  obtain rfl:=hA rfl
  have hx:xs=[]:=List.eq_nil_of_length_eq_zero (by omega)
  subst hx
  have he:=eqN22
  clear hr h1 hl hn hA
  go_enter Tryz.func70,Tryz.ntmps70
  go_wp2
  go_ret
  exact ⟨_,rfl,World.ownsRow_nil _ _ _ _,(Below.refl _ _)⟩
 | some a=>
  have he:=eqS22
  obtain ⟨h,hh⟩:∃ h,w.heap.size=h:=⟨_,rfl⟩
  have HH:Hid (w.heap.size=h):=hh
  have HG:Hid ((w.alloc (.cells #[] 60)).heap[h]? = some (.cells #[] 60 (0,0))):=by rw [←hh];exact heap_alloc_new w _
  have HR:Hid (∀ j u,xs[j]? = some u→(w.alloc (.cells #[] 60)).cell? (a.add j)=some u):=fun j u hj=>by
   obtain ⟨a',e,h2⟩:=hr j u hj
   injection e with e
   subst e
   exact cell_up h2 _
  have HX:=Hid.mk' (And.intro hl h1)
  clear hr h1 hl hA
  go_enter Tryz.func70,Tryz.ntmps70
  go_wp2_with (at_builtin;go_must (refine app_X rfl _ _ 22 rfl 60 (.agg #[.bool false,.slice none 0 0,.slice none 0 0,.slice none 0 0,.bool false,.slice none 0 0,.int .i64 0]) 7 120 Tryz.underlying22 inf54 rfl (by decide) (by decide) h h rfl HG.out (Nat.le_refl _) a n c rfl xs HX.out.1 HR.out HX.out.2 hn ?_;intro v' w3 hr3 hb3;have H3:=Hid.mk' (And.intro hr3 hb3);clear hr3 hb3))
  go_ret
  have hb:=H3.out.2
  refine ⟨_,rfl,?_,?_⟩
  · have:=H3.out.1
    rw [HH.out]
    exact this
  · exact ((Grown.refl w).alloc _).below.trans (hb.below (fun k e=>by have:=HH.out;omega) (by simp))
theorem eqS51 (W:World) (a:Addr) (n c:Nat):(binOp .eql 58 (.slice (some a) n c) (.slice none 0 0)).run Tryz.prog W = .ok (.bool false) W:=by kernel_rfl
theorem eqN51 (W:World) (n c:Nat):(binOp .eql 58 (.slice none n c) (.slice none 0 0)).run Tryz.prog W = .ok (.bool true) W:=by kernel_rfl
set_option maxHeartbeats 2000000 in
theorem clone60 (w:World) (A:Option Addr) (n c:Nat) (xs:List Value) (hA:A=none→n=0) (hl:xs.length=n*4) (hr:Lies w A xs) (h1:∀ u∈xs,u.oneCell'=true) (hn:n≤4294967296) :
 Calls Tryz.prog 72 #[.slice A n c] w fun e w'=>∃ v',e = .returned v'∧w'.ownsRow w.heap.size 64 4 v' n xs∧Below w.heap.size w w':=by
 cases A with
 | none=>
  obtain rfl:=hA rfl
  have hx:xs=[]:=List.eq_nil_of_length_eq_zero (by omega)
  subst hx
  have he:=eqN51
  clear hr h1 hl hn hA
  go_enter Tryz.func72,Tryz.ntmps72
  go_wp2
  go_ret
  exact ⟨_,rfl,World.ownsRow_nil _ _ _ _,(Below.refl _ _)⟩
 | some a=>
  have he:=eqS51
  obtain ⟨h,hh⟩:∃ h,w.heap.size=h:=⟨_,rfl⟩
  have HH:Hid (w.heap.size=h):=hh
  have HG:Hid ((w.alloc (.cells #[] 64)).heap[h]? = some (.cells #[] 64 (0,0))):=by rw [←hh];exact heap_alloc_new w _
  have HR:Hid (∀ j u,xs[j]? = some u→(w.alloc (.cells #[] 64)).cell? (a.add j)=some u):=fun j u hj=>by
   obtain ⟨a',e,h2⟩:=hr j u hj
   injection e with e
   subst e
   exact cell_up h2 _
  have HX:=Hid.mk' (And.intro hl h1)
  clear hr h1 hl hA
  go_enter Tryz.func72,Tryz.ntmps72
  go_wp2_with (at_builtin;go_must (refine app_X rfl _ _ 58 rfl 64 (.agg #[.int .i64 0,.int .i64 0,.int .i64 0,.slice none 0 0]) 4 48 Tryz.underlying58 inf66 rfl (by decide) (by decide) h h rfl HG.out (Nat.le_refl _) a n c rfl xs HX.out.1 HR.out HX.out.2 hn ?_;intro v' w3 hr3 hb3;have H3:=Hid.mk' (And.intro hr3 hb3);clear hr3 hb3))
  go_ret
  have hb:=H3.out.2
  refine ⟨_,rfl,?_,?_⟩
  · have:=H3.out.1
    rw [HH.out]
    exact this
  · exact ((Grown.refl w).alloc _).below.trans (hb.below (fun k e=>by have:=HH.out;omega) (by simp))
theorem eqS60 (W:World) (a:Addr) (n c:Nat):(binOp .eql 40 (.slice (some a) n c) (.slice none 0 0)).run Tryz.prog W = .ok (.bool false) W:=by kernel_rfl
theorem eqN60 (W:World) (n c:Nat):(binOp .eql 40 (.slice none n c) (.slice none 0 0)).run Tryz.prog W = .ok (.bool true) W:=by kernel_rfl
set_option maxHeartbeats 2000000 in
theorem clone61 (w:World) (A:Option Addr) (n c:Nat) (xs:List Value) (hA:A=none→n=0) (hl:xs.length=n*2) (hr:Lies w A xs) (h1:∀ u∈xs,u.oneCell'=true) (hn:n≤4294967296) :
 Calls Tryz.prog 73 #[.slice A n c] w fun e w'=>∃ v',e = .returned v'∧w'.ownsRow w.heap.size 67 2 v' n xs∧Below w.heap.size w w':=by
 cases A with
 | none=>
  obtain rfl:=hA rfl
  have hx:xs=[]:=List.eq_nil_of_length_eq_zero (by omega)
  subst hx
  have he:=eqN60
  clear hr h1 hl hn hA
  go_enter Tryz.func73,Tryz.ntmps73
  go_wp2
  go_ret
  exact ⟨_,rfl,World.ownsRow_nil _ _ _ _,(Below.refl _ _)⟩
 | some a=>
  have he:=eqS60
  obtain ⟨h,hh⟩:∃ h,w.heap.size=h:=⟨_,rfl⟩
  have HH:Hid (w.heap.size=h):=hh
  have HG:Hid ((w.alloc (.cells #[] 67)).heap[h]? = some (.cells #[] 67 (0,0))):=by rw [←hh];exact heap_alloc_new w _
  have HR:Hid (∀ j u,xs[j]? = some u→(w.alloc (.cells #[] 67)).cell? (a.add j)=some u):=fun j u hj=>by
   obtain ⟨a',e,h2⟩:=hr j u hj
   injection e with e
   subst e
   exact cell_up h2 _
  have HX:=Hid.mk' (And.intro hl h1)
  clear hr h1 hl hA
  go_enter Tryz.func73,Tryz.ntmps73
  go_wp2_with (at_builtin;go_must (refine app_X rfl _ _ 40 rfl 67 (.agg #[.int .i64 0,.int .i64 0]) 2 16 Tryz.underlying40 info38 rfl (by decide) (by decide) h h rfl HG.out (Nat.le_refl _) a n c rfl xs HX.out.1 HR.out HX.out.2 hn ?_;intro v' w3 hr3 hb3;have H3:=Hid.mk' (And.intro hr3 hb3);clear hr3 hb3))
  go_ret
  have hb:=H3.out.2
  refine ⟨_,rfl,?_,?_⟩
  · have:=H3.out.1
    rw [HH.out]
    exact this
  · exact ((Grown.refl w).alloc _).below.trans (hb.below (fun k e=>by have:=HH.out;omega) (by simp))
theorem eqS33 (W:World) (a:Addr) (n c:Nat):(binOp .eql 34 (.slice (some a) n c) (.slice none 0 0)).run Tryz.prog W = .ok (.bool false) W:=by kernel_rfl
theorem eqN33 (W:World) (n c:Nat):(binOp .eql 34 (.slice none n c) (.slice none 0 0)).run Tryz.prog W = .ok (.bool true) W:=by kernel_rfl
set_option maxHeartbeats 2000000 in
theorem clone85 (w:World) (A:Option Addr) (n c:Nat) (xs:List Value) (hA:A=none→n=0) (hl:xs.length=n*1) (hr:Lies w A xs) (h1:∀ u∈xs,u.oneCell'=true) (hn:n≤4294967296) :
 Calls Tryz.prog 103 #[.slice A n c] w fun e w'=>∃ v',e = .returned v'∧w'.ownsRow w.heap.size 40 1 v' n xs∧Below w.heap.size w w':=by
 cases A with
 | none=>
  obtain rfl:=hA rfl
  have hx:xs=[]:=List.eq_nil_of_length_eq_zero (by omega)
  subst hx
  have he:=eqN33
  clear hr h1 hl hn hA
  go_enter Tryz.func103,Tryz.ntmps103
  go_wp2
  go_ret
  exact ⟨_,rfl,World.ownsRow_nil _ _ _ _,(Below.refl _ _)⟩
 | some a=>
  have he:=eqS33
  obtain ⟨h,hh⟩:∃ h,w.heap.size=h:=⟨_,rfl⟩
  have HH:Hid (w.heap.size=h):=hh
  have HG:Hid ((w.alloc (.cells #[] 40)).heap[h]? = some (.cells #[] 40 (0,0))):=by rw [←hh];exact heap_alloc_new w _
  have HR:Hid (∀ j u,xs[j]? = some u→(w.alloc (.cells #[] 40)).cell? (a.add j)=some u):=fun j u hj=>by
   obtain ⟨a',e,h2⟩:=hr j u hj
   injection e with e
   subst e
   exact cell_up h2 _
  have HX:=Hid.mk' (And.intro hl h1)
  clear hr h1 hl hA
  go_enter Tryz.func103,Tryz.ntmps103
  go_wp2_with (at_builtin;go_must (refine app_X rfl _ _ 34 rfl 40 (.slice none 0 0) 1 24 Tryz.underlying34 inf59 rfl (by decide) (by decide) h h rfl HG.out (Nat.le_refl _) a n c rfl xs HX.out.1 HR.out HX.out.2 hn ?_;intro v' w3 hr3 hb3;have H3:=Hid.mk' (And.intro hr3 hb3);clear hr3 hb3))
  go_ret
  have hb:=H3.out.2
  refine ⟨_,rfl,?_,?_⟩
  · have:=H3.out.1
    rw [HH.out]
    exact this
  · exact ((Grown.refl w).alloc _).below.trans (hb.below (fun k e=>by have:=HH.out;omega) (by simp))
theorem Rs.fr {w w':World} {X:Nat→Prop} {v:Value} {l:List (Int × Int)} (h:Rs w v l) (hf:Fr w w' X) (hx:∀ b,v.ownBlock=some b→¬ X b):Rs w' v l:=by
 obtain ⟨A,c,rfl,h1,h2⟩:=h
 refine ⟨A,c,rfl,h1,h2.imp id ?_⟩
 rintro ⟨g,o,rfl,hr⟩
 refine ⟨g,o,rfl,fun j hj => ?_⟩
 have hb:=hx g rfl
 have k:=hr j hj
 have hlt:=cell_lt k.1
 have e:w'.heap[g]? = w.heap[g]? := hf.block g hlt hb
 exact ⟨by rw [cell_same e];exact k.1,by rw [cell_same e];exact k.2⟩
theorem OwnR.rob {w:World} {base:Nat} {v:Value} {l:List (Int × Int)} (h:OwnR w base v l):Rob (fun k=>k<base) w fun W=>Rs W v l:=fun W hf=>h.rs.fr hf fun b hb hx=>by
 have:=(World.ownsRow.lt h b hb).1
 omega
theorem clone_rs (v:Value) (l:List (Int × Int)) (w:World) (h:Rs w v l) (hn:l.length≤4294967296):Calls Tryz.prog 73 #[v] w fun e w'=>∃ v',e = .returned v'∧IsSl v'∧Rob (fun k=>k<w.heap.size) w' (fun W=>Rs W v' l)∧Below w.heap.size w w':=by
 obtain ⟨A,c,rfl,h1,h2⟩:=h
 refine (clone61 w A l.length c (fl l) (fun e => ?_) (fl_length l) (fun j u hj => ?_) (fl_one _) hn).mono ?_
 · rcases h2 with h2 | ⟨g,o,e2,_⟩
   · rw [h2];rfl
   · rw [e] at e2;cases e2
 · have hjl:j<l.length*2:=by rw [←fl_length];exact (List.getElem?_eq_some_iff.1 hj).1
   obtain ⟨g,o,rfl,hd⟩:=h2.resolve_left fun e=>by rw [e] at hjl;simp at hjl
   refine ⟨_,rfl,?_⟩
   have hadd:(⟨g,o,none⟩:Addr).add j=⟨g,o+j,none⟩:=by unfold Addr.add;split <;> simp_all
   rw [hadd]
   obtain ⟨i,hi⟩:∃ i,j=i*2∨j=i*2+1:=⟨j / 2,by omega⟩
   have hil:i<l.length:=by omega
   have k1:=hd i hil
   have k2:=fl_at l hil
   rcases hi with rfl | rfl
   · rw [k2.1] at hj;injection hj with hj;subst hj;exact k1.1
   · rw [k2.2] at hj;injection hj with hj;subst hj;rw [←Nat.add_assoc];exact k1.2
 · rintro e w' ⟨v',rfl,hO,hB⟩
   have hO:OwnR w' w.heap.size v' l:=hO
   exact ⟨v',rfl,hO.rs.sl,hO.rob,hB⟩
theorem SRd.vals {w:World} {g o:Nat} {ls:List (List (Int × Int))} (h:SRd w g o ls):∃ F:Nat→Value,∀ j,j<ls.length→w.cell? ⟨g,o+j,none⟩=some (F j)∧Rs w (F j) (ls.getD j []):=by
 have h':∀ (j:Nat) (hj:j<ls.length),∃ sv,w.cell? ⟨g,o+j,none⟩=some sv∧Rs w sv ls[j]:=h
 refine ⟨fun j=>if hj:j<ls.length then Classical.choose (h' j hj) else undef,fun j hj => ?_⟩
 have:=Classical.choose_spec (h' j hj)
 simp only [dif_pos hj,List.getD_eq_getElem?_getD,List.getElem?_eq_getElem hj,Option.getD_some]
 exact this
theorem map_range_at (F:Nat→Value) (n j:Nat) (u:Value) (h:((List.range n).map F)[j]? = some u):j<n∧u=F j:=by
 have hj:j<n:=by
  have:=(List.getElem?_eq_some_iff.1 h).1
  simpa using this
 rw [List.getElem?_map,List.getElem?_range hj] at h
 exact ⟨hj,(Option.some.inj h).symm⟩
theorem own_sl2 {w:World} {base:Nat} {e:TypeId} {size:Nat} {v:Value} {n:Nat} {xs:List Value} (h:w.ownsRow base e size v n xs):∃ a cap,v = .slice a n cap:=by
 rcases h.2 with ⟨e,h0⟩ | ⟨g,cap,cur,e,_⟩
 · exact ⟨none,0,by rw [e,h0]⟩
 · exact ⟨_,cap,e⟩
theorem isSl_one {v:Value} (h:IsSl v):v.oneCell'=true:=by
 obtain ⟨a,n,c,rfl⟩:=h
 rfl
theorem add_none (g o j:Nat):(⟨g,o,none⟩:Addr).add j=⟨g,o+j,none⟩:=by unfold Addr.add;split <;> simp_all
structure OR (w wr:World) (base g:Nat) (ls:List (List (Int × Int))) (F:Nat→Value) (k:Nat) (G:Nat→Value):Prop where
 row:RowB wr g 40 G ls.length
 new:∀ j,j<k→Rob (fun i=>i<base∨i=g) wr fun W=>Rs W (G j) (ls.getD j [])
 old:∀ j,k≤j→G j=F j
 bel:Below base w wr
set_option maxHeartbeats 4000000 in
theorem ownRow_any (v:Value) (ls:List (List (Int × Int))) (w:World) (h:SR w v ls) (hn:ls.length≤4294967296) (hs:∀ l∈ls,l.length≤4294967296) :
 Calls Tryz.prog 71 #[v] w fun e w'=>∃ v',e = .returned v'∧Rob (fun k=>k<w.heap.size) w' (fun W=>SR W v' ls)∧Below w.heap.size w w':=by
 obtain ⟨A,c,rfl,h1,h2⟩:=h
 obtain ⟨n,hN⟩:∃ n,ls.length=n:=⟨_,rfl⟩
 have HN:=Hid.mk' hN
 by_cases h0:n=0
 · have hl0:ls=[]:=List.eq_nil_of_length_eq_zero (by omega)
   have HC:Hid (Calls Tryz.prog 103 #[.slice A 0 c] w fun e w'=>∃ v',e = .returned v'∧w'.ownsRow w.heap.size 40 1 v' 0 []∧Below w.heap.size w w'):=by
    refine clone85 w A 0 c [] (fun _=>rfl) rfl (fun j u hj=>by simp at hj) (by simp) (by omega)
   subst hl0
   rw [show ([]:List (List (Int × Int))).length=0 from rfl]
   clear h1 h2 hn hs hN HN
   go_enter Tryz.func71,Tryz.ntmps71
   go_wp2_with (go_at_call 103;refine HC.out.mono ?_;rintro e w1 ⟨v1,rfl,hO,hB⟩;obtain ⟨q1,q3,hv⟩:=own_sl2 hO;subst hv;have HO:=Hid.mk' (And.intro hO hB);clear hO hB)
   go_loopw [4,5,10] (fun _ _ v10 wr=>v10 = .int .i64 0∧wr=w1) (fun _ _ _ _=>0)
   case atStart=>exact ⟨rfl,rfl⟩
   case round=>
    obtain ⟨rfl,rfl⟩:=hrel
    go_wp2
    go_ret
    refine ⟨_,rfl,fun W _=>⟨q1,q3,rfl,Nat.zero_le _,.inl rfl⟩,HO.out.2⟩
 · obtain ⟨g0,o0,rfl,hd⟩:=h2.resolve_left fun e=>h0 (by rw [←hN,e];rfl)
   obtain ⟨F,hF⟩:=hd.vals
   have HF:=Hid.mk' hF
   have hFs:∀ j,j<n→IsSl (F j):=fun j hj=>(hF j (by omega)).2.sl
   have HC:Hid (Calls Tryz.prog 103 #[.slice (some ⟨g0,o0,none⟩) n c] w fun e w'=>∃ v',e = .returned v'∧w'.ownsRow w.heap.size 40 1 v' n ((List.range n).map F)∧Below w.heap.size w w'):=by
    refine clone85 w _ n c _ (fun e=>by cases e) (by simp) (fun j u hj => ?_) (fun u hu => ?_) (by omega)
    · obtain ⟨hj1,rfl⟩:=map_range_at F n j u hj
      exact ⟨_,rfl,by rw [add_none];exact (hF j (by omega)).1⟩
    · obtain ⟨j,hj,rfl⟩:=List.mem_map.1 hu
      exact isSl_one (hFs j (List.mem_range.1 hj))
   rw [hN]
   have hnI:(n:Int)≤4294967296:=by omega
   have HS:=Hid.mk' hs
   clear h1 h2 hd hF hs hN
   go_enter Tryz.func71,Tryz.ntmps71
   go_wp2_with (go_at_call 103;refine HC.out.mono ?_;rintro e w1 ⟨v1,rfl,hO,hB⟩;obtain ⟨g,cap,hv,hg,hcap,hrow⟩:=row_of hO h0;subst hv;have HO:=Hid.mk' (And.intro hg (And.intro hcap (And.intro hrow hB)));clear hO hB hrow)
   have HK0:Hid (OR w w1 w.heap.size g ls F 0 F):=by
    obtain ⟨k1,k2,⟨cur,k3,k5⟩,k4⟩:=HO.out
    refine ⟨⟨cur,k3,fun j hj => ?_⟩,fun j hj=>by omega,fun j _=>rfl,k4⟩
    have hj2:j<n:=by have:=HN.out;omega
    rw [k5 j (by omega)]
    show some (((List.range n).map F).getD j undef)=_
    rw [List.getD_eq_getElem?_getD,List.getElem?_map,List.getElem?_range hj2]
    rfl
   go_loopw [4,5,10] (fun _ _ v10 wr=>∃ k:Nat,v10 = .int .i64 k∧k≤n∧Hid (∃ G,OR w wr w.heap.size g ls F k G)) (fun _ _ v10 _=>n - (intOf v10).toNat)
   case atStart=>exact ⟨0,rfl,by omega,_,HK0.out⟩
   case round=>
    obtain ⟨k,rfl,hk,HG⟩:=hrel
    obtain ⟨G,hG⟩:=HG.out
    by_cases hlt:k<n
    · have hltI:(k:Int)<(n:Int):=by omega
      have hkl:k<ls.length:=by have:=HN.out;omega
      have ck:wr.cell? ⟨g,k,none⟩=some (F k):=by rw [hG.row.cell hkl,hG.old k (Nat.le_refl _)]
      have hgl:=hG.row.lt
      obtain ⟨x1,x2,x3,hx⟩:=hFs k hlt
      have HCl:Hid (∀ W,Grown wr W→Calls Tryz.prog 73 #[F k] W fun e w'=>∃ y1 y2 y3,e = .returned (.slice y1 y2 y3)∧Rob (fun i=>i<W.heap.size) w' (fun W=>Rs W (.slice y1 y2 y3) (ls.getD k []))∧Below W.heap.size W w'):=fun W hg=>by
       have hm:ls.getD k []∈ls:=by rw [List.getD_eq_getElem?_getD,List.getElem?_eq_getElem hkl];exact List.getElem_mem hkl
       refine (clone_rs (F k) (ls.getD k []) W (((HF.out k hkl).2.below hG.bel (Nat.le_refl _)).below hg.below (Nat.le_refl _)) (HS.out _ hm)).mono ?_
       rintro e w' ⟨v',rfl,⟨y1,y2,y3,rfl⟩,h1,h2⟩
       exact ⟨y1,y2,y3,rfl,h1,h2⟩
      rw [hx] at HCl ck
      have HGG:=Hid.mk' hG
      have HX:=Hid.mk' hx
      have hcI:(k:Int)<(cap:Int):=by omega
      clear hG hx
      go_wp2_with (go_at_call 73;go_must (refine (HCl.out _ (by (repeat (first | exact Grown.refl _ | refine Grown.alloc ?_ _ | refine Grown.drew ?_)))).mono ?_;rintro e w5 ⟨y1,y2,y3,rfl,hr5,hb5⟩;have H5:=Hid.mk' (And.intro hr5 hb5);have hR5:RowB w5 g 40 G ls.length:=HGG.out.row.fr (fr_below hb5 (Nat.le_refl _) (fun _=>False)) id;have e5:=hR5.cell hkl;have f5:w5.frozen? ⟨g,k,none⟩=false:=hR5.free;rw [HGG.out.old k (Nat.le_refl _),HX.out] at e5;have HR5:=Hid.mk' hR5;clear hr5 hb5 hR5))
      refine ⟨⟨k+1,by go_num,by omega,updF G k (.slice y1 y2 y3),?_⟩,by simp [intOf];omega⟩
      have hG:=HGG.out
      have hbl:=H5.out.2
      have hfs:=fr_set w5 g k (.slice y1 y2 y3)
      have hbw:w.heap.size≤wr.heap.size:=hG.bel.size
      refine ⟨HR5.out.set k _,fun j hj => ?_,fun j hj => ?_,?_⟩
      · by_cases e:j=k
        · subst e
          have e1:updF G j (.slice y1 y2 y3) j = .slice y1 y2 y3:=by simp [updF]
          rw [e1]
          refine Rob.fr (H5.out.1.less fun i _ hi => ?_) hfs fun i _ e => .inr e
          show i<wr.heap.size
          rcases hi with hi | hi <;> omega
        · have e1:updF G k (.slice y1 y2 y3) j=G j:=by simp [updF,e]
          rw [e1]
          exact Rob.fr (Rob.fr (hG.new j (by omega)) (fr_below hbl (Nat.le_refl _) (fun _=>False)) fun _ _ e=>e.elim) hfs fun i _ e => .inr e
      · have e1:updF G k (.slice y1 y2 y3) j=G j:=by simp [updF];omega
        rw [e1]
        exact hG.old j (by omega)
      · exact (hG.bel.trans (hbl.mono hbw)).setCell (by have:=HO.out.1;exact this) _
    · obtain rfl:k=n:=by omega
      have hge:¬ (k:Int)<(k:Int):=by omega
      clear hG
      go_wp2
      go_ret
      obtain ⟨G,hG⟩:=HG.out
      refine ⟨.slice (some ⟨g,0,none⟩) k cap,rfl,fun W hf=>⟨some ⟨g,0,none⟩,cap,by rw [HN.out],by rw [HN.out];exact HO.out.2.1,.inr ⟨g,0,rfl,fun j hj=>⟨G j,?_,?_⟩⟩⟩,hG.bel⟩
      · rw [Nat.zero_add]
        exact (hG.row.fr hf fun e=>by have:=HO.out.1;omega).cell hj
      · have:=(hG.new j (by have:=HN.out;omega)).less (Y:=fun i=>i<w.heap.size) (fun i _ e => .inl e) W hf
        rwa [List.getD_eq_getElem?_getD,List.getElem?_eq_getElem hj] at this
end Go.Proofs
