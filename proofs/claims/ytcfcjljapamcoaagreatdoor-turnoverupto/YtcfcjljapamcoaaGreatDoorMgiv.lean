/-
  Several texts in one (Oe Of).
-/
import Derived.RangeFuncNested
import Derived.RangeFuncBound
import Derived.RangeFuncCalls
import Derived.RangeFuncLeaves
import Derived.Shelf.Abstract
import Derived.Shelf.RegionOpen
import Derived.WalkKit
import Derived.WalkSpells
import Derived.WalkLawsBesides
import Derived.OwnWalkIn
import Derived.TacticsInMore
import Derived.LoopNIn
import Derived.LoopIn
import Derived.BigQuiet
import Derived.RegionIn
import Derived.Deep.QuietTactic
import Derived.Deep.RegionWith
import Derived.Lib.OthersKept
import Derived.Maps.AppendAt
import Derived.Lib.SmallJoins
import Derived.Shelf.SlSortCmp.QuietGrown
import Derived.Deep.AppendLies
import Derived.Deep.Upon
import Derived.Test.YtcfcjljapamcoaaGreatDoorMgfv
import Derived.Test.YtcfcjljapamcoaaGreatDoorMpqv
namespace Go.Proofs
open Go.RowKit Go.Shelf
set_option maxRecDepth 100000
attribute [local go_sem] Oper.semAt_some
attribute [local go_sem ↓] Go.wp_at_zero Go.wp_at_succ
theorem keep_blk {w w':World} {B:Nat→Prop} {b:Nat} {o:Obj} (hf:Fr w w' B) (hb:w.heap[b]? = some o) (hn:¬ B b):w'.heap[b]? = some o:=(hf.block b (blk_lt hb) hn).trans hb
def nilS:Value := .slice none 0 0
def LenI (w:World) (base xb:Nat) (rs:List Rl) (wr:World) (i:Nat):Prop:=
 ∃ rv sv gv cv G S C R,LX wr base xb nilS rv sv gv cv G S C R [] i∧R.map LRu.rl=rs.take i∧R.length=i∧Below base w wr∧G.length≤i*4194304∧S.length≤i*3∧C.length≤i
def rcl (bg en:Bool) (cu:Int) (a k p r:Value):Obj := .cells #[.bool bg,a,k,p,.bool en,r,.int .i64 cu] 60 (0,0)
def InnI (w:World) (base xb rb:Nat) (ro:Obj) (rv sv cv:Value) (g0:Nat) (S:List (Value × List It)) (C:List (Value × List (Pc × Value))) (R:List LRu) (i:Nat) (ps:List Pc) (wr:World) (ov:Value) (k:Nat):Prop:=
 ∃ gv G its ob cap,ov = .slice (some ⟨ob,0,none⟩) k cap∧its.length=k∧its.map Prod.fst=ps.take k∧(∀ y∈its,(y.2,y.1.tl)∈G)∧LX wr base xb nilS rv sv gv cv G S C R [] i∧wr.ownsRow base 64 4 ov k (pcells its)∧wr.heap[rb]? = some ro∧Below base w wr∧¬ Bs xb rv sv gv cv G S C rb∧¬ Bs xb rv sv gv cv G S C ob∧ob≠rb∧G.length≤g0+k
theorem own_empty66 (w:World) (base:Nat) (hb:base≤w.heap.size):(w.alloc (.cells #[] 64)).ownsRow base 64 4 (.slice (some ⟨w.heap.size,0,none⟩) 0 0) 0 []:=
 ⟨rfl,.inr ⟨w.heap.size,0,#[],rfl,hb,heap_alloc_new w _,Nat.le_refl _,Nat.zero_le _,rfl,rfl⟩⟩
theorem lx_start (w:World) (base xb:Nat) (hb:base≤xb) (hx:w.heap[xb]? = some (.cells #[.slice none 0 0,.slice none 0 0,.slice none 0 0,.slice none 0 0,.slice none 0 0] 37 (0,0))):LX w base xb nilS nilS nilS nilS nilS [] [] [] [] [] 0:=by
 refine ⟨hb,hx,World.ownsRow_nil _ _ _ _,World.ownsRow_nil _ _ _ _,World.ownsRow_nil _ _ _ _,World.ownsRow_nil _ _ _ _,by simp,by simp,by simp,by simp,by simp,by simp,by simp⟩
def STG (w0:World) (B rb i:Nat) (rv cv:Value) (C:List (Value × List (Pc × Value))) (R:List LRu) (ro:Obj) (W:World) (gv sv:Value) (G:List It) (S:List (Value × List It)):Prop:=
 LX W (B+1) (B+1) nilS rv sv gv cv G S C R [] i∧Below (B+1) w0 W∧W.heap[rb]? = some ro∧¬ Bs (B+1) rv sv gv cv G S C rb∧B+1<rb∧B+1≤w0.heap.size
section
variable {w0:World} {B rb i:Nat} {rv cv:Value} {C:List (Value × List (Pc × Value))} {R:List LRu} {W:World} {gv sv:Value} {G:List It} {S:List (Value × List It)}
theorem STG.set {cs:Array Value} (h:STG w0 B rb i rv cv C R (.cells cs 60 (0,0)) W gv sv G S) (j:Nat) (u:Value):STG w0 B rb i rv cv C R (.cells (cs.setIfInBounds j u) 60 (0,0)) (W.setCell ⟨rb,j,none⟩ u) gv sv G S:=by
 obtain ⟨h1,h2,h3,h4,h5,h6⟩:=h
 exact ⟨h1.fr (fr_set W rb j u) fun b hb e=>h4 (by have e:b=rb:=e;rw [←e];exact hb),h2.setCell (by show _≤rb;omega) _,set_heap h3,h4,h5,h6⟩
theorem STG.row {ro:Obj} (h:STG w0 B rb i rv cv C R ro W gv sv G S) (lv:Value) (ls:List (List (Int × Int))) (hs:∀ V,Below (B+1) w0 V→SR V lv ls) (hl:∀ l∈ls,l.length≤2147483647) (hn:ls.length≤2147483647) (hG:G.length+ls.length≤4398046511104) (hS:S.length≤4294967295) :
 Calls Tryz.prog 36 #[.pointer (some ⟨B+1,0,none⟩),lv] W fun e w'=>∃ vg vc gv' sv' its,e = .returned (.slice (some ⟨vg,0,none⟩) ls.length vc)∧STG w0 B rb i rv cv C R ro w' gv' sv' (G++its) (S++[(.slice (some ⟨vg,0,none⟩) (ls.length+1) vc,its)])∧its.map Prod.snd=ls:=by
 obtain ⟨h1,h2,h3,h4,h5,h6⟩:=h
 refine (row_lx h1 lv ls (fun V hb=>hs V (h2.trans hb)) hl hn hG hS).mono ?_
 rintro e w' ⟨v',gv',sv',its,rfl,hm,hLX,hFR,hGR⟩
 have hil:its.length=ls.length:=by rw [←hm];simp
 obtain ⟨⟨mv,_,ho⟩,_⟩:=hLX.si (v',its) (by simp)
 obtain ⟨vg,vc,hv,_⟩:=fl_slice ho
 simp only at hv
 rw [hil] at hv
 subst hv
 refine ⟨vg,vc,gv',sv',its,rfl,⟨hLX,h2.trans (hFR.below (fun b hb=>(h1.lt hb).1) (by have:=h2.size;omega)),keep_blk hFR h3 h4,fun hb => ?_,h5,h6⟩,hm⟩
 rcases hGR rb hb with h | h
 · exact h4 h
 · have:=blk_lt h3;omega
end
set_option maxHeartbeats 16000000 in
theorem lend_any (v:Value) (rs:List Rl) (w:World) (h:PsR w v rs) (hn:rs.length≤1048576) (hz:∀ r∈rs,Go.Proofs.YtcfcjljapamcoaaGreatDoor.Small r 1048576) :
 Calls Tryz.prog 11 #[.agg #[v]] w fun e w'=>∃ base xb rv sv gv cv G S C R rg c,w.heap.size≤base∧e = .returned (.pointer (some ⟨xb,0,none⟩))∧rv = .slice (some ⟨rg,0,none⟩) (rs.length+1) c∧LX w' base xb (.slice (some ⟨rg,0,none⟩) rs.length c) rv sv gv cv G S C R [.bool false,.slice none 0 0,.slice none 0 0,.slice none 0 0,.bool false,.slice none 0 0,.int .i64 (-77)] (rs.length+1)∧R.map LRu.rl=rs∧Below w.heap.size w w':=by
 have HP:Hid (∀ V,Below w.heap.size w V→PsR V v rs):=fun V hb=>h.below hb (Nat.le_refl _)
 have HZ:Hid (∀ r∈rs,Go.Proofs.YtcfcjljapamcoaaGreatDoor.Small r 1048576):=hz
 obtain ⟨ra,rc,hv,hcap,hx2⟩:=h
 subst hv
 clear hx2 hz
 obtain ⟨n,hN⟩:∃ n,rs.length=n:=⟨_,rfl⟩
 have HN:Hid (rs.length=n):=hN
 rw [hN] at HP hn hcap ⊢
 have hnI:(n:Int)≤1048576:=by omega
 have hn0:(0:Int)≤(n:Int):=by omega
 clear hN
 go_enter Tryz.func11,Tryz.ntmps11
 go_wp2
 obtain ⟨B,hB⟩:∃ B,w.heap.size=B:=⟨_,rfl⟩
 have HBS:Hid (w.heap.size=B):=hB
 obtain ⟨w0,hw0⟩:∃ w0,w0=(w.alloc (.cells #[.slice ra n rc] 24)).alloc (.cells #[.slice none 0 0,.slice none 0 0,.slice none 0 0,.slice none 0 0,.slice none 0 0] 37):=⟨_,rfl⟩
 have H0:Hid (LenI w0 (B+1) (B+1) rs w0 0):=by
  refine ⟨nilS,nilS,nilS,nilS,[],[],[],[],lx_start _ _ _ (Nat.le_refl _) ?_,by simp,rfl,Below.refl _ _,by simp,by simp,by simp⟩
  rw [hw0];exact new_blk (by simp [hB])
 have HPB:Hid (w0.heap[B]? = some (.cells #[.slice ra n rc] 24 (0,0))):=by rw [hw0];show _=_;rw [Below.heap_alloc _ _ _ (by simp;omega)];exact new_blk hB
 have HW0:Hid (∀ V,Below (B+1) w0 V→Below w.heap.size w V∧V.heap[B]? = some (.cells #[.slice ra n rc] 24 (0,0))):=fun V hb=>by
  have hg:Grown w w0:=by rw [hw0];exact ((Grown.refl w).alloc _).alloc _
  exact ⟨hg.below.trans (hb.mono (by omega)),(hb.block B (by omega)).trans HPB.out⟩
 have HSZ:Hid (B+1≤w0.heap.size):=by rw [hw0];show _≤_;simp;omega
 rw [hB,←hw0]
 clear hB hw0 HPB
 go_loopw [4] (fun v4 wr=>∃ i:Nat,v4 = .int .i64 i∧i≤n∧Hid (LenI w0 (B+1) (B+1) rs wr i)) (fun v4 _=>n - (intOf v4).toNat)
 case atStart=>exact ⟨0,rfl,by omega,H0⟩
 case round=>
  clear H0
  obtain ⟨i,rfl,hi,HI⟩:=hrel
  have hi0:(0:Int)≤(i:Int):=by omega
  obtain ⟨rv,sv,gv,cv,G,S,C,R,hLX,hRm,hRl,hBel,hG,hS,hC⟩:=HI.out
  have HLX:Hid (LX wr (B+1) (B+1) nilS rv sv gv cv G S C R [] i):=hLX
  have HRM:Hid (R.map LRu.rl=rs.take i∧R.length=i):=⟨hRm,hRl⟩
  have HBE:Hid (Below (B+1) w0 wr):=hBel
  have hW:=HW0.out wr hBel
  have cB:wr.cell? ⟨B,0,none⟩=some (.slice ra n rc):=by rw [cell_of hW.2];rfl
  clear hRm hRl HI
  by_cases hlt:i<n
  · have hltI:(i:Int)<(n:Int):=by omega
    have hil:i<rs.length:=by rw [HN.out];exact hlt
    obtain ⟨a',c',e',_,hP⟩:=HP.out w (Below.refl _ _)
    obtain ⟨g,o,ha',hP2⟩:=hP.resolve_left (fun e=>by rw [e] at hil;simp at hil)
    injection e' with e1 e2 e3
    clear e2 e3
    rw [ha'] at e1
    subst e1
    obtain ⟨av,kv,pv,qv,q0,q1,q2,q3,q4,q5,q6,hR⟩:=hP2 i hil
    have HZr:=Hid.mk' (HZ.out _ (List.getElem_mem hil))
    obtain ⟨r,hr⟩:∃ r,rs[i]=r:=⟨_,rfl⟩
    have HRI:Hid (rs[i]? = some r):=by show _=_;rw [List.getElem?_eq_getElem hil,hr]
    rw [hr] at q0 q4 q6 hR HZr
    obtain ⟨a1,a2,a3,rfl⟩:=hR.a.sl
    obtain ⟨k1,k2,k3,rfl⟩:=hR.k.sl
    obtain ⟨p1,p2,p3,rfl⟩:=hR.p.sl
    obtain ⟨b1,b3,hbv,hbc,hbr⟩:=hR.r
    obtain ⟨bn,hbn⟩:∃ bn,r.res.length=bn:=⟨_,rfl⟩
    have HBN:Hid (r.res.length=bn):=hbn
    rw [hbn] at hbv
    subst hbv
    have hbnI:(bn:Int)≤1048576:=by have:=HZr.out.nr;omega
    have hbn1:bn≤1048576:=by have:=HZr.out.nr;omega
    have HRV:Hid (∀ V,Below (B+1) w0 V→RR V (.slice a1 a2 a3) (.slice k1 k2 k3) (.slice p1 p2 p3) (.slice b1 bn b3) r∧V.cell? ⟨g,o+i*7,none⟩=some (.bool r.bg)∧V.cell? ⟨g,o+i*7+1,none⟩=some (.slice a1 a2 a3)∧V.cell? ⟨g,o+i*7+2,none⟩=some (.slice k1 k2 k3)∧V.cell? ⟨g,o+i*7+3,none⟩=some (.slice p1 p2 p3)∧V.cell? ⟨g,o+i*7+4,none⟩=some (.bool r.en)∧V.cell? ⟨g,o+i*7+5,none⟩=some (.slice b1 bn b3)∧V.cell? ⟨g,o+i*7+6,none⟩=some (.int .i64 r.cu)):=fun V hb=>by
     have hb2:=(HW0.out V hb).1
     exact ⟨hR.below hb2 (Nat.le_refl _),cell_below q0 hb2 (Nat.le_refl _),cell_below q1 hb2 (Nat.le_refl _),cell_below q2 hb2 (Nat.le_refl _),cell_below q3 hb2 (Nat.le_refl _),cell_below q4 hb2 (Nat.le_refl _),cell_below q5 hb2 (Nat.le_refl _),cell_below q6 hb2 (Nat.le_refl _)⟩
    have hgB0:g<w.heap.size:=cell_lt q0
    clear q0 q1 q2 q3 q4 q5 q6
    obtain ⟨_,q0,q1,q2,q3,q4,q5,q6⟩:=HRV.out wr hBel
    clear hr hP hP2 ha' hbc hbr hbn hW hR
    go_wp2
    obtain ⟨rb,hrb⟩:∃ rb,wr.heap.size=rb:=⟨_,rfl⟩
    obtain ⟨wJ,hwJ⟩:∃ wJ,wJ=(wr.alloc (.cells #[.bool r.bg,.slice a1 a2 a3,.slice k1 k2 k3,.slice p1 p2 p3,.bool r.en,.slice b1 bn b3,.int .i64 r.cu] 60)).alloc (.cells #[] 64):=⟨_,rfl⟩
    have HJ:Hid (InnI w0 (B+1) (B+1) rb (rcl r.bg r.en r.cu (.slice a1 a2 a3) (.slice k1 k2 k3) (.slice p1 p2 p3) (.slice b1 bn b3)) rv sv cv G.length S C R i r.res wJ (.slice (some ⟨rb+1,0,none⟩) 0 0) 0):=by
     have hg:Grown wr wJ:=by rw [hwJ];exact ((Grown.refl wr).alloc _).alloc _
     have hlt2:∀ b,Bs (B+1) rv sv gv cv G S C b→b<rb:=fun b hb=>by rw [←hrb];exact (hLX.lt hb).2
     refine ⟨gv,G,[],rb+1,0,rfl,rfl,by simp,by simp,hLX.grown hg,?_,?_,hBel.trans (hg.below.mono (by have:=hBel.size;have:=HSZ.out;omega)),fun hb=>by have:=hlt2 _ hb;omega,fun hb=>by have:=hlt2 _ hb;omega,by omega,by omega⟩
     · rw [hwJ]
       have:=own_empty66 (wr.alloc (.cells #[.bool r.bg,.slice a1 a2 a3,.slice k1 k2 k3,.slice p1 p2 p3,.bool r.en,.slice b1 bn b3,.int .i64 r.cu] 60)) (B+1) (by have:=hBel.size;have:=HSZ.out;simp;omega)
       simp only [World.size_alloc,hrb] at this
       simpa [pcells] using this
     · rw [hwJ]
       rw [Below.heap_alloc _ _ _ (by simp;omega)]
       exact new_blk hrb
    have hsz1:(wr.alloc (.cells #[.bool r.bg,.slice a1 a2 a3,.slice k1 k2 k3,.slice p1 p2 p3,.bool r.en,.slice b1 bn b3,.int .i64 r.cu] 60)).heap.size=rb+1:=by simp [hrb]
    first | rw [←hwJ] | (simp only [←hwJ])
    try rw [hrb]
    have HRBB:Hid (B+1<rb):=by have:=blk_lt hLX.x;show _<_;omega
    have hgB:g<B:=by have:=HBS.out;omega
    have hne1:g≠B+1:=by omega
    have hne2:g≠rb:=by have:=HRBB.out;omega
    have hne3:B+1≠g:=by omega
    have hne4:rb≠g:=by have:=HRBB.out;omega
    clear hwJ hrb hsz1 hLX cB q0 q1 q2 q3 q4 q5 q6 hBel
    go_loopw [6,7] (fun v6 v7 wr=>∃ k:Nat,v7 = .int .i64 k∧k≤bn∧Hid (InnI w0 (B+1) (B+1) rb (rcl r.bg r.en r.cu (.slice a1 a2 a3) (.slice k1 k2 k3) (.slice p1 p2 p3) (.slice b1 bn b3)) rv sv cv G.length S C R i r.res wr v6 k)) (fun _ v7 _=>bn - (intOf v7).toNat)
    case atStart=>exact ⟨0,rfl,by omega,HJ⟩
    case round=>
     clear HJ
     obtain ⟨k,rfl,hk,HJk⟩:=hrel
     have hk0:(0:Int)≤(k:Int):=by omega
     obtain ⟨gv1,G1,its,ob,cap,hov,hil2,him,hmem,hLX1,hown,hro,hBel1,hnr,hnb,hne,hGl⟩:=HJk.out
     subst hov
     have HLX1:Hid (LX wr (B+1) (B+1) nilS rv sv gv1 cv G1 S C R [] i):=hLX1
     have HOW:Hid (wr.ownsRow (B+1) 64 4 (.slice (some ⟨ob,0,none⟩) k cap) k (pcells its)):=hown
     have HRO:Hid (wr.heap[rb]? = some (rcl r.bg r.en r.cu (.slice a1 a2 a3) (.slice k1 k2 k3) (.slice p1 p2 p3) (.slice b1 bn b3))):=hro
     have HB1:Hid (Below (B+1) w0 wr):=hBel1
     have HNB:Hid (¬ Bs (B+1) rv sv gv1 cv G1 S C rb∧¬ Bs (B+1) rv sv gv1 cv G1 S C ob∧ob≠rb):=⟨hnr,hnb,hne⟩
     have HIT:Hid (its.length=k∧its.map Prod.fst=r.res.take k∧(∀ y∈its,(y.2,y.1.tl)∈G1)∧G1.length≤G.length+k):=⟨hil2,him,hmem,hGl⟩
     have d5:wr.cell? ⟨rb,5,none⟩=some (.slice b1 bn b3):=by rw [cell_of hro];rfl
     clear hLX1 hown hro hBel1 hnr hnb hne hil2 him hmem hGl HJk
     by_cases hltk:k<bn
     · have hltkI:(k:Int)<(bn:Int):=by omega
       have hkl:k<r.res.length:=by rw [HBN.out];exact hltk
       obtain ⟨hRR,_⟩:=HRV.out wr HB1.out
       obtain ⟨b1',b3',eb,_,hbr⟩:=hRR.r
       obtain ⟨bg,bo,hbb,hbr2⟩:=hbr.resolve_left (fun e=>by rw [e] at hkl;simp at hkl)
       injection eb with e1 e2 e3
       clear e2 e3
       rw [hbb] at e1
       subst e1
       obtain ⟨tv,t0,t1,t2,t3,hT⟩:=hbr2 k hkl
       have hTl:=HZr.out.sr _ (List.getElem_mem hkl)
       obtain ⟨p,hp⟩:∃ p,r.res[k]=p:=⟨_,rfl⟩
       have HPK:Hid (r.res.take (k+1)=r.res.take k++[p]):=by show _=_;rw [List.take_add_one,List.getElem?_eq_getElem hkl,hp];rfl
       rw [hp] at t0 t1 t2 hT hTl
       obtain ⟨tv1,tv2,tv3,rfl⟩:=hT.sl
       have HYB:Hid (∀ W:World,Grown wr W→Calls Tryz.prog 35 #[.pointer (some ⟨B+1,0,none⟩),.slice tv1 tv2 tv3] W fun e w'=>∃ v' gv',e = .returned (cut v')∧LX w' (B+1) (B+1) nilS rv sv gv' cv (G1++[(v',p.tl)]) S C R [] i∧Fr W w' (Bs (B+1) rv sv gv1 cv G1 S C)∧∀ b,Bs (B+1) rv sv gv' cv (G1++[(v',p.tl)]) S C b→Bs (B+1) rv sv gv1 cv G1 S C b∨W.heap.size≤b):=fun W hg=>set_lx (HLX1.out.grown hg) _ p.tl (hT.grown hg) (by omega) (by have:=HIT.out.2.2.2;omega)
       clear hRR hbr hbr2 hT hbb hp
       go_wp2_with (first
        | (go_at_call 35
           refine (HYB.out _ (by (repeat (first | exact Grown.refl _ | refine Grown.alloc ?_ _ | refine Grown.drew ?_ | refine Grown.drewN ?_ _ | refine Grown.quiet ?_ _ _)))).mono ?_
           rintro e w1 ⟨v1,gv2,rfl,hLX2,hFR1,hGR1⟩
           obtain ⟨yb,hyb⟩:∃ yb,wr.heap.size=yb:=⟨_,rfl⟩
           have hW1s:(wr.alloc (.cells #[.int .i64 p.k,.int .i64 p.u,.int .i64 p.y,.slice tv1 tv2 tv3] 64)).heap.size=yb+1:=by simp [hyb]
           have hblt:∀ b,Bs (B+1) rv sv gv1 cv G1 S C b→b<yb:=fun b hb=>by rw [←hyb];exact (HLX1.out.lt hb).2
           have hYB:w1.heap[yb]? = some (.cells #[.int .i64 p.k,.int .i64 p.u,.int .i64 p.y,.slice tv1 tv2 tv3] 64 (0,0)):=keep_blk hFR1 (new_blk hyb) fun hb=>by have:=hblt _ hb;omega
           have hFRw:Fr wr w1 (Bs (B+1) rv sv gv1 cv G1 S C):=(fr_grown ((Grown.refl wr).alloc _) _).trans hFR1 fun _ _ e=>e
           have hobl:=(World.ownsRow.lt HOW.out ob rfl).2
           have hnB:∀ b,b≤yb→¬ Bs (B+1) rv sv gv1 cv G1 S C b→¬ Bs (B+1) rv sv gv2 cv (G1++[(v1,p.tl)]) S C b:=fun b hb hn hb2=>by
            rcases hGR1 b hb2 with h | h
            · exact hn h
            · omega
           obtain ⟨vg,vc,hv1⟩:∃ g c,v1 = .slice (some ⟨g,0,none⟩) (p.tl.length+1) c:=by
            have:=hLX2.gi (v1,p.tl) (by simp)
            unfold OwnR at this
            rw [List.length_append] at this
            obtain ⟨g,c,e,_⟩:=fl_slice this
            exact ⟨g,c,e⟩
           obtain ⟨cv1,hcv1⟩:∃ cv1,cut v1=cv1:=⟨_,rfl⟩
           have hcf:cv1 = .slice (some ⟨vg,0,none⟩) p.tl.length vc:=by rw [←hcv1,hv1];rfl
           have hLX3:=hLX2.fr (fr_set w1 yb 3 cv1) fun b hb e=>by
            have e:b=yb:=e
            subst e
            exact hnB b (Nat.le_refl _) (fun hb=>by have:=hblt _ hb;omega) hb
           have HS:Hid (LX (w1.setCell ⟨yb,3,none⟩ cv1) (B+1) (B+1) nilS rv sv gv2 cv (G1++[(v1,p.tl)]) S C R [] i∧(w1.setCell ⟨yb,3,none⟩ cv1).ownsRow (B+1) 64 4 (.slice (some ⟨ob,0,none⟩) k cap) k (pcells its)∧(w1.setCell ⟨yb,3,none⟩ cv1).heap[rb]? = some (rcl r.bg r.en r.cu (.slice a1 a2 a3) (.slice k1 k2 k3) (.slice p1 p2 p3) (.slice (some ⟨bg,bo,none⟩) bn b3))∧Below (B+1) w0 (w1.setCell ⟨yb,3,none⟩ cv1)∧¬ Bs (B+1) rv sv gv2 cv (G1++[(v1,p.tl)]) S C rb∧¬ Bs (B+1) rv sv gv2 cv (G1++[(v1,p.tl)]) S C ob∧cut v1=cv1∧rb<(w1.setCell ⟨yb,3,none⟩ cv1).heap.size∧B+1≤(w1.setCell ⟨yb,3,none⟩ cv1).heap.size):=by
            have hrbl:=blk_lt HRO.out
            have h1:=own_fr HOW.out hFRw fun b e hb=>by injection e with e;have e:ob=b:=e;subst e;exact HNB.out.2.1 hb
            have h2:=keep_blk hFRw HRO.out HNB.out.1
            have hb1:Below (B+1) w0 w1:=HB1.out.trans (hFRw.below (fun b hb=>(HLX1.out.lt hb).1) (by have:=HB1.out.size;have:=HSZ.out;omega))
            have hyB:B+1≤yb:=by have:=HB1.out.size;have:=HSZ.out;omega
            refine ⟨hLX3,own_fr h1 (fr_set w1 yb 3 cv1) fun b e e2 => ?_,keep_blk (fr_set w1 yb 3 cv1) h2 (by omega),hb1.setCell hyB _,hnB _ (by omega) HNB.out.1,hnB _ (by omega) HNB.out.2.1,hcv1,?_,?_⟩
            · injection e with e;have e:ob=b:=e;omega
            · have:=blk_lt h2;simp;omega
            · have:=hb1.size;have:=HSZ.out;simp;omega
           have y0:w1.cell? ⟨yb,0,none⟩=some (.int .i64 p.k):=by rw [cell_of hYB];rfl
           have y1:w1.cell? ⟨yb,1,none⟩=some (.int .i64 p.u):=by rw [cell_of hYB];rfl
           have y2:w1.cell? ⟨yb,2,none⟩=some (.int .i64 p.y):=by rw [cell_of hYB];rfl
           have y3:w1.cell? ⟨yb,3,none⟩=some (.slice tv1 tv2 tv3):=by rw [cell_of hYB];rfl
           have yf:∀ j,w1.frozen? ⟨yb,j,none⟩=false:=fun j=>free_of hYB
           rw [hcv1]
           rw [hcf] at HS ⊢
           rw [hyb]
           clear hYB hFRw hobl hnB hv1 hcv1 hLX3 hLX2 hFR1 hGR1 hblt hW1s hcf hyb)
        | (at_builtin;go_must (first
           | (refine app_gen rfl _ _ 58 rfl 64 (.agg #[.int .i64 0,.int .i64 0,.int .i64 0,.slice none 0 0]) 4 48 Tryz.underlying58 inf66 rfl (by decide) (B+1) _ k (pcells its) rfl (World.ownsRow.alloc HS.out.2.1 _) _ _ [.int .i64 p.k,.int .i64 p.u,.int .i64 p.y,.slice (some ⟨vg,0,none⟩) p.tl.length vc] rfl rfl 64 (new_blk (by simp)) (by intro u hu;simp at hu;rcases hu with rfl | rfl | rfl | rfl <;> rfl) (by omega) (by omega) (by have:=HS.out.2.2.2.2.2.2.2.2;simp at this ⊢;omega) ?_
              intro g4 c4 w4 hO4 hF4 hg4
              have HO4:Hid (w4.ownsRow (B+1) 64 4 (.slice (some ⟨g4,0,none⟩) (k+1) c4) (k+1) (pcells its++[.int .i64 p.k,.int .i64 p.u,.int .i64 p.y,.slice (some ⟨vg,0,none⟩) p.tl.length vc])):=hO4
              have HF4:Hid (Fr (w1.setCell ⟨yb,3,none⟩ (.slice (some ⟨vg,0,none⟩) p.tl.length vc)) w4 fun j=>ob=j):=(fr_grown ((Grown.refl _).alloc _) _).trans hF4 fun _ _ e=>Option.some.inj e
              have HG4:Hid (ob=g4∨(w1.setCell ⟨yb,3,none⟩ (.slice (some ⟨vg,0,none⟩) p.tl.length vc)).heap.size≤g4):=hg4.elim (fun e => .inl (Option.some.inj e)) fun e => .inr (by rw [e];exact ((Grown.refl _).alloc _).size)
              clear hO4 hF4 hg4))))
       obtain ⟨s1,s2,s3,s4,s5,s6,s7,s8,s9⟩:=HS.out
       have hLX4:=s1.fr HF4.out fun b hb e=>s6 (by have e:ob=b:=e;rw [e];exact hb)
       refine ⟨⟨k+1,by go_num,by omega,gv2,G1++[(v1,p.tl)],its++[(p,v1)],g4,c4,rfl,by simp [HIT.out.1],?_,?_,hLX4,?_,keep_blk HF4.out s3 HNB.out.2.2,s4.trans (HF4.out.below (fun b e => ?_) s9),s5,?_,?_,?_⟩,by simp [intOf];omega⟩
       · rw [List.map_append,HIT.out.2.1,HPK.out];rfl
       · intro y hy
         rcases List.mem_append.1 hy with hy | hy
         · exact List.mem_append_left _ (HIT.out.2.2.1 y hy)
         · simp at hy;subst hy;simp
       · have:=HO4.out
         rw [pcells_append]
         have e:pcells [(p,v1)]=[.int .i64 p.k,.int .i64 p.u,.int .i64 p.y,.slice (some ⟨vg,0,none⟩) p.tl.length vc]:=by simp [pcells,s7]
         rw [e]
         exact this
       · have e:ob=b:=e
         rw [←e]
         exact (World.ownsRow.lt HOW.out ob rfl).1
       · intro hb
         rcases HG4.out with e | e
         · rw [←e] at hb;exact s6 hb
         · have:=(s1.lt hb).2;omega
       · rcases HG4.out with e | e
         · rw [←e];exact HNB.out.2.2
         · omega
       · have:=HIT.out.2.2.2
         simp only [List.length_append,List.length_cons,List.length_nil]
         omega
     · have hgek:¬ (k:Int)<(bn:Int):=by omega
       have HIE:Hid (its.length=bn∧its.map Prod.fst=r.res∧(∀ y∈its,(y.2,y.1.tl)∈G1)∧G1.length≤G.length+bn):=by
        have hkn:k=bn:=by omega
        refine ⟨by rw [HIT.out.1];exact hkn,by rw [HIT.out.2.1,hkn,←HBN.out,List.take_length],HIT.out.2.2.1,by have:=HIT.out.2.2.2;omega⟩
       have HKB:Hid (k=bn):=by show _=_;omega
       go_wp2_with (at_builtin;go_must (first
        | (refine app_gen rfl _ _ 58 rfl 64 (.agg #[.int .i64 0,.int .i64 0,.int .i64 0,.slice none 0 0]) 4 48 Tryz.underlying58 inf66 rfl (by decide) (B+1) _ k (pcells its) rfl (World.ownsRow.alloc HOW.out _) _ _ pend rfl rfl 64 (heap_alloc_new _ _) (by intro u hu;simp [pend] at hu;rcases hu with rfl | rfl | rfl | rfl <;> rfl) (by omega) (by omega) (by have:=HB1.out.size;have:=HSZ.out;simp;omega) ?_
           intro g4 c4 w4 hO4 hF4 hg4
           have HO4:Hid (w4.ownsRow (B+1) 64 4 (.slice (some ⟨g4,0,none⟩) (k+1) c4) (k+1) (pcells its++pend)):=hO4
           have HF4:Hid (Fr wr w4 fun j=>ob=j):=(fr_grown ((Grown.refl _).alloc _) _).trans hF4 fun _ _ e=>Option.some.inj e
           have HG4:Hid (ob=g4∨wr.heap.size≤g4):=hg4.elim (fun e => .inl (Option.some.inj e)) fun e => .inr (by rw [e];exact ((Grown.refl _).alloc _).size)
           have HX4:Hid (LX w4 (B+1) (B+1) nilS rv sv gv1 cv G1 S C R [] i):=HLX1.out.fr HF4.out fun b hb e=>HNB.out.2.1 (by have e:ob=b:=e;rw [e];exact hb)
           have e4:w4.cell? ⟨B+1,4,none⟩=some cv:=by rw [cell_of HX4.out.x];rfl
           have HB4:Hid (Below (B+1) w0 w4∧w4.heap[rb]? = some (rcl r.bg r.en r.cu (.slice a1 a2 a3) (.slice k1 k2 k3) (.slice p1 p2 p3) (.slice b1 bn b3))∧ob≠rb∧B+1≤w4.heap.size):=by
            have hb4:=HF4.out.below (base:=B+1) (fun b e=>by have e:ob=b:=e;rw [←e];exact (World.ownsRow.lt HOW.out ob rfl).1) (by have:=HB1.out.size;have:=HSZ.out;omega)
            exact ⟨HB1.out.trans hb4,keep_blk HF4.out HRO.out HNB.out.2.2,HNB.out.2.2,by have:=HB1.out.size;have:=HSZ.out;have:=hb4.size;omega⟩
           have hcc:k+1≤c4:=by
            rcases hO4.2 with ⟨e,_⟩ | ⟨_,_,_,e,_,_,h2,_⟩
            · cases e
            · injection e with _ _ e;omega
           clear hO4 hF4 hg4 d5)
        | (refine app_gen rfl _ _ 35 rfl 58 (.slice none 0 0) 1 24 Tryz.underlying35 inf52 rfl (by decide) (B+1) _ C.length (C.map Prod.fst) rfl (HX4.out.grown ((Grown.refl _).alloc _)).c w4.heap.size _ [.slice (some ⟨g4,0,none⟩) (k+1) c4] rfl rfl 58 (heap_alloc_new _ _) (by intro u hu;simp at hu;subst hu;rfl) (by omega) (by omega) (by have:=HB4.out.2.2.2;simp;omega) ?_
           intro g5 c5 w5 hO5 hF5 hg5
           have hF5:Fr w4 w5 fun j=>cv.ownBlock=some j:=(fr_grown ((Grown.refl w4).alloc _) _).trans hF5 fun _ _ e=>e
           have hg5:cv.ownBlock=some g5∨w4.heap.size≤g5:=hg5.elim .inl fun e => .inr (by rw [e];exact ((Grown.refl w4).alloc _).size)
           have hx5:w5.heap[B+1]? = some (.cells #[nilS,rv,sv,gv1,cv] 37 (0,0)):=(hF5.block _ (blk_lt HX4.out.x) (HX4.out.x_ne HX4.out.c (by decide))).trans HX4.out.x
           have hob5:¬ Bs (B+1) rv sv gv1 cv G1 S C g4:=fun hb=>by
            rcases HG4.out with e | e
            · rw [←e] at hb;exact HNB.out.2.1 hb
            · have:=(HLX1.out.lt hb).2;omega
           have hkbn:=HKB.out
           have hO4':=HO4.out
           rw [show k+1=its.length+1 by rw [HIT.out.1]] at hO4'
           have hrbl:=blk_lt HRO.out
           obtain ⟨hp1,hp2,hp3⟩:=HX4.out.pushC (cv' := .slice (some ⟨g5,0,none⟩) (C.length+1) c5) hO4' HIE.out.2.2.1 (fun b e hb=>hob5 (by rw [show g4=b from Option.some.inj e];exact hb)) hF5 (by rw [show its.length+1=k+1 by rw [HIT.out.1]];exact hO5) (hg5.elim (fun e => .inl e.symm) fun e => .inr ⟨g5,rfl,e⟩)
           rw [show its.length+1=k+1 by rw [HIT.out.1]] at hp1 hp3
           have hg4rb:g4≠rb:=by
            rcases HG4.out with e | e
            · rw [←e];exact HNB.out.2.2
            · omega
           have hstg:STG w0 B rb i rv (.slice (some ⟨g5,0,none⟩) (C.length+1) c5) (C++[(.slice (some ⟨g4,0,none⟩) (k+1) c4,its)]) R (rcl r.bg r.en r.cu (.slice a1 a2 a3) (.slice k1 k2 k3) (.slice p1 p2 p3) (.slice b1 bn b3)) (w5.setCell ⟨B+1,4,none⟩ (.slice (some ⟨g5,0,none⟩) (C.length+1) c5)) gv1 sv G1 S:=by
            refine ⟨hp1,HB4.out.1.trans (hp2.below (fun b hb=>(HX4.out.lt hb).1) HB4.out.2.2.2),keep_blk hp2 HB4.out.2.1 HNB.out.1,fun hb => ?_,HRBB.out,HSZ.out⟩
            rcases hp3 rb hb with h | h | h
            · exact HNB.out.1 h
            · have:=HF4.out.size;omega
            · exact hg4rb (Option.some.inj h)
           have hrb5:=keep_blk (hF5.mono fun _ _ e=>e) HB4.out.2.1 fun e=>HNB.out.1 (by simp [Bs,e])
           have z5:w5.cell? ⟨rb,5,none⟩=some (.slice b1 bn b3):=by rw [cell_of hrb5];rfl
           have z5f:∀ j,w5.frozen? ⟨rb,j,none⟩=false:=fun j=>free_of hrb5
           have e5:w5.cell? ⟨B+1,4,none⟩=some cv:=by rw [cell_of hx5];rfl
           have f5:w5.frozen? ⟨B+1,4,none⟩=false:=free_of hx5
           have HSTG:=Hid.mk' (hstg.set 5 (.slice (some ⟨g4,0,none⟩) k c4))
           have hk1I:(k:Int)+1≤1048577:=by omega
           have hkc:(k:Int)≤(c4:Int):=by omega
           have hkc2:k≤c4:=by omega
           have hBE5:Below (B+1) w0 w5:=HB4.out.1.trans (hF5.below (fun b e=>(World.ownsRow.lt HX4.out.c b e).1) HB4.out.2.2.2)
           have u0:w5.cell? ⟨B,0,none⟩=some (.slice (some ⟨g,o,none⟩) n rc):=by rw [cell_of (HW0.out _ hBE5).2];rfl
           obtain ⟨_,_,u1,_⟩:=HRV.out _ hBE5
           clear hO5 hF5 hg5 hx5 hob5 hkbn hO4' hrbl hp1 hp2 hp3 hg4rb hstg hrb5 hBE5)))
       clear u0 u1 e4 e5 f5 z5 z5f
       have HT7:=Hid.mk' (HSTG.out.row (.slice a1 a2 a3) r.ante (fun V hb=>(HRV.out V hb).1.a) (fun l hl=>by have:=HZr.out.sa l hl;omega) (by have:=HZr.out.na;omega) (by have:=HZr.out.na;have:=HIE.out.2.2.2;skip;omega) (by skip;omega))
       refine HT7.out.mono ?_
       rintro e w7 ⟨vg7,vc7,gv7,sv7,its7,rfl,hs7,hm7⟩
       clear HT7
       have HS7:=Hid.mk' hs7
       have HM7:=Hid.mk' hm7
       have zf7:∀ j,w7.frozen? ⟨rb,j,none⟩=false:=fun j=>free_of hs7.2.2.1
       have u07:w7.cell? ⟨B,0,none⟩=some (.slice (some ⟨g,o,none⟩) n rc):=by rw [cell_of (HW0.out _ hs7.2.1).2];rfl
       obtain ⟨_,_,x17,x27,x37,_⟩:=HRV.out _ hs7.2.1
       have z17:w7.cell? ⟨rb,1,none⟩=some (.slice a1 a2 a3):=by rw [cell_of hs7.2.2.1];rfl
       obtain ⟨l7,hl7⟩:∃ l7,r.ante.length=l7:=⟨_,rfl⟩
       have HL7:=Hid.mk' hl7
       rw [hl7]
       clear hs7 hm7 hl7
       go_wp2_with fail
       have hZ7:=HZr.out.na
       have HT8:=Hid.mk' ((HS7.out.set 1 (.slice (some ⟨vg7,0,none⟩) l7 vc7)).row (.slice k1 k2 k3) r.key (fun V hb=>(HRV.out V hb).1.k) (fun l hl=>by have:=HZr.out.sk l hl;omega) (by have:=HZr.out.nk;omega) (by have:=HZr.out.nk;have:=HIE.out.2.2.2;have:=congrArg List.length HM7.out;have:=HZr.out.na;simp only [List.length_append,List.length_map] at *;omega) (by simp only [List.length_append,List.length_cons,List.length_nil];omega))
       refine HT8.out.mono ?_
       rintro e w8 ⟨vg8,vc8,gv8,sv8,its8,rfl,hs8,hm8⟩
       clear HT8
       have HS8:=Hid.mk' hs8
       have HM8:=Hid.mk' hm8
       have zf8:∀ j,w8.frozen? ⟨rb,j,none⟩=false:=fun j=>free_of hs8.2.2.1
       have u08:w8.cell? ⟨B,0,none⟩=some (.slice (some ⟨g,o,none⟩) n rc):=by rw [cell_of (HW0.out _ hs8.2.1).2];rfl
       obtain ⟨_,_,x18,x28,x38,_⟩:=HRV.out _ hs8.2.1
       have z28:w8.cell? ⟨rb,2,none⟩=some (.slice k1 k2 k3):=by rw [cell_of hs8.2.2.1];rfl
       obtain ⟨l8,hl8⟩:∃ l8,r.key.length=l8:=⟨_,rfl⟩
       have HL8:=Hid.mk' hl8
       rw [hl8]
       clear hs8 hm8 hl8
       go_wp2_with fail
       have HT9:=Hid.mk' ((HS8.out.set 2 (.slice (some ⟨vg8,0,none⟩) l8 vc8)).row (.slice p1 p2 p3) r.post (fun V hb=>(HRV.out V hb).1.p) (fun l hl=>by have:=HZr.out.sp l hl;omega) (by have:=HZr.out.np;omega) (by have:=HZr.out.np;have:=HIE.out.2.2.2;have:=congrArg List.length HM7.out;have:=congrArg List.length HM8.out;have:=HZr.out.na;have:=HZr.out.nk;simp only [List.length_append,List.length_map] at *;omega) (by simp only [List.length_append,List.length_cons,List.length_nil];omega))
       refine HT9.out.mono ?_
       rintro e w9 ⟨vg9,vc9,gv9,sv9,its9,rfl,hs9,hm9⟩
       clear HT9
       have HS9:=Hid.mk' hs9
       have HM9:=Hid.mk' hm9
       have zf9:∀ j,w9.frozen? ⟨rb,j,none⟩=false:=fun j=>free_of hs9.2.2.1
       have u09:w9.cell? ⟨B,0,none⟩=some (.slice (some ⟨g,o,none⟩) n rc):=by rw [cell_of (HW0.out _ hs9.2.1).2];rfl
       obtain ⟨_,_,x19,x29,x39,_⟩:=HRV.out _ hs9.2.1
       have z39:w9.cell? ⟨rb,3,none⟩=some (.slice p1 p2 p3):=by rw [cell_of hs9.2.2.1];rfl
       obtain ⟨l9,hl9⟩:∃ l9,r.post.length=l9:=⟨_,rfl⟩
       have HL9:=Hid.mk' hl9
       rw [hl9]
       have HS10:=Hid.mk' (hs9.set 3 (.slice (some ⟨vg9,0,none⟩) l9 vc9))
       clear hs9 hm9 hl9
       go_wp2_with fail
       obtain ⟨w10,hw10⟩:∃ w10,w10=w9.setCell ⟨rb,3,none⟩ (.slice (some ⟨vg9,0,none⟩) l9 vc9):=⟨_,rfl⟩
       rw [←hw10] at HS10 ⊢
       obtain ⟨LX10,BE10,RB10,NB10,_,_⟩:=HS10.out
       have m0:w10.cell? ⟨rb,0,none⟩=some (.bool r.bg):=by rw [cell_of RB10];rfl
       have m1:w10.cell? ⟨rb,1,none⟩=some (.slice (some ⟨vg7,0,none⟩) l7 vc7):=by rw [cell_of RB10];rfl
       have m2:w10.cell? ⟨rb,2,none⟩=some (.slice (some ⟨vg8,0,none⟩) l8 vc8):=by rw [cell_of RB10];rfl
       have m3:w10.cell? ⟨rb,3,none⟩=some (.slice (some ⟨vg9,0,none⟩) l9 vc9):=by rw [cell_of RB10];rfl
       have m4:w10.cell? ⟨rb,4,none⟩=some (.bool r.en):=by rw [cell_of RB10];rfl
       have m5:w10.cell? ⟨rb,5,none⟩=some (.slice (some ⟨g4,0,none⟩) k c4):=by rw [cell_of RB10];rfl
       have m6:w10.cell? ⟨rb,6,none⟩=some (.int .i64 r.cu):=by rw [cell_of RB10];rfl
       have m7:w10.cell? ⟨B+1,1,none⟩=some rv:=by rw [cell_of LX10.x];rfl
       have m7':∀ ob,(w10.alloc ob).cell? ⟨B+1,1,none⟩=some rv:=fun ob=>cell_up m7 ob
       have HON:Hid (∀ V,Grown w10 V→V.ownsRow (B+1) 60 7 rv i (rucells R)∧B+1≤V.heap.size):=fun V hg=>⟨by have:=(LX10.grown hg).r;simpa using this,by have:=(LX10.grown hg).lt (b:=B+1) (.inl rfl);omega⟩
       have HFIN:Hid (∀ V w11 g11 c11,Grown w10 V→V.grownBy w11 rv.ownBlock→w11.ownsRow (B+1) 60 7 (.slice (some ⟨g11,0,none⟩) (i+1) c11) (i+1) (rucells R++[.bool r.bg,.slice (some ⟨vg7,0,none⟩) l7 vc7,.slice (some ⟨vg8,0,none⟩) l8 vc8,.slice (some ⟨vg9,0,none⟩) l9 vc9,.bool r.en,.slice (some ⟨g4,0,none⟩) k c4,.int .i64 r.cu])→(rv.ownBlock=some g11∨g11=V.heap.size)→(w11.cell? ⟨B+1,1,none⟩=some rv∧w11.frozen? ⟨B+1,1,none⟩=false)∧LenI w0 (B+1) (B+1) rs (w11.setCell ⟨B+1,1,none⟩ (.slice (some ⟨g11,0,none⟩) (i+1) c11)) (i+1)):=fun V w11 g11 c11 hg hgr hown hor=>by
        have hV:=LX10.grown hg
        have hx11:w11.heap[B+1]? = some (.cells #[nilS,rv,sv9,gv9,.slice (some ⟨g5,0,none⟩) (C.length+1) c5] 37 (0,0)):=keep_blk (fr_by hgr) hV.x (hV.x_ne hV.r (by decide))
        obtain ⟨hp1,hp2,_⟩:=hV.pushR (R':=R++[⟨r.bg,r.en,r.cu,(.slice (some ⟨vg7,0,none⟩) (r.ante.length+1) vc7,its7),(.slice (some ⟨vg8,0,none⟩) (r.key.length+1) vc8,its8),(.slice (some ⟨vg9,0,none⟩) (r.post.length+1) vc9,its9),(.slice (some ⟨g4,0,none⟩) (k+1) c4,its)⟩]) (re':=[]) (rv' := .slice (some ⟨g11,0,none⟩) (i+1) c11) (fun ρ hρ=>by
         rcases List.mem_append.1 hρ with hρ | hρ
         · exact hV.ri ρ hρ
         · simp at hρ;subst hρ;simp) (fr_by hgr) (by
           rw [List.append_nil,rucells_append]
           have e:rucells [(⟨r.bg,r.en,r.cu,(.slice (some ⟨vg7,0,none⟩) (r.ante.length+1) vc7,its7),(.slice (some ⟨vg8,0,none⟩) (r.key.length+1) vc8,its8),(.slice (some ⟨vg9,0,none⟩) (r.post.length+1) vc9,its9),(.slice (some ⟨g4,0,none⟩) (k+1) c4,its)⟩:LRu)]=[.bool r.bg,.slice (some ⟨vg7,0,none⟩) l7 vc7,.slice (some ⟨vg8,0,none⟩) l8 vc8,.slice (some ⟨vg9,0,none⟩) l9 vc9,.bool r.en,.slice (some ⟨g4,0,none⟩) k c4,.int .i64 r.cu]:=by
            have h7:=HL7.out;have h8:=HL8.out;have h9:=HL9.out
            simp [rucells,LRu.cells,cut,h7,h8,h9]
           rw [e];exact hown) (hor.elim (fun e => .inl e.symm) fun e => .inr ⟨g11,rfl,by omega⟩)
        have hBV:Below (B+1) w0 V:=BE10.trans (hg.below.mono (by have:=BE10.size;have:=HSZ.out;omega))
        have y7:=congrArg List.length HM7.out
        have y8:=congrArg List.length HM8.out
        have y9:=congrArg List.length HM9.out
        have z7:=HZr.out.na
        have z8:=HZr.out.nk
        have z9:=HZr.out.np
        have y1:=HIE.out.2.2.2
        simp only [List.length_map] at y7 y8 y9
        refine ⟨⟨by rw [cell_of hx11];rfl,free_of hx11⟩,_,_,_,_,_,_,_,_,hp1,?_,by simp [HRM.out.2],hBV.trans (hp2.below (fun b hb=>(hV.lt hb).1) (by have:=hBV.size;have:=HSZ.out;omega)),?_,?_,?_⟩
        · rw [List.map_append,HRM.out.1,List.take_add_one,HRI.out]
          have e:List.map LRu.rl [(⟨r.bg,r.en,r.cu,(.slice (some ⟨vg7,0,none⟩) (r.ante.length+1) vc7,its7),(.slice (some ⟨vg8,0,none⟩) (r.key.length+1) vc8,its8),(.slice (some ⟨vg9,0,none⟩) (r.post.length+1) vc9,its9),(.slice (some ⟨g4,0,none⟩) (k+1) c4,its)⟩:LRu)]=[r]:=by
           simp only [List.map_cons,List.map_nil,LRu.rl,HM7.out,HM8.out,HM9.out,HIE.out.2.1]
          rw [e]
          rfl
        · simp only [List.length_append];omega
        · simp only [List.length_append,List.length_cons,List.length_nil];omega
        · simp only [List.length_append,List.length_cons,List.length_nil];omega
       clear LX10 BE10 RB10 NB10 hw10 HS10 HS9 HS8 HS7 HSTG z39 z28 z17 zf7 zf8 zf9 u07 u08 u09 x17 x27 x37 x18 x28 x38 x19 x29 x39 HX4 HO4 HF4 HG4 HB4 HIE HIT HKB
       obtain ⟨i0,hi9,hz0,hz1,hz2⟩:=info_parts inf54
       go_region_law (refine step_append_lies _ rfl (.tmp 96) (.tmp 98) 22 rfl (B+1) 60 i0 (.agg #[.bool false,.slice none 0 0,.slice none 0 0,.slice none 0 0,.bool false,.slice none 0 0,.int .i64 0]) 7 120 Tryz.underlying22 hi9 hz0 hz1 hz2 rfl (by decide) rv i (rucells R) rfl (HON.out _ (by (repeat (first | exact Grown.refl _ | refine Grown.alloc ?_ _ | refine Grown.drew ?_ | refine Grown.drewN ?_ _ | refine Grown.quiet ?_ _ _)))).1 ⟨_,0,none⟩ 1 1 [.bool r.bg,.slice (some ⟨vg7,0,none⟩) l7 vc7,.slice (some ⟨vg8,0,none⟩) l8 vc8,.slice (some ⟨vg9,0,none⟩) l9 vc9,.bool r.en,.slice (some ⟨g4,0,none⟩) k c4,.int .i64 r.cu] rfl rfl (fun j u hj=>by rw [add_zero_at];first | (rw [cell_of (heap_alloc_new _ _)];simpa using hj) | (show (World.alloc _ _).cell? _=_;rw [cell_of (heap_alloc_new _ _)];simpa using hj)) (fun u hu=>by simp at hu;rcases hu with rfl | rfl | rfl | rfl | rfl | rfl | rfl <;> rfl) (by omega) (by unfold maxLen;omega) (by omega) (HON.out _ (by (repeat (first | exact Grown.refl _ | refine Grown.alloc ?_ _ | refine Grown.drew ?_ | refine Grown.drewN ?_ _ | refine Grown.quiet ?_ _ _)))).2 _ rfl ?_;intro g11 c11 w11 hown hgr hor _;obtain ⟨⟨f3,ff⟩,hfin⟩:=HFIN.out _ w11 g11 c11 (by (repeat (first | exact Grown.refl _ | refine Grown.alloc ?_ _ | refine Grown.drew ?_ | refine Grown.drewN ?_ _ | refine Grown.quiet ?_ _ _))) hgr hown hor;have HFF:=Hid.mk' hfin;clear hfin hown hgr hor)
       all_goals (go_wp2;exact ⟨⟨i+1,by go_num,by omega,HFF⟩,by simp [intOf];omega⟩)
  · have hge:¬ (i:Int)<(n:Int):=by omega
    have HIN:Hid (i=n):=by show _=_;omega
    have e1:wr.cell? ⟨B+1,1,none⟩=some rv:=by rw [cell_of hLX.x];rfl
    go_wp2_with (at_builtin;go_must (refine app_gen rfl _ _ 22 rfl 60 (.agg #[.bool false,.slice none 0 0,.slice none 0 0,.slice none 0 0,.bool false,.slice none 0 0,.int .i64 0]) 7 120 Tryz.underlying22 inf54 rfl (by decide) (B+1) _ i (rucells R++[]) rfl (HLX.out.grown ((Grown.refl _).alloc _)).r _ _ [.bool false,.slice none 0 0,.slice none 0 0,.slice none 0 0,.bool false,.slice none 0 0,.int .i64 (-77)] rfl rfl 60 (heap_alloc_new _ _) (by intro u hu;simp only [List.mem_cons,List.not_mem_nil,or_false] at hu;rcases hu with rfl | rfl | rfl | rfl | rfl | rfl | rfl <;> rfl) (by omega) (by omega) (by have:=HBE.out.size;have:=HSZ.out;simp;omega) ?_
                                     intro g4 c4 w4 hO4 hF4 hg4
                                     have hF4:Fr wr w4 fun j=>rv.ownBlock=some j:=(fr_grown ((Grown.refl _).alloc _) _).trans hF4 fun _ _ e=>e
                                     have hg4:rv.ownBlock=some g4∨wr.heap.size≤g4:=hg4.elim .inl fun e => .inr (by rw [e];exact ((Grown.refl _).alloc _).size)
                                     obtain ⟨hp1,hp2,_⟩:=HLX.out.pushR (R':=R) (re':=[.bool false,.slice none 0 0,.slice none 0 0,.slice none 0 0,.bool false,.slice none 0 0,.int .i64 (-77)]) (rv' := .slice (some ⟨g4,0,none⟩) (i+1) c4) HLX.out.ri hF4 (by rw [List.append_nil] at hO4;exact hO4) (hg4.elim (fun e => .inl e.symm) fun e => .inr ⟨g4,rfl,e⟩)
                                     have hx4:w4.heap[B+1]? = some (.cells #[nilS,rv,sv,gv,cv] 37 (0,0)):=keep_blk hF4 HLX.out.x (HLX.out.x_ne HLX.out.r (by decide))
                                     have HX5:=Hid.mk' hp1
                                     have hb5:Below (B+1) w0 (w4.setCell ⟨B+1,1,none⟩ (.slice (some ⟨g4,0,none⟩) (i+1) c4)):=HBE.out.trans (hp2.below (fun b hb=>(HLX.out.lt hb).1) (by have:=HBE.out.size;have:=HSZ.out;omega))
                                     have HB5:=Hid.mk' hb5
                                     have e4:w4.cell? ⟨B+1,1,none⟩=some rv:=by rw [cell_of hx4];rfl
                                     have f4:∀ j,w4.frozen? ⟨B+1,j,none⟩=false:=fun j=>free_of hx4
                                     have hcc:i+1≤c4:=by
                                      rcases hO4.2 with ⟨e,_⟩ | ⟨_,_,_,e,_,_,h2,_⟩
                                      · cases e
                                      · injection e with _ _ e;omega
                                     clear hO4 hF4 hg4 hp1 hp2 hx4 hb5))
    have hin:=HIN.out
    clear HIN
    subst hin
    obtain ⟨W5,hW5⟩:∃ W5,W5=w4.setCell ⟨B+1,1,none⟩ (.slice (some ⟨g4,0,none⟩) (i+1) c4):=⟨_,rfl⟩
    rw [←hW5] at HX5 HB5 ⊢
    have k0:W5.cell? ⟨B+1,0,none⟩=some (.slice none 0 0):=by rw [cell_of HX5.out.x];rfl
    have k1:W5.cell? ⟨B+1,1,none⟩=some (.slice (some ⟨g4,0,none⟩) (i+1) c4):=by rw [cell_of HX5.out.x];rfl
    have k2:W5.cell? ⟨B,0,none⟩=some (.slice ra i rc):=by rw [cell_of (HW0.out _ HB5.out).2];rfl
    have kf:∀ j,W5.frozen? ⟨B+1,j,none⟩=false:=fun j=>free_of HX5.out.x
    have hci:(i:Int)≤(c4:Int):=by omega
    have hcn:i≤c4:=by omega
    clear hW5 e4 f4 cB e1 hLX hBel HLX HBE
    go_region
    all_goals (go_wp2;go_ret;exact ⟨B+1,B+1,_,_,_,_,_,_,_,R,g4,c4,(by have:=HBS.out;omega),rfl,rfl,(HX5.out.setP _).grown ((Grown.refl _).drew),(by have:=HRM.out.1;rw [←HN.out,List.take_length] at this;exact this),(((HW0.out _ HB5.out).1.setCell (by show _≤B+1;have:=HBS.out;omega) _).drew)⟩)
theorem neq84 (a b:Int) (W:World):(binOp .neq 67 (.agg #[.int .i64 a,.int .i64 b]) (.agg #[.int .i64 a,.int .i64 b])).run Tryz.prog W = .ok (.bool false) W:=by
 go_simp
theorem rs_at {w:World} {a:Option Addr} {n c:Nat} {l:List (Int × Int)} (h:Rs w (.slice a n c) l) {j:Nat} (hj:j<l.length):∃ g o,a=some ⟨g,o,none⟩∧w.cell? ⟨g,o+j*2,none⟩=some (.int .i64 (rg l j).1)∧w.cell? ⟨g,o+j*2+1,none⟩=some (.int .i64 (rg l j).2):=by
 obtain ⟨a',c',e,_,h⟩:=h
 injection e with e1 _ _
 subst e1
 obtain ⟨g,o,e,h⟩:=h.resolve_left fun e=>by rw [e] at hj;simp at hj
 exact ⟨g,o,e,h j hj⟩
set_option maxHeartbeats 4000000 in
theorem sameSet_eq (av bv:Value) (l:List (Int × Int)) (w:World) (ha:Rs w av l) (hb:Rs w bv l) (hn:l.length≤1099511627776):Calls Tryz.prog 19 #[av,bv] w fun e w'=>e = .returned (.bool true)∧Grown w w':=by
 have he:=neq84
 have HA:Hid (Rs w av l):=ha
 have HB:Hid (Rs w bv l):=hb
 obtain ⟨a1,a3,e1,_,_⟩:=ha
 obtain ⟨b1,b3,e2,_,_⟩:=hb
 obtain ⟨n,hN⟩:∃ n,l.length=n:=⟨_,rfl⟩
 have HN:Hid (l.length=n):=hN
 rw [hN] at e1 e2 hn
 subst e1 e2
 have hnI:(n:Int)≤1099511627776:=by omega
 clear hN
 go_enter Tryz.func19,Tryz.ntmps19
 go_wp2
 go_loopw [5] (fun vi wr=>∃ k:Nat,vi = .int .i64 k∧k≤n∧Grown w wr) (fun vi _=>n - (intOf vi).toNat)
 case atStart=>exact ⟨0,rfl,by omega,Grown.refl _⟩
 case round=>
  obtain ⟨k,rfl,hk,hG⟩:=hrel
  have hk0:(0:Int)≤(k:Int):=by omega
  by_cases hlt:k<n
  · have hltI:(k:Int)<(n:Int):=by omega
    have hkl:k<l.length:=by rw [HN.out];exact hlt
    obtain ⟨g,o,e1,c1,c2⟩:=rs_at (HA.out.grown hG) hkl
    obtain ⟨g',o',e2,d1,d2⟩:=rs_at (HB.out.grown hG) hkl
    subst e1 e2
    generalize (rg l k).1=x at c1 d1
    generalize (rg l k).2=y at c2 d2
    have k1:=fun m os=>((Grown.refl wr).quiet m os).cellv c1
    have k2:=fun m os=>((Grown.refl wr).quiet m os).cellv c2
    have k3:=fun m os=>((Grown.refl wr).quiet m os).cellv d1
    have k4:=fun m os=>((Grown.refl wr).quiet m os).cellv d2
    go_wp2
    refine wp_region_quiet_grown mixed (by kernel_rfl) ?_
    repeat (go_big_quiet_step (fail))
    refine wpQuiet_nil ?_
    intro _ hw'
    obtain ⟨⟨nq,osq⟩,hw''⟩:=hw'
    subst hw''
    go_wp2
    exact ⟨⟨k+1,by go_num,by omega,hG.trans ((Grown.refl wr).quiet _ _)⟩,by simp [intOf];omega⟩
  · have hge:¬ (k:Int)<(n:Int):=by omega
    go_wp2
    go_ret
    exact ⟨rfl,hG⟩
theorem sr_at {w:World} {a:Option Addr} {n c:Nat} {ls:List (List (Int × Int))} (h:SR w (.slice a n c) ls) {j:Nat} (hj:j<ls.length):∃ g o sv,a=some ⟨g,o,none⟩∧w.cell? ⟨g,o+j,none⟩=some sv∧Rs w sv ls[j]:=by
 obtain ⟨a',c',e,_,h⟩:=h
 injection e with e1 _ _
 subst e1
 obtain ⟨g,o,e,h⟩:=h.resolve_left fun e=>by rw [e] at hj;simp at hj
 obtain ⟨sv,h1,h2⟩:=h j hj
 exact ⟨g,o,sv,e,h1,h2⟩
set_option maxHeartbeats 4000000 in
theorem sameSets_eq (av bv:Value) (ls:List (List (Int × Int))) (w:World) (ha:SR w av ls) (hb:SR w bv ls) (hn:ls.length≤1099511627776) (hl:∀ l∈ls,l.length≤1099511627776):Calls Tryz.prog 78 #[av,bv] w fun e w'=>e = .returned (.bool true)∧Grown w w':=by
 have HA:Hid (SR w av ls):=ha
 have HB:Hid (SR w bv ls):=hb
 have HL:Hid (∀ l∈ls,l.length≤1099511627776):=hl
 obtain ⟨a1,a3,e1,_,_⟩:=ha
 obtain ⟨b1,b3,e2,_,_⟩:=hb
 obtain ⟨n,hN⟩:∃ n,ls.length=n:=⟨_,rfl⟩
 have HN:Hid (ls.length=n):=hN
 rw [hN] at e1 e2 hn
 subst e1 e2
 have hnI:(n:Int)≤1099511627776:=by omega
 clear hN hl
 go_enter Tryz.func78,Tryz.ntmps78
 go_wp2
 go_loopw [5] (fun vi wr=>∃ k:Nat,vi = .int .i64 k∧k≤n∧Grown w wr) (fun vi _=>n - (intOf vi).toNat)
 case atStart=>exact ⟨0,rfl,by omega,Grown.refl _⟩
 case round=>
  obtain ⟨k,rfl,hk,hG⟩:=hrel
  have hk0:(0:Int)≤(k:Int):=by omega
  by_cases hlt:k<n
  · have hltI:(k:Int)<(n:Int):=by omega
    have hkl:k<ls.length:=by rw [HN.out];exact hlt
    obtain ⟨g,o,xv,e1,c1,hx⟩:=sr_at (HA.out.grown hG) hkl
    obtain ⟨g',o',yv,e2,d1,hy⟩:=sr_at (HB.out.grown hG) hkl
    subst e1 e2
    obtain ⟨x1,x2,x3,rfl⟩:=hx.sl
    obtain ⟨y1,y2,y3,rfl⟩:=hy.sl
    have HC:Hid (∀ m os,Calls Tryz.prog 19 #[.slice x1 x2 x3,.slice y1 y2 y3] (Go.Sort.grow (wr.drewN m) os) fun e w'=>e = .returned (.bool true)∧Grown (Go.Sort.grow (wr.drewN m) os) w'):=fun m os=>sameSet_eq _ _ _ _ (hx.grown ((Grown.refl wr).quiet m os)) (hy.grown ((Grown.refl wr).quiet m os)) (HL.out _ (List.getElem_mem hkl))
    have k1:=fun m os=>((Grown.refl wr).quiet m os).cellv c1
    have k3:=fun m os=>((Grown.refl wr).quiet m os).cellv d1
    clear hx hy
    go_wp2
    refine wp_region_quiet_grown mixed (by kernel_rfl) ?_
    repeat (go_big_quiet_step ((go_at_call 19;exact grown_of (HC.out _ _))))
    refine wpQuiet_nil ?_
    intro _ hw'
    obtain ⟨⟨nq,osq⟩,hw''⟩:=hw'
    subst hw''
    go_wp2
    exact ⟨⟨k+1,by go_num,by omega,hG.trans ((Grown.refl wr).quiet _ _)⟩,by simp [intOf];omega⟩
  · have hge:¬ (k:Int)<(n:Int):=by omega
    go_wp2
    go_ret
    exact ⟨rfl,hG⟩
theorem eql84 (a b:Int) (W:World):(binOp .eql 67 (.agg #[.int .i64 a,.int .i64 b]) (.agg #[.int .i64 a,.int .i64 b])).run Tryz.prog W = .ok (.bool true) W:=by
 go_simp
theorem pr_at {w:World} {a:Option Addr} {n c:Nat} {ps:List Pc} (h:PR w (.slice a n c) ps) {j:Nat} (hj:j<ps.length):∃ g o tv,a=some ⟨g,o,none⟩∧w.cell? ⟨g,o+j*4,none⟩=some (.int .i64 ps[j].k)∧w.cell? ⟨g,o+j*4+1,none⟩=some (.int .i64 ps[j].u)∧w.cell? ⟨g,o+j*4+2,none⟩=some (.int .i64 ps[j].y)∧w.cell? ⟨g,o+j*4+3,none⟩=some tv∧Rs w tv ps[j].tl:=by
 obtain ⟨a',c',e,_,h⟩:=h
 injection e with e1 _ _
 subst e1
 obtain ⟨g,o,e,h⟩:=h.resolve_left fun e=>by rw [e] at hj;simp at hj
 obtain ⟨tv,h1⟩:=h j hj
 exact ⟨g,o,tv,e,h1⟩
set_option maxHeartbeats 8000000 in
theorem sameRule_eq (r:Rl) (av kv pv rv av' kv' pv' rv':Value) (w:World) (ha:RR w av kv pv rv r) (hb:RR w av' kv' pv' rv' r) (hz:Go.Proofs.YtcfcjljapamcoaaGreatDoor.Small r 1048576):Calls Tryz.prog 42 #[.agg #[.bool r.bg,av,kv,pv,.bool r.en,rv,.int .i64 r.cu],.agg #[.bool r.bg,av',kv',pv',.bool r.en,rv',.int .i64 r.cu]] w fun e w'=>e = .returned (.bool true)∧Grown w w':=by
 have HA:Hid (RR w av kv pv rv r):=ha
 have HB:Hid (RR w av' kv' pv' rv' r):=hb
 have HZ:=Hid.mk' hz
 have C1:Hid (∀ V,Grown w V→Calls Tryz.prog 78 #[av,av'] V fun e w'=>e = .returned (.bool true)∧Grown V w'):=fun V hg=>sameSets_eq _ _ r.ante _ (ha.grown hg).a (hb.grown hg).a (by have:=hz.na;omega) (fun l hl=>by have:=hz.sa l hl;omega)
 have C2:Hid (∀ V,Grown w V→Calls Tryz.prog 78 #[kv,kv'] V fun e w'=>e = .returned (.bool true)∧Grown V w'):=fun V hg=>sameSets_eq _ _ r.key _ (ha.grown hg).k (hb.grown hg).k (by have:=hz.nk;omega) (fun l hl=>by have:=hz.sk l hl;omega)
 have C3:Hid (∀ V,Grown w V→Calls Tryz.prog 78 #[pv,pv'] V fun e w'=>e = .returned (.bool true)∧Grown V w'):=fun V hg=>sameSets_eq _ _ r.post _ (ha.grown hg).p (hb.grown hg).p (by have:=hz.np;omega) (fun l hl=>by have:=hz.sp l hl;omega)
 obtain ⟨a1,a2,a3,rfl⟩:=ha.a.sl
 obtain ⟨k1,k2,k3,rfl⟩:=ha.k.sl
 obtain ⟨p1,p2,p3,rfl⟩:=ha.p.sl
 obtain ⟨r1,r3,hr1,_,_⟩:=ha.r
 obtain ⟨b1,b2,b3,rfl⟩:=hb.a.sl
 obtain ⟨l1,l2,l3,rfl⟩:=hb.k.sl
 obtain ⟨q1,q2,q3,rfl⟩:=hb.p.sl
 obtain ⟨s1,s3,hs1,_,_⟩:=hb.r
 obtain ⟨n,hN⟩:∃ n,r.res.length=n:=⟨_,rfl⟩
 have HN:Hid (r.res.length=n):=hN
 rw [hN] at hr1 hs1
 subst hr1 hs1
 have hnI:(n:Int)≤1048576:=by have:=hz.nr;omega
 generalize r.bg=xb
 generalize r.en=xe
 generalize r.cu=xc
 clear hN ha hb hz
 go_enter Tryz.func42,Tryz.ntmps42
 go_wp2_with fail
 obtain ⟨B,hB⟩:∃ B,w.heap.size=B:=⟨_,rfl⟩
 obtain ⟨w0,hw0⟩:∃ w0,w0=(w.alloc (.cells #[.bool xb,.slice a1 a2 a3,.slice k1 k2 k3,.slice p1 p2 p3,.bool xe,.slice r1 n r3,.int .i64 xc] 60)).alloc (.cells #[.bool xb,.slice b1 b2 b3,.slice l1 l2 l3,.slice q1 q2 q3,.bool xe,.slice s1 n s3,.int .i64 xc] 60):=⟨_,rfl⟩
 have HG0:Hid (Grown w w0):=by rw [hw0];exact ((Grown.refl w).alloc _).alloc _
 have H1:Hid (w0.heap[B]? = some (.cells #[.bool xb,.slice a1 a2 a3,.slice k1 k2 k3,.slice p1 p2 p3,.bool xe,.slice r1 n r3,.int .i64 xc] 60 (0,0))):=by show _=_;rw [hw0,Below.heap_alloc _ _ _ (by simp;omega)];exact new_blk hB
 have H2:Hid (w0.heap[B+1]? = some (.cells #[.bool xb,.slice b1 b2 b3,.slice l1 l2 l3,.slice q1 q2 q3,.bool xe,.slice s1 n s3,.int .i64 xc] 60 (0,0))):=by show _=_;rw [hw0];exact new_blk (by simp [hB])
 have HCE:Hid (∀ V,Grown w0 V→(V.cell? ⟨B,2,none⟩=some (.slice k1 k2 k3)∧V.cell? ⟨B+1,2,none⟩=some (.slice l1 l2 l3))∧(V.cell? ⟨B,3,none⟩=some (.slice p1 p2 p3)∧V.cell? ⟨B+1,3,none⟩=some (.slice q1 q2 q3))∧V.cell? ⟨B,5,none⟩=some (.slice r1 n r3)∧V.cell? ⟨B+1,5,none⟩=some (.slice s1 n s3)):=fun V hg=>by
  have h1:=blk_below H1.out hg.below (blk_lt H1.out)
  have h2:=blk_below H2.out hg.below (blk_lt H2.out)
  exact ⟨⟨by rw [cell_of h1];rfl,by rw [cell_of h2];rfl⟩,⟨by rw [cell_of h1];rfl,by rw [cell_of h2];rfl⟩,by rw [cell_of h1];rfl,by rw [cell_of h2];rfl⟩
 rw [←hw0,hB]
 clear hw0 hB H1 H2
 refine (C1.out _ HG0.out).mono ?_
 rintro e w1 ⟨rfl,hg1⟩
 obtain ⟨⟨c1,c2⟩,_⟩:=HCE.out w1 hg1
 have HG1:=Hid.mk' hg1
 clear hg1
 go_wp2_with fail
 refine (C2.out _ (HG0.out.trans HG1.out)).mono ?_
 rintro e w2 ⟨rfl,hg2⟩
 obtain ⟨_,⟨c3,c4⟩,_⟩:=HCE.out w2 (HG1.out.trans hg2)
 have HG2:=Hid.mk' (HG1.out.trans hg2)
 clear hg2
 go_wp2_with fail
 refine (C3.out _ (HG0.out.trans HG2.out)).mono ?_
 rintro e w3 ⟨rfl,hg3⟩
 have HG3:=Hid.mk' (HG2.out.trans hg3)
 clear hg3 c1 c2 c3 c4
 go_wp2
 go_loopw [5] (fun vi wr=>∃ k:Nat,vi = .int .i64 k∧k≤n∧Grown w3 wr) (fun vi _=>n - (intOf vi).toNat)
 case atStart=>exact ⟨0,rfl,by omega,Grown.refl _⟩
 case round=>
  obtain ⟨k,rfl,hk,hG⟩:=hrel
  have hk0:(0:Int)≤(k:Int):=by omega
  obtain ⟨_,_,f1,f2⟩:=HCE.out wr (HG3.out.trans hG)
  have f2':∀ ob,(wr.alloc ob).cell? ⟨B+1,5,none⟩=some (.slice s1 n s3):=fun ob=>cell_up f2 ob
  by_cases hlt:k<n
  · have hltI:(k:Int)<(n:Int):=by omega
    have hkl:k<r.res.length:=by rw [HN.out];exact hlt
    have hGw:=HG0.out.trans (HG3.out.trans hG)
    obtain ⟨g,o,xv,e1,x0,x1,x2,x3,hx⟩:=pr_at (HA.out.grown hGw).r hkl
    obtain ⟨g',o',yv,e2,y0,y1,y2,y3,hy⟩:=pr_at (HB.out.grown hGw).r hkl
    subst e1 e2
    obtain ⟨u1,u2,u3,rfl⟩:=hx.sl
    obtain ⟨v1,v2,v3,rfl⟩:=hy.sl
    have y0':=fun ob=>cell_up y0 ob
    have y1':=fun ob=>cell_up y1 ob
    have y2':=fun ob=>cell_up y2 ob
    have y3':=fun ob=>cell_up y3 ob
    have HC:Hid (∀ V,Grown wr V→Calls Tryz.prog 19 #[.slice u1 u2 u3,.slice v1 v2 v3] V fun e w'=>e = .returned (.bool true)∧Grown V w'):=fun V hg=>sameSet_eq _ _ _ _ (hx.grown hg) (hy.grown hg) (by have:=HZ.out.sr _ (List.getElem_mem hkl);omega)
    generalize r.res[k].k=z0 at *
    generalize r.res[k].u=z1 at *
    generalize r.res[k].y=z2 at *
    clear hx hy
    go_wp2_with (go_at_call 19;refine (HC.out _ (by (repeat (first | exact Grown.refl _ | refine Grown.alloc ?_ _ | refine Grown.drew ?_ | refine Grown.drewN ?_ _ | refine Grown.quiet ?_ _ _)))).mono ?_;rintro e w4 ⟨rfl,hg4⟩)
    exact ⟨⟨k+1,by go_num,by omega,hG.trans ((by (repeat (first | exact Grown.refl _ | refine Grown.alloc ?_ _ | refine Grown.drew ?_ | refine Grown.drewN ?_ _ | refine Grown.quiet ?_ _ _)):Grown wr _).trans hg4)⟩,by simp [intOf];omega⟩
  · have hge:¬ (k:Int)<(n:Int):=by omega
    go_wp2
    go_ret
    exact ⟨rfl,HG0.out.trans (HG3.out.trans hG)⟩
theorem psr_rule {w:World} {a:Option Addr} {n c:Nat} {rs:List Rl} (h:PsR w (.slice a n c) rs) {j:Nat} (hj:j<rs.length):∃ g o,a=some ⟨g,o,none⟩∧RAt w g (o+j*7) rs[j]:=by
 obtain ⟨a',c',e,_,h⟩:=h
 injection e with e1 _ _
 subst e1
 obtain ⟨g,o,e,h⟩:=h.resolve_left fun e=>by rw [e] at hj;simp at hj
 exact ⟨g,o,e,h j hj⟩
set_option maxHeartbeats 8000000 in
theorem samePass_eq (av bv:Value) (rs:List Rl) (w:World) (ha:PsR w av rs) (hb:PsR w bv rs) (hn:rs.length≤1048576) (hz:∀ r∈rs,Go.Proofs.YtcfcjljapamcoaaGreatDoor.Small r 1048576):Calls Tryz.prog 14 #[.agg #[av],.agg #[bv]] w fun e w'=>e = .returned (.bool true)∧Grown w w':=by
 have HA:Hid (PsR w av rs):=ha
 have HB:Hid (PsR w bv rs):=hb
 have HZ:=Hid.mk' hz
 obtain ⟨a1,a3,e1,_,_⟩:=ha
 obtain ⟨b1,b3,e2,_,_⟩:=hb
 obtain ⟨n,hN⟩:∃ n,rs.length=n:=⟨_,rfl⟩
 have HN:Hid (rs.length=n):=hN
 rw [hN] at e1 e2 hn
 subst e1 e2
 have hnI:(n:Int)≤1048576:=by omega
 clear hN hz
 go_enter Tryz.func14,Tryz.ntmps14
 go_wp2
 obtain ⟨B,hB⟩:∃ B,w.heap.size=B:=⟨_,rfl⟩
 obtain ⟨w0,hw0⟩:∃ w0,w0=(w.alloc (.cells #[.slice a1 n a3] 24)).alloc (.cells #[.slice b1 n b3] 24):=⟨_,rfl⟩
 have HG0:Hid (Grown w w0):=by rw [hw0];exact ((Grown.refl w).alloc _).alloc _
 have H1:Hid (w0.cell? ⟨B,0,none⟩=some (.slice a1 n a3)):=by show _=_;rw [hw0];refine cell_up ?_ _;rw [cell_of (new_blk hB)];rfl
 have H2:Hid (w0.cell? ⟨B+1,0,none⟩=some (.slice b1 n b3)):=by show _=_;rw [hw0,cell_of (new_blk (by simp [hB]))];rfl
 rw [←hw0,hB]
 clear hw0 hB
 go_loopw [5] (fun vi wr=>∃ k:Nat,vi = .int .i64 k∧k≤n∧Grown w0 wr) (fun vi _=>n - (intOf vi).toNat)
 case atStart=>exact ⟨0,rfl,by omega,Grown.refl _⟩
 case round=>
  obtain ⟨k,rfl,hk,hG⟩:=hrel
  have hk0:(0:Int)≤(k:Int):=by omega
  have f1:=hG.cellv H1.out
  have f2:=hG.cellv H2.out
  by_cases hlt:k<n
  · have hltI:(k:Int)<(n:Int):=by omega
    have hkl:k<rs.length:=by rw [HN.out];exact hlt
    have hGw:=HG0.out.trans hG
    obtain ⟨g,o,e1,xa,xk,xp,xr,x0,x1,x2,x3,x4,x5,x6,hx⟩:=psr_rule (HA.out.grown hGw) hkl
    obtain ⟨g',o',e2,ya,yk,yp,yr,y0,y1,y2,y3,y4,y5,y6,hy⟩:=psr_rule (HB.out.grown hGw) hkl
    subst e1 e2
    have HC:Hid (∀ m os,Calls Tryz.prog 42 #[.agg #[.bool rs[k].bg,xa,xk,xp,.bool rs[k].en,xr,.int .i64 rs[k].cu],.agg #[.bool rs[k].bg,ya,yk,yp,.bool rs[k].en,yr,.int .i64 rs[k].cu]] (Go.Sort.grow (wr.drewN m) os) fun e w'=>e = .returned (.bool true)∧Grown (Go.Sort.grow (wr.drewN m) os) w'):=fun m os=>sameRule_eq _ _ _ _ _ _ _ _ _ _ (hx.grown ((Grown.refl wr).quiet m os)) (hy.grown ((Grown.refl wr).quiet m os)) (HZ.out _ (List.getElem_mem hkl))
    obtain ⟨u1,u2,u3,rfl⟩:=hx.a.sl
    obtain ⟨u4,u5,u6,rfl⟩:=hx.k.sl
    obtain ⟨u7,u8,u9,rfl⟩:=hx.p.sl
    obtain ⟨v1,v2,v3,rfl⟩:=hx.r.sl
    obtain ⟨v4,v5,v6,rfl⟩:=hy.a.sl
    obtain ⟨v7,v8,v9,rfl⟩:=hy.k.sl
    obtain ⟨t1,t2,t3,rfl⟩:=hy.p.sl
    obtain ⟨t4,t5,t6,rfl⟩:=hy.r.sl
    generalize rs[k].bg=z0 at *
    generalize rs[k].en=z1 at *
    generalize rs[k].cu=z2 at *
    have m1:=fun m os=>((Grown.refl wr).quiet m os).cellv f1
    have m2:=fun m os=>((Grown.refl wr).quiet m os).cellv f2
    have p0:=fun m os=>((Grown.refl wr).quiet m os).cellv x0
    have p1:=fun m os=>((Grown.refl wr).quiet m os).cellv x1
    have p2:=fun m os=>((Grown.refl wr).quiet m os).cellv x2
    have p3:=fun m os=>((Grown.refl wr).quiet m os).cellv x3
    have p4:=fun m os=>((Grown.refl wr).quiet m os).cellv x4
    have p5:=fun m os=>((Grown.refl wr).quiet m os).cellv x5
    have p6:=fun m os=>((Grown.refl wr).quiet m os).cellv x6
    have q0:=fun m os=>((Grown.refl wr).quiet m os).cellv y0
    have q1:=fun m os=>((Grown.refl wr).quiet m os).cellv y1
    have q2:=fun m os=>((Grown.refl wr).quiet m os).cellv y2
    have q3:=fun m os=>((Grown.refl wr).quiet m os).cellv y3
    have q4:=fun m os=>((Grown.refl wr).quiet m os).cellv y4
    have q5:=fun m os=>((Grown.refl wr).quiet m os).cellv y5
    have q6:=fun m os=>((Grown.refl wr).quiet m os).cellv y6
    clear hx hy
    go_wp2
    refine wp_region_quiet_grown mixed (by kernel_rfl) ?_
    repeat (go_big_quiet_step ((go_at_call 42;exact grown_of (HC.out _ _))))
    refine wpQuiet_nil ?_
    intro _ hw'
    obtain ⟨⟨nq,osq⟩,hw''⟩:=hw'
    subst hw''
    go_wp2
    exact ⟨⟨k+1,by go_num,by omega,hG.trans ((Grown.refl wr).quiet _ _)⟩,by simp [intOf];omega⟩
  · have hge:¬ (k:Int)<(n:Int):=by omega
    go_wp2
    go_ret
    exact ⟨rfl,HG0.out.trans hG⟩
end Go.Proofs
