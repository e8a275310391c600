/-
  Over 17: the document's: what can't be respelt to.
-/
import Derived.Test.YtcfcjljapamcoaaGreatDoorXnv
import Derived.Test.YtcfcjljapamcoaaGreatDoorMpqv
namespace Go.Proofs
open Go.RowKit Go.Shelf
set_option maxRecDepth 100000
attribute [local go_sem] Oper.semAt_some
def RvR (rs:List Rl) (s:List (Int × Int)) (n c:Int):Prop:=
 (c≠0∧RchP rs n c∧s=[]) ∨
 (RchP rs 0 0∧∃ t,Up t∧(∀ u,inL t u=true↔ovU rs u)∧(512<t.length∧s=[]∧n=rs.length∧c=194∨t.length≤512∧s=t∧n=0∧c=0))
def RvQ (w:World) (rs:List Rl) (e:Ending) (w':World):Prop:=∃ v n c s,e = .returned (.tuple #[v,.int .i64 n,.int .i64 c])∧OwnR w' w.heap.size v s∧Below w.heap.size w w'∧RvR rs s n c
theorem inL_flat {ls:List (List (Int × Int))} {u:Int} : inL ls.flatten u=true↔∃ l∈ls,inL l u=true:=by
 induction ls with
 | nil=>simp [inL]
 | cons a ls ih=>
  rw [List.flatten_cons,inL_append,Bool.or_eq_true,ih]
  simp
theorem flat_len {ls:List (List (Int × Int))} (h:∀ l∈ls,l.length≤512):ls.flatten.length≤512*ls.length:=by
 induction ls with
 | nil=>simp
 | cons a ls ih=>
  have h1:=h a (by simp)
  have h2:=ih fun l hl=>h l (by simp [hl])
  simp only [List.flatten_cons,List.length_append,List.length_cons]
  omega
theorem flat_bdr {ls:List (List (Int × Int))} (h:∀ l∈ls,okS l=true):∀ x∈ls.flatten,Bdr x:=fun x hx=>by
 obtain ⟨l,hl,hx⟩:=List.mem_flatten.1 hx
 exact okS_bdr (h l hl) x hx
def fB (rs:List Rl) (k:Nat):List (Int × Int):=(lsB (rs.take k)).flatten
def fG (rs:List Rl) (k:Nat):List (Int × Int):=(lsG (rs.take k)).flatten
theorem lsB_succ {rs:List Rl} {k:Nat} {r:Rl} (h:rs[k]? = some r):(fB rs (k+1))=(fB rs k)++imgF r:=by
 unfold fB lsB
 rw [List.take_add_one,h]
 simp
theorem lsG_succ {rs:List Rl} {k:Nat} {r:Rl} (h:rs[k]? = some r):(fG rs (k+1))=(fG rs k)++(if freeB r=true then keyF r else []):=by
 unfold fG lsG
 rw [List.take_add_one,h]
 by_cases hf:freeB r=true <;> simp [hf]
structure OvI (w1 wr:World) (B:Nat) (v:Value) (G:List (Int × Int)):Prop where
 own:OwnR wr B v G
 bel:Below w1.heap.size w1 wr
 siz:w1.heap.size≤B∧B≤wr.heap.size
theorem OvI.below {w1 W W':World} {B:Nat} {v:Value} {G:List (Int × Int)} (h:OvI w1 W B v G) (hb:Below W.heap.size W W'):OvI w1 W' B v G:=⟨h.own.below hb (Nat.le_refl _),h.bel.trans (hb.mono h.bel.size),h.siz.1,Nat.le_trans h.siz.2 hb.size⟩
theorem OvI.more {w1 W W':World} {B:Nat} {v v':Value} {G G':List (Int × Int)} (h:OvI w1 W B v G) (hO:OwnR W' B v' G') (hg:W.grownBy W' v.ownBlock):OvI w1 W' B v' G':=⟨hO,h.bel.grown hg h.bel.size fun k hk=>Nat.le_trans h.siz.1 (World.ownsRow.lt h.own k hk).1,h.siz.1,Nat.le_trans h.siz.2 hg.size⟩
theorem OvI.start (w1:World):OvI w1 (w1.alloc (.cells #[] 67)) w1.heap.size (.slice (some ⟨w1.heap.size,0,none⟩) 0 0) []:=⟨World.ownsRow_lit (base:=w1.heap.size) (e:=67) (size:=2) w1 #[] 0 (Nat.le_refl _) (by unfold maxLen;omega) rfl,(Below.refl _ w1).alloc (Nat.le_refl _) _,Nat.le_refl _,by rw [World.size_alloc];omega⟩
set_option maxHeartbeats 16000000 in
theorem rover_any (rv:Value) (rs:List Rl) (w:World) (h:PsR w rv rs):Calls Tryz.prog 17 #[.agg #[rv]] w (RvQ w rs):=by
 obtain ⟨ra,rc,rfl,hrc,hro⟩:=h
 obtain ⟨n,hn⟩:∃ n,rs.length=n:=⟨_,rfl⟩
 have hps:PsR w (.slice ra n rc) rs:=⟨ra,rc,by rw [hn],hrc,hro⟩
 obtain ⟨W1,hW1⟩:∃ W1,w.alloc (.cells #[.slice ra n rc] 24)=W1:=⟨_,rfl⟩
 have hb1:Below w.heap.size w W1:=by rw [←hW1];exact (Below.refl _ w).alloc (Nat.le_refl _) _
 have hk1:W1.heap[w.heap.size]? = some (.cells #[.slice ra n rc] 24 (0,0)):=by rw [←hW1];exact al_new _ _ rfl
 have HC:Hid (Calls Tryz.prog 40 #[.agg #[.slice ra n rc]] W1 (RchQ W1 rs)):=rchk40_any _ rs W1 (hps.below hb1 (Nat.le_refl _))
 have x0:W1.cell? ⟨w.heap.size,0,none⟩=some (.slice ra n rc):=by rw [cell_of hk1];rfl
 have H:Hid (rs.length=n∧Below w.heap.size w W1∧(∀ W,Below W1.heap.size W1 W→W.cell? ⟨w.heap.size,0,none⟩=some (.slice ra n rc))∧(rs=[]∨∃ g o,ra=some ⟨g,o,none⟩∧∀ (j:Nat) (hj:j<rs.length),RAt w g (o+j*7) rs[j])):=⟨hn,hb1,fun W hb=>cell_below x0 hb (Nat.le_refl _),hro⟩
 have hncap:n≤rc:=by omega
 rw [hn]
 clear hps hb1 hk1 hro hrc hn
 go_enter Tryz.func17,Tryz.ntmps17
 go_wp2_with fail
 refine HC.out.mono ?_
 rintro e w1 ⟨i,c,rfl,hR,hb⟩
 have HB1:Hid (Below W1.heap.size W1 w1∧Below w.heap.size w w1):=⟨hb,H.out.2.1.trans (hb.mono H.out.2.1.size)⟩
 have HR:Hid (RchP rs i c):=hR
 clear hb HC x0 hW1 hR
 by_cases hc:c=0
 · have d0:(c != 0)=false:=by simp [hc]
   subst hc
   have HO:Hid (i=0∧(∀ r∈rs,Ok r∧Bk r)∧rs.length≤256):=by
    obtain ⟨h1,_,h2,h3,h4⟩:=HR.out.bk
    exact ⟨h1,fun r hr=>⟨h2 r hr,ralE_bk (h2 r hr) (h4 r hr)⟩,h3⟩
   have hn256:n≤256:=by rw [←H.out.1];exact HO.out.2.2
   have HS0:Hid (OvI w1 (w1.alloc (.cells #[] 67)) w1.heap.size (.slice (some ⟨w1.heap.size,0,none⟩) 0 0) (fB rs 0)):=OvI.start w1
   go_wp2
   go_loopw [7,8] (fun vg vi wr=>∃ k:Nat,vi = .int .i64 k∧k≤n∧Hid (OvI w1 wr w1.heap.size vg (fB rs k))) (fun _ vi _=>n - (intOf vi).toNat)
   case atStart=>exact ⟨0,rfl,by omega,HS0.out⟩
   case round=>
    obtain ⟨k,rfl,hk,HG⟩:=hrel
    clear HS0
    have HBW:Hid (Below W1.heap.size W1 wr∧Below w.heap.size w wr):=⟨HB1.out.1.trans (HG.out.bel.mono HB1.out.1.size),HB1.out.2.trans (HG.out.bel.mono HB1.out.2.size)⟩
    have x0:=H.out.2.2.1 wr HBW.out.1
    by_cases hlt:k<n
    · have hlt':(k:Int)<(n:Int):=by omega
      have hpos:(0:Int)≤(k:Int):=by omega
      have hkl:k<rs.length:=by rw [H.out.1];exact hlt
      obtain ⟨g,o,rfl,hRA⟩:=H.out.2.2.2.resolve_left (by rintro rfl;simp at hkl)
      obtain ⟨av,kv,pv,rv,p0,p1,p2,p3,p4,p5,p6,hRR⟩:=hRA k hkl
      have hat:=List.getElem?_eq_getElem hkl
      have hok:=HO.out.2.1 _ (List.getElem_mem hkl)
      have q0:=cell_below p0 HBW.out.2 (Nat.le_refl _)
      have q1:=cell_below p1 HBW.out.2 (Nat.le_refl _)
      have q2:=cell_below p2 HBW.out.2 (Nat.le_refl _)
      have q3:=cell_below p3 HBW.out.2 (Nat.le_refl _)
      have q4:=cell_below p4 HBW.out.2 (Nat.le_refl _)
      have q5:=cell_below p5 HBW.out.2 (Nat.le_refl _)
      have q6:=cell_below p6 HBW.out.2 (Nat.le_refl _)
      obtain ⟨r,hre⟩:∃ r,rs[k]'hkl=r:=⟨_,rfl⟩
      rw [hre] at q0 q4 q6 hRR hok hat
      clear p0 p1 p2 p3 p4 p5 p6
      have HI:Hid (Calls Tryz.prog 46 #[.agg #[.bool r.bg,av,kv,pv,.bool r.en,rv,.int .i64 r.cu]] wr fun e w'=>∃ g o c sv m,e = .returned (.slice (some ⟨g,o,none⟩) m c)∧0<m∧w'.cell? ⟨g,o,none⟩=some sv∧Rs w' sv (imgF r)∧Below wr.heap.size wr w'):=by
       refine (rimageR_any r av kv pv rv wr wr (hRR.below HBW.out.2 (Nat.le_refl _)) (Below.refl _ _) hok.1).mono ?_
       rintro e w' ⟨y1,y2,y3,rfl,h1,h2⟩
       have h0:img r≠[]:=fun e=>by have:=hok.2.i0;rw [e] at this;simp at this
       obtain ⟨g,o,c,sv,h3,h4,h5⟩:=h1.now.first h0
       injection h3 with h6 h7 h8
       subst h6 h7 h8
       exact ⟨g,o,_,sv,_,rfl,List.length_pos_iff.2 h0,h4,h5,h2⟩
      have hlB:∀ l∈lsB rs,okS l=true:=lsB_ok (fun r hr=>(HO.out.2.1 r hr).1) (fun r hr=>(HO.out.2.1 r hr).2.res)
      have hmem:∀ l∈lsB (rs.take k),l.length≤512:=fun l hl=>okS_512 (hlB l (by
       obtain ⟨r,hr,rfl⟩:=List.mem_map.1 hl
       exact List.mem_map.2 ⟨r,List.mem_of_mem_take hr,rfl⟩))
      have hm1:=okS_512 (hlB (imgF r) (List.mem_map.2 ⟨r,List.mem_of_getElem? hat,rfl⟩))
      have hm2:(fB rs k).length≤512*(lsB (rs.take k)).length:=flat_len hmem
      have HL:Hid ((fB rs k).length+(imgF r).length≤5000000000):=by
       show _≤_
       have:(lsB (rs.take k)).length≤k:=by simp [lsB];omega
       omega
      have HU:Hid (fB rs (k+1)=(fB rs k)++imgF r):=lsB_succ hat
      obtain ⟨G,hG⟩:∃ G,(fB rs k)=G:=⟨_,rfl⟩
      rw [hG] at HG HL HU
      obtain ⟨aa,an,ac,rfl⟩:=hRR.a.sl
      obtain ⟨ka,kn,kc,rfl⟩:=hRR.k.sl
      obtain ⟨pa,pn,pc,rfl⟩:=hRR.p.sl
      obtain ⟨ta,tn,tc,rfl⟩:=hRR.r.sl
      obtain ⟨z1,z3,rfl,-⟩:=HG.out.own.rs
      clear hRA hRR hat hok hre hkl hlB hmem hm1 hm2 hG
      go_wp2_with fail
      refine HI.out.mono ?_
      rintro e w6 ⟨ig,io,ic,sv,im,rfl,hm0,cS,hs,hb6⟩
      have HS:=hidT (And.intro hs (HG.out.below hb6))
      have hm0':(0:Int)<(im:Int):=by omega
      obtain ⟨sa,sc,esv,_⟩:=id hs
      rw [esv] at cS
      obtain ⟨sn,hsn⟩:∃ sn,(imgF r).length=sn:=⟨_,rfl⟩
      have HS2:Hid (Rs w6 (.slice sa sn sc) (imgF r)):=by rw [←hsn,←esv];exact hs
      rw [hsn] at cS
      clear hs hb6 HI esv hsn HG
      go_wp2_with (refine app_Rs rfl (.tmp 30) (.tmp 38) 40 (.inr rfl) rfl w1.heap.size _ _ G (imgF r) rfl HS.out.2.own rfl HS2.out HL.out HS.out.2.siz.2 ?_;intro y1 y3 w7 hO7 hg7;have H7:=hidT (HS.out.2.more hO7 hg7);rw [←HU.out] at H7 ⊢;clear hO7 hg7)
      exact ⟨⟨k+1,by go_num,by omega,H7⟩,by simp [intOf];omega⟩
    · have hge:¬ (k:Int)<(n:Int):=by omega
      obtain rfl:k=n:=by omega
      obtain ⟨z1,z3,rfl,-⟩:=HG.out.own.rs
      obtain ⟨wb,hwb⟩:∃ wb,wb=wr:=⟨_,rfl⟩
      subst hwb
      have HN0:Hid (OvI wb (wb.alloc (.cells #[] 67)) wb.heap.size (.slice (some ⟨wb.heap.size,0,none⟩) 0 0) (fG rs 0)):=OvI.start wb
      obtain ⟨ng,hng⟩:∃ ng,(fB rs k).length=ng:=⟨_,rfl⟩
      have HG2:Hid (OvI w1 wb w1.heap.size (.slice z1 ng z3) (fB rs k)):=by rw [←hng];exact HG.out
      rw [hng]
      clear HG hng
      go_wp2
      clear x0
      go_loopw [9,10] (fun vg vi wx=>∃ j:Nat,vi = .int .i64 j∧j≤k∧Hid (OvI wb wx wb.heap.size vg (fG rs j))) (fun _ vi _=>k - (intOf vi).toNat)
      case atStart=>exact ⟨0,rfl,by omega,HN0.out⟩
      case round=>
       obtain ⟨j,rfl,hj,HG⟩:=hrel
       clear HN0
       obtain ⟨ws,hws⟩:∃ ws,ws=wr:=⟨_,rfl⟩
       subst hws
       have HBW2:Hid (Below W1.heap.size W1 ws∧Below w.heap.size w ws):=⟨HBW.out.1.trans (HG.out.bel.mono HBW.out.1.size),HBW.out.2.trans (HG.out.bel.mono HBW.out.2.size)⟩
       have x0:=H.out.2.2.1 ws HBW2.out.1
       by_cases hlt:j<k
       · have hlt':(j:Int)<(k:Int):=by omega
         have hpos:(0:Int)≤(j:Int):=by omega
         have hkl:j<rs.length:=by rw [H.out.1];exact hlt
         obtain ⟨g,o,rfl,hRA⟩:=H.out.2.2.2.resolve_left (by rintro rfl;simp at hkl)
         obtain ⟨av,kv,pv,rv,p0,p1,p2,p3,p4,p5,p6,hRR⟩:=hRA j hkl
         have hat:=List.getElem?_eq_getElem hkl
         have hok:=HO.out.2.1 _ (List.getElem_mem hkl)
         have q0:=cell_below p0 HBW2.out.2 (Nat.le_refl _)
         have q1:=cell_below p1 HBW2.out.2 (Nat.le_refl _)
         have q2:=cell_below p2 HBW2.out.2 (Nat.le_refl _)
         have q3:=cell_below p3 HBW2.out.2 (Nat.le_refl _)
         have q4:=cell_below p4 HBW2.out.2 (Nat.le_refl _)
         have q5:=cell_below p5 HBW2.out.2 (Nat.le_refl _)
         have q6:=cell_below p6 HBW2.out.2 (Nat.le_refl _)
         obtain ⟨r,hre⟩:∃ r,rs[j]'hkl=r:=⟨_,rfl⟩
         rw [hre] at q0 q4 q6 hRR hok hat
         clear p0 p1 p2 p3 p4 p5 p6
         have hRW:=hRR.below HBW2.out.2 (Nat.le_refl _)
         obtain ⟨aa,ac,rfl,_,_⟩:=hRR.a
         obtain ⟨ka,kc,rfl,_,_⟩:=hRR.k
         obtain ⟨pa,pc,rfl,_,_⟩:=hRR.p
         obtain ⟨ta,tn,tc,rfl⟩:=hRR.r.sl
         obtain ⟨kg,ko,kcc,sv,hk1,hk2,hk3⟩:=hRW.k.first (fun e=>by have:=hok.1.k0;rw [e] at this;simp at this)
         injection hk1 with hk4 hk5 hk6
         subst hk4 hk6
         obtain ⟨sa,sc,esv,_⟩:=id hk3
         have hKF:okS (keyF r)=true:=List.all_eq_true.1 hok.1.kS _ (by
          unfold keyF
          have h0:=hok.1.k0
          rw [List.getD_eq_getElem?_getD,List.getElem?_eq_getElem h0]
          exact List.getElem_mem h0)
         have hk7:Rs ws sv (keyF r):=hk3
         have esv:sv = .slice sa (keyF r).length sc:=esv
         subst esv
         obtain ⟨F,hF⟩:∃ F,freeB r=F:=⟨_,rfl⟩
         obtain ⟨an,han⟩:∃ an,r.ante.length=an:=⟨_,rfl⟩
         obtain ⟨kn,hkn⟩:∃ kn,r.key.length=kn:=⟨_,rfl⟩
         obtain ⟨pn,hpn⟩:∃ pn,r.post.length=pn:=⟨_,rfl⟩
         obtain ⟨bg,hbg⟩:∃ bg,r.bg=bg:=⟨_,rfl⟩
         obtain ⟨en,hen⟩:∃ en,r.en=en:=⟨_,rfl⟩
         obtain ⟨sn,hsn⟩:∃ sn,(keyF r).length=sn:=⟨_,rfl⟩
         have ha8:(an:Int)≤8:=by have:=hok.1.a8;omega
         have hk8:(kn:Int)≤8:=by have:=hok.1.k8;omega
         have hp8:(pn:Int)≤8:=by have:=hok.1.p8;omega
         have hk0:(0:Int)<(kn:Int):=by have:=hok.1.k0;omega
         have hFE:F=(decide (kn=1) && decide (an=0) && decide (pn=0) && !bg && !en):=by rw [←hF,freeB,hkn,han,hpn,hbg,hen]
         have hlG:∀ l∈lsG rs,okS l=true:=lsG_ok (fun r hr=>(HO.out.2.1 r hr).1)
         have hmem:∀ l∈lsG (rs.take j),l.length≤512:=fun l hl=>okS_512 (hlG l (by
          obtain ⟨r,hr,rfl⟩:=List.mem_map.1 hl
          obtain ⟨h1,h2⟩:=List.mem_filter.1 hr
          exact List.mem_map.2 ⟨r,List.mem_filter.2 ⟨List.mem_of_mem_take h1,h2⟩,rfl⟩))
         have hm1:=okS_512 hKF
         have hm2:(fG rs j).length≤512*(lsG (rs.take j)).length:=flat_len hmem
         have HL:Hid ((fG rs j).length+(keyF r).length≤5000000000):=by
          show _≤_
          have:(lsG (rs.take j)).length≤j:=by
           unfold lsG
           rw [List.length_map]
           refine Nat.le_trans (List.length_filter_le _ _) ?_
           rw [List.length_take]
           omega
          omega
         have HU:Hid (fG rs (j+1)=(fG rs j)++(if freeB r=true then keyF r else [])):=lsG_succ hat
         have HKR:Hid (Rs ws (.slice sa sn sc) (keyF r)):=by rw [←hsn];exact hk7
         rw [hF] at HU
         rw [hbg] at q0
         rw [hen] at q4
         rw [han] at q1
         rw [hkn] at q2
         rw [hpn] at q3
         rw [hsn] at hk2
         obtain ⟨G,hG⟩:∃ G,(fG rs j)=G:=⟨_,rfl⟩
         rw [hG] at HG HL HU
         obtain ⟨z4,z6,rfl,-⟩:=HG.out.own.rs
         clear hRA hRR hRW hat hok hre hkl hk3 hk5 hKF hk7 hF han hkn hpn hbg hen hsn hlG hmem hm1 hm2 hG
         have hk9:(ws.alloc (.cells #[.bool bg,.slice aa an ac,.slice (some ⟨kg,ko,none⟩) kn kc,.slice pa pn pc,.bool en,.slice ta tn tc,.int .i64 r.cu] 60)).cell? ⟨kg,ko,none⟩=some (.slice sa sn sc):=cell_below hk2 ((Below.refl _ ws).alloc (Nat.le_refl _) _) (Nat.le_refl _)
         have HGA:Hid (OvI wb (ws.alloc (.cells #[.bool bg,.slice aa an ac,.slice (some ⟨kg,ko,none⟩) kn kc,.slice pa pn pc,.bool en,.slice ta tn tc,.int .i64 r.cu] 60)) wb.heap.size (.slice z4 G.length z6) G∧Rs (ws.alloc (.cells #[.bool bg,.slice aa an ac,.slice (some ⟨kg,ko,none⟩) kn kc,.slice pa pn pc,.bool en,.slice ta tn tc,.int .i64 r.cu] 60)) (.slice sa sn sc) (keyF r)):=⟨HG.out.below ((Below.refl _ ws).alloc (Nat.le_refl _) _),HKR.out.below ((Below.refl _ ws).alloc (Nat.le_refl _) _) (Nat.le_refl _)⟩
         have HFN:Hid (F=false→OvI wb (ws.alloc (.cells #[.bool bg,.slice aa an ac,.slice (some ⟨kg,ko,none⟩) kn kc,.slice pa pn pc,.bool en,.slice ta tn tc,.int .i64 r.cu] 60)) wb.heap.size (.slice z4 G.length z6) (fG rs (j+1))):=fun h=>by
          have h2:=HU.out
          rw [h,if_neg (by simp),List.append_nil] at h2
          rw [h2]
          exact HGA.out.1
         have HUT:Hid (F=true→fG rs (j+1)=G++keyF r):=fun h=>by
          have h2:=HU.out
          rw [h,if_pos rfl] at h2
          exact h2
         clear HG HU HKR hk2
         by_cases h1:kn=1
         · subst h1
           by_cases h2:an=0
           · subst h2
             by_cases h3:pn=0
             · subst h3
               cases bg with
               | true=>
                have HX:=hidT (HFN.out (by rw [hFE];rfl))
                clear HFN HGA HUT hFE
                go_wp2
                exact ⟨⟨j+1,by go_num,by omega,HX⟩,by simp [intOf];omega⟩
               | false=>
                cases en with
                | true=>
                 have HX:=hidT (HFN.out (by rw [hFE];rfl))
                 clear HFN HGA HUT hFE
                 go_wp2
                 exact ⟨⟨j+1,by go_num,by omega,HX⟩,by simp [intOf];omega⟩
                | false=>
                 have HUX:=hidT (HUT.out (by rw [hFE];rfl))
                 clear HFN HUT hFE
                 go_wp2_with (refine app_Rs rfl (.tmp 79) (.tmp 83) 40 (.inr rfl) rfl wb.heap.size _ _ G (keyF r) rfl HGA.out.1.own rfl HGA.out.2 HL.out HGA.out.1.siz.2 ?_;intro y1 y3 w7 hO7 hg7;have H7:=hidT (HGA.out.1.more hO7 hg7);rw [←HUX.out] at H7 ⊢;clear hO7 hg7)
                 exact ⟨⟨j+1,by go_num,by omega,H7⟩,by simp [intOf];omega⟩
             · have c1:¬ (pn:Int)=0:=by omega
               have HX:=hidT (HFN.out (by rw [hFE];simp [h3]))
               clear HFN HGA HUT hFE
               go_wp2
               exact ⟨⟨j+1,by go_num,by omega,HX⟩,by simp [intOf];omega⟩
           · have c1:¬ (an:Int)=0:=by omega
             have HX:=hidT (HFN.out (by rw [hFE];simp [h2]))
             clear HFN HGA HUT hFE
             go_wp2
             exact ⟨⟨j+1,by go_num,by omega,HX⟩,by simp [intOf];omega⟩
         · have c1:¬ (kn:Int)=1:=by omega
           have HX:=hidT (HFN.out (by rw [hFE];simp [h1]))
           clear HFN HGA HUT hFE
           go_wp2
           exact ⟨⟨j+1,by go_num,by omega,HX⟩,by simp [intOf];omega⟩
       · have hge2:¬ (j:Int)<(k:Int):=by omega
         obtain rfl:j=k:=by omega
         have ht:rs.take j=rs:=List.take_of_length_le (by rw [H.out.1];omega)
         have hfB:fB rs j=(lsB rs).flatten:=by unfold fB;rw [ht]
         have hfG:fG rs j=(lsG rs).flatten:=by unfold fG;rw [ht]
         have hlB:∀ l∈lsB rs,okS l=true:=lsB_ok (fun r hr=>(HO.out.2.1 r hr).1) (fun r hr=>(HO.out.2.1 r hr).2.res)
         have hlG:∀ l∈lsG rs,okS l=true:=lsG_ok (fun r hr=>(HO.out.2.1 r hr).1)
         have l1:(fB rs j).length≤140000:=by
          rw [hfB]
          have h1:=flat_len fun l hl=>okS_512 (hlB l hl)
          have h2:(lsB rs).length=rs.length:=by simp [lsB]
          have h3:=H.out.1
          omega
         have l2:(fG rs j).length≤140000:=by
          rw [hfG]
          have h1:=flat_len fun l hl=>okS_512 (hlG l hl)
          have h2:(lsG rs).length≤rs.length:=by
           unfold lsG
           rw [List.length_map]
           exact List.length_filter_le _ _
          have h3:=H.out.1
          omega
         have hbd:∀ x∈allU++fB rs j++fG rs j,Bdr x:=fun x hx=>by
          rcases List.mem_append.1 hx with hx | hx
          · rcases List.mem_append.1 hx with hx | hx
            · exact bdr_up allU_up (fun u h=>allU_in h) x hx
            · rw [hfB] at hx;exact flat_bdr hlB x hx
          · rw [hfG] at hx;exact flat_bdr hlG x hx
         have HPT:Hid (∀ u,ptU allU (fB rs j) (fG rs j) u↔ovU rs u):=fun u=>by
          unfold ptU ovU
          rw [hfB,hfG,inL_flat,inL_flat]
         obtain ⟨z4,z6,rfl,-⟩:=HG.out.own.rs
         have HRS:Hid (∀ W,Below ws.heap.size ws W→Rs W (.slice z1 ng z3) (fB rs j)∧Rs W (.slice z4 (fG rs j).length z6) (fG rs j)):=fun W hb=>⟨(HG2.out.own.rs.below HG.out.bel (Nat.le_refl _)).below hb (Nat.le_refl _),HG.out.own.rs.below hb (Nat.le_refl _)⟩
         have HPA:Hid (∀ W av,Below ws.heap.size ws W→Rs W av allU→Calls Tryz.prog 47 #[av,.slice z1 ng z3,.slice z4 (fG rs j).length z6] W fun e w'=>∃ y1 y2 y3 out,e = .returned (.slice y1 y2 y3)∧OwnR w' W.heap.size (.slice y1 y2 y3) out∧Below W.heap.size W w'∧Up out∧∀ u,inL out u=true↔ovU rs u):=fun W av hb hr=>by
          refine (parted_any av _ _ allU (fB rs j) (fG rs j) W hr (HRS.out W hb).1 (HRS.out W hb).2 (by simp [allU]) l1 l2 hbd).mono ?_
          rintro e w' ⟨y1,y2,y3,out,h1,h2,h3,h4,h5⟩
          exact ⟨y1,y2,y3,out,h1,h2,h3,h4,fun u=>(h5 u).trans (HPT.out u)⟩
         obtain ⟨gn,hgn⟩:∃ gn,(fG rs j).length=gn:=⟨_,rfl⟩
         rw [hgn] at HPA ⊢
         clear ht hfB hfG hlB hlG l1 l2 hbd HG HG2 HRS hgn
         go_wp2_with fail
         refine (rAny_any ws).mono ?_
         rintro e w9 ⟨ya,yc,rfl,hr9,hb9⟩
         have HP9:=hidT (HPA.out w9 _ hb9 hr9)
         have HB9:Hid (Below W1.heap.size W1 w9∧Below w.heap.size w w9):=⟨HBW2.out.1.trans (hb9.mono HBW2.out.1.size),HBW2.out.2.trans (hb9.mono HBW2.out.2.size)⟩
         clear hr9 hb9 HPA x0
         go_wp2_with fail
         refine HP9.out.mono ?_
         rintro e w5 ⟨y1,y2,y3,t,rfl,hO5,hb5,hU5,hu5⟩
         obtain ⟨a5,c5,e5,_⟩:=hO5.rs
         injection e5 with e6 e7 e8
         subst e6 e7 e8
         have HB5:Hid (Below W1.heap.size W1 w5∧Below w.heap.size w w5):=⟨HB9.out.1.trans (hb5.mono HB9.out.1.size),HB9.out.2.trans (hb5.mono HB9.out.2.size)⟩
         have H5:Hid (Up t∧(∀ u,inL t u=true↔ovU rs u)∧OwnR w5 w.heap.size (.slice y1 t.length y3) t):=⟨hU5,hu5,hO5.le HB9.out.2.size⟩
         have hl5:=up_len hU5 (fun u h=>allU_in ((hu5 u).1 h).1)
         have HT0:Hid (RchP rs 0 0):=by
          have h1:=HR.out
          rw [HO.out.1] at h1
          exact h1
         obtain ⟨m,hm⟩:∃ m,t.length=m:=⟨_,rfl⟩
         have HM:Hid (t.length=m):=hm
         rw [hm] at H5 hl5 ⊢
         have x5:=H.out.2.2.1 w5 HB5.out.1
         clear hO5 hU5 hu5 hb5 hm HP9
         by_cases h5:512<m
         · have d5:(512:Int)<(m:Int):=by omega
           have HF:Hid (∀ W,Below w5.heap.size w5 W→RvQ w rs (.returned (.tuple #[.slice none 0 0,.int .i64 j,.int .i64 194])) W):=fun W hb=>⟨_,_,_,[],rfl,OwnR.nil _ _,HB5.out.2.trans (hb.mono HB5.out.2.size),.inr ⟨HT0.out,t,H5.out.1,H5.out.2.1,.inl ⟨by rw [HM.out];exact h5,rfl,by rw [H.out.1],rfl⟩⟩⟩
           clear h5
           go_wp2
           go_region
           all_goals
            go_wp2
            go_ret3
            exact HF.out _ (by first | exact Below.refl _ _ | exact ((Grown.refl _).drew).below | exact ((Grown.refl _).drewN _).below)
         · have d5:¬ (512:Int)<(m:Int):=by omega
           have HF:Hid (RvQ w rs (.returned (.tuple #[.slice y1 m y3,.int .i64 0,.int .i64 0])) w5):=⟨_,_,_,t,rfl,H5.out.2.2,HB5.out.2,.inr ⟨HT0.out,t,H5.out.1,H5.out.2.1,.inr ⟨by have:=HM.out;omega,rfl,rfl,rfl⟩⟩⟩
           clear h5 x5
           go_wp2
           exact bodyPost_ret (v := .tuple #[.slice y1 m y3,.int .i64 0,.int .i64 0]) (by simp [results,Tryz.f17,go_sem]) rfl HF.out
 · have d0:(c != 0)=true:=by simp [hc]
   have HF:Hid (RvQ w rs (.returned (.tuple #[.slice none 0 0,.int .i64 i,.int .i64 c])) w1):=⟨_,_,_,[],rfl,OwnR.nil _ _,HB1.out.2,.inl ⟨hc,HR.out,rfl⟩⟩
   clear hc
   go_wp2
   exact bodyPost_ret (v := .tuple #[.slice none 0 0,.int .i64 i,.int .i64 c]) (by simp [results,Tryz.f17,go_sem]) rfl HF.out
theorem over_same {rs:List Rl} {s s':List (Int × Int)} {n c n' c':Int} (h:OvR rs s n c) (h':RvR rs s' n' c'):s=s'∧n=n'∧c=c':=by
 rcases h with ⟨h1,h2,h3⟩ | ⟨h1,t,h2,h3,h4⟩
 · rcases h' with ⟨g1,g2,g3⟩ | ⟨g1,t',g2,g3,g4⟩
   · exact ⟨h3.trans g3.symm,trn_rch h2 g2⟩
   · exact absurd (trn_rch h2 g1).2 h1
 · rcases h' with ⟨g1,g2,g3⟩ | ⟨g1,t',g2,g3,g4⟩
   · exact absurd (trn_rch h1 g2).2.symm g1
   · obtain rfl:t=t':=up_unique _ _ h2 g2 fun u=>(h3 u).trans (g3 u).symm
     rcases h4 with ⟨h5,h6,h7,h8⟩ | ⟨h5,h6,h7,h8⟩
     · rcases g4 with ⟨g5,g6,g7,g8⟩ | ⟨g5,g6,g7,g8⟩
       · exact ⟨h6.trans g6.symm,h7.trans g7.symm,h8.trans g8.symm⟩
       · omega
     · rcases g4 with ⟨g5,g6,g7,g8⟩ | ⟨g5,g6,g7,g8⟩
       · omega
       · exact ⟨h6.trans g6.symm,h7.trans g7.symm,h8.trans g8.symm⟩
end Go.Proofs
