/-
  Several texts in one (Z8r Tgr Gmr Gfr).
-/
import Derived.Test.YtcfcjljapamcoabGreatDoorZ7r
import Derived.Test.YtcfcjljapamcoabGreatDoorMpmr
import Derived.RangeFuncNested
import Derived.RangeFuncBound
import Derived.RangeFuncCalls
import Derived.RangeFuncLeaves
import Derived.Shelf.Abstract
import Derived.Shelf.RegionOpen
import Derived.WalkKit
import Derived.WalkSpells
import Derived.WalkLawsBesides
import Derived.OwnWalkIn
import Derived.TacticsInMore
import Derived.LoopNIn
import Derived.LoopIn
import Derived.BigQuiet
import Derived.RegionIn
import Derived.Deep.QuietTactic
import Derived.Deep.RegionWith
import Derived.Lib.OthersKept
import Derived.Maps.AppendAt
import Derived.Lib.SmallJoins
import Derived.Shelf.SlSortCmp.QuietGrown
import Derived.Deep.Upon
import Derived.Test.YtcfcjljapamcoabGreatDoorMggr
import Derived.Test.YtcfcjljapamcoabGreatDoorMger
import Derived.Test.YtcfcjljapamcoabGreatDoorMgar
import Derived.Test.YtcfcjljapamcoabGreatDoorMppr
namespace Go.Proofs
open Go.RowKit Go.Shelf
set_option maxRecDepth 100000
attribute [local go_sem] Oper.semAt_some
def ovU (rs:List Rl) (u:Int):Prop:=inL allU u=true∧¬ ((∃ l∈lsB rs,inL l u=true)∧¬ ∃ l∈lsG rs,inL l u=true)
def OvR (rs:List Rl) (s:List (Int × Int)) (n c:Int):Prop:=
 (c≠0∧TrnP rs n c∧s=[]) ∨
 (TrnP rs 0 0∧∃ t,Up t∧(∀ u,inL t u=true↔ovU rs u)∧(512<t.length∧s=[]∧n=rs.length∧c=194∨t.length≤512∧s=t∧n=0∧c=0))
def OveQ (w:World) (rs:List Rl) (e:Ending) (w':World):Prop:=∃ v n c s,e = .returned (.tuple #[v,.int .i64 n,.int .i64 c])∧OwnR w' w.heap.size v s∧Below w.heap.size w w'∧OvR rs s n c
theorem bdr_up {s:List (Int × Int)} (hU:Up s) (hu:∀ u,inL s u=true→0≤u∧u≤1114367):∀ x∈s,Bdr x:=fun x hx=>by
 obtain ⟨j,hj,rfl⟩:=List.mem_iff_getElem.1 hx
 have h1:=up_at hU hj
 rw [rg_lt hj] at h1
 have i1:=hu s[j].1 (List.any_eq_true.2 ⟨_,List.getElem_mem hj,by unfold inR;simp;omega⟩)
 have i2:=hu s[j].2 (List.any_eq_true.2 ⟨_,List.getElem_mem hj,by unfold inR;simp;omega⟩)
 unfold Bdr
 omega
theorem okS_in {l:List (Int × Int)} (h:okS l=true) {u:Int} (hu:inL l u=true):0≤u∧u≤1114367:=by
 have hg:=((validB_iff l).1 (okS_valid h)).2
 obtain ⟨x,hx,h1⟩:=List.any_eq_true.1 hu
 unfold inR at h1
 simp at h1
 have h2:=(hg.1 x hx).2
 omega
theorem allU_up:Up allU:=⟨by simp [allU],by simp [allU]⟩
theorem allU_in {u:Int} (h:inL allU u=true):0≤u∧u≤1114367:=by
 simp [inL,allU,inR] at h
 omega
theorem Bk.res {r:Rl} (h:Bk r):r.res≠[]:=fun e=>by
 have:=h.i0
 rw [img_len,e] at this
 simp at this
set_option maxHeartbeats 8000000 in
theorem over_any (rv:Value) (rs:List Rl) (w:World) (hT:Tab w) (h:PsR w rv rs):Calls Tryz.prog 12 #[.agg #[rv]] w (OveQ w rs):=by
 obtain ⟨ra,rc,rfl,hrc,hro⟩:=h
 obtain ⟨n,hn⟩:∃ n,rs.length=n:=⟨_,rfl⟩
 have hps:PsR w (.slice ra n rc) rs:=⟨ra,rc,by rw [hn],hrc,hro⟩
 rw [hn]
 obtain ⟨W1,hW1⟩:∃ W1,w.alloc (.cells #[.slice ra n rc] 24)=W1:=⟨_,rfl⟩
 have hb1:Below w.heap.size w W1:=by rw [←hW1];exact (Below.refl _ w).alloc (Nat.le_refl _) _
 have hk1:W1.heap[w.heap.size]? = some (.cells #[.slice ra n rc] 24 (0,0)):=by rw [←hW1];exact World.alloc_heap_new _ _
 have HT1:Hid (Tab W1):=fun j v hv=>cell_below (hT j v hv) hb1 (Nat.le_refl _)
 have HC:Hid (Calls Tryz.prog 21 #[.agg #[.slice ra n rc]] W1 (WaysQ W1 rs)):=ways_any _ rs W1 HT1.out (hps.below hb1 (Nat.le_refl _))
 have x0:W1.cell? ⟨w.heap.size,0,none⟩=some (.slice ra n rc):=by rw [cell_of hk1];rfl
 have HN:Hid (rs.length=n∧Below w.heap.size w W1∧(∀ W,Below W1.heap.size W1 W→W.cell? ⟨w.heap.size,0,none⟩=some (.slice ra n rc))):=⟨hn,hb1,fun W hb=>cell_below x0 hb (Nat.le_refl _)⟩
 clear hps hro hrc hT hn hb1 hk1
 go_enter Tryz.func12,Tryz.ntmps12
 go_wp2_with fail
 refine HC.out.mono ?_
 rintro e w2 ⟨v,i,c,rfl,hsl,hb2,hw⟩
 obtain ⟨va,vn,vc,rfl⟩:=hsl
 have HW:Hid (TrnP rs i c∧(c=0→WyR w2 (.slice va vn vc) rs)):=hw.trn
 have HB2:Hid (Below W1.heap.size W1 w2∧Below w.heap.size w w2):=⟨hb2,HN.out.2.1.trans (hb2.mono HN.out.2.1.size)⟩
 clear hb2 hw HC x0 hW1
 by_cases hc:c=0
 · have d0:(c != 0)=false:=by simp [hc]
   subst hc
   have HO:Hid (i=0∧(chkW rs).2=0∧(∀ r∈rs,Ok r∧Bk r)∧rs.length≤256):=HW.out.1.bk
   have HA:Hid (Calls Tryz.prog 23 #[] w2 fun e w'=>∃ v,e = .returned v∧OwnR w' w2.heap.size v allU∧Below w2.heap.size w2 w'):=setAny_any w2 fun j v hv=>cell_below (HT1.out j v hv) HB2.out.1 (Nat.le_refl _)
   have HL:Hid (∀ W,Below w2.heap.size w2 W→Calls Tryz.prog 24 #[.slice va vn vc] W (LosQ W rs)):=fun W hb=>lost_any W _ rs ((HW.out.2 rfl).below hb (Nat.le_refl _)) HO.out.2.2.2 (fun r hr=>(HO.out.2.2.1 r hr).1) (fun r hr=>(HO.out.2.2.1 r hr).2.res)
   go_wp2_with fail
   refine HA.out.mono ?_
   rintro e w3 ⟨v3,rfl,hO3,hb3⟩
   obtain ⟨a3,c3,e3,_⟩:=hO3.rs
   subst e3
   have H3:Hid (OwnR w3 w2.heap.size (.slice a3 allU.length c3) allU∧Below w2.heap.size w2 w3):=⟨hO3,hb3⟩
   obtain ⟨n3,hn3⟩:∃ n3,allU.length=n3:=⟨_,rfl⟩
   rw [hn3] at H3 ⊢
   clear hO3 hb3 hn3 HA
   go_wp2_with fail
   refine (HL.out w3 H3.out.2).mono ?_
   rintro e w4 ⟨v4,s4,rfl,hO4,hU4,hu4,hb4⟩
   obtain ⟨a4,c4,e4,_⟩:=hO4.rs
   subst e4
   have hin4:∀ u,inL s4 u=true→0≤u∧u≤1114367:=fun u h=>by
    obtain ⟨⟨l,hl,hx⟩,_⟩:=(hu4 u).1 h
    exact okS_in (lsB_ok (fun r hr=>(HO.out.2.2.1 r hr).1) (fun r hr=>(HO.out.2.2.1 r hr).2.res) l hl) hx
   have HS:Hid (Calls Tryz.prog 22 #[.slice a3 n3 c3,.slice a4 s4.length c4] w4 (LesQ w4 allU s4)):=
    less_any w4 _ _ allU s4 (H3.out.1.rs.below hb4 (Nat.le_refl _)) hO4.rs (by simp [allU]) (up_len hU4 hin4) (bdr_up allU_up fun u h=>allU_in h) (bdr_up hU4 hin4) allU_up hU4
   have H4:Hid ((∀ u,inL s4 u=true↔((∃ l∈lsB rs,inL l u=true)∧¬ ∃ l∈lsG rs,inL l u=true))∧Below w2.heap.size w2 w4):=⟨hu4,H3.out.2.trans (hb4.mono H3.out.2.size)⟩
   obtain ⟨n4,hn4⟩:∃ n4,s4.length=n4:=⟨_,rfl⟩
   rw [hn4] at HS ⊢
   clear hO4 hU4 hu4 hb4 hin4 hn4 HL
   go_wp2_with fail
   refine HS.out.mono ?_
   rintro e w5 ⟨v5,t,rfl,hO5,hU5,hu5,hb5⟩
   obtain ⟨a5,c5,e5,_⟩:=hO5.rs
   subst e5
   have HB5:Hid (Below w2.heap.size w2 w5∧Below w.heap.size w w5):=by
    have h1:=H4.out.2.trans (hb5.mono H4.out.2.size)
    exact ⟨h1,HB2.out.2.trans (h1.mono HB2.out.2.size)⟩
   have H5:Hid (Up t∧(∀ u,inL t u=true↔ovU rs u)∧OwnR w5 w.heap.size (.slice a5 t.length c5) t):=⟨hU5,fun u=>by
    rw [hu5,←Bool.not_eq_true,H4.out.1]
    rfl,hO5.le (Nat.le_trans HB2.out.2.size H4.out.2.size)⟩
   have hin5:∀ u,inL t u=true→0≤u∧u≤1114367:=fun u h=>allU_in ((hu5 u).1 h).1
   have hl5:=up_len hU5 hin5
   have HT0:Hid (TrnP rs 0 0):=by
    have h1:=HW.out.1
    rw [HO.out.1] at h1
    exact h1
   obtain ⟨m,hm⟩:∃ m,t.length=m:=⟨_,rfl⟩
   have HM:Hid (t.length=m):=hm
   rw [hm] at H5 hl5 ⊢
   have x5:=HN.out.2.2 w5 (HB2.out.1.trans (HB5.out.1.mono HB2.out.1.size))
   clear hO5 hU5 hu5 hb5 hin5 hm HS
   by_cases h5:512<m
   · have d5:(512:Int)<(m:Int):=by omega
     have HF:Hid (∀ W,Below w5.heap.size w5 W→OveQ w rs (.returned (.tuple #[.slice none 0 0,.int .i64 n,.int .i64 194])) W):=fun W hb=>⟨_,_,_,[],rfl,OwnR.nil _ _,HB5.out.2.trans (hb.mono HB5.out.2.size),.inr ⟨HT0.out,t,H5.out.1,H5.out.2.1,.inl ⟨by rw [HM.out];exact h5,rfl,by rw [HN.out.1],rfl⟩⟩⟩
     clear h5
     go_wp2
     go_region
     all_goals
      go_wp2
      go_ret3
      exact HF.out _ (by first | exact Below.refl _ _ | exact ((Grown.refl _).drew).below | exact ((Grown.refl _).drewN _).below)
   · have d5:¬ (512:Int)<(m:Int):=by omega
     have HF:Hid (OveQ w rs (.returned (.tuple #[.slice a5 m c5,.int .i64 0,.int .i64 0])) w5):=⟨_,_,_,t,rfl,H5.out.2.2,HB5.out.2,.inr ⟨HT0.out,t,H5.out.1,H5.out.2.1,.inr ⟨by have:=HM.out;omega,rfl,rfl,rfl⟩⟩⟩
     clear h5 x5
     go_wp2
     exact bodyPost_ret (v := .tuple #[.slice a5 m c5,.int .i64 0,.int .i64 0]) (by simp [results,Tryz.f12,go_sem]) rfl HF.out
 · have d0:(c != 0)=true:=by simp [hc]
   have HF:Hid (OveQ w rs (.returned (.tuple #[.slice none 0 0,.int .i64 i,.int .i64 c])) w2):=⟨_,_,_,[],rfl,OwnR.nil _ _,HB2.out.2,.inl ⟨hc,HW.out.1,rfl⟩⟩
   clear hc
   go_wp2
   exact bodyPost_ret (v := .tuple #[.slice none 0 0,.int .i64 i,.int .i64 c]) (by simp [results,Tryz.f12,go_sem]) rfl HF.out
end Go.Proofs
namespace Go.Proofs
open Go.RowKit Go.Shelf
set_option maxRecDepth 100000
attribute [local go_sem] Oper.semAt_some
attribute [local go_sem ↓] Go.wp_at_zero Go.wp_at_succ
structure StQ (w w':World) (rs:List Rl) (v:Value) (s:ByteArray) (wb mb:Nat) (lv uv:Value) (d:List Int):Prop where
 blk:WKB w' wb v lv (.map (some mb)) (.slice none 0 0) uv 0
 map:IMap w' mb 0 (fun _=>none)
 ord:OwnI w' w.heap.size lv d
 len:d.length=rs.length
 srt:Sg (klI rs) d 0 rs.length
 lft:OwnI w' (mb+1) uv (intsU (units s))
 lo:∀ b,lv.ownBlock=some b→b<mb
 up:∀ b,uv.ownBlock=some b→b<wb
 mw:mb<wb
 mb:w.heap.size≤mb
 bel:Below w.heap.size w w'
def StE (w:World) (rs:List Rl) (v:Value) (s:ByteArray) (e:Ending) (w':World):Prop:=∃ wb mb lv uv d,e = .returned (.pointer (some ⟨wb,0,none⟩))∧StQ w w' rs v s wb mb lv uv d
set_option maxHeartbeats 4000000 in
theorem start_any (v:Value) (rs:List Rl) (s:ByteArray) (w:World) (h:PsR w v rs) (hn:rs.length≤1000000) (hz:∀ r∈rs,r.key.length≤1000000) (hs:s.size≤1000000000):Calls Tryz.prog 44 #[v,.string s] w (StE w rs v s):=by
 have HL:=Hid.mk' (longest_any v rs w h hn hz)
 have HU:Hid (∀ W,Calls Tryz.prog 67 #[.string s] W fun e w'=>∃ v,e = .returned v∧OwnI w' W.heap.size v (intsU (units s))∧Below W.heap.size W w'):=fun W=>units_any s W hs
 have hmm := @run_makeMap Tryz.prog
 obtain ⟨v1,v2,v3,hv⟩:IsSl v:=by obtain ⟨a,b,e,_⟩:=h;exact ⟨_,_,_,e⟩
 subst hv
 clear h hn hz hs
 go_enter Tryz.func44,Tryz.ntmps44
 go_wp2_with (first
  | (go_at_call 66
     refine HL.out.mono ?_
     rintro e w1 ⟨lv,d,rfl,hO1,hd1,hS1,hB1⟩
     have H1:=Hid.mk' (And.intro hO1 (And.intro hd1 (And.intro hS1 hB1)))
     obtain ⟨y1,y2,y3,hsl⟩:=hO1.ir.sl
     subst hsl
     clear hO1 hd1 hS1 hB1)
  | (go_at_call 67
     refine (HU.out _).mono ?_
     rintro e w2 ⟨uv,rfl,hO2,hB2⟩
     have H2:=Hid.mk' (And.intro hO2 hB2)
     obtain ⟨z1,z2,z3,hsl⟩:=hO2.ir.sl
     subst hsl
     clear hO2 hB2))
 go_ret
 obtain ⟨hO1,hd1,hS1,hB1⟩:=H1.out
 obtain ⟨hO2,hB2⟩:=H2.out
 have hz1:(w1.alloc (.map #[] 0)).heap.size=w1.heap.size+1:=by simp
 rw [hz1] at hO2 hB2
 have hB3:Below (w1.heap.size+1) (w1.alloc (.map #[] 0)) (w2.alloc (.cells #[.slice v1 v2 v3,.slice y1 y2 y3,.map (some w1.heap.size),.slice none 0 0,.slice z1 z2 z3,.int .i64 0] 100)):=hB2.alloc (by have:=hB2.size;rw [hz1] at this;omega) _
 have hB13:Below w1.heap.size w1 _:=((Below.refl _ w1).alloc (Nat.le_refl _) (.map #[] 0)).trans (hB3.mono (by omega))
 have hs2:w1.heap.size+1≤w2.heap.size:=by have:=hB2.size;rw [hz1] at this;exact this
 refine ⟨w2.heap.size,w1.heap.size,_,_,d,rfl,heap_alloc_new _ _,(IMap.made w1).kept fun o ho => ?_,hO1.below hB13 (Nat.le_refl _),hd1,hS1,hO2.alloc _,fun b hb=>(World.ownsRow.lt hO1 b hb).2,fun b hb=>(World.ownsRow.lt hO2 b hb).2,by omega,hB1.size,hB1.trans (hB13.mono hB1.size)⟩
 exact (hB3.block _ (by omega)).trans ho
end Go.Proofs
namespace Go.Proofs
open Go.RowKit
def depB (o:Oper) (j:Nat):Bool:=o.after.any fun e=>Region.binds .any e && e.on == j
end Go.Proofs
namespace Go.Proofs
open Go.RowKit
def blkOf:Value→Nat
 | .slice (some a) _ _=>a.block
 | _=>0
def XStep (P:Program) (ops:Array Oper) (Q:Exit→Act→World→Prop) (I:Nat→(Nat→Value)→World→Prop) (mk:Nat→Bool) (a0:Act) (w0:World) (i:Nat) (o:Oper):Prop:=
 ∀ (a:Act) (w:World) (vs:Nat→Value),Ext w0 w→(∀ j,depB o j=true→I j vs w)→(∀ (j:Nat) (oj:Oper) (d:Tmp),depB o j=true→ops[j]? = some oj→oj.dst=some d→a.tmps.getD d undef=vs j)→(∀ d,(ops.all fun p => !decide (p.dst=some d))=true→a.tmps.getD d undef=a0.tmps.getD d undef) →
  ∀ K:Act→World→Prop,(∀ v w',Ext w w'→I i (fun j=>if j=i then v else vs j) w'→(mk i=true→w.heap.size≤blkOf v∧blkOf v<w'.heap.size)→K (a.put o.dst v) w')→if Region.wanted o (yielded ops a.tmps)=true then Oper.wp P o a w K Q else K (a.put o.dst undef) w
def XSteps (P:Program) (ops:Array Oper) (Q:Exit→Act→World→Prop) (I:Nat→(Nat→Value)→World→Prop) (mk:Nat→Bool) (a0:Act) (w0:World):List Oper→Nat→Prop
 | [],_=>True
 | o::l,k=>XStep P ops Q I mk a0 w0 k o∧XSteps P ops Q I mk a0 w0 l (k+1)
def FJ (all:List Oper) (I:Nat→(Nat→Value)→World→Prop) (mk:Nat→Bool) (w0:World) (p:Nat→Bool) (vs:Nat→Value) (w:World):Prop:=
 (Ext w0 w∧∀ (i:Nat) (o:Oper),all[i]? = some o→p i=true→I i vs w∧∀ j,depB o j=true→p j=true)∧(∀ i,i<all.length→p i=true→mk i=true→blkOf (vs i)<w.heap.size)∧∀ i j,i<all.length→j<all.length→p i=true→p j=true→i≠j→mk i=true→mk j=true→blkOf (vs i)≠blkOf (vs j)
theorem xsteps_inv {P:Program} {all:List Oper} {Q:Exit→Act→World→Prop} {I:Nat→(Nat→Value)→World→Prop} {mk:Nat→Bool} {a0:Act} {w0:World} (hI:∀ i vs w w',I i vs w→Ext w w'→I i vs w') (hV:∀ i o vs us w,all[i]? = some o→(∀ j,j=i∨depB o j=true→us j=vs j)→I i vs w→I i us w) (hE:∀ (i:Nat) (o:Oper),all[i]? = some o→∀ j,depB o j=true→j<i) :
 ∀ (m:List Oper) (k:Nat),(∀ j,m[j]? = all[k+j]?)→XSteps P all.toArray Q I mk a0 w0 m k→ISteps P all.toArray Q (FJ all I mk w0) a0 m k
 | [],_,_,_=>trivial
 | x::m,k,hm,hs=>by
  refine ⟨?_,xsteps_inv hI hV hE m (k+1) (fun j=>by have:=hm (j+1);rw [List.getElem?_cons_succ] at this;rw [this];congr 1;omega) hs.2⟩
  have hx:all[k]? = some x:=by simpa using (hm 0).symm
  intro a w p vs ⟨⟨hw,hi⟩,h2,h3⟩ hdep hpi hval hfr K hK
  have hlen:k<all.length:=(List.getElem?_eq_some_iff.1 hx).1
  refine hs.1 a w vs hw (fun j hj => ?_) (fun j oj d hj hoj hod=>hval j oj d (hdep j hj) hoj hod) hfr K (fun v w' hww hv hmk=>hK v w' ⟨⟨hw.trans hww,fun i o ho hip => ?_⟩,fun i hil hip hmi => ?_,fun i j hil hjl hip hjp hij hmi hmj => ?_⟩)
  · have hjk:=hE k x hx j hj
    have hjl:j<all.length:=by omega
    exact (hi j all[j] (List.getElem?_eq_getElem hjl) (hdep j hj)).1
  · by_cases e:i=k
    · subst e
      rw [hx] at ho
      cases ho
      exact ⟨hv,fun j hj=>by simp [hdep j hj]⟩
    · have hip':p i=true:=by simpa [e] using hip
      obtain ⟨h4,h5⟩:=hi i o ho hip'
      refine ⟨hI i _ _ _ (hV i o vs _ w ho (fun j hj => ?_) h4) hww,fun j hj=>by simp [h5 j hj]⟩
      have hne:j≠k:=by
       rcases hj with rfl | hj
       · exact e
       · intro e2
         have:=h5 j hj
         rw [e2,hpi] at this
         cases this
      show (if j=k then v else vs j)=vs j
      rw [if_neg hne]
  · show blkOf (if i=k then v else vs i)<w'.heap.size
    by_cases e:i=k
    · subst e;rw [if_pos rfl];exact (hmk hmi).2
    · rw [if_neg e]
      exact Nat.lt_of_lt_of_le (h2 i hil (by simpa [e] using hip) hmi) hww.size
  · show blkOf (if i=k then v else vs i)≠blkOf (if j=k then v else vs j)
    by_cases e:i=k
    · subst e
      rw [if_pos rfl,if_neg (fun h=>hij h.symm)]
      have:=h2 j hjl (by simpa [show j≠i from fun h=>hij h.symm] using hjp) hmj
      have:=(hmk hmi).1
      omega
    · rw [if_neg e]
      by_cases e2:j=k
      · subst e2
        rw [if_pos rfl]
        have:=h2 i hil (by simpa [e] using hip) hmi
        have:=(hmk hmj).1
        omega
      · rw [if_neg e2]
        exact h3 i j hil hjl (by simpa [e] using hip) (by simpa [e2] using hjp) hij hmi hmj
theorem wp_region_fresh {P:Program} {id:Nat} {all:List Oper} {Q:Exit→Act→World→Prop} {a0:Act} {w0:World} (hm:P.follows .mixedOrders=true) (h1:onceB all=true) (h2:earlyB 0 all=true) (h3:(all.all fun o=>match o.dst with | none=>true | some d=>decide (d<a0.tmps.size))=true)
 (I:Nat→(Nat→Value)→World→Prop) (mk:Nat→Bool) (hI:∀ i vs w w',I i vs w→Ext w w'→I i vs w') (hV:∀ i o vs us w,all[i]? = some o→(∀ j,j=i∨depB o j=true→us j=vs j)→I i vs w→I i us w)
 (hst:XSteps P all.toArray Q I mk a0 w0 all 0) (hfin:∀ vs w,Ext w0 w→(∀ i,i<all.length→I i vs w)→(∀ i j,i<all.length→j<all.length→i≠j→mk i=true→mk j=true→blkOf (vs i)≠blkOf (vs j))→Q .normal (putL vs all 0 a0) w):(Code.region id all.toArray true).wp P Q a0 w0:=by
 have hE:∀ (i:Nat) (o:Oper),all[i]? = some o→∀ j,depB o j=true→j<i:=fun i o ho j hj=>by
  unfold depB at hj
  rw [Array.any_eq_true'] at hj
  obtain ⟨e,hme,h⟩:=hj
  simp only [Bool.and_eq_true,beq_iff_eq] at h
  have:=early_of h2 i o (by simpa using ho) e hme h.1
  omega
 have h0:FJ all I mk w0 (fun _=>false) (fun _=>undef) w0.drew:=by
  unfold FJ
  refine ⟨⟨⟨rfl,rfl,rfl,Nat.le_refl _,fun _ _=>rfl⟩,?_⟩,?_,?_⟩
  · intro _ _ _ h;cases h
  · intro _ _ h;cases h
  · intro _ _ _ _ h;cases h
 refine wp_region_inv hm h1 h2 h3 (FJ all I mk w0) h0 (xsteps_inv hI hV hE all 0 (fun j=>by simp) hst) ?_
 intro vs w ⟨⟨hw,hi⟩,_,hd⟩
 exact hfin vs w hw (fun i hil=>(hi i all[i] (List.getElem?_eq_getElem hil) (by simp [hil])).1) (fun i j hil hjl hij hmi hmj=>hd i j hil hjl (by simp [hil]) (by simp [hjl]) hij hmi hmj)
end Go.Proofs
