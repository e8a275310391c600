/-
  Several texts in one (Ef Ek Ei Ej).
-/
import Derived.RangeFuncNested
import Derived.RangeFuncBound
import Derived.RangeFuncCalls
import Derived.RangeFuncLeaves
import Derived.Shelf.Abstract
import Derived.Shelf.RegionOpen
import Derived.WalkKit
import Derived.WalkSpells
import Derived.WalkLawsBesides
import Derived.OwnWalkIn
import Derived.TacticsInMore
import Derived.LoopNIn
import Derived.LoopIn
import Derived.BigQuiet
import Derived.RegionIn
import Derived.Deep.QuietTactic
import Derived.Deep.RegionWith
import Derived.Lib.OthersKept
import Derived.Maps.AppendAt
import Derived.Lib.SmallJoins
import Derived.Shelf.SlSortCmp.QuietGrown
import Derived.Test.YtibgnkpagfpinaaGreatDoorMgat
import Derived.Deep.AppendLies
import Derived.Laws.OwnMore
import Derived.Carry
import Derived.Deep.RegionLaw
namespace Go.Proofs
open Go.RowKit Go.Shelf
set_option maxRecDepth 100000
attribute [local go_sem] Oper.semAt_some
attribute [local go_sem ↓] Go.wp_at_zero Go.wp_at_succ
theorem foldl_succ {α β:Type} (f:β→α→β) (b:β) (l:List α) {k:Nat} (h:k<l.length):(l.take (k+1)).foldl f b=f ((l.take k).foldl f b) l[k]:=by
 rw [List.take_add_one,List.foldl_append,List.getElem?_eq_getElem h]
 rfl
theorem free_of {W:World} {B j:Nat} {cs:Array Value} {t:TypeId} (h:W.heap[B]? = some (.cells cs t (0,0))):W.frozen? ⟨B,j,none⟩=false:=by
 simp [World.frozen?,h]
set_option maxHeartbeats 8000000 in
theorem lift_any {W w0:World} {sp m1 ga m2 N1 N2:Nat} {bv:Value} {uvs:List Value} {rv:Value} {rs:List Rl} {st:St} {ln:Int→Option Value} {cs:List Int} {us:List (List (Int × Int))} (n:Nat) (hS:Sc W w0 sp m1 ga m2 N1 N2 bv uvs rv rs st ln) (hO:OkSt cs us st) (hcl:cs.length=rs.length) (hn:n<rs.length) (hK:Kok rs) (hu:∀ u∈us,u.length≤512) (hN1:N1<1000000) (hN:N2<1000000) (h1:at0 st.ws n<at0 st.aq n) (h2:at0 st.aq n≤64) :
 Calls Tryz.prog 144 #[.pointer (some ⟨sp,0,none⟩),.int .i64 n] W fun e w'=>∃ ln',e = .returned (.tuple #[])∧Sc w' w0 sp m1 ga m2 (N1+1) (N2+1) bv uvs rv rs (liftP rs n st) ln':=by
 have hnI:InI (n:Int):=⟨by omega,by have:=hK.n;omega⟩
 have hnc:n<cs.length:=by omega
 obtain ⟨x,hx⟩:∃ x,at0 st.aq n=x:=⟨_,rfl⟩
 have hw1:=(hO.wb n hnc).1
 have hna:n<st.aq.length:=by rw [hO.al];exact hnc
 have hnw:n<st.ws.length:=by rw [hO.wl];exact hnc
 -- the map's store
 obtain ⟨W1,hrun,hI,ht⟩:=hS.wm.store (by omega) Tryz.underlying187 hnI (.int .i64 x)
 rw [wsF_set hnw] at hI
 have hS1:=hS.turn1 ht hI
 have hO1:OkSt cs us ⟨st.ws.set n x,st.aq,st.bk⟩:=hO.setw hnc (by omega) (by omega)
 have HS1:Hid (Sc W1 w0 sp m1 ga m2 (N1+1) N2 bv uvs rv rs ⟨st.ws.set n x,st.aq,st.bk⟩ ln):=hS1
 have d1:W.cell? ⟨sp,1,none⟩=some (.map (some m1)):=by rw [cell_of hS.blk];simp
 have d2:W.cell? ⟨sp,2,none⟩=some (.slice (some ⟨ga,0,none⟩) st.aq.length st.aq.length):=by rw [cell_of hS.blk];simp
 have da:W.cell? ⟨ga,n,none⟩=some (.int .i64 x):=by rw [cell_of hS.asb,←hx];simp [ints,at0,hna]
 have HC:Hid (Calls Tryz.prog 159 #[.pointer (some ⟨sp,0,none⟩),.int .i64 n] W1 fun e w'=>∃ v ln',e = .returned v∧LnR w' w0.heap.size ga v (leanL rs st.bk n)∧Sc w' w0 sp m1 ga m2 (N1+1) (N2+1) bv uvs rv rs ⟨st.ws.set n x,st.aq,st.bk⟩ ln'):=
  leaning_any n hS1 hn hK (fun b hb=>hu _ (by rw [←hO.uss];exact List.mem_map_of_mem hb)) hO.pl hN
 have HP:Hid (liftP rs n st=(leanL rs st.bk n).foldl (bump x) ⟨st.ws.set n x,st.aq,st.bk⟩):=by show _=_;unfold liftP;rw [hx]
 have HO1:Hid (OkSt cs us ⟨st.ws.set n x,st.aq,st.bk⟩):=hO1
 have HX:Hid (1≤x∧x≤64):=⟨by omega,by omega⟩
 have hxb:(1:Int)≤x∧x≤64:=⟨by omega,by omega⟩
 obtain ⟨L,hL⟩:∃ L,leanL rs st.bk n=L:=⟨_,rfl⟩
 have HLB:Hid (∀ i∈L,i<st.bk.length):=fun i hi=>by
  rw [←hL] at hi
  unfold leanL at hi
  have:=(List.mem_filter.1 hi).1
  simpa using this
 have HLL:Hid (L.length≤4096):=by
  have:=leanK_len rs st.bk n st.bk.length
  rw [leanK_all,hL] at this
  exact Nat.le_trans this hO.pl
 rw [hL] at HC HP
 obtain ⟨na,hna'⟩:∃ na,st.aq.length=na:=⟨_,rfl⟩
 have HNA:Hid (st.aq.length=na):=hna'
 have HNC:Hid (cs.length=na):=by rw [←hna'];exact hO.al.symm
 have hnn:(n:Int)<(na:Int):=by omega
 have hn0:(0:Int)≤(n:Int):=by omega
 have hnaI:(na:Int)≤256:=by have:=hO.n;rw [←hO.al,hna'] at this;omega
 rw [hna'] at d2
 have HBK:Hid (∀ k,((L.take k).foldl (bump x) ⟨st.ws.set n x,st.aq,st.bk⟩).bk.length=st.bk.length):=fun k=>by
  have:=(OkSt.bumps x hxb.1 hxb.2 (L.take k) _ hO1).uss
  rw [←hO.uss] at this
  simpa using congrArg List.length this
 clear hS hO hS1 hO1 hI ht hna' hL hu hK hcl hw1 hna hnw h1 h2 hx
 go_enter Tryz.func144,Tryz.ntmps144
 go_wp2_with fail
 refine HC.out.mono ?_
 rintro e w2 ⟨v,ln2,rfl,hv,hS2⟩
 have HV:Hid (LnR w2 w0.heap.size ga v L):=hv
 have HS2:Hid (Sc w2 w0 sp m1 ga m2 (N1+1) (N2+1) bv uvs rv rs ((L.take 0).foldl (bump x) ⟨st.ws.set n x,st.aq,st.bk⟩) ln2):=hS2
 obtain ⟨la,lc,rfl,_,_⟩:=hv
 obtain ⟨nl,hnl⟩:∃ nl,L.length=nl:=⟨_,rfl⟩
 have HNL:Hid (L.length=nl):=hnl
 rw [hnl] at HV ⊢
 have hnlI:(nl:Int)≤4096:=by have:=HLL.out;omega
 clear hS2 hnl HS1 HC
 go_wp2
 go_loopw [25] (fun vi wr=>∃ k:Nat,vi = .int .i64 k∧k≤nl∧Hid (LnR wr w0.heap.size ga (.slice la nl lc) L)∧Hid (Sc wr w0 sp m1 ga m2 (N1+1) (N2+1) bv uvs rv rs ((L.take k).foldl (bump x) ⟨st.ws.set n x,st.aq,st.bk⟩) ln2)) (fun vi _=>nl - (intOf vi).toNat)
 case atStart=>exact ⟨0,rfl,by omega,HV,HS2⟩
 case round=>
  obtain ⟨k,rfl,hk,HVr,HSr⟩:=hrel
  clear HV HS2
  have hk0:(0:Int)≤(k:Int):=by omega
  by_cases hlt:k<nl
  · have hlt':(k:Int)<(nl:Int):=by omega
    have hkl:k<L.length:=by rw [HNL.out];exact hlt
    have HFS:Hid ((L.take (k+1)).foldl (bump x) ⟨st.ws.set n x,st.aq,st.bk⟩=bump x ((L.take k).foldl (bump x) ⟨st.ws.set n x,st.aq,st.bk⟩) L[k]):=foldl_succ _ _ _ hkl
    have hOk:=OkSt.bumps x HX.out.1 HX.out.2 (L.take k) _ HO1.out
    have hbl:=HBK.out k
    have hib:L[k]<st.bk.length:=HLB.out _ (List.getElem_mem hkl)
    obtain ⟨sk,hsk⟩:∃ sk,(L.take k).foldl (bump x) ⟨st.ws.set n x,st.aq,st.bk⟩=sk:=⟨_,rfl⟩
    rw [hsk] at HFS HSr hOk hbl
    obtain ⟨a',c',e',_,hlr⟩:=HVr.out
    obtain ⟨g,lcs,lm,ha',_,hgn,hgl,hcell⟩:=hlr.resolve_left (fun e=>by rw [e] at hkl;simp at hkl)
    have c0:=hcell k hkl
    obtain ⟨i,hi⟩:∃ i,L[k]=i:=⟨_,rfl⟩
    rw [hi] at HFS hib c0
    have hSr:=HSr.out
    have hi2:i<sk.bk.length:=by omega
    have hub:i<uvs.length:=by rw [hSr.bkr.1];exact hi2
    obtain ⟨b,hb⟩:∃ b,sk.bk[i]? = some b:=⟨_,List.getElem?_eq_getElem hi2⟩
    have hbi:=(List.getElem?_eq_some_iff.1 hb).2
    obtain ⟨_,ba,bc,hbv,_,hbr⟩:=hSr.bkr
    obtain ⟨gb,bcs,hba,hgb0,hgb,hbc⟩:=hbr.resolve_left (fun e=>by rw [e] at hi2;simp at hi2)
    obtain ⟨x0,x1,x2⟩:=hbc i hi2 hub
    rw [hbi] at x0 x2
    have hpb:=hOk.pb b (List.mem_of_getElem? hb)
    have hab:=hOk.ab hpb.1
    have hal:sk.aq.length=na:=by rw [hOk.al];exact HNC.out
    have y2:wr.cell? ⟨sp,2,none⟩=some (.slice (some ⟨ga,0,none⟩) na na):=by rw [cell_of hSr.blk];simp [hal]
    have y3:wr.cell? ⟨sp,3,none⟩=some bv:=by rw [cell_of hSr.blk];simp
    have hbra:b.r<sk.aq.length:=by rw [hOk.al];exact hpb.1
    have ya:wr.cell? ⟨ga,b.r,none⟩=some (.int .i64 (at0 sk.aq b.r)):=by rw [cell_of hSr.asb];simp [ints,at0,hbra]
    have hin:(i:Int)<(sk.bk.length:Int):=by omega
    have hi0:(0:Int)≤(i:Int):=by omega
    have hblI:(sk.bk.length:Int)≤4096:=by have:=hOk.pl;omega
    have hrn:(b.r:Int)<(na:Int):=by have:=HNC.out;omega
    have hr0:(0:Int)≤(b.r:Int):=by omega
    have HSA:Hid (∀ W',Grown wr W'→Sc W' w0 sp m1 ga m2 (N1+1) (N2+1) bv uvs rv rs sk ln2):=fun W' h=>hSr.grown h
    have HVA:Hid (∀ W',Grown wr W'→LnR W' w0.heap.size ga (.slice la nl lc) L):=fun W' h=>HVr.out.below h.below
    have HB:Hid (sk.bk[i]? = some b):=hb
    have HBV:Hid (bv = .slice ba sk.bk.length bc):=hbv
    have HGB:Hid (ba=some ⟨gb,0,none⟩):=hba
    rw [hbv,hba] at y3
    obtain ⟨nbk,hnbk⟩:∃ nbk,sk.bk.length=nbk:=⟨_,rfl⟩
    rw [hnbk] at y3 hin hblI
    injection e' with e1 e2 e3
    clear e2 e3
    rw [ha'] at e1
    subst e1
    obtain ⟨br,hbr'⟩:∃ br,b.r=br:=⟨_,rfl⟩
    obtain ⟨bw,hbw⟩:∃ bw,b.wt=bw:=⟨_,rfl⟩
    obtain ⟨aa,haa⟩:∃ aa,at0 sk.aq b.r=aa:=⟨_,rfl⟩
    have HBR:Hid (b.r=br∧b.wt=bw∧at0 sk.aq br=aa):=⟨hbr',hbw,by rw [←hbr'];exact haa⟩
    rw [haa] at ya hab
    rw [hbr'] at x0 hrn hr0 ya
    rw [hbw] at x2 hpb
    have hbwb:=hpb.2
    have hxb2:=HX.out
    have HGO:Hid (∃ cs,wr.heap[gb]? = some (.cells cs 193 (0,0))):=⟨_,hgb⟩
    have HGA:Hid (ga≠gb):=ne_obj hSr.asb hgb (by simp)
    have z1:wr.frozen? ⟨ga,br,none⟩=false:=free_of hSr.asb
    have z2:∀ u,(wr.setCell ⟨ga,br,none⟩ u).frozen? ⟨gb,i*3+2,none⟩=false:=fun u=>free_of ((turns_set wr ga br u gb (HGA.out ∘ Eq.symm)).trans hgb)
    have z3:∀ u,(wr.setCell ⟨ga,br,none⟩ u).cell? ⟨gb,i*3+2,none⟩=some (.int .i64 bw):=fun u=>(cell_same (turns_set wr ga br u gb (HGA.out ∘ Eq.symm))).trans x2
    clear hSr hOk hbl hsk hlr hgl hcell hi hbi hbr hbc hb hbv hba hpb hal hbra hbr' hbw haa hnbk hub hib hi2 x1 ha' hgb hgb0
    by_cases hcmp:bw<x
    · as_aux_lemma=>
       have HE:Hid (bump x sk i=⟨sk.ws,sk.aq.set br (aa+(x - bw)),sk.bk.set i ⟨b.r,b.us,x⟩⟩):=by
        show _=_
        unfold bump
        rw [HB.out]
        simp only
        rw [if_pos (by rw [HBR.out.2.1];exact hcmp),HBR.out.1,HBR.out.2.1,HBR.out.2.2]
       have HF:Hid (Sc ((wr.setCell ⟨ga,br,none⟩ (.int .i64 (aa+(x - bw)))).setCell ⟨gb,i*3+2,none⟩ (.int .i64 x)).drew w0 sp m1 ga m2 (N1+1) (N2+1) bv uvs rv rs ((L.take (k+1)).foldl (bump x) ⟨st.ws.set n x,st.aq,st.bk⟩) ln2):=by
        show Sc _ _ _ _ _ _ _ _ _ _ _ _ _ _
        rw [HFS.out,HE.out]
        have t2:=HSr.out.turn2 br (aa+(x - bw))
        have t3:=t2.turn3 (i:=i) (by rw [HBV.out,HGB.out]) HB.out x
        exact t3.grown (Grown.refl _).drew
       have HVF:Hid (LnR ((wr.setCell ⟨ga,br,none⟩ (.int .i64 (aa+(x - bw)))).setCell ⟨gb,i*3+2,none⟩ (.int .i64 x)).drew w0.heap.size ga (.slice (some ⟨g,0,none⟩) nl lc) L):=by
        have v1:=HVr.out.turn HSr.out.asb (.inl rfl) (turns_set wr ga br (.int .i64 (aa+(x - bw))))
        have v2:=v1.turn ((turns_set wr ga br (.int .i64 (aa+(x - bw))) gb (HGA.out ∘ Eq.symm)).trans HGO.out.choose_spec) (.inr (by simp)) (turns_set _ gb (i*3+2) (.int .i64 x))
        exact v2.below (Grown.refl _).drew.below
       clear HE HFS HSA HVA HVr HSr HGO
       go_wp2
       go_region
       go_wp2
       exact ⟨⟨k+1,by go_num,by omega,HVF,HF⟩,by simp [intOf];omega⟩
    · as_aux_lemma=>
       have HE:Hid (bump x sk i=sk):=by
        show _=_
        unfold bump
        rw [HB.out]
        simp only
        rw [if_neg (by rw [HBR.out.2.1];exact hcmp)]
       have hS3:Hid (Sc wr w0 sp m1 ga m2 (N1+1) (N2+1) bv uvs rv rs ((L.take (k+1)).foldl (bump x) ⟨st.ws.set n x,st.aq,st.bk⟩) ln2):=by
        show Sc _ _ _ _ _ _ _ _ _ _ _ _ _ _
        rw [HFS.out,HE.out];exact HSr.out
       clear HFS HE
       go_wp2
       exact ⟨⟨k+1,by go_num,by omega,HVr,hS3⟩,by simp [intOf];omega⟩
  · have hge:¬ (k:Int)<(nl:Int):=by omega
    have hS3:Hid (Sc wr w0 sp m1 ga m2 (N1+1) (N2+1) bv uvs rv rs (liftP rs n st) ln2):=by
     show Sc _ _ _ _ _ _ _ _ _ _ _ _ _ _
     have:=HSr.out
     rw [List.take_of_length_le (by rw [HNL.out];omega)] at this
     rw [HP.out];exact this
    clear HSr
    go_wp2
    exact bodyPost_end (v := .tuple #[]) (by simp [results,Tryz.f144,go_sem]) rfl ⟨rfl,ln2,hS3.out⟩
def cpW:List Bool→List Pc→Bool
 | _,[]=>false
 | c,p::l=>if p.k≠2 then cpW c l else if (c[p.y.toNat]?).getD false then true else cpW (c.set p.y.toNat true) l
def copB (r:Rl):Bool:=cpW (true::List.replicate 7 false) (backP r)
def bools (l:List Bool):List Value:=l.map fun x => .bool x
theorem drop_pl {ps:List Pc} {k:Nat} (h:k<ps.length):ps.drop k=ps[k]::ps.drop (k+1):=List.drop_eq_getElem_cons h
set_option maxHeartbeats 4000000 in
theorem copies_any (r:Rl) (av kv pv rv:Value) (w:World) (h:RR w av kv pv rv r) (hO:Ok r):Calls Tryz.prog 120 #[.agg #[.bool r.bg,av,kv,pv,.bool r.en,rv,.int .i64 r.cu]] w fun e w'=>e = .returned (.bool (copB r))∧Below w.heap.size w w':=by
 have HPB:Hid (∀ wx,Calls Tryz.prog 142 #[.agg #[.bool r.bg,av,kv,pv,.bool r.en,rv,.int .i64 r.cu]] wx fun e w'=>∃ v,e = .returned v∧PR w v (backP r)∧Grown wx w'):=fun wx=>putBack_any r av kv pv rv wx w h hO.c0 hO.c1
 have HY:Hid (∀ p∈backP r,p.k=2→0≤p.y∧p.y<8):=fun p hp hk=>by
  have h1:=pc_ok (hO.pc p (List.mem_of_mem_drop hp))
  have h2:=hO.k8
  rcases h1 with ⟨h1,_⟩ | ⟨_,_,_,h3,h4⟩ | ⟨h1,_⟩
  · omega
  · omega
  · omega
 have HL:Hid ((backP r).length≤16):=by have:=hO.r16;simp [Hid,backP];omega
 obtain ⟨a1,n1,c1,rfl⟩:=h.a.sl
 obtain ⟨a2,n2,c2,rfl⟩:=h.k.sl
 obtain ⟨a3,n3,c3,rfl⟩:=h.p.sl
 obtain ⟨a5,n5,c5,rfl⟩:=h.r.sl
 obtain ⟨R,hR⟩:∃ R,copB r=R:=⟨_,rfl⟩
 have HR:Hid (cpW (true::List.replicate 7 false) ((backP r).drop 0)=R):=hR
 rw [hR]
 obtain ⟨xb,hxb⟩:∃ xb,r.bg=xb:=⟨_,rfl⟩
 obtain ⟨xe,hxe⟩:∃ xe,r.en=xe:=⟨_,rfl⟩
 obtain ⟨xc,hxc⟩:∃ xc,r.cu=xc:=⟨_,rfl⟩
 rw [hxb,hxe,hxc] at HPB ⊢
 clear hR hxb hxe hxc h hO
 go_enter Tryz.func120,Tryz.ntmps120
 go_wp2_with fail
 refine (HPB.out _).mono ?_
 rintro e w2 ⟨v,rfl,hPR,hG2⟩
 have HPR:Hid (PR w v (backP r)):=hPR
 have HC0:Hid (w2.heap[w.heap.size+1]? = some (.cells (bools (true::List.replicate 7 false)).toArray 185 (0,0))∧Below w.heap.size w w2):=by
  refine ⟨?_,(((Grown.refl w).alloc _).alloc _).below.trans (hG2.below.mono (((Grown.refl w).alloc _).alloc _).size)⟩
  rw [hG2.below.block (w.heap.size+1) (by simp)]
  have e:=heap_alloc_new (w.alloc (.cells #[.bool xb,.slice a1 n1 c1,.slice a2 n2 c2,.slice a3 n3 c3,.bool xe,.slice a5 n5 c5,.int .i64 xc] 56)) (.cells #[.bool true,.bool false,.bool false,.bool false,.bool false,.bool false,.bool false,.bool false] 185)
  simpa [bools,List.replicate] using e
 obtain ⟨pa,pc,rfl,_,_⟩:=hPR
 obtain ⟨nb,hnb⟩:∃ nb,(backP r).length=nb:=⟨_,rfl⟩
 have HNB:Hid ((backP r).length=nb):=hnb
 rw [hnb] at HPR HL ⊢
 have hnbI:(nb:Int)≤16:=by have:=HL.out;omega
 clear hnb hG2 HPB
 go_wp2
 have HBS0:Hid (w.heap.size≤w.heap.size+1):=Nat.le_succ _
 generalize w.heap.size+1=B at HC0 HBS0 ⊢
 have HBS:Hid (w.heap.size≤B):=HBS0.out
 go_loopw [10] (fun vi wr=>∃ (k:Nat) (c:List Bool),vi = .int .i64 k∧k≤nb∧Hid (cpW c ((backP r).drop k)=R∧c.length=8∧wr.heap[B]? = some (.cells (bools c).toArray 185 (0,0))∧Below w.heap.size w wr)) (fun vi _=>nb - (intOf vi).toNat)
 case atStart=>exact ⟨0,_,rfl,by omega,HR.out,by simp,HC0.out.1,HC0.out.2⟩
 case round=>
  obtain ⟨k,c,rfl,hk,H⟩:=hrel
  clear HC0 HR
  have hk0:(0:Int)≤(k:Int):=by omega
  by_cases hlt:k<nb
  · have hlt':(k:Int)<(nb:Int):=by omega
    have hkb:k<(backP r).length:=by rw [HNB.out];exact hlt
    obtain ⟨hcp,hc8,hB,hbel⟩:=H.out
    clear H
    obtain ⟨a',c',e',_,hPr⟩:=HPR.out
    obtain ⟨pg,po,ha',hPd⟩:=hPr.resolve_left (fun e=>by rw [e] at hkb;simp at hkb)
    injection e' with e1 e2 e3
    clear e2 e3
    rw [ha'] at e1
    subst e1
    have hPA:=hPd k hkb
    rw [drop_pl hkb] at hcp
    have hy:=HY.out _ (List.getElem_mem hkb)
    obtain ⟨p,hp⟩:∃ p,(backP r)[k]=p:=⟨_,rfl⟩
    rw [hp] at hPA hcp hy
    obtain ⟨tv,x0,x1,x2,x3,hRs⟩:=hPA
    have y0:=cell_below x0 hbel (Nat.le_refl _)
    have y1:=cell_below x1 hbel (Nat.le_refl _)
    have y2:=cell_below x2 hbel (Nat.le_refl _)
    have y3:=cell_below x3 hbel (Nat.le_refl _)
    obtain ⟨ta,tn,tc,rfl⟩:=hRs.sl
    have HBL:Hid (∀ ob,Below w.heap.size w (wr.alloc ob)):=fun ob=>hbel.trans (((Grown.refl wr).alloc ob).below.mono hbel.size)
    have hBa:∀ ob,(wr.alloc ob).heap[B]? = some (.cells (bools c).toArray 185 (0,0)):=fun ob=>(((Grown.refl wr).alloc ob).below.block B (Array.getElem?_eq_some_iff.1 hB).1).trans hB
    have HBA:Hid (∀ ob,(wr.alloc ob).heap[B]? = some (.cells (bools c).toArray 185 (0,0))):=hBa
    unfold cpW at hcp
    obtain ⟨pk,hpk⟩:∃ pk,p.k=pk:=⟨_,rfl⟩
    obtain ⟨py,hpy⟩:∃ py,p.y=py:=⟨_,rfl⟩
    generalize p.u=pu at y1
    rw [hpk] at y0 hcp hy
    rw [hpy] at y2 hcp hy
    clear hPr ha' hPd hRs hp x0 x1 x2 x3 hpk hpy
    by_cases h2:pk=2
    · subst h2
      obtain ⟨q0,q8⟩:=hy rfl
      rw [if_neg (by simp)] at hcp
      obtain ⟨y,rfl⟩:∃ y:Nat,py=y:=⟨py.toNat,by omega⟩
      have hyc:y<c.length:=by omega
      rw [show ((y:Nat):Int).toNat=y by omega,List.getElem?_eq_getElem hyc] at hcp
      simp only [Option.getD_some] at hcp
      have cy:∀ ob,(wr.alloc ob).cell? ⟨B,y,none⟩=some (.bool c[y]):=fun ob=>by rw [cell_of (hBa ob)];simp [bools,hyc]
      have fy:∀ ob,(wr.alloc ob).frozen? ⟨B,y,none⟩=false:=fun ob=>free_of (hBa ob)
      obtain ⟨cb,hcb⟩:∃ cb,c[y]=cb:=⟨_,rfl⟩
      rw [hcb] at cy hcp
      cases cb with
      | true=>
       as_aux_lemma=>
        have HF:Hid (R=true):=by show R=true;simpa using hcp.symm
        clear hcp hB hBa HBA hcb hy hbel
        go_wp2
        go_ret
        have hrt:=HF.out
        exact ⟨by first | rfl | (rw [hrt];rfl),HBL.out _⟩
      | false=>
       as_aux_lemma=>
        have HF:Hid (cpW (c.set y true) ((backP r).drop (k+1))=R):=by show cpW _ _=R;simpa using hcp
        clear hcp hB hBa hcb hy hbel
        go_wp2
        exact ⟨⟨k+1,c.set y true,by go_num,by omega,HF.out,by simpa using hc8,by rw [set_heap (HBA.out _)];simp [bools,List.map_set],(HBL.out _).setCell (p:=⟨B,y,none⟩) (by have:=HBS.out;omega) _⟩,by simp [intOf];omega⟩
    · as_aux_lemma=>
       have h2':(pk != 2)=true:=by simpa using h2
       have HF:Hid (cpW c ((backP r).drop (k+1))=R):=by rw [if_pos h2] at hcp;exact hcp
       clear hcp hB hBa hy hbel
       go_wp2
       exact ⟨⟨k+1,c,by go_num,by omega,HF.out,hc8,HBA.out _,HBL.out _⟩,by simp [intOf];omega⟩
  · as_aux_lemma=>
     have hge:¬ (k:Int)<(nb:Int):=by omega
     obtain ⟨hcp,_,_,hbel⟩:=H.out
     rw [List.drop_eq_nil_of_le (by rw [HNB.out];omega),cpW] at hcp
     have HF:Hid (R=false∧Below w.heap.size w wr):=⟨hcp.symm,hbel⟩
     clear H hcp hbel
     go_wp2
     go_ret
     have hrt:=HF.out.1
     exact ⟨by first | rfl | (rw [hrt];rfl),HF.out.2⟩
def fb1 (b:Pb) (u:Value):List Value:=[.int .i64 (b.r:Nat),u,.int .i64 b.wt]
def fbk:List Pb→List Value→List Value
 | b::l,u::us=>fb1 b u++fbk l us
 | _,_=>[]
theorem fbk_snoc:∀ (l:List Pb) (us:List Value) (b:Pb) (u:Value),us.length=l.length→fbk (l++[b]) (us++[u])=fbk l us++fb1 b u
 | [],[],b,u,_=>by simp [fbk]
 | [],_::_,_,_,h=>by simp at h
 | _::_,[],_,_,h=>by simp at h
 | c::l,v::us,b,u,h=>by
  have:=fbk_snoc l us b u (by simpa using h)
  simp only [List.cons_append,fbk,this,List.append_assoc]
theorem fbk_at:∀ (l:List Pb) (us:List Value) (j:Nat) (h:j<l.length) (h':j<us.length),(fbk l us)[j*3]? = some (.int .i64 (l[j].r:Nat))∧(fbk l us)[j*3+1]? = some us[j]∧(fbk l us)[j*3+2]? = some (.int .i64 l[j].wt)
 | [],_,j,h,_=>by simp at h
 | _::_,[],j,_,h=>by simp at h
 | b::l,u::us,0,_,_=>by simp [fbk,fb1]
 | b::l,u::us,j+1,h,h'=>by
  have:=fbk_at l us j (by simpa using h) (by simpa using h')
  rw [show (j+1)*3=j*3+3 by omega]
  simpa [fbk,fb1] using this
def BKo (W:World) (base:Nat) (v:Value) (bk:List Pb) (uvs:List Value):Prop:=uvs.length=bk.length∧W.ownsRow base 193 3 v bk.length (fbk bk uvs)
theorem BKo.bk {W:World} {base:Nat} {v:Value} {bk:List Pb} {uvs:List Value} (h:BKo W base v bk uvs):BK W base v bk uvs:=by
 obtain ⟨h0,h⟩:=h
 have hc := @World.ownsRow.cells
 rcases h.2 with ⟨rfl,h1⟩ | ⟨g,cap,cur,rfl,h1,h2,h3,_⟩
 · have hb:bk=[]:=List.eq_nil_of_length_eq_zero h1
   subst hb
   exact ⟨h0,none,0,rfl,Nat.le_refl _,.inl rfl⟩
 · refine ⟨h0,_,cap,rfl,h3,.inr ⟨g,cur,rfl,h1,h2,fun j hj hj' => ?_⟩⟩
   obtain ⟨a1,a2,a3⟩:=fbk_at bk uvs j hj hj'
   have b1:=World.ownsRow.cells h rfl _ _ a1
   have b2:=World.ownsRow.cells h rfl _ _ a2
   have b3:=World.ownsRow.cells h rfl _ _ a3
   rw [add_zero_at] at b1 b2 b3
   exact ⟨b1,b2,b3⟩
theorem BKo.turn {W W':World} {base B:Nat} {v:Value} {bk:List Pb} {uvs:List Value} {o:Obj} (h:BKo W base v bk uvs) (ho:W.heap[B]? = some o) (hn:∀ cs m,o ≠ .cells cs 193 m) (k:Turns B W W'):BKo W' base v bk uvs:=by
 refine ⟨h.1,h.2.1,?_⟩
 rcases h.2.2 with h | ⟨g,cap,cur,e1,h1,h2,h3⟩
 · exact .inl h
 · exact .inr ⟨g,cap,cur,e1,h1,(k g (ne_obj h2 ho (fun e=>hn cur _ e.symm))).trans h2,h3⟩
theorem BKo.below {W W':World} {base:Nat} {v:Value} {bk:List Pb} {uvs:List Value} (h:BKo W base v bk uvs) (hb:Below W.heap.size W W'):BKo W' base v bk uvs:=by
 refine ⟨h.1,h.2.1,?_⟩
 rcases h.2.2 with h | ⟨g,cap,cur,e1,h1,h2,h3⟩
 · exact .inl h
 · exact .inr ⟨g,cap,cur,e1,h1,(hb.block g (Array.getElem?_eq_some_iff.1 h2).1).trans h2,h3⟩
theorem BKo.row {W:World} {base:Nat} {v:Value} {bk:List Pb} {uvs:List Value} (h:BKo W base v bk uvs) {b:Nat} (hb:v.ownBlock=some b):base≤b∧∃ cs,W.heap[b]? = some (.cells cs 193 (0,0)):=by
 rcases h.2.2 with ⟨rfl,_⟩ | ⟨g,cap,cur,rfl,h1,h2,_⟩
 · simp [Value.ownBlock] at hb
 · simp [Value.ownBlock] at hb
   subst hb
   exact ⟨h1,cur,h2⟩
theorem UR.keep {W W':World} {base:Nat} {v:Value} {l:List (Int × Int)} (h:UR W base v l) (hk:∀ g,g<W.heap.size→(g<base∨∃ cs m,W.heap[g]? = some (.cells cs 97 m))→W'.heap[g]? = W.heap[g]?):UR W' base v l:=by
 obtain ⟨a,cap,h1,h2,h3⟩:=h
 refine ⟨a,cap,h1,h2,?_⟩
 by_cases hl:l=[]
 · exact .inl hl
 · obtain ⟨g,o,h4,h5,h6⟩:=h3.resolve_left hl
   have he:=hk g (h5.lt hl) h6
   refine .inr ⟨g,o,h4,fun j hj => ?_,h6.imp id fun ⟨cs,m,h6⟩=>⟨cs,m,he.trans h6⟩⟩
   rw [cell_same he,cell_same he]
   exact h5 j hj
section
variable {W W1 w0:World} {sp m1 ga m2 N1 N2:Nat} {bv:Value} {uvs:List Value} {rv:Value} {rs:List Rl} {st:St} {ln:Int→Option Value}
theorem Sc.turn5 (h:Sc W w0 sp m1 ga m2 N1 N2 bv uvs rv rs st (fun _=>none)) (ho:BKo W w0.heap.size bv st.bk uvs) {g cap n:Nat} {b:Pb} {uv:Value} (hn:st.bk.length=n) (hown:W1.ownsRow w0.heap.size 193 3 (.slice (some ⟨g,0,none⟩) (n+1) cap) (n+1) (fbk st.bk uvs++fb1 b uv)) (hgr:W.grownBy W1 bv.ownBlock) (hu:UR W w0.heap.size uv b.us) :
 Sc (W1.setCell ⟨sp,3,none⟩ (.slice (some ⟨g,0,none⟩) (n+1) cap)) w0 sp m1 ga m2 N1 N2 (.slice (some ⟨g,0,none⟩) (n+1) cap) (uvs++[uv]) rv rs ⟨st.ws,st.aq,st.bk++[b]⟩ (fun _=>none)∧BKo (W1.setCell ⟨sp,3,none⟩ (.slice (some ⟨g,0,none⟩) (n+1) cap)) w0.heap.size (.slice (some ⟨g,0,none⟩) (n+1) cap) (st.bk++[b]) (uvs++[uv])∧Below w0.heap.size W1 (W1.setCell ⟨sp,3,none⟩ (.slice (some ⟨g,0,none⟩) (n+1) cap)):=by
 have hk:∀ {x:Nat} {o:Obj},W.heap[x]? = some o→(∀ cs m,o ≠ .cells cs 193 m)→W1.heap[x]? = some o:=fun {x o} hx hne=>by
  refine (hgr.block x (Array.getElem?_eq_some_iff.1 hx).1 (fun e => ?_)).trans hx
  obtain ⟨_,cs,hc⟩:=ho.row e.symm
  rw [hx] at hc
  injection hc with hc
  exact hne _ _ hc
 have hB1:Below w0.heap.size W W1:=(Below.refl _ W).grown hgr h.bel.size (fun x hx=>(ho.row hx).1)
 have hblk:=hk h.blk (by simp)
 obtain ⟨es,c,ho1⟩:=h.wm.isMap
 obtain ⟨es2,c2,ho2⟩:=h.lnm.isMap
 have hk1:=hk ho1 (by simp)
 have hk2:=hk ho2 (by simp)
 have hka:=hk h.asb (by simp)
 have ht:=turns_set W1 sp 3 (.slice (some ⟨g,0,none⟩) (n+1) cap)
 have e1:m1≠sp:=ne_obj hk1 hblk (by simp)
 have e2:m2≠sp:=ne_obj hk2 hblk (by simp)
 have e3:ga≠sp:=ne_obj hka hblk (by simp)
 have hbl:(st.bk++[b]).length=n+1:=by simp [hn]
 have hBK1:BKo W1 w0.heap.size (.slice (some ⟨g,0,none⟩) (n+1) cap) (st.bk++[b]) (uvs++[uv]):=by
  refine ⟨by simp [ho.1],?_⟩
  rw [hbl,fbk_snoc _ _ _ _ ho.1]
  exact hown
 have hBK:=hBK1.turn hblk (by simp) ht
 have hur:∀ {v:Value} {l:List (Int × Int)},UR W w0.heap.size v l→UR (W1.setCell ⟨sp,3,none⟩ (.slice (some ⟨g,0,none⟩) (n+1) cap)) w0.heap.size v l:=fun {v l} hv=>by
  have h1:UR W1 w0.heap.size v l:=hv.keep (fun x hx hc=>by
   refine hgr.block x hx (fun e => ?_)
   obtain ⟨hb,cs,hcs⟩:=ho.row e.symm
   rcases hc with hc | ⟨cs',m,hc⟩
   · omega
   · rw [hc] at hcs;simp at hcs)
  exact h1.turn h.bsp hblk (by simp) ht
 refine ⟨⟨?_,(h.bel.trans hB1).setCell h.bsp _,h.rul,h.bsp,h.bm1,h.bga,h.bm2,h.m12,h.wm.kept (fun o hb=>(ht _ e1).trans (by rw [ho1] at hb;cases hb;exact hk1)),(ht _ e3).trans hka,hBK.bk,fun j hj hj' => ?_,h.lnm.kept (fun o hb=>(ht _ e2).trans (by rw [ho2] at hb;cases hb;exact hk2)),fun k v e=>by cases e⟩,hBK,(Below.refl _ _).setCell h.bsp _⟩
 · rw [set_heap hblk];simp
 · by_cases hlt:j<st.bk.length
   · rw [List.getElem_append_left hlt,List.getElem_append_left (by rw [ho.1];exact hlt)]
     exact hur (h.urs j hlt (by rw [ho.1];exact hlt))
   · have hje:j=st.bk.length:=by simp at hj;omega
     subst hje
     rw [List.getElem_append_right (Nat.le_refl _),List.getElem_append_right (by rw [ho.1];exact Nat.le_refl _)]
     simpa using hur hu
end
theorem make_zero (n:Nat) (hn:n≤1000000) (W:World):(Instr.makeSlice 46 (.int .i64 n) (.int .i64 n)).run Tryz.prog W = .ok (.slice (some ⟨W.heap.size,0,none⟩) n n) (W.alloc (.cells (ints (List.replicate n 0)).toArray 3)):=by
 obtain ⟨i0,hi,hz0,hz1,hz2⟩:=info_parts iinfo3
 have h:=run_make (P:=Tryz.prog) W 46 3 i0 (.int .i64 0) Tryz.underlying46 hi hz0 .i64 .i64 (n:Int) (n:Int) (by omega) (Int.le_refl _) (by rw [hz2];omega) (by omega)
 rw [h,show (n:Int).toNat=n by omega,hz1,Nat.mul_one]
 congr 3
 rw [←Array.toList_inj]
 show (madeCells #[.int .i64 0] n).toList=_
 rw [toList_madeCells_one]
 simp [ints]
def stK (rs:List Rl) (k:Nat):St:=⟨List.replicate k 1,(rs.take k).map askI++List.replicate (rs.length - k) 0,bkI rs k⟩
def aqJ (rs:List Rl) (k:Nat) (x:Int):List Int:=(rs.take k).map askI++x::List.replicate (rs.length - (k+1)) 0
def stJ (rs:List Rl) (k j:Nat) (r:Rl):St:=⟨List.replicate (k+1) 1,aqJ rs k (2 - (r.key.length:Int)+(j:Nat)),bkI rs k++pbs k ((backP r).take j)⟩
theorem take_len {rs:List Rl} {k:Nat} (h:k<rs.length):((rs.take k).map askI).length=k:=by simp;omega
theorem aqJ_len {rs:List Rl} {k:Nat} (h:k<rs.length) (x:Int):(aqJ rs k x).length=rs.length:=by
 unfold aqJ
 rw [List.length_append,take_len h]
 simp
 omega
theorem aqJ_set {rs:List Rl} {k:Nat} (h:k<rs.length) (x y:Int):(aqJ rs k x).set k y=aqJ rs k y:=by
 unfold aqJ
 rw [List.set_append_right k y (by rw [take_len h];exact Nat.le_refl _),take_len h]
 simp
theorem aqJ_at {rs:List Rl} {k:Nat} (h:k<rs.length) (x:Int):(aqJ rs k x)[k]? = some x:=by
 unfold aqJ
 rw [List.getElem?_append_right (by rw [take_len h];exact Nat.le_refl _),take_len h]
 simp
theorem stK_set {rs:List Rl} {k:Nat} (h:k<rs.length) (x:Int):(stK rs k).aq.set k x=aqJ rs k x:=by
 unfold stK aqJ
 simp only
 rw [show rs.length - k=(rs.length - (k+1))+1 by omega,List.replicate_succ,List.set_append_right k x (by rw [take_len h];exact Nat.le_refl _),take_len h]
 simp
theorem stK_len {rs:List Rl} {k:Nat} (h:k≤rs.length):(stK rs k).aq.length=rs.length:=by
 unfold stK
 simp
 omega
theorem stJ_end {rs:List Rl} {k:Nat} (h:k<rs.length):stJ rs k (backP rs[k]).length rs[k]=stK rs (k+1):=by
 unfold stJ stK aqJ
 have h1:(rs.take (k+1)).map askI=(rs.take k).map askI++[askI rs[k]]:=by
  rw [List.take_add_one,List.map_append,List.getElem?_eq_getElem h]
  rfl
 rw [h1,List.take_of_length_le (Nat.le_refl _)]
 congr 1
 · simp [askI]
 · rw [bkI,List.getElem?_eq_getElem h]
   rfl
theorem stJ_start {rs:List Rl} {k:Nat} (r:Rl):stJ rs k 0 r=⟨List.replicate k 1++[1],aqJ rs k (2 - (r.key.length:Int)),(stK rs k).bk⟩:=by
 unfold stJ stK
 simp [pbs,List.replicate_succ']
theorem stJ_bk {rs:List Rl} {k j:Nat} {r:Rl} (hj:j<(backP r).length):(stJ rs k (j+1) r).bk=(stJ rs k j r).bk++(if (backP r)[j].k=2 then [] else [⟨k,mayB (backP r)[j],1⟩]):=by
 unfold stJ
 simp only
 rw [List.take_add_one,List.getElem?_eq_getElem hj,List.append_assoc]
 congr 1
 exact pbs_snoc _ _ _
theorem info121:(Tryz.prog.info? 193).map (fun i=>(i.zero,i.size,i.bytes))=some (some (.agg #[.int .i64 0,.slice none 0 0,.int .i64 0]),3,40):=by kernel_rfl
theorem Sc.sp_grown {W W1 w0:World} {sp m1 ga m2 N1 N2:Nat} {bv:Value} {uvs:List Value} {rv:Value} {rs:List Rl} {st:St} {ln:Int→Option Value} (h:Sc W w0 sp m1 ga m2 N1 N2 bv uvs rv rs st ln) (ho:BKo W w0.heap.size bv st.bk uvs) (hgr:W.grownBy W1 bv.ownBlock):W1.heap[sp]? = some (.cells #[rv,.map (some m1),.slice (some ⟨ga,0,none⟩) st.aq.length st.aq.length,bv,.map (some m2)] 190 (0,0)):=by
 refine (hgr.block sp (Array.getElem?_eq_some_iff.1 h.blk).1 (fun e => ?_)).trans h.blk
 obtain ⟨_,cs,hc⟩:=ho.row e.symm
 rw [h.blk] at hc
 simp at hc
def NsQ (w:World) (rv:Value) (rs:List Rl) (e:Ending) (w':World):Prop:=∃ sp m1 ga m2 bv uvs,e = .returned (.pointer (some ⟨sp,0,none⟩))∧Sc w' w sp m1 ga m2 rs.length 0 bv uvs rv rs (stK rs rs.length) (fun _=>none)
set_option maxHeartbeats 16000000 in
theorem newScale_any (rv:Value) (rs:List Rl) (w:World) (h:PsR w rv rs) (hO:∀ r∈rs,Ok r) (hn:rs.length≤256) :
 Calls Tryz.prog 121 #[rv] w (NsQ w rv rs):=by
 have HP:Hid (PsR w rv rs):=h
 have HO:Hid (∀ r∈rs,Ok r):=hO
 obtain ⟨ra,rc,rfl,_,_⟩:=h
 obtain ⟨n,hnn⟩:∃ n,rs.length=n:=⟨_,rfl⟩
 have HN:Hid (rs.length=n):=hnn
 rw [hnn] at hn HP ⊢
 have hnI:(n:Int)≤256:=by omega
 have hmk:=make_zero n (by omega)
 have hmm := @run_makeMap Tryz.prog
 clear hnn hO
 go_enter Tryz.func121,Tryz.ntmps121
 obtain ⟨W1,hW1⟩:∃ W1,W1=((((w.alloc (.map #[] 0)).alloc (.cells (ints (List.replicate n 0)).toArray 3)).alloc (.map #[] 0)).alloc (.cells #[.slice ra n rc,.map (some w.heap.size),.slice (some ⟨w.heap.size+1,0,none⟩) n n,.slice none 0 0,.map (some (w.heap.size+1+1))] 190)):=⟨_,rfl⟩
 have H0:Hid (∃ bv uvs,Sc W1 w (w.heap.size+1+1+1) w.heap.size (w.heap.size+1) (w.heap.size+1+1) 0 0 bv uvs (.slice ra n rc) rs (stK rs 0) (fun _=>none)∧BKo W1 w.heap.size bv (stK rs 0).bk uvs):=by
  have g1:Grown (w.alloc (.map #[] 0)) W1:=by rw [hW1];exact (((Grown.refl _).alloc _).alloc _).alloc _
  have b1:W1.heap[w.heap.size+1]? = some (.cells (ints (List.replicate n 0)).toArray 3 (0,0)):=by
   have g:Grown ((w.alloc (.map #[] 0)).alloc (.cells (ints (List.replicate n 0)).toArray 3)) W1:=by rw [hW1];exact ((Grown.refl _).alloc _).alloc _
   have e:=heap_alloc_new (w.alloc (.map #[] 0)) (.cells (ints (List.replicate n 0)).toArray 3)
   have e2:=g.below.block (w.heap.size+1) (by simp)
   rw [e2]
   simpa using e
  have b3:W1.heap[w.heap.size+1+1+1]? = some (.cells #[.slice ra n rc,.map (some w.heap.size),.slice (some ⟨w.heap.size+1,0,none⟩) n n,.slice none 0 0,.map (some (w.heap.size+1+1))] 190 (0,0)):=by
   rw [hW1]
   have e:=heap_alloc_new (((w.alloc (.map #[] 0)).alloc (.cells (ints (List.replicate n 0)).toArray 3)).alloc (.map #[] 0)) (.cells #[.slice ra n rc,.map (some w.heap.size),.slice (some ⟨w.heap.size+1,0,none⟩) n n,.slice none 0 0,.map (some (w.heap.size+1+1))] 190)
   simpa using e
  have i1:IMap W1 w.heap.size 0 (fun _=>none):=(IMap.made w).kept (fun o ho=>(g1.below.block _ (Array.getElem?_eq_some_iff.1 ho).1).trans ho)
  have i2:IMap W1 (w.heap.size+1+1) 0 (fun _=>none):=by
   have g:Grown (((w.alloc (.map #[] 0)).alloc (.cells (ints (List.replicate n 0)).toArray 3)).alloc (.map #[] 0)) W1:=by rw [hW1];exact (Grown.refl _).alloc _
   have:=(IMap.made ((w.alloc (.map #[] 0)).alloc (.cells (ints (List.replicate n 0)).toArray 3))).kept (W':=W1) (fun o ho=>(g.below.block _ (Array.getElem?_eq_some_iff.1 ho).1).trans ho)
   simpa using this
  have hB:BKo W1 w.heap.size (.slice none 0 0) (stK rs 0).bk []:=⟨rfl,World.ownsRow_nil _ _ _ _⟩
  have hl:=HN.out
  refine ⟨.slice none 0 0,[],⟨?_,?_,HP.out,by omega,by omega,by omega,by omega,by omega,?_,?_,hB.bk,fun j hj=>by simp [stK,bkI] at hj,i2,fun k v e=>by cases e⟩,hB⟩
  · rw [b3,stK_len (Nat.zero_le _),hl]
  · rw [hW1];exact (((((Grown.refl _).alloc _).alloc _).alloc _).alloc _).below
  · have:wsF (stK rs 0).ws=fun _=>none:=by funext k;simp [wsF,stK]
    rw [this];exact i1
  · rw [b1];simp [stK,hl]
 go_wp2
 rw [show (((w.alloc (.map #[] 0)).alloc (.cells (ints (List.replicate n 0)).toArray 3)).alloc (.map #[] 0)).alloc (.cells #[.slice ra n rc,.map (some w.heap.size),.slice (some ⟨w.heap.size+1,0,none⟩) n n,.slice none 0 0,.map (some (w.heap.size+1+1))] 190)=W1 from hW1.symm]
 clear hW1 hmk hmm
 generalize w.heap.size+1+1+1=sp at H0 ⊢
 generalize w.heap.size+1+1=m2 at H0 ⊢
 generalize w.heap.size+1=ga at H0 ⊢
 go_loopw [18] (fun vi wr=>∃ k:Nat,vi = .int .i64 k∧k≤n∧Hid (∃ bv uvs,Sc wr w sp w.heap.size ga m2 k 0 bv uvs (.slice ra n rc) rs (stK rs k) (fun _=>none)∧BKo wr w.heap.size bv (stK rs k).bk uvs)) (fun vi _=>n - (intOf vi).toNat)
 case atStart=>exact ⟨0,rfl,by omega,H0⟩
 case round=>
  obtain ⟨k,rfl,hk,HSk⟩:=hrel
  clear H0
  have hk0:(0:Int)≤(k:Int):=by omega
  by_cases hlt:k<n
  · have hlt':(k:Int)<(n:Int):=by omega
    have hkI:(k:Int)≤256:=by omega
    have hkl:k<rs.length:=by rw [HN.out];exact hlt
    obtain ⟨bv,uvs,hS,hB⟩:=HSk.out
    clear HSk
    obtain ⟨a',c',e',_,hPr⟩:=HP.out
    obtain ⟨g,o,ha',hRA⟩:=hPr.resolve_left (fun e=>by rw [e] at hkl;simp at hkl)
    injection e' with e1 e2 e3
    clear e2 e3
    rw [ha'] at e1
    subst e1
    have hRn:=hRA k hkl
    have hOk:=HO.out _ (List.getElem_mem hkl)
    obtain ⟨r,hr⟩:∃ r,rs[k]=r:=⟨_,rfl⟩
    rw [hr] at hRn hOk
    have hRw:=hRn.below hS.bel (Nat.le_refl _)
    obtain ⟨av,kv,pv,rv',r0,r1,r2,r3,r4,r5,r6,hRR⟩:=hRw
    obtain ⟨av2,kv2,pv2,rv2,s0,s1,s2,s3,s4,s5,s6,hRR0⟩:=hRn
    have t1:=cell_below s1 hS.bel (Nat.le_refl _)
    have t2:=cell_below s2 hS.bel (Nat.le_refl _)
    have t3:=cell_below s3 hS.bel (Nat.le_refl _)
    have t5:=cell_below s5 hS.bel (Nat.le_refl _)
    rw [t1] at r1;cases r1
    rw [t2] at r2;cases r2
    rw [t3] at r3;cases r3
    rw [t5] at r5;cases r5
    have HPB:Hid (∀ wx,Calls Tryz.prog 142 #[.agg #[.bool r.bg,av,kv,pv,.bool r.en,rv',.int .i64 r.cu]] wx fun e w'=>∃ v,e = .returned v∧PR w v (backP r)∧Grown wx w'):=fun wx=>putBack_any r av kv pv rv' wx w hRR0 hOk.c0 hOk.c1
    have hkl8:(r.key.length:Int)≤8:=by have:=hOk.k8;omega
    have HKL:Hid (1≤r.key.length∧r.key.length≤8∧(backP r).length≤16):=⟨hOk.k0,hOk.k8,by have:=hOk.r16;simp [backP];omega⟩
    obtain ⟨a1,n1,c1,rfl⟩:=hRR0.a.sl
    obtain ⟨ka,kc,hkv,_,_⟩:=hRR0.k
    subst hkv
    obtain ⟨a3,n3,c3,rfl⟩:=hRR0.p.sl
    obtain ⟨a5,n5,c5,rfl⟩:=hRR0.r.sl
    obtain ⟨kl,hkl'⟩:∃ kl,r.key.length=kl:=⟨_,rfl⟩
    rw [hkl'] at t2 HPB hkl8 HKL
    have hkl0:(0:Int)≤(kl:Int):=by omega
    obtain ⟨xb,hxb⟩:∃ xb,r.bg=xb:=⟨_,rfl⟩
    obtain ⟨xe,hxe⟩:∃ xe,r.en=xe:=⟨_,rfl⟩
    obtain ⟨xc,hxc⟩:∃ xc,r.cu=xc:=⟨_,rfl⟩
    rw [hxb] at r0 HPB
    rw [hxe] at r4 HPB
    rw [hxc] at r6 HPB
    obtain ⟨W5,hW5⟩:∃ W5,W5=wr.alloc (.cells #[.bool xb,.slice a1 n1 c1,.slice ka kl kc,.slice a3 n3 c3,.bool xe,.slice a5 n5 c5,.int .i64 xc] 56):=⟨_,rfl⟩
    have hG5:Grown wr W5:=by rw [hW5];exact (Grown.refl _).alloc _
    have b5:W5.heap[wr.heap.size]? = some (.cells #[.bool xb,.slice a1 n1 c1,.slice ka kl kc,.slice a3 n3 c3,.bool xe,.slice a5 n5 c5,.int .i64 xc] 56 (0,0)):=by rw [hW5];exact heap_alloc_new _ _
    have hS5:=hS.grown hG5
    have hB5:=hB.below hG5.below
    obtain ⟨W6,hrun,hI,ht⟩:=hS5.wm.store (by omega) Tryz.underlying187 (k:=(k:Int)) ⟨by omega,by omega⟩ (.int .i64 1)
    obtain ⟨es6,c6,ho6⟩:=hS5.wm.isMap
    have hwl:(stK rs k).ws.length=k:=by simp [stK]
    have hI2:IMap W6 w.heap.size (k+1) (wsF ((stK rs k).ws++[1])):=by rw [←wsF_snoc,hwl];exact hI
    have hS6:=hS5.turn1 ht hI2
    have hB6:BKo W6 w.heap.size bv (stK rs k).bk uvs:=hB5.turn ho6 (by simp) (fun b hb=>turned_other ht hb)
    have b6:W6.heap[wr.heap.size]? = some (.cells #[.bool xb,.slice a1 n1 c1,.slice ka kl kc,.slice a3 n3 c3,.bool xe,.slice a5 n5 c5,.int .i64 xc] 56 (0,0)):=(turned_other ht (ne_obj b5 ho6 (by simp))).trans b5
    have q1:∀ o,(wr.alloc o).cell? ⟨sp,1,none⟩=some (.map (some w.heap.size)):=fun o=>cell_up (by rw [cell_of hS.blk];simp) o
    have hal:(stK rs k).aq.length=n:=by rw [stK_len (by omega)];exact HN.out
    have q2:W6.cell? ⟨sp,2,none⟩=some (.slice (some ⟨ga,0,none⟩) n n):=by rw [cell_of hS6.blk];simp [hal]
    have hga6:=hS6.asb
    have hkq:k<(stK rs k).aq.length:=by omega
    have qa:∃ u,W6.cell? ⟨ga,k,none⟩=some u:=by rw [cell_of hga6];exact ⟨.int .i64 (at0 (stK rs k).aq k),by simp [ints,at0,hkq]⟩
    obtain ⟨u6,qa⟩:=qa
    have qf:W6.frozen? ⟨ga,k,none⟩=false:=free_of hga6
    have q5:W6.cell? ⟨wr.heap.size,2,none⟩=some (.slice ka kl kc):=by rw [cell_of b6];simp
    -- behind the store
    have hS7:=hS6.turn2 k (2 - (kl:Int))
    rw [show (St.mk ((stK rs k).ws++[1]) (stK rs k).aq (stK rs k).bk).aq=(stK rs k).aq from rfl,stK_set hkl] at hS7
    have hB7:=hB6.turn hga6 (by simp) (turns_set W6 ga k (.int .i64 (2 - (kl:Int))))
    have b7:(W6.setCell ⟨ga,k,none⟩ (.int .i64 (2 - (kl:Int)))).heap[wr.heap.size]? = some (.cells #[.bool xb,.slice a1 n1 c1,.slice ka kl kc,.slice a3 n3 c3,.bool xe,.slice a5 n5 c5,.int .i64 xc] 56 (0,0)):=(turns_set _ _ _ _ _ (ne_obj b6 hga6 (by simp))).trans b6
    have HJ0:Hid (∃ bv uvs,Sc (W6.setCell ⟨ga,k,none⟩ (.int .i64 (2 - (kl:Int)))) w sp w.heap.size ga m2 (k+1) 0 bv uvs (.slice (some ⟨g,o,none⟩) n rc) rs (stJ rs k 0 r) (fun _=>none)∧BKo (W6.setCell ⟨ga,k,none⟩ (.int .i64 (2 - (kl:Int)))) w.heap.size bv (stJ rs k 0 r).bk uvs):=by
     rw [stJ_start,hkl']
     exact ⟨bv,uvs,hS7,hB7⟩
    have HR:Hid (rs[k]=r∧r.key.length=kl∧k<rs.length):=⟨hr,hkl',hkl⟩
    rw [hW5] at hrun
    clear hS hB hPr ha' hRA hOk hr hRR hRR0 hS5 hB5 hI hI2 hS6 hB6 ht ho6 hwl hal hga6 hkq hS7 hB7 hxb hxe hxc hkl' s0 s1 s2 s3 s4 s5 s6
    obtain ⟨W7,hW7⟩:∃ W7,W7=W6.setCell ⟨ga,k,none⟩ (.int .i64 (2 - (kl:Int))):=⟨_,rfl⟩
    rw [←hW7] at HJ0 b7
    have hnum:(1:Int) - ((kl:Int) - 1)=2 - (kl:Int):=by omega
    have p0:W7.cell? ⟨wr.heap.size,0,none⟩=some (.bool xb):=by rw [cell_of b7];simp
    have p1:W7.cell? ⟨wr.heap.size,1,none⟩=some (.slice a1 n1 c1):=by rw [cell_of b7];simp
    have p2:W7.cell? ⟨wr.heap.size,2,none⟩=some (.slice ka kl kc):=by rw [cell_of b7];simp
    have p3:W7.cell? ⟨wr.heap.size,3,none⟩=some (.slice a3 n3 c3):=by rw [cell_of b7];simp
    have p4:W7.cell? ⟨wr.heap.size,4,none⟩=some (.bool xe):=by rw [cell_of b7];simp
    have p5:W7.cell? ⟨wr.heap.size,5,none⟩=some (.slice a5 n5 c5):=by rw [cell_of b7];simp
    have p6:W7.cell? ⟨wr.heap.size,6,none⟩=some (.int .i64 xc):=by rw [cell_of b7];simp
    clear b5 b6 b7 hW5 hG5
    go_wp2
    go_region
    rw [←hW7]
    clear hW7 q1 q2 qa qf q5 hrun hnum
    go_wp2_with fail
    refine (HPB.out _).mono ?_
    rintro e w8 ⟨v,rfl,hPR,hG8⟩
    have HPR:Hid (PR w v (backP r)):=hPR
    have HJ1:Hid (∃ bv uvs,Sc w8 w sp w.heap.size ga m2 (k+1) 0 bv uvs (.slice (some ⟨g,o,none⟩) n rc) rs (stJ rs k 0 r) (fun _=>none)∧BKo w8 w.heap.size bv (stJ rs k 0 r).bk uvs):=by
     obtain ⟨bv,uvs,h1,h2⟩:=HJ0.out
     have hg:Grown W7 w8:=(Grown.refl W7).drew.trans hG8
     exact ⟨bv,uvs,h1.grown hg,h2.below hg.below⟩
    obtain ⟨pa,pc,rfl,_,_⟩:=hPR
    obtain ⟨nb,hnb⟩:∃ nb,(backP r).length=nb:=⟨_,rfl⟩
    have HNB:Hid ((backP r).length=nb):=hnb
    rw [hnb] at HPR HKL ⊢
    have hnbI:(nb:Int)≤16:=by have:=HKL.out;omega
    clear hnb HJ0 hG8 HPB p0 p1 p2 p3 p4 p5 p6 r0 r4 r6 t1 t2 t3 t5 HP
    go_wp2
    go_loopw [42] (fun vj wx=>∃ j:Nat,vj = .int .i64 j∧j≤nb∧Hid (∃ bv uvs,Sc wx w sp w.heap.size ga m2 (k+1) 0 bv uvs (.slice (some ⟨g,o,none⟩) n rc) rs (stJ rs k j r) (fun _=>none)∧BKo wx w.heap.size bv (stJ rs k j r).bk uvs)) (fun vj _=>nb - (intOf vj).toNat)
    case atStart=>exact ⟨0,rfl,by omega,HJ1⟩
    case round=>
     obtain ⟨j,rfl,hj,HSj⟩:=hrel
     clear HJ1
     have hj0:(0:Int)≤(j:Int):=by omega
     by_cases hjl:j<nb
     · have hjl':(j:Int)<(nb:Int):=by omega
       have hjb:j<(backP r).length:=by rw [HNB.out];exact hjl
       obtain ⟨bv2,uvs2,hS,hB⟩:=HSj.out
       clear HSj
       obtain ⟨a',c',e',_,hPr⟩:=HPR.out
       obtain ⟨pg,po,ha',hPd⟩:=hPr.resolve_left (fun e=>by rw [e] at hjb;simp at hjb)
       injection e' with e1 e2 e3
       clear e2 e3
       rw [ha'] at e1
       subst e1
       have hPA:=hPd j hjb
       have hbk1:=stJ_bk (rs:=rs) (k:=k) hjb
       obtain ⟨p,hp⟩:∃ p,(backP r)[j]=p:=⟨_,rfl⟩
       rw [hp] at hPA hbk1
       obtain ⟨tv,x0,x1,x2,x3,hRs⟩:=hPA
       have y0:=cell_below x0 hS.bel (Nat.le_refl _)
       have y1:=cell_below x1 hS.bel (Nat.le_refl _)
       have y2:=cell_below x2 hS.bel (Nat.le_refl _)
       have y3:=cell_below x3 hS.bel (Nat.le_refl _)
       have HUR:Hid (∀ W',Below w.heap.size w W'→UR W' w.heap.size tv p.tl):=fun W' hb=>hRs.ur hb
       obtain ⟨ta,tn,tc,rfl⟩:=hRs.sl
       have HPK:Hid ((backP r)[j]=p):=hp
       have hkrs:=HR.out.2.2
       have hql:(stJ rs k j r).aq.length=n:=by show (aqJ rs k _).length=n;rw [aqJ_len hkrs];exact HN.out
       have z2:∀ o,(wr.alloc o).cell? ⟨sp,2,none⟩=some (.slice (some ⟨ga,0,none⟩) n n):=fun o=>cell_up (by rw [cell_of hS.blk];simp [hql]) o
       have za:∀ o,(wr.alloc o).cell? ⟨ga,k,none⟩=some (.int .i64 (2 - (kl:Int)+(j:Int))):=fun o=>cell_up (by rw [cell_of hS.asb];show (ints (aqJ rs k _)).toArray[k]? = _;simp [ints,aqJ_at hkrs,HR.out.2.1]) o
       have zf:∀ ob,(wr.alloc ob).frozen? ⟨ga,k,none⟩=false:=fun ob=>free_of (B:=ga) (((Grown.refl wr).alloc ob).below.block ga (Array.getElem?_eq_some_iff.1 hS.asb).1 |>.trans hS.asb)
       obtain ⟨pk,hpk⟩:∃ pk,p.k=pk:=⟨_,rfl⟩
       obtain ⟨pu,hpu⟩:∃ pu,p.u=pu:=⟨_,rfl⟩
       obtain ⟨py,hpy⟩:∃ py,p.y=py:=⟨_,rfl⟩
       rw [hpk] at y0
       rw [hpu] at y1
       rw [hpy] at y2
       have HMB:Hid (∀ wx,UR wx w.heap.size (.slice ta tn tc) p.tl→Calls Tryz.prog 143 #[.agg #[.int .i64 pk,.int .i64 pu,.int .i64 py,.slice ta tn tc]] wx fun e w'=>∃ v,e = .returned v∧UR w' w.heap.size v (mayB p)∧Grown wx w'):=fun wx hx=>by
        have:=mayBe_any p (.slice ta tn tc) wx w.heap.size hx
        rw [hpk,hpu,hpy] at this
        exact this
       have HBK1:Hid ((stJ rs k (j+1) r).bk=(stJ rs k j r).bk++(if pk=2 then [] else [⟨k,mayB p,1⟩])):=by show _=_;rw [hbk1,hpk]
       have hjI:(j:Int)≤16:=by omega
       have hklI:(0:Int)≤(kl:Int)∧(kl:Int)≤8:=⟨hkl0,hkl8⟩
       have HS:Hid (Sc wr w sp w.heap.size ga m2 (k+1) 0 bv2 uvs2 (.slice (some ⟨g,o,none⟩) n rc) rs (stJ rs k j r) (fun _=>none)):=hS
       have HB:Hid (BKo wr w.heap.size bv2 (stJ rs k j r).bk uvs2):=hB
       clear hS hB hPr ha' hPd hRs hbk1 hp hpk hpu hpy hql x0 x1 x2 x3
       obtain ⟨V2,hV2⟩:∃ V2,V2=(wr.alloc (.cells #[.int .i64 pk,.int .i64 pu,.int .i64 py,.slice ta tn tc] 58)).setCell ⟨ga,k,none⟩ (.int .i64 (2 - (kl:Int)+(j:Int)+1)):=⟨_,rfl⟩
       have hVS:Sc V2 w sp w.heap.size ga m2 (k+1) 0 bv2 uvs2 (.slice (some ⟨g,o,none⟩) n rc) rs ⟨(stJ rs k j r).ws,(stJ rs k (j+1) r).aq,(stJ rs k j r).bk⟩ (fun _=>none):=by
        have h1:=(HS.out.grown ((Grown.refl _).alloc (.cells #[.int .i64 pk,.int .i64 pu,.int .i64 py,.slice ta tn tc] 58))).turn2 k (2 - (kl:Int)+(j:Int)+1)
        rw [hV2]
        have e1:(stJ rs k j r).aq.set k (2 - (kl:Int)+(j:Int)+1)=(stJ rs k (j+1) r).aq:=by
         show (aqJ rs k _).set k _=aqJ rs k _
         rw [aqJ_set hkrs,HR.out.2.1]
         congr 1
         omega
        rw [e1] at h1
        exact h1
       have hasb1:=(HS.out.grown ((Grown.refl _).alloc (.cells #[.int .i64 pk,.int .i64 pu,.int .i64 py,.slice ta tn tc] 58))).asb
       have hVB:BKo V2 w.heap.size bv2 (stJ rs k j r).bk uvs2:=by
        rw [hV2]
        exact (HB.out.below ((Grown.refl _).alloc _).below).turn hasb1 (by simp) (turns_set _ _ _ _)
       have bp1:(wr.alloc (.cells #[.int .i64 pk,.int .i64 pu,.int .i64 py,.slice ta tn tc] 58)).heap[wr.heap.size]? = some (.cells #[.int .i64 pk,.int .i64 pu,.int .i64 py,.slice ta tn tc] 58 (0,0)):=heap_alloc_new _ _
       have bp:V2.heap[wr.heap.size]? = some (.cells #[.int .i64 pk,.int .i64 pu,.int .i64 py,.slice ta tn tc] 58 (0,0)):=by
        rw [hV2]
        exact (turns_set _ _ _ _ _ (ne_obj bp1 hasb1 (by simp))).trans bp1
       have HVS:Hid (Sc V2 w sp w.heap.size ga m2 (k+1) 0 bv2 uvs2 (.slice (some ⟨g,o,none⟩) n rc) rs ⟨(stJ rs k j r).ws,(stJ rs k (j+1) r).aq,(stJ rs k j r).bk⟩ (fun _=>none)):=hVS
       have HVB:Hid (BKo V2 w.heap.size bv2 (stJ rs k j r).bk uvs2):=hVB
       have c0:V2.cell? ⟨wr.heap.size,0,none⟩=some (.int .i64 pk):=by rw [cell_of bp];simp
       have c0':=c0
       rw [hV2] at c0'
       clear hVS hVB hasb1 bp1 HS HB
       by_cases h2:pk=2
       · as_aux_lemma=>
          subst h2
          have HF:Hid (∃ bv uvs,Sc V2 w sp w.heap.size ga m2 (k+1) 0 bv uvs (.slice (some ⟨g,o,none⟩) n rc) rs (stJ rs k (j+1) r) (fun _=>none)∧BKo V2 w.heap.size bv (stJ rs k (j+1) r).bk uvs):=by
           have e:=HBK1.out
           simp only [if_true,List.append_nil] at e
           refine ⟨bv2,uvs2,?_,by rw [e];exact HVB.out⟩
           have:=HVS.out
           rw [←e] at this
           exact this
          clear HVS HVB bp HBK1 HMB HUR
          rw [hV2] at HF
          clear c0 hV2
          go_wp2
          exact ⟨⟨j+1,by go_num,by omega,HF⟩,by simp [intOf];omega⟩
       · have h2':(pk != 2)=true:=by simpa using h2
         have d3:V2.drew.cell? ⟨sp,3,none⟩=some bv2:=by rw [cell_drew_own,cell_of HVS.out.blk];simp
         have c1:V2.cell? ⟨wr.heap.size,1,none⟩=some (.int .i64 pu):=by rw [cell_of bp];simp
         have c2:V2.cell? ⟨wr.heap.size,2,none⟩=some (.int .i64 py):=by rw [cell_of bp];simp
         have c3:V2.cell? ⟨wr.heap.size,3,none⟩=some (.slice ta tn tc):=by rw [cell_of bp];simp
         obtain ⟨L,hL⟩:∃ L,(stJ rs k j r).bk.length=L:=⟨_,rfl⟩
         have HLB:Hid (L≤5000):=by
          show L≤5000
          have h1:=bkI_len (rs:=rs) (fun r hr=>(HO.out r hr).r16) k
          have h2:=pbs_len k ((backP r).take j)
          rw [←hL]
          show (bkI rs k++pbs k _).length≤_
          simp at h2 ⊢
          omega
         have HUV:Hid (UR V2.drew w.heap.size (.slice ta tn tc) p.tl):=HUR.out _ (HVS.out.bel.drew)
         have HON:Hid (∀ (w9:World) (ob:Obj),Grown V2.drew w9→(w9.alloc ob).ownsRow w.heap.size 193 3 bv2 L (fbk (stJ rs k j r).bk uvs2)∧w.heap.size≤(w9.alloc ob).heap.size):=fun w9 ob h9=>by
          have hg:Grown V2 (w9.alloc ob):=((Grown.refl V2).drew.trans h9).alloc ob
          refine ⟨?_,Nat.le_trans HVS.out.bel.size hg.size⟩
          have:=(HVB.out.below hg.below).2
          rw [hL] at this
          exact this
         have HFIN:Hid (∀ (w9 w10:World) (va:Option Addr) (vn vc g10 cap:Nat),Grown V2.drew w9→UR w9 w.heap.size (.slice va vn vc) (mayB p)→w10.ownsRow w.heap.size 193 3 (.slice (some ⟨g10,0,none⟩) (L+1) cap) (L+1) (fbk (stJ rs k j r).bk uvs2++fb1 ⟨k,mayB p,1⟩ (.slice va vn vc))→(w9.alloc (.cells #[.int .i64 k,.slice va vn vc,.int .i64 1] 193)).grownBy w10 bv2.ownBlock→(w10.cell? ⟨sp,3,none⟩=some bv2∧w10.frozen? ⟨sp,3,none⟩=false)∧∃ bv uvs,Sc (w10.setCell ⟨sp,3,none⟩ (.slice (some ⟨g10,0,none⟩) (L+1) cap)) w sp w.heap.size ga m2 (k+1) 0 bv uvs (.slice (some ⟨g,o,none⟩) n rc) rs (stJ rs k (j+1) r) (fun _=>none)∧BKo (w10.setCell ⟨sp,3,none⟩ (.slice (some ⟨g10,0,none⟩) (L+1) cap)) w.heap.size bv (stJ rs k (j+1) r).bk uvs):=fun w9 w10 va vn vc g10 cap h9 hv hown hgr=>by
          have hg:Grown V2 (w9.alloc (.cells #[.int .i64 k,.slice va vn vc,.int .i64 1] 193)):=((Grown.refl V2).drew.trans h9).alloc _
          have hS9:=HVS.out.grown hg
          have hB9:=HVB.out.below hg.below
          have hsp:=hS9.sp_grown hB9 hgr
          refine ⟨⟨by rw [cell_of hsp];simp,free_of hsp⟩,?_⟩
          have ht5:=hS9.turn5 (b:=⟨k,mayB p,1⟩) (uv := .slice va vn vc) hB9 hL hown hgr (hv.below ((Grown.refl _).alloc _).below)
          have e:=HBK1.out
          rw [if_neg h2] at e
          refine ⟨.slice (some ⟨g10,0,none⟩) (L+1) cap,uvs2++[.slice va vn vc],?_,?_⟩
          · have:=ht5.1
            simp only at this
            rw [←e] at this
            exact this
          · rw [e];exact ht5.2.1
         clear HVS HVB HUR bp hL HBK1
         go_wp2
         rw [←hV2]
         clear hV2 c0'
         obtain ⟨i0,hi,hz0,hz1,hz2⟩:=info_parts info121
         go_region_law (first
          | (go_simp;go_at_call 143;refine (HMB.out _ HUV.out).mono ?_;rintro e w9 ⟨v,rfl,hv,hG9⟩;obtain ⟨va,vn,vc,rfl⟩:=hv.rs.sl;have HV9:Hid (UR w9 w.heap.size (.slice va vn vc) (mayB p)):=hv;have HG9:Hid (Grown V2.drew w9):=hG9;have d39:=hG9.cellv d3;have d39':=fun ob=>cell_up d39 ob;clear hv hG9)
          | (refine step_append_lies _ rfl (.tmp 62) (.tmp 67) 188 rfl w.heap.size 193 i0 (.agg #[.int .i64 0,.slice none 0 0,.int .i64 0]) 3 40 Tryz.underlying188 hi hz0 hz1 hz2 rfl (by decide) bv2 L (fbk (stJ rs k j r).bk uvs2) rfl (HON.out _ _ HG9.out).1 ⟨w9.heap.size,0,none⟩ 1 1 (fb1 ⟨k,mayB p,1⟩ (.slice va vn vc)) rfl rfl (fun j u hj=>by rw [add_zero_at,cell_of (heap_alloc_new _ _)];simpa [fb1] using hj) (fun u hu=>by simp [fb1] at hu;rcases hu with rfl | rfl | rfl <;> rfl) (by omega) (by have:=HLB.out;unfold maxLen;omega) (by have:=HLB.out;omega) (HON.out _ _ HG9.out).2 _ rfl ?_;intro g10 cap w10 hown hgr _ _;obtain ⟨⟨f3,ff⟩,hfin⟩:=HFIN.out w9 w10 va vn vc g10 cap HG9.out HV9.out hown hgr;have HFF:Hid (∃ bv uvs,Sc (w10.setCell ⟨sp,3,none⟩ (.slice (some ⟨g10,0,none⟩) (L+1) cap)) w sp w.heap.size ga m2 (k+1) 0 bv uvs (.slice (some ⟨g,o,none⟩) n rc) rs (stJ rs k (j+1) r) (fun _=>none)∧BKo (w10.setCell ⟨sp,3,none⟩ (.slice (some ⟨g10,0,none⟩) (L+1) cap)) w.heap.size bv (stJ rs k (j+1) r).bk uvs):=hfin;clear hfin hown hgr))
         all_goals (go_wp2;exact ⟨⟨j+1,by go_num,by omega,HFF⟩,by simp [intOf];omega⟩)
     · have hge:¬ (j:Int)<(nb:Int):=by omega
       have HF:Hid (∃ bv uvs,Sc wr w sp w.heap.size ga m2 (k+1) 0 bv uvs (.slice (some ⟨g,o,none⟩) n rc) rs (stK rs (k+1)) (fun _=>none)∧BKo wr w.heap.size bv (stK rs (k+1)).bk uvs):=by
        have:=HSj.out
        have e:stJ rs k j r=stK rs (k+1):=by
         rw [←stJ_end HR.out.2.2,HR.out.1,HNB.out]
         congr 1
         omega
        rw [e] at this
        exact this
       clear HSj
       go_wp2
       exact ⟨⟨k+1,by go_num,by omega,HF⟩,by simp [intOf];omega⟩
  · have hge:¬ (k:Int)<(n:Int):=by omega
    have HF:Hid (NsQ w (.slice ra n rc) rs (.returned (.pointer (some ⟨sp,0,none⟩))) wr):=by
     obtain ⟨bv,uvs,h1,_⟩:=HSk.out
     have e:k=rs.length:=by have:=HN.out;omega
     subst e
     exact ⟨sp,_,ga,m2,bv,uvs,rfl,h1⟩
    clear HSk
    go_wp2
    go_ret
    exact HF.out
end Go.Proofs
