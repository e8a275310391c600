/-
  A step of a trace that is a rule.
-/
import Derived.RangeFuncNested
import Derived.RangeFuncBound
import Derived.RangeFuncCalls
import Derived.RangeFuncLeaves
import Derived.Shelf.Abstract
import Derived.Shelf.RegionOpen
import Derived.WalkKit
import Derived.WalkSpells
import Derived.WalkLawsBesides
import Derived.OwnWalkIn
import Derived.TacticsInMore
import Derived.LoopNIn
import Derived.LoopIn
import Derived.BigQuiet
import Derived.RegionIn
import Derived.Deep.QuietTactic
import Derived.Deep.RegionWith
import Derived.Lib.OthersKept
import Derived.Maps.AppendAt
import Derived.Lib.SmallJoins
import Derived.Shelf.SlSortCmp.QuietGrown
import Derived.RangeFuncWrites
import Derived.RangeFuncBox
import Derived.Maps.OwnIn
import Derived.Test.YtibgnkpagfpinaaGreatDoorMgpt
namespace Go.Proofs
open Go.RowKit Go.Shelf
set_option maxRecDepth 100000
attribute [local go_sem] Oper.semAt_some
attribute [local go_sem ↓] Go.wp_at_zero Go.wp_at_succ
def FoR (w3:World) (ll bl:Nat) (L B:List Int) (v:Value) (W1:World):Prop:=∃ g1 g2,v = .tuple #[.slice (some ⟨g1,0,none⟩) ll ll,.slice (some ⟨g2,0,none⟩) bl bl]∧w3.heap.size≤g1∧w3.heap.size≤g2∧g2<W1.heap.size∧IR W1 (.slice (some ⟨g1,0,none⟩) ll ll) L∧IR W1 (.slice (some ⟨g2,0,none⟩) bl bl) B∧Below w3.heap.size w3 W1
def tupF:Nat→Value→Value
 | 11,.tuple a=>a.getD 0 undef
 | 13,.tuple a=>a.getD 0 undef
 | 12,.tuple a=>a.getD 1 undef
 | 14,.tuple a=>a.getD 1 undef
 | _,v=>v
def dep_valF4:Nat→List Nat
 | 1=>[0]
 | 2=>[1]
 | 3=>[2]
 | 5=>[4]
 | 6=>[3,5]
 | 7=>[6]
 | _=>[]
def valF4 (tb wb:Nat) (rvl:Value) (ri g q:Nat) (ag tv:Value):Nat→Option Value
 | 0=>some (.pointer (some ⟨tb,0,none⟩))
 | 1=>some (.pointer (some ⟨tb,0,none⟩))
 | 2=>some (.pointer (some ⟨tb,0,none⟩))
 | 3=>some (rvl)
 | 4=>some (.pointer (some ⟨wb+1,0,none⟩))
 | 5=>some (.int .i64 (ri:Int))
 | 6=>some (.pointer (some ⟨g,q,none⟩))
 | 7=>some (ag)
 | 8=>some (tv)
 | _=>none
set_option maxHeartbeats 8000000 in
theorem follow_rule {W Wb:World} {tb base:Nat} {rv:Value} {s:ByteArray} {p:Nat} {bv:Value} {bk:List Int} {dn:Int} (h:TK W tb base rv s p bv bk dn) (x:Stp) (n ri:Nat) (hxt:x.t=n) (hn:n≤(lfO bk s p).length) (hb:bk.length≤3000000) (hs:s.size≤90000) (hba:base≤W.heap.size) (hd0:0≤dn) (hd1:dn≤1000000000) (hr:x.r=ri) (hT:Tab Wb) (hpos:0<Wb.heap.size) {rs:List Rl} (hP:PsR Wb rv rs) (hbW:Below Wb.heap.size Wb W) (hbt:Wb.heap.size≤tb) (hi:ri<rs.length) (hrl:rs.length≤1000000) {L B:List Int} (hly:layB rs[ri] ((lfO bk s p).take n)=true) (hLa:(outs rs[ri] ((lfO bk s p).take n)).take rs[ri].cu.toNat=L) (hBa:(outs rs[ri] ((lfO bk s p).take n)).drop rs[ri].cu.toNat=B) (hLl:L.length≤900000) (hBl:B.length≤900000):Calls Tryz.prog 37 #[.pointer (some ⟨tb,0,none⟩),.agg (fs1 x).toArray] W (FolQ W tb base rv s bv bk n B ((lfO bk s p).drop n) (dn+wds L)):=by
 obtain ⟨xr,xd,xl,xt,xa,xb⟩:=x
 simp only at hxt hr
 subst hxt
 subst hr
 have hrp:(0:Int)≤(ri:Int):=by omega
 unfold fs1
 obtain ⟨W2,hW2⟩:∃ W2,W2=(W.alloc (.cells #[.pointer (some ⟨tb,0,none⟩)] 106)).alloc (.cells #[.int .i64 (ri:Int),.int .i64 xd,.int .i64 xl,.int .i64 (n:Int),.int .i64 xa,.int .i64 xb] 79):=⟨_,rfl⟩
 have hg2:Grown W W2:=by rw [hW2];exact ((Grown.refl W).alloc _).alloc _
 have hbb:W2.heap[W.heap.size]? = some (.cells #[.pointer (some ⟨tb,0,none⟩)] 106 (0,0)):=by rw [hW2];exact (Below.heap_alloc _ _ _ (by simp)).trans (heap_alloc_new W _)
 have hsb:W2.heap[W.heap.size+1]? = some (.cells #[.int .i64 (ri:Int),.int .i64 xd,.int .i64 xl,.int .i64 (n:Int),.int .i64 xa,.int .i64 xb] 79 (0,0)):=by rw [hW2];have:=heap_alloc_new (W.alloc (.cells #[.pointer (some ⟨tb,0,none⟩)] 106)) (.cells #[.int .i64 (ri:Int),.int .i64 xd,.int .i64 xl,.int .i64 (n:Int),.int .i64 xa,.int .i64 xb] 79);simpa using this
 have htb:=blk_lt h.blk
 have HBO:Hid (∀ b,bv.ownBlock=some b→b<W.heap.size):=fun b hb=>(World.ownsRow.lt h.own b hb).2
 have h2:=h.fr (fr_grown hg2 fun _=>False) id fun _ _=>id
 have HT2:Hid (Calls Tryz.prog 55 #[.pointer (some ⟨tb,0,none⟩),.int .i64 (n:Int)] W2 (TkQ W2 tb base rv s p bv bk dn n)):=take_any h2 n hn hb hs
 have HLN:Hid (n≤(lfO bk s p).length):=hn
 have hn9:n≤3900000:=by
  have h1:(intsU (unitsN s s.size p)).length≤s.size:=by rw [intsU_length];exact units_len_N s _ _
  unfold lfO at hn
  rw [List.length_append,List.length_reverse] at hn
  omega
 have hn9I:(n:Int)≤3900000:=by omega
 have HB2:Hid (Grown W W2∧W2.heap[W.heap.size]? = some (.cells #[.pointer (some ⟨tb,0,none⟩)] 106 (0,0))∧W2.heap[W.heap.size+1]? = some (.cells #[.int .i64 (ri:Int),.int .i64 xd,.int .i64 xl,.int .i64 (n:Int),.int .i64 xa,.int .i64 xb] 79 (0,0))):=⟨hg2,hbb,hsb⟩
 have z1:W2.cell? ⟨W.heap.size,0,none⟩=some (.pointer (some ⟨tb,0,none⟩)):=by rw [cell_of hbb];rfl
 have z2:W2.cell? ⟨W.heap.size+1,3,none⟩=some (.int .i64 (n:Int)):=by rw [cell_of hsb];rfl
 clear h h2 hn hg2 hbb hsb
 have hw2:=hW2.symm
 clear hW2
 refine (callsIn_wide (n:=6)).1 ?_
 refine callsIn_of_wp_marks Tryz.func37 rfl trivial ?_ rfl
 simp only [Tryz.ntmps37,List.size_toArray,List.length_cons,List.length_nil,Nat.reduceAdd,Nat.reduceSub]
 rw [rep60]
 simp only [List.append_toArray,List.nil_append,List.cons_append]
 refine wpIn_wide.2 ?_
 go_wp2_with (go_at_call 55;(try rw [hw2]);refine HT2.out.mono ?_;rintro e w3 ⟨tv,p1,bv1,bk1,rfl,t1,t2,t3,t4,t5,t6,t7⟩;have s1:=(t4.block _ (blk_lt HB2.out.2.1) (fun e=>by have e:W.heap.size=tb:=e;omega)).trans HB2.out.2.1;have s2:=(t4.block _ (blk_lt HB2.out.2.2) (fun e=>by have e:W.heap.size+1=tb:=e;omega)).trans HB2.out.2.2;have s0:w3.cell? ⟨W.heap.size+1,0,none⟩=some (.int .i64 (ri:Int)):=(by rw [cell_of s2];rfl);obtain ⟨ta,tc,htv⟩:=t1.sl;rw [List.length_take,Nat.min_eq_left HLN.out] at htv;subst htv;have HT:=Hid.mk' (And.intro t1 (And.intro t2 (And.intro t3 (And.intro t4 (And.intro t5 (And.intro t6 t7))))));have HS:=Hid.mk' (And.intro s1 s2);clear t1 t2 t3 t4 t5 t6 t7 s1 s2)
 have hbw3:Below Wb.heap.size Wb w3:=hbW.trans ((HB2.out.1.below.mono hbW.size).trans (HT.out.2.2.2.1.below (fun k e=>by have e:k=tb:=e;omega) (by have:=hbW.size;have:=HB2.out.1.size;omega)))
 have hT3:=hT.below hbw3 hpos
 obtain ⟨ra,rc,hrv,hrc,hrr⟩:=hP.below hbw3 (Nat.le_refl _)
 obtain ⟨g,o,hra,hR⟩:=hrr.resolve_left (fun e=>by rw [e] at hi;simp at hi)
 obtain ⟨rn,hrn⟩:∃ rn,rs.length=rn:=⟨_,rfl⟩
 rw [hrn] at hrv
 subst hra
 subst hrv
 have hin:(ri:Int)<(rn:Int):=by omega
 have hrI:(ri:Int)≤1000000:=by omega
 obtain ⟨av,kv,pv,rv',q0,q1,q2,q3,q4,q5,q6,hRR⟩:=hR ri hi
 obtain ⟨r,hr⟩:∃ r,rs[ri]'hi=r:=⟨_,rfl⟩
 rw [hr] at hRR q0 q4 q6 hly hLa hBa
 have HRR:=Hid.mk' hRR
 obtain ⟨ka,kn,kc,rfl⟩:=HRR.out.k.sl
 obtain ⟨a1,n1,c1',rfl⟩:=HRR.out.a.sl
 obtain ⟨a3,n3,c3',rfl⟩:=HRR.out.p.sl
 obtain ⟨a5,n5,c5,rfl⟩:=HRR.out.r.sl
 obtain ⟨xb',hxb⟩:∃ xb,r.bg=xb:=⟨_,rfl⟩
 obtain ⟨xe,hxe⟩:∃ xe,r.en=xe:=⟨_,rfl⟩
 obtain ⟨xc,hxc⟩:∃ xc,r.cu=xc:=⟨_,rfl⟩
 obtain ⟨ll,hll⟩:∃ ll,L.length=ll:=⟨_,rfl⟩
 obtain ⟨bl,hbl⟩:∃ bl,B.length=bl:=⟨_,rfl⟩
 have HLd:Hid (∀ V,Grown w3 V→Calls Tryz.prog 56 #[.agg #[.bool xb',.slice a1 n1 c1',.slice ka kn kc,.slice a3 n3 c3',.bool xe,.slice a5 n5 c5,.int .i64 xc],.slice ta n tc] V fun e w'=>∃ v,e = .returned v∧FoR w3 ll bl L B v w'):=fun V hg=>by
  have:=lays_any r (.slice a1 n1 c1') (.slice ka kn kc) (.slice a3 n3 c3') (.slice a5 n5 c5) (.slice ta n tc) ((lfO bk s p).take n) V (hT3.below hg.below (by have:=hbw3.size;omega)) (HRR.out.grown hg) (HT.out.1.ir.grown hg)
  rw [hxb,hxe,hxc] at this
  refine this.mono ?_
  rintro e w' ⟨v1,v2,rfl,ho,hB⟩
  rcases ho with ⟨h1,_⟩ | ⟨_,h1,h2,_⟩
  · rw [hly] at h1;cases h1
  · rw [hLa] at h1
    rw [hBa] at h2
    have i1:=(h1.own (by unfold maxLen;omega)).ir
    have i2:=(h2.own (by unfold maxLen;omega)).ir
    obtain ⟨g1,rfl,hg1,_⟩:=h1
    obtain ⟨g2,rfl,hg2,hg3⟩:=h2
    have:=hg.size
    rw [hll] at i1
    rw [hbl] at i2
    rw [hll,hbl]
    exact ⟨_,rfl,g1,g2,rfl,by omega,by omega,blk_lt hg3,i1,i2,hg.below.trans (hB.mono hg.size)⟩
 rw [hxb] at q0
 rw [hxe] at q4
 rw [hxc] at q6
 have k0:w3.cell? ⟨W.heap.size,0,none⟩=some (.pointer (some ⟨tb,0,none⟩)):=by rw [cell_of HS.out.1];rfl
 have kr:w3.cell? ⟨tb,0,none⟩=some (.slice (some ⟨g,o,none⟩) rn rc):=by rw [cell_of HT.out.2.1.blk];rfl
 have HLL:Hid (L.length=ll∧B.length=bl):=⟨hll,hbl⟩
 have hll2:ll≤900000:=by omega
 have hbl2:bl≤900000:=by omega
 clear hRR hR hT3 hly hLa hBa hr hxb hxe hxc HRR hbw3 hT hP hbW hrc hll hbl hrr
 refine wp_region_inv2 mixed (by kernel_rfl) (by kernel_rfl) (by kernel_rfl) (JC dep_valF4 (valF4 tb W.heap.size (.slice (some ⟨g,o,none⟩) rn rc) ri g (o+ri*7) (.agg #[.bool xb',.slice a1 n1 c1',.slice ka kn kc,.slice a3 n3 c3',.bool xe,.slice a5 n5 c5,.int .i64 xc]) (.slice ta n tc)) (tupF) 9 w3.drew (FoR w3 ll bl L B)) (JC.start _ _ _ _ _ _) ⟨?_,?_,?_,?_,?_,?_,?_,?_,?_,?_,?_,?_,?_,?_,?_,trivial⟩ ?_
 · as_aux_lemma=>
    intro aA wx p vs hJ hdep hpi hval hfr K hK
    rw [if_pos (show Region.wanted _ _=true from rfl)]
    have zd0:aA.tmps.getD 2 undef = .pointer (some ⟨W.heap.size,0,none⟩):=hfr 2 (ndst (by kernel_rfl))
    have hW:=hJ.same 0 (by decide) hpi
    subst hW
    have hJ':=hJ.pure 0 (by decide) hpi rfl (dep_all hdep (by kernel_rfl))
    clear hval hfr hdep hJ
    simp only [Array.getD_eq_getD_getElem?] at zd0
    have hc:=k0
    go_simp
    exact hK _ _ hJ'
 · as_aux_lemma=>
    intro aA wx p vs hJ hdep hpi hval hfr K hK
    rw [if_pos (show Region.wanted _ _=true from rfl)]
    have zd0:aA.tmps.getD 20 undef = .pointer (some ⟨tb,0,none⟩):=(hval 0 _ 20 (hdep 0 (by kernel_rfl)) (by rfl) rfl).trans (hJ.v 0 _ (by decide) rfl (hdep 0 (by kernel_rfl)))
    have hW:=hJ.same 1 (by decide) hpi
    subst hW
    have hJ':=hJ.pure 1 (by decide) hpi rfl (dep_all hdep (by kernel_rfl))
    clear hval hfr hdep hJ
    simp only [Array.getD_eq_getD_getElem?] at zd0
    go_simp
    exact hK _ _ hJ'
 · as_aux_lemma=>
    intro aA wx p vs hJ hdep hpi hval hfr K hK
    rw [if_pos (show Region.wanted _ _=true from rfl)]
    have zd0:aA.tmps.getD 21 undef = .pointer (some ⟨tb,0,none⟩):=(hval 1 _ 21 (hdep 1 (by kernel_rfl)) (by rfl) rfl).trans (hJ.v 1 _ (by decide) rfl (hdep 1 (by kernel_rfl)))
    have hW:=hJ.same 2 (by decide) hpi
    subst hW
    have hJ':=hJ.pure 2 (by decide) hpi rfl (dep_all hdep (by kernel_rfl))
    clear hval hfr hdep hJ
    simp only [Array.getD_eq_getD_getElem?] at zd0
    go_simp
    exact hK _ _ hJ'
 · as_aux_lemma=>
    intro aA wx p vs hJ hdep hpi hval hfr K hK
    rw [if_pos (show Region.wanted _ _=true from rfl)]
    have zd0:aA.tmps.getD 22 undef = .pointer (some ⟨tb,0,none⟩):=(hval 2 _ 22 (hdep 2 (by kernel_rfl)) (by rfl) rfl).trans (hJ.v 2 _ (by decide) rfl (hdep 2 (by kernel_rfl)))
    have hW:=hJ.same 3 (by decide) hpi
    subst hW
    have hJ':=hJ.pure 3 (by decide) hpi rfl (dep_all hdep (by kernel_rfl))
    clear hval hfr hdep hJ
    simp only [Array.getD_eq_getD_getElem?] at zd0
    have hc:=kr
    go_simp
    exact hK _ _ hJ'
 · as_aux_lemma=>
    intro aA wx p vs hJ hdep hpi hval hfr K hK
    rw [if_pos (show Region.wanted _ _=true from rfl)]
    have zd0:aA.tmps.getD 3 undef = .pointer (some ⟨W.heap.size+1,0,none⟩):=hfr 3 (ndst (by kernel_rfl))
    have hW:=hJ.same 4 (by decide) hpi
    subst hW
    have hJ':=hJ.pure 4 (by decide) hpi rfl (dep_all hdep (by kernel_rfl))
    clear hval hfr hdep hJ
    simp only [Array.getD_eq_getD_getElem?] at zd0
    go_simp
    exact hK _ _ hJ'
 · as_aux_lemma=>
    intro aA wx p vs hJ hdep hpi hval hfr K hK
    rw [if_pos (show Region.wanted _ _=true from rfl)]
    have zd0:aA.tmps.getD 24 undef = .pointer (some ⟨W.heap.size+1,0,none⟩):=(hval 4 _ 24 (hdep 4 (by kernel_rfl)) (by rfl) rfl).trans (hJ.v 4 _ (by decide) rfl (hdep 4 (by kernel_rfl)))
    have hW:=hJ.same 5 (by decide) hpi
    subst hW
    have hJ':=hJ.pure 5 (by decide) hpi rfl (dep_all hdep (by kernel_rfl))
    clear hval hfr hdep hJ
    simp only [Array.getD_eq_getD_getElem?] at zd0
    have hc:=s0
    go_simp
    exact hK _ _ hJ'
 · as_aux_lemma=>
    intro aA wx p vs hJ hdep hpi hval hfr K hK
    rw [if_pos (show Region.wanted _ _=true from rfl)]
    have zd0:aA.tmps.getD 23 undef = .slice (some ⟨g,o,none⟩) rn rc:=(hval 3 _ 23 (hdep 3 (by kernel_rfl)) (by rfl) rfl).trans (hJ.v 3 _ (by decide) rfl (hdep 3 (by kernel_rfl)))
    have zd1:aA.tmps.getD 25 undef = .int .i64 (ri:Int):=(hval 5 _ 25 (hdep 5 (by kernel_rfl)) (by rfl) rfl).trans (hJ.v 5 _ (by decide) rfl (hdep 5 (by kernel_rfl)))
    have hW:=hJ.same 6 (by decide) hpi
    subst hW
    have hJ':=hJ.pure 6 (by decide) hpi rfl (dep_all hdep (by kernel_rfl))
    clear hval hfr hdep hJ
    simp only [Array.getD_eq_getD_getElem?] at zd0 zd1
    go_simp
    exact hK _ _ hJ'
 · as_aux_lemma=>
    intro aA wx p vs hJ hdep hpi hval hfr K hK
    rw [if_pos (show Region.wanted _ _=true from rfl)]
    have zd0:aA.tmps.getD 26 undef = .pointer (some ⟨g,o+ri*7,none⟩):=(hval 6 _ 26 (hdep 6 (by kernel_rfl)) (by rfl) rfl).trans (hJ.v 6 _ (by decide) rfl (hdep 6 (by kernel_rfl)))
    have hW:=hJ.same 7 (by decide) hpi
    subst hW
    have hJ':=hJ.pure 7 (by decide) hpi rfl (dep_all hdep (by kernel_rfl))
    clear hval hfr hdep hJ
    simp only [Array.getD_eq_getD_getElem?] at zd0
    have hc:=And.intro q0 (And.intro q1 (And.intro q2 (And.intro q3 (And.intro q4 (And.intro q5 q6)))))
    go_simp
    exact hK _ _ hJ'
 · as_aux_lemma=>
    intro aA wx p vs hJ hdep hpi hval hfr K hK
    rw [if_pos (show Region.wanted _ _=true from rfl)]
    have zd0:aA.tmps.getD 4 undef = .slice ta n tc:=hfr 4 (ndst (by kernel_rfl))
    have hW:=hJ.same 8 (by decide) hpi
    subst hW
    have hJ':=hJ.pure 8 (by decide) hpi rfl (dep_all hdep (by kernel_rfl))
    clear hval hfr hdep hJ
    simp only [Array.getD_eq_getD_getElem?] at zd0
    go_simp
    exact hK _ _ hJ'
 · as_aux_lemma=>
    intro aA wx p vs hJ hdep hpi hval hfr K hK
    rw [if_pos (show Region.wanted _ _=true from rfl)]
    have zd0:aA.tmps.getD 27 undef=(.agg #[.bool xb',.slice a1 n1 c1',.slice ka kn kc,.slice a3 n3 c3',.bool xe,.slice a5 n5 c5,.int .i64 xc]):=(hval 7 _ 27 (hdep 7 (by kernel_rfl)) (by rfl) rfl).trans (hJ.v 7 _ (by decide) rfl (hdep 7 (by kernel_rfl)))
    have zd1:aA.tmps.getD 28 undef = .slice ta n tc:=(hval 8 _ 28 (hdep 8 (by kernel_rfl)) (by rfl) rfl).trans (hJ.v 8 _ (by decide) rfl (hdep 8 (by kernel_rfl)))
    have hW:=(hJ.n hpi).1
    subst hW
    have hp7:=hdep 7 (by kernel_rfl)
    have hp8:=hdep 8 (by kernel_rfl)
    have hp6:=hJ.c 7 6 (by decide) (by decide) hp7
    have hp3:=hJ.c 6 3 (by decide) (by decide) hp6
    have hp5:=hJ.c 6 5 (by decide) (by decide) hp6
    have hp2:=hJ.c 3 2 (by decide) (by decide) hp3
    have hp4:=hJ.c 5 4 (by decide) (by decide) hp5
    have hp1:=hJ.c 2 1 (by decide) (by decide) hp2
    have hp0:=hJ.c 1 0 (by decide) (by decide) hp1
    have hJ':=fun x W' hr=>hJ.called (x:=x) (W':=W') hpi (fun k hk=>by have h0:k<9:=hk;match k,h0 with | 0,_=>exact hp0 | 1,_=>exact hp1 | 2,_=>exact hp2 | 3,_=>exact hp3 | 4,_=>exact hp4 | 5,_=>exact hp5 | 6,_=>exact hp6 | 7,_=>exact hp7 | 8,_=>exact hp8 | k+9,h=>omega) hr
    clear hval hfr hdep hJ hp0 hp1 hp2 hp3 hp4 hp5 hp6 hp7 hp8
    simp only [Array.getD_eq_getD_getElem?] at zd0 zd1
    have hKK:=Hid.mk' hK
    clear hK
    go_simp
    go_at_call 56
    refine (HLd.out _ (Grown.refl w3).drew).mono ?_
    rintro e w4 ⟨v,rfl,hv⟩
    have hv':=hv
    obtain ⟨g1,g2,rfl,_⟩:=hv'
    exact hKK.out _ _ (hJ' _ _ hv)
 · as_aux_lemma=>
    intro aA wx p vs hJ hdep hpi hval hfr K hK
    rw [if_pos (show Region.wanted _ _=true from rfl)]
    have zd0:aA.tmps.getD 29 undef=vs 9:=hval 9 _ 29 (hdep 9 (by kernel_rfl)) (by rfl) rfl
    have hJ':=hJ.after 10 (by decide) (hdep 9 (by kernel_rfl))
    have hR:=(hJ.s (hdep 9 (by kernel_rfl))).2
    clear hval hfr hdep hJ
    simp only [Array.getD_eq_getD_getElem?] at zd0
    obtain ⟨g1,g2,hv,_⟩:=hR
    rw [hv] at zd0 hJ'
    simp only [tupF] at zd0 hJ'
    skip
    go_simp
    exact hK _ _ hJ'
 · as_aux_lemma=>
    intro aA wx p vs hJ hdep hpi hval hfr K hK
    rw [if_pos (show Region.wanted _ _=true from rfl)]
    have zd0:aA.tmps.getD 19 undef=(tupF) 10 (vs 9):=(hval 10 _ 19 (hdep 10 (by kernel_rfl)) (by rfl) rfl).trans (hJ.a 10 (by decide) (hdep 10 (by kernel_rfl)))
    have hJ':=hJ.after 11 (by decide) (hdep 10 (by kernel_rfl))
    have hR:=(hJ.s (hJ.up 10 (by decide) (hdep 10 (by kernel_rfl)))).2
    clear hval hfr hdep hJ
    simp only [Array.getD_eq_getD_getElem?] at zd0
    obtain ⟨g1,g2,hv,_⟩:=hR
    rw [hv] at zd0 hJ'
    simp only [tupF] at zd0 hJ'
    skip
    go_simp
    exact hK _ _ hJ'
 · as_aux_lemma=>
    intro aA wx p vs hJ hdep hpi hval hfr K hK
    rw [if_pos (show Region.wanted _ _=true from rfl)]
    have zd0:aA.tmps.getD 19 undef=(tupF) 10 (vs 9):=(hval 10 _ 19 (hdep 10 (by kernel_rfl)) (by rfl) rfl).trans (hJ.a 10 (by decide) (hdep 10 (by kernel_rfl)))
    have hJ':=hJ.after 12 (by decide) (hdep 10 (by kernel_rfl))
    have hR:=(hJ.s (hJ.up 10 (by decide) (hdep 10 (by kernel_rfl)))).2
    clear hval hfr hdep hJ
    simp only [Array.getD_eq_getD_getElem?] at zd0
    obtain ⟨g1,g2,hv,_⟩:=hR
    rw [hv] at zd0 hJ'
    simp only [tupF] at zd0 hJ'
    skip
    go_simp
    exact hK _ _ hJ'
 · as_aux_lemma=>
    intro aA wx p vs hJ hdep hpi hval hfr K hK
    rw [if_pos (show Region.wanted _ _=true from rfl)]
    have zd0:aA.tmps.getD 30 undef=(tupF) 11 (vs 9):=(hval 11 _ 30 (hdep 11 (by kernel_rfl)) (by rfl) rfl).trans (hJ.a 11 (by decide) (hdep 11 (by kernel_rfl)))
    have hJ':=hJ.after 13 (by decide) (hdep 11 (by kernel_rfl))
    have hR:=(hJ.s (hJ.up 11 (by decide) (hdep 11 (by kernel_rfl)))).2
    clear hval hfr hdep hJ
    simp only [Array.getD_eq_getD_getElem?] at zd0
    obtain ⟨g1,g2,hv,_⟩:=hR
    rw [hv] at zd0 hJ'
    simp only [tupF] at zd0 hJ'
    skip
    go_simp
    exact hK _ _ hJ'
 · as_aux_lemma=>
    intro aA wx p vs hJ hdep hpi hval hfr K hK
    rw [if_pos (show Region.wanted _ _=true from rfl)]
    have zd0:aA.tmps.getD 31 undef=(tupF) 12 (vs 9):=(hval 12 _ 31 (hdep 12 (by kernel_rfl)) (by rfl) rfl).trans (hJ.a 12 (by decide) (hdep 12 (by kernel_rfl)))
    have hJ':=hJ.after 14 (by decide) (hdep 12 (by kernel_rfl))
    have hR:=(hJ.s (hJ.up 12 (by decide) (hdep 12 (by kernel_rfl)))).2
    clear hval hfr hdep hJ
    simp only [Array.getD_eq_getD_getElem?] at zd0
    obtain ⟨g1,g2,hv,_⟩:=hR
    rw [hv] at zd0 hJ'
    simp only [tupF] at zd0 hJ'
    skip
    go_simp
    exact hK _ _ hJ'
 · intro vs w4 hJ
   rw [putL_eq]
   simp only [putsL,List.set_cons_zero,List.set_cons_succ,Nat.zero_add,Nat.reduceAdd]
   obtain ⟨g1,g2,hv,u1,u2,u3,u4,u5,u6⟩:=(hJ.s rfl).2
   have e10:=hJ.a 10 (by decide) rfl
   have e11:=hJ.a 11 (by decide) rfl
   have e12:=hJ.a 12 (by decide) rfl
   have e13:=hJ.a 13 (by decide) rfl
   have e14:=hJ.a 14 (by decide) rfl
   rw [hv] at e10 e11 e12 e13 e14
   simp only [tupF] at e10 e11 e12 e13 e14
   rw [hv,e10,e11,e12,e13,e14]
   clear hJ hv e10 e11 e12 e13 e14
   generalize vs 0=y0
   generalize vs 1=y1
   generalize vs 2=y2
   generalize vs 3=y3
   generalize vs 4=y4
   generalize vs 5=y5
   generalize vs 6=y6
   generalize vs 7=y7
   generalize vs 8=y8
   have fw4:Fr w3 w4 (fun _=>False):=fr_below u6 (Nat.le_refl _) _
   have HL:Hid (IR w4 (.slice (some ⟨g1,0,none⟩) ll ll) L∧L.length=ll∧∀ b,(Value.slice (some ⟨g1,0,none⟩) ll ll).ownBlock=some b→b≠tb):=⟨u4,HLL.out.1,fun b hb e=>by have hb:some g1=some b:=hb;injection hb with hb;have:=HB2.out.1.size;have:=HT.out.2.2.2.1.size;omega⟩
   have HK0:Hid (TK w4 tb base (.slice (some ⟨g,o,none⟩) rn rc) s p1 bv1 bk1 dn∧w4.heap[W.heap.size]? = some (.cells #[.pointer (some ⟨tb,0,none⟩)] 106 (0,0))∧W.heap.size≠tb):=⟨HT.out.2.1.fr fw4 id fun _ _=>id,(fw4.block _ (blk_lt HS.out.1) id).trans HS.out.1,by omega⟩
   have HBK:Hid (IR w4 (.slice (some ⟨g2,0,none⟩) bl bl) B∧B.length=bl∧∀ b,(Value.slice (some ⟨g2,0,none⟩) bl bl).ownBlock=some b→W.heap.size<b∧b<w4.heap.size∧bv1.ownBlock≠some b):=⟨u5,HLL.out.2,fun b hb=>by have hb:some g2=some b:=hb;injection hb with hb;subst hb;have h1:=blk_lt HS.out.1;exact ⟨by omega,u3,fun e=>by have:=HBO.out _ (HT.out.2.2.2.2.2.1 _ e);omega⟩⟩
   have HFW:Hid (Fr W w4 (fun k=>k=tb∨bv.ownBlock=some k)∧(∀ b,bv1.ownBlock=some b→bv.ownBlock=some b)∧bk1.length=bk.length - n∧lfO bk1 s p1=(lfO bk s p).drop n∧∀ b,bv.ownBlock=some b→b<W.heap.size):=⟨((fr_grown HB2.out.1 _).trans (HT.out.2.2.2.1.mono fun k _ e => .inl e) fun _ _ e=>e).trans fw4 fun _ _ e=>e.elim,HT.out.2.2.2.2.2.1,HT.out.2.2.2.2.2.2,HT.out.2.2.1,HBO.out⟩
   have HLX:Hid (L=L):=rfl
   clear k0 kr s0 q0 q1 q2 q3 q4 q5 q6 hrI u1 u2 u3 u4 u5 u6 fw4
   go_wp2
   go_loopg [34] ll (fun q s34 wr=>∃ i:Nat,s34 = .int .i64 (i:Int)∧i≤ll∧ll - i≤q∧Hid (TK wr tb base (.slice (some ⟨g,o,none⟩) rn rc) s p1 bv1 bk1 (dn+wds (L.take i))∧Fr w4 wr (fun k=>k=tb)∧0≤wds (L.take i)∧wds (L.take i)≤4*(i:Int)))
   case atStart=>exact ⟨0,rfl,by omega,by omega,by simpa [wds] using HK0.out.1,Fr.refl _ _,by simp [wds],by simp [wds]⟩
   case round=>
    obtain ⟨i,rfl,hi1,hi2,HR⟩:=hrel
    have hiI:(i:Int)≤4000000:=by omega
    by_cases hil:i<ll
    · have hilI:(i:Int)<(ll:Int):=by omega
      obtain ⟨r1,r2,r3,r4⟩:=HR.out
      obtain ⟨gq,oq,hae,ku⟩:=ir_cell (HL.out.1.fr r2 fun b hb e=>HL.out.2.2 b hb e) (j:=i) (by rw [HL.out.2.1];exact hil)
      (injection hae with hae;injection hae with e1 e2 _;subst e1;subst e2;rw [Nat.zero_add] at ku)
      obtain ⟨u,hu⟩:∃ u,L.getD i 0=u:=⟨_,rfl⟩
      rw [hu] at ku
      obtain ⟨D,hD⟩:∃ D,dn+wds (L.take i)=D:=⟨_,rfl⟩
      obtain ⟨wu,hwu⟩:∃ wu,wd u=wu:=⟨_,rfl⟩
      have hwl:=wd_lim u
      have HWD:Hid (∀ V,Calls Tryz.prog 46 #[.int .i64 u] V fun e w'=>e = .returned (.int .i64 wu)∧w'=V):=fun V=>by rw [←hwu];exact width_any u V
      have k0:wr.cell? ⟨W.heap.size,0,none⟩=some (.pointer (some ⟨tb,0,none⟩)):=by rw [cell_of ((r2.block _ (blk_lt HK0.out.2.1) HK0.out.2.2).trans HK0.out.2.1)];rfl
      have k3:wr.cell? ⟨tb,3,none⟩=some (.int .i64 D):=by rw [cell_of r1.blk,←hD];rfl
      have f3:wr.frozen? ⟨tb,3,none⟩=false:=free_of r1.blk
      have HWR:Hid (IntKind.i64.wrap (D+wu)=D+wu):=wrap_id (by omega) (by omega)
      have HDU:Hid (dn+wds (L.take i)=D∧wd u=wu∧L.getD i 0=u):=⟨hD,hwu,hu⟩
      clear r1 r2 r3 r4 hD hwu hu hwl
      go_wp2
      refine wp_region_inv2 mixed (by kernel_rfl) (by kernel_rfl) (by kernel_rfl) (JC dep_valF8 (valF8 tb D u wu) (fun _ v=>v) 9 wr.drew (fun _ W1=>W1=wr.drew.setCell ⟨tb,3,none⟩ (.int .i64 (D+wu)))) (JC.start _ _ _ _ _ _) ⟨?_,?_,?_,?_,?_,?_,?_,?_,?_,?_,trivial⟩ ?_
      · as_aux_lemma=>
         intro aA wx p vs hJ hdep hpi hval hfr K hK
         rw [if_pos (show Region.wanted _ _=true from rfl)]
         have zd0:aA.tmps.getD 2 undef = .pointer (some ⟨W.heap.size,0,none⟩):=hfr 2 (ndst (by kernel_rfl))
         have hW:=hJ.same 0 (by decide) hpi
         subst hW
         have hJ':=hJ.pure 0 (by decide) hpi rfl (dep_all hdep (by kernel_rfl))
         clear hval hfr hdep hJ
         simp only [Array.getD_eq_getD_getElem?] at zd0
         have hc:=k0
         go_simp
         exact hK _ _ hJ'
      · as_aux_lemma=>
         intro aA wx p vs hJ hdep hpi hval hfr K hK
         rw [if_pos (show Region.wanted _ _=true from rfl)]
         have zd0:aA.tmps.getD 38 undef = .pointer (some ⟨tb,0,none⟩):=(hval 0 _ 38 (hdep 0 (by kernel_rfl)) (by rfl) rfl).trans (hJ.v 0 _ (by decide) rfl (hdep 0 (by kernel_rfl)))
         have hW:=hJ.same 1 (by decide) hpi
         subst hW
         have hJ':=hJ.pure 1 (by decide) hpi rfl (dep_all hdep (by kernel_rfl))
         clear hval hfr hdep hJ
         simp only [Array.getD_eq_getD_getElem?] at zd0
         go_simp
         exact hK _ _ hJ'
      · as_aux_lemma=>
         intro aA wx p vs hJ hdep hpi hval hfr K hK
         rw [if_pos (show Region.wanted _ _=true from rfl)]
         have zd0:aA.tmps.getD 39 undef = .pointer (some ⟨tb,0,none⟩):=(hval 1 _ 39 (hdep 1 (by kernel_rfl)) (by rfl) rfl).trans (hJ.v 1 _ (by decide) rfl (hdep 1 (by kernel_rfl)))
         have hW:=hJ.same 2 (by decide) hpi
         subst hW
         have hJ':=hJ.pure 2 (by decide) hpi rfl (dep_all hdep (by kernel_rfl))
         clear hval hfr hdep hJ
         simp only [Array.getD_eq_getD_getElem?] at zd0
         go_simp
         exact hK _ _ hJ'
      · as_aux_lemma=>
         intro aA wx p vs hJ hdep hpi hval hfr K hK
         rw [if_pos (show Region.wanted _ _=true from rfl)]
         have zd0:aA.tmps.getD 40 undef = .pointer (some ⟨tb,3,none⟩):=(hval 2 _ 40 (hdep 2 (by kernel_rfl)) (by rfl) rfl).trans (hJ.v 2 _ (by decide) rfl (hdep 2 (by kernel_rfl)))
         have hW:=hJ.same 3 (by decide) hpi
         subst hW
         have hJ':=hJ.pure 3 (by decide) hpi rfl (dep_all hdep (by kernel_rfl))
         clear hval hfr hdep hJ
         simp only [Array.getD_eq_getD_getElem?] at zd0
         have hc:=k3
         go_simp
         exact hK _ _ hJ'
      · as_aux_lemma=>
         intro aA wx p vs hJ hdep hpi hval hfr K hK
         rw [if_pos (show Region.wanted _ _=true from rfl)]
         have zd0:aA.tmps.getD 8 undef = .int .i64 u:=hfr 8 (ndst (by kernel_rfl))
         have hW:=hJ.same 4 (by decide) hpi
         subst hW
         have hJ':=hJ.pure 4 (by decide) hpi rfl (dep_all hdep (by kernel_rfl))
         clear hval hfr hdep hJ
         simp only [Array.getD_eq_getD_getElem?] at zd0
         go_simp
         exact hK _ _ hJ'
      · as_aux_lemma=>
         intro aA wx p vs hJ hdep hpi hval hfr K hK
         rw [if_pos (show Region.wanted _ _=true from rfl)]
         have zd0:aA.tmps.getD 42 undef = .int .i64 u:=(hval 4 _ 42 (hdep 4 (by kernel_rfl)) (by rfl) rfl).trans (hJ.v 4 _ (by decide) rfl (hdep 4 (by kernel_rfl)))
         have hW:=hJ.same 5 (by decide) hpi
         subst hW
         have hJ':=hJ.pure 5 (by decide) hpi rfl (dep_all hdep (by kernel_rfl))
         clear hval hfr hdep hJ
         simp only [Array.getD_eq_getD_getElem?] at zd0
         have hKK:=Hid.mk' hK
         clear hK
         go_simp
         go_at_call 46
         refine (HWD.out _).mono ?_
         rintro e w' ⟨rfl,hx⟩
         have hx:=hx.symm
         subst hx
         exact hKK.out _ _ hJ'
      · as_aux_lemma=>
         intro aA wx p vs hJ hdep hpi hval hfr K hK
         rw [if_pos (show Region.wanted _ _=true from rfl)]
         have zd0:aA.tmps.getD 41 undef = .int .i64 D:=(hval 3 _ 41 (hdep 3 (by kernel_rfl)) (by rfl) rfl).trans (hJ.v 3 _ (by decide) rfl (hdep 3 (by kernel_rfl)))
         have zd1:aA.tmps.getD 43 undef = .int .i64 wu:=(hval 5 _ 43 (hdep 5 (by kernel_rfl)) (by rfl) rfl).trans (hJ.v 5 _ (by decide) rfl (hdep 5 (by kernel_rfl)))
         have hW:=hJ.same 6 (by decide) hpi
         subst hW
         have hJ':=hJ.pure 6 (by decide) hpi rfl (dep_all hdep (by kernel_rfl))
         clear hval hfr hdep hJ
         simp only [Array.getD_eq_getD_getElem?] at zd0 zd1
         have hw:=HWR.out
         go_simp
         exact hK _ _ hJ'
      · as_aux_lemma=>
         intro aA wx p vs hJ hdep hpi hval hfr K hK
         rw [if_pos (show Region.wanted _ _=true from rfl)]
         have zd0:aA.tmps.getD 38 undef = .pointer (some ⟨tb,0,none⟩):=(hval 0 _ 38 (hdep 0 (by kernel_rfl)) (by rfl) rfl).trans (hJ.v 0 _ (by decide) rfl (hdep 0 (by kernel_rfl)))
         have hW:=hJ.same 7 (by decide) hpi
         subst hW
         have hJ':=hJ.pure 7 (by decide) hpi rfl (dep_all hdep (by kernel_rfl))
         clear hval hfr hdep hJ
         simp only [Array.getD_eq_getD_getElem?] at zd0
         go_simp
         exact hK _ _ hJ'
      · as_aux_lemma=>
         intro aA wx p vs hJ hdep hpi hval hfr K hK
         rw [if_pos (show Region.wanted _ _=true from rfl)]
         have zd0:aA.tmps.getD 45 undef = .pointer (some ⟨tb,0,none⟩):=(hval 7 _ 45 (hdep 7 (by kernel_rfl)) (by rfl) rfl).trans (hJ.v 7 _ (by decide) rfl (hdep 7 (by kernel_rfl)))
         have hW:=hJ.same 8 (by decide) hpi
         subst hW
         have hJ':=hJ.pure 8 (by decide) hpi rfl (dep_all hdep (by kernel_rfl))
         clear hval hfr hdep hJ
         simp only [Array.getD_eq_getD_getElem?] at zd0
         go_simp
         exact hK _ _ hJ'
      · as_aux_lemma=>
         intro aA wx p vs hJ hdep hpi hval hfr K hK
         rw [if_pos (show Region.wanted _ _=true from rfl)]
         have zd0:aA.tmps.getD 46 undef = .pointer (some ⟨tb,3,none⟩):=(hval 8 _ 46 (hdep 8 (by kernel_rfl)) (by rfl) rfl).trans (hJ.v 8 _ (by decide) rfl (hdep 8 (by kernel_rfl)))
         have zd1:aA.tmps.getD 44 undef = .int .i64 (D+wu):=(hval 6 _ 44 (hdep 6 (by kernel_rfl)) (by rfl) rfl).trans (hJ.v 6 _ (by decide) rfl (hdep 6 (by kernel_rfl)))
         have hW:=(hJ.n hpi).1
         subst hW
         have hp6:=hdep 6 (by kernel_rfl)
         have hp8:=hdep 8 (by kernel_rfl)
         have hp3:=hJ.c 6 3 (by decide) (by decide) hp6
         have hp5:=hJ.c 6 5 (by decide) (by decide) hp6
         have hp7:=hJ.c 8 7 (by decide) (by decide) hp8
         have hp2:=hJ.c 3 2 (by decide) (by decide) hp3
         have hp4:=hJ.c 5 4 (by decide) (by decide) hp5
         have hp0:=hJ.c 7 0 (by decide) (by decide) hp7
         have hp1:=hJ.c 2 1 (by decide) (by decide) hp2
         have hJ':=fun x W' hr=>hJ.called (x:=x) (W':=W') hpi (fun k hk=>by have h0:k<9:=hk;match k,h0 with | 0,_=>exact hp0 | 1,_=>exact hp1 | 2,_=>exact hp2 | 3,_=>exact hp3 | 4,_=>exact hp4 | 5,_=>exact hp5 | 6,_=>exact hp6 | 7,_=>exact hp7 | 8,_=>exact hp8 | k+9,h=>omega) hr
         clear hval hfr hdep hJ hp0 hp1 hp2 hp3 hp4 hp5 hp6 hp7 hp8
         simp only [Array.getD_eq_getD_getElem?] at zd0 zd1
         have hc:=k3
         have hf:=f3
         go_simp
         exact hK undef _ (hJ' undef _ rfl)
      · intro vs W4 hJ
        rw [putL_eq]
        simp only [putsL,List.set_cons_zero,List.set_cons_succ,Nat.zero_add,Nat.reduceAdd]
        have HW4:=Hid.mk' (hJ.s rfl).2
        clear hJ
        generalize vs 0=y0
        generalize vs 1=y1
        generalize vs 2=y2
        generalize vs 3=y3
        generalize vs 4=y4
        generalize vs 5=y5
        generalize vs 6=y6
        generalize vs 7=y7
        generalize vs 8=y8
        go_wp2
        go_roundg (ll - (i+1))
        case measure=>omega
        case rel=>
         have hW4:=HW4.out
         obtain ⟨r1,r2,r3,r4⟩:=HR.out
         obtain ⟨d1,d2,d3⟩:=HDU.out
         have fW:Fr wr W4 (fun k=>k=tb):=by rw [hW4];exact (fr_grown (Grown.refl wr).drew _).trans (fr_set _ _ _ _) fun _ _ e=>e
         have hil2:i<L.length:=by rw [HL.out.2.1];exact hil
         have htk:wds (L.take (i+1))=wds (L.take i)+wu:=by
          rw [List.take_succ_eq_append_getElem hil2,wds_app,←getD_lt hil2,d3]
          simp only [wds]
          omega
         have hwl:=wd_lim u
         refine ⟨i+1,rfl,by omega,Nat.le_refl _,⟨?_,own_fr r1.own fW fun b hb e=>r1.ne b hb e,r1.pl,r1.ne⟩,r2.trans fW fun _ _ e=>e,by omega,by rw [htk];omega⟩
         rw [hW4,set_heap (show wr.drew.heap[tb]? = _ from r1.blk),htk,←Int.add_assoc,d1]
         rfl
    · have hie:ll=i:=by omega
      subst hie
      clear hiI hi1 hi2
      obtain ⟨r1,r2,r3,r4⟩:=HR.out
      go_wp2_with (go_at_call 57;refine (backward_any _ _ _ _).mono ?_;rintro e w5 ⟨rfl,hx⟩;have HX5:=Hid.mk' hx;clear hx)
      refine (wpIn_wide (n:=6)).1 ?_
      have h5s:w5.heap.size=wr.heap.size+1:=by rw [HX5.out];simp
      have g5:Grown wr w5:=by rw [HX5.out];exact (Grown.refl wr).alloc _
      have hbx5:w5.heap[wr.heap.size]? = some (.cells #[.slice (some ⟨g2,0,none⟩) bl bl] 46 (0,0)):=by rw [HX5.out];exact heap_alloc_new _ _
      have hW3:W.heap.size<w4.heap.size:=blk_lt HK0.out.2.1
      have hir5:IR wr (.slice (some ⟨g2,0,none⟩) bl bl) B:=HBK.out.1.fr r2 fun b hb e=>by have e:b=tb:=e;have:=(HBK.out.2.2 b hb).1;omega
      have htl:L.take ll=L:=List.take_of_length_le (by rw [HL.out.2.1];exact Nat.le_refl _)
      rw [htl] at r1 r3 r4
      have hwr:=r2.size
      refine wpIn_overF (enc:=encB) (by omega) (gf:=93) (pa:=#[]) (lb:=#[.pointer (some ⟨wr.heap.size,0,none⟩)]) rfl (enters_of Tryz.func93 (by kernel_rfl) rfl) (xf:=bkD B (B:List Int).length) (b:=0) (h:=w5.heap.size) (F0:=BkF wr.heap.size (.slice (some ⟨g2,0,none⟩) bl bl)) (E:=fun _ _=>True) rfl (Nat.zero_le _) ?hF0
       (fun r=>back_seqF (((((Grown.refl w5).alloc (.deferred (some []))).alloc (.loop r)).below.block _ (blk_lt hbx5)).trans hbx5) ((hir5.grown g5).grown (((Grown.refl w5).alloc (.deferred (some []))).alloc (.loop r))) (by have:=HBK.out.2.1;omega) _ _ (by omega))
       (fun _ _ _ _ _=>trivial) (fun _=>rfl) (FlI W tb base (.slice (some ⟨g,o,none⟩) rn rc) s p1 bv bk1 (dn+wds L) w5.heap.size) (fun _ _ _ _=>False) (FlI.stab htb (by omega)) (fun _ _ _ _ _ _ h=>h.elim) ?hI0 ?hround ?hdone (fun _ _ _ _ _ _ _ h=>h.elim)
      case hF0=>
       rintro k (e | e)
       · omega
       · have:=(HBK.out.2.2 k e).2.1;omega
      case hI0=>
       intro r
       have hg:Grown wr ((w5.alloc (.deferred (some []))).alloc (.loop r)):=(g5.alloc _).alloc _
       have hvs:((w5.alloc (.deferred (some []))).alloc (.loop r)).heap.size=w5.heap.size+2:=by simp
       have hbw:=(r2.block _ (blk_lt HK0.out.2.1) HK0.out.2.2).trans HK0.out.2.1
       refine ⟨bv1,by simpa using r1.fr (fr_grown hg fun _=>False) id fun _ _=>id,(hg.below.block _ (blk_lt hbw)).trans hbw,(HFW.out.1.trans (r2.mono fun k _ e => .inl e) fun _ _ e=>e).trans (fr_grown hg _) fun _ _ e=>e,?_,?_⟩
       · rintro k (e | e)
         · omega
         · have:=HBK.out.2.2 k e;omega
       · intro b hb
         have e1:=HFW.out.2.1 b hb
         have e2:=HFW.out.2.2.2.2 b e1
         refine ⟨.inl e1,?_,by omega,by omega⟩
         rintro (e | e)
         · omega
         · exact (HBK.out.2.2 b e).2.2 hb
      case hround=>
       intro pre x F Wd hpre hsz z0 z1 _
       rw [show (#[50,51]:Array Tmp).zip (encB x)=#[(50,Value.int .i64 x.1),(51,Value.int .i64 x.2)] from by simp [encB,List.zip_toArray]]
       gi_wp2
       refine ⟨Grown.refl _,?_⟩
       rintro X ⟨bvx,k1,k2,k3,k4,k5⟩ hXs hXk _
       obtain ⟨bkx,hbkx⟩:∃ l,bk1++pre.map Prod.snd=l:=⟨_,rfl⟩
       rw [hbkx] at k1
       obtain ⟨u,hu⟩:∃ u,x.2=u:=⟨_,rfl⟩
       rw [hu]
       obtain ⟨xa,xc,hbv⟩:=k1.own.sl
       obtain ⟨bn,hbn⟩:∃ bn,bkx.length=bn:=⟨_,rfl⟩
       rw [hbn] at hbv
       subst hbv
       have htX:tb<X.heap.size:=blk_lt k1.blk
       have hbX:W.heap.size<X.heap.size:=blk_lt k2
       have kb:X.cell? ⟨W.heap.size,0,none⟩=some (.pointer (some ⟨tb,0,none⟩)):=by rw [cell_of k2];rfl
       have hne:∀ k,(Value.slice xa bn xc).ownBlock=some k→k<X.heap.size∧k≠tb:=fun k hk=>⟨(World.ownsRow.lt k1.own k hk).2,k1.ne k hk⟩
       have hnb:(Value.slice xa bn xc).ownBlock≠some W.heap.size:=fun e=>by
        rcases (k5 _ e).1 with e2 | e2
        · have:=HFW.out.2.2.2.2 _ e2;omega
        · omega
       have hDb:¬ ((Value.slice xa bn xc).ownBlock=some W.heap.size∨W.heap.size=tb):=fun e=>by
        rcases e with e | e
        · exact hnb e
        · omega
       have hbl:bkx.length+1≤8000000:=by
        rw [←hbkx,List.length_append]
        have h1:=bkD_pre ((List.prefix_append _ _).trans hpre)
        have h2:=HBK.out.2.1
        have h3:=HFW.out.2.2.1
        omega
       have hbase:base≤X.heap.size:=by have:=k3.size;omega
       have HJX:Hid (tb<X.heap.size∧W.heap.size<X.heap.size∧(∀ k,(Value.slice xa bn xc).ownBlock=some k→k<X.heap.size∧k≠tb)∧¬ ((Value.slice xa bn xc).ownBlock=some W.heap.size∨W.heap.size=tb)∧bkx.length+1≤8000000∧base≤X.heap.size):=⟨htX,hbX,hne,hDb,hbl,hbase⟩
       have HKK:Hid (TK X tb base (.slice (some ⟨g,o,none⟩) rn rc) s p1 (.slice xa bn xc) bkx (dn+wds L)∧X.heap[W.heap.size]? = some (.cells #[.pointer (some ⟨tb,0,none⟩)] 106 (0,0))∧Fr W X (fun k=>k=tb∨bv.ownBlock=some k)∧(∀ k,F k→W.heap.size<k∧k<X.heap.size)∧(∀ b,(Value.slice xa bn xc).ownBlock=some b→(bv.ownBlock=some b∨W.heap.size<b)∧¬ F b∧b≠w5.heap.size∧b≠w5.heap.size+1)∧(Value.slice xa bn xc).ownBlock≠some W.heap.size∧w5.heap.size+2≤X.heap.size):=⟨k1,k2,k3,k4,k5,hnb,by omega⟩
       have HJ0:Hid (JB X tb base (.slice xa bn xc) bkx u (fun b=>#[.slice (some ⟨g,o,none⟩) rn rc,.string (s.extract p1 s.size),b,.int .i64 (dn+wds L)]) (valF12 W.heap.size tb (.slice xa bn xc) u) (fun _=>false) (fun _=>undef) X.drew):=⟨fun _ _ _ h=>(by cases h),fr_grown (Grown.refl X).drew _,fun _=>k1.blk,fun h=>(by cases h),fun _=>own_fr k1.own (fr_grown (Grown.refl X).drew fun _=>False) fun _ _ e=>e,fun h=>(by cases h),fun h=>(by cases h),fun h=>(by cases h),fun h=>(by cases h)⟩
       have HFIN:Hid (dn+wds L=dn+wds L∧x.2=u∧bkx=bk1++pre.map Prod.snd∧bkx.length=bn):=⟨rfl,hu,hbkx.symm,hbn⟩
       clear k1 k2 k3 k4 k5 hXs hXk hne hnb hDb hbl hbase hbkx hu hbn htX hbX
       gi_wp2
       refine wpIn_region_inv mixed (by kernel_rfl) (by kernel_rfl) (by kernel_rfl) (JB X tb base (.slice xa bn xc) bkx u (fun b=>#[.slice (some ⟨g,o,none⟩) rn rc,.string (s.extract p1 s.size),b,.int .i64 (dn+wds L)]) (valF12 W.heap.size tb (.slice xa bn xc) u)) HJ0.out ⟨?_,?_,?_,?_,?_,?_,?_,?_,?_,?_,?_,trivial⟩ ?_
       · as_aux_lemma=>
          intro aA wx p vs hJ hdep hpi hval hfr K hK
          rw [if_pos (show Region.wanted _ _=true from rfl)]
          have zd0:aA.tmps.getD 2 undef = .pointer (some ⟨W.heap.size,0,none⟩):=hfr 2 (by kernel_rfl)
          have hc:wx.cell? ⟨W.heap.size,0,none⟩=some (.pointer (some ⟨tb,0,none⟩)):=(cell_fr2 hJ.f HJX.out.2.2.2.1 HJX.out.2.1).trans kb
          have hJ':=hJ.put 0 rfl
          clear hval hfr hdep hJ
          simp only [Array.getD_eq_getD_getElem?] at zd0
          go_simp
          exact hK _ _ hJ'
       · as_aux_lemma=>
          intro aA wx p vs hJ hdep hpi hval hfr K hK
          rw [if_pos (show Region.wanted _ _=true from rfl)]
          have zd0:aA.tmps.getD 2 undef = .pointer (some ⟨W.heap.size,0,none⟩):=hfr 2 (by kernel_rfl)
          have hc:wx.cell? ⟨W.heap.size,0,none⟩=some (.pointer (some ⟨tb,0,none⟩)):=(cell_fr2 hJ.f HJX.out.2.2.2.1 HJX.out.2.1).trans kb
          have hJ':=hJ.put 1 rfl
          clear hval hfr hdep hJ
          simp only [Array.getD_eq_getD_getElem?] at zd0
          go_simp
          exact hK _ _ hJ'
       · as_aux_lemma=>
          intro aA wx p vs hJ hdep hpi hval hfr K hK
          rw [if_pos (show Region.wanted _ _=true from rfl)]
          have zd0:aA.tmps.getD 53 undef = .pointer (some ⟨tb,0,none⟩):=(hval 1 _ 53 (hdep 1 (by kernel_rfl)) (by rfl) rfl).trans (hJ.v 1 _ rfl (hdep 1 (by kernel_rfl)))
          have hJ':=hJ.put 2 rfl
          clear hval hfr hdep hJ
          simp only [Array.getD_eq_getD_getElem?] at zd0
          go_simp
          exact hK _ _ hJ'
       · as_aux_lemma=>
          intro aA wx p vs hJ hdep hpi hval hfr K hK
          rw [if_pos (show Region.wanted _ _=true from rfl)]
          have zd0:aA.tmps.getD 54 undef = .pointer (some ⟨tb,0,none⟩):=(hval 2 _ 54 (hdep 2 (by kernel_rfl)) (by rfl) rfl).trans (hJ.v 2 _ rfl (hdep 2 (by kernel_rfl)))
          have hJ':=hJ.put 3 rfl
          clear hval hfr hdep hJ
          simp only [Array.getD_eq_getD_getElem?] at zd0
          go_simp
          exact hK _ _ hJ'
       · as_aux_lemma=>
          intro aA wx p vs hJ hdep hpi hval hfr K hK
          rw [if_pos (show Region.wanted _ _=true from rfl)]
          have zd0:aA.tmps.getD 55 undef = .pointer (some ⟨tb,2,none⟩):=(hval 3 _ 55 (hdep 3 (by kernel_rfl)) (by rfl) rfl).trans (hJ.v 3 _ rfl (hdep 3 (by kernel_rfl)))
          have hc:wx.cell? ⟨tb,2,none⟩=some (.slice xa bn xc):=by rw [cell_of (hJ.n (hJ.no10 (hJ.no7 (.inl hpi))))];rfl
          have hJ':=hJ.put 4 rfl
          clear hval hfr hdep hJ
          simp only [Array.getD_eq_getD_getElem?] at zd0
          go_simp
          exact hK _ _ hJ'
       · as_aux_lemma=>
          intro aA wx p vs hJ hdep hpi hval hfr K hK
          rw [if_pos (show Region.wanted _ _=true from rfl)]
          have zd0:aA.tmps.getD 10 undef = .int .i64 u:=hfr 10 (by kernel_rfl)
          have hJ':=hJ.put 5 rfl
          clear hval hfr hdep hJ
          simp only [Array.getD_eq_getD_getElem?] at zd0
          go_simp
          exact hK _ _ hJ'
       · as_aux_lemma=>
          intro aA wx p vs hJ hdep hpi hval hfr K hK
          rw [if_pos (show Region.wanted _ _=true from rfl)]
          have zd0:aA.tmps.getD 57 undef = .int .i64 u:=(hval 5 _ 57 (hdep 5 (by kernel_rfl)) (by rfl) rfl).trans (hJ.v 5 _ rfl (hdep 5 (by kernel_rfl)))
          have hJ':=hJ.six hpi rfl
          clear hval hfr hdep hJ
          simp only [Array.getD_eq_getD_getElem?] at zd0
          go_simp
          exact hK _ _ hJ'
       · as_aux_lemma=>
          intro aA wx p vs hJ hdep hpi hval hfr K hK
          rw [if_pos (show Region.wanted _ _=true from rfl)]
          have zd0:aA.tmps.getD 56 undef = .slice xa bn xc:=(hval 4 _ 56 (hdep 4 (by kernel_rfl)) (by rfl) rfl).trans (hJ.v 4 _ rfl (hdep 4 (by kernel_rfl)))
          have zd1:aA.tmps.getD 58 undef=vs 6:=hval 6 _ 58 (hdep 6 (by kernel_rfl)) (by rfl) rfl
          obtain ⟨g,hvg,hgX,hgc⟩:=hJ.e6 (hdep 6 (by kernel_rfl))
          rw [hvg] at zd1
          obtain ⟨v',w',hrun,q1,q2,q3⟩:=run_appI wx 72 base (.slice xa bn xc) bkx [u] (.slice (some ⟨g,0,none⟩) 1 1) (hJ.s0 hpi) (ir_lone hgc) (by have:=HJX.out.2.2.2.2.1;simp;omega) (by have:=hJ.f.size;have:=HJX.out.2.2.2.2.2;omega)
          have hJ':=hJ.seven hpi (hdep 4 (by kernel_rfl)) (hdep 6 (by kernel_rfl)) rfl HJX.out.1 HJX.out.2.2.1 q1 q2 q3
          clear hval hfr hdep hJ
          exact op_appendIn rfl zd0 zd1 hrun (hK _ _ hJ')
       · as_aux_lemma=>
          intro aA wx p vs hJ hdep hpi hval hfr K hK
          rw [if_pos (show Region.wanted _ _=true from rfl)]
          have zd0:aA.tmps.getD 52 undef = .pointer (some ⟨tb,0,none⟩):=(hval 0 _ 52 (hdep 0 (by kernel_rfl)) (by rfl) rfl).trans (hJ.v 0 _ rfl (hdep 0 (by kernel_rfl)))
          have hJ':=hJ.put 8 rfl
          clear hval hfr hdep hJ
          simp only [Array.getD_eq_getD_getElem?] at zd0
          go_simp
          exact hK _ _ hJ'
       · as_aux_lemma=>
          intro aA wx p vs hJ hdep hpi hval hfr K hK
          rw [if_pos (show Region.wanted _ _=true from rfl)]
          have zd0:aA.tmps.getD 60 undef = .pointer (some ⟨tb,0,none⟩):=(hval 8 _ 60 (hdep 8 (by kernel_rfl)) (by rfl) rfl).trans (hJ.v 8 _ rfl (hdep 8 (by kernel_rfl)))
          have hJ':=hJ.put 9 rfl
          clear hval hfr hdep hJ
          simp only [Array.getD_eq_getD_getElem?] at zd0
          go_simp
          exact hK _ _ hJ'
       · as_aux_lemma=>
          intro aA wx p vs hJ hdep hpi hval hfr K hK
          rw [if_pos (show Region.wanted _ _=true from rfl)]
          have zd0:aA.tmps.getD 61 undef = .pointer (some ⟨tb,2,none⟩):=(hval 9 _ 61 (hdep 9 (by kernel_rfl)) (by rfl) rfl).trans (hJ.v 9 _ rfl (hdep 9 (by kernel_rfl)))
          have zd1:aA.tmps.getD 59 undef=vs 7:=hval 7 _ 59 (hdep 7 (by kernel_rfl)) (by rfl) rfl
          have hp7:=hdep 7 (by kernel_rfl)
          obtain ⟨va,vc,hv7⟩:=(hJ.s1 hp7).1.sl
          rw [List.length_append,List.length_singleton] at hv7
          have hJ':=hJ.ten (z:=undef) hp7 hpi rfl HJX.out.1 HJX.out.2.2.1 (fun _ _=>rfl)
          have hc:wx.cell? ⟨tb,2,none⟩=some (.slice xa bn xc):=by rw [cell_of (hJ.n hpi)];rfl
          have hf:wx.frozen? ⟨tb,2,none⟩=false:=free_of (hJ.n hpi)
          rw [hv7] at zd1 hJ'
          clear hval hfr hdep hJ hp7
          simp only [Array.getD_eq_getD_getElem?] at zd0 zd1
          go_simp
          exact hK undef _ hJ'
       · intro vs W' hJ
         obtain ⟨k1,k2,k3,k4,k5,k6,k7⟩:=HKK.out
         obtain ⟨_,f2,f3,_⟩:=HFIN.out
         exact FlI.pushed htb (by omega) k7 z0 z1 k1 k2 k3 k4 k5 k6 hJ f2 f3
      case hdone=>
       rintro F Wd z0 z1 ⟨bvx,k1,k2,k3,k4,k5⟩ _ hK
       have HKK:Hid (TK Wd tb base (.slice (some ⟨g,o,none⟩) rn rc) s p1 bvx (bk1++(bkD B (B:List Int).length).map Prod.snd) (dn+wds L)∧Fr W Wd (fun k=>k=tb∨bv.ownBlock=some k)∧∀ b,bvx.ownBlock=some b→(bv.ownBlock=some b∨W.heap.size<b)∧b≠w5.heap.size):=⟨k1,k3,fun b hb=>⟨(k5 b hb).1,(k5 b hb).2.2.1⟩⟩
       clear k1 k2 k3 k4 k5
       gi_wp2
       refine ⟨by simp,.inl ⟨_,_,rfl,run_takeDeferred hK,?_⟩⟩
       skip
       refine ⟨_,results_none rfl _ _ _,_,p1,bvx,_,rfl,HKK.out.1.fr (fr_put _) (fun e=>by omega) (fun b hb e=>(HKK.out.2.2 b hb).2 e),?_,HKK.out.2.1.trans (fr_put _) (fun k hk e=>by omega),fun b hb=>(HKK.out.2.2 b hb).1,?_⟩
       · rw [bkD_all,←HFW.out.2.2.2.1]
         simp [lfO]
       · rw [bkD_all,List.length_append,List.length_reverse]
         have:=HFW.out.2.2.1
         omega
end Go.Proofs
