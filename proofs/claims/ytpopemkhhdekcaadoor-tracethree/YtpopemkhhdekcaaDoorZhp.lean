/-
  Blocks that were made to join.
-/
import Derived.RangeFuncNested
import Derived.RangeFuncBound
import Derived.RangeFuncCalls
import Derived.RangeFuncLeaves
import Derived.Shelf.Abstract
import Derived.Shelf.RegionOpen
import Derived.WalkKit
import Derived.WalkSpells
import Derived.WalkLawsBesides
import Derived.OwnWalkIn
import Derived.TacticsInMore
import Derived.LoopNIn
import Derived.LoopIn
import Derived.BigQuiet
import Derived.RegionIn
import Derived.Deep.QuietTactic
import Derived.Deep.RegionWith
import Derived.Lib.OthersKept
import Derived.Maps.AppendAt
import Derived.Lib.SmallJoins
import Derived.Shelf.SlSortCmp.QuietGrown
import Derived.RangeFuncWrites
import Derived.RangeFuncBox
import Derived.Maps.OwnIn
import Derived.Test.YtpopemkhhdekcaaDoorMgop
import Derived.Test.YtpopemkhhdekcaaDoorGxp
namespace Go.Proofs
open Go.RowKit Go.Shelf
set_option maxRecDepth 100000
attribute [local go_sem] Oper.semAt_some
attribute [local go_sem ↓] Go.wp_at_zero Go.wp_at_succ
theorem srcs_app (l:List Bk) (b:Bk):srcs (l++[b])=srcs l++[b.2.1]:=by simp [srcs]
theorem ress_app (l:List Bk) (b:Bk):ress (l++[b])=ress l++[b.2.2.2]:=by simp [ress]
theorem sAt_app {l:List Bk} {b:Bk} {j:Nat} (h:j≤l.length):sAt (l++[b]) j=sAt l j:=by
 unfold sAt
 rw [srcs_app,List.getD_eq_getElem?_getD,List.getElem?_append_left (by rw [srcs_len];omega),←List.getD_eq_getElem?_getD]
theorem rAt_app {l:List Bk} {b:Bk} {j:Nat} (h:j≤l.length):rAt (l++[b]) j=rAt l j:=by
 unfold rAt
 rw [ress_app,List.getD_eq_getElem?_getD,List.getElem?_append_left (by rw [ress_len];omega),←List.getD_eq_getElem?_getD]
theorem sAt_end (l:List Bk) (b:Bk):sAt (l++[b]) (l.length+1)=b.2.1∧rAt (l++[b]) (l.length+1)=b.2.2.2:=by
 constructor
 · rw [sAt_succ (by simp)];simp
 · rw [rAt_succ (by simp)];simp
theorem Join.app {l:List Bk} {b:Bk} (h:Join l) (hb:okB (sAt l l.length) (rAt l l.length) b):Join (l++[b]):=fun j hj _=>by
 by_cases e:j<l.length
 · rw [sAt_app (by omega),rAt_app (by omega),List.getElem_append_left e]
   exact h j e e
 · have:j=l.length:=by simp at hj;omega
   subst this
   rw [sAt_app (Nat.le_refl _),rAt_app (Nat.le_refl _)]
   simpa using hb
structure JS (val:Nat→Option Value) (S:Nat) (W0 W1:World) (p:Nat→Bool) (vs:Nat→Value) (W:World):Prop where
 v:∀ i x,val i=some x→p i=true→vs i=x
 n:p S=false→W=W0
 s:p S=true→(∀ k,k<S→p k=true)∧W=W1
theorem JS.start (val:Nat→Option Value) (S:Nat) (W0 W1:World):JS val S W0 W1 (fun _=>false) (fun _=>undef) W0:=⟨fun _ _ _ h=>(by cases h),fun _=>rfl,fun h=>(by cases h)⟩
theorem JS.same {val:Nat→Option Value} {S:Nat} {W0 W1:World} {p:Nat→Bool} {vs:Nat→Value} {W:World} (h:JS val S W0 W1 p vs W) (i:Nat) (hi:i<S) (hpi:p i=false):W=W0:=by
 refine h.n ?_
 cases e:p S with
 | false=>rfl
 | true=>have:=(h.s e).1 i hi;rw [hpi] at this;cases this
theorem JS.pure {val:Nat→Option Value} {S:Nat} {W0 W1:World} {p:Nat→Bool} {vs:Nat→Value} {W:World} (h:JS val S W0 W1 p vs W) (i:Nat) {x:Value} (hi:i<S) (hpi:p i=false) (hx:val i=some x):JS val S W0 W1 (fun j=>p j || j == i) (fun j=>if j=i then x else vs j) W:=by
 refine ⟨fun j y hy hp => ?_,fun hp=>h.n ?_,fun hp => ?_⟩
 · by_cases ej:j=i
   · subst ej;rw [if_pos rfl];rw [hx] at hy;injection hy
   · rw [if_neg ej];exact h.v j y hy (by simpa [ej] using hp)
 · have e:(S == i)=false:=by simp;omega
   rw [e,Bool.or_false] at hp;exact hp
 · have e:(S == i)=false:=by simp;omega
   rw [e,Bool.or_false] at hp
   have:=(h.s hp).1 i hi
   rw [hpi] at this;cases this
theorem JS.put {val:Nat→Option Value} {S:Nat} {W0 W1:World} {p:Nat→Bool} {vs:Nat→Value} {W:World} (h:JS val S W0 W1 p vs W) (hall:∀ k,k<S→p k=true) {x:Value} (hx:val S=none:=by rfl):JS val S W0 W1 (fun j=>p j || j == S) (fun j=>if j=S then x else vs j) W1:=by
 refine ⟨fun j y hy hp => ?_,fun hp => ?_,fun _=>⟨fun k hk=>by simp [hall k hk],rfl⟩⟩
 · by_cases ej:j=S
   · subst ej;rw [hx] at hy;cases hy
   · rw [if_neg ej];exact h.v j y hy (by simpa [ej] using hp)
 · simp at hp
def val10 (bx:Nat) (S nn Rr mr zr:Int) (sv:Value) (iv:Int) (g q:Nat):Nat→Option Value
 | 0=>some (.pointer (some ⟨bx,1,none⟩))
 | 1=>some (.int .i64 S)
 | 2=>some (.pointer (some ⟨bx,1,none⟩))
 | 3=>some (.int .i64 S)
 | 4=>some (.int .i64 nn)
 | 5=>some (.int .i64 (S+nn))
 | 6=>some (.pointer (some ⟨bx,3,none⟩))
 | 7=>some (.int .i64 Rr)
 | 8=>some (.pointer (some ⟨bx,3,none⟩))
 | 9=>some (.int .i64 Rr)
 | 10=>some (sv)
 | 11=>some (.int .i64 iv)
 | 12=>some (.pointer (some ⟨g,q,none⟩))
 | 13=>some (.pointer (some ⟨g,q+1,none⟩))
 | 14=>some (.int .i64 zr)
 | 15=>some (.int .i64 mr)
 | 16=>some (.int .i64 (Rr+mr))
 | 17=>some (.agg #[.int .i64 S,.int .i64 (S+nn),.int .i64 Rr,.int .i64 (Rr+mr)])
 | _=>none
def Jd (most:Int) (l:List Bk):Prop:=Join l∧l.length≤301∧(0≤rAt l l.length∧rAt l l.length≤1000)∧(0≤sAt l l.length∧sAt l l.length≤1200+max most 0)∧(0≤most→sAt l l.length=most)
def JdI (w:World) (most:Int) (i:Nat) (ov:Value) (l:List Bk) (W:World):Prop:=OwnK W (w.heap.size+1) ov l∧l.length=i∧(∃ x0 x2,W.heap[w.heap.size]? = some (.cells #[.int .i64 x0,.int .i64 (sAt l i),.int .i64 x2,.int .i64 (rAt l i)] 41 (0,0)))∧Join l∧(0≤sAt l i∧sAt l i≤4*i)∧(0≤rAt l i∧rAt l i≤3*i)∧(0≤most→sAt l i≤most)∧Below w.heap.size w W
theorem rs_cell {w:World} {a:Option Addr} {n c:Nat} {l:List (Int × Int)} (h:Rs w (.slice a n c) l) {j:Nat} (hj:j<l.length):∃ g o,a=some ⟨g,o,none⟩∧w.cell? ⟨g,o+j*2,none⟩=some (.int .i64 l[j].1)∧w.cell? ⟨g,o+j*2+1,none⟩=some (.int .i64 l[j].2):=by
 obtain ⟨a',c',e,_,hh⟩:=h
 injection e with e1 _ _
 obtain ⟨g,o,e2,hrd⟩:=hh.resolve_left (fun e=>by rw [e] at hj;simp at hj)
 have:=hrd j hj
 rw [rg_lt hj] at this
 exact ⟨g,o,e1.trans e2,this⟩
theorem JdI.next {w:World} {most:Int} {i:Nat} {ov:Value} {l:List Bk} {W:World} (h:JdI w most i ov l W) {nn rr:Int} (h1:1≤nn) (h4:nn≤4) (hr:0≤rr∧rr≤3) (hm:0≤most→sAt l i+nn≤most) {ov':Value} {W':World} (ho:OwnK W' (w.heap.size+1) ov' (l++[(sAt l i,sAt l i+nn,rAt l i,rAt l i+rr)])) (hb:W'.heap[w.heap.size]? = some (.cells #[.int .i64 (sAt l i),.int .i64 (sAt l i+nn),.int .i64 (rAt l i),.int .i64 (rAt l i+rr)] 41 (0,0))) (hbel:Below w.heap.size w W'):JdI w most (i+1) ov' (l++[(sAt l i,sAt l i+nn,rAt l i,rAt l i+rr)]) W':=by
 obtain ⟨a1,a2,a3,a4,a5,a6,a7,a8⟩:=h
 subst a2
 obtain ⟨e1,e2⟩:=sAt_end l (sAt l l.length,sAt l l.length+nn,rAt l l.length,rAt l l.length+rr)
 have hj:=a4.app (b:=(sAt l l.length,sAt l l.length+nn,rAt l l.length,rAt l l.length+rr)) ⟨rfl,rfl,by simp only;omega,by simp only;omega⟩
 refine ⟨ho,by simp,⟨_,_,by rw [e1,e2];exact hb⟩,hj,?_,?_,?_,hbel⟩
 · rw [e1];simp only;omega
 · rw [e2];simp only;omega
 · intro h;rw [e1];exact hm h
theorem wrap_id {x:Int} (h1 : -9223372036854775808≤x) (h2:x≤9223372036854775807):IntKind.i64.wrap x=x:=IntWalk.i64_in _ ⟨by omega,by omega⟩
def JdQ (w:World) (most:Int) (e:Ending) (w':World):Prop:=∃ ov l,e = .returned ov∧OwnK w' (w.heap.size+1) ov l∧Jd most l∧Below w.heap.size w w'
set_option maxHeartbeats 8000000 in
theorem joined_walk (a:Option Addr) (n c:Nat) (sz:List (Int × Int)) (most:Int) (w:World) (h:Rs w (.slice a n c) sz) (hn:sz.length=n) (hm1 : -1≤most) (hm2:most≤1000) :
 Calls Tryd.prog 10 #[.slice a n c,.int .i64 most] w (JdQ w most):=by
 have HZ:=Hid.mk' h
 have HN:=Hid.mk' hn
 have HA:Hid (∀ W x,Calls Tryd.prog 27 #[.int .i64 x,.int .i64 4] W fun e w'=>e = .returned (.int .i64 (x % 4))∧w'=W):=fun W x=>among_any x 4 W (by decide) (by decide)
 have HI0:Hid (JdI w most 0 (.slice none 0 0) [] (w.alloc (.cells #[.int .i64 0,.int .i64 0,.int .i64 0,.int .i64 0] 41))):=⟨OwnK.nil _ _,rfl,⟨0,0,heap_alloc_new _ _⟩,fun j hj=>by simp at hj,by simp [sAt_zero],by simp [rAt_zero],fun h=>by rw [sAt_zero];exact h,((Grown.refl w).alloc _).below⟩
 clear h hn
 go_enter Tryd.func10,Tryd.ntmps10
 go_wp2
 go_loopg [5,7] 301 (fun q s5 s7 wr=>∃ (i:Nat) (oa:Option Addr) (oc:Nat) (l:List Bk),s5 = .slice oa i oc∧s7 = .int .i64 (i:Int)∧i≤300∧i≤n∧300 - i≤q∧Hid (JdI w most i (.slice oa i oc) l wr))
 case atStart=>exact ⟨0,none,0,[],rfl,rfl,by omega,by omega,by omega,HI0.out⟩
 case round=>
  obtain ⟨i,oa,oc,l,rfl,rfl,hi1,hi2,hi3,HR⟩:=hrel
  clear HI0
  have hiI:(i:Int)≤300:=by omega
  obtain ⟨r1,r2,⟨x0,x2,r3⟩,r4,r5,r6,r7,r8⟩:=id HR.out
  obtain ⟨S,hS⟩:∃ S,sAt l i=S:=⟨_,rfl⟩
  obtain ⟨Rr,hRr⟩:∃ R,rAt l i=R:=⟨_,rfl⟩
  rw [hS] at r3 r5 r7
  rw [hRr] at r3 r6
  have HS:Hid (sAt l i=S∧rAt l i=Rr):=⟨hS,hRr⟩
  have c0:wr.cell? ⟨w.heap.size,0,none⟩=some (.int .i64 x0):=by rw [cell_of r3];rfl
  have c1:wr.cell? ⟨w.heap.size,1,none⟩=some (.int .i64 S):=by rw [cell_of r3];rfl
  have c2:wr.cell? ⟨w.heap.size,2,none⟩=some (.int .i64 x2):=by rw [cell_of r3];rfl
  have c3:wr.cell? ⟨w.heap.size,3,none⟩=some (.int .i64 Rr):=by rw [cell_of r3];rfl
  have f0:∀ j,wr.frozen? ⟨w.heap.size,j,none⟩=false:=fun j=>free_of r3
  obtain ⟨r51,r52⟩:=r5
  obtain ⟨r61,r62⟩:=r6
  have HB3:=Hid.mk' r3
  have HM7:=Hid.mk' r7
  have HOK:=Hid.mk' (And.intro r1 (And.intro r2 r8))
  clear r1 r2 r3 r4 r8 hS hRr r7
  by_cases hil:i<n
  · have hilI:(i:Int)<(n:Int):=by omega
    by_cases hi300:i<300
    · have hi3I:(i:Int)<300:=by omega
      obtain ⟨g,o,hae,z1,z2⟩:=rs_cell HZ.out (j:=i) (by rw [HN.out];exact hil)
      subst hae
      have z1:=cell_below z1 HOK.out.2.2 (Nat.le_refl _)
      have z2:=cell_below z2 HOK.out.2.2 (Nat.le_refl _)
      generalize (sz[i]'(by rw [HN.out];exact hil)).1=zs at z1
      generalize (sz[i]'(by rw [HN.out];exact hil)).2=zr at z2
      obtain ⟨ms,hms⟩:∃ ms,zs % 4=ms:=⟨_,rfl⟩
      obtain ⟨mr,hmr⟩:∃ mr,zr % 4=mr:=⟨_,rfl⟩
      have hms0:0≤ms:=by omega
      have hms4:ms≤3:=by omega
      have hmr0:0≤mr:=by omega
      have hmr4:mr≤3:=by omega
      have HA1:Hid (∀ W,Calls Tryd.prog 27 #[.int .i64 zs,.int .i64 4] W fun e w'=>e = .returned (.int .i64 ms)∧w'=W):=fun W=>by rw [←hms];exact HA.out W zs
      have HA2:Hid (∀ W,Calls Tryd.prog 27 #[.int .i64 zr,.int .i64 4] W fun e w'=>e = .returned (.int .i64 mr)∧w'=W):=fun W=>by rw [←hmr];exact HA.out W zr
      clear hms hmr
      have HX:Hid (wr.drew.cell? ⟨w.heap.size,0,none⟩=some (.int .i64 x0)∧wr.drew.cell? ⟨w.heap.size,1,none⟩=some (.int .i64 S)∧wr.drew.cell? ⟨w.heap.size,2,none⟩=some (.int .i64 x2)∧wr.drew.cell? ⟨w.heap.size,3,none⟩=some (.int .i64 Rr)∧wr.drew.cell? ⟨g,o+i*2+1,none⟩=some (.int .i64 zr)∧∀ j,wr.drew.frozen? ⟨w.heap.size,j,none⟩=false):=⟨c0,c1,c2,c3,z2,f0⟩
      by_cases hmp:0≤most
      · obtain ⟨nn,hnn⟩:∃ nn,min (1+ms) (most - S)=nn:=⟨_,rfl⟩
        have hn4:nn≤4:=by omega
        have hnS:S+nn≤most:=by omega
        by_cases hbr:nn<1
        · have hSm:most≤S:=by omega
          have hms:¬ S<most:=by omega
          go_wp2_with (go_at_call 27;refine (HA1.out _).mono ?_;rintro e w' ⟨rfl,hx⟩;have hx:=hx.symm;subst hx)
          go_ret
          refine ⟨_,_,rfl,HOK.out.1,?_,HOK.out.2.2⟩
          have hl:=HOK.out.2.1
          unfold Jd
          rw [hl,HS.out.1,HS.out.2]
          exact ⟨HR.out.2.2.2.1,by omega,by omega,by omega,fun h=>by have:=HM7.out h;omega⟩
        · have HWR:Hid (IntKind.i64.wrap (S+nn)=S+nn∧IntKind.i64.wrap (Rr+mr)=Rr+mr):=⟨wrap_id (by omega) (by omega),wrap_id (by omega) (by omega)⟩
          go_wp2_with (go_at_call 27;refine (HA1.out _).mono ?_;rintro e w' ⟨rfl,hx⟩;have hx:=hx.symm;subst hx)
          refine wp_region_inv2 mixed (by kernel_rfl) (by kernel_rfl) (by kernel_rfl) (JS (val10 w.heap.size S nn Rr mr zr (.slice (some ⟨g,o,none⟩) n c) (i:Int) g (o+i*2)) 18 wr.drew (((((wr.drew.setCell ⟨w.heap.size,0,none⟩ (.int .i64 S)).setCell ⟨w.heap.size,1,none⟩ (.int .i64 (S+nn))).setCell ⟨w.heap.size,2,none⟩ (.int .i64 Rr)).setCell ⟨w.heap.size,3,none⟩ (.int .i64 (Rr+mr))))) (JS.start _ _ _ _) ⟨?_,?_,?_,?_,?_,?_,?_,?_,?_,?_,?_,?_,?_,?_,?_,?_,?_,?_,?_,trivial⟩ ?_
          · as_aux_lemma=>
             intro aA wx p vs hJ hdep hpi hval hfr K hK
             rw [if_pos (show Region.wanted _ _=true from rfl)]
             have zd0:aA.tmps.getD 6 undef = .pointer (some ⟨w.heap.size,0,none⟩):=hfr 6 (ndst (by kernel_rfl))
             have hW:=hJ.same 0 (by decide) hpi
             subst hW
             have hJ':=hJ.pure 0 (by decide) hpi rfl
             clear hval hfr hdep hJ
             simp only [Array.getD_eq_getD_getElem?] at zd0
             go_simp
             exact hK _ _ hJ'
          · as_aux_lemma=>
             intro aA wx p vs hJ hdep hpi hval hfr K hK
             rw [if_pos (show Region.wanted _ _=true from rfl)]
             have zd0:aA.tmps.getD 37 undef = .pointer (some ⟨w.heap.size,1,none⟩):=(hval 0 _ 37 (hdep 0 (by kernel_rfl)) (by rfl) rfl).trans (hJ.v 0 _ rfl (hdep 0 (by kernel_rfl)))
             have hW:=hJ.same 1 (by decide) hpi
             subst hW
             have hJ':=hJ.pure 1 (by decide) hpi rfl
             clear hval hfr hdep hJ
             simp only [Array.getD_eq_getD_getElem?] at zd0
             have hc:=HX.out.2.1
             go_simp
             exact hK _ _ hJ'
          · as_aux_lemma=>
             intro aA wx p vs hJ hdep hpi hval hfr K hK
             rw [if_pos (show Region.wanted _ _=true from rfl)]
             have zd0:aA.tmps.getD 6 undef = .pointer (some ⟨w.heap.size,0,none⟩):=hfr 6 (ndst (by kernel_rfl))
             have hW:=hJ.same 2 (by decide) hpi
             subst hW
             have hJ':=hJ.pure 2 (by decide) hpi rfl
             clear hval hfr hdep hJ
             simp only [Array.getD_eq_getD_getElem?] at zd0
             go_simp
             exact hK _ _ hJ'
          · as_aux_lemma=>
             intro aA wx p vs hJ hdep hpi hval hfr K hK
             rw [if_pos (show Region.wanted _ _=true from rfl)]
             have zd0:aA.tmps.getD 39 undef = .pointer (some ⟨w.heap.size,1,none⟩):=(hval 2 _ 39 (hdep 2 (by kernel_rfl)) (by rfl) rfl).trans (hJ.v 2 _ rfl (hdep 2 (by kernel_rfl)))
             have hW:=hJ.same 3 (by decide) hpi
             subst hW
             have hJ':=hJ.pure 3 (by decide) hpi rfl
             clear hval hfr hdep hJ
             simp only [Array.getD_eq_getD_getElem?] at zd0
             have hc:=HX.out.2.1
             go_simp
             exact hK _ _ hJ'
          · as_aux_lemma=>
             intro aA wx p vs hJ hdep hpi hval hfr K hK
             rw [if_pos (show Region.wanted _ _=true from rfl)]
             have zd0:aA.tmps.getD 8 undef = .int .i64 nn:=hfr 8 (ndst (by kernel_rfl))
             have hW:=hJ.same 4 (by decide) hpi
             subst hW
             have hJ':=hJ.pure 4 (by decide) hpi rfl
             clear hval hfr hdep hJ
             simp only [Array.getD_eq_getD_getElem?] at zd0
             go_simp
             exact hK _ _ hJ'
          · as_aux_lemma=>
             intro aA wx p vs hJ hdep hpi hval hfr K hK
             rw [if_pos (show Region.wanted _ _=true from rfl)]
             have zd0:aA.tmps.getD 40 undef = .int .i64 S:=(hval 3 _ 40 (hdep 3 (by kernel_rfl)) (by rfl) rfl).trans (hJ.v 3 _ rfl (hdep 3 (by kernel_rfl)))
             have zd1:aA.tmps.getD 41 undef = .int .i64 nn:=(hval 4 _ 41 (hdep 4 (by kernel_rfl)) (by rfl) rfl).trans (hJ.v 4 _ rfl (hdep 4 (by kernel_rfl)))
             have hW:=hJ.same 5 (by decide) hpi
             subst hW
             have hJ':=hJ.pure 5 (by decide) hpi rfl
             clear hval hfr hdep hJ
             simp only [Array.getD_eq_getD_getElem?] at zd0 zd1
             have hw:=HWR.out.1
             go_simp
             exact hK _ _ hJ'
          · as_aux_lemma=>
             intro aA wx p vs hJ hdep hpi hval hfr K hK
             rw [if_pos (show Region.wanted _ _=true from rfl)]
             have zd0:aA.tmps.getD 6 undef = .pointer (some ⟨w.heap.size,0,none⟩):=hfr 6 (ndst (by kernel_rfl))
             have hW:=hJ.same 6 (by decide) hpi
             subst hW
             have hJ':=hJ.pure 6 (by decide) hpi rfl
             clear hval hfr hdep hJ
             simp only [Array.getD_eq_getD_getElem?] at zd0
             go_simp
             exact hK _ _ hJ'
          · as_aux_lemma=>
             intro aA wx p vs hJ hdep hpi hval hfr K hK
             rw [if_pos (show Region.wanted _ _=true from rfl)]
             have zd0:aA.tmps.getD 43 undef = .pointer (some ⟨w.heap.size,3,none⟩):=(hval 6 _ 43 (hdep 6 (by kernel_rfl)) (by rfl) rfl).trans (hJ.v 6 _ rfl (hdep 6 (by kernel_rfl)))
             have hW:=hJ.same 7 (by decide) hpi
             subst hW
             have hJ':=hJ.pure 7 (by decide) hpi rfl
             clear hval hfr hdep hJ
             simp only [Array.getD_eq_getD_getElem?] at zd0
             have hc:=HX.out.2.2.2.1
             go_simp
             exact hK _ _ hJ'
          · as_aux_lemma=>
             intro aA wx p vs hJ hdep hpi hval hfr K hK
             rw [if_pos (show Region.wanted _ _=true from rfl)]
             have zd0:aA.tmps.getD 6 undef = .pointer (some ⟨w.heap.size,0,none⟩):=hfr 6 (ndst (by kernel_rfl))
             have hW:=hJ.same 8 (by decide) hpi
             subst hW
             have hJ':=hJ.pure 8 (by decide) hpi rfl
             clear hval hfr hdep hJ
             simp only [Array.getD_eq_getD_getElem?] at zd0
             go_simp
             exact hK _ _ hJ'
          · as_aux_lemma=>
             intro aA wx p vs hJ hdep hpi hval hfr K hK
             rw [if_pos (show Region.wanted _ _=true from rfl)]
             have zd0:aA.tmps.getD 45 undef = .pointer (some ⟨w.heap.size,3,none⟩):=(hval 8 _ 45 (hdep 8 (by kernel_rfl)) (by rfl) rfl).trans (hJ.v 8 _ rfl (hdep 8 (by kernel_rfl)))
             have hW:=hJ.same 9 (by decide) hpi
             subst hW
             have hJ':=hJ.pure 9 (by decide) hpi rfl
             clear hval hfr hdep hJ
             simp only [Array.getD_eq_getD_getElem?] at zd0
             have hc:=HX.out.2.2.2.1
             go_simp
             exact hK _ _ hJ'
          · as_aux_lemma=>
             intro aA wx p vs hJ hdep hpi hval hfr K hK
             rw [if_pos (show Region.wanted _ _=true from rfl)]
             have zd0:aA.tmps.getD 0 undef = .slice (some ⟨g,o,none⟩) n c:=hfr 0 (ndst (by kernel_rfl))
             have hW:=hJ.same 10 (by decide) hpi
             subst hW
             have hJ':=hJ.pure 10 (by decide) hpi rfl
             clear hval hfr hdep hJ
             simp only [Array.getD_eq_getD_getElem?] at zd0
             go_simp
             exact hK _ _ hJ'
          · as_aux_lemma=>
             intro aA wx p vs hJ hdep hpi hval hfr K hK
             rw [if_pos (show Region.wanted _ _=true from rfl)]
             have zd0:aA.tmps.getD 7 undef = .int .i64 (i:Int):=hfr 7 (ndst (by kernel_rfl))
             have hW:=hJ.same 11 (by decide) hpi
             subst hW
             have hJ':=hJ.pure 11 (by decide) hpi rfl
             clear hval hfr hdep hJ
             simp only [Array.getD_eq_getD_getElem?] at zd0
             go_simp
             exact hK _ _ hJ'
          · as_aux_lemma=>
             intro aA wx p vs hJ hdep hpi hval hfr K hK
             rw [if_pos (show Region.wanted _ _=true from rfl)]
             have zd0:aA.tmps.getD 47 undef = .slice (some ⟨g,o,none⟩) n c:=(hval 10 _ 47 (hdep 10 (by kernel_rfl)) (by rfl) rfl).trans (hJ.v 10 _ rfl (hdep 10 (by kernel_rfl)))
             have zd1:aA.tmps.getD 48 undef = .int .i64 (i:Int):=(hval 11 _ 48 (hdep 11 (by kernel_rfl)) (by rfl) rfl).trans (hJ.v 11 _ rfl (hdep 11 (by kernel_rfl)))
             have hW:=hJ.same 12 (by decide) hpi
             subst hW
             have hJ':=hJ.pure 12 (by decide) hpi rfl
             clear hval hfr hdep hJ
             simp only [Array.getD_eq_getD_getElem?] at zd0 zd1
             go_simp
             exact hK _ _ hJ'
          · as_aux_lemma=>
             intro aA wx p vs hJ hdep hpi hval hfr K hK
             rw [if_pos (show Region.wanted _ _=true from rfl)]
             have zd0:aA.tmps.getD 49 undef = .pointer (some ⟨g,o+i*2,none⟩):=(hval 12 _ 49 (hdep 12 (by kernel_rfl)) (by rfl) rfl).trans (hJ.v 12 _ rfl (hdep 12 (by kernel_rfl)))
             have hW:=hJ.same 13 (by decide) hpi
             subst hW
             have hJ':=hJ.pure 13 (by decide) hpi rfl
             clear hval hfr hdep hJ
             simp only [Array.getD_eq_getD_getElem?] at zd0
             go_simp
             exact hK _ _ hJ'
          · as_aux_lemma=>
             intro aA wx p vs hJ hdep hpi hval hfr K hK
             rw [if_pos (show Region.wanted _ _=true from rfl)]
             have zd0:aA.tmps.getD 50 undef = .pointer (some ⟨g,o+i*2+1,none⟩):=(hval 13 _ 50 (hdep 13 (by kernel_rfl)) (by rfl) rfl).trans (hJ.v 13 _ rfl (hdep 13 (by kernel_rfl)))
             have hW:=hJ.same 14 (by decide) hpi
             subst hW
             have hJ':=hJ.pure 14 (by decide) hpi rfl
             clear hval hfr hdep hJ
             simp only [Array.getD_eq_getD_getElem?] at zd0
             have hc:=HX.out.2.2.2.2.1
             go_simp
             exact hK _ _ hJ'
          · as_aux_lemma=>
             intro aA wx p vs hJ hdep hpi hval hfr K hK
             rw [if_pos (show Region.wanted _ _=true from rfl)]
             have zd0:aA.tmps.getD 51 undef = .int .i64 zr:=(hval 14 _ 51 (hdep 14 (by kernel_rfl)) (by rfl) rfl).trans (hJ.v 14 _ rfl (hdep 14 (by kernel_rfl)))
             have hW:=hJ.same 15 (by decide) hpi
             subst hW
             have hJ':=hJ.pure 15 (by decide) hpi rfl
             clear hval hfr hdep hJ
             simp only [Array.getD_eq_getD_getElem?] at zd0
             have hKK:=Hid.mk' hK
             clear hK
             go_simp
             go_at_call 27
             refine (HA2.out _).mono ?_
             rintro e w' ⟨rfl,hx⟩
             have hx:=hx.symm
             subst hx
             exact hKK.out _ _ hJ'
          · as_aux_lemma=>
             intro aA wx p vs hJ hdep hpi hval hfr K hK
             rw [if_pos (show Region.wanted _ _=true from rfl)]
             have zd0:aA.tmps.getD 46 undef = .int .i64 Rr:=(hval 9 _ 46 (hdep 9 (by kernel_rfl)) (by rfl) rfl).trans (hJ.v 9 _ rfl (hdep 9 (by kernel_rfl)))
             have zd1:aA.tmps.getD 52 undef = .int .i64 mr:=(hval 15 _ 52 (hdep 15 (by kernel_rfl)) (by rfl) rfl).trans (hJ.v 15 _ rfl (hdep 15 (by kernel_rfl)))
             have hW:=hJ.same 16 (by decide) hpi
             subst hW
             have hJ':=hJ.pure 16 (by decide) hpi rfl
             clear hval hfr hdep hJ
             simp only [Array.getD_eq_getD_getElem?] at zd0 zd1
             have hw:=HWR.out.2
             go_simp
             exact hK _ _ hJ'
          · as_aux_lemma=>
             intro aA wx p vs hJ hdep hpi hval hfr K hK
             rw [if_pos (show Region.wanted _ _=true from rfl)]
             have zd0:aA.tmps.getD 38 undef = .int .i64 S:=(hval 1 _ 38 (hdep 1 (by kernel_rfl)) (by rfl) rfl).trans (hJ.v 1 _ rfl (hdep 1 (by kernel_rfl)))
             have zd1:aA.tmps.getD 42 undef = .int .i64 (S+nn):=(hval 5 _ 42 (hdep 5 (by kernel_rfl)) (by rfl) rfl).trans (hJ.v 5 _ rfl (hdep 5 (by kernel_rfl)))
             have zd2:aA.tmps.getD 44 undef = .int .i64 Rr:=(hval 7 _ 44 (hdep 7 (by kernel_rfl)) (by rfl) rfl).trans (hJ.v 7 _ rfl (hdep 7 (by kernel_rfl)))
             have zd3:aA.tmps.getD 53 undef = .int .i64 (Rr+mr):=(hval 16 _ 53 (hdep 16 (by kernel_rfl)) (by rfl) rfl).trans (hJ.v 16 _ rfl (hdep 16 (by kernel_rfl)))
             have hW:=hJ.same 17 (by decide) hpi
             subst hW
             have hJ':=hJ.pure 17 (by decide) hpi rfl
             clear hval hfr hdep hJ
             simp only [Array.getD_eq_getD_getElem?] at zd0 zd1 zd2 zd3
             go_simp
             exact hK _ _ hJ'
          · as_aux_lemma=>
             intro aA wx p vs hJ hdep hpi hval hfr K hK
             rw [if_pos (show Region.wanted _ _=true from rfl)]
             have zd0:aA.tmps.getD 6 undef = .pointer (some ⟨w.heap.size,0,none⟩):=hfr 6 (ndst (by kernel_rfl))
             have zd1:aA.tmps.getD 54 undef = .agg #[.int .i64 S,.int .i64 (S+nn),.int .i64 Rr,.int .i64 (Rr+mr)]:=(hval 17 _ 54 (hdep 17 (by kernel_rfl)) (by rfl) rfl).trans (hJ.v 17 _ rfl (hdep 17 (by kernel_rfl)))
             have hW:=hJ.n hpi
             subst hW
             have hJ':=fun x=>hJ.put (x:=x) (fun k hk=>by have h0:k<18:=hk;match k,h0 with | 0,_=>exact hdep 0 (by kernel_rfl) | 1,_=>exact hdep 1 (by kernel_rfl) | 2,_=>exact hdep 2 (by kernel_rfl) | 3,_=>exact hdep 3 (by kernel_rfl) | 4,_=>exact hdep 4 (by kernel_rfl) | 5,_=>exact hdep 5 (by kernel_rfl) | 6,_=>exact hdep 6 (by kernel_rfl) | 7,_=>exact hdep 7 (by kernel_rfl) | 8,_=>exact hdep 8 (by kernel_rfl) | 9,_=>exact hdep 9 (by kernel_rfl) | 10,_=>exact hdep 10 (by kernel_rfl) | 11,_=>exact hdep 11 (by kernel_rfl) | 12,_=>exact hdep 12 (by kernel_rfl) | 13,_=>exact hdep 13 (by kernel_rfl) | 14,_=>exact hdep 14 (by kernel_rfl) | 15,_=>exact hdep 15 (by kernel_rfl) | 16,_=>exact hdep 16 (by kernel_rfl) | 17,_=>exact hdep 17 (by kernel_rfl) | k+18,h=>omega)
             clear hval hfr hdep hJ
             simp only [Array.getD_eq_getD_getElem?] at zd0 zd1
             have hc0:=HX.out.1
             have hc1:=HX.out.2.1
             have hc2:=HX.out.2.2.1
             have hc3:=HX.out.2.2.2.1
             have hf:=HX.out.2.2.2.2.2
             have hf0:=hf 0
             have hf1:=hf 1
             have hf2:=hf 2
             have hf3:=hf 3
             go_simp
             exact hK undef _ (hJ' undef)
          · intro vs W hJ
            rw [putL_eq]
            simp only [putsL,List.set_cons_zero,List.set_cons_succ,Nat.zero_add,Nat.reduceAdd]
            have hW:=(hJ.s rfl).2
            have hbW:W.heap[w.heap.size]? = some (.cells #[.int .i64 S,.int .i64 (S+nn),.int .i64 Rr,.int .i64 (Rr+mr)] 41 (0,0)):=by
             rw [hW,set_heap (set_heap (set_heap (set_heap (show wr.drew.heap[w.heap.size]? = _ from HB3.out))))];rfl
            have fW:Fr wr W (fun k=>k=w.heap.size):=by
             rw [hW]
             exact ((((fr_grown (Grown.refl wr).drew _).trans (fr_set _ _ _ _) fun _ _ e=>e).trans (fr_set _ _ _ _) fun _ _ e=>e).trans (fr_set _ _ _ _) fun _ _ e=>e).trans (fr_set _ _ _ _) fun _ _ e=>e
            have HOW:Hid (OwnK W (w.heap.size+1) (.slice oa i oc) l∧Below w.heap.size w W):=⟨own_fr HOK.out.1 fW fun b hb e=>by have:=(World.ownsRow.lt HOK.out.1 b hb).1;omega,HOK.out.2.2.trans (fW.below (fun k e=>by have e:k=w.heap.size:=e;omega) HOK.out.2.2.size)⟩
            have d0:W.cell? ⟨w.heap.size,0,none⟩=some (.int .i64 S):=by rw [cell_of hbW];rfl
            have d1:W.cell? ⟨w.heap.size,1,none⟩=some (.int .i64 (S+nn)):=by rw [cell_of hbW];rfl
            have d2:W.cell? ⟨w.heap.size,2,none⟩=some (.int .i64 Rr):=by rw [cell_of hbW];rfl
            have d3:W.cell? ⟨w.heap.size,3,none⟩=some (.int .i64 (Rr+mr)):=by rw [cell_of hbW];rfl
            have HBW:=Hid.mk' hbW
            clear hJ hW hbW fW c0 c1 c2 c3 z1 z2 f0 HX
            generalize vs 0=y0
            generalize vs 1=y1
            generalize vs 2=y2
            generalize vs 3=y3
            generalize vs 4=y4
            generalize vs 5=y5
            generalize vs 6=y6
            generalize vs 7=y7
            generalize vs 8=y8
            generalize vs 9=y9
            generalize vs 10=y10
            generalize vs 11=y11
            generalize vs 12=y12
            generalize vs 13=y13
            generalize vs 14=y14
            generalize vs 15=y15
            generalize vs 16=y16
            generalize vs 17=y17
            go_wp2_with (at_builtin;go_must (refine push_K rfl _ _ rfl (w.heap.size+1) (.slice oa i oc) l rfl (World.ownsRow.alloc HOW.out.1 _) _ _ (S,S+nn,Rr,Rr+mr) rfl (heap_alloc_new _ _) (by have:=HOK.out.2.1;omega) (by have:=HOW.out.2.size;have:=blk_lt HBW.out;simp;omega) ?_;intro gg cap w' q1 q2 q3;have HQ:=Hid.mk' (And.intro q1 q2);clear q1 q2 q3))
            go_roundg (300 - (i+1))
            case measure=>omega
            case rel=>
             obtain ⟨q1,q2⟩:=HQ.out
             have fq:Fr W w' (fun k=>(Value.slice oa i oc).ownBlock=some k):=(fr_grown ((Grown.refl W).alloc _) _).trans (fr_by q2) fun _ _ e=>e
             have hl:=HOK.out.2.1
             refine ⟨i+1,some ⟨gg,0,none⟩,cap,l++[(S,S+nn,Rr,Rr+mr)],by rw [hl],rfl,by omega,by omega,by omega,?_⟩
             have:=HR.out.next (nn:=nn) (rr:=mr) (ov' := .slice (some ⟨gg,0,none⟩) (i+1) cap) (W':=w') (by omega) hn4 ⟨hmr0,hmr4⟩ (fun h=>by rw [HS.out.1];omega) (by rw [HS.out.1,HS.out.2];rw [hl] at q1;exact q1) (by rw [HS.out.1,HS.out.2];exact (fq.block _ (blk_lt HBW.out) fun e=>by have:=(World.ownsRow.lt HOK.out.1 _ e).1;omega).trans HBW.out) (HOW.out.2.trans (fq.below (fun k hk=>by have:=(World.ownsRow.lt HOK.out.1 k hk).1;omega) HOW.out.2.size))
             rw [HS.out.1,HS.out.2] at this
             exact this
      · obtain ⟨nn,hnn⟩:∃ nn,1+ms=nn:=⟨_,rfl⟩
        have hn4:nn≤4:=by omega
        have hbr:¬ nn<1:=by omega
        have hmp':¬ (0:Int)≤most:=hmp
        have HWR:Hid (IntKind.i64.wrap (S+nn)=S+nn∧IntKind.i64.wrap (Rr+mr)=Rr+mr):=⟨wrap_id (by omega) (by omega),wrap_id (by omega) (by omega)⟩
        go_wp2_with (go_at_call 27;refine (HA1.out _).mono ?_;rintro e w' ⟨rfl,hx⟩;have hx:=hx.symm;subst hx)
        refine wp_region_inv2 mixed (by kernel_rfl) (by kernel_rfl) (by kernel_rfl) (JS (val10 w.heap.size S nn Rr mr zr (.slice (some ⟨g,o,none⟩) n c) (i:Int) g (o+i*2)) 18 wr.drew (((((wr.drew.setCell ⟨w.heap.size,0,none⟩ (.int .i64 S)).setCell ⟨w.heap.size,1,none⟩ (.int .i64 (S+nn))).setCell ⟨w.heap.size,2,none⟩ (.int .i64 Rr)).setCell ⟨w.heap.size,3,none⟩ (.int .i64 (Rr+mr))))) (JS.start _ _ _ _) ⟨?_,?_,?_,?_,?_,?_,?_,?_,?_,?_,?_,?_,?_,?_,?_,?_,?_,?_,?_,trivial⟩ ?_
        · as_aux_lemma=>
           intro aA wx p vs hJ hdep hpi hval hfr K hK
           rw [if_pos (show Region.wanted _ _=true from rfl)]
           have zd0:aA.tmps.getD 6 undef = .pointer (some ⟨w.heap.size,0,none⟩):=hfr 6 (ndst (by kernel_rfl))
           have hW:=hJ.same 0 (by decide) hpi
           subst hW
           have hJ':=hJ.pure 0 (by decide) hpi rfl
           clear hval hfr hdep hJ
           simp only [Array.getD_eq_getD_getElem?] at zd0
           go_simp
           exact hK _ _ hJ'
        · as_aux_lemma=>
           intro aA wx p vs hJ hdep hpi hval hfr K hK
           rw [if_pos (show Region.wanted _ _=true from rfl)]
           have zd0:aA.tmps.getD 37 undef = .pointer (some ⟨w.heap.size,1,none⟩):=(hval 0 _ 37 (hdep 0 (by kernel_rfl)) (by rfl) rfl).trans (hJ.v 0 _ rfl (hdep 0 (by kernel_rfl)))
           have hW:=hJ.same 1 (by decide) hpi
           subst hW
           have hJ':=hJ.pure 1 (by decide) hpi rfl
           clear hval hfr hdep hJ
           simp only [Array.getD_eq_getD_getElem?] at zd0
           have hc:=HX.out.2.1
           go_simp
           exact hK _ _ hJ'
        · as_aux_lemma=>
           intro aA wx p vs hJ hdep hpi hval hfr K hK
           rw [if_pos (show Region.wanted _ _=true from rfl)]
           have zd0:aA.tmps.getD 6 undef = .pointer (some ⟨w.heap.size,0,none⟩):=hfr 6 (ndst (by kernel_rfl))
           have hW:=hJ.same 2 (by decide) hpi
           subst hW
           have hJ':=hJ.pure 2 (by decide) hpi rfl
           clear hval hfr hdep hJ
           simp only [Array.getD_eq_getD_getElem?] at zd0
           go_simp
           exact hK _ _ hJ'
        · as_aux_lemma=>
           intro aA wx p vs hJ hdep hpi hval hfr K hK
           rw [if_pos (show Region.wanted _ _=true from rfl)]
           have zd0:aA.tmps.getD 39 undef = .pointer (some ⟨w.heap.size,1,none⟩):=(hval 2 _ 39 (hdep 2 (by kernel_rfl)) (by rfl) rfl).trans (hJ.v 2 _ rfl (hdep 2 (by kernel_rfl)))
           have hW:=hJ.same 3 (by decide) hpi
           subst hW
           have hJ':=hJ.pure 3 (by decide) hpi rfl
           clear hval hfr hdep hJ
           simp only [Array.getD_eq_getD_getElem?] at zd0
           have hc:=HX.out.2.1
           go_simp
           exact hK _ _ hJ'
        · as_aux_lemma=>
           intro aA wx p vs hJ hdep hpi hval hfr K hK
           rw [if_pos (show Region.wanted _ _=true from rfl)]
           have zd0:aA.tmps.getD 8 undef = .int .i64 nn:=hfr 8 (ndst (by kernel_rfl))
           have hW:=hJ.same 4 (by decide) hpi
           subst hW
           have hJ':=hJ.pure 4 (by decide) hpi rfl
           clear hval hfr hdep hJ
           simp only [Array.getD_eq_getD_getElem?] at zd0
           go_simp
           exact hK _ _ hJ'
        · as_aux_lemma=>
           intro aA wx p vs hJ hdep hpi hval hfr K hK
           rw [if_pos (show Region.wanted _ _=true from rfl)]
           have zd0:aA.tmps.getD 40 undef = .int .i64 S:=(hval 3 _ 40 (hdep 3 (by kernel_rfl)) (by rfl) rfl).trans (hJ.v 3 _ rfl (hdep 3 (by kernel_rfl)))
           have zd1:aA.tmps.getD 41 undef = .int .i64 nn:=(hval 4 _ 41 (hdep 4 (by kernel_rfl)) (by rfl) rfl).trans (hJ.v 4 _ rfl (hdep 4 (by kernel_rfl)))
           have hW:=hJ.same 5 (by decide) hpi
           subst hW
           have hJ':=hJ.pure 5 (by decide) hpi rfl
           clear hval hfr hdep hJ
           simp only [Array.getD_eq_getD_getElem?] at zd0 zd1
           have hw:=HWR.out.1
           go_simp
           exact hK _ _ hJ'
        · as_aux_lemma=>
           intro aA wx p vs hJ hdep hpi hval hfr K hK
           rw [if_pos (show Region.wanted _ _=true from rfl)]
           have zd0:aA.tmps.getD 6 undef = .pointer (some ⟨w.heap.size,0,none⟩):=hfr 6 (ndst (by kernel_rfl))
           have hW:=hJ.same 6 (by decide) hpi
           subst hW
           have hJ':=hJ.pure 6 (by decide) hpi rfl
           clear hval hfr hdep hJ
           simp only [Array.getD_eq_getD_getElem?] at zd0
           go_simp
           exact hK _ _ hJ'
        · as_aux_lemma=>
           intro aA wx p vs hJ hdep hpi hval hfr K hK
           rw [if_pos (show Region.wanted _ _=true from rfl)]
           have zd0:aA.tmps.getD 43 undef = .pointer (some ⟨w.heap.size,3,none⟩):=(hval 6 _ 43 (hdep 6 (by kernel_rfl)) (by rfl) rfl).trans (hJ.v 6 _ rfl (hdep 6 (by kernel_rfl)))
           have hW:=hJ.same 7 (by decide) hpi
           subst hW
           have hJ':=hJ.pure 7 (by decide) hpi rfl
           clear hval hfr hdep hJ
           simp only [Array.getD_eq_getD_getElem?] at zd0
           have hc:=HX.out.2.2.2.1
           go_simp
           exact hK _ _ hJ'
        · as_aux_lemma=>
           intro aA wx p vs hJ hdep hpi hval hfr K hK
           rw [if_pos (show Region.wanted _ _=true from rfl)]
           have zd0:aA.tmps.getD 6 undef = .pointer (some ⟨w.heap.size,0,none⟩):=hfr 6 (ndst (by kernel_rfl))
           have hW:=hJ.same 8 (by decide) hpi
           subst hW
           have hJ':=hJ.pure 8 (by decide) hpi rfl
           clear hval hfr hdep hJ
           simp only [Array.getD_eq_getD_getElem?] at zd0
           go_simp
           exact hK _ _ hJ'
        · as_aux_lemma=>
           intro aA wx p vs hJ hdep hpi hval hfr K hK
           rw [if_pos (show Region.wanted _ _=true from rfl)]
           have zd0:aA.tmps.getD 45 undef = .pointer (some ⟨w.heap.size,3,none⟩):=(hval 8 _ 45 (hdep 8 (by kernel_rfl)) (by rfl) rfl).trans (hJ.v 8 _ rfl (hdep 8 (by kernel_rfl)))
           have hW:=hJ.same 9 (by decide) hpi
           subst hW
           have hJ':=hJ.pure 9 (by decide) hpi rfl
           clear hval hfr hdep hJ
           simp only [Array.getD_eq_getD_getElem?] at zd0
           have hc:=HX.out.2.2.2.1
           go_simp
           exact hK _ _ hJ'
        · as_aux_lemma=>
           intro aA wx p vs hJ hdep hpi hval hfr K hK
           rw [if_pos (show Region.wanted _ _=true from rfl)]
           have zd0:aA.tmps.getD 0 undef = .slice (some ⟨g,o,none⟩) n c:=hfr 0 (ndst (by kernel_rfl))
           have hW:=hJ.same 10 (by decide) hpi
           subst hW
           have hJ':=hJ.pure 10 (by decide) hpi rfl
           clear hval hfr hdep hJ
           simp only [Array.getD_eq_getD_getElem?] at zd0
           go_simp
           exact hK _ _ hJ'
        · as_aux_lemma=>
           intro aA wx p vs hJ hdep hpi hval hfr K hK
           rw [if_pos (show Region.wanted _ _=true from rfl)]
           have zd0:aA.tmps.getD 7 undef = .int .i64 (i:Int):=hfr 7 (ndst (by kernel_rfl))
           have hW:=hJ.same 11 (by decide) hpi
           subst hW
           have hJ':=hJ.pure 11 (by decide) hpi rfl
           clear hval hfr hdep hJ
           simp only [Array.getD_eq_getD_getElem?] at zd0
           go_simp
           exact hK _ _ hJ'
        · as_aux_lemma=>
           intro aA wx p vs hJ hdep hpi hval hfr K hK
           rw [if_pos (show Region.wanted _ _=true from rfl)]
           have zd0:aA.tmps.getD 47 undef = .slice (some ⟨g,o,none⟩) n c:=(hval 10 _ 47 (hdep 10 (by kernel_rfl)) (by rfl) rfl).trans (hJ.v 10 _ rfl (hdep 10 (by kernel_rfl)))
           have zd1:aA.tmps.getD 48 undef = .int .i64 (i:Int):=(hval 11 _ 48 (hdep 11 (by kernel_rfl)) (by rfl) rfl).trans (hJ.v 11 _ rfl (hdep 11 (by kernel_rfl)))
           have hW:=hJ.same 12 (by decide) hpi
           subst hW
           have hJ':=hJ.pure 12 (by decide) hpi rfl
           clear hval hfr hdep hJ
           simp only [Array.getD_eq_getD_getElem?] at zd0 zd1
           go_simp
           exact hK _ _ hJ'
        · as_aux_lemma=>
           intro aA wx p vs hJ hdep hpi hval hfr K hK
           rw [if_pos (show Region.wanted _ _=true from rfl)]
           have zd0:aA.tmps.getD 49 undef = .pointer (some ⟨g,o+i*2,none⟩):=(hval 12 _ 49 (hdep 12 (by kernel_rfl)) (by rfl) rfl).trans (hJ.v 12 _ rfl (hdep 12 (by kernel_rfl)))
           have hW:=hJ.same 13 (by decide) hpi
           subst hW
           have hJ':=hJ.pure 13 (by decide) hpi rfl
           clear hval hfr hdep hJ
           simp only [Array.getD_eq_getD_getElem?] at zd0
           go_simp
           exact hK _ _ hJ'
        · as_aux_lemma=>
           intro aA wx p vs hJ hdep hpi hval hfr K hK
           rw [if_pos (show Region.wanted _ _=true from rfl)]
           have zd0:aA.tmps.getD 50 undef = .pointer (some ⟨g,o+i*2+1,none⟩):=(hval 13 _ 50 (hdep 13 (by kernel_rfl)) (by rfl) rfl).trans (hJ.v 13 _ rfl (hdep 13 (by kernel_rfl)))
           have hW:=hJ.same 14 (by decide) hpi
           subst hW
           have hJ':=hJ.pure 14 (by decide) hpi rfl
           clear hval hfr hdep hJ
           simp only [Array.getD_eq_getD_getElem?] at zd0
           have hc:=HX.out.2.2.2.2.1
           go_simp
           exact hK _ _ hJ'
        · as_aux_lemma=>
           intro aA wx p vs hJ hdep hpi hval hfr K hK
           rw [if_pos (show Region.wanted _ _=true from rfl)]
           have zd0:aA.tmps.getD 51 undef = .int .i64 zr:=(hval 14 _ 51 (hdep 14 (by kernel_rfl)) (by rfl) rfl).trans (hJ.v 14 _ rfl (hdep 14 (by kernel_rfl)))
           have hW:=hJ.same 15 (by decide) hpi
           subst hW
           have hJ':=hJ.pure 15 (by decide) hpi rfl
           clear hval hfr hdep hJ
           simp only [Array.getD_eq_getD_getElem?] at zd0
           have hKK:=Hid.mk' hK
           clear hK
           go_simp
           go_at_call 27
           refine (HA2.out _).mono ?_
           rintro e w' ⟨rfl,hx⟩
           have hx:=hx.symm
           subst hx
           exact hKK.out _ _ hJ'
        · as_aux_lemma=>
           intro aA wx p vs hJ hdep hpi hval hfr K hK
           rw [if_pos (show Region.wanted _ _=true from rfl)]
           have zd0:aA.tmps.getD 46 undef = .int .i64 Rr:=(hval 9 _ 46 (hdep 9 (by kernel_rfl)) (by rfl) rfl).trans (hJ.v 9 _ rfl (hdep 9 (by kernel_rfl)))
           have zd1:aA.tmps.getD 52 undef = .int .i64 mr:=(hval 15 _ 52 (hdep 15 (by kernel_rfl)) (by rfl) rfl).trans (hJ.v 15 _ rfl (hdep 15 (by kernel_rfl)))
           have hW:=hJ.same 16 (by decide) hpi
           subst hW
           have hJ':=hJ.pure 16 (by decide) hpi rfl
           clear hval hfr hdep hJ
           simp only [Array.getD_eq_getD_getElem?] at zd0 zd1
           have hw:=HWR.out.2
           go_simp
           exact hK _ _ hJ'
        · as_aux_lemma=>
           intro aA wx p vs hJ hdep hpi hval hfr K hK
           rw [if_pos (show Region.wanted _ _=true from rfl)]
           have zd0:aA.tmps.getD 38 undef = .int .i64 S:=(hval 1 _ 38 (hdep 1 (by kernel_rfl)) (by rfl) rfl).trans (hJ.v 1 _ rfl (hdep 1 (by kernel_rfl)))
           have zd1:aA.tmps.getD 42 undef = .int .i64 (S+nn):=(hval 5 _ 42 (hdep 5 (by kernel_rfl)) (by rfl) rfl).trans (hJ.v 5 _ rfl (hdep 5 (by kernel_rfl)))
           have zd2:aA.tmps.getD 44 undef = .int .i64 Rr:=(hval 7 _ 44 (hdep 7 (by kernel_rfl)) (by rfl) rfl).trans (hJ.v 7 _ rfl (hdep 7 (by kernel_rfl)))
           have zd3:aA.tmps.getD 53 undef = .int .i64 (Rr+mr):=(hval 16 _ 53 (hdep 16 (by kernel_rfl)) (by rfl) rfl).trans (hJ.v 16 _ rfl (hdep 16 (by kernel_rfl)))
           have hW:=hJ.same 17 (by decide) hpi
           subst hW
           have hJ':=hJ.pure 17 (by decide) hpi rfl
           clear hval hfr hdep hJ
           simp only [Array.getD_eq_getD_getElem?] at zd0 zd1 zd2 zd3
           go_simp
           exact hK _ _ hJ'
        · as_aux_lemma=>
           intro aA wx p vs hJ hdep hpi hval hfr K hK
           rw [if_pos (show Region.wanted _ _=true from rfl)]
           have zd0:aA.tmps.getD 6 undef = .pointer (some ⟨w.heap.size,0,none⟩):=hfr 6 (ndst (by kernel_rfl))
           have zd1:aA.tmps.getD 54 undef = .agg #[.int .i64 S,.int .i64 (S+nn),.int .i64 Rr,.int .i64 (Rr+mr)]:=(hval 17 _ 54 (hdep 17 (by kernel_rfl)) (by rfl) rfl).trans (hJ.v 17 _ rfl (hdep 17 (by kernel_rfl)))
           have hW:=hJ.n hpi
           subst hW
           have hJ':=fun x=>hJ.put (x:=x) (fun k hk=>by have h0:k<18:=hk;match k,h0 with | 0,_=>exact hdep 0 (by kernel_rfl) | 1,_=>exact hdep 1 (by kernel_rfl) | 2,_=>exact hdep 2 (by kernel_rfl) | 3,_=>exact hdep 3 (by kernel_rfl) | 4,_=>exact hdep 4 (by kernel_rfl) | 5,_=>exact hdep 5 (by kernel_rfl) | 6,_=>exact hdep 6 (by kernel_rfl) | 7,_=>exact hdep 7 (by kernel_rfl) | 8,_=>exact hdep 8 (by kernel_rfl) | 9,_=>exact hdep 9 (by kernel_rfl) | 10,_=>exact hdep 10 (by kernel_rfl) | 11,_=>exact hdep 11 (by kernel_rfl) | 12,_=>exact hdep 12 (by kernel_rfl) | 13,_=>exact hdep 13 (by kernel_rfl) | 14,_=>exact hdep 14 (by kernel_rfl) | 15,_=>exact hdep 15 (by kernel_rfl) | 16,_=>exact hdep 16 (by kernel_rfl) | 17,_=>exact hdep 17 (by kernel_rfl) | k+18,h=>omega)
           clear hval hfr hdep hJ
           simp only [Array.getD_eq_getD_getElem?] at zd0 zd1
           have hc0:=HX.out.1
           have hc1:=HX.out.2.1
           have hc2:=HX.out.2.2.1
           have hc3:=HX.out.2.2.2.1
           have hf:=HX.out.2.2.2.2.2
           have hf0:=hf 0
           have hf1:=hf 1
           have hf2:=hf 2
           have hf3:=hf 3
           go_simp
           exact hK undef _ (hJ' undef)
        · intro vs W hJ
          rw [putL_eq]
          simp only [putsL,List.set_cons_zero,List.set_cons_succ,Nat.zero_add,Nat.reduceAdd]
          have hW:=(hJ.s rfl).2
          have hbW:W.heap[w.heap.size]? = some (.cells #[.int .i64 S,.int .i64 (S+nn),.int .i64 Rr,.int .i64 (Rr+mr)] 41 (0,0)):=by
           rw [hW,set_heap (set_heap (set_heap (set_heap (show wr.drew.heap[w.heap.size]? = _ from HB3.out))))];rfl
          have fW:Fr wr W (fun k=>k=w.heap.size):=by
           rw [hW]
           exact ((((fr_grown (Grown.refl wr).drew _).trans (fr_set _ _ _ _) fun _ _ e=>e).trans (fr_set _ _ _ _) fun _ _ e=>e).trans (fr_set _ _ _ _) fun _ _ e=>e).trans (fr_set _ _ _ _) fun _ _ e=>e
          have HOW:Hid (OwnK W (w.heap.size+1) (.slice oa i oc) l∧Below w.heap.size w W):=⟨own_fr HOK.out.1 fW fun b hb e=>by have:=(World.ownsRow.lt HOK.out.1 b hb).1;omega,HOK.out.2.2.trans (fW.below (fun k e=>by have e:k=w.heap.size:=e;omega) HOK.out.2.2.size)⟩
          have d0:W.cell? ⟨w.heap.size,0,none⟩=some (.int .i64 S):=by rw [cell_of hbW];rfl
          have d1:W.cell? ⟨w.heap.size,1,none⟩=some (.int .i64 (S+nn)):=by rw [cell_of hbW];rfl
          have d2:W.cell? ⟨w.heap.size,2,none⟩=some (.int .i64 Rr):=by rw [cell_of hbW];rfl
          have d3:W.cell? ⟨w.heap.size,3,none⟩=some (.int .i64 (Rr+mr)):=by rw [cell_of hbW];rfl
          have HBW:=Hid.mk' hbW
          clear hJ hW hbW fW c0 c1 c2 c3 z1 z2 f0 HX
          generalize vs 0=y0
          generalize vs 1=y1
          generalize vs 2=y2
          generalize vs 3=y3
          generalize vs 4=y4
          generalize vs 5=y5
          generalize vs 6=y6
          generalize vs 7=y7
          generalize vs 8=y8
          generalize vs 9=y9
          generalize vs 10=y10
          generalize vs 11=y11
          generalize vs 12=y12
          generalize vs 13=y13
          generalize vs 14=y14
          generalize vs 15=y15
          generalize vs 16=y16
          generalize vs 17=y17
          go_wp2_with (at_builtin;go_must (refine push_K rfl _ _ rfl (w.heap.size+1) (.slice oa i oc) l rfl (World.ownsRow.alloc HOW.out.1 _) _ _ (S,S+nn,Rr,Rr+mr) rfl (heap_alloc_new _ _) (by have:=HOK.out.2.1;omega) (by have:=HOW.out.2.size;have:=blk_lt HBW.out;simp;omega) ?_;intro gg cap w' q1 q2 q3;have HQ:=Hid.mk' (And.intro q1 q2);clear q1 q2 q3))
          go_roundg (300 - (i+1))
          case measure=>omega
          case rel=>
           obtain ⟨q1,q2⟩:=HQ.out
           have fq:Fr W w' (fun k=>(Value.slice oa i oc).ownBlock=some k):=(fr_grown ((Grown.refl W).alloc _) _).trans (fr_by q2) fun _ _ e=>e
           have hl:=HOK.out.2.1
           refine ⟨i+1,some ⟨gg,0,none⟩,cap,l++[(S,S+nn,Rr,Rr+mr)],by rw [hl],rfl,by omega,by omega,by omega,?_⟩
           have:=HR.out.next (nn:=nn) (rr:=mr) (ov' := .slice (some ⟨gg,0,none⟩) (i+1) cap) (W':=w') (by omega) hn4 ⟨hmr0,hmr4⟩ (fun h=>by rw [HS.out.1];omega) (by rw [HS.out.1,HS.out.2];rw [hl] at q1;exact q1) (by rw [HS.out.1,HS.out.2];exact (fq.block _ (blk_lt HBW.out) fun e=>by have:=(World.ownsRow.lt HOK.out.1 _ e).1;omega).trans HBW.out) (HOW.out.2.trans (fq.below (fun k hk=>by have:=(World.ownsRow.lt HOK.out.1 k hk).1;omega) HOW.out.2.size))
           rw [HS.out.1,HS.out.2] at this
           exact this
    · have hi3I:¬ (i:Int)<300:=by omega
      have HI3:Hid (i=300):=by show i=300;omega
      by_cases hms:S<most
      · go_wp2_with (at_builtin;go_must (refine push_K rfl _ _ rfl (w.heap.size+1) (.slice oa i oc) l rfl (World.ownsRow.alloc HOK.out.1 _) _ _ (S,most,Rr,Rr+1) rfl (heap_alloc_new _ _) (by have:=HOK.out.2.1;omega) (by have:=HOK.out.2.2.size;have:=blk_lt HB3.out;simp;omega) ?_;intro gg cap w' q1 q2 q3;have HQ:=Hid.mk' (And.intro q1 q2);clear q1 q2 q3))
        go_ret
        obtain ⟨q1,q2⟩:=HQ.out
        refine ⟨_,_,rfl,q1,?_,?_⟩
        · obtain ⟨e1,e2⟩:=sAt_end l (S,most,Rr,Rr+1)
          have hl:=HOK.out.2.1
          have hj:=HR.out.2.2.2.1.app (b:=(S,most,Rr,Rr+1)) (by rw [hl,HS.out.1,HS.out.2];exact ⟨rfl,rfl,by simp only;omega,by simp only;omega⟩)
          unfold Jd
          rw [List.length_append,List.length_singleton,e1,e2]
          refine ⟨hj,by omega,?_,?_,fun _=>rfl⟩
          · simp only;omega
          · simp only;omega
        · exact HOK.out.2.2.trans ((((Grown.refl wr).alloc _).below.mono HOK.out.2.2.size).trans ((fr_by q2).below (fun k hk=>by have:=(World.ownsRow.lt HOK.out.1 k hk).1;omega) (by have:=HOK.out.2.2.size;simp;omega)))
      · go_wp2
        go_ret
        refine ⟨_,_,rfl,HOK.out.1,?_,HOK.out.2.2⟩
        have hl:=HOK.out.2.1
        unfold Jd
        rw [hl,HS.out.1,HS.out.2]
        exact ⟨HR.out.2.2.2.1,by omega,by omega,by omega,fun h=>by have:=HM7.out h;omega⟩
  · have hilI:¬ (i:Int)<(n:Int):=by omega
    by_cases hms:S<most
    · go_wp2_with (at_builtin;go_must (refine push_K rfl _ _ rfl (w.heap.size+1) (.slice oa i oc) l rfl (World.ownsRow.alloc HOK.out.1 _) _ _ (S,most,Rr,Rr+1) rfl (heap_alloc_new _ _) (by have:=HOK.out.2.1;omega) (by have:=HOK.out.2.2.size;have:=blk_lt HB3.out;simp;omega) ?_;intro gg cap w' q1 q2 q3;have HQ:=Hid.mk' (And.intro q1 q2);clear q1 q2 q3))
      go_ret
      obtain ⟨q1,q2⟩:=HQ.out
      refine ⟨_,_,rfl,q1,?_,?_⟩
      · obtain ⟨e1,e2⟩:=sAt_end l (S,most,Rr,Rr+1)
        have hl:=HOK.out.2.1
        have hj:=HR.out.2.2.2.1.app (b:=(S,most,Rr,Rr+1)) (by rw [hl,HS.out.1,HS.out.2];exact ⟨rfl,rfl,by simp only;omega,by simp only;omega⟩)
        unfold Jd
        rw [List.length_append,List.length_singleton,e1,e2]
        refine ⟨hj,by omega,?_,?_,fun _=>rfl⟩
        · simp only;omega
        · simp only;omega
      · exact HOK.out.2.2.trans ((((Grown.refl wr).alloc _).below.mono HOK.out.2.2.size).trans ((fr_by q2).below (fun k hk=>by have:=(World.ownsRow.lt HOK.out.1 k hk).1;omega) (by have:=HOK.out.2.2.size;simp;omega)))
    · go_wp2
      go_ret
      refine ⟨_,_,rfl,HOK.out.1,?_,HOK.out.2.2⟩
      have hl:=HOK.out.2.1
      unfold Jd
      rw [hl,HS.out.1,HS.out.2]
      exact ⟨HR.out.2.2.2.1,by omega,by omega,by omega,fun h=>by have:=HM7.out h;omega⟩
end Go.Proofs
