/-
  Several texts in one (X4p X5p).
-/
import Derived.Test.YtknaoahokopplaaGreatDoorMgnp
import Derived.Test.YtknaoahokopplaaGreatDoorMgop
namespace Go.Proofs
open Go.RowKit Go.Shelf
set_option maxRecDepth 100000
attribute [local go_sem] Oper.semAt_some
theorem putL_congr {vs us:Nat→Value} : ∀ (l:List Oper) (k:Nat) (a:Act),(∀ i,i<l.length→vs (k+i)=us (k+i))→putL vs l k a=putL us l k a
 | [],_,_,_=>rfl
 | o::l,k,a,h=>by
  show putL vs l (k+1) (a.put o.dst (vs k))=putL us l (k+1) (a.put o.dst (us k))
  rw [show vs k=us k from h 0 (Nat.zero_lt_succ _)]
  exact putL_congr l (k+1) _ (fun i hi=>by have:=h (i+1) (Nat.succ_lt_succ hi);rwa [show k+(i+1)=k+1+i by omega] at this)
theorem wp_region_vals {P:Program} {id:Nat} {l:List Oper} {Q:Exit→Act→World→Prop} {a0:Act} {w0:World} (hm:P.follows .mixedOrders=true) (h1:onceB l=true) (h2:earlyB 0 l=true) (h3:(l.all fun o=>match o.dst with | none=>true | some d=>decide (d<a0.tmps.size))=true)
 (L:List Value) (hst:GSteps P l.toArray Q (fun i v _=>v=L.getD i undef) a0 w0 l 0) (hfin:∀ w,Ext w0 w→Q .normal (putL (fun i=>L.getD i undef) l 0 a0) w):(Code.region id l.toArray true).wp P Q a0 w0:=by
 refine wp_region_grows hm h1 h2 h3 _ (fun _ _ _ _ h _=>h) hst (fun vs w hE hi => ?_)
 rw [putL_congr (us:=fun i=>L.getD i undef) l 0 a0 (fun i hl=>by rw [Nat.zero_add];exact hi i hl)]
 exact hfin w hE
set_option maxHeartbeats 8000000 in
theorem itemText_8 (u:Int) (t:ByteArray) (g z n c:Nat) (lo hi:Int) (nt:Bool) (key:Int) (w:World) (m1:MI) (C P:ByteArray) (hn:1≤n) (hn2:n≤1000000) (hC:C.size≤100) (hP:P.size≤1000000000)
 (hpart:∀ i v,(mi1 m1)[i]? = some v→w.cell? ⟨g,z+i,none⟩=some v)
 (h118:∀ W,Below w.heap.size w W→Calls Tryz.prog 118 #[mia ⟨8,u,t,some ⟨g,z,none⟩,n,c,lo,hi,nt,key⟩] W fun x w'=>x = .returned (.string C)∧Below W.heap.size W w')
 (h69:∀ W,Below w.heap.size w W→Calls Tryz.prog 69 #[mia m1] W fun x w'=>x = .returned (.string P)∧Below W.heap.size W w') :
 Calls Tryz.prog 69 #[mia ⟨8,u,t,some ⟨g,z,none⟩,n,c,lo,hi,nt,key⟩] w (ItX w (C++⟨#[58]⟩++P)):=by
 have hs:signB 22=⟨#[58]⟩:=by decide +kernel
 have H68:Hid (∀ W,Calls Tryz.prog 68 #[.int .i64 22] W fun e w'=>e = .returned (.string ⟨#[58]⟩)∧Below W.heap.size W w'):=fun W=>by
  rw [←hs]
  refine (signK_any 22 W).mono ?_
  rintro e w' ⟨rfl,rfl⟩
  exact ⟨rfl,Below.refl _ _⟩
 have H:Hid (∀ i v,(mi1 m1)[i]? = some v→w.cell? ⟨g,z+i,none⟩=some v):=hpart
 have H118:Hid (∀ W,Below w.heap.size w W→Calls Tryz.prog 118 #[mia ⟨8,u,t,some ⟨g,z,none⟩,n,c,lo,hi,nt,key⟩] W fun x w'=>x = .returned (.string C)∧Below W.heap.size W w'):=h118
 have H69:Hid (∀ W,Below w.heap.size w W→Calls Tryz.prog 69 #[mia m1] W fun x w'=>x = .returned (.string P)∧Below W.heap.size W w'):=h69
 have hx1:(C++⟨#[58]⟩:ByteArray).size=C.size+1:=by rw [ByteArray.size_append];rfl
 have hx2:(C++⟨#[58]⟩++P:ByteArray).size=C.size+1+P.size:=by rw [ByteArray.size_append,hx1]
 have hnn:(1:Int)≤(n:Int):=by omega
 have hn0:(0:Int)<(n:Int):=by omega
 have HB0:Hid (Below w.heap.size w (w.alloc (.cells (mi1 ⟨8,u,t,some ⟨g,z,none⟩,n,c,lo,hi,nt,key⟩).toArray 58))):=(Below.refl _ w).alloc (Nat.le_refl _) _
 have HI0:Hid (IB (w.alloc (.cells (mi1 ⟨8,u,t,some ⟨g,z,none⟩,n,c,lo,hi,nt,key⟩).toArray 58)) w.heap.size ⟨8,u,t,some ⟨g,z,none⟩,n,c,lo,hi,nt,key⟩):=IB.new _ _
 clear hpart h118 h69 hs
 go_enter Tryz.func69,Tryz.ntmps69
 go_upto_region 15 with fail
 rename_i Kx hKx
 have HE:Hid (∀ wx,Ext (w.alloc (.cells (mi1 ⟨8,u,t,some ⟨g,z,none⟩,n,c,lo,hi,nt,key⟩).toArray 58)) wx→Below w.heap.size w wx):=fun wx hE=>HB0.out.trans (hE.mono (by simp))
 refine wp_region_vals (by kernel_rfl) (by kernel_rfl) (by kernel_rfl) (by kernel_rfl) [mia ⟨8,u,t,some ⟨g,z,none⟩,n,c,lo,hi,nt,key⟩,.string C,.string ⟨#[58]⟩,.string (C++⟨#[58]⟩),.pointer (some ⟨w.heap.size,3,none⟩),.slice (some ⟨g,z,none⟩) n c,.pointer (some ⟨g,z,none⟩),mia m1,.string P,.string (C++⟨#[58]⟩++P),.string (C++⟨#[58]⟩++P)] ⟨?_,?_,?_,?_,?_,?_,?_,?_,?_,?_,?_,trivial⟩ ?_
 · as_aux_lemma=>
    intro A wx hE hd hfr K hK
    have f0:A.tmps.getD 1 undef = .pointer (some ⟨w.heap.size,0,none⟩):=hfr 1 (by kernel_rfl)
    obtain ⟨c0,c1,c2,c3,c4,c5,c6,c7⟩:=(HI0.out.same (hE.block _ HI0.out.lt)).cells
    simp only [Array.getD_eq_getD_getElem?] at f0
    have hK1:=hK (mia ⟨8,u,t,some ⟨g,z,none⟩,n,c,lo,hi,nt,key⟩) wx (Below.refl _ _) rfl
    clear hfr hd hE hK
    go_simp
    exact hK1
 · as_aux_lemma=>
    intro A wx hE hd hfr K hK
    have d0:A.tmps.getD 41 undef=mia ⟨8,u,t,some ⟨g,z,none⟩,n,c,lo,hi,nt,key⟩:=hd 0 (by kernel_rfl) _ _ (by rfl) rfl
    have hCall:=H118.out wx (HE.out wx hE)
    simp only [Array.getD_eq_getD_getElem?] at d0
    clear hfr hd hE
    go_simp
    refine hCall.mono ?_
    rintro e w' ⟨rfl,hg⟩
    exact hK _ _ hg rfl
 · as_aux_lemma=>
    intro A wx hE hd hfr K hK
    have hCall:=H68.out wx
    clear hfr hd hE
    go_simp
    refine hCall.mono ?_
    rintro e w' ⟨rfl,hg⟩
    exact hK _ _ hg rfl
 · as_aux_lemma=>
    intro A wx hE hd hfr K hK
    have d0:A.tmps.getD 42 undef = .string C:=hd 1 (by kernel_rfl) _ _ (by rfl) rfl
    have d1:A.tmps.getD 43 undef = .string ⟨#[58]⟩:=hd 2 (by kernel_rfl) _ _ (by rfl) rfl
    simp only [Array.getD_eq_getD_getElem?] at d0 d1
    have hK1:=hK (.string (C++⟨#[58]⟩)) wx (Below.refl _ _) rfl
    clear hfr hd hE hK
    go_simp
    rw [if_neg (by omega)];exact hK1
 · as_aux_lemma=>
    intro A wx hE hd hfr K hK
    have f0:A.tmps.getD 1 undef = .pointer (some ⟨w.heap.size,0,none⟩):=hfr 1 (by kernel_rfl)
    simp only [Array.getD_eq_getD_getElem?] at f0
    have hK1:=hK (.pointer (some ⟨w.heap.size,3,none⟩)) wx (Below.refl _ _) rfl
    clear hfr hd hE hK
    go_simp
    exact hK1
 · as_aux_lemma=>
    intro A wx hE hd hfr K hK
    have d0:A.tmps.getD 45 undef = .pointer (some ⟨w.heap.size,3,none⟩):=hd 4 (by kernel_rfl) _ _ (by rfl) rfl
    obtain ⟨c0,c1,c2,c3,c4,c5,c6,c7⟩:=(HI0.out.same (hE.block _ HI0.out.lt)).cells
    simp only [Array.getD_eq_getD_getElem?] at d0
    have hK1:=hK (.slice (some ⟨g,z,none⟩) n c) wx (Below.refl _ _) rfl
    clear hfr hd hE hK
    go_simp
    exact hK1
 · as_aux_lemma=>
    intro A wx hE hd hfr K hK
    have d0:A.tmps.getD 46 undef = .slice (some ⟨g,z,none⟩) n c:=hd 5 (by kernel_rfl) _ _ (by rfl) rfl
    simp only [Array.getD_eq_getD_getElem?] at d0
    have hK1:=hK (.pointer (some ⟨g,z,none⟩)) wx (Below.refl _ _) rfl
    clear hfr hd hE hK
    go_simp
    rw [if_pos (by omega)];exact hK1
 · as_aux_lemma=>
    intro A wx hE hd hfr K hK
    have d0:A.tmps.getD 47 undef = .pointer (some ⟨g,z,none⟩):=hd 6 (by kernel_rfl) _ _ (by rfl) rfl
    have ck:=ck_below (HE.out wx hE)
    have q0:=ck _ _ (H.out 0 _ rfl)
    have q1:=ck _ _ (H.out 1 _ rfl)
    have q2:=ck _ _ (H.out 2 _ rfl)
    have q3:=ck _ _ (H.out 3 _ rfl)
    have q4:=ck _ _ (H.out 4 _ rfl)
    have q5:=ck _ _ (H.out 5 _ rfl)
    have q6:=ck _ _ (H.out 6 _ rfl)
    have q7:=ck _ _ (H.out 7 _ rfl)
    simp only [Nat.add_zero] at q0
    clear ck
    simp only [Array.getD_eq_getD_getElem?] at d0
    have hK1:=hK (mia m1) wx (Below.refl _ _) rfl
    clear hfr hd hE hK
    go_simp
    exact hK1
 · as_aux_lemma=>
    intro A wx hE hd hfr K hK
    have d0:A.tmps.getD 48 undef=mia m1:=hd 7 (by kernel_rfl) _ _ (by rfl) rfl
    have hCall:=H69.out wx (HE.out wx hE)
    simp only [Array.getD_eq_getD_getElem?] at d0
    clear hfr hd hE
    go_simp
    refine hCall.mono ?_
    rintro e w' ⟨rfl,hg⟩
    exact hK _ _ hg rfl
 · as_aux_lemma=>
    intro A wx hE hd hfr K hK
    have d0:A.tmps.getD 44 undef = .string (C++⟨#[58]⟩):=hd 3 (by kernel_rfl) _ _ (by rfl) rfl
    have d1:A.tmps.getD 49 undef = .string P:=hd 8 (by kernel_rfl) _ _ (by rfl) rfl
    simp only [Array.getD_eq_getD_getElem?] at d0 d1
    have hK1:=hK (.string (C++⟨#[58]⟩++P)) wx (Below.refl _ _) rfl
    clear hfr hd hE hK
    go_simp
    rw [if_neg (by omega)];exact hK1
 · as_aux_lemma=>
    intro A wx hE hd hfr K hK
    have d0:A.tmps.getD 50 undef = .string (C++⟨#[58]⟩++P):=hd 9 (by kernel_rfl) _ _ (by rfl) rfl
    simp only [Array.getD_eq_getD_getElem?] at d0
    have hK1:=hK (.string (C++⟨#[58]⟩++P)) wx (Below.refl _ _) rfl
    clear hfr hd hE hK
    go_simp
    exact hK1
 · intro w5 hE
   have HB:Hid (Below w.heap.size w w5):=HE.out w5 hE
   rw [putL_eq]
   simp only [putsL,List.set_cons_zero,List.set_cons_succ,Nat.zero_add,Nat.reduceAdd,List.getD_cons_zero,List.getD_cons_succ]
   clear hE HE HI0 HB0 H H118 H69 H68
   refine hKx _ _ ?_
   clear hKx
   go_wp2
   go_ret
   exact ⟨rfl,HB.out⟩
end Go.Proofs
namespace Go.Proofs
open Go.RowKit Go.Shelf
set_option maxRecDepth 100000
def Env (w:World):Prop:=TabB w∧PowT w
theorem PowT.below {w W:World} (h:PowT w) (hb:Below w.heap.size w W):PowT W:=by
 have h : w.var? Tryz.prog "internal/strconv.uint64pow10" = some (Lib.pow10Tab.map fun z => Value.int .u64 z).toArray := h
 show W.var? Tryz.prog "internal/strconv.uint64pow10" = _
 rw [←h]
 unfold World.var? at h ⊢
 cases hg : Tryz.prog.globalNamed "internal/strconv.uint64pow10" with
 | none=>rfl
 | some g=>
  rw [hg] at h
  simp only [Option.bind_some] at h ⊢
  cases hh:w.heap[g]? with
  | none=>rw [hh] at h;cases h
  | some o=>rw [hb.block g (Array.getElem?_eq_some_iff.1 hh).1,hh]
theorem Env.below {w W:World} (h:Env w) (hb:Below w.heap.size w W):Env W:=⟨ck_below hb _ _ h.1,h.2.below hb⟩
theorem Env.alloc {w:World} (h:Env w) (o:Obj):Env (w.alloc o):=h.below ((Below.refl _ w).alloc (Nat.le_refl _) _)
theorem Env.t8 {w:World} (h:Env w):8<w.heap.size:=by
 obtain ⟨o,ho,_⟩:=cells_of_cell h.1
 exact (Array.getElem?_eq_some_iff.1 ho).1
abbrev nIt:It := .mk 0 0 ⟨#[]⟩ [] 0 0 false 0
noncomputable def leafS:It→ByteArray
 | .mk k u t _ lo hi _ key=>if k=1 then unitS u else if k=2 then ⟨#[36]⟩++t else if k=3 then ⟨#[91,58]⟩++t++⟨#[58,93]⟩ else if k=4 then ⟨#[46]⟩ else if k=6 then unitS lo++⟨#[45]⟩++unitS hi else copyS key
noncomputable def itemS:It→ByteArray
 | .mk k u t ps lo hi nt key=>if k=5 then setS nt (ps.map leafS) else leafS (.mk k u t ps lo hi nt key)
noncomputable def texS:It→ByteArray
 | .mk k u t ps lo hi nt key=>if k=8 then copyS key++⟨#[58]⟩++itemS (ps.headD nIt) else itemS (.mk k u t ps lo hi nt key)
def ckSub (d:Nat) (i:It) (m2:Nat):Option Int:=match d with
 | 0=>none
 | d+1=>ckRw (ckI d m2) i.ps
theorem ckI_eq (d may:Nat) (i:It):ckI d may i=ckB may i (ckSub d i):=by
 cases d <;> rfl
theorem ckB_none {may:Nat} {i:It} {sub:Nat→Option Int} (h:ckB may i sub=none):hasK may i.knd=true∧stI (itM i)=true∧(i.knd=5→sub 78=none)∧(i.knd=8→sub 60=none)∧(i.knd=6→i.rng=true):=by
 unfold ckB at h
 by_cases h1:(hasK may i.knd && stI (itM i))=true
 · rw [if_pos h1] at h
   rw [Bool.and_eq_true] at h1
   refine ⟨h1.1,h1.2,fun e => ?_,fun e => ?_,fun e => ?_⟩
   · rwa [if_pos e] at h
   · rwa [if_neg (by omega),if_pos e] at h
   · rw [if_neg (by omega),if_neg (by omega),if_pos e] at h
     cases hr:i.rng with
     | true=>rfl
     | false=>rw [hr] at h;cases h
 · rw [if_neg h1] at h
   cases h
theorem ckRw_none {f:It→Option Int} {l:List It} (h:ckRw f l=none):l.length≤512∧∀ i∈l,f i=none:=by
 unfold ckRw at h
 split at h
 · cases h
 · refine ⟨by omega,?_⟩
   rwa [List.findSome?_eq_none_iff] at h
theorem hasK_bits {may:Nat} {k:Int} (h:hasK may k=true):∃ n:Nat,k=n∧1≤n∧n≤8∧may.testBit n=true:=by
 unfold hasK at h
 simp only [Bool.and_eq_true,decide_eq_true_eq] at h
 exact ⟨k.toNat,by omega,by omega,by omega,h.2.2⟩
theorem hasK_78 {k:Int} (h:hasK 78 k=true):k=1∨k=2∨k=3∨k=6:=by
 obtain ⟨n,rfl,h1,h2,h3⟩:=hasK_bits h
 have:n=1∨n=2∨n=3∨n=4∨n=5∨n=6∨n=7∨n=8:=by omega
 rcases this with rfl | rfl | rfl | rfl | rfl | rfl | rfl | rfl <;> revert h3 <;> decide
theorem hasK_62 {k:Int} (h:hasK 62 k=true):k=1∨k=2∨k=3∨k=4∨k=5:=by
 obtain ⟨n,rfl,h1,h2,h3⟩:=hasK_bits h
 have:n=1∨n=2∨n=3∨n=4∨n=5∨n=6∨n=7∨n=8:=by omega
 rcases this with rfl | rfl | rfl | rfl | rfl | rfl | rfl | rfl <;> revert h3 <;> decide
theorem hasK_60 {k:Int} (h:hasK 60 k=true):k=2∨k=3∨k=4∨k=5:=by
 obtain ⟨n,rfl,h1,h2,h3⟩:=hasK_bits h
 have:n=1∨n=2∨n=3∨n=4∨n=5∨n=6∨n=7∨n=8:=by omega
 rcases this with rfl | rfl | rfl | rfl | rfl | rfl | rfl | rfl <;> revert h3 <;> decide
theorem unitS_small {u:Int} (h:0<wd u):(unitS u).size≤100:=by
 obtain ⟨e,-,-,h1 | h1⟩:=unitS_spec u
 · omega
 · exact h1.2.2.1
theorem copyS_small {n:Int} (h:cpB n=true):(copyS n).size≤100 ∧ -9223372036854775808≤n∧n≤9223372036854775807:=by
 unfold cpB at h
 simp only [Bool.and_eq_true,decide_eq_true_eq] at h
 have:=Lib.itoa_length_le n (by omega) (by omega)
 refine ⟨?_,by omega,by omega⟩
 unfold copyS
 rw [ByteArray.size_append]
 have:(⟨(Lib.itoa n).toArray⟩:ByteArray).size=(Lib.itoa n).length:=by
  show (Lib.itoa n).toArray.size=_
  simp
 rw [this]
 have:(⟨#[64]⟩:ByteArray).size=1:=rfl
 omega
theorem nameOk_small {t:ByteArray} (h:nameOk t=true):t.size≤32:=by
 unfold nameOk at h
 simp only [Bool.and_eq_true,decide_eq_true_eq] at h
 exact h.2.2
theorem text_leaf {m:MI} {i:It} (hP:Plain m i) (hk:i.knd=1∨i.knd=2∨i.knd=3∨i.knd=4∨i.knd=6∨i.knd=7) (hs:stI (itM i)=true) (w:World) (hE:Env w):Calls Tryz.prog 69 #[mia m] w (ItX w (leafS i)):=by
 obtain ⟨k,u,t,ps,lo,hi,nt,key⟩:=i
 obtain ⟨mk,mu,mt,A,n,c,mlo,mhi,mnt,mkey⟩:=m
 obtain ⟨h1,h2,h3,h4,h5,h6,h7⟩:=hP
 simp only at h1 h2 h3 h4 h5 h6 h7
 subst h1 h2 h3 h4 h5 h6 h7
 have hk:mk=1∨mk=2∨mk=3∨mk=4∨mk=6∨mk=7:=hk
 rcases hk with rfl | rfl | rfl | rfl | rfl | rfl
 · exact itemText_1 mu mt A n c mlo mhi mnt mkey w (hE.alloc _).1
 · have:(nameOk mt && blankB { itM (.mk 2 mu mt ps mlo mhi mnt mkey) with t:=⟨#[]⟩ })=true:=hs
   rw [Bool.and_eq_true] at this
   have:=nameOk_small this.1
   exact itemText_2 mu mt A n c mlo mhi mnt mkey w (by omega)
 · have:(nameOk mt && blankB { itM (.mk 3 mu mt ps mlo mhi mnt mkey) with t:=⟨#[]⟩ })=true:=hs
   rw [Bool.and_eq_true] at this
   have:=nameOk_small this.1
   exact itemText_3 mu mt A n c mlo mhi mnt mkey w (by omega)
 · exact itemText_4 mu mt A n c mlo mhi mnt mkey w
 · have:((decide (0<wd mlo) && decide (0<wd mhi)) && blankB { itM (.mk 6 mu mt ps mlo mhi mnt mkey) with lo:=0,hi:=0 })=true:=hs
   simp only [Bool.and_eq_true,decide_eq_true_eq] at this
   exact itemText_6 mu mt A n c mlo mhi mnt mkey w hE.1 hE.t8 (unitS_small this.1.1) (unitS_small this.1.2)
 · have:(cpB mkey && blankB { itM (.mk 7 mu mt ps mlo mhi mnt mkey) with key:=0 })=true:=hs
   rw [Bool.and_eq_true] at this
   have:=copyS_small this.1
   exact itemText_else 7 mu mt A n c mlo mhi mnt mkey w rfl this.2.1 this.2.2 (fun o o2=>((hE.alloc o).alloc o2).2)
theorem leaf_small {i:It} (hk:i.knd=1∨i.knd=2∨i.knd=3∨i.knd=4∨i.knd=6∨i.knd=7) (hs:stI (itM i)=true):(leafS i).size≤300:=by
 obtain ⟨k,u,t,ps,lo,hi,nt,key⟩:=i
 have hk:k=1∨k=2∨k=3∨k=4∨k=6∨k=7:=hk
 rcases hk with rfl | rfl | rfl | rfl | rfl | rfl
 · have:(decide (0<wd u) && blankB { itM (.mk 1 u t ps lo hi nt key) with u:=0 })=true:=hs
   simp only [Bool.and_eq_true,decide_eq_true_eq] at this
   have:=unitS_small this.1
   show (unitS u).size≤300
   omega
 · have:(nameOk t && blankB { itM (.mk 2 u t ps lo hi nt key) with t:=⟨#[]⟩ })=true:=hs
   rw [Bool.and_eq_true] at this
   have:=nameOk_small this.1
   show ((⟨#[36]⟩:ByteArray)++t).size≤300
   rw [ByteArray.size_append]
   have:(⟨#[36]⟩:ByteArray).size=1:=rfl
   omega
 · have:(nameOk t && blankB { itM (.mk 3 u t ps lo hi nt key) with t:=⟨#[]⟩ })=true:=hs
   rw [Bool.and_eq_true] at this
   have:=nameOk_small this.1
   show ((⟨#[91,58]⟩:ByteArray)++t++⟨#[58,93]⟩).size≤300
   rw [ByteArray.size_append,ByteArray.size_append]
   have:(⟨#[91,58]⟩:ByteArray).size=2:=rfl
   have:(⟨#[58,93]⟩:ByteArray).size=2:=rfl
   omega
 · show (⟨#[46]⟩:ByteArray).size≤300
   decide
 · have:((decide (0<wd lo) && decide (0<wd hi)) && blankB { itM (.mk 6 u t ps lo hi nt key) with lo:=0,hi:=0 })=true:=hs
   simp only [Bool.and_eq_true,decide_eq_true_eq] at this
   have h1:=unitS_small this.1.1
   have h2:=unitS_small this.1.2
   show (unitS lo++⟨#[45]⟩++unitS hi).size≤300
   rw [ByteArray.size_append,ByteArray.size_append]
   have:(⟨#[45]⟩:ByteArray).size=1:=rfl
   omega
 · have:(cpB key && blankB { itM (.mk 7 u t ps lo hi nt key) with key:=0 })=true:=hs
   rw [Bool.and_eq_true] at this
   have:=(copyS_small this.1).1
   show (copyS key).size≤300
   omega
theorem jnB_size (xs:List ByteArray):(jnB xs).size=(Lib.join (xs.map (·.data.toList)) [32]).length:=by
 show (Lib.join (xs.map (·.data.toList)) [32]).toArray.size=_
 simp
theorem joinTail_le {B:Nat} : ∀ (xs:List ByteArray),(∀ x∈xs,x.size≤B)→(Lib.joinTail [32] (xs.map (·.data.toList))).length≤xs.length*(B+1)
 | [],_=>by simp [Lib.joinTail]
 | x::xs,h=>by
  have h1:=joinTail_le xs (fun y hy=>h y (List.mem_cons_of_mem _ hy))
  have h2:=h x List.mem_cons_self
  have h3:x.data.toList.length=x.size:=Array.length_toList
  simp only [Lib.joinTail,List.map_cons,List.flatten_cons,List.length_append,List.length_cons] at h1 ⊢
  rw [Nat.add_mul]
  simp only [List.length_nil,h3]
  omega
theorem jnB_le {B:Nat} (xs:List ByteArray) (h:∀ x∈xs,x.size≤B):(jnB xs).size≤xs.length*(B+1):=by
 rw [jnB_size]
 cases xs with
 | nil=>simp [Lib.join_nil]
 | cons x xs=>
  have h1:=joinTail_le xs (fun y hy=>h y (List.mem_cons_of_mem _ hy))
  have h2:=h x List.mem_cons_self
  have h3:x.data.toList.length=x.size:=Array.length_toList
  rw [List.map_cons,Lib.join_cons,List.length_append,List.length_cons,Nat.add_mul,h3]
  omega
theorem setS_le (nt:Bool) (xs:List ByteArray):(setS nt xs).size≤(jnB xs).size+3:=by
 unfold setS
 rw [ByteArray.size_append,ByteArray.size_append]
 have h1:(⟨#[93]⟩:ByteArray).size=1:=rfl
 have h2:(if nt then (⟨#[91]⟩:ByteArray)++⟨#[94]⟩ else ⟨#[91]⟩).size≤2:=by cases nt <;> decide
 omega
theorem parts_leaf {d:Nat} {i:It} (h:ckSub (d+1) i 78=none):i.ps.length≤512∧∀ p∈i.ps,(p.knd=1∨p.knd=2∨p.knd=3∨p.knd=4∨p.knd=6∨p.knd=7)∧stI (itM p)=true:=by
 have h:=ckRw_none h
 refine ⟨h.1,fun p hp => ?_⟩
 have h1:=h.2 p hp
 rw [ckI_eq] at h1
 have h2:=ckB_none h1
 refine ⟨?_,h2.2.1⟩
 rcases hasK_78 h2.1 with e | e | e | e <;> simp [e]
theorem parts_small {i:It} (h:∀ p∈i.ps,(p.knd=1∨p.knd=2∨p.knd=3∨p.knd=4∨p.knd=6∨p.knd=7)∧stI (itM p)=true) (hl:i.ps.length≤512):(jnB (i.ps.map leafS)).size≤512*301:=by
 have:=jnB_le (B:=300) (i.ps.map leafS) (fun x hx=>by
  obtain ⟨p,hp,rfl⟩:=List.mem_map.1 hx
  exact leaf_small (h p hp).1 (h p hp).2)
 rw [List.length_map] at this
 have:i.ps.length*301≤512*301:=Nat.mul_le_mul_right _ hl
 omega
theorem text_item {d:Nat} {w:World} {m:MI} {i:It} (h:RdM d w m i) (hk:i.knd=5∨(i.knd=1∨i.knd=2∨i.knd=3∨i.knd=4∨i.knd=6∨i.knd=7)) (hs:stI (itM i)=true) (h5:i.knd=5→ckSub d i 78=none) (hE:Env w):Calls Tryz.prog 69 #[mia m] w (ItX w (itemS i)):=by
 by_cases hk5:i.knd=5
 · have hP:=h.plain
   have hpar:∃ ms,RdR w m.A m.n ms∧All2 (fun m i=>Plain m i) ms i.ps∧i.ps.length≤512∧∀ p∈i.ps,(p.knd=1∨p.knd=2∨p.knd=3∨p.knd=4∨p.knd=6∨p.knd=7)∧stI (itM p)=true:=by
    cases d with
    | zero=>
     obtain ⟨_,e,e2⟩:=h
     rw [e]
     exact ⟨[],⟨e2,by omega,.inl e2⟩,trivial,by simp,by simp⟩
    | succ d=>
     obtain ⟨_,ms,h1,h2⟩:=h
     exact ⟨ms,h1,h2.mono fun _ _ q=>q.plain,parts_leaf (h5 hk5)⟩
   obtain ⟨ms,hR,hA,hl,hp⟩:=hpar
   have hz:=parts_small hp hl
   obtain ⟨k,u,t,ps,lo,hi,nt,key⟩:=i
   obtain ⟨mk,mu,mt,A,n,c,mlo,mhi,mnt,mkey⟩:=m
   obtain ⟨h1,h2,h3,h4,h5',h6,h7⟩:=hP
   simp only at h1 h2 h3 h4 h5' h6 h7
   subst h1 h2 h3 h4 h5' h6 h7
   have hk5:mk=5:=hk5
   subst hk5
   have hlen:=hA.length
   have hl:ps.length≤512:=hl
   have hlen:ms.length=ps.length:=hlen
   have hz:(jnB (ps.map leafS)).size≤512*301:=hz
   have hn:n=ps.length:=by rw [←hlen];exact hR.1
   refine itemText_5 mu mt A n c mlo mhi mnt mkey w (setS mnt (ps.map leafS)) fun W hW => ?_
   refine setText_step ⟨5,mu,mt,A,n,c,mlo,mhi,mnt,mkey⟩ (ps.map leafS) W (by rw [List.length_map];omega) (by omega) fun W2 hW2 => ?_
   have hb2:Below w.heap.size w W2:=hW.trans (hW2.mono hW.size)
   refine itemTexts_step leafS W2 A n c ms ps (hR.ck (ck_below hb2)) hlen (by omega) fun j m' i' e1 e2 W3 hW3 => ?_
   have hp':=hp i' (List.mem_of_getElem? e2)
   exact text_leaf (hA.get e1 e2) hp'.1 hp'.2 W3 ((hE.below hb2).below hW3)
 · have hk':=hk.resolve_left hk5
   have:itemS i=leafS i:=by
    obtain ⟨k,u,t,ps,lo,hi,nt,key⟩:=i
    exact if_neg hk5
   rw [this]
   exact text_leaf h.plain hk' hs w hE
theorem item_small {d:Nat} {i:It} (hk:i.knd=5∨(i.knd=1∨i.knd=2∨i.knd=3∨i.knd=4∨i.knd=6∨i.knd=7)) (hs:stI (itM i)=true) (h5:i.knd=5→ckSub d i 78=none) (hd:d=0→i.ps=[]):(itemS i).size≤155000:=by
 by_cases hk5:i.knd=5
 · have hz:(jnB (i.ps.map leafS)).size≤512*301:=by
    cases d with
    | zero=>rw [hd rfl];exact parts_small (i:=nIt) (by intro p hp;cases hp) (by show 0≤512;omega)
    | succ d=>
     have:=parts_leaf (h5 hk5)
     exact parts_small this.2 this.1
   obtain ⟨k,u,t,ps,lo,hi,nt,key⟩:=i
   have hk5:k=5:=hk5
   subst hk5
   have hz:(jnB (ps.map leafS)).size≤512*301:=hz
   have:=setS_le nt (ps.map leafS)
   show (setS nt (ps.map leafS)).size≤155000
   omega
 · have hk':=hk.resolve_left hk5
   have:itemS i=leafS i:=by
    obtain ⟨k,u,t,ps,lo,hi,nt,key⟩:=i
    exact if_neg hk5
   rw [this]
   have:=leaf_small hk' hs
   omega
end Go.Proofs
