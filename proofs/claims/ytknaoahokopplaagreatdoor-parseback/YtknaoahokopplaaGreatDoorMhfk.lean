/-
  Several texts in one (X5k N3k N4k).
-/
import Derived.Test.YtknaoahokopplaaGreatDoorMhek
import Derived.Test.YtknaoahokopplaaGreatDoorMhck
import Derived.Test.YtknaoahokopplaaGreatDoorMhdk
namespace Go.Proofs
open Go.RowKit Go.Shelf
set_option maxRecDepth 100000
def Env (w:World):Prop:=TabB w∧PowT w
theorem PowT.below {w W:World} (h:PowT w) (hb:Below w.heap.size w W):PowT W:=by
 have h : w.var? Tryz.prog "internal/strconv.uint64pow10" = some (Lib.pow10Tab.map fun z => Value.int .u64 z).toArray := h
 show W.var? Tryz.prog "internal/strconv.uint64pow10" = _
 rw [←h]
 unfold World.var? at h ⊢
 cases hg : Tryz.prog.globalNamed "internal/strconv.uint64pow10" with
 | none=>rfl
 | some g=>
  rw [hg] at h
  simp only [Option.bind_some] at h ⊢
  cases hh:w.heap[g]? with
  | none=>rw [hh] at h;cases h
  | some o=>rw [hb.block g (Array.getElem?_eq_some_iff.1 hh).1,hh]
theorem Env.below {w W:World} (h:Env w) (hb:Below w.heap.size w W):Env W:=⟨ck_below hb _ _ h.1,h.2.below hb⟩
theorem Env.alloc {w:World} (h:Env w) (o:Obj):Env (w.alloc o):=h.below ((Below.refl _ w).alloc (Nat.le_refl _) _)
theorem Env.t8 {w:World} (h:Env w):8<w.heap.size:=by
 obtain ⟨o,ho,_⟩:=cells_of_cell h.1
 exact (Array.getElem?_eq_some_iff.1 ho).1
abbrev nIt:It := .mk 0 0 ⟨#[]⟩ [] 0 0 false 0
noncomputable def leafS:It→ByteArray
 | .mk k u t _ lo hi _ key=>if k=1 then unitS u else if k=2 then ⟨#[36]⟩++t else if k=3 then ⟨#[91,58]⟩++t++⟨#[58,93]⟩ else if k=4 then ⟨#[46]⟩ else if k=6 then unitS lo++⟨#[45]⟩++unitS hi else copyS key
noncomputable def itemS:It→ByteArray
 | .mk k u t ps lo hi nt key=>if k=5 then setS nt (ps.map leafS) else leafS (.mk k u t ps lo hi nt key)
noncomputable def texS:It→ByteArray
 | .mk k u t ps lo hi nt key=>if k=8 then copyS key++⟨#[58]⟩++itemS (ps.headD nIt) else itemS (.mk k u t ps lo hi nt key)
def ckSub (d:Nat) (i:It) (m2:Nat):Option Int:=match d with
 | 0=>none
 | d+1=>ckRw (ckI d m2) i.ps
theorem ckI_eq (d may:Nat) (i:It):ckI d may i=ckB may i (ckSub d i):=by
 cases d <;> rfl
theorem ckB_none {may:Nat} {i:It} {sub:Nat→Option Int} (h:ckB may i sub=none):hasK may i.knd=true∧stI (itM i)=true∧(i.knd=5→sub 78=none)∧(i.knd=8→sub 60=none)∧(i.knd=6→i.rng=true):=by
 unfold ckB at h
 by_cases h1:(hasK may i.knd && stI (itM i))=true
 · rw [if_pos h1] at h
   rw [Bool.and_eq_true] at h1
   refine ⟨h1.1,h1.2,fun e => ?_,fun e => ?_,fun e => ?_⟩
   · rwa [if_pos e] at h
   · rwa [if_neg (by omega),if_pos e] at h
   · rw [if_neg (by omega),if_neg (by omega),if_pos e] at h
     cases hr:i.rng with
     | true=>rfl
     | false=>rw [hr] at h;cases h
 · rw [if_neg h1] at h
   cases h
theorem ckRw_none {f:It→Option Int} {l:List It} (h:ckRw f l=none):l.length≤512∧∀ i∈l,f i=none:=by
 unfold ckRw at h
 split at h
 · cases h
 · refine ⟨by omega,?_⟩
   rwa [List.findSome?_eq_none_iff] at h
theorem hasK_bits {may:Nat} {k:Int} (h:hasK may k=true):∃ n:Nat,k=n∧1≤n∧n≤8∧may.testBit n=true:=by
 unfold hasK at h
 simp only [Bool.and_eq_true,decide_eq_true_eq] at h
 exact ⟨k.toNat,by omega,by omega,by omega,h.2.2⟩
theorem hasK_78 {k:Int} (h:hasK 78 k=true):k=1∨k=2∨k=3∨k=6:=by
 obtain ⟨n,rfl,h1,h2,h3⟩:=hasK_bits h
 have:n=1∨n=2∨n=3∨n=4∨n=5∨n=6∨n=7∨n=8:=by omega
 rcases this with rfl | rfl | rfl | rfl | rfl | rfl | rfl | rfl <;> revert h3 <;> decide
theorem hasK_60 {k:Int} (h:hasK 60 k=true):k=2∨k=3∨k=4∨k=5:=by
 obtain ⟨n,rfl,h1,h2,h3⟩:=hasK_bits h
 have:n=1∨n=2∨n=3∨n=4∨n=5∨n=6∨n=7∨n=8:=by omega
 rcases this with rfl | rfl | rfl | rfl | rfl | rfl | rfl | rfl <;> revert h3 <;> decide
theorem unitS_small {u:Int} (h:0<wd u):(unitS u).size≤100:=by
 obtain ⟨e,-,-,h1 | h1⟩:=unitS_spec u
 · omega
 · exact h1.2.2.1
theorem copyS_small {n:Int} (h:cpB n=true):(copyS n).size≤100 ∧ -9223372036854775808≤n∧n≤9223372036854775807:=by
 unfold cpB at h
 simp only [Bool.and_eq_true,decide_eq_true_eq] at h
 have:=Lib.itoa_length_le n (by omega) (by omega)
 refine ⟨?_,by omega,by omega⟩
 unfold copyS
 rw [ByteArray.size_append]
 have:(⟨(Lib.itoa n).toArray⟩:ByteArray).size=(Lib.itoa n).length:=by
  show (Lib.itoa n).toArray.size=_
  simp
 rw [this]
 have:(⟨#[64]⟩:ByteArray).size=1:=rfl
 omega
theorem nameOk_small {t:ByteArray} (h:nameOk t=true):t.size≤32:=by
 unfold nameOk at h
 simp only [Bool.and_eq_true,decide_eq_true_eq] at h
 exact h.2.2
theorem text_leaf {m:MI} {i:It} (hP:Plain m i) (hk:i.knd=1∨i.knd=2∨i.knd=3∨i.knd=4∨i.knd=6∨i.knd=7) (hs:stI (itM i)=true) (w:World) (hE:Env w):Calls Tryz.prog 69 #[mia m] w (ItX w (leafS i)):=by
 obtain ⟨k,u,t,ps,lo,hi,nt,key⟩:=i
 obtain ⟨mk,mu,mt,A,n,c,mlo,mhi,mnt,mkey⟩:=m
 obtain ⟨h1,h2,h3,h4,h5,h6,h7⟩:=hP
 simp only at h1 h2 h3 h4 h5 h6 h7
 subst h1 h2 h3 h4 h5 h6 h7
 have hk:mk=1∨mk=2∨mk=3∨mk=4∨mk=6∨mk=7:=hk
 rcases hk with rfl | rfl | rfl | rfl | rfl | rfl
 · exact itemText_1 mu mt A n c mlo mhi mnt mkey w (hE.alloc _).1
 · have:(nameOk mt && blankB { itM (.mk 2 mu mt ps mlo mhi mnt mkey) with t:=⟨#[]⟩ })=true:=hs
   rw [Bool.and_eq_true] at this
   have:=nameOk_small this.1
   exact itemText_2 mu mt A n c mlo mhi mnt mkey w (by omega)
 · have:(nameOk mt && blankB { itM (.mk 3 mu mt ps mlo mhi mnt mkey) with t:=⟨#[]⟩ })=true:=hs
   rw [Bool.and_eq_true] at this
   have:=nameOk_small this.1
   exact itemText_3 mu mt A n c mlo mhi mnt mkey w (by omega)
 · exact itemText_4 mu mt A n c mlo mhi mnt mkey w
 · have:((decide (0<wd mlo) && decide (0<wd mhi)) && blankB { itM (.mk 6 mu mt ps mlo mhi mnt mkey) with lo:=0,hi:=0 })=true:=hs
   simp only [Bool.and_eq_true,decide_eq_true_eq] at this
   exact itemText_6 mu mt A n c mlo mhi mnt mkey w hE.1 hE.t8 (unitS_small this.1.1) (unitS_small this.1.2)
 · have:(cpB mkey && blankB { itM (.mk 7 mu mt ps mlo mhi mnt mkey) with key:=0 })=true:=hs
   rw [Bool.and_eq_true] at this
   have:=copyS_small this.1
   exact itemText_else 7 mu mt A n c mlo mhi mnt mkey w rfl this.2.1 this.2.2 (fun o o2=>((hE.alloc o).alloc o2).2)
theorem leaf_small {i:It} (hk:i.knd=1∨i.knd=2∨i.knd=3∨i.knd=4∨i.knd=6∨i.knd=7) (hs:stI (itM i)=true):(leafS i).size≤300:=by
 obtain ⟨k,u,t,ps,lo,hi,nt,key⟩:=i
 have hk:k=1∨k=2∨k=3∨k=4∨k=6∨k=7:=hk
 rcases hk with rfl | rfl | rfl | rfl | rfl | rfl
 · have:(decide (0<wd u) && blankB { itM (.mk 1 u t ps lo hi nt key) with u:=0 })=true:=hs
   simp only [Bool.and_eq_true,decide_eq_true_eq] at this
   have:=unitS_small this.1
   show (unitS u).size≤300
   omega
 · have:(nameOk t && blankB { itM (.mk 2 u t ps lo hi nt key) with t:=⟨#[]⟩ })=true:=hs
   rw [Bool.and_eq_true] at this
   have:=nameOk_small this.1
   show ((⟨#[36]⟩:ByteArray)++t).size≤300
   rw [ByteArray.size_append]
   have:(⟨#[36]⟩:ByteArray).size=1:=rfl
   omega
 · have:(nameOk t && blankB { itM (.mk 3 u t ps lo hi nt key) with t:=⟨#[]⟩ })=true:=hs
   rw [Bool.and_eq_true] at this
   have:=nameOk_small this.1
   show ((⟨#[91,58]⟩:ByteArray)++t++⟨#[58,93]⟩).size≤300
   rw [ByteArray.size_append,ByteArray.size_append]
   have:(⟨#[91,58]⟩:ByteArray).size=2:=rfl
   have:(⟨#[58,93]⟩:ByteArray).size=2:=rfl
   omega
 · show (⟨#[46]⟩:ByteArray).size≤300
   decide
 · have:((decide (0<wd lo) && decide (0<wd hi)) && blankB { itM (.mk 6 u t ps lo hi nt key) with lo:=0,hi:=0 })=true:=hs
   simp only [Bool.and_eq_true,decide_eq_true_eq] at this
   have h1:=unitS_small this.1.1
   have h2:=unitS_small this.1.2
   show (unitS lo++⟨#[45]⟩++unitS hi).size≤300
   rw [ByteArray.size_append,ByteArray.size_append]
   have:(⟨#[45]⟩:ByteArray).size=1:=rfl
   omega
 · have:(cpB key && blankB { itM (.mk 7 u t ps lo hi nt key) with key:=0 })=true:=hs
   rw [Bool.and_eq_true] at this
   have:=(copyS_small this.1).1
   show (copyS key).size≤300
   omega
theorem jnB_size (xs:List ByteArray):(jnB xs).size=(Lib.join (xs.map (·.data.toList)) [32]).length:=by
 show (Lib.join (xs.map (·.data.toList)) [32]).toArray.size=_
 simp
theorem joinTail_le {B:Nat} : ∀ (xs:List ByteArray),(∀ x∈xs,x.size≤B)→(Lib.joinTail [32] (xs.map (·.data.toList))).length≤xs.length*(B+1)
 | [],_=>by simp [Lib.joinTail]
 | x::xs,h=>by
  have h1:=joinTail_le xs (fun y hy=>h y (List.mem_cons_of_mem _ hy))
  have h2:=h x List.mem_cons_self
  have h3:x.data.toList.length=x.size:=Array.length_toList
  simp only [Lib.joinTail,List.map_cons,List.flatten_cons,List.length_append,List.length_cons] at h1 ⊢
  rw [Nat.add_mul]
  simp only [List.length_nil,h3]
  omega
theorem jnB_le {B:Nat} (xs:List ByteArray) (h:∀ x∈xs,x.size≤B):(jnB xs).size≤xs.length*(B+1):=by
 rw [jnB_size]
 cases xs with
 | nil=>simp [Lib.join_nil]
 | cons x xs=>
  have h1:=joinTail_le xs (fun y hy=>h y (List.mem_cons_of_mem _ hy))
  have h2:=h x List.mem_cons_self
  have h3:x.data.toList.length=x.size:=Array.length_toList
  rw [List.map_cons,Lib.join_cons,List.length_append,List.length_cons,Nat.add_mul,h3]
  omega
theorem setS_le (nt:Bool) (xs:List ByteArray):(setS nt xs).size≤(jnB xs).size+3:=by
 unfold setS
 rw [ByteArray.size_append,ByteArray.size_append]
 have h1:(⟨#[93]⟩:ByteArray).size=1:=rfl
 have h2:(if nt then (⟨#[91]⟩:ByteArray)++⟨#[94]⟩ else ⟨#[91]⟩).size≤2:=by cases nt <;> decide
 omega
theorem parts_leaf {d:Nat} {i:It} (h:ckSub (d+1) i 78=none):i.ps.length≤512∧∀ p∈i.ps,(p.knd=1∨p.knd=2∨p.knd=3∨p.knd=4∨p.knd=6∨p.knd=7)∧stI (itM p)=true:=by
 have h:=ckRw_none h
 refine ⟨h.1,fun p hp => ?_⟩
 have h1:=h.2 p hp
 rw [ckI_eq] at h1
 have h2:=ckB_none h1
 refine ⟨?_,h2.2.1⟩
 rcases hasK_78 h2.1 with e | e | e | e <;> simp [e]
theorem parts_small {i:It} (h:∀ p∈i.ps,(p.knd=1∨p.knd=2∨p.knd=3∨p.knd=4∨p.knd=6∨p.knd=7)∧stI (itM p)=true) (hl:i.ps.length≤512):(jnB (i.ps.map leafS)).size≤512*301:=by
 have:=jnB_le (B:=300) (i.ps.map leafS) (fun x hx=>by
  obtain ⟨p,hp,rfl⟩:=List.mem_map.1 hx
  exact leaf_small (h p hp).1 (h p hp).2)
 rw [List.length_map] at this
 have:i.ps.length*301≤512*301:=Nat.mul_le_mul_right _ hl
 omega
theorem text_item {d:Nat} {w:World} {m:MI} {i:It} (h:RdM d w m i) (hk:i.knd=5∨(i.knd=1∨i.knd=2∨i.knd=3∨i.knd=4∨i.knd=6∨i.knd=7)) (hs:stI (itM i)=true) (h5:i.knd=5→ckSub d i 78=none) (hE:Env w):Calls Tryz.prog 69 #[mia m] w (ItX w (itemS i)):=by
 by_cases hk5:i.knd=5
 · have hP:=h.plain
   have hpar:∃ ms,RdR w m.A m.n ms∧All2 (fun m i=>Plain m i) ms i.ps∧i.ps.length≤512∧∀ p∈i.ps,(p.knd=1∨p.knd=2∨p.knd=3∨p.knd=4∨p.knd=6∨p.knd=7)∧stI (itM p)=true:=by
    cases d with
    | zero=>
     obtain ⟨_,e,e2⟩:=h
     rw [e]
     exact ⟨[],⟨e2,by omega,.inl e2⟩,trivial,by simp,by simp⟩
    | succ d=>
     obtain ⟨_,ms,h1,h2⟩:=h
     exact ⟨ms,h1,h2.mono fun _ _ q=>q.plain,parts_leaf (h5 hk5)⟩
   obtain ⟨ms,hR,hA,hl,hp⟩:=hpar
   have hz:=parts_small hp hl
   obtain ⟨k,u,t,ps,lo,hi,nt,key⟩:=i
   obtain ⟨mk,mu,mt,A,n,c,mlo,mhi,mnt,mkey⟩:=m
   obtain ⟨h1,h2,h3,h4,h5',h6,h7⟩:=hP
   simp only at h1 h2 h3 h4 h5' h6 h7
   subst h1 h2 h3 h4 h5' h6 h7
   have hk5:mk=5:=hk5
   subst hk5
   have hlen:=hA.length
   have hl:ps.length≤512:=hl
   have hlen:ms.length=ps.length:=hlen
   have hz:(jnB (ps.map leafS)).size≤512*301:=hz
   have hn:n=ps.length:=by rw [←hlen];exact hR.1
   refine itemText_5 mu mt A n c mlo mhi mnt mkey w (setS mnt (ps.map leafS)) fun W hW => ?_
   refine setText_step ⟨5,mu,mt,A,n,c,mlo,mhi,mnt,mkey⟩ (ps.map leafS) W (by rw [List.length_map];omega) (by omega) fun W2 hW2 => ?_
   have hb2:Below w.heap.size w W2:=hW.trans (hW2.mono hW.size)
   refine itemTexts_step leafS W2 A n c ms ps (hR.ck (ck_below hb2)) hlen (by omega) fun j m' i' e1 e2 W3 hW3 => ?_
   have hp':=hp i' (List.mem_of_getElem? e2)
   exact text_leaf (hA.get e1 e2) hp'.1 hp'.2 W3 ((hE.below hb2).below hW3)
 · have hk':=hk.resolve_left hk5
   have:itemS i=leafS i:=by
    obtain ⟨k,u,t,ps,lo,hi,nt,key⟩:=i
    exact if_neg hk5
   rw [this]
   exact text_leaf h.plain hk' hs w hE
theorem item_small {d:Nat} {i:It} (hk:i.knd=5∨(i.knd=1∨i.knd=2∨i.knd=3∨i.knd=4∨i.knd=6∨i.knd=7)) (hs:stI (itM i)=true) (h5:i.knd=5→ckSub d i 78=none) (hd:d=0→i.ps=[]):(itemS i).size≤155000:=by
 by_cases hk5:i.knd=5
 · have hz:(jnB (i.ps.map leafS)).size≤512*301:=by
    cases d with
    | zero=>rw [hd rfl];exact parts_small (i:=nIt) (by intro p hp;cases hp) (by show 0≤512;omega)
    | succ d=>
     have:=parts_leaf (h5 hk5)
     exact parts_small this.2 this.1
   obtain ⟨k,u,t,ps,lo,hi,nt,key⟩:=i
   have hk5:k=5:=hk5
   subst hk5
   have hz:(jnB (ps.map leafS)).size≤512*301:=hz
   have:=setS_le nt (ps.map leafS)
   show (setS nt (ps.map leafS)).size≤155000
   omega
 · have hk':=hk.resolve_left hk5
   have:itemS i=leafS i:=by
    obtain ⟨k,u,t,ps,lo,hi,nt,key⟩:=i
    exact if_neg hk5
   rw [this]
   have:=leaf_small hk' hs
   omega
end Go.Proofs
namespace Go.Proofs
open Go.RowKit Go.Shelf
abbrev sgT (n:Int):TW:=⟨n,0,⟨#[]⟩,0⟩
abbrev unT (u:Int):TW:=⟨1,u,⟨#[]⟩,0⟩
def tokL:It→List TW
 | .mk k u t _ lo hi _ key=>if k=1 then [unT u] else if k=2 then [⟨2,0,⟨#[36]⟩++t,0⟩] else if k=3 then [⟨2,0,⟨#[58]⟩++t++⟨#[58]⟩,0⟩] else if k=4 then [sgT 17] else if k=6 then [unT lo,sgT 20,unT hi] else [⟨3,0,⟨#[]⟩,key⟩]
def LfOk:It→Prop
 | .mk k u t _ lo hi _ key=>(k=1→wd u≠0)∧(k=2∨k=3→nameOk t=true)∧(k=6→wd lo≠0∧wd hi≠0)∧(k≠1→k≠2→k≠3→k≠4→k≠6→cpB key=true)
def Fol (L:List UInt8):Prop:=∀ c,L[0]? = some c→isNm c=false∧isDg c=false
theorem nameOk_list {t:ByteArray} (h:nameOk t=true):(∀ c∈t.data.toList,isNm c=true)∧1≤t.data.toList.length∧t.data.toList.length≤32:=by
 have hz:t.data.toList.length=t.size:=by rw [Array.length_toList];rfl
 unfold nameOk at h
 simp only [Bool.and_eq_true,List.all_eq_true,decide_eq_true_eq] at h
 rw [hz]
 exact ⟨h.1,h.2.1,h.2.2⟩
theorem lit_app (x:List UInt8) (t:ByteArray):(⟨(x++t.data.toList).toArray⟩:ByteArray)=⟨x.toArray⟩++t:=by
 apply ByteArray.ext
 rw [ByteArray.data_append]
 simp
theorem leaf_run (i:It) (hi:LfOk i) {L:List UInt8} {ts:List TW} (hL:Fol L) (h:RunL L false ts):RunL ((leafS i).data.toList++L) false (tokL i++ts):=by
 obtain ⟨k,u,t,ps,lo,hi',nt,key⟩:=i
 obtain ⟨h1,h2,h6,h7⟩:=hi
 have nf:∀ {p:Prop},(false=true→p):=fun e=>by cases e
 unfold leafS tokL
 simp only
 by_cases e1:k=1
 · rw [if_pos e1,if_pos e1]
   exact RunL.unit u (h1 e1) nf h
 rw [if_neg e1,if_neg e1]
 by_cases e2:k=2
 · rw [if_pos e2,if_pos e2]
   obtain ⟨n1,n2,n3⟩:=nameOk_list (h2 (.inl e2))
   have:=RunL.var (fresh:=false) t.data.toList n1 n2 n3 (fun c hc=>(hL c hc).1) h
   rw [show (36::t.data.toList:List UInt8)=[36]++t.data.toList from rfl,lit_app] at this
   rw [ByteArray.data_append]
   simpa using this
 rw [if_neg e2,if_neg e2]
 by_cases e3:k=3
 · rw [if_pos e3,if_pos e3]
   obtain ⟨n1,n2,n3⟩:=nameOk_list (h2 (.inr e3))
   have:=RunL.cls (fresh:=false) t.data.toList n1 n2 n3 h
   have e:(⟨(58::t.data.toList++[58]).toArray⟩:ByteArray)=⟨#[58]⟩++t++⟨#[58]⟩:=by
    apply ByteArray.ext
    simp [ByteArray.data_append]
   rw [e] at this
   rw [ByteArray.data_append,ByteArray.data_append]
   simpa using this
 rw [if_neg e3,if_neg e3]
 by_cases e4:k=4
 · rw [if_pos e4,if_pos e4]
   exact RunL.sign 7 46 (by decide) ⟨by decide,by decide⟩ (fun e=>absurd e (by decide)) (fun e=>absurd e (by decide)) h
 rw [if_neg e4,if_neg e4]
 by_cases e6:k=6
 · rw [if_pos e6,if_pos e6]
   have r1:=RunL.unit hi' (h6 e6).2 (L:=L) (fresh:=false) nf h
   have r2:=RunL.sign (fresh:=false) 10 45 (by decide) ⟨by decide,by decide⟩ (fun e=>absurd e (by decide)) (fun e=>absurd e (by decide)) r1
   have r3:=RunL.unit lo (h6 e6).1 (fresh:=false) nf r2
   rw [ByteArray.data_append,ByteArray.data_append]
   simpa using r3
 rw [if_neg e6,if_neg e6]
 have hc:=h7 e1 e2 e3 e4 e6
 unfold cpB at hc
 simp only [Bool.and_eq_true,decide_eq_true_eq] at hc
 obtain ⟨v,rfl⟩:∃ v:Nat,key=(v:Int):=⟨key.toNat,by omega⟩
 exact RunL.copy v (by omega) (by omega) (fun c hc=>(hL c hc).2) h
end Go.Proofs
namespace Go.Proofs
open Go.RowKit Go.Shelf
theorem fol_32 (L:List UInt8):Fol (32::L):=fun c hc=>by simp at hc;subst hc;decide
theorem fol_93 (L:List UInt8):Fol (93::L):=fun c hc=>by simp at hc;subst hc;decide
theorem join_cons2 (x y:List UInt8) (l:List (List UInt8)):Lib.join (x::y::l) [32]=x++32::Lib.join (y::l) [32]:=by
 simp [Lib.join,List.intercalate]
theorem words_run {α:Type} (f:α→List UInt8) (tk:α→List TW):∀ (l:List α),(∀ i∈l,∀ (L:List UInt8) (ts:List TW),Fol L→RunL L false ts→RunL (f i++L) false (tk i++ts))→∀ {L:List UInt8} {ts:List TW},Fol L→RunL L false ts→RunL (Lib.join (l.map f) [32]++L) false (l.flatMap tk++ts)
 | [],_,L,ts,_,h=>by simpa [Lib.join,List.intercalate] using h
 | [x],hf,L,ts,hL,h=>by
  have:=hf x (by simp) L ts hL h
  rw [List.map_cons,List.map_nil,Lib.join_one]
  simpa using this
 | x::y::l,hf,L,ts,hL,h=>by
  have h1:=words_run f tk (y::l) (fun i hi=>hf i (List.mem_cons_of_mem _ hi)) hL h
  have h2:=hf x (by simp) _ _ (fol_32 _) h1.blank
  rw [List.map_cons,List.map_cons,join_cons2]
  simpa using h2
theorem TokS.head {L:List UInt8} {fresh:Bool} {k:Int} {l:Nat} {u:Int} {t:List UInt8} {n:Int} (h:TokS L fresh k l u t n) (hk:k=1):L[0]? ≠ some 58:=by
 intro e
 cases h with
 | var m h0=>omega
 | cls n h0=>omega
 | sgn i c h0 hi=>omega
 | cpy m v h0=>omega
 | thn hf he=>omega
 | esx a b h0=>rw [e] at h0;exact absurd h0 (by decide)
 | esb a b h0=>rw [e] at h0;exact absurd h0 (by decide)
 | esp c h0=>rw [e] at h0;exact absurd h0 (by decide)
 | bar c h0 h36 hi=>rw [e] at h0;cases h0;exact absurd hi (by decide)
theorem unit_head (u:Int) (hu:wd u≠0):(unitS u).data.toList[0]? ≠ some 58:=by
 obtain ⟨_,h2,_⟩:=unit_word u hu
 rw [List.append_nil] at h2
 exact h2.head rfl
theorem leaf_head (i:It) (hi:LfOk i) (L:List UInt8):((leafS i).data.toList++L)[0]? ≠ some 58:=by
 obtain ⟨k,u,t,ps,lo,hi',nt,key⟩:=i
 obtain ⟨h1,h2,h6,h7⟩:=hi
 have app:∀ (x y:List UInt8),0<x.length→x[0]? ≠ some 58→(x++y)[0]? ≠ some 58:=fun x y hx hn=>by
  rw [List.getElem?_append_left hx]
  exact hn
 unfold leafS
 simp only
 split
 · exact app _ _ (unit_word u (h1 ‹_›)).1 (unit_head u (h1 ‹_›))
 · split
   · rw [ByteArray.data_append]
     simp
   · split
     · rw [ByteArray.data_append,ByteArray.data_append]
       simp
     · split
       · simp
       · split
         · rename_i e6
           rw [ByteArray.data_append,ByteArray.data_append]
           simp only [Array.toList_append,List.append_assoc]
           exact app _ _ (unit_word lo (h6 e6).1).1 (unit_head lo (h6 e6).1)
         · unfold copyS
           rw [ByteArray.data_append]
           simp
def tokS (nt:Bool) (ps:List It):List TW:=sgT 18::((if nt then [sgT 15] else [])++(ps.flatMap tokL++[sgT 19]))
theorem set_run (nt:Bool) (ps:List It) (hp:∀ i∈ps,LfOk i) {L:List UInt8} {ts:List TW} (h:RunL L false ts):RunL ((setS nt (ps.map leafS)).data.toList++L) false (tokS nt ps++ts):=by
 have r1:=RunL.sign (fresh:=false) 9 93 (by decide) ⟨by decide,by decide⟩ (fun e=>absurd e (by decide)) (fun e=>absurd e (by decide)) h
 have r2:=words_run (fun i=>(leafS i).data.toList) tokL ps (fun i hi L ts hL hr=>leaf_run i (hp i hi) hL hr) (fol_93 L) r1
 have hj:(jnB (ps.map leafS)).data.toList=Lib.join (ps.map fun i=>(leafS i).data.toList) [32]:=by
  unfold jnB
  simp [List.map_map,Function.comp_def]
 have hh:(Lib.join (ps.map fun i=>(leafS i).data.toList) [32]++93::L)[0]? ≠ some 58:=by
  cases ps with
  | nil=>simp [Lib.join,List.intercalate]
  | cons x l=>
   cases l with
   | nil=>
    rw [List.map_cons,List.map_nil,Lib.join_one]
    exact leaf_head x (hp x (by simp)) _
   | cons y l=>
    rw [List.map_cons,List.map_cons,join_cons2,List.append_assoc]
    exact leaf_head x (hp x (by simp)) _
 have e:(setS nt (ps.map leafS)).data.toList++L=91::((if nt then [94] else [])++(Lib.join (ps.map fun i=>(leafS i).data.toList) [32]++93::L)):=by
  unfold setS
  rw [ByteArray.data_append,ByteArray.data_append,Array.toList_append,Array.toList_append,hj]
  cases nt <;> simp [ByteArray.data_append]
 rw [e]
 unfold tokS
 cases nt with
 | true=>
  have r3:=RunL.sign (fresh:=false) 5 94 (by decide) ⟨by decide,by decide⟩ (fun e=>absurd e (by decide)) (fun e=>absurd e (by decide)) r2
  have r4:=RunL.sign (fresh:=false) 8 91 (by decide) ⟨by decide,by decide⟩ (fun _=>by simp) (fun e=>absurd e (by decide)) r3
  simpa using r4
 | false=>
  have r4:=RunL.sign (fresh:=false) 8 91 (by decide) ⟨by decide,by decide⟩ (fun _=>hh) (fun e=>absurd e (by decide)) r2
  simpa using r4
end Go.Proofs
