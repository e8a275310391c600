/-
  The texts of a row of items; rows of texts joined.
-/
import Derived.Deep.Upon
import Derived.Maps.AppendAt
import Derived.Test.YtknaoahokopplaaGreatDoorMgpp
namespace Go.Proofs
open Go.RowKit Go.Shelf
set_option maxRecDepth 100000
attribute [local go_sem] Oper.semAt_some
theorem hasK_all {may:Nat} {k:Int} (h:hasK may k=true):k=8∨k=5∨(k=1∨k=2∨k=3∨k=4∨k=6∨k=7):=by
 obtain ⟨n,rfl,h1,h2,_⟩:=hasK_bits h
 omega
theorem pair_part {d:Nat} {i:It} (h:ckSub (d+1) i 60=none):∀ p∈i.ps,(p.knd=5∨(p.knd=1∨p.knd=2∨p.knd=3∨p.knd=4∨p.knd=6∨p.knd=7))∧stI (itM p)=true∧(p.knd=5→ckSub d p 78=none):=by
 have h:=ckRw_none h
 intro p hp
 have h1:=h.2 p hp
 rw [ckI_eq] at h1
 have h2:=ckB_none h1
 refine ⟨?_,h2.2.1,h2.2.2.1⟩
 rcases hasK_60 h2.1 with e | e | e | e <;> simp [e]
theorem text_any {d may:Nat} {w:World} {m:MI} {i:It} (h:RdM d w m i) (hc:ckI d may i=none) (hE:Env w):Calls Tryz.prog 69 #[mia m] w (ItX w (texS i)):=by
 rw [ckI_eq] at hc
 have hc:=ckB_none hc
 rcases hasK_all hc.1 with hk | hk
 · have hP:=h.plain
   have h8:=hc.2.2.2.1 hk
   have hst:=hc.2.1
   obtain ⟨k,u,t,ps,lo,hi,nt,key⟩:=i
   have hk:k=8:=hk
   subst hk
   have hs:((cpB key && decide (ps.length=1)) && blankB { itM (.mk 8 u t ps lo hi nt key) with key:=0,A:=none,n:=0,c:=0 })=true:=hst
   simp only [Bool.and_eq_true,decide_eq_true_eq] at hs
   have hl:ps.length=1:=hs.1.2
   have hcs:=copyS_small hs.1.1
   cases d with
   | zero=>
    obtain ⟨_,e,_⟩:=h
    have e:ps=[]:=e
    rw [e] at hl
    cases hl
   | succ d=>
    obtain ⟨_,ms,hR,hA⟩:=h
    have hA:All2 (RdM d w) ms ps:=hA
    have hp:=pair_part h8
    have hp:∀ p∈ps,_:=hp
    obtain ⟨mk,mu,mt,A,n,c,mlo,mhi,mnt,mkey⟩:=m
    obtain ⟨h1,h2,h3,h4,h5',h6,h7⟩:=hP
    simp only at h1 h2 h3 h4 h5' h6 h7
    subst h1 h2 h3 h4 h5' h6 h7
    match ps,hl,ms,hA with
    | [p],_,[m1],hA=>
     obtain ⟨hq1,hq2,hq3⟩:=hp p List.mem_cons_self
     obtain ⟨hn,hnm,hr0⟩:=hR
     have hn:n=1:=hn
     have hr0:n=0∨∃ g z,A=some ⟨g,z,none⟩∧ReadsI w g z [m1]:=hr0
     obtain ⟨g,z,rfl,hr⟩:=hr0.resolve_left (by omega)
     have hM1:RdM d w m1 p:=hA.1
     have hcell:∀ i v,(mi1 m1)[i]? = some v→w.cell? ⟨g,z+i,none⟩=some v:=fun i v hv=>by
      have:=hr 0 m1 rfl i v hv
      rwa [Nat.zero_mul,Nat.add_zero] at this
     have hps:(itemS p).size≤155000:=item_small (d:=d) hq1 hq2 hq3 (fun e=>by subst e;exact hM1.2.1)
     exact itemText_8 mu mt g z n c mlo mhi mnt mkey w m1 (copyS mkey) (itemS p) (by omega) (by omega) hcs.1 (by omega) hcell
      (fun W hW=>(copyText_any ⟨8,mu,mt,some ⟨g,z,none⟩,n,c,mlo,mhi,mnt,mkey⟩ hcs.2.1 hcs.2.2 W (fun o=>((hE.below hW).alloc o).2)).mono fun x w' hx=>⟨hx.1,hx.2.below⟩)
      (fun W hW=>text_item (hM1.ck (ck_below hW)) hq1 hq2 hq3 (hE.below hW))
 · have:texS i=itemS i:=by
    obtain ⟨k,u,t,ps,lo,hi,nt,key⟩:=i
    have hk:k=5∨(k=1∨k=2∨k=3∨k=4∨k=6∨k=7):=hk
    exact if_neg (by omega)
   rw [this]
   exact text_item h hk hc.2.1 hc.2.2.1 hE
theorem tex_small {d may:Nat} {i:It} (hc:ckI d may i=none) (hd:d=0→i.ps=[]) (hd1:∀ p∈i.ps,d=1→p.ps=[]):(texS i).size≤156000:=by
 rw [ckI_eq] at hc
 have hc:=ckB_none hc
 rcases hasK_all hc.1 with hk | hk
 · have h8:=hc.2.2.2.1 hk
   have hst:=hc.2.1
   obtain ⟨k,u,t,ps,lo,hi,nt,key⟩:=i
   have hk:k=8:=hk
   subst hk
   have hs:((cpB key && decide (ps.length=1)) && blankB { itM (.mk 8 u t ps lo hi nt key) with key:=0,A:=none,n:=0,c:=0 })=true:=hst
   simp only [Bool.and_eq_true,decide_eq_true_eq] at hs
   have hl:ps.length=1:=hs.1.2
   have hcs:=copyS_small hs.1.1
   cases d with
   | zero=>
    have e:ps=[]:=hd rfl
    rw [e] at hl
    cases hl
   | succ d=>
    have hp:=pair_part h8
    have hp:∀ p∈ps,_:=hp
    match ps,hl with
    | [p],_=>
     obtain ⟨hq1,hq2,hq3⟩:=hp p List.mem_cons_self
     have hps:(itemS p).size≤155000:=item_small (d:=d) hq1 hq2 hq3 (fun e=>hd1 p List.mem_cons_self (by omega))
     show (copyS key++⟨#[58]⟩++itemS p).size≤156000
     rw [ByteArray.size_append,ByteArray.size_append]
     have h1:(⟨#[58]⟩:ByteArray).size=1:=rfl
     have h2:=hcs.1
     omega
 · have:texS i=itemS i:=by
    obtain ⟨k,u,t,ps,lo,hi,nt,key⟩:=i
    have hk:k=5∨(k=1∨k=2∨k=3∨k=4∨k=6∨k=7):=hk
    exact if_neg (by omega)
   rw [this]
   have:=item_small (d:=d) hk hc.2.1 hc.2.2.1 hd
   omega
theorem RdM.sm {d may:Nat} {w:World} {m:MI} {i:It} (h:RdM d w m i) (hc:ckI d may i=none):(texS i).size≤156000:=by
 refine tex_small hc (fun e=>by subst e;exact h.2.1) (fun p hp e => ?_)
 subst e
 obtain ⟨_,ms,_,hA⟩:=h
 obtain ⟨j,hj⟩:=List.getElem?_of_mem hp
 have hjl:j<ms.length:=by have:=hA.length;have:=(List.getElem?_eq_some_iff.1 hj).1;omega
 have:=hA.get (List.getElem?_eq_getElem hjl) hj
 exact this.2.1
theorem texts_row {d may:Nat} {w:World} {A:Option Addr} {n c:Nat} {l:List It} (h:RdI d w A n l) (hl:l.length≤512) (hc:∀ i∈l,ckI d may i=none) (hE:Env w) :
 Calls Tryz.prog 119 #[.slice A n c] w fun x w'=>∃ v,x = .returned v∧OwnX w' w.heap.size v (l.map texS)∧Below w.heap.size w w':=by
 have hn:=h.len
 obtain ⟨ms,hR,hA⟩:=h
 refine itemTexts_step texS w A n c ms l hR hA.length (by omega) fun j m i e1 e2 W hW => ?_
 exact text_any ((hA.get e1 e2).ck (ck_below hW)) (hc i (List.mem_of_getElem? e2)) (hE.below hW)
theorem row_small {d may:Nat} {w:World} {A:Option Addr} {n:Nat} {l:List It} (h:RdI d w A n l) (hc:∀ i∈l,ckI d may i=none):∀ x∈l.map texS,x.size≤156000:=by
 obtain ⟨ms,hR,hA⟩:=h
 intro x hx
 obtain ⟨i,hi,rfl⟩:=List.mem_map.1 hx
 obtain ⟨j,hj⟩:=List.getElem?_of_mem hi
 have hjl:j<ms.length:=by have:=hA.length;have:=(List.getElem?_eq_some_iff.1 hj).1;omega
 exact (hA.get (List.getElem?_eq_getElem hjl) hj).sm (hc i hi)
theorem All2.take {α β:Type} {R:α→β→Prop} : ∀ {l:List α} {m:List β} (k:Nat),All2 R l m→All2 R (l.take k) (m.take k)
 | _,_,0,_=>by simp [All2]
 | [],[],_+1,_=>by simp [All2]
 | _::_,_::_,k+1,h=>by simp only [List.take_succ_cons];exact ⟨h.1,All2.take k h.2⟩
 | [],_::_,_+1,h=>h.elim
 | _::_,[],_+1,h=>h.elim
theorem All2.drop {α β:Type} {R:α→β→Prop} : ∀ {l:List α} {m:List β} (k:Nat),All2 R l m→All2 R (l.drop k) (m.drop k)
 | _,_,0,h=>h
 | [],[],_+1,_=>by simp [All2]
 | _::_,_::_,k+1,h=>by simp only [List.drop_succ_cons];exact All2.drop k h.2
 | [],_::_,_+1,h=>h.elim
 | _::_,[],_+1,h=>h.elim
theorem RdI.take {d:Nat} {w:World} {A:Option Addr} {n:Nat} {l:List It} (h:RdI d w A n l) (k:Nat) (hk:k≤n):RdI d w A k (l.take k):=by
 have hn:=h.len
 obtain ⟨ms,⟨h1,h2,h3⟩,hA⟩:=h
 refine ⟨ms.take k,⟨by rw [List.length_take];omega,by omega,?_⟩,hA.take k⟩
 rcases h3 with h3 | ⟨g,z,e,hr⟩
 · exact .inl (by omega)
 · refine .inr ⟨g,z,e,fun j x hj=>hr j x ?_⟩
   rw [List.getElem?_take] at hj
   split at hj
   · exact hj
   · cases hj
theorem RdI.drop {d:Nat} {w:World} {g z n:Nat} {l:List It} (h:RdI d w (some ⟨g,z,none⟩) n l) (k:Nat) (hk:k≤n):RdI d w (some ⟨g,z+k*8,none⟩) (n - k) (l.drop k):=by
 have hn:=h.len
 obtain ⟨ms,⟨h1,h2,h3⟩,hA⟩:=h
 refine ⟨ms.drop k,⟨by rw [List.length_drop];omega,by omega,?_⟩,hA.drop k⟩
 rcases h3 with h3 | ⟨g',z',e,hr⟩
 · exact .inl (by omega)
 · cases e
   refine .inr ⟨g,z+k*8,rfl,fun j x hj i v hv => ?_⟩
   rw [List.getElem?_drop] at hj
   have:=hr (k+j) x hj i v hv
   rwa [Nat.add_mul,←Nat.add_assoc] at this
def RdT (w:World) (y:Value) (ys:List ByteArray):Prop:=∃ A c,y = .slice A ys.length c∧ys.length≤c∧(ys=[]∨∃ g z,A=some ⟨g,z,none⟩∧∀ j x,ys[j]? = some x→w.cell? ⟨g,z+j,none⟩=some (.string x))
theorem OwnX.cap {w:World} {b:Nat} {v:Value} {xs:List ByteArray} (h:OwnX w b v xs):∃ A c,v = .slice A xs.length c∧xs.length≤c:=by
 rcases h.2 with ⟨e,h0⟩ | ⟨g,cap,cur,e,k1,k2,k3,_⟩
 · exact ⟨none,0,by rw [h0,e],by omega⟩
 · exact ⟨_,_,e,k3⟩
theorem OwnX.rdT {w:World} {b:Nat} {v:Value} {xs:List ByteArray} (h:OwnX w b v xs):RdT w v xs:=by
 rcases h.2 with ⟨e,h0⟩ | ⟨g,cap,cur,e,k1,k2,k3,k4,k5,k6⟩
 · exact ⟨none,0,by rw [h0,e],by omega,.inl (List.eq_nil_of_length_eq_zero h0)⟩
 · refine ⟨_,_,e,k3,.inr ⟨g,0,rfl,fun j x hj => ?_⟩⟩
   have hj2:(xs.map Value.string)[j]? = some (.string x):=by rw [List.getElem?_map,hj];rfl
   rw [←k6,List.getElem?_take] at hj2
   split at hj2
   · simp only [World.cell?,k2,Nat.zero_add]
     simpa using hj2
   · cases hj2
theorem RdT.one {w:World} {g:Nat} {t:ByteArray} (h:w.cell? ⟨g,0,none⟩=some (.string t)):RdT w (.slice (some ⟨g,0,none⟩) 1 1) [t]:=by
 refine ⟨_,1,rfl,Nat.le_refl _,.inr ⟨g,0,rfl,fun j x hj => ?_⟩⟩
 match j,hj with
 | 0,hj=>simp at hj;subst hj;exact h
theorem RdT.new {W:World} {g:Nat} {t:ByteArray} (hg:g=W.heap.size):RdT (W.alloc (.cells #[.string t] 9)) (.slice (some ⟨g,0,none⟩) 1 1) [t]:=by
 subst hg
 exact RdT.one (by rw [Lib.cell_of_heap (World.alloc_heap_new W _) 0];rfl)
theorem OwnX.le {w:World} {b b':Nat} {v:Value} {xs:List ByteArray} (h:OwnX w b' v xs) (hb:b≤b'):OwnX w b v xs:=
 ⟨h.1,h.2.imp id fun ⟨g,cap,cur,e,k1,k⟩=>⟨g,cap,cur,e,Nat.le_trans hb k1,k⟩⟩
theorem join_rd (w:World) (v:Value) (xs:List ByteArray) (h:RdT w v xs) (hn:xs.length≤1000000) (hl:(jnB xs).size≤140737488355328):Calls Tryz.prog 37 #[v,.string ⟨#[32]⟩] w fun e w'=>e = .returned (.string (jnB xs))∧Below w.heap.size w w':=by
 obtain ⟨A,c,rfl,hc,hr⟩:=h
 by_cases hx:xs=[]
 · subst hx
   refine (Any.strings_Join_none Tryz.lays156 Tryz.Builder_Extra_156 A c ⟨#[32]⟩ w).mono ?_
   rintro x w' ⟨rfl,rfl⟩
   exact ⟨rfl,Below.refl _ _⟩
 · obtain ⟨g,z,rfl,hd⟩:=hr.resolve_left hx
   have hlt:g<w.heap.size:=by
    cases xs with
    | nil=>exact absurd rfl hx
    | cons x xs=>
     obtain ⟨o,ho,_⟩:=cells_of_cell (hd 0 x rfl)
     exact (Array.getElem?_eq_some_iff.1 ho).1
   refine Tryz.strings_Join g z c xs ⟨#[32]⟩ w hd hlt (by omega) hc ?_
   have:(jnB xs).size=(Lib.join (xs.map (·.data.toList)) [32]).length:=jnB_size xs
   rw [←this]
   exact hl
theorem run_appX (w:World) (ty:TypeId) (b:Nat) (v:Value) (xs:List ByteArray) (hown:OwnX w b v xs) (y:Value) (ys:List ByteArray) (hy:RdT w y ys) (hl:xs.length+ys.length≤1000000) (hbase:b≤w.heap.size) :
 ∃ v' w',(Builtin.append_ #[77,77] ty #[v,y]).run Tryz.prog w = .ok v' w'∧OwnX w' b v' (xs++ys)∧w.grownBy w' v.ownBlock:=by
 obtain ⟨i0,hi,hz0,hz1,hz2⟩:=info_parts info9x
 obtain ⟨A,c,rfl,-,hr⟩:=hy
 by_cases he:ys=[]
 · subst he
   obtain ⟨A0,c0,rfl,hc0⟩:=hown.cap
   have hr:=run_append_nothing (P:=Tryz.prog) w 77 77 ty 9 i0 Tryz.underlying77 hi A0 xs.length c0 hc0 (.slice A 0 c) ⟨.inl ⟨9,Tryz.underlying77⟩,fun w'=>by cases A <;> simp [Builtin.lenOf,go_sem],by cases A <;> simp [Builtin.firstCells,go_sem],by cases A <;> simp [Builtin.firstCells,go_sem],by simp,by simp⟩
   exact ⟨_,_,hr,by rw [List.append_nil];exact hown,⟨rfl,rfl,rfl,Nat.le_refl _,fun _ _ _=>rfl⟩⟩
 · obtain ⟨g,z,rfl,hd⟩:=hr.resolve_left he
   obtain ⟨v',w',h1,h2,h3,_⟩:=run_append_own_at (P:=Tryz.prog) w b 77 ty 9 i0 _ 1 16 Tryz.underlying77 hi hz0 hz1 hz2 rfl (by decide) v xs.length (xs.map Value.string) hown ⟨g,z,none⟩ ys.length c (ys.map Value.string) (by simp) (fun j u hj=>by
    have:(⟨g,z,none⟩:Addr).add j=⟨g,z+j,none⟩:=by unfold Addr.add;split <;> simp_all
    rw [this]
    rw [List.getElem?_map] at hj
    cases hx:ys[j]? with
    | none=>rw [hx] at hj;cases hj
    | some x=>
     rw [hx] at hj
     simp at hj
     subst hj
     exact hd j x hx) (fun u hu=>by
     obtain ⟨x,_,rfl⟩:=List.mem_map.1 hu
     rfl) (by unfold maxLen;omega) (by omega) hbase
   refine ⟨v',w',h1,?_,h3⟩
   unfold OwnX
   rw [List.length_append,List.map_append]
   exact h2
theorem wp_appX {o:Oper} {a:Act} {w:World} {K:Act→World→Prop} {Q:Exit→Act→World→Prop} (s x:Operand) (hop:o.op = .call { callee := .builtin .append,args:=#[s,x],argTypes:=#[77,77] })
 (b:Nat) (v:Value) (xs:List ByteArray) (hs:a.eval s=v) (hown:OwnX w b v xs) (y:Value) (ys:List ByteArray) (hx:a.eval x=y) (hy:RdT w y ys) (hl:xs.length+ys.length≤1000000) (hbase:b≤w.heap.size)
 (hK:∀ v' w',OwnX w' b v' (xs++ys)→w.grownBy w' v.ownBlock→K (a.put o.dst v') w'):o.wp Tryz.prog a w K Q:=by
 obtain ⟨v',w',hr,h1,h2⟩:=run_appX w o.type b v xs hown y ys hy hl hbase
 unfold Oper.wp execOp
 simp only [hop,resolve,invoke,builtin,Sem.run_bind,Sem.run_pure,Result.andThen_ok,List.map_toArray,List.map_cons,List.map_nil,hs,hx,hr]
 exact hK v' w' h1 h2
theorem step_appX {ops:Array Oper} {o:Oper} {a:Act} {w:World} {K:Act→World→Prop} {Q:Exit→Act→World→Prop} {E:Prop} (hg:o.guard=none) (s x:Operand) (hop:o.op = .call { callee := .builtin .append,args:=#[s,x],argTypes:=#[77,77] })
 (b:Nat) (v:Value) (xs:List ByteArray) (hs:a.eval s=v) (hown:OwnX w b v xs) (y:Value) (ys:List ByteArray) (hx:a.eval x=y) (hy:RdT w y ys) (hl:xs.length+ys.length≤1000000) (hbase:b≤w.heap.size)
 (hK:∀ v' w',OwnX w' b v' (xs++ys)→w.grownBy w' v.ownBlock→K (a.put o.dst v') w') :
 if Region.wanted o (yielded ops a.tmps)=true then Oper.wp Tryz.prog o a w K Q else E:=by
 have hw:Region.wanted o (yielded ops a.tmps)=true:=by simp [Region.wanted,hg]
 rw [if_pos hw]
 exact wp_appX s x hop b v xs hs hown y ys hx hy hl hbase hK
theorem push_XX {ops:Array Oper} {rest:List Oper} {o:Oper} {a:Act} {Q:Exit→Act→World→Prop} {w:World} (hgd:o.guard=none) (s x:Operand) (ho:o.op = .call { callee := .builtin .append,args:=#[s,x],argTypes:=#[77,77] })
 (b:Nat) (v:Value) (xs:List ByteArray) (hs:a.eval s=v) (hown:OwnX w b v xs) (y:Value) (ys:List ByteArray) (hx:a.eval x=y) (hy:RdT w y ys) (hl:xs.length+ys.length≤1000000) (hbase:b≤w.heap.size)
 (h:∀ A n c w',OwnX w' b (.slice A n c) (xs++ys)→w.grownBy w' v.ownBlock→wpList Tryz.prog ops Q rest (a.put o.dst (.slice A n c)) w'):wpList Tryz.prog ops Q (o::rest) a w:=
 wpList_plain hgd fun _ hK=>wp_appX s x ho b v xs hs hown y ys hx hy hl hbase fun v' w' h1 h2=>by
  obtain ⟨A,c,rfl⟩:=h1.form
  exact hK _ _ (h A _ c w' h1 h2)
end Go.Proofs
