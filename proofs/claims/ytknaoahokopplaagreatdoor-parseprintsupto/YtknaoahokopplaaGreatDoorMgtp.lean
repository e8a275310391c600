/-
  Several texts in one (W7p U1p).
-/
import Derived.Test.YtknaoahokopplaaGreatDoorMgmp
import Derived.Test.YtknaoahokopplaaGreatDoorJqp
import Derived.Test.YtknaoahokopplaaGreatDoorMgsp
namespace Go.Proofs
open Go.RowKit Go.Shelf
set_option maxRecDepth 100000
attribute [local go_sem] Oper.semAt_some
set_option maxHeartbeats 1000000 in
theorem checks_thrown (P:Nat) (e0 c:Int) (w:World) (hP:w.heap[P]? = some (.cells #[.int .i64 e0] 30 (0,0))) :
 CallsD Tryz.prog 64 #[.pointer (some ⟨P,0,none⟩)] (.panicking [{ v := .iface 30 (.int .i64 c),recovered:=false }]) w fun e u' w'=>
  e = .returned (.tuple #[])∧u' = .panicking [{ v := .iface 30 (.int .i64 c),recovered:=true }]∧w'=w.setCell ⟨P,0,none⟩ (.int .i64 c):=by
 refine callsD_of_wpS Tryz.func64 rfl fun c₀ cs hu => ?_
 apply wpS_seq
 apply wpS_region
 simp [wpOpsS,go_sem,recoverD,hu,Tryz.ntmps64,Exit.thenS]
 refine wpS_of_wp ?_
 have p0:w.cell? ⟨P,0,none⟩=some (.int .i64 e0):=by simp [World.cell?,hP]
 have p1:w.frozen? ⟨P,0,none⟩=false:=by simp [World.frozen?,hP]
 have hta:∀ (v:Value) (w:World),(Instr.typeAssert (.iface 30 v) 20 30 true).run Tryz.prog w = .ok (.tuple #[v,.bool true]) w:=fun _ _=>by kernel_rfl
 go_wp2
 exact ⟨rfl,_,rfl,.tuple #[],by simp [results,Tryz.f64],rfl,rfl,rfl⟩
def ckAll (d:Nat) (ls:List Ln):Int:=(ls.findSome? (ckLn d)).getD 0
theorem ReadsL.cells {w:World} {g z:Nat} {ms:List ML} (h:ReadsL w g z ms) {j:Nat} {m:ML} (hj:ms[j]? = some m) :
 w.cell? ⟨g,z+j*10,none⟩=some (.int .i64 m.k)∧w.cell? ⟨g,z+j*10+1,none⟩=some (.int .i64 m.a)∧w.cell? ⟨g,z+j*10+2,none⟩=some (.string m.t)∧w.cell? ⟨g,z+j*10+3,none⟩=some (.bool m.bg)∧w.cell? ⟨g,z+j*10+4,none⟩=some (.bool m.en)∧w.cell? ⟨g,z+j*10+5,none⟩=some (.slice m.s1.A m.s1.n m.s1.c)∧w.cell? ⟨g,z+j*10+6,none⟩=some (.slice m.s2.A m.s2.n m.s2.c)∧w.cell? ⟨g,z+j*10+7,none⟩=some (.slice m.s3.A m.s3.n m.s3.c)∧w.cell? ⟨g,z+j*10+8,none⟩=some (.slice m.s4.A m.s4.n m.s4.c)∧w.cell? ⟨g,z+j*10+9,none⟩=some (.int .i64 m.cur):=
 ⟨h j m hj 0 _ rfl,h j m hj 1 _ rfl,h j m hj 2 _ rfl,h j m hj 3 _ rfl,h j m hj 4 _ rfl,h j m hj 5 _ rfl,h j m hj 6 _ rfl,h j m hj 7 _ rfl,h j m hj 8 _ rfl,h j m hj 9 _ rfl⟩
set_option maxHeartbeats 4000000 in
theorem checkAll_any (d:Nat) (w:World) (A:Option Addr) (n c:Nat) (ls:List Ln) (h:RdLs d w A n ls) (ht:∀ l∈ls,TzL d l) (hnn:n≤1000000000000000):Calls Tryz.prog 35 #[.slice A n c] w fun x w'=>x = .returned (.int .i64 (ckAll d ls))∧Below w.heap.size w w':=by
 have hmf:∀ (fn:Fn) (first cap:Array Value) (w:World),(Instr.makeFunc fn first cap).run Tryz.prog w = .ok (.func fn first cap) w:=fun _ _ _ _=>rfl
 obtain ⟨ms,hn,hr,hAll⟩:=h
 obtain ⟨E,hE0⟩:∃ E,ckAll d ls=E:=⟨_,rfl⟩
 rw [hE0]
 have H:Hid (n=ms.length∧n=ls.length∧(n=0∨∃ g z,A=some ⟨g,z,none⟩∧ReadsL w g z ms)∧All2 (RdLn d w) ms ls∧(∀ l∈ls,TzL d l)∧ckAll d ls=E):=⟨hn,by have:=hAll.length;omega,hr,hAll,ht,hE0⟩
 clear hn hr hAll ht hE0
 go_enter_defers Tryz.func35,Tryz.ntmps35
 go_wp2
 go_loopw [8] (fun vi wr=>∃ k:Nat,vi = .int .i64 k∧k≤n∧Hid (wr.heap[w.heap.size]? = some (.cells #[.int .i64 0] 30 (0,0))∧Below w.heap.size w wr∧(ls.take k).findSome? (ckLn d)=none)) (fun vi _=>n - (intOf vi).toNat)
 case atStart=>exact ⟨0,rfl,by omega,World.alloc_heap_new _ _,(Below.refl _ w).alloc (Nat.le_refl _) _,rfl⟩
 case round=>
  obtain ⟨k,rfl,hk,HR⟩:=hrel
  obtain ⟨wo,rfl⟩:∃ wo,wo=wr:=⟨_,rfl⟩
  by_cases hkn:k<n
  · have e1:decide ((k:Int)<(n:Int))=true:=by simpa using hkn
    obtain ⟨m,hm⟩:∃ m,ms[k]? = some m:=⟨ms[k]'(by have:=H.out.1;omega),List.getElem?_eq_getElem _⟩
    obtain ⟨i,hi⟩:∃ i,ls[k]? = some i:=⟨ls[k]'(by have:=H.out.2.1;omega),List.getElem?_eq_getElem _⟩
    obtain ⟨g,z,hA,hr⟩:=H.out.2.2.1.resolve_left (by omega)
    subst hA
    have ck:=ck_below HR.out.2.1
    obtain ⟨c0,c1,c2,c3,c4,c5,c6,c7,c8,c9⟩:=hr.cells hm
    have k0:=ck _ _ c0
    have k1:=ck _ _ c1
    have k2:=ck _ _ c2
    have k3:=ck _ _ c3
    have k4:=ck _ _ c4
    have k5:=ck _ _ c5
    have k6:=ck _ _ c6
    have k7:=ck _ _ c7
    have k8:=ck _ _ c8
    have k9:=ck _ _ c9
    have HM:Hid (ms[k]? = some m∧ls[k]? = some i∧RdLn d wo m i∧TzL d i):=⟨hm,hi,(H.out.2.2.2.1.get hm hi).ck ck,H.out.2.2.2.2.1 i (List.mem_of_getElem? hi)⟩
    clear c0 c1 c2 c3 c4 c5 c6 c7 c8 c9 hm hi hr ck
    go_wp2_with fail
    refine (ckLine_any d _ m i (HM.out.2.2.1.ck (ck_below ((Below.refl _ wo).alloc (Nat.le_refl _) _))) HM.out.2.2.2).mono ?_
    intro x w4 hx
    obtain ⟨hg4,hx⟩:=hx
    have hW:w.heap.size<wo.heap.size:=(Array.getElem?_eq_some_iff.1 HR.out.1).1
    have H4:Hid (w4.heap[w.heap.size]? = some (.cells #[.int .i64 0] 30 (0,0))∧Below w.heap.size w w4):=⟨(hg4.below.block _ (by simp;omega)).trans ((Below.heap_alloc _ _ _ hW).trans HR.out.1),(HR.out.2.1.alloc (by omega) _).trans (hg4.below.mono (by simp;omega))⟩
    clear hg4 hW k0 k1 k2 k3 k4 k5 k6 k7 k8 k9
    cases hs:ckLn d i with
    | some cd=>
     rw [hs] at hx
     simp only at hx
     subst hx
     have HE:Hid (E=cd):=by
      show _=_
      rw [←H.out.2.2.2.2.2,ckAll,find_at _ ls k i cd HR.out.2.2 HM.out.2.1 hs]
      rfl
     refine leaves_cons (f:=64) (args:=#[.pointer (some ⟨w.heap.size,0,none⟩)]) (by simp) (by simp [go_sem]) ?_
     refine (checks_thrown _ 0 cd _ H4.out.1).mono ?_
     rintro y u' w'' ⟨rfl,rfl,rfl⟩
     have hE2:(w4.setCell ⟨w.heap.size,0,none⟩ (.int .i64 cd)).heap[w.heap.size]? = some (.cells #[.int .i64 cd] 30 (0,0)):=cells_setS H4.out.1
     have d0:(w4.setCell ⟨w.heap.size,0,none⟩ (.int .i64 cd)).cell? ⟨w.heap.size,0,none⟩=some (.int .i64 cd):=Lib.cell_of_heap hE2 0
     exact ⟨.int .i64 cd,by simp [results,Tryz.f35,go_sem,d0],by rw [HE.out],H4.out.2.setCell (p:=⟨w.heap.size,0,none⟩) (Nat.le_refl _) _⟩
    | none=>
     rw [hs] at hx
     simp only at hx
     subst hx
     have HF:Hid ((ls.take (k+1)).findSome? (ckLn d)=none):=find_more _ ls k i HR.out.2.2 HM.out.2.1 hs
     clear hs
     go_wp2
     exact ⟨⟨k+1,by go_num,by omega,H4.out.1,H4.out.2,HF.out⟩,by simp [intOf];omega⟩
  · have e1:decide ((k:Int)<(n:Int))=false:=by simpa using hkn
    have hE:=HR.out.1
    have p0:wo.cell? ⟨w.heap.size,0,none⟩=some (.int .i64 0):=by simp [World.cell?,hE]
    have p1:wo.frozen? ⟨w.heap.size,0,none⟩=false:=by simp [World.frozen?,hE]
    have HE:Hid (E=0):=by
     show _=_
     have h0:=HR.out.2.2
     rw [List.take_of_length_le (by have:=H.out.2.1;omega)] at h0
     rw [←H.out.2.2.2.2.2,ckAll,h0]
     rfl
    clear hE
    go_wp2
    have hE2:(wo.setCell ⟨w.heap.size,0,none⟩ (.int .i64 0)).heap[w.heap.size]? = some (.cells #[.int .i64 0] 30 (0,0)):=cells_setS HR.out.1
    have hB2:Below w.heap.size w (wo.setCell ⟨w.heap.size,0,none⟩ (.int .i64 0)):=HR.out.2.1.setCell (p:=⟨w.heap.size,0,none⟩) (Nat.le_refl _) _
    refine leaves_cons (f:=64) (args:=#[.pointer (some ⟨w.heap.size,0,none⟩)]) (by simp) (by simp [go_sem]) ?_
    refine (checks_idle _ _).mono ?_
    rintro y u' w'' ⟨rfl,rfl,rfl⟩
    have d0:(wo.setCell ⟨w.heap.size,0,none⟩ (.int .i64 0)).cell? ⟨w.heap.size,0,none⟩=some (.int .i64 0):=Lib.cell_of_heap hE2 0
    exact ⟨.int .i64 0,by simp [results,Tryz.f35,go_sem,d0],by rw [HE.out],hB2⟩
end Go.Proofs
namespace Go.Proofs
open Go.RowKit Go.Shelf
set_option maxRecDepth 100000
attribute [local go_sem] Oper.semAt_some
theorem ckLn_none {d:Nat} {l:Ln} (h:ckLn d l=none):stL (lnM l)=true∧ckRw (ckI d 62) l.ante=none∧ckRw (ckI d 62) l.key=none∧ckRw (ckI d 62) l.post=none∧ckRw (ckI d 386) l.res=none:=by
 unfold ckLn at h
 by_cases hs:stL (lnM l)=true
 · rw [if_pos hs] at h
   refine ⟨hs,?_⟩
   cases h1:ckRw (ckI d 62) l.ante with
   | some e=>rw [h1] at h;cases h
   | none=>
    rw [h1] at h
    cases h2:ckRw (ckI d 62) l.key with
    | some e=>rw [h2] at h;cases h
    | none=>
     rw [h2] at h
     cases h3:ckRw (ckI d 62) l.post with
     | some e=>rw [h3] at h;cases h
     | none=>
      rw [h3] at h
      exact ⟨rfl,rfl,rfl,h⟩
 · rw [if_neg hs] at h
   cases h
def RdLc (d:Nat) (w:World) (m:ML) (l:Ln):Prop:=RdLn d w m l∧m.s4.n≤m.s4.c
def RdLz (d:Nat) (w:World) (A:Option Addr) (n:Nat) (ls:List Ln):Prop:=∃ ms,n=ms.length∧(n=0∨∃ g z,A=some ⟨g,z,none⟩∧ReadsL w g z ms)∧All2 (RdLc d w) ms ls
theorem RdLc.ck {d:Nat} {w w':World} {m:ML} {l:Ln} (h:RdLc d w m l) (k:CK w w'):RdLc d w' m l:=⟨h.1.ck k,h.2⟩
theorem RdLz.rd {d:Nat} {w:World} {A:Option Addr} {n:Nat} {ls:List Ln} (h:RdLz d w A n ls):RdLs d w A n ls:=
 h.imp fun _ q=>⟨q.1,q.2.1,q.2.2.mono fun _ _ r=>r.1⟩
theorem RdLz.ck {d:Nat} {w w':World} {A:Option Addr} {n:Nat} {ls:List Ln} (h:RdLz d w A n ls) (k:CK w w'):RdLz d w' A n ls:=
 h.imp fun _ q=>⟨q.1,q.2.1.imp id fun ⟨g,z,e,r⟩=>⟨g,z,e,fun j x hj i v hv=>k _ _ (r j x hj i v hv)⟩,q.2.2.mono fun _ _ r=>r.ck k⟩
theorem sideW_len (bg en:Bool) (an ky po:List It):(sideW bg en an ky po).length≤an.length+ky.length+po.length+4:=by
 unfold sideW
 simp only [List.length_append,List.length_map]
 have e:∀ (c:Bool) (x:ByteArray),(if c then [x] else []).length≤1:=by intro c x;cases c <;> simp
 have h1:=e bg ⟨#[94]⟩
 have h2:=e (bg || decide (0<an.length)) ⟨#[123]⟩
 have h3:=e (en || decide (0<po.length)) ⟨#[125]⟩
 have h4:=e en ⟨#[36]⟩
 omega
theorem resW_len (q:Nat) (l:List It):(resW q l).length≤2*l.length+2:=by
 unfold resW
 have h1:(l.take q).length≤l.length:=by rw [List.length_take];omega
 have h2:(l.drop q).length≤l.length:=by rw [List.length_drop];omega
 simp only [List.length_append,List.length_map,List.length_cons,List.length_nil]
 split
 · simp only [List.length_append,List.length_map,List.length_cons,List.length_nil];omega
 · simp only [List.length_nil];omega
theorem mem_ite {c:Bool} {x y:ByteArray} (h:x∈(if c then [y] else [])):x=y:=by
 cases c with
 | true=>simpa using h
 | false=>simp at h
theorem sideW_small {B:Nat} (hB:1≤B) {bg en:Bool} {an ky po:List It} (h1:∀ x∈an.map texS,x.size≤B) (h2:∀ x∈ky.map texS,x.size≤B) (h3:∀ x∈po.map texS,x.size≤B):∀ x∈sideW bg en an ky po,x.size≤B:=by
 intro x hx
 unfold sideW at hx
 simp only [List.mem_append] at hx
 rcases hx with (((((h | h) | h) | h) | h) | h) | h
 · rw [mem_ite h];exact hB
 · exact h1 x h
 · rw [mem_ite h];exact hB
 · exact h2 x h
 · rw [mem_ite h];exact hB
 · exact h3 x h
 · rw [mem_ite h];exact hB
theorem resW_small {B:Nat} (hB:1≤B) {q:Nat} {l:List It} (h:∀ x∈l.map texS,x.size≤B):∀ x∈resW q l,x.size≤B:=by
 intro x hx
 unfold resW at hx
 simp only [List.mem_append] at hx
 rcases hx with (h1 | h1) | h1
 · obtain ⟨i,hi,rfl⟩:=List.mem_map.1 h1
   exact h _ (List.mem_map.2 ⟨i,List.mem_of_mem_take hi,rfl⟩)
 · split at h1
   · rcases List.mem_append.1 h1 with h2 | h2
     · rw [List.mem_singleton.1 h2];exact hB
     · obtain ⟨i,hi,rfl⟩:=List.mem_map.1 h2
       exact h _ (List.mem_map.2 ⟨i,List.mem_of_mem_drop hi,rfl⟩)
   · simp at h1
 · rw [List.mem_singleton.1 h1];exact hB
theorem lineWords_any {d:Nat} {w:World} {m:ML} {l:Ln} (h:RdLc d w m l) (hc:ckLn d l=none) (hE:Env w):Calls Tryz.prog 38 #[mla m] w (LwQ w (lineW l))∧(lineW l).length≤5000∧∀ x∈lineW l,x.size≤156000:=by
 obtain ⟨⟨hP,r1,r2,r3,r4⟩,hcap⟩:=h
 obtain ⟨hs,y1,y2,y3,y4⟩:=ckLn_none hc
 have q1:=ckRw_none y1
 have q2:=ckRw_none y2
 have q3:=ckRw_none y3
 have q4:=ckRw_none y4
 clear y1 y2 y3 y4
 obtain ⟨k,a,t,bg,en,an,ky,po,rs,cur⟩:=l
 obtain ⟨mk,ma,mt,mbg,men,⟨A1,n1,c1⟩,⟨A2,n2,c2⟩,⟨A3,n3,c3⟩,⟨A4,n4,c4⟩,mcur⟩:=m
 obtain ⟨h1,h2,h3,h4,h5,h6⟩:=hP
 simp only at h1 h2 h3 h4 h5 h6 r1 r2 r3 r4 q1 q2 q3 q4 hcap
 subst h1 h2 h3 h4 h5 h6
 by_cases hk3:mk=3
 · subst hk3
   have e:lineW ⟨3,ma,mt,mbg,men,an,ky,po,rs,mcur⟩=[⟨#[116,104,101,110]⟩,⟨#[59]⟩]:=if_pos rfl
   rw [e]
   refine ⟨lineWords_3 ma mt mbg men _ _ _ _ mcur w,by simp,fun x hx => ?_⟩
   simp at hx
   rcases hx with rfl | rfl <;> decide
 · by_cases hk1:mk=1
   · subst hk1
     have hs:(nameOk mt && (decide (ky.length=1) && noRuleB (lnM ⟨1,ma,mt,mbg,men,an,ky,po,rs,mcur⟩)))=true:=hs
     simp only [Bool.and_eq_true,decide_eq_true_eq] at hs
     have ht:=nameOk_small hs.1
     have hl:ky.length=1:=hs.2.1
     have e:lineW ⟨1,ma,mt,mbg,men,an,ky,po,rs,mcur⟩=[(⟨#[36]⟩:ByteArray)++mt,⟨#[61]⟩,texS (ky.headD nIt),⟨#[59]⟩]:=by
      unfold lineW
      rw [if_neg (show ¬ (1:Int)=3 by decide),if_pos rfl]
     rw [e]
     have hz:=row_small r2 q2.2
     obtain ⟨ms,hR,hA⟩:=r2
     have hlm:=hA.length
     match ky,hl,ms,hA,hR with
     | [p],_,[m1],hA,hR=>
      obtain ⟨hn,_,hr0⟩:=hR
      have hn:n2=1:=hn
      have hr0:n2=0∨∃ g z,A2=some ⟨g,z,none⟩∧ReadsI w g z [m1]:=hr0
      obtain ⟨g,z,rfl,hr⟩:=hr0.resolve_left (by omega)
      have hcell:∀ i v,(mi1 m1)[i]? = some v→w.cell? ⟨g,z+i,none⟩=some v:=fun i v hv=>by
       have:=hr 0 m1 rfl i v hv
       rwa [Nat.zero_mul,Nat.add_zero] at this
      refine ⟨lineWords_1 ma mt mbg men _ _ _ g z n2 c2 mcur w m1 (texS p) (by omega) (by omega) hcell (fun W hW=>text_any (hA.1.ck (ck_below hW)) (q2.2 p List.mem_cons_self) (hE.below hW)),by simp,fun x hx => ?_⟩
      simp at hx
      rcases hx with rfl | rfl | rfl | rfl
      · rw [ByteArray.size_append]
        have:(⟨#[36]⟩:ByteArray).size=1:=rfl
        omega
      · decide
      · exact hz _ (List.mem_map.2 ⟨p,List.mem_cons_self,rfl⟩)
      · decide
   · have hk2:mk=2:=by
      apply Classical.byContradiction
      intro hk2
      have:stL (lnM ⟨mk,ma,mt,mbg,men,an,ky,po,rs,mcur⟩)=false:=by
       unfold stL
       exact (if_neg hk3).trans ((if_neg hk1).trans (if_neg hk2))
      rw [this] at hs
      cases hs
     subst hk2
     have hs:(emptyB mt && (decide (0≤mcur) && decide (mcur≤(rs.length:Int))))=true:=hs
     simp only [Bool.and_eq_true,decide_eq_true_eq] at hs
     obtain ⟨q,rfl⟩:∃ q:Nat,mcur=(q:Int):=⟨mcur.toNat,by omega⟩
     have e4:=r4.len
     have hq:q≤n4:=by omega
     have e:lineW ⟨2,ma,mt,mbg,men,an,ky,po,rs,(q:Int)⟩=sideW mbg men an ky po++[⟨#[62]⟩]++resW q rs:=by
      unfold lineW
      rw [if_neg (show ¬ (2:Int)=3 by decide),if_neg (show ¬ (2:Int)=1 by decide)]
      rfl
     rw [e]
     have l1:=sideW_len mbg men an ky po
     have l2:=resW_len q rs
     have b1:∀ x∈sideW mbg men an ky po,x.size≤156000:=sideW_small (by omega) (row_small r1 q1.2) (row_small r2 q2.2) (row_small r3 q3.2)
     have b2:∀ x∈resW q rs,x.size≤156000:=resW_small (by omega) (row_small r4 q4.2)
     refine ⟨lineWords_2 2 ma (by decide) (by decide) mt mbg men _ _ _ _ (q:Int) w _ _ (by omega) (by omega)
      (fun W hW=>sideWords_any d 2 ma mt mbg men A1 A2 A3 n1 n2 n3 c1 c2 c3 _ _ an ky po W (hE.below hW) ⟨r1.ck (ck_below hW),q1⟩ ⟨r2.ck (ck_below hW),q2⟩ ⟨r3.ck (ck_below hW),q3⟩)
      (fun W hW=>resultWords_any d 2 ma mt mbg men _ _ _ A4 n4 c4 q rs W (hE.below hW) ⟨r4.ck (ck_below hW),q4⟩ hq hcap),?_,?_⟩
     · simp only [List.length_append,List.length_cons,List.length_nil]
       omega
     · intro x hx
       simp only [List.mem_append,List.mem_singleton] at hx
       rcases hx with (hx | rfl) | hx
       · exact b1 x hx
       · decide
       · exact b2 x hx
noncomputable def lineB (l:Ln):List UInt8:=(jnB (lineW l)).data.toList++[10]
noncomputable def outS (ls:List Ln):List UInt8:=(ls.map lineB).flatten
noncomputable def printS (d:Nat) (ls:List Ln):ByteArray × Int:=if ckAll d ls=0 then (if 32768<(outS ls).length then (⟨#[]⟩,2) else (⟨(outS ls).toArray⟩,0)) else (⟨#[]⟩,ckAll d ls)
theorem outS_take {ls:List Ln} {k:Nat} {l:Ln} (h:ls[k]? = some l):outS (ls.take (k+1))=outS (ls.take k)++lineB l:=by
 obtain ⟨hk,e⟩:=List.getElem?_eq_some_iff.1 h
 unfold outS
 rw [List.take_succ_eq_append_getElem hk,e]
 simp
theorem outS_le (ls:List Ln) (k:Nat):(outS (ls.take k)).length≤(outS ls).length:=by
 have:outS ls=outS (ls.take k)++outS (ls.drop k):=by
  unfold outS
  rw [←List.flatten_append,←List.map_append,List.take_append_drop]
 rw [this,List.length_append]
 omega
theorem ckAll_each {d:Nat} {ls:List Ln} (hz:∀ l∈ls,∀ c,ckLn d l=some c→c≠0) (h:ckAll d ls=0):∀ l∈ls,ckLn d l=none:=by
 unfold ckAll at h
 cases hf:ls.findSome? (ckLn d) with
 | none=>rwa [List.findSome?_eq_none_iff] at hf
 | some c=>
  rw [hf] at h
  obtain ⟨l,hl,he⟩:=List.exists_of_findSome?_eq_some hf
  exact absurd h (hz l hl c he)
theorem ckI_nz:∀ (d may:Nat) (i:It) (c:Int),ckI d may i=some c→c=50∨c=51∨c=52
 | d,may,i,c,h=>by
  rw [ckI_eq] at h
  unfold ckB at h
  split at h
  · split at h
    · match d,h with
      | d+1,h=>
       have h:ckRw (ckI d 78) i.ps=some c:=h
       unfold ckRw at h
       split at h
       · cases h;simp
       · obtain ⟨p,_,hp⟩:=List.exists_of_findSome?_eq_some h
         exact ckI_nz d 78 p c hp
    · split at h
      · match d,h with
        | d+1,h=>
         have h:ckRw (ckI d 60) i.ps=some c:=h
         unfold ckRw at h
         split at h
         · cases h;simp
         · obtain ⟨p,_,hp⟩:=List.exists_of_findSome?_eq_some h
           exact ckI_nz d 60 p c hp
      · split at h
        · split at h
          · cases h
          · cases h;simp
        · cases h
  · cases h;simp
theorem ckRw_nz {d may:Nat} {l:List It} {c:Int} (h:ckRw (ckI d may) l=some c):c=50∨c=51∨c=52:=by
 unfold ckRw at h
 split at h
 · cases h;simp
 · obtain ⟨p,_,hp⟩:=List.exists_of_findSome?_eq_some h
   exact ckI_nz d may p c hp
theorem ckLn_nz {d:Nat} {l:Ln} {c:Int} (h:ckLn d l=some c):c=50∨c=51∨c=52:=by
 unfold ckLn at h
 split at h
 · cases h1:ckRw (ckI d 62) l.ante with
   | some e=>rw [h1] at h;cases h;exact ckRw_nz h1
   | none=>
    rw [h1] at h
    cases h2:ckRw (ckI d 62) l.key with
    | some e=>rw [h2] at h;cases h;exact ckRw_nz h2
    | none=>
     rw [h2] at h
     cases h3:ckRw (ckI d 62) l.post with
     | some e=>rw [h3] at h;cases h;exact ckRw_nz h3
     | none=>
      rw [h3] at h
      exact ckRw_nz h
 · cases h;simp
theorem ckAll_ok {d:Nat} {ls:List Ln} (h:ckAll d ls=0):∀ l∈ls,ckLn d l=none:=
 ckAll_each (fun l _ c hc e=>by rcases ckLn_nz hc with rfl | rfl | rfl <;> exact absurd e (by decide)) h
end Go.Proofs
