/-
  The parser's items: units, ranges, sets, copies, pairs.
-/
import Derived.Shelf.Abstract
import Derived.WalkKit
import Derived.WalkSpells
import Derived.WalkLawsBesides
import Derived.BigQuiet
import Derived.Deep.QuietTactic
import Derived.Deep.LoopGhost
import Derived.WalkMore
import Derived.Test.YtknaoahokopplaaGreatDoorMgpk
namespace Go.Proofs
open Go.RowKit Go.Shelf
set_option maxRecDepth 100000
attribute [local go_sem] Oper.semAt_some
theorem DR.zero {w w':World} {b b':Nat} {x x':Option Nat} {m:MI} {i:It} (d:Nat) (h:DR 0 w b x m i):DR (d+1) w' b' x' m i:=
 ⟨h.1,[],⟨by rw [h.2.2.2.1];rfl,.inl ⟨h.2.2.1,h.2.2.2.1,h.2.2.2.2⟩⟩,by rw [h.2.1];trivial⟩
theorem IC.tell {w w2:World} {B R G:Nat} {r:List Tok} {e:Int} {m0:MI} (h:IC w w2 B R G r e m0) {d:Nat} {m:MI} {i:It} (hd:DR d w2 (w.heap.size+1) none m i):IB (set8 w2 w.heap.size m) w.heap.size m∧Out R G e w none (VI d w.heap.size) (.ok i r) (.returned (mia m)) (set8 w2 w.heap.size m):=
 ⟨h.res.set m,h.mv.set8 (Nat.le_refl _) m,_,rfl,h.rd.set8 (by have:=h.Rlt;omega) (by have:=h.Glt;omega) m,m,rfl,hd.step (by omega) (.inl rfl) (fun k _ h2 _=>set8_other _ _ _ (by omega))⟩
set_option maxHeartbeats 1000000 in
theorem item_1a (may:Nat) (hmay:may4 may) (d:Nat) (w:World) (R G:Nat) (t:Tok) (r:List Tok) (e:Int) (h:RdX w R G (t::r) e) (hk:begun (which t)=1) (hb:may.testBit 1=true) (h6:may.testBit 6=false) :
 Calls Tryz.prog 142 #[.pointer (some ⟨R,0,none⟩),.int .i64 may] w (Out R G e w none (VI (d+1) w.heap.size) (.ok (.mk 1 t.u ⟨#[]⟩ [] 0 0 false 0) r)):=by
 have H:Hid (RdX w R G (t::r) e∧may4 may):=⟨h,hmay⟩
 have HK:Hid (begun (nxt (t::r))=1):=hk
 clear h hmay hk
 go_enter Tryz.func142,Tryz.ntmps142
 go_wp2_with (first | (go_at_call 167;refine (begun_any _ R G (t::r) e (H.out.1.alloc _)).mono ?_;rintro x w1 ⟨rfl,hb1⟩;rw [HK.out]) | (go_at_call 168;refine (has_n may 1 1 rfl H.out.2 (by omega) _).mono ?_;rintro x w2 ⟨rfl,rfl⟩;rw [hb]) | fail)
 refine (take_any _ R G t r e (((H.out.1.alloc _).below hb1 (Nat.le_refl _)).alloc _)).mono ?_
 rintro x w2 ⟨rfl,hR2,hm2⟩
 have hc:IC w w2 w1.heap.size R G r e ⟨1,0,⟨#[]⟩,none,0,0,0,0,false,0⟩:=IC.start H.out.1 hb1 _ hR2 hm2
 generalize w1.heap.size=B at *
 clear hb1 hR2 hm2
 have HC:Hid (IC w w2 B R G r e ⟨1,0,⟨#[]⟩,none,0,0,0,0,false,0⟩):=hc
 have hne:B≠w.heap.size:=by have:=hc.lt;omega
 have hne2:w.heap.size≠B:=by have:=hc.lt;omega
 have c:=fun o=>((hc.alloc o).own).cells
 have c0:=fun o=>(c o).1
 have c1:=fun o=>(c o).2.1
 have c2:=fun o=>(c o).2.2.1
 have c3:=fun o=>(c o).2.2.2.1
 have c4:=fun o=>(c o).2.2.2.2.1
 have c5:=fun o=>(c o).2.2.2.2.2.1
 have c6:=fun o=>(c o).2.2.2.2.2.2.1
 have c7:=fun o=>(c o).2.2.2.2.2.2.2
 have f:=fun o=>((hc.alloc o).own).frozen
 have f0:=fun o=>(f o).1
 have f1:=fun o=>(f o).2.1
 have f2:=fun o=>(f o).2.2.1
 have f3:=fun o=>(f o).2.2.2.1
 have f4:=fun o=>(f o).2.2.2.2.1
 have f5:=fun o=>(f o).2.2.2.2.2.1
 have f6:=fun o=>(f o).2.2.2.2.2.2.1
 have f7:=fun o=>(f o).2.2.2.2.2.2.2
 have s:=fun o=>((hc.alloc o).res).cells
 have s0:=fun o=>(s o).1
 have s1:=fun o=>(s o).2.1
 have s2:=fun o=>(s o).2.2.1
 have s3:=fun o=>(s o).2.2.2.1
 have s4:=fun o=>(s o).2.2.2.2.1
 have s5:=fun o=>(s o).2.2.2.2.2.1
 have s6:=fun o=>(s o).2.2.2.2.2.2.1
 have s7:=fun o=>(s o).2.2.2.2.2.2.2
 have z:=fun o=>((hc.alloc o).res).frozen
 have z0:=fun o=>(z o).1
 have z1:=fun o=>(z o).2.1
 have z2:=fun o=>(z o).2.2.1
 have z3:=fun o=>(z o).2.2.2.1
 have z4:=fun o=>(z o).2.2.2.2.1
 have z5:=fun o=>(z o).2.2.2.2.2.1
 have z6:=fun o=>(z o).2.2.2.2.2.2.1
 have z7:=fun o=>(z o).2.2.2.2.2.2.2
 clear c s z f hc
 go_wp2_with (go_at_call 168;refine (has_n may 6 6 rfl H.out.2 (by omega) _).mono ?_;rintro x w3 ⟨rfl,rfl⟩;rw [h6])
 obtain ⟨mm,hmm⟩:∃ mm:MI,mm=⟨1,t.u,⟨#[]⟩,none,0,0,0,0,false,0⟩:=⟨_,rfl⟩
 have HC2:=(HC.out.alloc (.cells #[.int .i64 t.k,.int .i64 t.a,.int .i64 t.l,.int .i64 t.u,.string t.t,.int .i64 t.n] 52)).put (m':=mm) 1 (.int .i64 t.u) (by rw [hmm];rfl)
 obtain ⟨K1,K2⟩:=HC2.done (d:=d+1) (i := .mk 1 t.u ⟨#[]⟩ [] 0 0 false 0) (by rw [hmm];exact DR0 _ _ _ _ _ _ _ _ _ _ _)
 subst hmm
 exact ret_it rfl rfl K1 K2
set_option maxHeartbeats 1000000 in
theorem item_1b (may:Nat) (hmay:may4 may) (d:Nat) (w:World) (R G:Nat) (t:Tok) (r:List Tok) (e:Int) (h:RdX w R G (t::r) e) (hk:begun (which t)=1) (hb:may.testBit 1=true) (h6:may.testBit 6=true) (h20:nxt r≠20) :
 Calls Tryz.prog 142 #[.pointer (some ⟨R,0,none⟩),.int .i64 may] w (Out R G e w none (VI (d+1) w.heap.size) (.ok (.mk 1 t.u ⟨#[]⟩ [] 0 0 false 0) r)):=by
 have hp:passT 20 r=(false,r):=by simp [passT,h20]
 have HP:Hid (passT 20 r=(false,r)):=hp
 clear hp h20
 have H:Hid (RdX w R G (t::r) e∧may4 may):=⟨h,hmay⟩
 have HK:Hid (begun (nxt (t::r))=1):=hk
 clear h hmay hk
 go_enter Tryz.func142,Tryz.ntmps142
 go_wp2_with (first | (go_at_call 167;refine (begun_any _ R G (t::r) e (H.out.1.alloc _)).mono ?_;rintro x w1 ⟨rfl,hb1⟩;rw [HK.out]) | (go_at_call 168;refine (has_n may 1 1 rfl H.out.2 (by omega) _).mono ?_;rintro x w2 ⟨rfl,rfl⟩;rw [hb]) | fail)
 refine (take_any _ R G t r e (((H.out.1.alloc _).below hb1 (Nat.le_refl _)).alloc _)).mono ?_
 rintro x w2 ⟨rfl,hR2,hm2⟩
 have hc:IC w w2 w1.heap.size R G r e ⟨1,0,⟨#[]⟩,none,0,0,0,0,false,0⟩:=IC.start H.out.1 hb1 _ hR2 hm2
 generalize w1.heap.size=B at *
 clear hb1 hR2 hm2
 have HC:Hid (IC w w2 B R G r e ⟨1,0,⟨#[]⟩,none,0,0,0,0,false,0⟩):=hc
 have c:=fun o=>((hc.alloc o).own).cells
 have c0:=fun o=>(c o).1
 have c1:=fun o=>(c o).2.1
 have c2:=fun o=>(c o).2.2.1
 have c3:=fun o=>(c o).2.2.2.1
 have c4:=fun o=>(c o).2.2.2.2.1
 have c5:=fun o=>(c o).2.2.2.2.2.1
 have c6:=fun o=>(c o).2.2.2.2.2.2.1
 have c7:=fun o=>(c o).2.2.2.2.2.2.2
 clear c hc
 go_wp2_with (go_at_call 168;refine (has_n may 6 6 rfl H.out.2 (by omega) _).mono ?_;rintro x w3 ⟨rfl,rfl⟩;rw [h6])
 refine (pass_any _ R G 20 (by decide) r e (HC.out.rd.alloc _)).mono ?_
 rintro x w4 ⟨rfl,hR4,hm4⟩
 rw [HP.out] at hR4 ⊢
 have hT:=(TB.new w2 t.k t.a t.l t.u t.t t.n).mv hm4 (by have:=HC.out.Rlt;have:=HC.out.mv.size;omega) (by simp)
 have hc:=(HC.out.alloc _).after hm4 hR4
 clear c0 c1 c2 c3 c4 c5 c6 c7 hR4 hm4 HC
 have HC:Hid (IC w w4 B R G r e ⟨1,0,⟨#[]⟩,none,0,0,0,0,false,0⟩):=hc
 have hne:B≠w.heap.size:=by have:=hc.lt;omega
 have hne2:w.heap.size≠B:=by have:=hc.lt;omega
 obtain ⟨c0,c1,c2,c3,c4,c5,c6,c7⟩:=(hc.own).cells
 obtain ⟨f0,f1,f2,f3,f4,f5,f6,f7⟩:=(hc.own).frozen
 obtain ⟨s0,s1,s2,s3,s4,s5,s6,s7⟩:=(hc.res).cells
 obtain ⟨z0,z1,z2,z3,z4,z5,z6,z7⟩:=(hc.res).frozen
 obtain ⟨t0,t1,t2,t3,t4,t5⟩:=hT.cells
 clear hc hT
 go_wp2
 obtain ⟨mm,hmm⟩:∃ mm:MI,mm=⟨1,t.u,⟨#[]⟩,none,0,0,0,0,false,0⟩:=⟨_,rfl⟩
 have HC2:=HC.out.put (m':=mm) 1 (.int .i64 t.u) (by rw [hmm];rfl)
 obtain ⟨K1,K2⟩:=HC2.done (d:=d+1) (i := .mk 1 t.u ⟨#[]⟩ [] 0 0 false 0) (by rw [hmm];exact DR0 _ _ _ _ _ _ _ _ _ _ _)
 subst hmm
 exact ret_it rfl rfl K1 K2
set_option maxHeartbeats 1000000 in
theorem item_1c (may:Nat) (hmay:may4 may) (d:Nat) (w:World) (R G:Nat) (t:Tok) (r:List Tok) (e:Int) (h:RdX w R G (t::r) e) (hk:begun (which t)=1) (hb:may.testBit 1=true) (h6:may.testBit 6=true) (h20:nxt r=20) :
 Calls Tryz.prog 142 #[.pointer (some ⟨R,0,none⟩),.int .i64 may] w (Out R G e w none (VI (d+1) w.heap.size) (upToT e t r.tail)):=by
 obtain ⟨U,hU⟩:∃ U,upToT e t r.tail=U:=⟨_,rfl⟩
 rw [hU]
 have HU:Hid (upToT e t r.tail=U):=hU
 clear hU
 have hp:passT 20 r=(true,r.tail):=by simp [passT,h20]
 have HP:Hid (passT 20 r=(true,r.tail)):=hp
 clear hp h20
 have H:Hid (RdX w R G (t::r) e∧may4 may):=⟨h,hmay⟩
 have HK:Hid (begun (nxt (t::r))=1):=hk
 clear h hmay hk
 go_enter Tryz.func142,Tryz.ntmps142
 go_wp2_with (first | (go_at_call 167;refine (begun_any _ R G (t::r) e (H.out.1.alloc _)).mono ?_;rintro x w1 ⟨rfl,hb1⟩;rw [HK.out]) | (go_at_call 168;refine (has_n may 1 1 rfl H.out.2 (by omega) _).mono ?_;rintro x w2 ⟨rfl,rfl⟩;rw [hb]) | fail)
 refine (take_any _ R G t r e (((H.out.1.alloc _).below hb1 (Nat.le_refl _)).alloc _)).mono ?_
 rintro x w2 ⟨rfl,hR2,hm2⟩
 have hc:IC w w2 w1.heap.size R G r e ⟨1,0,⟨#[]⟩,none,0,0,0,0,false,0⟩:=IC.start H.out.1 hb1 _ hR2 hm2
 generalize w1.heap.size=B at *
 clear hb1 hR2 hm2
 have HC:Hid (IC w w2 B R G r e ⟨1,0,⟨#[]⟩,none,0,0,0,0,false,0⟩):=hc
 have c:=fun o=>((hc.alloc o).own).cells
 have c0:=fun o=>(c o).1
 have c1:=fun o=>(c o).2.1
 have c2:=fun o=>(c o).2.2.1
 have c3:=fun o=>(c o).2.2.2.1
 have c4:=fun o=>(c o).2.2.2.2.1
 have c5:=fun o=>(c o).2.2.2.2.2.1
 have c6:=fun o=>(c o).2.2.2.2.2.2.1
 have c7:=fun o=>(c o).2.2.2.2.2.2.2
 clear c hc
 go_wp2_with (go_at_call 168;refine (has_n may 6 6 rfl H.out.2 (by omega) _).mono ?_;rintro x w3 ⟨rfl,rfl⟩;rw [h6])
 refine (pass_any _ R G 20 (by decide) r e (HC.out.rd.alloc _)).mono ?_
 rintro x w4 ⟨rfl,hR4,hm4⟩
 rw [HP.out] at hR4 ⊢
 have hT:=(TB.new w2 t.k t.a t.l t.u t.t t.n).mv hm4 (by have:=HC.out.Rlt;have:=HC.out.mv.size;omega) (by simp)
 have hc:=(HC.out.alloc _).after hm4 hR4
 clear c0 c1 c2 c3 c4 c5 c6 c7 hR4 hm4 HC
 have HC:Hid (IC w w4 B R G r.tail e ⟨1,0,⟨#[]⟩,none,0,0,0,0,false,0⟩):=hc
 obtain ⟨t0,t1,t2,t3,t4,t5⟩:=hT.cells
 clear hc hT
 go_wp2_with fail
 refine (upTo_any _ R G t r.tail e HC.out.rd).mono ?_
 rintro x w5 ⟨hm5,hx⟩
 rw [HU.out] at hx
 clear HU
 cases U with
 | no a c=>
  simp only at hx
  subst hx
  exact ⟨rfl,HC.out.mv.and hm5,rfl⟩
 | ok i r2=>
  obtain ⟨v,rfl,hR5,m,rfl,hD⟩:=hx
  have hc:=HC.out.after hm5 hR5
  have HC2:Hid (IC w w5 B R G r2 e ⟨1,0,⟨#[]⟩,none,0,0,0,0,false,0⟩∧DR 0 w5 w4.heap.size none m i):=⟨hc,hD⟩
  obtain ⟨s0,s1,s2,s3,s4,s5,s6,s7⟩:=(hc.res).cells
  obtain ⟨z0,z1,z2,z3,z4,z5,z6,z7⟩:=(hc.res).frozen
  clear hc hD hm5 hR5 t0 t1 t2 t3 t4 t5 HC
  go_wp2
  obtain ⟨K1,K2⟩:=HC2.out.1.tell (HC2.out.2.zero d)
  exact ret_it rfl rfl K1 K2
theorem heap_set_other (W:World) {B k:Nat} (hk:k≠B) (j:Nat) (v:Value):(W.setCell ⟨B,j,none⟩ v).heap[k]? = W.heap[k]? := by
 show (W.heap.modify B _)[k]? = _
 rw [Array.getElem?_modify,if_neg (fun e=>hk e.symm)]
set_option maxHeartbeats 1000000 in
theorem item_5 (may:Nat) (hmay:may4 may) (d:Nat) (w:World) (R G:Nat) (t:Tok) (r:List Tok) (e:Int) (h:RdX w R G (t::r) e) (hk:begun (which t)=5) (hb:may.testBit 5=true) (S:Res (List It)) (hS:∀ w,RdX w R G (passT 15 r).2 e→Calls Tryz.prog 143 #[.pointer (some ⟨R,0,none⟩),.slice none 0 0,.int .i64 78] w (Out R G e w none (VR d w.heap.size) S)) :
 Calls Tryz.prog 142 #[.pointer (some ⟨R,0,none⟩),.int .i64 may] w (Out R G e w none (VI (d+1) w.heap.size) (S.bind fun ps r2=>(wantT e 19 r2).bind fun _ r3 => .ok (.mk 5 0 ⟨#[]⟩ ps 0 0 (passT 15 r).1 0) r3)):=by
 obtain ⟨bn,q,hp⟩:∃ bn q,passT 15 r=(bn,q):=⟨_,_,rfl⟩
 rw [hp] at hS
 rw [hp]
 simp only at hS ⊢
 have HP:Hid (passT 15 r=(bn,q)):=hp
 have HS:Hid (∀ w,RdX w R G q e→Calls Tryz.prog 143 #[.pointer (some ⟨R,0,none⟩),.slice none 0 0,.int .i64 78] w (Out R G e w none (VR d w.heap.size) S)):=hS
 clear hp hS
 have H:Hid (RdX w R G (t::r) e∧may4 may):=⟨h,hmay⟩
 have HK:Hid (begun (nxt (t::r))=5):=hk
 clear h hmay hk
 go_enter Tryz.func142,Tryz.ntmps142
 go_wp2_with (first | (go_at_call 167;refine (begun_any _ R G (t::r) e (H.out.1.alloc _)).mono ?_;rintro x w1 ⟨rfl,hb1⟩;rw [HK.out]) | (go_at_call 168;refine (has_n may 5 5 rfl H.out.2 (by omega) _).mono ?_;rintro x w2 ⟨rfl,rfl⟩;rw [hb]) | fail)
 refine (take_any _ R G t r e (((H.out.1.alloc _).below hb1 (Nat.le_refl _)).alloc _)).mono ?_
 rintro x w2 ⟨rfl,hR2,hm2⟩
 have hc:IC w w2 w1.heap.size R G r e ⟨5,0,⟨#[]⟩,none,0,0,0,0,false,0⟩:=IC.start H.out.1 hb1 _ hR2 hm2
 generalize w1.heap.size=B at *
 clear hb1 hR2 hm2
 have HC:Hid (IC w w2 B R G r e ⟨5,0,⟨#[]⟩,none,0,0,0,0,false,0⟩):=hc
 have c:=fun o=>((hc.alloc o).own).cells
 have c0:=fun o=>(c o).1
 have c1:=fun o=>(c o).2.1
 have c2:=fun o=>(c o).2.2.1
 have c3:=fun o=>(c o).2.2.2.1
 have c4:=fun o=>(c o).2.2.2.2.1
 have c5:=fun o=>(c o).2.2.2.2.2.1
 have c6:=fun o=>(c o).2.2.2.2.2.2.1
 have c7:=fun o=>(c o).2.2.2.2.2.2.2
 clear c hc
 go_wp2_with fail
 refine (pass_any _ R G 15 (by decide) r e (HC.out.rd.alloc _)).mono ?_
 rintro x w3 ⟨rfl,hR3,hm3⟩
 rw [HP.out] at hR3 ⊢
 simp only at hR3
 have hc:=(HC.out.alloc _).after hm3 hR3
 have hz3:w.heap.size+1≤w3.heap.size:=by have h1:=hc.own.lt;have h2:=hc.lt;omega
 have hBs:B<w3.heap.size:=hc.own.lt
 clear c0 c1 c2 c3 c4 c5 c6 c7 hR3 hm3 HC
 have HC:Hid (IC w w3 B R G q e ⟨5,0,⟨#[]⟩,none,0,0,0,0,false,0⟩):=hc
 have hne:B≠w.heap.size:=by have:=hc.lt;omega
 have hne2:w.heap.size≠B:=by have:=hc.lt;omega
 obtain ⟨c0,c1,c2,c3,c4,c5,c6,c7⟩:=(hc.own).cells
 obtain ⟨f0,f1,f2,f3,f4,f5,f6,f7⟩:=(hc.own).frozen
 clear hc
 go_wp2_with fail
 have hc3:=HC.out.put (m':=⟨5,0,⟨#[]⟩,none,0,0,0,0,bn,0⟩) 6 (.bool bn) rfl
 refine (HS.out _ hc3.rd).mono ?_
 rintro x w4 ⟨hm4,hx⟩
 clear HC c0 c1 c2 c3 c4 c5 c6 c7 f0 f1 f2 f3 f4 f5 f6 f7 HS
 cases S with
 | no a c=>
  simp only at hx
  subst hx
  exact ⟨rfl,hc3.mv.and hm4,rfl⟩
 | ok ps r2=>
  obtain ⟨v,rfl,hR4,A,c,rfl,hD⟩:=hx
  have hc4:=hc3.after hm4 hR4
  have HD:Hid (Rows d w4 (w3.setCell ⟨B,6,none⟩ (.bool bn)).heap.size none A ps.length c ps):=hD
  have HC:Hid (IC w w4 B R G r2 e ⟨5,0,⟨#[]⟩,none,0,0,0,0,bn,0⟩):=hc4
  clear hD hc3 hm4 hR4
  obtain ⟨c0,c1,c2,c3,c4,c5,c6,c7⟩:=(hc4.own).cells
  obtain ⟨f0,f1,f2,f3,f4,f5,f6,f7⟩:=(hc4.own).frozen
  clear hc4
  go_wp2_with fail
  have hc5:=HC.out.put (m':=⟨5,0,⟨#[]⟩,A,ps.length,c,0,0,bn,0⟩) 3 (.slice A ps.length c) rfl
  refine (want_any _ R G 19 (by decide) r2 e hc5.rd).mono ?_
  rintro x w5 ⟨hm5,hx⟩
  have hBl:=HC.out.own.lt
  clear HC
  generalize hW:wantT e 19 r2=W at hx
  cases W with
  | no a c=>
   simp only at hx
   subst hx
   refine ⟨rfl,hc5.mv.and hm5,?_⟩
   simp only [Res.bind,hW]
  | ok u r3=>
   obtain ⟨v,rfl,hR5,rfl⟩:=hx
   have hc6:=hc5.after hm5 hR5
   have HC:Hid (IC w w5 B R G r3 e ⟨5,0,⟨#[]⟩,A,ps.length,c,0,0,bn,0⟩):=hc6
   have HD2:Hid (Rows d w5 (w.heap.size+1) none A ps.length c ps):=by
    refine HD.out.step (by simpa using hz3) (.inl rfl) (fun k h1 h2 _ => ?_)
    simp only [World.size_setCell] at h2
    exact (hm5.block k (by simpa using h1) (by have:=hc6.Rlt;omega) (by simp)).trans (heap_set_other _ (by omega) _ _)
   have HW:Hid (wantT e 19 r2 = .ok u r3):=hW
   obtain ⟨c0,c1,c2,c3,c4,c5,c6,c7⟩:=(hc6.own).cells
   obtain ⟨s0,s1,s2,s3,s4,s5,s6,s7⟩:=(hc6.res).cells
   obtain ⟨z0,z1,z2,z3,z4,z5,z6,z7⟩:=(hc6.res).frozen
   clear hc5 hc6 hm5 hR5 HD hW
   go_wp2
   obtain ⟨K1,K2⟩:=HC.out.done (d:=d+1) (i := .mk 5 0 ⟨#[]⟩ ps 0 0 bn 0) ⟨⟨rfl,rfl,rfl,rfl,rfl,rfl,rfl⟩,HD2.out⟩
   refine ret_it rfl rfl K1 ?_
   simp only [Res.bind,HW.out]
   exact K2
set_option maxHeartbeats 1000000 in
theorem item_7a (may:Nat) (hmay:may4 may) (d:Nat) (w:World) (R G:Nat) (t:Tok) (r:List Tok) (e:Int) (h:RdX w R G (t::r) e) (hk:begun (which t)=7) (hb:may.testBit 7=true) (h22:nxt r≠22) :
 Calls Tryz.prog 142 #[.pointer (some ⟨R,0,none⟩),.int .i64 may] w (Out R G e w none (VI (d+1) w.heap.size) (.ok (.mk 7 0 ⟨#[]⟩ [] 0 0 false t.n) r)):=by
 have hp:passT 22 r=(false,r):=by simp [passT,h22]
 have HP:Hid (passT 22 r=(false,r)):=hp
 clear hp h22
 have H:Hid (RdX w R G (t::r) e∧may4 may):=⟨h,hmay⟩
 have HK:Hid (begun (nxt (t::r))=7):=hk
 clear h hmay hk
 go_enter Tryz.func142,Tryz.ntmps142
 go_wp2_with (first | (go_at_call 167;refine (begun_any _ R G (t::r) e (H.out.1.alloc _)).mono ?_;rintro x w1 ⟨rfl,hb1⟩;rw [HK.out]) | (go_at_call 168;refine (has_n may 7 7 rfl H.out.2 (by omega) _).mono ?_;rintro x w2 ⟨rfl,rfl⟩;rw [hb]) | fail)
 refine (take_any _ R G t r e (((H.out.1.alloc _).below hb1 (Nat.le_refl _)).alloc _)).mono ?_
 rintro x w2 ⟨rfl,hR2,hm2⟩
 have hc:IC w w2 w1.heap.size R G r e ⟨7,0,⟨#[]⟩,none,0,0,0,0,false,0⟩:=IC.start H.out.1 hb1 _ hR2 hm2
 generalize w1.heap.size=B at *
 clear hb1 hR2 hm2
 have HC:Hid (IC w w2 B R G r e ⟨7,0,⟨#[]⟩,none,0,0,0,0,false,0⟩):=hc
 have hne:B≠w.heap.size:=by have:=hc.lt;omega
 have hne2:w.heap.size≠B:=by have:=hc.lt;omega
 have c:=fun o=>((hc.alloc o).own).cells
 have c0:=fun o=>(c o).1
 have c1:=fun o=>(c o).2.1
 have c2:=fun o=>(c o).2.2.1
 have c3:=fun o=>(c o).2.2.2.1
 have c4:=fun o=>(c o).2.2.2.2.1
 have c5:=fun o=>(c o).2.2.2.2.2.1
 have c6:=fun o=>(c o).2.2.2.2.2.2.1
 have c7:=fun o=>(c o).2.2.2.2.2.2.2
 have f:=fun o=>((hc.alloc o).own).frozen
 have f0:=fun o=>(f o).1
 have f1:=fun o=>(f o).2.1
 have f2:=fun o=>(f o).2.2.1
 have f3:=fun o=>(f o).2.2.2.1
 have f4:=fun o=>(f o).2.2.2.2.1
 have f5:=fun o=>(f o).2.2.2.2.2.1
 have f6:=fun o=>(f o).2.2.2.2.2.2.1
 have f7:=fun o=>(f o).2.2.2.2.2.2.2
 clear c f hc
 go_wp2_with fail
 have hc3:=(HC.out.alloc (.cells #[.int .i64 t.k,.int .i64 t.a,.int .i64 t.l,.int .i64 t.u,.string t.t,.int .i64 t.n] 52)).put (m':=⟨7,0,⟨#[]⟩,none,0,0,0,0,false,t.n⟩) 7 (.int .i64 t.n) rfl
 refine (pass_any _ R G 22 (by decide) r e hc3.rd).mono ?_
 rintro x w4 ⟨rfl,hR4,hm4⟩
 rw [HP.out] at hR4 ⊢
 have hc:=hc3.after hm4 hR4
 clear c0 c1 c2 c3 c4 c5 c6 c7 f0 f1 f2 f3 f4 f5 f6 f7 hR4 hm4 HC hc3
 have HC:Hid (IC w w4 B R G r e ⟨7,0,⟨#[]⟩,none,0,0,0,0,false,t.n⟩):=hc
 obtain ⟨c0,c1,c2,c3,c4,c5,c6,c7⟩:=(hc.own).cells
 obtain ⟨s0,s1,s2,s3,s4,s5,s6,s7⟩:=(hc.res).cells
 obtain ⟨z0,z1,z2,z3,z4,z5,z6,z7⟩:=(hc.res).frozen
 clear hc
 go_wp2
 obtain ⟨mm,hmm⟩:∃ mm:MI,mm=⟨7,0,⟨#[]⟩,none,0,0,0,0,false,t.n⟩:=⟨_,rfl⟩
 have HC2:=(hmm ▸ HC.out:IC w w4 B R G r e mm)
 obtain ⟨K1,K2⟩:=HC2.done (d:=d+1) (i := .mk 7 0 ⟨#[]⟩ [] 0 0 false t.n) (by rw [hmm];exact DR0 _ _ _ _ _ _ _ _ _ _ _)
 subst hmm
 exact ret_it rfl rfl K1 K2
set_option maxHeartbeats 1000000 in
theorem item_7b (may:Nat) (hmay:may4 may) (d:Nat) (w:World) (R G:Nat) (t:Tok) (r:List Tok) (e:Int) (h:RdX w R G (t::r) e) (hk:begun (which t)=7) (hb:may.testBit 7=true) (h22:nxt r=22) (U:Res It) (hU:∀ w,RdX w R G r.tail e→Calls Tryz.prog 142 #[.pointer (some ⟨R,0,none⟩),.int .i64 60] w (Out R G e w none (VI d w.heap.size) U)) :
 Calls Tryz.prog 142 #[.pointer (some ⟨R,0,none⟩),.int .i64 may] w (Out R G e w none (VI (d+1) w.heap.size) (U.bind fun x r2 => .ok (.mk 8 0 ⟨#[]⟩ [x] 0 0 false t.n) r2)):=by
 have hp:passT 22 r=(true,r.tail):=by simp [passT,h22]
 have HP:Hid (passT 22 r=(true,r.tail)):=hp
 have HU:Hid (∀ w,RdX w R G r.tail e→Calls Tryz.prog 142 #[.pointer (some ⟨R,0,none⟩),.int .i64 60] w (Out R G e w none (VI d w.heap.size) U)):=hU
 clear hp h22 hU
 have H:Hid (RdX w R G (t::r) e∧may4 may):=⟨h,hmay⟩
 have HK:Hid (begun (nxt (t::r))=7):=hk
 clear h hmay hk
 go_enter Tryz.func142,Tryz.ntmps142
 go_wp2_with (first | (go_at_call 167;refine (begun_any _ R G (t::r) e (H.out.1.alloc _)).mono ?_;rintro x w1 ⟨rfl,hb1⟩;rw [HK.out]) | (go_at_call 168;refine (has_n may 7 7 rfl H.out.2 (by omega) _).mono ?_;rintro x w2 ⟨rfl,rfl⟩;rw [hb]) | fail)
 refine (take_any _ R G t r e (((H.out.1.alloc _).below hb1 (Nat.le_refl _)).alloc _)).mono ?_
 rintro x w2 ⟨rfl,hR2,hm2⟩
 have hc:IC w w2 w1.heap.size R G r e ⟨7,0,⟨#[]⟩,none,0,0,0,0,false,0⟩:=IC.start H.out.1 hb1 _ hR2 hm2
 generalize w1.heap.size=B at *
 clear hb1 hR2 hm2
 have HC:Hid (IC w w2 B R G r e ⟨7,0,⟨#[]⟩,none,0,0,0,0,false,0⟩):=hc
 have hne:B≠w.heap.size:=by have:=hc.lt;omega
 have hne2:w.heap.size≠B:=by have:=hc.lt;omega
 have c:=fun o=>((hc.alloc o).own).cells
 have c0:=fun o=>(c o).1
 have c1:=fun o=>(c o).2.1
 have c2:=fun o=>(c o).2.2.1
 have c3:=fun o=>(c o).2.2.2.1
 have c4:=fun o=>(c o).2.2.2.2.1
 have c5:=fun o=>(c o).2.2.2.2.2.1
 have c6:=fun o=>(c o).2.2.2.2.2.2.1
 have c7:=fun o=>(c o).2.2.2.2.2.2.2
 have f:=fun o=>((hc.alloc o).own).frozen
 have f0:=fun o=>(f o).1
 have f1:=fun o=>(f o).2.1
 have f2:=fun o=>(f o).2.2.1
 have f3:=fun o=>(f o).2.2.2.1
 have f4:=fun o=>(f o).2.2.2.2.1
 have f5:=fun o=>(f o).2.2.2.2.2.1
 have f6:=fun o=>(f o).2.2.2.2.2.2.1
 have f7:=fun o=>(f o).2.2.2.2.2.2.2
 clear c f hc
 go_wp2_with fail
 have hc3:=(HC.out.alloc (.cells #[.int .i64 t.k,.int .i64 t.a,.int .i64 t.l,.int .i64 t.u,.string t.t,.int .i64 t.n] 52)).put (m':=⟨7,0,⟨#[]⟩,none,0,0,0,0,false,t.n⟩) 7 (.int .i64 t.n) rfl
 refine (pass_any _ R G 22 (by decide) r e hc3.rd).mono ?_
 rintro x w4 ⟨rfl,hR4,hm4⟩
 rw [HP.out] at hR4 ⊢
 have hc:=hc3.after hm4 hR4
 clear c0 c1 c2 c3 c4 c5 c6 c7 f0 f1 f2 f3 f4 f5 f6 f7 hR4 hm4 HC hc3
 have HC:Hid (IC w w4 B R G r.tail e ⟨7,0,⟨#[]⟩,none,0,0,0,0,false,t.n⟩):=hc
 obtain ⟨c0,c1,c2,c3,c4,c5,c6,c7⟩:=(hc.own).cells
 obtain ⟨f0,f1,f2,f3,f4,f5,f6,f7⟩:=(hc.own).frozen
 have hz4:w.heap.size+1≤w4.heap.size:=by have h1:=hc.own.lt;have h2:=hc.lt;omega
 have hBs:B<w4.heap.size:=hc.own.lt
 clear hc
 go_wp2_with fail
 have hc5:=HC.out.put (m':=⟨8,0,⟨#[]⟩,none,0,0,0,0,false,t.n⟩) 0 (.int .i64 8) rfl
 refine (HU.out _ hc5.rd).mono ?_
 rintro x w5 ⟨hm5,hx⟩
 clear HC c0 c1 c2 c3 c4 c5 c6 c7 f0 f1 f2 f3 f4 f5 f6 f7 HU
 cases U with
 | no a c=>
  simp only at hx
  subst hx
  exact ⟨rfl,hc5.mv.and hm5,rfl⟩
 | ok i r2=>
  obtain ⟨v,rfl,hR5,m,rfl,hD⟩:=hx
  have hc:=hc5.after hm5 hR5
  have HD:Hid (DR d w5 (w4.setCell ⟨B,0,none⟩ (.int .i64 8)).heap.size none m i):=hD
  have HC:Hid (IC w w5 B R G r2 e ⟨8,0,⟨#[]⟩,none,0,0,0,0,false,t.n⟩):=hc
  clear hc5 hm5 hR5 hD
  have c:=fun o=>((hc.alloc o).own).cells
  have c0:=fun o=>(c o).1
  have c1:=fun o=>(c o).2.1
  have c2:=fun o=>(c o).2.2.1
  have c3:=fun o=>(c o).2.2.2.1
  have c4:=fun o=>(c o).2.2.2.2.1
  have c5:=fun o=>(c o).2.2.2.2.2.1
  have c6:=fun o=>(c o).2.2.2.2.2.2.1
  have c7:=fun o=>(c o).2.2.2.2.2.2.2
  have f:=fun o=>((hc.alloc o).own).frozen
  have f0:=fun o=>(f o).1
  have f1:=fun o=>(f o).2.1
  have f2:=fun o=>(f o).2.2.1
  have f3:=fun o=>(f o).2.2.2.1
  have f4:=fun o=>(f o).2.2.2.2.1
  have f5:=fun o=>(f o).2.2.2.2.2.1
  have f6:=fun o=>(f o).2.2.2.2.2.2.1
  have f7:=fun o=>(f o).2.2.2.2.2.2.2
  have s:=fun o=>((hc.alloc o).res).cells
  have s0:=fun o=>(s o).1
  have s1:=fun o=>(s o).2.1
  have s2:=fun o=>(s o).2.2.1
  have s3:=fun o=>(s o).2.2.2.1
  have s4:=fun o=>(s o).2.2.2.2.1
  have s5:=fun o=>(s o).2.2.2.2.2.1
  have s6:=fun o=>(s o).2.2.2.2.2.2.1
  have s7:=fun o=>(s o).2.2.2.2.2.2.2
  have z:=fun o=>((hc.alloc o).res).frozen
  have z0:=fun o=>(z o).1
  have z1:=fun o=>(z o).2.1
  have z2:=fun o=>(z o).2.2.1
  have z3:=fun o=>(z o).2.2.2.1
  have z4:=fun o=>(z o).2.2.2.2.1
  have z5:=fun o=>(z o).2.2.2.2.2.1
  have z6:=fun o=>(z o).2.2.2.2.2.2.1
  have z7:=fun o=>(z o).2.2.2.2.2.2.2
  clear c f s z hc
  go_wp2
  have HC3:=(HC.out.alloc (.cells (mi1 m).toArray 58)).put (m':=⟨8,0,⟨#[]⟩,some ⟨w5.heap.size,0,none⟩,1,1,0,0,false,t.n⟩) 3 (.slice (some ⟨w5.heap.size,0,none⟩) 1 1) rfl
  have hB5:=HC.out.own.lt
  have hBw:=HC.out.lt
  obtain ⟨K1,K2⟩:=HC3.done (d:=d+1) (i := .mk 8 0 ⟨#[]⟩ [i] 0 0 false t.n) ⟨⟨rfl,rfl,rfl,rfl,rfl,rfl,rfl⟩,[m],⟨rfl,.inr ⟨w5.heap.size,(mi1 m).toArray,rfl,by omega,(fun e=>by cases e),(heap_set_other _ (by omega) _ _).trans (World.alloc_heap_new _ _),Nat.le_refl _,(by show 1≤maxLen;decide),rfl,by simp [fi,mi1]⟩⟩,HD.out.step (by simpa using hz4) (.inl rfl) (fun k h1 h2 _=>by
   simp only [World.size_setCell] at h2
   exact (heap_set_other _ (by omega) _ _).trans (Below.heap_alloc _ _ _ h1)),trivial⟩
  exact ret_it rfl rfl K1 K2
end Go.Proofs
