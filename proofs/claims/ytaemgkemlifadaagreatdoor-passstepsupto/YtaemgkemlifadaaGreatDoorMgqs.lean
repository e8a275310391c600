/-
  Several texts in one (Ig Tm).
-/
import Derived.Deep.Onto
import Derived.Test.YtaemgkemlifadaaGreatDoorMgos
import Derived.Test.YtaemgkemlifadaaGreatDoorMggs
import Derived.Test.YtaemgkemlifadaaGreatDoorMgns
import Derived.Test.YtaemgkemlifadaaGreatDoorMgps
namespace Go.Proofs
open Go.RowKit Go.Shelf
set_option maxRecDepth 100000
attribute [local go_sem] Oper.semAt_some
attribute [local go_sem ↓] Go.wp_at_zero Go.wp_at_succ
theorem ret_dn {fn:Func} {p:Tmp} {W:World} {B:Nat} {tmps:Array Value} {a b:Value} {R:Ending→World→Prop} (hr:fn.results=#[.cell p 80]) (hp:tmps.getD p undef = .pointer (some ⟨B,0,none⟩)) (h:W.heap[B]? = some (.cells #[a,b] 80 (0,0)))
 (K:R (.returned (.agg #[a,b])) W):bodyPost Tryz.prog fn R Exit.ret { tmps:=tmps,defers:=[] } W:=by
 have c0:W.cell? ⟨B,0,none⟩=some a:=by rw [cell_of h];simp
 have c1:W.cell? ⟨B,1,none⟩=some b:=by rw [cell_of h];simp
 refine bodyPost_ret (v := .agg #[a,b]) ?_ rfl K
 rw [Array.getD_eq_getD_getElem?] at hp
 simp only [results,hr]
 simp [hp,go_sem,c0,c1]
def GoQ (w:World) (rs:List Rl) (l0:List Int) (e:Ending) (w':World):Prop:=∃ uv sv d xs,e = .returned (.agg #[uv,sv])∧IsSl uv∧IsSl sv∧OwnI w' w.heap.size uv d∧OwnS w' w.heap.size sv xs∧GoOk rs l0 xs∧lft rs l0 xs=[]∧(d.length:Int)=sumA xs∧G3 rs l0 xs d []∧Below w.heap.size w w'
structure GR (w1:World) (op:Nat) (rs:List Rl) (st:St) (l0:List Int) (wr:World) (uv sv lv:Value) (d:List Int) (xs:List Stp) (l:List Int) (f:Nat):Prop where
 g:GS w1 op wr uv sv lv d xs l
 ok:GoOk rs l0 xs
 lf:lft rs l0 xs=l
 dn:(d.length:Int)=sumA xs
 d16:d.length≤16*xs.length
 m:wS rs st l<f
 at3:G3 rs l0 xs d l
theorem OwnS.ssl {w:World} {base:Nat} {v:Value} {l:List Stp} (h:OwnS w base v l):∃ a c,v = .slice a l.length c:=by
 rcases h.2 with ⟨rfl,h0⟩ | ⟨g,cap,cur,rfl,_⟩
 · exact ⟨none,0,by rw [h0]⟩
 · exact ⟨_,cap,rfl⟩
theorem GR.lens {w1:World} {op:Nat} {rs:List Rl} {st:St} {l0:List Int} {wr:World} {uv sv lv:Value} {d:List Int} {xs:List Stp} {l:List Int} {f:Nat} (h:GR w1 op rs st l0 wr uv sv lv d xs l f) (hF:Fin rs st) (h0:l0.length≤500000):xs.length≤32000000∧d.length≤512000000∧l.length≤32000000:=by
 have h1:=h.ok.weight hF xs.length (Nat.le_refl _)
 rw [List.take_length,h.lf] at h1
 have h2:=(wS_len hF l0).2
 have h3:=(wS_len hF l).1
 have h4:=h.d16
 omega
theorem own_wf {w:World} {base:Nat} {v:Value} {l:List Int} (h:OwnI w base v l):v = .slice none 0 0∨∃ g o n c,v = .slice (some ⟨g,o,none⟩) n c:=by
 rcases h.2 with ⟨rfl,h0⟩ | ⟨g,cap,cur,rfl,_⟩
 · exact .inl rfl
 · exact .inr ⟨g,0,_,cap,rfl⟩
theorem GS.aside {w1:World} {op:Nat} {wr:World} {uv sv lv:Value} {d:List Int} {xs:List Stp} {l:List Int} (h:GS w1 op wr uv sv lv d xs l) {sb:Nat} (j:Nat) (x:Value) (h1:op<sb) (h2:uv.ownBlock≠some sb) (h3:sv.ownBlock≠some sb) (h4:l≠[]→lv.ownBlock≠some sb):GS w1 op (wr.setCell ⟨sb,j,none⟩ x) uv sv lv d xs l:=by
 have ht:∀ b,b≠sb→(wr.setCell ⟨sb,j,none⟩ x).heap[b]? = wr.heap[b]? := fun b hb=>turns_set _ _ _ _ b hb
 refine ⟨(ht op (by omega)).trans h.blk,⟨h.own.1,?_⟩,⟨h.ows.1,?_⟩,ir_turn h.lef fun hl g hg=>ht g (fun e=>h4 hl (by rw [hg,e])),fun hl g hg => ?_,h.bel.setCell (by show op≤sb;omega) _⟩
 · rcases h.own.2 with k1 | ⟨g,cap,cur,k1,k2,k3,k4⟩
   · exact .inl k1
   · exact .inr ⟨g,cap,cur,k1,k2,(ht g (fun e=>h2 (by rw [k1,←e];rfl))).trans k3,k4⟩
 · rcases h.ows.2 with k1 | ⟨g,cap,cur,k1,k2,k3,k4⟩
   · exact .inl k1
   · exact .inr ⟨g,cap,cur,k1,k2,(ht g (fun e=>h3 (by rw [k1,←e];rfl))).trans k3,k4⟩
 · obtain ⟨p1,p2,p3,p4⟩:=h.lap hl g hg
   exact ⟨p1,p2,p3,by simpa using p4⟩
theorem GS.low {w1:World} {op:Nat} {wr w':World} {uv sv lv:Value} {d:List Int} {xs:List Stp} {l:List Int} (h:GS w1 op wr uv sv lv d xs l) (hb:Below wr.heap.size wr w'):GS w1 op w' uv sv lv d xs l:=
 ⟨blk_below h.blk hb (blk_lt h.blk),h.own.below hb (Nat.le_refl _),h.ows.below hb (Nat.le_refl _),h.lef.below hb (Nat.le_refl _),fun hl g hg=>by
  obtain ⟨a,b,c,e⟩:=h.lap hl g hg
  exact ⟨a,b,c,Nat.lt_of_lt_of_le e hb.size⟩,h.bel.trans (hb.mono (by have:=h.bel.size;have:=blk_lt h.blk;omega))⟩
theorem FarI.turn {w w':World} {base:Nat} {v:Value} {l:List Int} (h:FarI w base v l) (hk:∀ b,base≤b→w'.heap[b]? = w.heap[b]?):FarI w' base v l:=by
 obtain ⟨a,c,e,hc,hr⟩:=h
 refine ⟨a,c,e,hc,?_⟩
 rcases hr with hr | ⟨g,o,h1,h2,h3⟩
 · exact .inl hr
 · exact .inr ⟨g,o,h1,h2,fun j hj=>(cell_same (hk g h2)).trans (h3 j hj)⟩
theorem push_more {ops:Array Oper} {rest:List Oper} {o:Oper} {a:Act} {Q:Exit→Act→World→Prop} {w:World} (hgd:o.guard=none) (s x:Operand)
 (ho:o.op = .call { callee := .builtin .append,args:=#[s,x],argTypes:=#[38,38] }) (base:Nat) (v:Value) (l:List Int) (hs:a.eval s=v) (h:OwnI w base v l) (e:List Int) (xv:Value) (hx:a.eval x=xv) (hi:IR w xv e) (hl:l.length+e.length≤1000000000) (hb:base≤w.heap.size)
 (hK:∀ v' w',OwnI w' base v' (l++e)→Below base w w'→wpList Tryz.prog ops Q rest (a.put o.dst v') w'):wpList Tryz.prog ops Q (o::rest) a w:=by
 obtain ⟨i0,hi0,hz0,hz1,hz2⟩:=info_parts iinfo3
 by_cases he:e=[]
 · subst he
   rw [List.append_nil] at hK
   obtain ⟨A,c,rfl⟩:=ir_nil hi
   obtain ⟨ua,uc,huv⟩:=h.sl
   have hle:l.length≤uc:=by obtain ⟨_,c',e',h1,_⟩:=h.ir;rw [huv] at e';injection e' with _ _ e3;omega
   refine wpList_plain hgd fun _ hK2 => ?_
   have hr:=run_append_nothing (P:=Tryz.prog) w 38 38 o.type 3 i0 Tryz.underlying38 hi0 ua l.length uc hle (.slice A 0 c) ⟨.inl ⟨3,Tryz.underlying38⟩,fun w'=>by cases A <;> simp [Builtin.lenOf,go_sem],by cases A <;> simp [Builtin.firstCells,go_sem],by cases A <;> simp [Builtin.firstCells,go_sem],by simp,by simp⟩
   unfold Oper.wp execOp
   simp only [ho,resolve,invoke,builtin,Sem.run_bind,Sem.run_pure,Result.andThen_ok,List.map_toArray,List.map_cons,List.map_nil,hs,hx,huv,hr]
   exact hK2 _ _ (by rw [←huv];exact hK v w h (Below.refl _ _))
 · obtain ⟨g,o',n,c,rfl,h1,h2,hd⟩:=ir_some hi he
   refine wpList_append_own w hgd s x 38 ho base 3 i0 (.int .i64 0) 1 8 Tryz.underlying38 hi0 hz0 hz1 hz2 rfl (by decide) v l.length (ints l) hs h ⟨g,o',none⟩ n c (ints e) hx (by rw [ints_length];omega) ?_ (ints_one _) (by unfold maxLen;omega) (by omega) hb fun v' w' h2 h3 _=>hK v' w' (by unfold OwnI;rw [ints_append,List.length_append,h1];exact h2) ((Below.refl _ w).grown h3 hb (fun k hk=>(World.ownsRow.lt h k hk).1))
   intro j u hj
   simp only [ints,List.getElem?_map,Option.map_eq_some_iff] at hj
   obtain ⟨y,hy,rfl⟩:=hj
   obtain ⟨hj1,hj2⟩:=List.getElem?_eq_some_iff.1 hy
   rw [add_at,hd j hj1,hj2]
theorem own_lg {lg lo a b g n m:Nat} (h:(Value.slice (some ⟨lg,lo,none⟩) a b).ownBlock=some g) (hl:lg<n):(g=lg∨m≤g)∧g<n:=by
 have e:lg=g:=by simpa [Value.ownBlock] using h
 subst e
 exact ⟨.inl rfl,hl⟩
set_option maxHeartbeats 32000000 in
theorem rgo_any (v:Value) (rs:List Rl) (st:St) (c:Int × Int) (s:ByteArray) (w:World) (h:PsR w v rs) (hw:wgh rs=(some st,c)) (hs:s.size≤500000):Calls Tryz.prog 31 #[.agg #[v],.string s] w (GoQ w rs (intsU (units s))):=by
 have hF:=wgh_fin hw
 have HF:Hid (Fin rs st):=hF
 have HCk:Hid (∀ r∈rs,chk r=0):=wgh_chk hw
 have HP0:Hid (PsR w v rs):=h
 obtain ⟨ra,rc,hv,hx1,hx2⟩:=h
 subst hv
 clear hx1 hx2
 obtain ⟨n,hN⟩:∃ n,rs.length=n:=⟨_,rfl⟩
 have HN:Hid (rs.length=n):=hN
 have hnI:(n:Int)≤256:=by have:=hF.n;omega
 rw [hN] at HP0 ⊢
 have HCu:Hid (∀ V,Calls Tryz.prog 15 #[.string s] V fun e w'=>∃ v,e = .returned v∧IR w' v (intsU (units s))∧Below V.heap.size V w'):=fun V=>rcut_any s V (by omega)
 have HL0:Hid ((intsU (units s)).length≤500000):=by show _≤_;rw [intsU_length];have:=units_len s;omega
 generalize intsU (units s)=l0 at HCu HL0 ⊢
 clear hN hF hw hs
 go_enter Tryz.func31,Tryz.ntmps31
 go_wp2_with fail
 obtain ⟨wA,hwA⟩:∃ wA,wA=(w.alloc (.cells #[.slice ra n rc] 24)).alloc (.cells #[.slice none 0 0,.slice none 0 0] 80):=⟨_,rfl⟩
 have HGA:Hid (Grown w wA):=by show Grown _ _;rw [hwA];exact ((Grown.refl _).alloc _).alloc _
 have HBA:Hid (wA.heap[w.heap.size]? = some (.cells #[.slice ra n rc] 24 (0,0))∧wA.heap[w.heap.size+1]? = some (.cells #[.slice none 0 0,.slice none 0 0] 80 (0,0))):=by
  rw [hwA]
  refine ⟨?_,by simpa using heap_alloc_new (w.alloc (.cells #[.slice ra n rc] 24)) (.cells #[.slice none 0 0,.slice none 0 0] 80)⟩
  exact blk_below (heap_alloc_new w _) ((Grown.refl _).alloc _).below (by simp)
 try rw [←hwA]
 refine (HCu.out _).mono ?_
 rintro e w1 ⟨lv0,rfl,hIL,hB1⟩
 have HB1:Hid (Below w.heap.size w w1):=HGA.out.below.trans (hB1.mono HGA.out.size)
 have HBB:Hid (w1.heap[w.heap.size]? = some (.cells #[.slice ra n rc] 24 (0,0))∧w1.heap[w.heap.size+1]? = some (.cells #[.slice none 0 0,.slice none 0 0] 80 (0,0))):=⟨blk_below HBA.out.1 hB1 (blk_lt HBA.out.1),blk_below HBA.out.2 hB1 (blk_lt HBA.out.2)⟩
 have HP:Hid (PsR w1 (.slice ra n rc) rs):=HP0.out.below HB1.out (Nat.le_refl _)
 have HIL:Hid (IR w1 lv0 l0):=hIL
 obtain ⟨y1,y2,y3,hlv⟩:=hIL.sl
 subst hlv
 clear hIL hB1 HCu HP0 HBA HGA hwA
 go_wp2
 obtain ⟨op,hop⟩:∃ op,w1.heap.size=op:=⟨_,rfl⟩
 have HOP:Hid (w1.heap.size=op):=hop
 have H2:Hid (GR w1 op rs st l0 (w1.alloc (.cells #[.slice none 0 0,.slice none 0 0] 80)) (.slice none 0 0) (.slice none 0 0) (.slice y1 y2 y3) [] [] l0 ((wS rs st l0).toNat+1)):=by
  refine ⟨⟨by rw [←hop];exact heap_alloc_new _ _,OwnI.nil _ _,OwnS.nil _ _,HIL.out.grown ((Grown.refl _).alloc _),fun hl g hg => ?_,by rw [←hop];exact ((Grown.refl w1).alloc _).below⟩,GoOk.nil _ _,rfl,rfl,by simp,by omega,G3.nil _ _⟩
  obtain ⟨g',o,n',c',e,_,_,hd⟩:=ir_some HIL.out hl
  rw [e] at hg
  have e1:g'=g:=by simpa [Value.ownBlock] using hg
  have hlt:g<w1.heap.size:=by
   have:=World.block_lt_of_cell? _ _ (hd 0 (List.length_pos_iff.2 hl))
   rw [←e1];exact this
  exact ⟨by omega,by simp [Value.ownBlock],by simp [Value.ownBlock],by simp;omega⟩
 generalize w1.alloc (.cells #[.slice none 0 0,.slice none 0 0] 80)=w2 at H2 ⊢
 rw [hop]
 clear hop HIL
 go_loopg [5] ((wS rs st l0).toNat+1) (fun f v5 wr=>Hid (∃ uv sv d xs l,GR w1 op rs st l0 wr uv sv v5 d xs l f))
 case atStart=>exact ⟨_,_,_,_,_,H2.out⟩
 case round=>
  clear H2
  obtain ⟨uv,sv,d,xs,l,hR⟩:=hrel.out
  have HR:Hid (GR w1 op rs st l0 wr uv sv u5 d xs l gk):=hR
  clear hrel
  obtain ⟨ua,uc,huv⟩:=hR.g.own.sl
  obtain ⟨sa,sc,hsv⟩:=hR.g.ows.ssl
  have hblk:=hR.g.blk
  have hlens:=hR.lens HF.out HL0.out
  have hpb:=blk_below HBB.out.1 hR.g.bel (by have:=blk_lt HBB.out.1;have:=HOP.out;omega)
  have hrb:=blk_below HBB.out.2 hR.g.bel (by have:=blk_lt HBB.out.2;have:=HOP.out;omega)
  have c0:wr.cell? ⟨op,0,none⟩=some uv:=by rw [cell_of hblk];simp
  have c1:wr.cell? ⟨op,1,none⟩=some sv:=by rw [cell_of hblk];simp
  have cp:wr.cell? ⟨w.heap.size,0,none⟩=some (.slice ra n rc):=by rw [cell_of hpb];simp
  by_cases hl:l=[]
  · subst hl
    obtain ⟨A,cA,hA⟩:=ir_nil hR.g.lef
    subst hA
    have e0:wr.cell? ⟨w.heap.size+1,0,none⟩=some (.slice none 0 0):=by rw [cell_of hrb];simp
    have e1:wr.cell? ⟨w.heap.size+1,1,none⟩=some (.slice none 0 0):=by rw [cell_of hrb];simp
    have fz:∀ j,wr.frozen? ⟨w.heap.size+1,j,none⟩=false:=fun j=>free_of hrb
    have HRB:Hid (wr.heap[w.heap.size+1]? = some (.cells #[.slice none 0 0,.slice none 0 0] 80 (0,0))∧w.heap.size+1<op):=⟨hrb,by have:=blk_lt HBB.out.2;have:=HOP.out;omega⟩
    subst huv
    subst hsv
    clear hR hblk hlens hpb hrb
    go_wp2
    refine ret_dn rfl rfl (set_heap (set_heap HRB.out.1)) ?_
    have hlt:=HRB.out.2
    have ht:∀ b,op+1≤b→∀ (x y:Value),((wr.setCell ⟨w.heap.size+1,0,none⟩ x).setCell ⟨w.heap.size+1,1,none⟩ y).heap[b]? = wr.heap[b]? := fun b hb x y=>(turns_set _ _ _ _ b (by omega)).trans (turns_set _ _ _ _ b (by omega))
    refine ⟨_,_,d,xs,rfl,⟨_,_,_,rfl⟩,⟨_,_,_,rfl⟩,OwnI.le (HR.out.g.own.turn fun b hb=>ht b hb _ _) (by omega),?_,HR.out.ok,HR.out.lf,HR.out.dn,HR.out.at3,?_⟩
    · exact World.ownsRow.mono (HR.out.g.ows.turn fun b hb=>ht b hb _ _) (by omega)
    · have hb:=HB1.out.trans (HR.out.g.bel.mono (by have:=HB1.out.size;have:=HOP.out;omega))
      exact (hb.setCell (by show w.heap.size≤_;simp) _).setCell (by show w.heap.size≤_;simp) _
  · obtain ⟨lg,lo,ln,lc,hlv,hln,hlc,hld⟩:=ir_some hR.g.lef hl
    subst hlv
    have hl0:=List.length_pos_iff.2 hl
    have hcell0:=hld 0 hl0
    rw [Nat.add_zero] at hcell0
    have HNx:Hid (∀ V,Grown wr V→Calls Tryz.prog 55 #[.agg #[.slice ra n rc],uv,.slice (some ⟨lg,lo,none⟩) ln lc] V fun e w'=>e = .returned (.int .i64 (nxtK rs d l rs.length))∧Grown V w'):=fun V hg=>
     rnext_any _ uv _ rs d l V ((HP.out.below hR.g.bel (Nat.le_of_eq HOP.out)).grown hg) HF.out.ok HF.out.n (hR.g.own.ir.grown hg) (hR.g.lef.grown hg) (by omega) (own_wf hR.g.own) (by omega)
    have hnx:=nextS_ok HCk.out d hl0
    have h0:0<ln:=by omega
    have h0I:(0:Int)<(ln:Int):=by omega
    have h0d:decide (0<ln)=true:=by simpa using h0
    have h1I:(1:Int)≤(ln:Int):=by omega
    have hlcI:(ln:Int)≤(lc:Int):=by omega
    have hlnB:(ln:Int)≤32000000:=by omega
    subst huv
    subst hsv
    obtain ⟨dn,hdn⟩:∃ dn,d.length=dn:=⟨_,rfl⟩
    have hdnB:(dn:Int)≤512000000:=by omega
    have HDN:Hid (d.length=dn∧l.length=ln∧xs.length≤32000000):=⟨hdn,hln,hlens.1⟩
    rw [hdn] at HR HNx c0
    clear hR hblk hlens hpb hrb hld hdn hlc
    rcases hnx with ⟨h1,hok⟩ | ⟨i,hi,h1,h2,h3,hok⟩
    · have HH1:=Hid.mk' h1
      rw [h1] at HNx
      have HOK:=Hid.mk' hok
      clear h1 hok
      go_wp2_with fail
      refine (HNx.out _ (Grown.refl _)).mono ?_
      rintro e w3 ⟨rfl,hG3⟩
      have HG3:Hid (Grown wr w3):=hG3
      have d0:=hG3.cellv c0
      have dl:=hG3.cellv hcell0
      clear hG3 HNx c0 c1 cp hcell0
      go_upto_region 7 with fail
      obtain ⟨w4,hw4⟩:∃ w4,w4=w3.alloc (.cells #[.int .i64 (-1),.int .i64 dn,.int .i64 ln,.int .i64 1,.int .i64 1,.int .i64 0] 47):=⟨_,rfl⟩
      have HG4:Hid (Grown w3 w4):=by show Grown _ _;rw [hw4];exact (Grown.refl _).alloc _
      have HSB:Hid (w4.heap[w3.heap.size]? = some (.cells (fs1 ⟨-1,dn,ln,1,1,0⟩).toArray 47 (0,0))):=by show _=_;rw [hw4];exact heap_alloc_new _ _
      rw [←hw4]
      have HGS:Hid (∀ V,Grown w4 V→GS w1 op V (.slice ua dn uc) (.slice sa xs.length sc) (.slice (some ⟨lg,lo,none⟩) ln lc) d xs l):=fun V hg=>HR.out.g.grown (HG3.out.trans (HG4.out.trans hg))
      have d0:=HG4.out.cellv d0
      have dl:=HG4.out.cellv dl
      clear hw4
      obtain ⟨x0,hx0⟩:∃ x0,l[0]=x0:=⟨_,rfl⟩
      rw [hx0] at dl
      go_cut [] (fun wx=>Hid (∃ uv',IsSl uv'∧GS w1 op wx uv' (.slice sa xs.length sc) (.slice (some ⟨lg,lo,none⟩) ln lc) (d++[x0]) xs l∧wx.heap[w3.heap.size]? = some (.cells (fs1 ⟨-1,dn,ln,1,1,0⟩).toArray 47 (0,0))))
      case first=>
       have d0':=fun o=>cell_up d0 o
       have hdl:d.length+1≤1000000000:=by have:=HDN.out.1;omega
       have HUP:Hid (∀ V uv' w2,Grown w4 V→UP w1 op V (.slice ua dn uc) (.slice sa xs.length sc) (.slice (some ⟨lg,lo,none⟩) ln lc) (d++[x0]) xs l uv' w2→∃ uv'',IsSl uv''∧GS w1 op (w2.setCell ⟨op,0,none⟩ uv') uv'' (.slice sa xs.length sc) (.slice (some ⟨lg,lo,none⟩) ln lc) (d++[x0]) xs l∧(w2.setCell ⟨op,0,none⟩ uv').heap[w3.heap.size]? = some (.cells (fs1 ⟨-1,dn,ln,1,1,0⟩).toArray 47 (0,0))):=fun V uv' w2 hg hu=>by
        refine ⟨uv',hu.sl,hu.gs,?_⟩
        have hop:op<w3.heap.size:=by have:=blk_lt (HR.out.g.grown HG3.out).blk;exact this
        have h5:=blk_lt HSB.out
        rw [hu.k w3.heap.size (by have:=hg.size;omega) (by omega) (fun e=>by have:=(HR.out.g.grown HG3.out).apart.2.2.2.1 _ e;omega)]
        exact blk_below HSB.out hg.below h5
       go_region_law (refine step_unit rfl (.tmp 34) (.tmp 38) rfl rfl (HGS.out _ (by (repeat (first | exact Grown.refl _ | refine Grown.alloc ?_ _ | refine Grown.drew ?_ | refine Grown.drewN ?_ _ | refine Grown.quiet ?_ _ _)))) _ _ x0 rfl (by (first | (simp;done) | exact new_cell _ _ _ _ rfl)) hdl ?_;intro uv2 w2 hu2;have HU2:Hid (∃ uv'',IsSl uv''∧GS w1 op (w2.setCell ⟨op,0,none⟩ uv2) uv'' (.slice sa xs.length sc) (.slice (some ⟨lg,lo,none⟩) ln lc) (d++[x0]) xs l∧(w2.setCell ⟨op,0,none⟩ uv2).heap[w3.heap.size]? = some (.cells (fs1 ⟨-1,dn,ln,1,1,0⟩).toArray 47 (0,0))):=HUP.out _ _ _ (by (repeat (first | exact Grown.refl _ | refine Grown.alloc ?_ _ | refine Grown.drew ?_ | refine Grown.drewN ?_ _ | refine Grown.quiet ?_ _ _))) hu2;have cu2:=hu2.c;have fu2:=hu2.f;obtain ⟨z1,z2,z3,hz⟩:=hu2.sl;subst hz;clear hu2)
       all_goals (go_wp2;go_meet;exact HU2)
      case rest=>
       obtain ⟨uv',⟨z1,z2,z3,hz⟩,hgs,hsb⟩:=hcut.out
       subst hz
       have HGW:Hid (GS w1 op wc (.slice z1 z2 z3) (.slice sa xs.length sc) (.slice (some ⟨lg,lo,none⟩) ln lc) (d++[x0]) xs l):=hgs
       have c1:wc.cell? ⟨op,1,none⟩=some (.slice sa xs.length sc):=by rw [cell_of hgs.blk];simp
       have b0:wc.cell? ⟨w3.heap.size,0,none⟩=some (.int .i64 (-1)):=by rw [cell_of hsb];simp [fs1]
       have b1:wc.cell? ⟨w3.heap.size,1,none⟩=some (.int .i64 dn):=by rw [cell_of hsb];simp [fs1]
       have b2:wc.cell? ⟨w3.heap.size,2,none⟩=some (.int .i64 ln):=by rw [cell_of hsb];simp [fs1]
       have b3:wc.cell? ⟨w3.heap.size,3,none⟩=some (.int .i64 1):=by rw [cell_of hsb];simp [fs1]
       have b4:wc.cell? ⟨w3.heap.size,4,none⟩=some (.int .i64 1):=by rw [cell_of hsb];simp [fs1]
       have b5:wc.cell? ⟨w3.heap.size,5,none⟩=some (.int .i64 0):=by rw [cell_of hsb];simp [fs1]
       obtain ⟨l',hl'⟩:∃ l',l=x0::l':=⟨l.drop 1,by
        have:=List.drop_eq_getElem_cons hl0
        rw [List.drop_zero] at this
        rw [←hx0]
        exact this⟩
       have hIc:=hgs.lef
       rw [hl'] at hIc
       obtain ⟨g',o',n',c',hv',hq1,hq2,hq3,hT,hU⟩:=ir_cons hIc
       injection hv' with hv1 hv2 hv3
       injection hv1 with hv1
       injection hv1 with hv1 hv4
       subst hv1 hv2 hv3 hv4
       clear hq1 hq2 hq3
       have hlapL:=hgs.lap hl lg rfl
       have HLE:Hid (∀ lv',IR wc lv' l'→(lv'.ownBlock=some lg)→∀ ob,GS w1 op (wc.alloc ob) (.slice z1 z2 z3) (.slice sa xs.length sc) lv' (d++[x0]) xs l'):=fun lv' hi hb ob=>(hgs.left hi (fun _ g hg=>by rw [hb] at hg;injection hg with hg;subst hg;exact hlapL)).grown ((Grown.refl _).alloc ob)
       have HFIN:Hid (∀ sv2 w5 lv' V,SP w1 op V (.slice z1 z2 z3) (.slice sa xs.length sc) lv' (d++[x0]) (xs++[⟨-1,dn,ln,1,1,0⟩]) l' sv2 w5→∃ uv sv d xs l,GR w1 op rs st l0 (w5.setCell ⟨op,1,none⟩ sv2) uv sv lv' d xs l (gk - 1)):=fun sv2 w5 lv' V hsp=>by
        have hok2:OkStp rs l ⟨-1,dn,ln,1,1,0⟩:=by have:=HOK.out;rw [HDN.out.1,HDN.out.2.1] at this;exact this
        have hsl:stepL rs l ⟨-1,dn,ln,1,1,0⟩=l':=by unfold stepL;rw [if_pos (show (-1:Int)<0 by decide),hl'];rfl
        have hlt:=hok2.light HF.out
        rw [hsl] at hlt
        have hm:=HR.out.m
        have hd:=HR.out.dn
        have h16:=HR.out.d16
        have h3:=HR.out.at3.snoc hl
        obtain ⟨e1,e2,e3⟩:=stp_none HH1.out
        have t1:l.take 1=[x0]:=by rw [hl'];rfl
        have t2:l.drop 1=l':=by rw [hl'];rfl
        rw [e1,e2,e3,HDN.out.1,HDN.out.2.1,t1,t2] at h3
        refine ⟨_,_,_,_,_,hsp.gs,HR.out.ok.snoc (by rw [HR.out.lf];exact hok2),by rw [lft_snoc,HR.out.lf];exact hsl,by rw [sumA_snoc,List.length_append];simp;omega,by simp;omega,by omega,h3⟩
       have hxl:xs.length+1≤1000000000:=by have:=HDN.out.2.2;omega
       have HMS:Hid (gk - 1<gk):=by
        have hm:=HR.out.m
        have:=(wS_len HF.out l).1
        show _<_
        omega
       have HT:=Hid.mk' hT
       have HU:=Hid.mk' hU
       clear hgs hsb hcut hIc hT hU HR HOK hl'
       by_cases hc1:lc=1
       · have hI:=HU.out hc1
         have HGL:=Hid.mk' (HLE.out _ hI rfl)
         subst hc1
         have hln1:(1:Nat)=ln:=by omega
         clear hln
         subst hln1
         clear hI HU HT
         go_wp2_with (at_builtin;go_must (refine push_step rfl _ _ rfl rfl (HGL.out _) _ _ ⟨-1,dn,((1:Nat):Int),1,1,0⟩ rfl (heap_alloc_new _ _) hxl ?_;intro sv2 w5 hs2;have HS2:=Hid.mk' (HFIN.out _ _ _ _ hs2);have cs2:=hs2.c;have fs2:=hs2.f;obtain ⟨t1,t2,t3,ht⟩:=hs2.sl;subst ht;clear hs2))
         try go_wp2
         go_roundg (gk - 1)
         case measure=>exact HMS.out
         case rel=>exact HS2
       · have hI:=HT.out hc1
         have HGL:=Hid.mk' (HLE.out _ hI rfl)
         have hc2:((1:Int) == (lc:Int))=false:=by simp;omega
         have hc3:¬ 1=lc:=by omega
         clear hI HU HT
         go_wp2_with (at_builtin;go_must (refine push_step rfl _ _ rfl rfl (HGL.out _) _ _ ⟨-1,dn,ln,1,1,0⟩ rfl (heap_alloc_new _ _) hxl ?_;intro sv2 w5 hs2;have HS2:=Hid.mk' (HFIN.out _ _ _ _ hs2);have cs2:=hs2.c;have fs2:=hs2.f;obtain ⟨t1,t2,t3,ht⟩:=hs2.sl;subst ht;clear hs2))
         try go_wp2
         go_roundg (gk - 1)
         case measure=>exact HMS.out
         case rel=>exact HS2
    · have HH1:=Hid.mk' h1
      rw [h1] at HNx
      have HOK:=Hid.mk' hok
      have hib:(i:Int)<(n:Int):=by have:=HN.out;omega
      have hi0:(0:Int)≤(i:Int):=by omega
      have hin:¬ (i:Int)<0:=by omega
      have HLY:=Hid.mk' h3
      obtain ⟨a',c',e',_,hPr⟩:=HP.out
      obtain ⟨g,o,ha',hPd⟩:=hPr.resolve_left (fun e=>by rw [e] at hi;simp at hi)
      injection e' with e1 e2 e3
      clear e2 e3
      rw [ha'] at e1
      subst e1
      obtain ⟨av,kv,pv,rv,q0,q1,q2,q3,q4,q5,q6,hRR⟩:=hPd i hi
      have hOk:=HF.out.ok _ (List.getElem_mem hi)
      obtain ⟨r,hr⟩:∃ r,rs[i]'hi=r:=⟨_,rfl⟩
      rw [hr] at hRR hOk q0 q4 q6 h2 HLY HOK
      have HRR:=Hid.mk' hRR
      have HOk:=Hid.mk' hOk
      obtain ⟨ka,kc,hkv,hx1,hx2⟩:=HRR.out.k
      clear hx1 hx2
      obtain ⟨kn,hkn⟩:∃ kn,r.key.length=kn:=⟨_,rfl⟩
      rw [hkn] at hkv h2 HLY HOK
      subst hkv
      obtain ⟨a1,n1,c1',rfl⟩:=HRR.out.a.sl
      obtain ⟨a3,n3,c3,rfl⟩:=HRR.out.p.sl
      obtain ⟨a5,n5,c5,rfl⟩:=HRR.out.r.sl
      obtain ⟨xb,hxb⟩:∃ xb,r.bg=xb:=⟨_,rfl⟩
      obtain ⟨xe,hxe⟩:∃ xe,r.en=xe:=⟨_,rfl⟩
      obtain ⟨xc,hxc⟩:∃ xc,r.cu=xc:=⟨_,rfl⟩
      rw [hxb] at q0
      rw [hxe] at q4
      rw [hxc] at q6
      have HRE:Hid (rs[i]'hi=r∧r.key.length=kn∧r.bg=xb∧r.en=xe∧r.cu=xc):=⟨hr,hkn,hxb,hxe,hxc⟩
      have hknI:(kn:Int)≤(ln:Int):=by have:=HDN.out.2.1;omega
      have hknB:(kn:Int)≤8:=by have:=HOk.out.k8;omega
      have hkn0:(0:Int)<(kn:Int):=by have:=HOk.out.k0;omega
      have hknC:(kn:Int)≤(lc:Int):=by omega
      have HQ:Hid (∀ V,Grown wr V→V.cell? ⟨g,o+i*7,none⟩=some (.bool xb)∧V.cell? ⟨g,o+i*7+1,none⟩=some (.slice a1 n1 c1')∧V.cell? ⟨g,o+i*7+2,none⟩=some (.slice ka kn kc)∧V.cell? ⟨g,o+i*7+3,none⟩=some (.slice a3 n3 c3)∧V.cell? ⟨g,o+i*7+4,none⟩=some (.bool xe)∧V.cell? ⟨g,o+i*7+5,none⟩=some (.slice a5 n5 c5)∧V.cell? ⟨g,o+i*7+6,none⟩=some (.int .i64 xc)):=fun V hg=>by
       have hb:=HR.out.g.bel
       have hz:w1.heap.size≤op:=Nat.le_of_eq HOP.out
       exact ⟨hg.cellv (cell_below q0 hb hz),hg.cellv (cell_below q1 hb hz),hg.cellv (cell_below q2 hb hz),hg.cellv (cell_below q3 hb hz),hg.cellv (cell_below q4 hb hz),hg.cellv (cell_below q5 hb hz),hg.cellv (cell_below q6 hb hz)⟩
      clear h1 hok h2 h3 hr hkn hxb hxe hxc q0 q1 q2 q3 q4 q5 q6 hRR hOk hPr hPd ha'
      go_wp2_with fail
      refine (HNx.out _ (Grown.refl _)).mono ?_
      rintro e w3 ⟨rfl,hG3⟩
      have HG3:Hid (Grown wr w3):=hG3
      have d0:=hG3.cellv c0
      have dp:=hG3.cellv cp
      clear hG3 HNx c0 c1 cp hcell0
      obtain ⟨w4,hw4⟩:∃ w4,w4=w3.alloc (.cells #[.int .i64 i,.int .i64 dn,.int .i64 ln,.int .i64 1,.int .i64 1,.int .i64 0] 47):=⟨_,rfl⟩
      have HG4:Hid (Grown wr w4):=by show Grown _ _;rw [hw4];exact HG3.out.alloc _
      go_upto_region 10 with fail
      rw [←hw4]
      have dp4:w4.cell? ⟨w.heap.size,0,none⟩=some (.slice (some ⟨g,o,none⟩) n rc):=by rw [hw4];exact cell_up dp _
      have HS4:Hid (w4.heap[w3.heap.size]? = some (.cells #[.int .i64 i,.int .i64 dn,.int .i64 ln,.int .i64 1,.int .i64 1,.int .i64 0] 47 (0,0))∧w3.heap.size<w4.heap.size):=⟨by rw [hw4];exact heap_alloc_new _ _,by rw [hw4];simp⟩
      clear hw4 dp d0
      obtain ⟨z0,z1,z2,z3,z4,z5,z6⟩:=HQ.out w4 HG4.out
      go_upto_region 11 with fail
      obtain ⟨w5,hw5⟩:∃ w5,w5=w4.alloc (.cells #[.bool xb,.slice a1 n1 c1',.slice ka kn kc,.slice a3 n3 c3,.bool xe,.slice a5 n5 c5,.int .i64 xc] 53):=⟨_,rfl⟩
      have HS5:Hid (w5.heap[w3.heap.size]? = some (.cells #[.int .i64 i,.int .i64 dn,.int .i64 ln,.int .i64 1,.int .i64 1,.int .i64 0] 47 (0,0))∧w5.heap[w4.heap.size]? = some (.cells #[.bool xb,.slice a1 n1 c1',.slice ka kn kc,.slice a3 n3 c3,.bool xe,.slice a5 n5 c5,.int .i64 xc] 53 (0,0))∧Grown wr w5):=by
       refine ⟨?_,by rw [hw5];exact heap_alloc_new _ _,by rw [hw5];exact HG4.out.alloc _⟩
       rw [hw5]
       exact blk_below HS4.out.1 ((Grown.refl w4).alloc _).below HS4.out.2
      rw [←hw5]
      clear hw5 z0 z1 z2 z3 z4 z5 z6 dp4
      obtain ⟨sb,hsb⟩:∃ sb,w3.heap.size=sb:=⟨_,rfl⟩
      obtain ⟨rb,hrb⟩:∃ rb,w4.heap.size=rb:=⟨_,rfl⟩
      rw [hsb,hrb]
      rw [hsb,hrb] at HS5
      have HSR:Hid (sb<rb∧wr.heap.size≤sb):=⟨by have:=HS4.out.2;omega,by have:=HG3.out.size;omega⟩
      have f3:w5.cell? ⟨sb,3,none⟩=some (.int .i64 1):=by rw [cell_of HS5.out.1];simp
      have ff:w5.frozen? ⟨sb,3,none⟩=false:=free_of HS5.out.1
      have k2:w5.cell? ⟨rb,2,none⟩=some (.slice ka kn kc):=by rw [cell_of HS5.out.2.1];simp
      clear hsb hrb HS4 HG3 HG4
      go_upto_region 12 with fail
      obtain ⟨w6,hw6⟩:∃ w6,w6=w5.setCell ⟨sb,3,none⟩ (.int .i64 kn):=⟨_,rfl⟩
      have HGS6:Hid (GS w1 op w6 (.slice ua dn uc) (.slice sa xs.length sc) (.slice (some ⟨lg,lo,none⟩) ln lc) d xs l∧w6.heap[sb]? = some (.cells #[.int .i64 i,.int .i64 dn,.int .i64 ln,.int .i64 kn,.int .i64 1,.int .i64 0] 47 (0,0))∧w6.heap[rb]? = some (.cells #[.bool xb,.slice a1 n1 c1',.slice ka kn kc,.slice a3 n3 c3,.bool xe,.slice a5 n5 c5,.int .i64 xc] 53 (0,0))∧Below wr.heap.size wr w6∧sb<w6.heap.size):=by
       have hg5:=HR.out.g.grown HS5.out.2.2
       have hs:=HSR.out
       have hap:=HR.out.g.apart
       have hopb:=blk_lt HR.out.g.blk
       rw [hw6]
       have ht:∀ b,b≠sb→(w5.setCell ⟨sb,3,none⟩ (.int .i64 kn)).heap[b]? = w5.heap[b]? := fun b hb=>turns_set _ _ _ _ b hb
       refine ⟨⟨(ht op (by omega)).trans hg5.blk,?_,?_,ir_turn hg5.lef fun hl g hg=>ht g (by have:=(HR.out.g.lap hl g hg).2.2.2;omega),fun hl g hg => ?_,hg5.bel.setCell (by show op≤sb;omega) _⟩,by rw [set_heap HS5.out.1];rfl,(ht rb (by omega)).trans HS5.out.2.1,HS5.out.2.2.below.setCell (by show _≤sb;omega) _,by have:=blk_lt HS5.out.1;simpa using this⟩
       · refine ⟨hg5.own.1,?_⟩
         rcases hg5.own.2 with h1 | ⟨g,cap,cur,h1,h2,h3,h4⟩
         · exact .inl h1
         · exact .inr ⟨g,cap,cur,h1,h2,(ht g (by have:=hap.2.2.2.1 g (by rw [h1];rfl);omega)).trans h3,h4⟩
       · refine ⟨hg5.ows.1,?_⟩
         rcases hg5.ows.2 with h1 | ⟨g,cap,cur,h1,h2,h3,h4⟩
         · exact .inl h1
         · exact .inr ⟨g,cap,cur,h1,h2,(ht g (by have:=hap.2.2.2.2 g (by rw [h1];rfl);omega)).trans h3,h4⟩
       · obtain ⟨p1,p2,p3,p4⟩:=hg5.lap hl g hg
         exact ⟨p1,p2,p3,by simpa using p4⟩
      rw [←hw6]
      clear hw6 f3 ff k2 HS5
      have HLd:Hid (∀ V,Grown w6 V→Calls Tryz.prog 56 #[.agg #[.bool xb,.slice a1 n1 c1',.slice ka kn kc,.slice a3 n3 c3,.bool xe,.slice a5 n5 c5,.int .i64 xc],.slice (some ⟨lg,lo,none⟩) kn lc] V fun e w'=>∃ v1 v2,e = .returned (.tuple #[v1,v2])∧FarI w' w6.heap.size v1 ((outs r (l.take kn)).take r.cu.toNat)∧FarI w' w6.heap.size v2 ((outs r (l.take kn)).drop r.cu.toNat)∧Below w6.heap.size w6 w'∧SomeS v1∧SomeS v2):=fun V hg=>by
       have h6:=HGS6.out.1
       have:=rlaid2_walk r (.slice a1 n1 c1') (.slice ka kn kc) (.slice a3 n3 c3) (.slice a5 n5 c5) (.slice (some ⟨lg,lo,none⟩) kn lc) (l.take kn) V ((HRR.out.below h6.bel (Nat.le_of_eq HOP.out)).grown hg) ((ir_take h6.lef (by omega)).grown hg) HLY.out
       rw [HRE.out.2.2.1,HRE.out.2.2.2.1,HRE.out.2.2.2.2] at this
       rw [HRE.out.2.2.2.2]
       refine this.mono ?_
       rintro e w' ⟨v1,v2,h1,h2,h3,h4,h5⟩
       exact ⟨v1,v2,h1,h2.le hg.size,h3.le hg.size,hg.below.trans (h4.mono hg.size),h5⟩
      have s3:w6.cell? ⟨sb,3,none⟩=some (.int .i64 kn):=by rw [cell_of HGS6.out.2.1];simp
      have t0:w6.cell? ⟨rb,0,none⟩=some (.bool xb):=by rw [cell_of HGS6.out.2.2.1];simp
      have t1:w6.cell? ⟨rb,1,none⟩=some (.slice a1 n1 c1'):=by rw [cell_of HGS6.out.2.2.1];simp
      have t2:w6.cell? ⟨rb,2,none⟩=some (.slice ka kn kc):=by rw [cell_of HGS6.out.2.2.1];simp
      have t3:w6.cell? ⟨rb,3,none⟩=some (.slice a3 n3 c3):=by rw [cell_of HGS6.out.2.2.1];simp
      have t4:w6.cell? ⟨rb,4,none⟩=some (.bool xe):=by rw [cell_of HGS6.out.2.2.1];simp
      have t5:w6.cell? ⟨rb,5,none⟩=some (.slice a5 n5 c5):=by rw [cell_of HGS6.out.2.2.1];simp
      have t6:w6.cell? ⟨rb,6,none⟩=some (.int .i64 xc):=by rw [cell_of HGS6.out.2.2.1];simp
      obtain ⟨La,hLa⟩:∃ La,(outs r (l.take kn)).take r.cu.toNat=La:=⟨_,rfl⟩
      obtain ⟨Ba,hBa⟩:∃ Ba,(outs r (l.take kn)).drop r.cu.toNat=Ba:=⟨_,rfl⟩
      rw [hLa,hBa] at HLd
      have HLB:Hid ((outs r (l.take kn)).take r.cu.toNat=La∧(outs r (l.take kn)).drop r.cu.toNat=Ba):=⟨hLa,hBa⟩
      clear hLa hBa
      go_cut [10,11] (fun s10 s11 wx=>Hid (SomeS s10∧SomeS s11∧FarI wx w6.heap.size s10 La∧FarI wx w6.heap.size s11 Ba∧Below w6.heap.size w6 wx))
      case first=>
       go_region_with (go_at_call 56;go_must (refine (HLd.out _ (by (repeat (first | exact Grown.refl _ | refine Grown.alloc ?_ _ | refine Grown.drew ?_ | refine Grown.drewN ?_ _ | refine Grown.quiet ?_ _ _)))).mono ?_;rintro e w7 ⟨v1,v2,rfl,h1,h2,h3,h4,h5⟩;have HV:Hid (FarI w7 w6.heap.size v1 La∧FarI w7 w6.heap.size v2 Ba∧Below w6.heap.size w6 w7):=⟨h1,h2,h3⟩;obtain ⟨m1,m2,m3,m4,hv1⟩:=h4;obtain ⟨m5,m6,m7,m8,hv2⟩:=h5;subst hv1;subst hv2;clear h1 h2 h3))
       all_goals (go_wp2;go_meet;exact ⟨⟨_,_,_,_,rfl⟩,⟨_,_,_,_,rfl⟩,HV.out.1,HV.out.2.1,HV.out.2.2⟩)
      case rest=>
       clear s3 t0 t1 t2 t3 t4 t5 t6 HLd
       obtain ⟨⟨g1,o1,n1a,c1a,hs10⟩,⟨g2,o2,n2a,c2a,hs11⟩,hF1,hF2,hB7⟩:=hcut.out
       subst hs10
       subst hs11
       have hn1:La.length=n1a:=(ir_len hF1.ir).1
       have hn2:Ba.length=n2a:=(ir_len hF2.ir).1
       have HNN:Hid (La.length=n1a∧Ba.length=n2a):=⟨hn1,hn2⟩
       have HLen:Hid (n1a≤16∧n2a≤16∧(n1a:Int)=xc∧n2a=(backP r).length):=by
        have ho:(outs r (l.take kn)).length=r.res.length:=by simp [outs]
        have e1:=HLB.out.1
        have e2:=HLB.out.2
        have q1:=HOk.out.r16
        have q2:=HOk.out.c0
        have q3:=HOk.out.c1
        have q4:=HRE.out.2.2.2.2
        have e3:La.length=r.cu.toNat:=by rw [←e1,List.length_take,ho];omega
        have e4:Ba.length=r.res.length - r.cu.toNat:=by rw [←e2,List.length_drop,ho]
        have e5:(backP r).length=r.res.length - r.cu.toNat:=by simp [backP]
        exact ⟨by omega,by omega,by omega,by omega⟩
       have hn1I:(n1a:Int)≤16:=by have:=HLen.out.1;omega
       have hn2I:(n2a:Int)≤16:=by have:=HLen.out.2.1;omega
       have hG7:=HGS6.out.1.low hB7
       have hs7:=blk_below HGS6.out.2.1 hB7 HGS6.out.2.2.2.2
       have s4:wc.cell? ⟨sb,4,none⟩=some (.int .i64 1):=by rw [cell_of hs7];simp
       have s4f:wc.frozen? ⟨sb,4,none⟩=false:=free_of hs7
       have s5:∀ u,(wc.setCell ⟨sb,4,none⟩ u).cell? ⟨sb,5,none⟩=some (.int .i64 0):=fun u=>by rw [cell_of (set_heap hs7)];simp
       have s5f:∀ u,(wc.setCell ⟨sb,4,none⟩ u).frozen? ⟨sb,5,none⟩=false:=fun u=>free_of (set_heap hs7)
       have HSBf:Hid (op<sb∧(Value.slice ua dn uc).ownBlock≠some sb∧(Value.slice sa xs.length sc).ownBlock≠some sb∧lg<sb∧sb<w6.heap.size∧wr.heap.size≤sb):=by
        have hap:=HR.out.g.apart
        have hs:=HSR.out
        have hopb:=blk_lt HR.out.g.blk
        exact ⟨by omega,fun e=>by have:=hap.2.2.2.1 sb e;omega,fun e=>by have:=hap.2.2.2.2 sb e;omega,by have:=(HR.out.g.lap hl lg rfl).2.2.2;omega,HGS6.out.2.2.2.2,hs.2⟩
       have H8:Hid (∀ w8,w8=(wc.setCell ⟨sb,4,none⟩ (.int .i64 n1a)).setCell ⟨sb,5,none⟩ (.int .i64 n2a)→GS w1 op w8 (.slice ua dn uc) (.slice sa xs.length sc) (.slice (some ⟨lg,lo,none⟩) ln lc) d xs l∧w8.heap[sb]? = some (.cells (fs1 ⟨i,dn,ln,kn,n1a,n2a⟩).toArray 47 (0,0))∧FarI w8 w6.heap.size (.slice (some ⟨g1,o1,none⟩) n1a c1a) La∧FarI w8 w6.heap.size (.slice (some ⟨g2,o2,none⟩) n2a c2a) Ba):=fun w8 hw8=>by
        have hs:=HSBf.out
        have h4:l≠[]→(Value.slice (some ⟨lg,lo,none⟩) ln lc).ownBlock≠some sb:=fun _ e=>by have:lg=sb:=by simpa [Value.ownBlock] using e
                                                                                           omega
        have ht:∀ b,w6.heap.size≤b→w8.heap[b]? = wc.heap[b]? := fun b hb=>by rw [hw8];exact (turns_set _ _ _ _ b (by omega)).trans (turns_set _ _ _ _ b (by omega))
        refine ⟨?_,by rw [hw8,set_heap (set_heap hs7)];rfl,hF1.turn ht,hF2.turn ht⟩
        rw [hw8]
        exact (hG7.aside 4 _ hs.1 hs.2.1 hs.2.2.1 h4).aside 5 _ hs.1 hs.2.1 hs.2.2.1 h4
       clear hcut hF1 hF2 hB7 hn1 hn2 hG7 hs7 HGS6
       go_upto_region 15 with fail
       obtain ⟨w8,hw8⟩:∃ w8,w8=(wc.setCell ⟨sb,4,none⟩ (.int .i64 n1a)).setCell ⟨sb,5,none⟩ (.int .i64 n2a):=⟨_,rfl⟩
       have HW8:=Hid.mk' (H8.out w8 hw8)
       rw [←hw8]
       clear hw8 H8 s4 s4f s5 s5f
       have c8:w8.cell? ⟨op,0,none⟩=some (.slice ua dn uc):=by rw [cell_of HW8.out.1.blk];simp
       have hdl:d.length+La.length≤1000000000:=by have:=HDN.out.1;have:=HNN.out.1;have:=HLen.out.1;omega
       go_upto_region 16 with (at_builtin;go_must (refine push_units rfl _ _ rfl rfl HW8.out.1 La _ rfl HW8.out.2.2.1.ir hdl ?_;intro uv2 w9 hu;have HU:=Hid.mk' hu;have cu:=hu.c;have fu:=hu.f;obtain ⟨v1,v2,v3,hv⟩:=hu.sl;subst hv;clear hu))
       obtain ⟨wX,hwX⟩:∃ wX,wX=w9.setCell ⟨op,0,none⟩ (.slice v1 v2 v3):=⟨_,rfl⟩
       have HX:Hid (GS w1 op wX (.slice v1 v2 v3) (.slice sa xs.length sc) (.slice (some ⟨lg,lo,none⟩) ln lc) (d++La) xs l∧wX.heap[sb]? = some (.cells (fs1 ⟨i,dn,ln,kn,n1a,n2a⟩).toArray 47 (0,0))∧IR wX (.slice (some ⟨g2,o2,none⟩) n2a c2a) Ba):=by
        have hs:=HSBf.out
        have hu:=HU.out
        rw [hwX]
        refine ⟨hu.gs,?_,ir_turn HW8.out.2.2.2.ir fun hne g hg => ?_⟩
        · rw [hu.k sb (blk_lt HW8.out.2.1) (by omega) hs.2.1];exact HW8.out.2.1
        · have e1:g2=g:=by simpa [Value.ownBlock] using hg
          obtain ⟨a',c',e',_,hr⟩:=HW8.out.2.2.2
          obtain ⟨g',o',h1,h2,h3⟩:=hr.resolve_left hne
          injection e' with e'
          rw [h1] at e'
          injection e' with e'
          injection e' with e'
          have hcl:=World.block_lt_of_cell? _ _ (h3 0 (List.length_pos_iff.2 hne))
          have hcl':g'<w8.heap.size:=hcl
          exact hu.k g (by omega) (by omega) (fun e=>by have:=HR.out.g.apart.2.2.2.1 g e;omega)
       rw [←hwX]
       clear hwX HU cu fu HW8 c8
       have HCL:Hid (∀ V,Below wX.heap.size wX V→V.cell? ⟨sb,0,none⟩=some (.int .i64 i)∧V.cell? ⟨sb,1,none⟩=some (.int .i64 dn)∧V.cell? ⟨sb,2,none⟩=some (.int .i64 ln)∧V.cell? ⟨sb,3,none⟩=some (.int .i64 kn)∧V.cell? ⟨sb,4,none⟩=some (.int .i64 n1a)∧V.cell? ⟨sb,5,none⟩=some (.int .i64 n2a)∧V.cell? ⟨op,1,none⟩=some (.slice sa xs.length sc)):=fun V hb=>by
        have hbl:=blk_below HX.out.2.1 hb (blk_lt HX.out.2.1)
        have hop:=blk_below HX.out.1.blk hb (blk_lt HX.out.1.blk)
        refine ⟨?_,?_,?_,?_,?_,?_,?_⟩
        · rw [cell_of hbl];simp [fs1]
        · rw [cell_of hbl];simp [fs1]
        · rw [cell_of hbl];simp [fs1]
        · rw [cell_of hbl];simp [fs1]
        · rw [cell_of hbl];simp [fs1]
        · rw [cell_of hbl];simp [fs1]
        · rw [cell_of hop];simp
       have HGEN:Hid (∀ V lv',Below wX.heap.size wX V→IR V lv' (Ba++l.drop kn)→(∀ g,lv'.ownBlock=some g→(g=lg∨wX.heap.size≤g)∧g<V.heap.size)→∀ ob,GS w1 op (V.alloc ob) (.slice v1 v2 v3) (.slice sa xs.length sc) lv' (d++La) xs (Ba++l.drop kn)):=fun V lv' hb hi hbk ob=>by
        refine ((HX.out.1.low hb).left hi fun _ g hg => ?_).grown ((Grown.refl _).alloc ob)
        obtain ⟨h1,h2⟩:=hbk g hg
        rcases h1 with h1 | h1
        · subst h1
          obtain ⟨p1,p2,p3,p4⟩:=HX.out.1.lap hl g rfl
          exact ⟨p1,p2,p3,h2⟩
        · have hap:=HX.out.1.apart
          have hop:=blk_lt HX.out.1.blk
          exact ⟨by omega,fun e=>by have:=hap.2.2.2.1 g e;omega,fun e=>by have:=hap.2.2.2.2 g e;omega,h2⟩
       have HFIN:Hid (∀ sv2 w5 lv' V,SP w1 op V (.slice v1 v2 v3) (.slice sa xs.length sc) lv' (d++La) (xs++[⟨i,dn,ln,kn,n1a,n2a⟩]) (Ba++l.drop kn) sv2 w5→∃ uv sv d xs l,GR w1 op rs st l0 (w5.setCell ⟨op,1,none⟩ sv2) uv sv lv' d xs l (gk - 1)):=fun sv2 w5 lv' V hsp=>by
        have hln':=HLen.out
        have hre:=HRE.out
        have hok2:OkStp rs l ⟨i,dn,ln,kn,n1a,n2a⟩:=by
         rcases HOK.out with ⟨h1,_⟩ | ⟨i',hi',h1,h2,h3,h4,h5⟩
         · have h1':(i:Int) = -1:=h1
           omega
         · have e1:i'=i:=by have h1':(i:Int)=(i':Int):=h1;omega
           subst e1
           exact .inr ⟨i',hi',rfl,by show (kn:Int)=_;rw [hre.1,hre.2.1],h3,h4,by show (n1a:Int)=_;rw [hre.1];omega⟩
        have hsl:stepL rs l ⟨i,dn,ln,kn,n1a,n2a⟩=Ba++l.drop kn:=by
         rw [stepL_rule hi rfl (by show (kn:Int)=_;rw [hre.1,hre.2.1]),hre.1,hre.2.1,←HLB.out.2]
         simp [outs,backP,List.map_drop]
        have hlt:=hok2.light HF.out
        rw [hsl] at hlt
        have hm:=HR.out.m
        have hd:=HR.out.dn
        have h16:=HR.out.d16
        have hnn:=HNN.out
        have h3:=HR.out.at3.snoc hl
        obtain ⟨e1,e2,e3⟩:=stp_rule hi HH1.out
        rw [e1,e2,e3,hre.1,hre.2.1,HLB.out.1,HLB.out.2,HDN.out.1,HDN.out.2.1,hre.2.2.2.2,←hln'.2.2.1,←hln'.2.2.2] at h3
        refine ⟨_,_,_,_,_,hsp.gs,HR.out.ok.snoc (by rw [HR.out.lf];exact hok2),by rw [lft_snoc,HR.out.lf];exact hsl,by rw [sumA_snoc,List.length_append];simp;omega,by simp;omega,by omega,h3⟩
       have hxl:xs.length+1≤1000000000:=by have:=HDN.out.2.2;omega
       have HMS:Hid (gk - 1<gk):=by
        have hm:=HR.out.m
        have:=(wS_len HF.out l).1
        show _<_
        omega
       have HLV:Hid ((kn≠lc→IR wX (.slice (some ⟨lg,lo+kn,none⟩) (ln - kn) (lc - kn)) (l.drop kn))∧(kn=lc→IR wX (.slice (some ⟨lg,lo,none⟩) 0 0) (l.drop kn))):=⟨fun _=>ir_drop HX.out.1.lef (by omega),fun h=>ir_zero (List.drop_eq_nil_of_le (by have:=HDN.out.2.1;omega))⟩
       have HLG:Hid (lg<wX.heap.size):=(HX.out.1.lap hl lg rfl).2.2.2
       have HIB:Hid (∀ V,Below wX.heap.size wX V→IR V (.slice (some ⟨g2,o2,none⟩) n2a c2a) Ba):=fun V hb=>HX.out.2.2.below hb (Nat.le_refl _)
       have HOP2:Hid (op<wX.heap.size):=blk_lt HX.out.1.blk
       have HNB:Hid (Ba.length=n2a∧(l.drop kn).length≤32000000):=⟨HNN.out.2,by show _≤_;rw [List.length_drop];have:=HDN.out.2.1;omega⟩
       obtain ⟨x0,x1,x2,x3,x4,x5,x6⟩:=HCL.out wX (Below.refl _ _)
       obtain ⟨l',hl'⟩:∃ l',l.drop kn=l':=⟨_,rfl⟩
       rw [hl'] at HGEN HFIN HLV HNB
       clear HX HR HOK HLY HRR HOk HLen HNN HSBf hl'
       by_cases hkl:kn=lc
       · have HI1:=Hid.mk' (HLV.out.2 hkl)
         have hlnk:ln=kn:=by omega
         subst hkl
         obtain rfl:=hlnk.symm
         by_cases hb0:n2a=0
         · have hBa:Ba=[]:=List.eq_nil_of_length_eq_zero (by have:=HNB.out.1;omega)
           have HGL:=Hid.mk' (HGEN.out wX (.slice (some ⟨lg,lo,none⟩) 0 0) (Below.refl _ _) (by rw [hBa];exact HI1.out) (fun g hg=>own_lg hg HLG.out))
           subst hb0
           go_wp2_with (at_builtin;go_must (refine push_step rfl _ _ rfl rfl (HGL.out _) _ _ ⟨i,dn,kn,kn,n1a,((0:Nat):Int)⟩ rfl (heap_alloc_new _ _) hxl ?_;intro sv2 w5 hs2;have HS2:=Hid.mk' (HFIN.out _ _ _ _ hs2);have cs2:=hs2.c;have fs2:=hs2.f;obtain ⟨t1,t2,t3,ht⟩:=hs2.sl;subst ht;clear hs2))
           try go_wp2
           go_roundg (gk - 1)
           case measure=>exact HMS.out
           case rel=>exact HS2
         · have hb1:(0:Int)<(n2a:Int):=by omega
           have hb2:0<n2a:=by omega
           have hb3:decide (0<n2a)=true:=by simp;omega
           have HN1:Hid (∀ ob,ob=(.cells #[] 3:Obj)→OwnI (wX.alloc ob) wX.heap.size (.slice (some ⟨wX.heap.size,0,none⟩) 0 0) []∧Below wX.heap.size wX (wX.alloc ob)):=fun ob hob=>⟨NewI.own ⟨wX.heap.size,rfl,Nat.le_refl _,by rw [hob];exact Array.getElem?_push_size⟩ (Nat.zero_le _),((Grown.refl wX).alloc _).below⟩
           go_upto_region 19 with (at_builtin;go_must (refine push_more rfl _ _ rfl wX.heap.size _ [] rfl (HN1.out _ rfl).1 Ba _ rfl (HIB.out _ (HN1.out _ rfl).2) (by have:=HNB.out.1;simp;omega) (by simp) ?_;intro v4 w12 ho4 hb4;have HV4:Hid (OwnI w12 wX.heap.size v4 Ba∧Below wX.heap.size wX w12):=⟨ho4,(HN1.out _ rfl).2.trans hb4⟩;obtain ⟨k1,k2,k3,hk4⟩:=ho4.ir.sl;subst hk4;clear ho4 hb4))
           have hlen4:Ba.length+l'.length≤1000000000:=by have:=HNB.out;omega
           go_upto_region 20 with (at_builtin;go_must (refine push_more rfl _ _ rfl wX.heap.size _ Ba rfl HV4.out.1 l' _ rfl (HI1.out.below HV4.out.2 (Nat.le_refl _)) hlen4 (by have:=HV4.out.2.size;omega) ?_;intro v5 w13 ho5 hb5;have HV5:Hid (OwnI w13 wX.heap.size v5 (Ba++l')∧Below wX.heap.size wX w13):=⟨ho5,HV4.out.2.trans hb5⟩;obtain ⟨k5,k6,k7,hk8⟩:=ho5.ir.sl;subst hk8;clear ho5 hb5))
           have HGL:=Hid.mk' (HGEN.out w13 _ HV5.out.2 HV5.out.1.ir (fun g hg=>by
            rcases row_blk HV5.out.1 with h1 | ⟨g',cur,h1,h2,h3⟩
            · rw [h1] at hg;cases hg
            · rw [h1] at hg;injection hg with hg;subst hg;exact ⟨.inr h2,blk_lt h3⟩))
           clear x0 x1 x2 x3 x4 x5 x6
           obtain ⟨x0,x1,x2,x3,x4,x5,x6⟩:=HCL.out w13 HV5.out.2
           go_wp2_with (at_builtin;go_must (refine push_step rfl _ _ rfl rfl (HGL.out _) _ _ ⟨i,dn,kn,kn,n1a,n2a⟩ rfl (heap_alloc_new _ _) hxl ?_;intro sv2 w5 hs2;have HS2:=Hid.mk' (HFIN.out _ _ _ _ hs2);have cs2:=hs2.c;have fs2:=hs2.f;obtain ⟨t1,t2,t3,ht⟩:=hs2.sl;subst ht;clear hs2))
           try go_wp2
           go_roundg (gk - 1)
           case measure=>exact HMS.out
           case rel=>exact HS2
       · have HI1:=Hid.mk' (HLV.out.1 hkl)
         have hkl2:((kn:Int) == (lc:Int))=false:=by simp;omega
         by_cases hb0:n2a=0
         · have hBa:Ba=[]:=List.eq_nil_of_length_eq_zero (by have:=HNB.out.1;omega)
           have HGL:=Hid.mk' (HGEN.out wX (.slice (some ⟨lg,lo+kn,none⟩) (ln - kn) (lc - kn)) (Below.refl _ _) (by rw [hBa];exact HI1.out) (fun g hg=>own_lg hg HLG.out))
           subst hb0
           go_wp2_with (at_builtin;go_must (refine push_step rfl _ _ rfl rfl (HGL.out _) _ _ ⟨i,dn,ln,kn,n1a,((0:Nat):Int)⟩ rfl (heap_alloc_new _ _) hxl ?_;intro sv2 w5 hs2;have HS2:=Hid.mk' (HFIN.out _ _ _ _ hs2);have cs2:=hs2.c;have fs2:=hs2.f;obtain ⟨t1,t2,t3,ht⟩:=hs2.sl;subst ht;clear hs2))
           try go_wp2
           go_roundg (gk - 1)
           case measure=>exact HMS.out
           case rel=>exact HS2
         · have hb1:(0:Int)<(n2a:Int):=by omega
           have hb2:0<n2a:=by omega
           have hb3:decide (0<n2a)=true:=by simp;omega
           have HN1:Hid (∀ ob,ob=(.cells #[] 3:Obj)→OwnI (wX.alloc ob) wX.heap.size (.slice (some ⟨wX.heap.size,0,none⟩) 0 0) []∧Below wX.heap.size wX (wX.alloc ob)):=fun ob hob=>⟨NewI.own ⟨wX.heap.size,rfl,Nat.le_refl _,by rw [hob];exact Array.getElem?_push_size⟩ (Nat.zero_le _),((Grown.refl wX).alloc _).below⟩
           go_upto_region 19 with (at_builtin;go_must (refine push_more rfl _ _ rfl wX.heap.size _ [] rfl (HN1.out _ rfl).1 Ba _ rfl (HIB.out _ (HN1.out _ rfl).2) (by have:=HNB.out.1;simp;omega) (by simp) ?_;intro v4 w12 ho4 hb4;have HV4:Hid (OwnI w12 wX.heap.size v4 Ba∧Below wX.heap.size wX w12):=⟨ho4,(HN1.out _ rfl).2.trans hb4⟩;obtain ⟨k1,k2,k3,hk4⟩:=ho4.ir.sl;subst hk4;clear ho4 hb4))
           have hlen4:Ba.length+l'.length≤1000000000:=by have:=HNB.out;omega
           go_upto_region 20 with (at_builtin;go_must (refine push_more rfl _ _ rfl wX.heap.size _ Ba rfl HV4.out.1 l' _ rfl (HI1.out.below HV4.out.2 (Nat.le_refl _)) hlen4 (by have:=HV4.out.2.size;omega) ?_;intro v5 w13 ho5 hb5;have HV5:Hid (OwnI w13 wX.heap.size v5 (Ba++l')∧Below wX.heap.size wX w13):=⟨ho5,HV4.out.2.trans hb5⟩;obtain ⟨k5,k6,k7,hk8⟩:=ho5.ir.sl;subst hk8;clear ho5 hb5))
           have HGL:=Hid.mk' (HGEN.out w13 _ HV5.out.2 HV5.out.1.ir (fun g hg=>by
            rcases row_blk HV5.out.1 with h1 | ⟨g',cur,h1,h2,h3⟩
            · rw [h1] at hg;cases hg
            · rw [h1] at hg;injection hg with hg;subst hg;exact ⟨.inr h2,blk_lt h3⟩))
           clear x0 x1 x2 x3 x4 x5 x6
           obtain ⟨x0,x1,x2,x3,x4,x5,x6⟩:=HCL.out w13 HV5.out.2
           go_wp2_with (at_builtin;go_must (refine push_step rfl _ _ rfl rfl (HGL.out _) _ _ ⟨i,dn,ln,kn,n1a,n2a⟩ rfl (heap_alloc_new _ _) hxl ?_;intro sv2 w5 hs2;have HS2:=Hid.mk' (HFIN.out _ _ _ _ hs2);have cs2:=hs2.c;have fs2:=hs2.f;obtain ⟨t1,t2,t3,ht⟩:=hs2.sl;subst ht;clear hs2))
           try go_wp2
           go_roundg (gk - 1)
           case measure=>exact HMS.out
           case rel=>exact HS2
set_option maxHeartbeats 4000000 in
theorem rmay_any (v:Value) (rs:List Rl) (s:ByteArray) (w:World) (h:PsR w v rs):Calls Tryz.prog 29 #[.agg #[v],.string s] w fun e w'=>e = .returned (.int .i64 (mayE rs s))∧Below w.heap.size w w':=by
 have HC:Hid (∀ W,Grown w W→Calls Tryz.prog 17 #[.agg #[v]] W fun e w'=>e = .returned (.tuple #[.int .i64 (chkW rs).1,.int .i64 (chkW rs).2])∧Below w.heap.size w w'):=fun W g=>(rchkA v rs W (h.grown g)).mono fun e w' h=>⟨h.1,g.below.trans (h.2.mono g.size)⟩
 obtain ⟨v1,v2,v3,hv⟩:IsSl v:=by obtain ⟨a,b,e,_⟩:=h;exact ⟨_,_,_,e⟩
 subst hv
 unfold mayE
 generalize chkW rs=c at HC ⊢
 obtain ⟨c1,c2⟩:=c
 have HC2:Hid (∀ W,Grown w W→Calls Tryz.prog 17 #[.agg #[.slice v1 v2 v3]] W fun e w'=>e = .returned (.tuple #[.int .i64 c1,.int .i64 c2])∧Below w.heap.size w w'):=HC.out
 clear HC h
 by_cases h1:c2=0
 · subst h1
   by_cases h2:16384<s.size
   · have h3:(16384:Int)<(s.size:Int):=by omega
     go_enter Tryz.func29,Tryz.ntmps29
     go_wp2_with (go_at_call 17;refine (HC2.out _ (by (repeat (first | exact Grown.refl _ | refine Grown.alloc ?_ _ | refine Grown.drew ?_)))).mono ?_;rintro e w2 ⟨rfl,hb⟩)
     go_ret
     exact ⟨by simp,hb⟩
   · have h3:¬ (16384:Int)<(s.size:Int):=by omega
     go_enter Tryz.func29,Tryz.ntmps29
     go_wp2_with (go_at_call 17;refine (HC2.out _ (by (repeat (first | exact Grown.refl _ | refine Grown.alloc ?_ _ | refine Grown.drew ?_)))).mono ?_;rintro e w2 ⟨rfl,hb⟩)
     go_ret
     exact ⟨by simp,hb⟩
 · have h4:(c2 == 0)=false:=by simpa using h1
   go_enter Tryz.func29,Tryz.ntmps29
   go_wp2_with (go_at_call 17;refine (HC2.out _ (by (repeat (first | exact Grown.refl _ | refine Grown.alloc ?_ _ | refine Grown.drew ?_)))).mono ?_;rintro e w2 ⟨rfl,hb⟩)
   go_ret
   exact ⟨by simp,hb⟩
end Go.Proofs
