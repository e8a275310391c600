/-
  Several texts in one (Oc Od Sj Ra2).
-/
import Derived.Deep.Upon
import Derived.Test.YtaemgkemlifadaaGreatDoorMghs
import Derived.Lib.AppendZeros
namespace Go.Proofs
open Go.RowKit Go.Shelf
set_option maxRecDepth 100000
attribute [local go_sem] Oper.semAt_some
attribute [local go_sem ↓] Go.wp_at_zero Go.wp_at_succ
theorem inf59:(Tryz.prog.info? 60).map (fun i=>(i.zero,i.size,i.bytes))=some (some (.slice none 0 0),1,24):=by kernel_rfl
theorem inf35:(Tryz.prog.info? 33).map (fun i=>(i.zero,i.size,i.bytes))=some (some (.slice none 0 0),1,24):=by kernel_rfl
theorem inf52:(Tryz.prog.info? 51).map (fun i=>(i.zero,i.size,i.bytes))=some (some (.slice none 0 0),1,24):=by kernel_rfl
theorem inf66:(Tryz.prog.info? 65).map (fun i=>(i.zero,i.size,i.bytes))=some (some (.agg #[.int .i64 0,.int .i64 0,.int .i64 0,.slice none 0 0]),4,48):=by kernel_rfl
theorem inf54:(Tryz.prog.info? 53).map (fun i=>(i.zero,i.size,i.bytes))=some (some (.agg #[.bool false,.slice none 0 0,.slice none 0 0,.slice none 0 0,.bool false,.slice none 0 0,.int .i64 0]),7,120):=by kernel_rfl
theorem app_gen {ops:Array Oper} {rest:List Oper} {o:Oper} {a:Act} {Q:Exit→Act→World→Prop} {w:World} (hgd:o.guard=none) (s x:Operand) (t:TypeId)
 (ho:o.op = .call { callee := .builtin .append,args:=#[s,x],argTypes:=#[t,t] }) (e:TypeId) (z:Value) (size bytes:Nat) (ht:Tryz.prog.underlying t=some (.slice e))
 (hinf:(Tryz.prog.info? e).map (fun i=>(i.zero,i.size,i.bytes))=some (some z,size,bytes)) (hzs:z.cells.size=size) (hsz:0<size)
 (base:Nat) (v:Value) (n:Nat) (xs:List Value) (hs:a.eval s=v) (hown:w.ownsRow base e size v n xs) (gs c:Nat) (news:List Value) (hx:a.eval x = .slice (some ⟨gs,0,none⟩) 1 c)
 (hl:news.length=size) (te:TypeId) (hblk:w.heap[gs]? = some (.cells news.toArray te (0,0))) (h1:∀ u∈news,u.oneCell'=true) (hn:n≤4398046511104) (hby:(n+1)*bytes≤140737488355328) (hbase:base≤w.heap.size)
 (h:∀ g cap w',w'.ownsRow base e size (.slice (some ⟨g,0,none⟩) (n+1) cap) (n+1) (xs++news)→Fr w w' (fun k=>v.ownBlock=some k)→(v.ownBlock=some g∨g=w.heap.size)→wpList Tryz.prog ops Q rest (a.put o.dst (.slice (some ⟨g,0,none⟩) (n+1) cap)) w'):wpList Tryz.prog ops Q (o::rest) a w:=by
 obtain ⟨i0,hi,hz0,hz1,hz2⟩:=info_parts hinf
 refine wpList_append_lies w hgd s x t ho base e i0 z size bytes ht hi hz0 hz1 hz2 hzs hsz v n xs hs hown ⟨gs,0,none⟩ 1 c news hx (by omega) (fun j u hj=>World.news_of_block hblk j u hj) h1 (by omega) (by unfold maxLen;omega) hby hbase w.heap.size rfl (fun g cap w' h2 h3 h4 _=>h g cap w' h2 (fr_by h3) h4)
theorem run_appR (w:World) (ty:TypeId) (base g cap:Nat) (l b:List (Int × Int)) (xv:Value) (hown:OwnR w base (.slice (some ⟨g,0,none⟩) l.length cap) l) (hr:Rs w xv b) (hl:l.length+b.length≤4294967296) (hbase:base≤w.heap.size) :
 ∃ g' cap' w',(Builtin.append_ #[60,60] ty #[.slice (some ⟨g,0,none⟩) l.length cap,xv]).run Tryz.prog w = .ok (.slice (some ⟨g',0,none⟩) (l++b).length cap') w'∧OwnR w' base (.slice (some ⟨g',0,none⟩) (l++b).length cap') (l++b)∧Fr w w' (fun k=>g=k)∧(g=g'∨g'=w.heap.size):=by
 obtain ⟨i0,hi0,hz0,hz1,hz2⟩:=info_parts info38
 obtain ⟨A,c,rfl,hc,hr⟩:=hr
 have hcap:l.length≤cap:=by
  rcases hown.2 with ⟨e,_⟩ | ⟨g',cap',cur,e,_,_,h3,_⟩
  · cases e
  · injection e with _ _ e3;omega
 by_cases he:b=[]
 · subst he
   have hr:=run_append_nothing (P:=Tryz.prog) w 60 60 ty 84 i0 Tryz.underlying60 hi0 (some ⟨g,0,none⟩) l.length cap hcap (.slice A 0 c) ⟨.inl ⟨84,Tryz.underlying60⟩,fun w'=>by cases A <;> simp [Builtin.lenOf,go_sem],by cases A <;> simp [Builtin.firstCells,go_sem],by cases A <;> simp [Builtin.firstCells,go_sem],by simp,by simp⟩
   exact ⟨g,cap,w,by simpa using hr,by simpa using hown,Fr.refl _ _,.inl rfl⟩
 · obtain ⟨g1,o',rfl,hd⟩:=hr.resolve_left he
   obtain ⟨v',w',h1,h2,h3,h4,h5⟩:=run_append_own_at (P:=Tryz.prog) w base 60 ty 84 i0 (.agg #[.int .i64 0,.int .i64 0]) 2 16 Tryz.underlying60 hi0 hz0 hz1 hz2 rfl (by decide) (.slice (some ⟨g,0,none⟩) l.length cap) l.length (fl l) hown ⟨g1,o',none⟩ b.length c (fl b) (fl_length b) (fun j u hj=>by
    have hjl:j<b.length*2:=by rw [←fl_length];exact (List.getElem?_eq_some_iff.1 hj).1
    have hadd:(⟨g1,o',none⟩:Addr).add j=⟨g1,o'+j,none⟩:=by unfold Addr.add;split <;> simp_all
    rw [hadd]
    obtain ⟨i,hi⟩:∃ i,j=i*2∨j=i*2+1:=⟨j / 2,by omega⟩
    have hil:i<b.length:=by omega
    have k1:=hd i hil
    have k2:=fl_at b hil
    rcases hi with rfl | rfl
    · rw [k2.1] at hj;injection hj with hj;subst hj;exact k1.1
    · rw [k2.2] at hj;injection hj with hj;subst hj;rw [←Nat.add_assoc];exact k1.2) (fl_one _) (by unfold maxLen;omega) (by omega) hbase
   have hO:OwnR w' base v' (l++b):=by
    unfold OwnR
    rw [List.length_append,fl_append];exact h2
   rcases hO.2 with ⟨e,_⟩ | ⟨g2,cap2,cur,e,_,_,hcp,_⟩
   · exact absurd (h4.1 e).1 (by intro e;cases e)
   · subst e
     refine ⟨g2,cap2,w',h1,hO,(fr_by h3).mono fun k _ e=>by injection e,?_⟩
     rcases h5 with h5 | h5
     · injection h5 with h5;exact .inl h5.symm
     · injection h5 with h5;exact .inr h5
theorem app_R2 {ops:Array Oper} {rest:List Oper} {o:Oper} {a:Act} {Q:Exit→Act→World→Prop} {w:World} (hgd:o.guard=none) (s x:Operand)
 (ho:o.op = .call { callee := .builtin .append,args:=#[s,x],argTypes:=#[60,60] })
 (base g cap:Nat) (l b k:List (Int × Int)) (hk:l++b=k) (xv:Value) (hs:a.eval s = .slice (some ⟨g,0,none⟩) l.length cap) (hown:OwnR w base (.slice (some ⟨g,0,none⟩) l.length cap) l) (hx:a.eval x=xv) (hr:Rs w xv b) (hl:l.length+b.length≤4294967296) (hbase:base≤w.heap.size)
 (h:∀ g' cap' w',OwnR w' base (.slice (some ⟨g',0,none⟩) k.length cap') k→Fr w w' (fun j=>g=j)→(g=g'∨g'=w.heap.size)→wpList Tryz.prog ops Q rest (a.put o.dst (.slice (some ⟨g',0,none⟩) k.length cap')) w'):wpList Tryz.prog ops Q (o::rest) a w:=by
 subst hk
 refine wpList_plain hgd fun K hK => ?_
 obtain ⟨g',cap',w',hr2,h1,h2,h3⟩:=run_appR w o.type base g cap l b xv hown hr hl hbase
 unfold Oper.wp execOp
 simp only [ho,resolve,invoke,builtin,Sem.run_bind,Sem.run_pure,Result.andThen_ok,List.map_toArray,List.map_cons,List.map_nil,hs,hx,hr2]
 exact hK _ _ (h g' cap' w' h1 h2 h3)
theorem own_emptyR (w:World):OwnR (w.alloc (.cells #[] 84)) w.heap.size (.slice (some ⟨w.heap.size,0,none⟩) 0 0) []:=
 ⟨rfl,.inr ⟨w.heap.size,0,#[],rfl,Nat.le_refl _,heap_alloc_new w _,Nat.le_refl _,Nat.zero_le _,rfl,rfl⟩⟩
theorem mark_any (w:World):Calls Tryz.prog 33 #[] w fun e w'=>e = .returned (.agg #[.int .i64 (-77),.int .i64 (-78)])∧Grown w w':=by
 go_enter Tryz.func33,Tryz.ntmps33
 go_wp2
 refine bodyPost_ret (v := .agg #[.int .i64 (-77),.int .i64 (-78)]) ?_ rfl ⟨rfl,(Grown.refl _).alloc _⟩
 have hr:Tryz.f33.results=#[.cell 0 84]:=rfl
 simp only [results,hr]
 simp [go_sem]
theorem rs_mark {W:World} {g:Nat} (h:W.heap[g]? = some (.cells #[.int .i64 (-77),.int .i64 (-78)] 84 (0,0))):Rs W (.slice (some ⟨g,0,none⟩) 1 1) [(-77,-78)]:=by
 refine ⟨_,1,rfl,Nat.le_refl _,.inr ⟨g,0,rfl,fun j hj => ?_⟩⟩
 have:j=0:=by simp at hj;omega
 subst this
 exact ⟨by rw [cell_of h];rfl,by rw [cell_of h];rfl⟩
set_option maxHeartbeats 4000000 in
theorem set_lx {w:World} {base xb:Nat} {pv rv sv gv cv:Value} {G:List It} {S:List (Value × List It)} {C:List (Value × List (Pc × Value))} {R:List LRu} {re:List Value} {n:Nat} (h:LX w base xb pv rv sv gv cv G S C R re n) (xv:Value) (l:List (Int × Int)) (hr:Rs w xv l) (hl:l.length≤2147483647) (hG:G.length≤4398046511103) :
 Calls Tryz.prog 23 #[.pointer (some ⟨xb,0,none⟩),xv] w fun e w'=>∃ v' gv',e = .returned (cut v')∧LX w' base xb pv rv sv gv' cv (G++[(v',l)]) S C R re n∧Fr w w' (Bs xb rv sv gv cv G S C)∧∀ b,Bs xb rv sv gv' cv (G++[(v',l)]) S C b→Bs xb rv sv gv cv G S C b∨w.heap.size≤b:=by
 have HX:Hid (LX w base xb pv rv sv gv cv G S C R re n):=h
 have HR:Hid (∀ ob,Rs (w.alloc ob) xv l):=fun ob=>hr.grown ((Grown.refl _).alloc ob)
 have HO0:Hid (OwnR (w.alloc (.cells #[] 84)) w.heap.size (.slice (some ⟨w.heap.size,0,none⟩) ([]:List (Int × Int)).length 0) []):=own_emptyR w
 obtain ⟨xa,xc,hxv,hx1,hx2⟩:=hr
 clear hx1 hx2
 obtain ⟨m,hm⟩:∃ m,l.length=m:=⟨_,rfl⟩
 have HM:Hid (l.length=m):=hm
 rw [hm] at hxv hl
 have hmI:(m:Int)≤2147483647:=by omega
 have hm0:(0:Int)≤(m:Int):=by omega
 subst hxv
 have HS:Hid (xb<w.heap.size):=(h.lt (.inl rfl)).2
 have HBW:Hid (base≤w.heap.size):=by have:=(h.lt (.inl rfl));show _≤_;omega
 clear h hm
 go_enter Tryz.func23,Tryz.ntmps23
 go_wp2_with (first
  | (go_at_call 33
     refine (mark_any _).mono ?_
     rintro e w2 ⟨rfl,hg2⟩
     have HF2:Hid (Fr w w2 fun _=>False):=HF1.out.trans (fr_grown hg2 _) fun _ _ e=>e
     have HO2:Hid (∀ ob,OwnR (w2.alloc ob) w.heap.size (.slice (some ⟨g1,0,none⟩) l.length c1) l):=fun ob=>(own_fr HO1.out (fr_grown hg2 fun _=>False) fun _ _=>id).alloc ob
     have HZ2:Hid (∀ ob,w.heap.size≤(w2.alloc ob).heap.size):=fun ob=>by have:=HF2.out.size;simp;omega
     clear hg2)
  | (at_builtin;go_must (first
   | (refine app_R2 rfl _ _ rfl w.heap.size w.heap.size 0 [] l l rfl _ rfl HO0.out rfl (HR.out _) (by have:=HM.out;show 0+l.length≤_;omega) (((Grown.refl w).alloc _).size) ?_
      intro g1 c1 w1 hO1 hF1 hg1
      have HF1:Hid (Fr w w1 fun _=>False):=((fr_grown ((Grown.refl w).alloc (.cells #[] 84)) _).trans hF1 fun i hi e=>by have e:w.heap.size=i:=e;omega)
      have HO1:Hid (OwnR w1 w.heap.size (.slice (some ⟨g1,0,none⟩) l.length c1) l):=hO1
      have HG1:Hid (w.heap.size≤g1):=hg1.elim (fun e=>by show _≤_;omega) (fun e=>by show _≤_;rw [e];exact ((Grown.refl w).alloc _).size)
      rw [HM.out]
      clear hO1 hF1 hg1)
   | (refine app_R2 rfl _ _ rfl w.heap.size g1 c1 l [(-77,-78)] _ rfl _ (by rw [HM.out];rfl) (HO2.out _) rfl (rs_mark (heap_alloc_new _ _)) (by have:=HM.out;show l.length+1≤_;omega) (HZ2.out _) ?_
      intro g2 c2 w3 hO3 hF3 hg3
      have HO3:Hid (OwnR w3 w.heap.size (.slice (some ⟨g2,0,none⟩) (l++[(-77,-78)]).length c2) (l++[(-77,-78)])):=hO3
      have HF3:Hid (Fr w w3 fun _=>False):=(HF2.out.trans (fr_grown ((Grown.refl w2).alloc (.cells #[.int .i64 (-77),.int .i64 (-78)] 84)) fun _=>False) fun _ _ e=>e).trans hF3 fun i hi e=>by have e:g1=i:=e;have:=HG1.out;omega
      have HG2:Hid (w.heap.size≤g2):=hg3.elim (fun e=>by have:=HG1.out;show _≤_;omega) (fun e=>by show _≤_;rw [e];exact HZ2.out _)
      have HL:Hid ((l++[(-77,-78)]).length=m+1):=by show _=_;rw [List.length_append,HM.out];rfl
      have HX3:Hid (LX w3 base xb pv rv sv gv cv G S C R re n):=HX.out.fr HF3.out fun _ _=>id
      have e3:w3.cell? ⟨xb,3,none⟩=some gv:=by rw [cell_of HX3.out.x];rfl
      have hcc:m+1≤c2:=by obtain ⟨_,_,e,h2,_⟩:=hO3.rs;injection e with _ _ e;have:=HL.out;omega
      have hccI:(m:Int)≤(c2:Int):=by omega
      rw [HL.out]
      clear hO3 hF3 hg3)
   | (refine app_gen rfl _ _ 33 rfl 60 (.slice none 0 0) 1 24 Tryz.underlying33 inf59 rfl (by decide) base _ G.length (G.map Prod.fst) rfl (HX3.out.grown ((Grown.refl _).alloc _)).g w3.heap.size _ [.slice (some ⟨g2,0,none⟩) (m+1) c2] rfl rfl 60 (heap_alloc_new _ _) (by intro u hu;simp at hu;subst hu;rfl) (by omega) (by omega) (by have:=HBW.out;have:=HF3.out.size;simp;omega) ?_
      intro g4 c4 w4 hO4 hF4 hg4
      have HO4:Hid (w4.ownsRow base 60 1 (.slice (some ⟨g4,0,none⟩) (G.length+1) c4) (G.length+1) (G.map Prod.fst++[.slice (some ⟨g2,0,none⟩) (m+1) c2])):=hO4
      have HF4:Hid (Fr w3 w4 fun k=>gv.ownBlock=some k):=(fr_grown ((Grown.refl w3).alloc _) _).trans hF4 fun _ _ e=>e
      have HG4:Hid (gv.ownBlock=some g4∨w3.heap.size≤g4):=hg4.elim .inl fun e => .inr (by rw [e];exact ((Grown.refl w3).alloc _).size)
      have HX4:Hid (w4.heap[xb]? = some (.cells #[pv,rv,sv,gv,cv] 36 (0,0))):=(HF4.out.block xb (blk_lt HX3.out.x) (HX3.out.x_ne HX3.out.g (by decide))).trans HX3.out.x
      have e4:w4.cell? ⟨xb,3,none⟩=some gv:=by rw [cell_of HX4.out];rfl
      have f4:w4.frozen? ⟨xb,3,none⟩=false:=free_of HX4.out
      clear hO4 hF4 hg4))))
 go_ret
 have hv:OwnR w3 base (.slice (some ⟨g2,0,none⟩) (m+1) c2) (l++[(-77,-78)]):=by
  have:=HO3.out.le HBW.out
  rw [HL.out] at this
  exact this
 have hlt:∀ b,Bs xb rv sv gv cv G S C b→b<w.heap.size:=fun b hb=>(HX.out.lt hb).2
 obtain ⟨hp1,hp2,hp3⟩:=HX3.out.pushG hv (fun b e hb=>by injection e with e;have e:g2=b:=e;have:=hlt b hb;have:=HG2.out;omega) HF4.out HO4.out (HG4.out.elim (fun e => .inl e.symm) fun e => .inr ⟨g4,rfl,e⟩)
 refine ⟨_,_,rfl,hp1,(HF3.out.mono fun _ _ e=>e.elim).trans hp2 fun _ _ e=>e,fun b hb => ?_⟩
 rcases hp3 b hb with h | h | h
 · exact .inl h
 · exact .inr (by have:=HF3.out.size;omega)
 · injection h with h;have h:g2=b:=h;exact .inr (by have:=HG2.out;omega)
theorem new_blk {W:World} {b:Nat} {o:Obj} (h:W.heap.size=b):(W.alloc o).heap[b]? = some o:=by subst h;exact heap_alloc_new _ _
def RowI (w:World) (base xb:Nat) (pv rv sv gv cv:Value) (G:List It) (S:List (Value × List It)) (C:List (Value × List (Pc × Value))) (R:List LRu) (re:List Value) (n:Nat) (ls:List (List (Int × Int))) (wr:World) (ov:Value) (k:Nat):Prop:=
 ∃ gv' its ob cap,ov = .slice (some ⟨ob,0,none⟩) k cap∧its.length=k∧its.map Prod.snd=ls.take k∧LX wr base xb pv rv sv gv' cv (G++its) S C R re n∧wr.ownsRow base 60 1 ov k (its.map fun y=>cut y.1)∧Fr w wr (Bs xb rv sv gv cv G S C)∧(∀ b,Bs xb rv sv gv' cv (G++its) S C b→Bs xb rv sv gv cv G S C b∨w.heap.size≤b)∧w.heap.size≤ob∧¬ Bs xb rv sv gv' cv (G++its) S C ob
theorem own_empty59 (w:World) (base:Nat) (hb:base≤w.heap.size):(w.alloc (.cells #[] 60)).ownsRow base 60 1 (.slice (some ⟨w.heap.size,0,none⟩) 0 0) 0 []:=
 ⟨rfl,.inr ⟨w.heap.size,0,#[],rfl,hb,heap_alloc_new w _,Nat.le_refl _,Nat.zero_le _,rfl,rfl⟩⟩
set_option maxHeartbeats 8000000 in
theorem row_lx {w:World} {base xb:Nat} {pv rv sv gv cv:Value} {G:List It} {S:List (Value × List It)} {C:List (Value × List (Pc × Value))} {R:List LRu} {re:List Value} {n:Nat} (h:LX w base xb pv rv sv gv cv G S C R re n) (lv:Value) (ls:List (List (Int × Int))) (hs:∀ V,Below base w V→SR V lv ls) (hl:∀ l∈ls,l.length≤2147483647) (hn:ls.length≤2147483647) (hG:G.length+ls.length≤4398046511104) (hS:S.length≤4294967295) :
 Calls Tryz.prog 24 #[.pointer (some ⟨xb,0,none⟩),lv] w fun e w'=>∃ v' gv' sv' its,e = .returned (cut v')∧its.map Prod.snd=ls∧LX w' base xb pv rv sv' gv' cv (G++its) (S++[(v',its)]) C R re n∧Fr w w' (Bs xb rv sv gv cv G S C)∧∀ b,Bs xb rv sv' gv' cv (G++its) (S++[(v',its)]) C b→Bs xb rv sv gv cv G S C b∨w.heap.size≤b:=by
 have HX:Hid (LX w base xb pv rv sv gv cv G S C R re n):=h
 have HSR:Hid (∀ V,Below base w V→SR V lv ls):=hs
 have HBW:Hid (base≤w.heap.size):=by have:=(h.lt (.inl rfl));show _≤_;omega
 have HBB:Hid (∀ b,Bs xb rv sv gv cv G S C b→base≤b∧b<w.heap.size):=fun b hb=>h.lt hb
 obtain ⟨la,lc,hlv,hx1,hx2⟩:=hs w (Below.refl _ _)
 subst hlv
 clear hx1 hx2 hs
 obtain ⟨N,hN⟩:∃ N,ls.length=N:=⟨_,rfl⟩
 have HN:Hid (ls.length=N):=hN
 rw [hN] at HSR hn hG ⊢
 have hNI:(N:Int)≤2147483647:=by omega
 have hN0:(0:Int)≤(N:Int):=by omega
 have HL:Hid (∀ l∈ls,l.length≤2147483647):=hl
 have HI0:Hid (RowI w base xb pv rv sv gv cv G S C R re n ls (w.alloc (.cells #[] 60)) (.slice (some ⟨w.heap.size,0,none⟩) 0 0) 0):=by
  have hg:=(Grown.refl w).alloc (.cells #[] 60)
  refine ⟨gv,[],w.heap.size,0,rfl,rfl,by simp,by simpa using h.grown hg,own_empty59 w base HBW.out,fr_grown hg _,fun b hb => .inl (by simpa using hb),Nat.le_refl _,fun hb => ?_⟩
  have:=HBB.out w.heap.size (by simpa using hb)
  omega
 clear hN hl h
 go_enter Tryz.func24,Tryz.ntmps24
 go_wp2
 generalize w.alloc (.cells #[] 60)=wI at HI0 ⊢
 go_loopw [5,6] (fun v5 v6 wr=>∃ k:Nat,v6 = .int .i64 k∧k≤N∧Hid (RowI w base xb pv rv sv gv cv G S C R re n ls wr v5 k)) (fun _ v6 _=>N - (intOf v6).toNat)
 case atStart=>exact ⟨0,rfl,by omega,HI0⟩
 case round=>
  obtain ⟨k,rfl,hk,HI⟩:=hrel
  have hk0:(0:Int)≤(k:Int):=by omega
  obtain ⟨gv1,its,ob,cap,hov,hil,him,hLX,hown,hfr,hgr,hob,hnb⟩:=HI.out
  subst hov
  have HLX:Hid (LX wr base xb pv rv sv gv1 cv (G++its) S C R re n):=hLX
  have HOW:Hid (wr.ownsRow base 60 1 (.slice (some ⟨ob,0,none⟩) k cap) k (its.map fun y=>cut y.1)):=hown
  have HFR:Hid (Fr w wr (Bs xb rv sv gv cv G S C)):=hfr
  have HGR:Hid (∀ b,Bs xb rv sv gv1 cv (G++its) S C b→Bs xb rv sv gv cv G S C b∨w.heap.size≤b):=hgr
  have HOB:Hid (w.heap.size≤ob∧ob<wr.heap.size∧¬ Bs xb rv sv gv1 cv (G++its) S C ob):=⟨hob,(World.ownsRow.lt hown ob rfl).2,hnb⟩
  have HIL:Hid (its.length=k∧its.map Prod.snd=ls.take k):=⟨hil,him⟩
  have HB:Hid (Below base w wr):=hfr.below (fun k hk=>(HBB.out k hk).1) HBW.out
  clear hLX hown hfr hgr hob hnb hil him HI HI0
  by_cases hlt:k<N
  · have hltI:(k:Int)<(N:Int):=by omega
    have hkl:k<ls.length:=by rw [HN.out];exact hlt
    obtain ⟨la',lc',e',_,hR⟩:=HSR.out wr HB.out
    obtain ⟨lg,lo,hla,hR2⟩:=hR.resolve_left (fun e=>by rw [e] at hkl;simp at hkl)
    injection e' with e1 e2 e3
    clear e2 e3
    rw [hla] at e1
    subst e1
    obtain ⟨xv,cx,hrx⟩:=hR2 k hkl
    obtain ⟨x1,x2,x3,rfl⟩:=hrx.sl
    have HC:Hid (Calls Tryz.prog 23 #[.pointer (some ⟨xb,0,none⟩),.slice x1 x2 x3] wr fun e w'=>∃ v' gv',e = .returned (cut v')∧LX w' base xb pv rv sv gv' cv ((G++its)++[(v',ls[k])]) S C R re n∧Fr wr w' (Bs xb rv sv gv1 cv (G++its) S C)∧∀ b,Bs xb rv sv gv' cv ((G++its)++[(v',ls[k])]) S C b→Bs xb rv sv gv1 cv (G++its) S C b∨wr.heap.size≤b):=
     set_lx HLX.out _ ls[k] hrx (HL.out _ (List.getElem_mem hkl)) (by rw [List.length_append,HIL.out.1];omega)
    clear hR hR2 hrx hla
    go_wp2_with (first
     | (go_at_call 23
        refine HC.out.mono ?_
        rintro e w1 ⟨v1,gv2,rfl,hLX1,hFR1,hGR1⟩
        have HLX1:Hid (LX w1 base xb pv rv sv gv2 cv ((G++its)++[(v1,ls[k])]) S C R re n):=hLX1
        have HFR1:Hid (Fr wr w1 (Bs xb rv sv gv1 cv (G++its) S C)):=hFR1
        have HGR1:Hid (∀ b,Bs xb rv sv gv2 cv ((G++its)++[(v1,ls[k])]) S C b→Bs xb rv sv gv1 cv (G++its) S C b∨wr.heap.size≤b):=hGR1
        have HOW1:Hid (w1.ownsRow base 60 1 (.slice (some ⟨ob,0,none⟩) k cap) k (its.map fun y=>cut y.1)):=own_fr HOW.out hFR1 fun b e hb=>by injection e with e;have e:ob=b:=e;subst e;exact HOB.out.2.2 hb
        have hvf:∃ g c,v1 = .slice (some ⟨g,0,none⟩) (ls[k].length+1) c:=by
         have:=hLX1.gi (v1,ls[k]) (by simp)
         unfold OwnR at this
         rw [List.length_append] at this
         obtain ⟨g,c,e,_⟩:=fl_slice this
         exact ⟨g,c,e⟩
        obtain ⟨vg,vc,hv1⟩:=hvf
        have HV1:Hid (v1 = .slice (some ⟨vg,0,none⟩) (ls[k].length+1) vc):=hv1
        have hcv:cut v1 = .slice (some ⟨vg,0,none⟩) ls[k].length vc:=by rw [hv1];rfl
        obtain ⟨vn,hvn⟩:∃ vn,ls[k].length=vn:=⟨_,rfl⟩
        rw [hvn] at hcv
        rw [hcv]
        have HCV:Hid (cut v1 = .slice (some ⟨vg,0,none⟩) vn vc):=hcv
        clear hLX1 hFR1 hGR1 hv1 hcv hvn)
     | (at_builtin;go_must (first
        | (refine app_gen rfl _ _ 33 rfl 60 (.slice none 0 0) 1 24 Tryz.underlying33 inf59 rfl (by decide) base _ k (its.map fun y=>cut y.1) rfl (World.ownsRow.alloc HOW1.out _) w1.heap.size _ [cut v1] rfl rfl 60 (by rw [HCV.out];exact heap_alloc_new _ _) (by intro u hu;simp at hu;subst hu;rw [HCV.out];rfl) (by omega) (by omega) (by have:=HBW.out;have:=HFR.out.size;have:=HFR1.out.size;simp;omega) ?_
           intro g4 c4 w4 hO4 hF4 hg4
           have HO4:Hid (w4.ownsRow base 60 1 (.slice (some ⟨g4,0,none⟩) (k+1) c4) (k+1) ((its.map fun y=>cut y.1)++[cut v1])):=hO4
           have HF4:Hid (Fr w1 w4 fun j=>ob=j):=(fr_grown ((Grown.refl w1).alloc _) _).trans hF4 fun _ _ e=>by injection e
           have HG4:Hid (ob=g4∨w1.heap.size≤g4):=hg4.elim (fun e => .inl (by injection e)) fun e => .inr (by rw [e];exact ((Grown.refl w1).alloc _).size)
           clear hO4 hF4 hg4))))
    have hOB:=HOB.out
    have hnb1:¬ Bs xb rv sv gv2 cv ((G++its)++[(v1,ls[k])]) S C ob:=fun hb=>by
     rcases HGR1.out ob hb with h | h
     · exact hOB.2.2 h
     · omega
    have hLX4:=HLX1.out.fr HF4.out fun b hb e=>hnb1 (by rw [e];exact hb)
    refine ⟨⟨k+1,by go_num,by omega,gv2,its++[(v1,ls[k])],g4,c4,rfl,by simp [HIL.out.1],?_,by rw [←List.append_assoc];exact hLX4,?_,?_,?_,?_,?_⟩,by simp [intOf];omega⟩
    · rw [List.map_append,HIL.out.2,List.take_add_one,List.getElem?_eq_getElem hkl];rfl
    · rw [List.map_append];exact HO4.out
    · exact (HFR.out.trans HFR1.out fun i hi e=>(HGR.out i e).resolve_right (by omega)).trans HF4.out fun i hi e=>by have e:ob=i:=e;omega
    · rw [←List.append_assoc]
      intro b hb
      rcases HGR1.out b hb with h | h
      · exact HGR.out b h
      · exact .inr (by have:=HFR.out.size;omega)
    · rcases HG4.out with e | e
      · omega
      · have:=HFR.out.size;have:=HFR1.out.size;omega
    · rw [←List.append_assoc]
      intro hb
      rcases HG4.out with e | e
      · rw [←e] at hb;exact hnb1 hb
      · have:=(HLX1.out.lt hb).2;omega
  · have hge:¬ (k:Int)<(N:Int):=by omega
    have HKN:Hid (k=N):=by show _=_;omega
    have HIM:Hid (its.length=N∧its.map Prod.snd=ls):=⟨by rw [HIL.out.1];exact HKN.out,by rw [HIL.out.2,HKN.out,←HN.out,List.take_length]⟩
    go_wp2_with (first
     | (go_at_call 33
        refine (mark_any _).mono ?_
        rintro e w1 ⟨rfl,hg1⟩
        have HG1:Hid (Grown wr w1):=hg1
        clear hg1)
     | (at_builtin;go_must (first
        | (refine app_gen rfl _ _ 33 rfl 60 (.slice none 0 0) 1 24 Tryz.underlying33 inf59 rfl (by decide) base _ k (its.map fun y=>cut y.1) rfl (World.ownsRow.alloc (World.ownsRow.alloc (own_fr HOW.out (fr_grown HG1.out fun _=>False) fun _ _=>id) _) _) _ _ [.slice (some ⟨w1.heap.size,0,none⟩) 1 1] rfl rfl 60 (new_blk (by simp)) (by intro u hu;simp at hu;subst hu;rfl) (by omega) (by omega) (by have:=HBW.out;have:=HFR.out.size;have:=HG1.out.size;simp;omega) ?_
           intro g4 c4 w4 hO4 hF4 hg4
           have HO4:Hid (w4.ownsRow base 60 1 (.slice (some ⟨g4,0,none⟩) (k+1) c4) (k+1) ((its.map fun y=>cut y.1)++[.slice (some ⟨w1.heap.size,0,none⟩) 1 1])):=hO4
           have HGA:Hid (∀ o1 o2,Grown wr ((w1.alloc o1).alloc o2)):=fun o1 o2=>(HG1.out.alloc o1).alloc o2
           have HF4:Hid (Fr wr w4 fun j=>ob=j):=(fr_grown (HGA.out _ _) _).trans hF4 fun _ _ e=>by injection e
           have HG4:Hid (ob=g4∨wr.heap.size≤g4):=hg4.elim (fun e => .inl (by injection e)) fun e => .inr (by rw [e];exact (HGA.out _ _).size)
           have HX4:Hid (LX w4 base xb pv rv sv gv1 cv (G++its) S C R re n):=HLX.out.fr HF4.out fun b hb e=>HOB.out.2.2 (by rw [e];exact hb)
           have e4:w4.cell? ⟨xb,2,none⟩=some sv:=by rw [cell_of HX4.out.x];rfl
           have hcc:k+1≤c4:=by
            rcases hO4.2 with ⟨e,_⟩ | ⟨_,_,_,e,_,_,h2,_⟩
            · cases e
            · injection e with _ _ e;omega
           have hccI:(N:Int)≤(c4:Int):=by have:=HKN.out;omega
           have hccN:N≤c4:=by have:=HKN.out;omega
           clear hO4 hF4 hg4 hcc)
        | (refine app_gen rfl _ _ 32 rfl 33 (.slice none 0 0) 1 24 Tryz.underlying32 inf35 rfl (by decide) base _ S.length (S.map Prod.fst) rfl (HX4.out.grown ((Grown.refl _).alloc _)).s w4.heap.size _ [.slice (some ⟨g4,0,none⟩) (k+1) c4] rfl rfl 33 (heap_alloc_new _ _) (by intro u hu;simp at hu;subst hu;rfl) (by omega) (by omega) (by have:=HBW.out;have:=HFR.out.size;have:=HF4.out.size;simp;omega) ?_
           intro g5 c5 w5 hO5 hF5 hg5
           have HO5:Hid (w5.ownsRow base 33 1 (.slice (some ⟨g5,0,none⟩) (S.length+1) c5) (S.length+1) (S.map Prod.fst++[.slice (some ⟨g4,0,none⟩) (k+1) c4])):=hO5
           have HF5:Hid (Fr w4 w5 fun j=>sv.ownBlock=some j):=(fr_grown ((Grown.refl w4).alloc _) _).trans hF5 fun _ _ e=>e
           have HG5:Hid (sv.ownBlock=some g5∨w4.heap.size≤g5):=hg5.elim .inl fun e => .inr (by rw [e];exact ((Grown.refl w4).alloc _).size)
           have HX5:Hid (w5.heap[xb]? = some (.cells #[pv,rv,sv,gv1,cv] 36 (0,0))):=(HF5.out.block xb (blk_lt HX4.out.x) (HX4.out.x_ne HX4.out.s (by decide))).trans HX4.out.x
           have e5:w5.cell? ⟨xb,2,none⟩=some sv:=by rw [cell_of HX5.out];rfl
           have f5:w5.frozen? ⟨xb,2,none⟩=false:=free_of HX5.out
           clear hO5 hF5 hg5))))
    go_ret
    have hk1:k+1=its.length+1:=by rw [HIL.out.1]
    have hO4:=HO4.out
    rw [hk1] at hO4
    have hnb4:¬ Bs xb rv sv gv1 cv (G++its) S C g4:=fun hb=>by
     rcases HG4.out with e | e
     · rw [←e] at hb;exact HOB.out.2.2 hb
     · have:=(HLX.out.lt hb).2;omega
    obtain ⟨hp1,hp2,hp3⟩:=HX4.out.pushS (sv' := .slice (some ⟨g5,0,none⟩) (S.length+1) c5) hO4 ⟨_,_,rfl⟩ (fun y hy=>List.mem_append_right _ hy) (fun b e hb=>by injection e with e;have e:g4=b:=e;subst e;exact hnb4 hb) HF5.out (by rw [←hk1];exact HO5.out) (HG5.out.elim (fun e => .inl e.symm) fun e => .inr ⟨g5,rfl,e⟩)
    refine ⟨.slice (some ⟨g4,0,none⟩) (its.length+1) c4,gv1,.slice (some ⟨g5,0,none⟩) (S.length+1) c5,its,by rw [HIM.out.1];rfl,HIM.out.2,hp1,?_,fun b hb => ?_⟩
    · refine (HFR.out.trans HF4.out fun i hi e => ?_).trans hp2 fun i hi e=>(HGR.out i e).resolve_right (by omega)
      have e:ob=i:=e
      have:=HOB.out.1
      omega
    · rcases hp3 b hb with h | h | h
      · exact HGR.out b h
      · exact .inr (by have:=HFR.out.size;have:=HF4.out.size;omega)
      · injection h with h
        have h:g4=b:=h
        rcases HG4.out with e | e
        · exact .inr (by have:=HOB.out.1;omega)
        · exact .inr (by have:=HFR.out.size;omega)
def idL (k:Nat):List Int:=(List.range k).map fun i:Nat=>(i:Int)
theorem idL_succ (k:Nat):idL (k+1)=idL k++[(k:Int)]:=by simp [idL,List.range_succ]
theorem idL_len (k:Nat):(idL k).length=k:=by simp [idL]
theorem idL_at {k i:Nat} (h:i<k):bAt (idL k) i=(i:Int):=by simp [bAt,idL,h]
def LfQ (w:World) (rs:List Rl) (e:Ending) (w':World):Prop:=∃ lv d,e = .returned lv∧OwnI w' w.heap.size lv d∧d.length=rs.length∧Sg (klI rs) d 0 rs.length∧Below w.heap.size w w'
set_option maxHeartbeats 8000000 in
theorem longest_any (v:Value) (rs:List Rl) (w:World) (h:PsR w v rs) (hn:rs.length≤1000000) (hz:∀ r∈rs,r.key.length≤1000000):Calls Tryz.prog 46 #[v] w (LfQ w rs):=by
 have HP:Hid (∀ V,Below w.heap.size w V→PsR V v rs):=fun V hb=>h.below hb (Nat.le_refl _)
 have HZ:=Hid.mk' hz
 have HLT:Hid (∀ a n c g o,v = .slice a n c→a=some ⟨g,o,none⟩→0<rs.length→g<w.heap.size):=fun a n c g o e1 e2 h0=>by
  subst e1
  obtain ⟨g',o',ka,kc,e3,c1⟩:=psr_key h h0
  rw [e2] at e3
  injection e3 with e3
  injection e3 with e3 _
  subst e3
  exact cell_lt c1
 obtain ⟨ra,rc,hv,hx1,hx2⟩:=h
 subst hv
 clear hx1 hx2 hz
 obtain ⟨n,hN⟩:∃ n,rs.length=n:=⟨_,rfl⟩
 have HN:Hid (rs.length=n):=hN
 rw [hN] at HP hn HLT ⊢
 have nI:(n:Int)≤1000000:=by omega
 clear hN
 go_enter Tryz.func46,Tryz.ntmps46
 go_wp2
 obtain ⟨bx,hbx⟩:∃ bx,w.heap.size=bx:=⟨_,rfl⟩
 have HBX:=Hid.mk' hbx
 obtain ⟨w1,hw1⟩:∃ w1,w1=w.alloc (.cells #[.slice ra n rc] 22):=⟨_,rfl⟩
 have HW1:Hid (Grown w w1∧w1.cell? ⟨bx,0,none⟩=some (.slice ra n rc)∧w1.heap.size=bx+1):=by
  rw [hw1]
  exact ⟨(Grown.refl _).alloc _,by rw [cell_of (new_blk hbx)];rfl,by simp;omega⟩
 rw [←hw1,hbx]
 clear hw1 hbx
 go_loopw [3,7] (fun v3 v7 wr=>∃ k:Nat,v7 = .int .i64 k∧k≤n∧Hid (OwnI wr (bx+1) v3 (idL k)∧Below (bx+1) w1 wr∧(k=0→v3 = .slice none 0 0))) (fun _ v7 _=>n - (intOf v7).toNat)
 case atStart=>exact ⟨0,rfl,by omega,OwnI.nil _ _,Below.refl _ _,fun _=>rfl⟩
 case round=>
  obtain ⟨k,rfl,hk,HO⟩:=hrel
  have k0:(0:Int)≤(k:Int):=by omega
  obtain ⟨hO,hB,hNil⟩:=HO.out
  obtain ⟨x1,x2,x3,hsl⟩:=hO.ir.sl
  subst hsl
  by_cases hlt:k<n
  · have hltI:(k:Int)<(n:Int):=by omega
    have HY:Hid (∀ ob,OwnI (wr.alloc ob) (bx+1) (.slice x1 x2 x3) (idL k)∧bx+1≤(wr.alloc ob).heap.size∧Below (bx+1) w1 (wr.alloc ob)):=fun ob=>by
     have g:=(Grown.refl wr).alloc ob
     have:=HW1.out.2.2
     have:=hB.size
     exact ⟨hO.below g.below (Nat.le_refl _),by simp;omega,hB.trans (g.below.mono (by omega))⟩
    have hkN:(idL k).length+1≤8796093022208:=by rw [idL_len];omega
    clear hO hB HO hNil
    go_wp2_with (at_builtin;go_must (refine push_I rfl _ _ 38 rfl Tryz.underlying38 (bx+1) _ (idL k) rfl (HY.out _).1 _ _ k rfl (by (first | (simp;done) | exact new_cell _ _ _ _ rfl)) hkN (HY.out _).2.1 ?_;intro v3 w3 hO3 hB3;have HZ3:Hid (OwnI w3 (bx+1) v3 (idL (k+1))∧Below (bx+1) w1 w3∧(k+1=0→v3 = .slice none 0 0)):=⟨by rw [idL_succ];exact hO3,(HY.out _).2.2.trans hB3,fun h=>by omega⟩;clear hO3 hB3))
    exact ⟨⟨k+1,by go_num,by omega,HZ3⟩,by simp [intOf];omega⟩
  · have hge:¬ (k:Int)<(n:Int):=by omega
    have hkn:k=n:=by omega
    subst hkn
    have HBW:Hid (Below w.heap.size w wr):=HW1.out.1.below.trans (hB.mono (by rw [HBX.out];omega))
    by_cases hn0:k=0
    · subst hn0
      have e:=hNil rfl
      injection e with e1 e2 e3
      subst e1 e2 e3
      have HC:=Hid.mk' (sort_nil wr (.func (.func 71) #[] #[.pointer (some ⟨bx,0,none⟩)]) 0)
      have HOO:=Hid.mk' (hO.le (show w.heap.size≤bx+1 by rw [HBX.out];omega))
      clear HO hO hB hNil
      go_wp2_with (go_at_call 70;refine HC.out.mono ?_;rintro e w4 ⟨rfl,rfl⟩)
      go_ret
      exact ⟨_,_,rfl,HOO.out,by rw [HN.out];rfl,⟨fun i j _ _ h=>by rw [HN.out] at h;omega,fun i _ h=>by rw [HN.out] at h;omega⟩,HBW.out⟩
    · obtain ⟨g,cap,hv,hg1,hg2⟩:=World.ownsRow.form hO (by rw [idL_len];omega)
      rw [idL_len] at hv
      injection hv with e1 e2 e3
      subst e1 e2 e3
      have hgb:bx+1≤g:=(World.ownsRow.lt hO g rfl).1
      have hbx:=HBX.out
      have hsq:Sq wr wr g x3 x2 (idL x2):=⟨idL_len _,by have:=Joins.ownsRow_le hO (Nat.zero_le _);rw [idL_len] at this;exact this,Fr.refl _ _,fun i hi=>by rw [idL_at hi];omega⟩
      have hcm:CmpC wr g x2 (klI rs) bx:=cmp_any (HP.out wr HBW.out) HN.out (cell_below HW1.out.2.1 hB (by have:=HW1.out.2.2;omega)) (by omega) (fun g' o' e=>by have:=HLT.out _ _ _ g' o' rfl e (by omega);omega) HZ.out hn
      have HC:=Hid.mk' (sort_some hsq hcm (kl_in HZ.out) hn fun i hi=>idL_at hi)
      clear HO hO hB hNil hsq hcm hg1 hg2
      go_wp2_with (go_at_call 70;refine HC.out.mono ?_;rintro e w4 ⟨rfl,d4,hs4,hg4⟩;have H4:Hid (Sq wr w4 g x3 x2 d4∧Sg (klI rs) d4 0 x2):=⟨hs4,hg4⟩;clear hs4 hg4)
      go_ret
      have hl4:=H4.out.1.l
      refine ⟨_,d4,rfl,?_,by rw [HN.out];exact hl4,by rw [HN.out];exact H4.out.2,HBW.out.trans (H4.out.1.f.below (fun b e=>by have e:b=g:=e;omega) HBW.out.size)⟩
      have ho:=H4.out.1.o
      unfold OwnI
      rw [hl4]
      refine ⟨ho.1,?_⟩
      rcases ho.2 with h | ⟨g',c',cur,e,_,h2,h3⟩
      · exact .inl h
      · injection e with e1 e2 e3
        injection e1 with e1
        injection e1 with e1 _
        subst e1 e3
        exact .inr ⟨g,x3,cur,rfl,by omega,h2,h3⟩
theorem run_appI (w:World) (ty:TypeId) (base:Nat) (v:Value) (l b:List Int) (xv:Value) (hown:OwnI w base v l) (hr:IR w xv b) (hl:l.length+b.length≤8796093022208) (hbase:base≤w.heap.size) :
 ∃ v' w',(Builtin.append_ #[38,38] ty #[v,xv]).run Tryz.prog w = .ok v' w'∧OwnI w' base v' (l++b)∧w.grownBy w' v.ownBlock∧(v'.ownBlock=v.ownBlock∨v'.ownBlock=some w.heap.size):=by
 obtain ⟨i0,hi0,hz0,hz1,hz2⟩:=info_parts iinfo3
 obtain ⟨A,c,rfl,hc,hr⟩:=hr
 by_cases he:b=[]
 · subst he
   obtain ⟨va,vn,vc,hv⟩:=hown.ir.sl
   have hvn:vn=l.length∧vn≤vc:=by
    obtain ⟨a',c',e,h1,_⟩:=hown.ir
    rw [hv] at e
    injection e with _ e2 e3
    omega
   subst hv
   have hr:=run_append_nothing (P:=Tryz.prog) w 38 38 ty 3 i0 Tryz.underlying38 hi0 va vn vc hvn.2 (.slice A 0 c) ⟨.inl ⟨3,Tryz.underlying38⟩,fun w'=>by cases A <;> simp [Builtin.lenOf,go_sem],by cases A <;> simp [Builtin.firstCells,go_sem],by cases A <;> simp [Builtin.firstCells,go_sem],by simp,by simp⟩
   exact ⟨_,w,hr,by simpa using hown,⟨rfl,rfl,rfl,Nat.le_refl _,fun _ _ _=>rfl⟩,.inl rfl⟩
 · obtain ⟨g1,o',rfl,hd⟩:=hr.resolve_left he
   obtain ⟨v',w',h1,h2,h3,h4,h5⟩:=run_append_own_at (P:=Tryz.prog) w base 38 ty 3 i0 (.int .i64 0) 1 8 Tryz.underlying38 hi0 hz0 hz1 hz2 rfl (by decide) v l.length (ints l) hown ⟨g1,o',none⟩ b.length c (ints b) (by rw [ints_length,Nat.mul_one]) (fun j u hj=>by
    have hadd:(⟨g1,o',none⟩:Addr).add j=⟨g1,o'+j,none⟩:=by unfold Addr.add;split <;> simp_all
    rw [hadd]
    simp only [ints,List.getElem?_map,Option.map_eq_some_iff] at hj
    obtain ⟨y,hy,rfl⟩:=hj
    obtain ⟨hj1,hj2⟩:=List.getElem?_eq_some_iff.1 hy
    rw [hd j hj1,hj2]) (ints_one _) (by unfold maxLen;omega) (by omega) hbase
   exact ⟨v',w',h1,by unfold OwnI;rw [ints_append,List.length_append];exact h2,h3,h5⟩
theorem app_I2 {ops:Array Oper} {rest:List Oper} {o:Oper} {a:Act} {Q:Exit→Act→World→Prop} {w:World} (hgd:o.guard=none) (s x:Operand)
 (ho:o.op = .call { callee := .builtin .append,args:=#[s,x],argTypes:=#[38,38] })
 (base:Nat) (v xv:Value) (l b:List Int) (hs:a.eval s=v) (hown:OwnI w base v l) (hx:a.eval x=xv) (hr:IR w xv b) (hl:l.length+b.length≤8796093022208) (hbase:base≤w.heap.size)
 (h:∀ v' w',OwnI w' base v' (l++b)→w.grownBy w' v.ownBlock→wpList Tryz.prog ops Q rest (a.put o.dst v') w'):wpList Tryz.prog ops Q (o::rest) a w:=by
 refine wpList_plain hgd fun K hK => ?_
 obtain ⟨v',w',hr2,h1,h2,_⟩:=run_appI w o.type base v l b xv hown hr hl hbase
 unfold Oper.wp execOp
 simp only [ho,resolve,invoke,builtin,Sem.run_bind,Sem.run_pure,Result.andThen_ok,List.map_toArray,List.map_cons,List.map_nil,hs,hx,hr2]
 exact hK _ _ (h v' w' h1 h2)
theorem app_I3 {ops:Array Oper} {rest:List Oper} {o:Oper} {a:Act} {Q:Exit→Act→World→Prop} {w:World} (hgd:o.guard=none) (s x:Operand)
 (ho:o.op = .call { callee := .builtin .append,args:=#[s,x],argTypes:=#[38,38] })
 (base:Nat) (v xv:Value) (l b:List Int) (hs:a.eval s=v) (hown:OwnI w base v l) (hx:a.eval x=xv) (hr:IR w xv b) (hl:l.length+b.length≤8796093022208) (hbase:base≤w.heap.size)
 (h:∀ v' w',OwnI w' base v' (l++b)→w.grownBy w' v.ownBlock→(v'.ownBlock=v.ownBlock∨v'.ownBlock=some w.heap.size)→wpList Tryz.prog ops Q rest (a.put o.dst v') w'):wpList Tryz.prog ops Q (o::rest) a w:=by
 refine wpList_plain hgd fun K hK => ?_
 obtain ⟨v',w',hr2,h1,h2,h3⟩:=run_appI w o.type base v l b xv hown hr hl hbase
 unfold Oper.wp execOp
 simp only [ho,resolve,invoke,builtin,Sem.run_bind,Sem.run_pure,Result.andThen_ok,List.map_toArray,List.map_cons,List.map_nil,hs,hx,hr2]
 exact hK _ _ (h v' w' h1 h2 h3)
set_option maxHeartbeats 4000000 in
theorem grow_any (n:Nat) (hn0:0<n) (hn:n≤1000000000) (w:World):Calls Tryz.prog 121 #[.slice none 0 0,.int .i64 n] w fun e w'=>∃ cap,e = .returned (.slice (some ⟨w.heap.size,0,none⟩) 0 cap)∧OwnI w' w.heap.size (.slice (some ⟨w.heap.size,0,none⟩) 0 cap) []∧Grown w w':=by
 obtain ⟨i0,hi0,hz0,hz1,hz2⟩:=info_parts iinfo3
 have hr:=fun W ty=>Go.Lib.run_append_nil_zeros (P:=Tryz.prog) W 38 3 ty 3 i0 (.int .i64 0) .i64 .i64 Tryz.underlying38 Tryz.underlying3 hi0 hz0 n hn0 (by rw [hz1];decide) (by omega) (by rw [hz2];omega)
 have HR:=Hid.mk' hr
 have nI:(n:Int)≤1000000000:=by omega
 have n0:(0:Int)<(n:Int):=by omega
 clear hr
 go_enter Tryz.func121,Tryz.ntmps121
 go_wp2_with (at_builtin;go_must (refine Go.Lib.wpList_append_run _ rfl _ _ 38 3 rfl _ _ rfl rfl _ _ (HR.out _ _) ?_))
 go_ret
 refine ⟨grownCap w n 0 3,rfl,⟨rfl,.inr ⟨w.heap.size,grownCap w n 0 3,_,rfl,Nat.le_refl _,heap_alloc_new w _,Nat.zero_le _,grownCap_le_maxLen w n 0 3 (by unfold maxLen;omega),?_,by simp [ints]⟩⟩,((Grown.refl _).alloc _).drew⟩
 have:=grownCap_ge w n 0 3
 simp only [Array.size_append,size_zeroCells]
 show n*1+(grownCap w n 0 3 - n)*1=_
 omega
set_option maxHeartbeats 8000000 in
theorem concat_any (b:Nat) (v1 v2:Value) (l1 l2:List Int) (w:World) (c1:w.cell? ⟨b,0,none⟩=some v1) (c2:w.cell? ⟨b,1,none⟩=some v2) (h1:IR w v1 l1) (h2:IR w v2 l2) (h0:0<l1.length+l2.length) (hn:l1.length+l2.length≤1000000000) :
 Calls Tryz.prog 102 #[.slice (some ⟨b,0,none⟩) 2 2] w fun e w'=>∃ v',e = .returned v'∧OwnI w' w.heap.size v' (l1++l2)∧Below w.heap.size w w':=by
 have H1:Hid (∀ V,Below w.heap.size w V→IR V v1 l1):=fun V hb=>h1.below hb (Nat.le_refl _)
 have H2:Hid (∀ V,Below w.heap.size w V→IR V v2 l2):=fun V hb=>h2.below hb (Nat.le_refl _)
 have HC1:Hid (∀ V,Below w.heap.size w V→V.cell? ⟨b,0,none⟩=some v1∧V.cell? ⟨b,1,none⟩=some v2):=fun V hb=>⟨cell_below c1 hb (Nat.le_refl _),cell_below c2 hb (Nat.le_refl _)⟩
 have HG:=Hid.mk' (fun W=>grow_any (l1.length+l2.length) h0 hn W)
 obtain ⟨x1,x3,e1,_,_⟩:=h1
 obtain ⟨y1,y3,e2,_,_⟩:=h2
 obtain ⟨n1,hn1⟩:∃ n1,l1.length=n1:=⟨_,rfl⟩
 obtain ⟨n2,hn2⟩:∃ n2,l2.length=n2:=⟨_,rfl⟩
 have HN1:=Hid.mk' hn1
 have HN2:=Hid.mk' hn2
 rw [hn1] at e1 hn HG
 rw [hn2] at e2 hn HG
 subst e1 e2
 have n1I:(n1:Int)≤1000000000:=by omega
 have n2I:(n2:Int)≤1000000000:=by omega
 have n10:(0:Int)≤(n1:Int):=by omega
 have n20:(0:Int)≤(n2:Int):=by omega
 have ns:(n1:Int)+(n2:Int)≤1000000000:=by omega
 have ncast:((n1+n2:Nat):Int)=(n1:Int)+(n2:Int):=by omega
 rw [ncast] at HG
 clear hn1 hn2 h0 ncast
 go_enter Tryz.func102,Tryz.ntmps102
 go_wp2
 refine wp_loop_rounds 3 ?_
 rw [rounds_succ]
 go_wp2
 rw [rounds_succ]
 go_wp2
 rw [rounds_succ]
 go_wp2_with (go_at_call 121;refine (HG.out _).mono ?_;rintro e w1 ⟨cap,rfl,hO1,hG1⟩;have HO1:=Hid.mk' hO1;have HG1:=Hid.mk' hG1;clear hO1 hG1)
 have hB1:Below w.heap.size w w1:=HG1.out.below
 obtain ⟨d1,d2⟩:=HC1.out w1 hB1
 have HB1:=Hid.mk' hB1
 clear c1 c2 hB1
 refine wp_loop_rounds 3 ?_
 rw [rounds_succ]
 go_wp2_with (at_builtin;go_must (refine app_I2 rfl _ _ rfl w.heap.size _ _ [] l1 rfl HO1.out rfl (H1.out w1 HB1.out) (by rw [HN1.out];simp;omega) HB1.out.size ?_;intro v2 w2 hO2 hg2;have HO2:Hid (OwnI w2 w.heap.size v2 l1):=hO2;have HB2:Hid (Below w.heap.size w w2):=HB1.out.grown hg2 HB1.out.size (fun k hk=>(World.ownsRow.lt HO1.out k hk).1);obtain ⟨p1,p2,p3,hv2⟩:=hO2.ir.sl;subst hv2;clear hO2 hg2))
 obtain ⟨f1,f2⟩:=HC1.out w2 HB2.out
 rw [rounds_succ]
 go_wp2_with (at_builtin;go_must (refine app_I2 rfl _ _ rfl w.heap.size _ _ l1 l2 rfl HO2.out rfl (H2.out w2 HB2.out) (by rw [HN1.out,HN2.out];omega) HB2.out.size ?_;intro v3 w3 hO3 hg3;have HO3:Hid (OwnI w3 w.heap.size v3 (l1++l2)):=hO3;have HB3:Hid (Below w.heap.size w w3):=HB2.out.grown hg3 HB2.out.size (fun k hk=>(World.ownsRow.lt HO2.out k hk).1);obtain ⟨q1,q2,q3,hv3⟩:=hO3.ir.sl;subst hv3;clear hO3 hg3))
 rw [rounds_succ]
 go_wp2
 go_ret
 exact ⟨_,rfl,HO3.out,HB3.out⟩
end Go.Proofs
