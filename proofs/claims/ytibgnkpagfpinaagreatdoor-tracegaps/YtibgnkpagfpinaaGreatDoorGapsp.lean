/-
  TraceGaps: of every pass and every text, in every memory in which the table of blocks reads as it is laid: the call returns true; nothing that lay has turned.
-/
import Derived.Test.YtibgnkpagfpinaaGreatDoorMgtp
import Derived.Test.YtibgnkpagfpinaaGreatDoorXwp
import Derived.Test.YtibgnkpagfpinaaGreatDoorXpp
import Derived.Test.YtibgnkpagfpinaaGreatDoorXzp
import Derived.Test.YtibgnkpagfpinaaGreatDoorXyp
import Derived.Deep.SlicePairs
import Derived.SizedLaws
namespace Go.Proofs.YtibgnkpagfpinaaGreatDoor
section
open Go.ChangeShapes Go.WideShapes Go.ChangeAt Go.RowKit Go.WideMaps Go.WideElems Go.Deep
set_option maxRecDepth 100000
theorem cells51:Tryz.prog.cellsOf 51=1:=by kernel_rfl
theorem cells58:Tryz.prog.cellsOf 58=4:=by kernel_rfl
theorem cells53:Tryz.prog.cellsOf 53=1:=by kernel_rfl
theorem cells54:Tryz.prog.cellsOf 54=1:=by kernel_rfl
theorem cells56:Tryz.prog.cellsOf 56=7:=by kernel_rfl
theorem cells22:Tryz.prog.cellsOf 22=1:=by kernel_rfl
theorem cells24:Tryz.prog.cellsOf 24=1:=by kernel_rfl
theorem cells4:Tryz.prog.cellsOf 4=1:=by kernel_rfl
section
variable {H:Type} {enc:TypeId × Value→H} {W:World}
theorem set_read {fuel:Nat} {cs:List Value} {x:DataW H × List MemPlace} (hf:DataW.trod enc Tryz.prog W 0 (fun _=>true) true fuel 51 cs=some x):∃ v l,cs=[v]∧Rs W v l∧l.length≤Rows.uptoBulk x.1:=by
 obtain ⟨a,cap,l,hcs,h1,_,hb,h2⟩:=slice_read Tryz.underlying51 cells97 (by decide) (fun cs _ (p:Int × Int)=>cs=[.int .i64 p.1,.int .i64 p.2]) (fun n cs x h=>by
  obtain ⟨xs,k,hk,hxy,hcl,hxl,hff⟩:=DataW.trod_struct Tryz.underlying97 h
  rw [cells97] at hcl
  match xs,hxl,cs,hcl with
  | [y0,y1],_,[v0,v1],_=>
   have g0:=hff 0 _ rfl
   have g1:=hff 1 _ rfl
   simp [cells3] at g0 g1
   obtain ⟨n0,e0,_,_⟩:=DataW.trod_int Tryz.underlying3 g0
   obtain ⟨n1,e1,_,_⟩:=DataW.trod_int Tryz.underlying3 g1
   simp only [List.cons.injEq,and_true] at e0 e1
   subst e0 e1
   exact ⟨(n0,n1),rfl⟩) hf
 refine ⟨_,l,hcs,⟨a,cap,rfl,h1,h2.imp id ?_⟩,hb⟩
 rintro ⟨g,o,rfl,h⟩
 refine ⟨g,o,rfl,fun j hj => ?_⟩
 obtain ⟨cs',_,_,rfl,_,h3⟩:=h j hj
 rw [rg_lt hj]
 exact ⟨h3 0 _ rfl,h3 1 _ rfl⟩
theorem row_read {fuel:Nat} {cs:List Value} {x:DataW H × List MemPlace} (hf:DataW.trod enc Tryz.prog W 0 (fun _=>true) true fuel 53 cs=some x):∃ v ls,cs=[v]∧SR W v ls∧ls.length≤Rows.uptoBulk x.1∧∀ l∈ls,l.length≤Rows.uptoBulk x.1:=by
 obtain ⟨a,cap,l,hcs,h1,_,hb,h2⟩:=slice_read Tryz.underlying53 cells51 (by decide) (fun cs d (l:List (Int × Int))=>∃ v,cs=[v]∧Rs W v l∧l.length≤Rows.uptoBulk d) (fun n cs x h=>by
  obtain ⟨v,l,e,h1,h2⟩:=set_read h
  exact ⟨l,v,e,h1,h2⟩) hf
 refine ⟨_,l,hcs,⟨a,cap,rfl,h1,h2.imp id ?_⟩,hb,?_⟩
 · rintro ⟨g,o,rfl,h⟩
   refine ⟨g,o,rfl,fun j hj => ?_⟩
   obtain ⟨cs',_,_,⟨v,rfl,hv,_⟩,_,h3⟩:=h j hj
   have:=h3 0 v rfl
   rw [Nat.mul_one] at this
   exact ⟨v,this,hv⟩
 · intro y hy
   rcases h2 with rfl | ⟨g,o,_,h⟩
   · cases hy
   · obtain ⟨j,hj,rfl⟩:=List.getElem_of_mem hy
     obtain ⟨cs',d,_,⟨v,_,_,h4⟩,h5,_⟩:=h j hj
     omega
theorem pieces_read {fuel:Nat} {cs:List Value} {x:DataW H × List MemPlace} (hf:DataW.trod enc Tryz.prog W 0 (fun _=>true) true fuel 54 cs=some x):∃ v ps,cs=[v]∧PR W v ps∧ps.length≤Rows.uptoBulk x.1∧∀ p∈ps,p.tl.length≤Rows.uptoBulk x.1:=by
 obtain ⟨a,cap,l,hcs,h1,_,hb,h2⟩:=slice_read Tryz.underlying54 cells58 (by decide) (fun cs d (p:Pc)=>∃ v,cs=[.int .i64 p.k,.int .i64 p.u,.int .i64 p.y,v]∧Rs W v p.tl∧p.tl.length≤Rows.uptoBulk d) (fun n cs x h=>by
  obtain ⟨xs,k,hk,hxy,hcl,hxl,hff⟩:=DataW.trod_struct Tryz.underlying58 h
  rw [cells58] at hcl
  match xs,hxl,cs,hcl with
  | [y0,y1,y2,y3],_,[v0,v1,v2,v3],_=>
   have g0:=hff 0 _ rfl
   have g1:=hff 1 _ rfl
   have g2:=hff 2 _ rfl
   have g3:=hff 3 _ rfl
   simp [cells3,cells51] at g0 g1 g2 g3
   obtain ⟨n0,e0,_,_⟩:=DataW.trod_int Tryz.underlying3 g0
   obtain ⟨n1,e1,_,_⟩:=DataW.trod_int Tryz.underlying3 g1
   obtain ⟨n2,e2,_,_⟩:=DataW.trod_int Tryz.underlying3 g2
   obtain ⟨v,l,e3,h3,h4⟩:=set_read g3
   simp only [List.cons.injEq,and_true] at e0 e1 e2 e3
   subst e0 e1 e2 e3
   refine ⟨⟨n0,n1,n2,l⟩,v3,rfl,h3,Nat.le_trans h4 ?_⟩
   rw [hxy]
   simp only [List.map_cons,List.map_nil,Rows.uptoBulk,Rows.uptoBulkAll]
   omega) hf
 refine ⟨_,l,hcs,⟨a,cap,rfl,h1,h2.imp id ?_⟩,hb,?_⟩
 · rintro ⟨g,o,rfl,h⟩
   refine ⟨g,o,rfl,fun j hj => ?_⟩
   obtain ⟨cs',_,_,⟨v,rfl,hv,_⟩,_,h3⟩:=h j hj
   exact ⟨v,h3 0 _ rfl,h3 1 _ rfl,h3 2 _ rfl,h3 3 _ rfl,hv⟩
 · intro y hy
   rcases h2 with rfl | ⟨g,o,_,h⟩
   · cases hy
   · obtain ⟨j,hj,rfl⟩:=List.getElem_of_mem hy
     obtain ⟨cs',d,_,⟨v,_,_,h4⟩,h5,_⟩:=h j hj
     omega
structure Small (r:Rl) (n:Nat):Prop where
 na:r.ante.length≤n
 sa:∀ l∈r.ante,l.length≤n
 nk:r.key.length≤n
 sk:∀ l∈r.key,l.length≤n
 np:r.post.length≤n
 sp:∀ l∈r.post,l.length≤n
 nr:r.res.length≤n
 sr:∀ p∈r.res,p.tl.length≤n
theorem Small.mono {r:Rl} {n m:Nat} (h:Small r n) (hm:n≤m):Small r m:=
 ⟨Nat.le_trans h.na hm,fun l hl=>Nat.le_trans (h.sa l hl) hm,Nat.le_trans h.nk hm,fun l hl=>Nat.le_trans (h.sk l hl) hm,Nat.le_trans h.np hm,fun l hl=>Nat.le_trans (h.sp l hl) hm,Nat.le_trans h.nr hm,fun l hl=>Nat.le_trans (h.sr l hl) hm⟩
theorem rule_read {fuel:Nat} {cs:List Value} {x:DataW H × List MemPlace} (hf:DataW.trod enc Tryz.prog W 0 (fun _=>true) true fuel 56 cs=some x):∃ av kv pv rv r,cs=[.bool r.bg,av,kv,pv,.bool r.en,rv,.int .i64 r.cu]∧RR W av kv pv rv r∧Small r (Rows.uptoBulk x.1):=by
 obtain ⟨xs,k,hk,hxy,hcl,hxl,hff⟩:=DataW.trod_struct Tryz.underlying56 hf
 rw [cells56] at hcl
 match xs,hxl,cs,hcl with
 | [y0,y1,y2,y3,y4,y5,y6],_,[v0,v1,v2,v3,v4,v5,v6],_=>
  have g0:=hff 0 _ rfl
  have g1:=hff 1 _ rfl
  have g2:=hff 2 _ rfl
  have g3:=hff 3 _ rfl
  have g4:=hff 4 _ rfl
  have g5:=hff 5 _ rfl
  have g6:=hff 6 _ rfl
  simp [cells3,cells4,cells53,cells54] at g0 g1 g2 g3 g4 g5 g6
  obtain ⟨b0,e0,_⟩:=DataW.trod_bool Tryz.underlying4 g0
  obtain ⟨w1,l1,e1,k1,m1,n1⟩:=row_read g1
  obtain ⟨w2,l2,e2,k2,m2,n2⟩:=row_read g2
  obtain ⟨w3,l3,e3,k3,m3,n3⟩:=row_read g3
  obtain ⟨b4,e4,_⟩:=DataW.trod_bool Tryz.underlying4 g4
  obtain ⟨w5,l5,e5,k5,m5,n5⟩:=pieces_read g5
  obtain ⟨c6,e6,_,_⟩:=DataW.trod_int Tryz.underlying3 g6
  simp only [List.cons.injEq,and_true] at e0 e1 e2 e3 e4 e5 e6
  subst e0 e1 e2 e3 e4 e5 e6
  have q:Rows.uptoBulk y1.1+Rows.uptoBulk y2.1+Rows.uptoBulk y3.1+Rows.uptoBulk y5.1≤Rows.uptoBulk x.1:=by
   rw [hxy]
   simp only [List.map_cons,List.map_nil,Rows.uptoBulk,Rows.uptoBulkAll]
   omega
  refine ⟨v1,v2,v3,v5,⟨b0,b4,c6,l1,l2,l3,l5⟩,rfl,⟨k1,k2,k3,k5⟩,⟨by show l1.length≤_;omega,fun l hl => ?_,by show l2.length≤_;omega,fun l hl => ?_,by show l3.length≤_;omega,fun l hl => ?_,by show l5.length≤_;omega,fun l hl => ?_⟩⟩
  · have:=n1 l hl;omega
  · have:=n2 l hl;omega
  · have:=n3 l hl;omega
  · have:=n5 l hl;omega
end
open Go.ChangeShapes Go.WideShapes Go.ChangeAt Go.RowKit Go.WideMaps Go.WideElems Go.Deep
set_option maxRecDepth 100000
section
variable {H:Type} {enc:TypeId × Value→H} {W:World}
theorem slice_max {t e:TypeId} {s:Nat} (ht:Tryz.prog.underlying t=some (.slice e)) (hs:Tryz.prog.cellsOf e=s) (hpos:0<s) {fuel:Nat} {cs:List Value} {x:DataW H × List MemPlace} (hf:DataW.trod enc Tryz.prog W 0 (fun _=>true) true fuel t cs=some x):∃ a n c,cs=[.slice a n c]∧n≤maxLen:=by
 obtain ⟨a,cap,l,hcs,_,hm,_⟩:=slice_read (α:=Unit) ht hs hpos (fun _ _ _=>True) (fun _ _ _ _=>⟨(),trivial⟩) hf
 exact ⟨a,_,cap,hcs,hm⟩
structure Lz (r:Rl):Prop where
 na:r.ante.length≤maxLen
 nk:r.key.length≤maxLen
 np:r.post.length≤maxLen
 nr:r.res.length≤maxLen
theorem sr_len {w:World} {v:Value} {ls:List (List (Int × Int))} (h:SR w v ls) {a:Option Addr} {n c:Nat} (hv:v = .slice a n c) (hn:n≤maxLen):ls.length≤maxLen:=by
 obtain ⟨a',c',h1,_⟩:=h
 rw [hv] at h1
 cases h1
 exact hn
theorem pr_len {w:World} {v:Value} {ls:List Pc} (h:PR w v ls) {a:Option Addr} {n c:Nat} (hv:v = .slice a n c) (hn:n≤maxLen):ls.length≤maxLen:=by
 obtain ⟨a',c',h1,_⟩:=h
 rw [hv] at h1
 cases h1
 exact hn
theorem rule_lz {fuel:Nat} {cs:List Value} {x:DataW H × List MemPlace} (hf:DataW.trod enc Tryz.prog W 0 (fun _=>true) true fuel 56 cs=some x) {av kv pv rv:Value} {r:Rl} (hcs:cs=[.bool r.bg,av,kv,pv,.bool r.en,rv,.int .i64 r.cu]) (hR:RR W av kv pv rv r):Lz r:=by
 obtain ⟨xs,k,hk,hxy,hcl,hxl,hff⟩:=DataW.trod_struct Tryz.underlying56 hf
 subst hcs
 match xs,hxl with
 | [y0,y1,y2,y3,y4,y5,y6],_=>
  have g1:=hff 1 _ rfl
  have g2:=hff 2 _ rfl
  have g3:=hff 3 _ rfl
  have g5:=hff 5 _ rfl
  simp [cells53,cells54] at g1 g2 g3 g5
  obtain ⟨a1,n1,c1,e1,m1⟩:=slice_max Tryz.underlying53 cells51 (by decide) g1
  obtain ⟨a2,n2,c2,e2,m2⟩:=slice_max Tryz.underlying53 cells51 (by decide) g2
  obtain ⟨a3,n3,c3,e3,m3⟩:=slice_max Tryz.underlying53 cells51 (by decide) g3
  obtain ⟨a5,n5,c5,e5,m5⟩:=slice_max Tryz.underlying54 cells58 (by decide) g5
  simp only [List.cons.injEq,and_true] at e1 e2 e3 e5
  exact ⟨sr_len hR.a e1 m1,sr_len hR.k e2 m2,sr_len hR.p e3 m3,pr_len hR.r e5 m5⟩
theorem pass_read {fuel:Nat} {cs:List Value} {x:DataW H × List MemPlace} (hf:DataW.trod enc Tryz.prog W 0 (fun _=>true) true fuel 24 cs=some x):∃ v rs,cs=[v]∧PsR W v rs∧rs.length≤maxLen∧(∀ r∈rs,Lz r)∧rs.length≤Rows.uptoBulk x.1∧∀ r∈rs,Small r (Rows.uptoBulk x.1):=by
 obtain ⟨xs,k,hk,hxy,hcl,hxl,hff⟩:=DataW.trod_struct Tryz.underlying24 hf
 rw [cells24] at hcl
 match xs,hxl,cs,hcl with
 | [y0],_,[v0],_=>
  have g0:=hff 0 _ rfl
  simp [cells22] at g0
  obtain ⟨a,cap,l,hcs,h1,hm,hb,h2⟩:=slice_read Tryz.underlying22 cells56 (by decide) (fun cs d (r:Rl)=>∃ av kv pv rv,cs=[.bool r.bg,av,kv,pv,.bool r.en,rv,.int .i64 r.cu]∧RR W av kv pv rv r∧Lz r∧Small r (Rows.uptoBulk d)) (fun n cs x h=>by
   obtain ⟨av,kv,pv,rv,r,e,h1,h2⟩:=rule_read h
   exact ⟨r,av,kv,pv,rv,e,h1,rule_lz h e h1,h2⟩) g0
  have hbk:Rows.uptoBulk y0.1≤Rows.uptoBulk x.1:=by
   rw [hxy]
   simp only [List.map_cons,List.map_nil,Rows.uptoBulk,Rows.uptoBulkAll]
   omega
  have each:∀ r∈l,Lz r∧Small r (Rows.uptoBulk x.1):=fun r hr=>by
   rcases h2 with rfl | ⟨g,o,_,h⟩
   · cases hr
   · obtain ⟨j,hj,rfl⟩:=List.getElem_of_mem hr
     obtain ⟨cs',d,_,⟨_,_,_,_,_,_,hz,hs⟩,h5,_⟩:=h j hj
     exact ⟨hz,hs.mono (Nat.le_trans h5 hbk)⟩
  simp only [List.cons.injEq,and_true] at hcs
  subst hcs
  refine ⟨_,l,rfl,⟨a,cap,rfl,h1,h2.imp id ?_⟩,hm,fun r hr=>(each r hr).1,Nat.le_trans hb hbk,fun r hr=>(each r hr).2⟩
  rintro ⟨g,o,rfl,h⟩
  refine ⟨g,o,rfl,fun j hj => ?_⟩
  obtain ⟨cs',_,_,⟨av,kv,pv,rv,rfl,hR,_,_⟩,_,h3⟩:=h j hj
  exact ⟨av,kv,pv,rv,h3 0 _ rfl,h3 1 _ rfl,h3 2 _ rfl,h3 3 _ rfl,h3 4 _ rfl,h3 5 _ rfl,h3 6 _ rfl,hR⟩
end
end
open Go.ChangeShapes Go.WideShapes Go.ChangeAt Go.RowKit
open Go.ChangeMaps (open_string shut_string)
set_option maxRecDepth 100000 in
theorem gaps_contract (H:Type) (enc:TypeId × Value→H) (W:World) (base:Nat) (args:Array Value) (ds gs:List (DataW H)) (before:List MemPlace)
 (hval:∀ (j:Nat) t v,Tryz.f6.params[j]? = some t→args[j]? = some v→Value.okWide Tryz.prog W .any base t v)
 (hW:DataW.Whole enc Tryz.prog Tryz.f6.params.toList Rows.traceGapsSpec.vars false W args.toList ds gs before) (hL:laidMetH Tryz.prog Rows.traceGapsRow.laid W) :
 Calls Tryz.prog 6 args W fun e W'=>∃ v,e = .returned v∧Rows.traceGapsSpec.post enc Tryz.prog Tryz.f6 false true false false W args v W':=by
 have hW':=hW
 obtain ⟨p,q,hA0,hV,rfl,hfz,hnd⟩:=hW
 have hA:DataW.TrodAll enc Tryz.prog W 0 (fun _=>true) true Tryz.f6.params.toList args.toList ds p:=hA0
 rw [Tryz.params6] at hA hval
 obtain ⟨v0,vs0,d0,ds0,p0,q0,hargs,rfl,rfl,h0,r0⟩:=trodAll_cons hA
 obtain ⟨v1,vs1,d1,ds1,p1,q1,rfl,rfl,rfl,h1,r1⟩:=trodAll_cons r0
 obtain ⟨rfl,rfl,rfl⟩:=trodAll_nil r1
 obtain rfl:args=#[v0,v1]:=by cases args;simp_all
 obtain ⟨rfl,rfl⟩:=trodVars_none hV
 obtain ⟨cs0,rfl,hsz0⟩:=okWide_struct Tryz.underlying24 (hval 0 24 v0 rfl rfl)
 have h0k:=h0
 obtain ⟨fuel0,hf0⟩:=h0
 obtain ⟨pv0,l0,hc0,hR0,hS0⟩:=pass_read (cs:=cs0.toList) (by simpa [Value.cells] using hf0)
 obtain rfl:cs0=#[pv0]:=by rw [←Array.toArray_toList (xs:=cs0),hc0]
 obtain ⟨x1,rfl,rfl,rfl,wx1⟩:=open_string Tryz.underlying9 (hval 1 9 v1 rfl rfl) h1
 clear hA0
 simp only [List.append_nil] at hW'
 have hlt0:∀ y∈p0,y.block<W.heap.size:=fun y hy=>hW'.lt y (by simp [hy])
 refine (gaps_law _ l0 x1 W (table hL) (table hL).pos hR0).mono fun e W' ⟨he,hb⟩ => ?_
 subst he
 exact ⟨_,rfl,_,_,_,[],p0++([]++[]),[],hW',trodAll_mk1 (shut_bool Tryz.underlying4 true),trodAll_cons_mk (Below.trod laidOut (by kernel_rfl) (of_decide_eq_true (by kernel_rfl)) h0k hb hlt0) (trodAll_cons_mk (shut_string Tryz.underlying9 wx1) trodAll_mk0),rfl,hb.frame _,fun h=>by cases h⟩
noncomputable def laidWorld (os:Os):World:=
 { World.holding Tryz.prog os ⟨#[],#[],[]⟩ with heap:=(World.holding Tryz.prog os ⟨#[],#[],[]⟩).heap.modify 0 fun
  | .cells _ t frozen => .cells blkV t frozen
  | o=>o }
theorem gaps_laid (os:Os):laidMet Tryz.prog Rows.traceGapsRow.laid ((laidWorld os).forCall (fun _ _=>0) ⟨#[],#[.agg #[.slice none 0 0],.string ByteArray.empty],[]⟩).memory:=
 laidMet_of_run' 8 (by kernel_rfl) (by kernel_rfl)
theorem gaps_reads (os:Os) {H:Type} (enc:TypeId × Value→H):∃ places,DataW.whole enc Tryz.prog ((laidWorld os).forCall (fun _ _=>0) ⟨#[],#[.agg #[.slice none 0 0],.string ByteArray.empty],[]⟩).memory Tryz.f6.params.toList Rows.traceGapsSpec.vars false (#[Value.agg #[.slice none 0 0],Value.string ByteArray.empty]:Array Value).toList 8=some ([.agg [.nil],.lit (.string [])],[],places):=
 ⟨[],by kernel_rfl⟩
set_option maxRecDepth 100000 in
theorem gaps_lifted (os:Os) (started:os.Started) (H:Type) (enc:TypeId × Value→H) (F:Stop.Interp) :
 ReturnsInHanded {} Tryz.checked os 6 .any ((OpenSpec.ofChange Rows.traceGapsSpec).preRow enc Tryz.prog Tryz.f6 Rows.traceGapsRow.domain false Rows.traceGapsRow.laid) (((OpenSpec.ofChange Rows.traceGapsSpec).at F).post enc Tryz.prog Tryz.f6 false true false false):=by
 obtain ⟨places,hx⟩:=gaps_reads os enc
 refine returnsInHanded_of_row (C:=Tryz.checked) (s:=OpenSpec.ofChange Rows.traceGapsSpec) own started (by kernel_rfl) Tryz.func6
  (witness_row_at (enc:=enc) (C:=Tryz.checked) false (laidWorld os) #[.agg #[.slice none 0 0],.string ByteArray.empty] rfl (by kernel_rfl) (by kernel_rfl) (by kernel_rfl)
   (OpenSpec.preRow_of_cond 8 hx (by kernel_rfl) (fun k hk=>by cases hk) (by kernel_rfl) (gaps_laid os))) ?_
 intro W base args ds gs before hval hW _ _ _ hL _ _
 exact gaps_contract H enc W base args ds gs before hval hW hL
theorem gaps_said:Rows.TraceGapsSaid:=
 OpenClaim.holds_of_cond 6 Tryz.f6 rfl rfl rfl rfl rfl rfl rfl ⟨rfl,rfl,rfl,rfl,rfl⟩ rfl rfl rfl rfl rfl (by kernel_rfl) Tryz.func6 (by kernel_rfl)
  (of_decide_eq_true (by kernel_rfl)) (by unfold Func.isWrapper;first | (rw [if_pos (by decide +kernel)];kernel_rfl) | (rw [if_neg (by decide +kernel)];exact ⟨rfl,rfl⟩))
  (fun os started H enc _ F=>by rw [OpenClaim.pre_eq_preRow];exact gaps_lifted os started H enc F)
theorem gaps_plain (f : FuncId) (fn : Func) (hf : Tryz.pinned.checked.prog.funcNamed "respell/respelllaw13.TraceGaps" = some f) (hfn : Tryz.pinned.checked.prog.funcs[f]? = some fn) :
 false=Tryz.pinned.checked.prog.looks []∧∀ (j:Nat) t,fn.params[j]? = some t→Tryz.pinned.checked.prog.wantsStandIn t=false:=by
 obtain rfl : f = 6 := Option.some.inj ((show Tryz.prog.funcNamed "respell/respelllaw13.TraceGaps" = some 6 by kernel_rfl).symm.trans hf) |>.symm
 obtain rfl:fn=Tryz.f6:=(Option.some.inj (Tryz.func6.symm.trans hfn)).symm
 refine ⟨by kernel_rfl,fun j t ht => ?_⟩
 rw [Tryz.params6] at ht
 have h2:t=24∨t=9:=by simpa using Array.mem_of_getElem? ht
 rcases h2 with rfl | rfl
 · exact (show Tryz.prog.wantsStandIn 24=false by kernel_rfl)
 · exact (show Tryz.prog.wantsStandIn 9=false by kernel_rfl)
theorem gaps_card:Rows.TraceGapsCardSaid:=
 Claim7.holds_tied_plain_at .later [] _ _ _ _ gaps_said (fun _ h=>by cases h) (by kernel_rfl) (fun _ h=>by cases h) traceGaps_row_tie rfl ⟨rfl,rfl⟩ (by kernel_rfl) rfl gaps_plain (by kernel_rfl)
end Go.Proofs.YtibgnkpagfpinaaGreatDoor
