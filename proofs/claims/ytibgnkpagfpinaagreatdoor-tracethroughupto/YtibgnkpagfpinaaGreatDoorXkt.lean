/-
  A row of blocks that came in, as the walks want it.
-/
import Derived.Test.YtibgnkpagfpinaaGreatDoorXpt
import Derived.Test.YtibgnkpagfpinaaGreatDoorMgmt
namespace Go.Proofs.YtibgnkpagfpinaaGreatDoor
open Go.ChangeShapes Go.WideShapes Go.ChangeAt Go.RowKit Go.WideMaps Go.WideElems Go.Deep
variable {H:Type} {enc:TypeId × Value→H} {W:World}
theorem cells44:Tryz.prog.cellsOf 44=4:=by kernel_rfl
theorem bulk_many {k:Nat} : ∀ l:List (DataW H),(∀ d∈l,k≤Rows.uptoBulk d)→l.length*k≤Rows.uptoBulkAll l
 | [],_=>by simp
 | d::l,h=>by
  have h1:=h d (by simp)
  have h2:=bulk_many l fun e he=>h e (by simp [he])
  simp only [Rows.uptoBulkAll,List.length_cons,Nat.succ_mul]
  omega
set_option maxRecDepth 100000 in
theorem blocks_read {fuel:Nat} {cs:List Value} {x:DataW H × List MemPlace} (hf:DataW.trod enc Tryz.prog W 0 (fun _=>true) true fuel 32 cs=some x):∃ v l,cs=[v]∧KR W v l∧l.length*5≤Rows.uptoBulk x.1∧(v = .slice none 0 0∨∃ ad m c,v = .slice (some ad) m c):=by
 obtain ⟨a,cap,l,hcs,h1,_,hb,h2⟩:=slice_read Tryz.underlying32 cells44 (by decide) (fun cs _ (p:Int × Int × Int × Int)=>cs=[.int .i64 p.1,.int .i64 p.2.1,.int .i64 p.2.2.1,.int .i64 p.2.2.2]) (fun n cs x h=>by
  obtain ⟨xs,k,hk,hxy,hcl,hxl,hff⟩:=DataW.trod_struct Tryz.underlying44 h
  rw [cells44] at hcl
  match xs,hxl,cs,hcl with
  | [y0,y1,y2,y3],_,[v0,v1,v2,v3],_=>
   have g0:=hff 0 _ rfl
   have g1:=hff 1 _ rfl
   have g2:=hff 2 _ rfl
   have g3:=hff 3 _ rfl
   simp [cells3] at g0 g1 g2 g3
   obtain ⟨n0,e0,_,_⟩:=DataW.trod_int Tryz.underlying3 g0
   obtain ⟨n1,e1,_,_⟩:=DataW.trod_int Tryz.underlying3 g1
   obtain ⟨n2,e2,_,_⟩:=DataW.trod_int Tryz.underlying3 g2
   obtain ⟨n3,e3,_,_⟩:=DataW.trod_int Tryz.underlying3 g3
   simp only [List.cons.injEq,and_true] at e0 e1 e2 e3
   subst e0 e1 e2 e3
   exact ⟨(n0,n1,n2,n3),rfl⟩) hf
 have hbulk:l.length*5≤Rows.uptoBulk x.1∧(cs=[.slice none 0 0]∨∃ ad m c,cs=[.slice (some ad) m c]):=by
  rcases open_slice Tryz.underlying32 hf with ⟨hcs2,hx⟩ | ⟨a2,len,cap2,m,n,D,Pl,hcs2,_,hl,hml,hm,hx,hcell⟩
  · have e:=hcs.symm.trans hcs2
    simp only [List.cons.injEq,Value.slice.injEq,and_true] at e
    refine ⟨by omega,.inl hcs2⟩
  · have e:=hcs.symm.trans hcs2
    simp only [List.cons.injEq,Value.slice.injEq,and_true] at e
    refine ⟨?_,.inr ⟨_,_,_,hcs2⟩⟩
    rw [hx]
    simp only [Rows.uptoBulk]
    simp only [if_true] at hm
    have:=bulk_many (k:=5) ((List.range len).map D) (fun d hd=>by
     obtain ⟨i,hi,rfl⟩:=List.mem_map.1 hd
     obtain ⟨cs',q1,q2⟩:=hcell i (by have:=List.mem_range.1 hi;omega)
     obtain ⟨xs,k,hk,hxy,hcl,hxl,hff⟩:=DataW.trod_struct Tryz.underlying44 q2
     have e2:D i = .agg (xs.map Prod.fst):=congrArg Prod.fst hxy
     rw [e2]
     simp only [Rows.uptoBulk]
     have:=bulk_len (xs.map Prod.fst)
     rw [List.length_map,hxl] at this
     simp at this
     omega)
    simp only [List.length_map,List.length_range] at this
    have e3:l.length=len:=e.2.1
    omega
 refine ⟨_,l,hcs,⟨a,cap,rfl,h1,h2.imp id ?_⟩,hbulk.1,?_⟩
 · rintro ⟨g,o,rfl,h⟩
   refine ⟨g,o,rfl,fun j hj => ?_⟩
   obtain ⟨cs',_,_,rfl,_,h3⟩:=h j hj
   exact ⟨h3 0 _ rfl,h3 1 _ rfl,h3 2 _ rfl,h3 3 _ rfl⟩
 · rcases hbulk.2 with h | ⟨ad,m,c,h⟩
   · rw [hcs] at h
     simp only [List.cons.injEq,and_true] at h
     exact .inl h
   · rw [hcs] at h
     simp only [List.cons.injEq,and_true] at h
     exact .inr ⟨ad,m,c,h⟩
end Go.Proofs.YtibgnkpagfpinaaGreatDoor
