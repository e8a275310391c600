/-
  Several texts in one (Oa Ob Oc Ca Cb).
-/
import Derived.RangeFuncNested
import Derived.RangeFuncBound
import Derived.RangeFuncCalls
import Derived.RangeFuncLeaves
import Derived.Shelf.Abstract
import Derived.Shelf.RegionOpen
import Derived.WalkKit
import Derived.WalkSpells
import Derived.WalkLawsBesides
import Derived.OwnWalkIn
import Derived.TacticsInMore
import Derived.LoopNIn
import Derived.LoopIn
import Derived.BigQuiet
import Derived.RegionIn
import Derived.Deep.QuietTactic
import Derived.Deep.RegionWith
import Derived.Lib.OthersKept
import Derived.Maps.AppendAt
import Derived.Lib.SmallJoins
import Derived.Shelf.SlSortCmp.QuietGrown
import Derived.Test.YtcfcjljapamcoaaGreatDoorMgdv
import Derived.Deep.AppendLies
import Derived.Deep.Upon
namespace Go.Proofs
open Go.RowKit Go.Shelf
set_option maxRecDepth 100000
attribute [local go_sem] Oper.semAt_some
attribute [local go_sem ↓] Go.wp_at_zero Go.wp_at_succ
structure Fr (w w':World) (B:Nat→Prop):Prop where
 os:w'.os=w.os
 tape:w'.tape=w.tape
 output:w'.output=w.output
 size:w.heap.size≤w'.heap.size
 block:∀ k,k<w.heap.size→¬ B k→w'.heap[k]? = w.heap[k]?
theorem Fr.refl (w:World) (B:Nat→Prop):Fr w w B:=⟨rfl,rfl,rfl,Nat.le_refl _,fun _ _ _=>rfl⟩
theorem Fr.mono {w w':World} {B C:Nat→Prop} (h:Fr w w' B) (hc:∀ k,k<w.heap.size→B k→C k):Fr w w' C:=⟨h.os,h.tape,h.output,h.size,fun k hk hn=>h.block k hk fun hb=>hn (hc k hk hb)⟩
theorem Fr.trans {a b c:World} {B C:Nat→Prop} (h:Fr a b B) (k:Fr b c C) (hc:∀ i,i<a.heap.size→C i→B i):Fr a c B:=
 ⟨k.os.trans h.os,k.tape.trans h.tape,k.output.trans h.output,Nat.le_trans h.size k.size,fun i hi hn=>(k.block i (by have:=h.size;omega) fun hi2=>hn (hc i hi hi2)).trans (h.block i hi hn)⟩
theorem Fr.below {w w':World} {B:Nat→Prop} {base:Nat} (h:Fr w w' B) (hB:∀ k,B k→base≤k) (hb:base≤w.heap.size):Below base w w':=⟨h.os,h.tape,h.output,h.size,fun k hk=>h.block k (by omega) fun hk2=>by have:=hB k hk2;omega⟩
theorem fr_by {w w':World} {row:Option Nat} (h:w.grownBy w' row):Fr w w' fun k=>row=some k:=⟨h.os,h.tape,h.output,h.size,fun k hk hn=>h.block k hk fun e=>hn e.symm⟩
theorem fr_below {w w':World} {n:Nat} (h:Below n w w') (hn:w.heap.size≤n) (B:Nat→Prop):Fr w w' B:=⟨h.os,h.tape,h.output,h.size,fun k hk _=>h.block k (by omega)⟩
theorem fr_grown {w w':World} (h:Grown w w') (B:Nat→Prop):Fr w w' B:=fr_below h.below (Nat.le_refl _) B
theorem fr_set (w:World) (b j:Nat) (u:Value):Fr w (w.setCell ⟨b,j,none⟩ u) fun k=>k=b:=⟨rfl,rfl,rfl,by simp [World.setCell],fun k _ hn=>Below.heap_setCell w ⟨b,j,none⟩ u k hn⟩
theorem own_fr {w w':World} {base:Nat} {e:TypeId} {size:Nat} {v:Value} {n:Nat} {xs:List Value} {B:Nat→Prop} (h:w.ownsRow base e size v n xs) (hf:Fr w w' B) (hB:∀ b,v.ownBlock=some b→¬ B b):w'.ownsRow base e size v n xs:=by
 refine ⟨h.1,?_⟩
 rcases h.2 with hn | ⟨g,cap,cur,rfl,hb,hgg,rest⟩
 · exact .inl hn
 · exact .inr ⟨g,cap,cur,rfl,hb,(hf.block g (blk_lt hgg) (hB g rfl)).trans hgg,rest⟩
theorem own_ne {w:World} {base base':Nat} {e e':TypeId} {size size':Nat} {v v':Value} {n n':Nat} {xs xs':List Value} (h:w.ownsRow base e size v n xs) (h':w.ownsRow base' e' size' v' n' xs') (hne:e≠e') {b:Nat} (hb:v.ownBlock=some b):v'.ownBlock≠some b:=fun hb'=>by
 rcases h.2 with ⟨rfl,_⟩ | ⟨g,cap,cur,rfl,_,hg,_⟩
 · cases hb
 · rcases h'.2 with ⟨rfl,_⟩ | ⟨g',cap',cur',rfl,_,hg',_⟩
   · cases hb'
   · injection hb with hb
     injection hb' with hb'
     simp only at hb hb'
     subst hb hb'
     rw [hg] at hg'
     injection hg' with hg'
     injection hg' with _ h2 _
     exact hne h2
theorem own_at {w:World} {base:Nat} {e:TypeId} {size:Nat} {v:Value} {n:Nat} {xs:List Value} (h:w.ownsRow base e size v n xs) {b:Nat} (hb:v.ownBlock=some b):∃ cur,w.heap[b]? = some (.cells cur e (0,0)):=by
 rcases h.2 with ⟨rfl,_⟩ | ⟨g,cap,cur,rfl,_,hg,_⟩
 · cases hb
 · injection hb with hb
   simp only at hb
   subst hb
   exact ⟨cur,hg⟩
abbrev It:=Value × List (Int × Int)
def cut:Value→Value
 | .slice a n c => .slice a (n - 1) c
 | v=>v
structure LRu where
 bg:Bool
 en:Bool
 cu:Int
 a:Value × List It
 k:Value × List It
 p:Value × List It
 q:Value × List (Pc × Value)
def LRu.rl (r:LRu):Rl:=⟨r.bg,r.en,r.cu,r.a.2.map Prod.snd,r.k.2.map Prod.snd,r.p.2.map Prod.snd,r.q.2.map Prod.fst⟩
def LRu.cells (r:LRu):List Value:=[.bool r.bg,cut r.a.1,cut r.k.1,cut r.p.1,.bool r.en,cut r.q.1,.int .i64 r.cu]
def pcells (l:List (Pc × Value)):List Value:=l.flatMap fun y=>[.int .i64 y.1.k,.int .i64 y.1.u,.int .i64 y.1.y,cut y.2]
def rucells (l:List LRu):List Value:=l.flatMap LRu.cells
theorem pcells_append (l k:List (Pc × Value)):pcells (l++k)=pcells l++pcells k:=by simp [pcells]
theorem rucells_append (l k:List LRu):rucells (l++k)=rucells l++rucells k:=by simp [rucells]
def Len1 (v:Value):Prop:=∃ a c,v = .slice a 1 c
def pend:List Value:=[.int .i64 (-77),.int .i64 0,.int .i64 0,.slice none 0 0]
structure LX (w:World) (base xb:Nat) (pv rv sv gv cv:Value) (G:List It) (S:List (Value × List It)) (C:List (Value × List (Pc × Value))) (R:List LRu) (re:List Value) (n:Nat):Prop where
 hb:base≤xb
 x:w.heap[xb]? = some (.cells #[pv,rv,sv,gv,cv] 37 (0,0))
 g:w.ownsRow base 40 1 gv G.length (G.map Prod.fst)
 s:w.ownsRow base 34 1 sv S.length (S.map Prod.fst)
 c:w.ownsRow base 58 1 cv C.length (C.map Prod.fst)
 r:w.ownsRow base 60 7 rv n (rucells R++re)
 gi:∀ x∈G,OwnR w base x.1 (x.2++[(-77,-78)])
 si:∀ x∈S,(∃ mv,Len1 mv∧w.ownsRow base 40 1 x.1 (x.2.length+1) (x.2.map (fun y=>cut y.1)++[mv]))∧∀ y∈x.2,y∈G
 ci:∀ x∈C,w.ownsRow base 64 4 x.1 (x.2.length+1) (pcells x.2++pend)∧∀ y∈x.2,(y.2,y.1.tl)∈G
 ri:∀ r∈R,r.a∈S∧r.k∈S∧r.p∈S∧r.q∈C
 ng:(G.map fun x=>x.1.ownBlock).Nodup
 ns:(gv.ownBlock::S.map fun x=>x.1.ownBlock).Nodup
 nc:(C.map fun x=>x.1.ownBlock).Nodup
def Bs (xb:Nat) (rv sv gv cv:Value) (G:List It) (S:List (Value × List It)) (C:List (Value × List (Pc × Value))) (b:Nat):Prop:=
 b=xb∨rv.ownBlock=some b∨sv.ownBlock=some b∨gv.ownBlock=some b∨cv.ownBlock=some b∨(∃ x∈G,x.1.ownBlock=some b)∨(∃ x∈S,x.1.ownBlock=some b)∨∃ x∈C,x.1.ownBlock=some b
section
variable {w:World} {base xb:Nat} {pv rv sv gv cv:Value} {G:List It} {S:List (Value × List It)} {C:List (Value × List (Pc × Value))} {R:List LRu} {re:List Value} {n:Nat}
theorem LX.lt (h:LX w base xb pv rv sv gv cv G S C R re n) {b:Nat} (hb:Bs xb rv sv gv cv G S C b):base≤b∧b<w.heap.size:=by
 rcases hb with rfl | hb | hb | hb | hb | ⟨x,hx,hb⟩ | ⟨x,hx,hb⟩ | ⟨x,hx,hb⟩
 · exact ⟨h.hb,blk_lt h.x⟩
 · exact World.ownsRow.lt h.r b hb
 · exact World.ownsRow.lt h.s b hb
 · exact World.ownsRow.lt h.g b hb
 · exact World.ownsRow.lt h.c b hb
 · exact World.ownsRow.lt (h.gi x hx) b hb
 · obtain ⟨⟨mv,_,h1⟩,_⟩:=h.si x hx
   exact World.ownsRow.lt h1 b hb
 · exact World.ownsRow.lt (h.ci x hx).1 b hb
theorem LX.fr (h:LX w base xb pv rv sv gv cv G S C R re n) {w':World} {B:Nat→Prop} (hf:Fr w w' B) (hB:∀ b,Bs xb rv sv gv cv G S C b→¬ B b):LX w' base xb pv rv sv gv cv G S C R re n:=by
 refine ⟨h.hb,(hf.block xb (blk_lt h.x) (hB _ (.inl rfl))).trans h.x,own_fr h.g hf fun b e=>hB b (by simp [Bs,e]),own_fr h.s hf fun b e=>hB b (by simp [Bs,e]),own_fr h.c hf fun b e=>hB b (by simp [Bs,e]),own_fr h.r hf fun b e=>hB b (by simp [Bs,e]),fun x hx=>own_fr (h.gi x hx) hf fun b e=>hB b (.inr (.inr (.inr (.inr (.inr (.inl ⟨x,hx,e⟩)))))),fun x hx => ?_,fun x hx=>⟨own_fr (h.ci x hx).1 hf fun b e=>hB b (.inr (.inr (.inr (.inr (.inr (.inr (.inr ⟨x,hx,e⟩))))))),(h.ci x hx).2⟩,h.ri,h.ng,h.ns,h.nc⟩
 obtain ⟨⟨mv,h0,h1⟩,h2⟩:=h.si x hx
 exact ⟨⟨mv,h0,own_fr h1 hf fun b e=>hB b (.inr (.inr (.inr (.inr (.inr (.inr (.inl ⟨x,hx,e⟩)))))))⟩,h2⟩
theorem LX.grown (h:LX w base xb pv rv sv gv cv G S C R re n) {w':World} (k:Grown w w'):LX w' base xb pv rv sv gv cv G S C R re n:=h.fr (fr_grown k fun _=>False) fun _ _=>id
theorem LX.below (h:LX w base xb pv rv sv gv cv G S C R re n) {w':World} {m:Nat} (k:Below m w w') (hm:w.heap.size≤m):LX w' base xb pv rv sv gv cv G S C R re n:=h.fr (fr_below k hm fun _=>False) fun _ _=>id
theorem fl_slice {w:World} {base:Nat} {e:TypeId} {size:Nat} {v:Value} {m:Nat} {xs:List Value} (h:w.ownsRow base e size v (m+1) xs):∃ g cap,v = .slice (some ⟨g,0,none⟩) (m+1) cap∧base≤g∧g<w.heap.size∧m+1≤cap∧v.ownBlock=some g:=by
 rcases h.2 with ⟨_,h0⟩ | ⟨g,cap,cur,rfl,h1,h2,h3,_⟩
 · omega
 · exact ⟨g,cap,rfl,h1,blk_lt h2,h3,rfl⟩
theorem LX.x_ne (h:LX w base xb pv rv sv gv cv G S C R re n) {base':Nat} {e:TypeId} {size:Nat} {v:Value} {m:Nat} {xs:List Value} (ho:w.ownsRow base' e size v m xs) (he:e≠37):v.ownBlock≠some xb:=fun hb=>by
 obtain ⟨cur,hc⟩:=own_at ho hb
 rw [h.x] at hc
 injection hc with hc
 injection hc with _ h2 _
 exact he h2.symm
theorem LX.pushG (h:LX w base xb pv rv sv gv cv G S C R re n) {v' gv':Value} {l:List (Int × Int)} {w1:World} (hv:OwnR w base v' (l++[(-77,-78)])) (hvb:∀ b,v'.ownBlock=some b→¬ Bs xb rv sv gv cv G S C b) (hf:Fr w w1 fun k=>gv.ownBlock=some k) (ho:w1.ownsRow base 40 1 gv' (G.length+1) (G.map Prod.fst++[v'])) (hgb:gv'.ownBlock=gv.ownBlock∨∃ i,gv'.ownBlock=some i∧w.heap.size≤i) :
 LX (w1.setCell ⟨xb,3,none⟩ gv') base xb pv rv sv gv' cv (G++[(v',l)]) S C R re n∧Fr w (w1.setCell ⟨xb,3,none⟩ gv') (Bs xb rv sv gv cv G S C)∧∀ b,Bs xb rv sv gv' cv (G++[(v',l)]) S C b→Bs xb rv sv gv cv G S C b∨w.heap.size≤b∨v'.ownBlock=some b:=by
 have hx1:w1.heap[xb]? = some (.cells #[pv,rv,sv,gv,cv] 37 (0,0)):=(hf.block xb (blk_lt h.x) (h.x_ne h.g (by decide))).trans h.x
 have hf2:Fr w (w1.setCell ⟨xb,3,none⟩ gv') fun k=>gv.ownBlock=some k∨k=xb:=(hf.mono fun k _ e => .inl e).trans (fr_set w1 xb 3 gv') fun i _ e => .inr e
 obtain ⟨g',cap',hgv',_,hlt',_,hob⟩:=fl_slice (m:=G.length) ho
 have hgx:gv'.ownBlock≠some xb:=fun e=>by
  obtain ⟨cur,hc⟩:=own_at ho e
  rw [hx1] at hc
  injection hc with hc
  injection hc with _ h2 _
  exact absurd h2 (by decide)
 have other:∀ {e:TypeId} {size:Nat} {v:Value} {m:Nat} {xs:List Value},w.ownsRow base e size v m xs→e≠37→(∀ b,v.ownBlock=some b→gv.ownBlock≠some b)→(w1.setCell ⟨xb,3,none⟩ gv').ownsRow base e size v m xs:=fun hr he hd=>own_fr hr hf2 fun b hb hc=>by
  rcases hc with hc | hc
  · exact hd b hb hc
  · subst hc;exact h.x_ne hr he hb
 have kind:∀ {e:TypeId} {size:Nat} {v:Value} {m:Nat} {xs:List Value},w.ownsRow base e size v m xs→e≠40→∀ b,v.ownBlock=some b→gv.ownBlock≠some b:=fun hr he b hb=>own_ne hr h.g he hb
 have hlt:∀ x∈S,∀ b,x.1.ownBlock=some b→b<w.heap.size:=fun x hx b hb=>(h.lt (.inr (.inr (.inr (.inr (.inr (.inr (.inl ⟨x,hx,hb⟩)))))))).2
 refine ⟨⟨h.hb,?_,?_,other h.s (by decide) (kind h.s (by decide)),other h.c (by decide) (kind h.c (by decide)),other h.r (by decide) (kind h.r (by decide)),fun x hx => ?_,fun x hx => ?_,fun x hx => ?_,h.ri,?_,?_,h.nc⟩,?_,?_⟩
 · rw [set_heap hx1];rfl
 · have:(w1.setCell ⟨xb,3,none⟩ gv').ownsRow base 40 1 gv' (G.length+1) (G.map Prod.fst++[v']):=own_fr ho (fr_set w1 xb 3 gv') fun b hb e=>by subst e;exact hgx hb
   simpa using this
 · rcases List.mem_append.1 hx with hx | hx
   · exact other (h.gi x hx) (by decide) (kind (h.gi x hx) (by decide))
   · simp at hx;subst hx;exact other hv (by decide) (kind hv (by decide))
 · obtain ⟨⟨mv,h0,h1⟩,h2⟩:=h.si x hx
   refine ⟨⟨mv,h0,other h1 (by decide) fun b hb e => ?_⟩,fun y hy=>List.mem_append_left _ (h2 y hy)⟩
   have:=(List.nodup_cons.1 h.ns).1
   exact this (List.mem_map.2 ⟨x,hx,hb.trans e.symm⟩)
 · exact ⟨other (h.ci x hx).1 (by decide) (kind (h.ci x hx).1 (by decide)),fun y hy=>List.mem_append_left _ ((h.ci x hx).2 y hy)⟩
 · rw [List.map_append,List.nodup_append]
   refine ⟨h.ng,by simp,fun a ha b hb e => ?_⟩
   simp at hb
   subst hb
   obtain ⟨x,hx,rfl⟩:=List.mem_map.1 ha
   obtain ⟨g2,_,hv2,_,_,_,hob2⟩:=fl_slice (w:=w) (m:=x.2.length) (by have:=h.gi x hx;unfold OwnR at this;rw [List.length_append] at this;exact this)
   exact hvb g2 (e ▸ hob2) (.inr (.inr (.inr (.inr (.inr (.inl ⟨x,hx,hob2⟩))))))
 · refine List.nodup_cons.2 ⟨fun hm => ?_,(List.nodup_cons.1 h.ns).2⟩
   rcases hgb with e | ⟨i,e,hi2⟩
   · rw [e] at hm;exact (List.nodup_cons.1 h.ns).1 hm
   · rw [e] at hm
     obtain ⟨x,hx,hb⟩:=List.mem_map.1 hm
     have:=hlt x hx _ hb
     omega
 · exact hf2.mono fun k _ e=>by
    rcases e with e | e
    · simp [Bs,e]
    · exact .inl e
 · rintro b (hb | hb | hb | hb | hb | ⟨x,hx,hb⟩ | ⟨x,hx,hb⟩ | ⟨x,hx,hb⟩)
   · exact .inl (.inl hb)
   · exact .inl (by simp [Bs,hb])
   · exact .inl (by simp [Bs,hb])
   · rcases hgb with e | ⟨i,e,hi2⟩
     · exact .inl (by rw [e] at hb;simp [Bs,hb])
     · rw [e] at hb;injection hb with hb;exact .inr (.inl (by omega))
   · exact .inl (by simp [Bs,hb])
   · rcases List.mem_append.1 hx with hx | hx
     · exact .inl (.inr (.inr (.inr (.inr (.inr (.inl ⟨x,hx,hb⟩))))))
     · simp at hx;subst hx;exact .inr (.inr hb)
   · exact .inl (.inr (.inr (.inr (.inr (.inr (.inr (.inl ⟨x,hx,hb⟩)))))))
   · exact .inl (.inr (.inr (.inr (.inr (.inr (.inr (.inr ⟨x,hx,hb⟩)))))))
end
section
variable {w:World} {base xb:Nat} {pv rv sv gv cv:Value} {G:List It} {S:List (Value × List It)} {C:List (Value × List (Pc × Value))} {R:List LRu} {re:List Value} {n:Nat}
theorem LX.other (h:LX w base xb pv rv sv gv cv G S C R re n) {t:Value} {E:TypeId} {T:Nat} {tl:List Value} {tn:Nat} (ht:w.ownsRow base E T t tn tl) {w1:World} {j:Nat} {u:Value} (hf:Fr w w1 fun k=>t.ownBlock=some k) {e:TypeId} {size:Nat} {v:Value} {m:Nat} {xs:List Value} (hr:w.ownsRow base e size v m xs) (he:e≠37) (hd:e≠E∨∀ b,v.ownBlock=some b→t.ownBlock≠some b):(w1.setCell ⟨xb,j,none⟩ u).ownsRow base e size v m xs:=by
 have hf2:Fr w (w1.setCell ⟨xb,j,none⟩ u) fun k=>t.ownBlock=some k∨k=xb:=(hf.mono fun k _ e => .inl e).trans (fr_set w1 xb j u) fun i _ e => .inr e
 refine own_fr hr hf2 fun b hb hc => ?_
 rcases hc with hc | hc
 · rcases hd with hd | hd
   · exact own_ne hr ht hd hb hc
   · exact hd b hb hc
 · subst hc;exact h.x_ne hr he hb
theorem LX.pushS (h:LX w base xb pv rv sv gv cv G S C R re n) {v' sv' mv:Value} {its:List It} {w1:World} (hv:w.ownsRow base 40 1 v' (its.length+1) (its.map (fun y=>cut y.1)++[mv])) (hm:Len1 mv) (hi:∀ y∈its,y∈G) (hvb:∀ b,v'.ownBlock=some b→¬ Bs xb rv sv gv cv G S C b) (hf:Fr w w1 fun k=>sv.ownBlock=some k) (ho:w1.ownsRow base 34 1 sv' (S.length+1) (S.map Prod.fst++[v'])) (hgb:sv'.ownBlock=sv.ownBlock∨∃ i,sv'.ownBlock=some i∧w.heap.size≤i) :
 LX (w1.setCell ⟨xb,2,none⟩ sv') base xb pv rv sv' gv cv G (S++[(v',its)]) C R re n∧Fr w (w1.setCell ⟨xb,2,none⟩ sv') (Bs xb rv sv gv cv G S C)∧∀ b,Bs xb rv sv' gv cv G (S++[(v',its)]) C b→Bs xb rv sv gv cv G S C b∨w.heap.size≤b∨v'.ownBlock=some b:=by
 have hx1:w1.heap[xb]? = some (.cells #[pv,rv,sv,gv,cv] 37 (0,0)):=(hf.block xb (blk_lt h.x) (h.x_ne h.s (by decide))).trans h.x
 have hf2:Fr w (w1.setCell ⟨xb,2,none⟩ sv') fun k=>sv.ownBlock=some k∨k=xb:=(hf.mono fun k _ e => .inl e).trans (fr_set w1 xb 2 sv') fun i _ e => .inr e
 have hgx:sv'.ownBlock≠some xb:=fun e=>by
  obtain ⟨cur,hc⟩:=own_at ho e
  rw [hx1] at hc
  injection hc with hc
  injection hc with _ h2 _
  exact absurd h2 (by decide)
 obtain ⟨g2,_,hv2,_,_,_,hob2⟩:=fl_slice hv
 refine ⟨⟨h.hb,?_,h.other h.s hf h.g (by decide) (.inl (by decide)),?_,h.other h.s hf h.c (by decide) (.inl (by decide)),h.other h.s hf h.r (by decide) (.inl (by decide)),fun x hx=>h.other h.s hf (h.gi x hx) (by decide) (.inl (by decide)),fun x hx => ?_,fun x hx=>⟨h.other h.s hf (h.ci x hx).1 (by decide) (.inl (by decide)),(h.ci x hx).2⟩,fun r hr => ?_,h.ng,?_,h.nc⟩,?_,?_⟩
 · rw [set_heap hx1];rfl
 · have:(w1.setCell ⟨xb,2,none⟩ sv').ownsRow base 34 1 sv' (S.length+1) (S.map Prod.fst++[v']):=own_fr ho (fr_set w1 xb 2 sv') fun b hb e=>by subst e;exact hgx hb
   simpa using this
 · rcases List.mem_append.1 hx with hx | hx
   · obtain ⟨⟨mv',h0,h1⟩,h2⟩:=h.si x hx
     exact ⟨⟨mv',h0,h.other h.s hf h1 (by decide) (.inl (by decide))⟩,h2⟩
   · simp at hx;subst hx;exact ⟨⟨mv,hm,h.other h.s hf hv (by decide) (.inl (by decide))⟩,hi⟩
 · obtain ⟨a1,a2,a3,a4⟩:=h.ri r hr
   exact ⟨List.mem_append_left _ a1,List.mem_append_left _ a2,List.mem_append_left _ a3,a4⟩
 · rw [List.map_append,←List.cons_append,List.nodup_append]
   refine ⟨h.ns,by simp,fun a ha b hb e => ?_⟩
   simp at hb
   subst hb
   subst e
   refine hvb g2 hob2 ?_
   rw [hob2] at ha
   rcases List.mem_cons.1 ha with ha | ha
   · exact .inr (.inr (.inr (.inl ha.symm)))
   · obtain ⟨x,hx,e⟩:=List.mem_map.1 ha
     exact .inr (.inr (.inr (.inr (.inr (.inr (.inl ⟨x,hx,e⟩))))))
 · exact hf2.mono fun k _ e=>by
    rcases e with e | e
    · simp [Bs,e]
    · exact .inl e
 · rintro b (hb | hb | hb | hb | hb | ⟨x,hx,hb⟩ | ⟨x,hx,hb⟩ | ⟨x,hx,hb⟩)
   · exact .inl (.inl hb)
   · exact .inl (by simp [Bs,hb])
   · rcases hgb with e | ⟨i,e,hi2⟩
     · exact .inl (by rw [e] at hb;simp [Bs,hb])
     · rw [e] at hb;injection hb with hb;exact .inr (.inl (by omega))
   · exact .inl (by simp [Bs,hb])
   · exact .inl (by simp [Bs,hb])
   · exact .inl (.inr (.inr (.inr (.inr (.inr (.inl ⟨x,hx,hb⟩))))))
   · rcases List.mem_append.1 hx with hx | hx
     · exact .inl (.inr (.inr (.inr (.inr (.inr (.inr (.inl ⟨x,hx,hb⟩)))))))
     · simp at hx;subst hx;exact .inr (.inr hb)
   · exact .inl (.inr (.inr (.inr (.inr (.inr (.inr (.inr ⟨x,hx,hb⟩)))))))
theorem LX.pushC (h:LX w base xb pv rv sv gv cv G S C R re n) {v' cv':Value} {its:List (Pc × Value)} {w1:World} (hv:w.ownsRow base 64 4 v' (its.length+1) (pcells its++pend)) (hi:∀ y∈its,(y.2,y.1.tl)∈G) (hvb:∀ b,v'.ownBlock=some b→¬ Bs xb rv sv gv cv G S C b) (hf:Fr w w1 fun k=>cv.ownBlock=some k) (ho:w1.ownsRow base 58 1 cv' (C.length+1) (C.map Prod.fst++[v'])) (hgb:cv'.ownBlock=cv.ownBlock∨∃ i,cv'.ownBlock=some i∧w.heap.size≤i) :
 LX (w1.setCell ⟨xb,4,none⟩ cv') base xb pv rv sv gv cv' G S (C++[(v',its)]) R re n∧Fr w (w1.setCell ⟨xb,4,none⟩ cv') (Bs xb rv sv gv cv G S C)∧∀ b,Bs xb rv sv gv cv' G S (C++[(v',its)]) b→Bs xb rv sv gv cv G S C b∨w.heap.size≤b∨v'.ownBlock=some b:=by
 have hx1:w1.heap[xb]? = some (.cells #[pv,rv,sv,gv,cv] 37 (0,0)):=(hf.block xb (blk_lt h.x) (h.x_ne h.c (by decide))).trans h.x
 have hf2:Fr w (w1.setCell ⟨xb,4,none⟩ cv') fun k=>cv.ownBlock=some k∨k=xb:=(hf.mono fun k _ e => .inl e).trans (fr_set w1 xb 4 cv') fun i _ e => .inr e
 have hgx:cv'.ownBlock≠some xb:=fun e=>by
  obtain ⟨cur,hc⟩:=own_at ho e
  rw [hx1] at hc
  injection hc with hc
  injection hc with _ h2 _
  exact absurd h2 (by decide)
 obtain ⟨g2,_,hv2,_,_,_,hob2⟩:=fl_slice hv
 refine ⟨⟨h.hb,?_,h.other h.c hf h.g (by decide) (.inl (by decide)),h.other h.c hf h.s (by decide) (.inl (by decide)),?_,h.other h.c hf h.r (by decide) (.inl (by decide)),fun x hx=>h.other h.c hf (h.gi x hx) (by decide) (.inl (by decide)),fun x hx => ?_,fun x hx => ?_,fun r hr => ?_,h.ng,h.ns,?_⟩,?_,?_⟩
 · rw [set_heap hx1];rfl
 · have:(w1.setCell ⟨xb,4,none⟩ cv').ownsRow base 58 1 cv' (C.length+1) (C.map Prod.fst++[v']):=own_fr ho (fr_set w1 xb 4 cv') fun b hb e=>by subst e;exact hgx hb
   simpa using this
 · obtain ⟨⟨mv',h0,h1⟩,h2⟩:=h.si x hx
   exact ⟨⟨mv',h0,h.other h.c hf h1 (by decide) (.inl (by decide))⟩,h2⟩
 · rcases List.mem_append.1 hx with hx | hx
   · exact ⟨h.other h.c hf (h.ci x hx).1 (by decide) (.inl (by decide)),(h.ci x hx).2⟩
   · simp at hx;subst hx;exact ⟨h.other h.c hf hv (by decide) (.inl (by decide)),hi⟩
 · obtain ⟨a1,a2,a3,a4⟩:=h.ri r hr
   exact ⟨a1,a2,a3,List.mem_append_left _ a4⟩
 · rw [List.map_append,List.nodup_append]
   refine ⟨h.nc,by simp,fun a ha b hb e => ?_⟩
   simp at hb
   subst hb
   subst e
   refine hvb g2 hob2 ?_
   rw [hob2] at ha
   obtain ⟨x,hx,e⟩:=List.mem_map.1 ha
   exact .inr (.inr (.inr (.inr (.inr (.inr (.inr ⟨x,hx,e⟩))))))
 · exact hf2.mono fun k _ e=>by
    rcases e with e | e
    · simp [Bs,e]
    · exact .inl e
 · rintro b (hb | hb | hb | hb | hb | ⟨x,hx,hb⟩ | ⟨x,hx,hb⟩ | ⟨x,hx,hb⟩)
   · exact .inl (.inl hb)
   · exact .inl (by simp [Bs,hb])
   · exact .inl (by simp [Bs,hb])
   · exact .inl (by simp [Bs,hb])
   · rcases hgb with e | ⟨i,e,hi2⟩
     · exact .inl (by rw [e] at hb;simp [Bs,hb])
     · rw [e] at hb;injection hb with hb;exact .inr (.inl (by omega))
   · exact .inl (.inr (.inr (.inr (.inr (.inr (.inl ⟨x,hx,hb⟩))))))
   · exact .inl (.inr (.inr (.inr (.inr (.inr (.inr (.inl ⟨x,hx,hb⟩)))))))
   · rcases List.mem_append.1 hx with hx | hx
     · exact .inl (.inr (.inr (.inr (.inr (.inr (.inr (.inr ⟨x,hx,hb⟩)))))))
     · simp at hx;subst hx;exact .inr (.inr hb)
theorem LX.pushR (h:LX w base xb pv rv sv gv cv G S C R [] n) {rv':Value} {R':List LRu} {re':List Value} {w1:World} (hi:∀ r∈R',r.a∈S∧r.k∈S∧r.p∈S∧r.q∈C) (hf:Fr w w1 fun k=>rv.ownBlock=some k) (ho:w1.ownsRow base 60 7 rv' (n+1) (rucells R'++re')) (hgb:rv'.ownBlock=rv.ownBlock∨∃ i,rv'.ownBlock=some i∧w.heap.size≤i) :
 LX (w1.setCell ⟨xb,1,none⟩ rv') base xb pv rv' sv gv cv G S C R' re' (n+1)∧Fr w (w1.setCell ⟨xb,1,none⟩ rv') (Bs xb rv sv gv cv G S C)∧∀ b,Bs xb rv' sv gv cv G S C b→Bs xb rv sv gv cv G S C b∨w.heap.size≤b:=by
 have hx1:w1.heap[xb]? = some (.cells #[pv,rv,sv,gv,cv] 37 (0,0)):=(hf.block xb (blk_lt h.x) (h.x_ne h.r (by decide))).trans h.x
 have hf2:Fr w (w1.setCell ⟨xb,1,none⟩ rv') fun k=>rv.ownBlock=some k∨k=xb:=(hf.mono fun k _ e => .inl e).trans (fr_set w1 xb 1 rv') fun i _ e => .inr e
 have hgx:rv'.ownBlock≠some xb:=fun e=>by
  obtain ⟨cur,hc⟩:=own_at ho e
  rw [hx1] at hc
  injection hc with hc
  injection hc with _ h2 _
  exact absurd h2 (by decide)
 refine ⟨⟨h.hb,?_,h.other h.r hf h.g (by decide) (.inl (by decide)),h.other h.r hf h.s (by decide) (.inl (by decide)),h.other h.r hf h.c (by decide) (.inl (by decide)),?_,fun x hx=>h.other h.r hf (h.gi x hx) (by decide) (.inl (by decide)),fun x hx => ?_,fun x hx=>⟨h.other h.r hf (h.ci x hx).1 (by decide) (.inl (by decide)),(h.ci x hx).2⟩,hi,h.ng,h.ns,h.nc⟩,?_,?_⟩
 · rw [set_heap hx1];rfl
 · exact own_fr ho (fr_set w1 xb 1 rv') fun b hb e=>by subst e;exact hgx hb
 · obtain ⟨⟨mv',h0,h1⟩,h2⟩:=h.si x hx
   exact ⟨⟨mv',h0,h.other h.r hf h1 (by decide) (.inl (by decide))⟩,h2⟩
 · exact hf2.mono fun k _ e=>by
    rcases e with e | e
    · simp [Bs,e]
    · exact .inl e
 · rintro b (hb | hb | hb | hb | hb | ⟨x,hx,hb⟩ | ⟨x,hx,hb⟩ | ⟨x,hx,hb⟩)
   · exact .inl (.inl hb)
   · rcases hgb with e | ⟨i,e,hi2⟩
     · exact .inl (by rw [e] at hb;simp [Bs,hb])
     · rw [e] at hb;injection hb with hb;exact .inr (by omega)
   · exact .inl (by simp [Bs,hb])
   · exact .inl (by simp [Bs,hb])
   · exact .inl (by simp [Bs,hb])
   · exact .inl (.inr (.inr (.inr (.inr (.inr (.inl ⟨x,hx,hb⟩))))))
   · exact .inl (.inr (.inr (.inr (.inr (.inr (.inr (.inl ⟨x,hx,hb⟩)))))))
   · exact .inl (.inr (.inr (.inr (.inr (.inr (.inr (.inr ⟨x,hx,hb⟩)))))))
theorem LX.setP (h:LX w base xb pv rv sv gv cv G S C R re n) (u:Value):LX (w.setCell ⟨xb,0,none⟩ u) base xb u rv sv gv cv G S C R re n:=by
 have hf:=fr_set w xb 0 u
 have o:∀ {e:TypeId} {size:Nat} {v:Value} {m:Nat} {xs:List Value},w.ownsRow base e size v m xs→e≠37→(w.setCell ⟨xb,0,none⟩ u).ownsRow base e size v m xs:=fun hr he=>own_fr hr hf fun b hb e=>by subst e;exact h.x_ne hr he hb
 refine ⟨h.hb,by rw [set_heap h.x];rfl,o h.g (by decide),o h.s (by decide),o h.c (by decide),o h.r (by decide),fun x hx=>o (h.gi x hx) (by decide),fun x hx => ?_,fun x hx=>⟨o (h.ci x hx).1 (by decide),(h.ci x hx).2⟩,h.ri,h.ng,h.ns,h.nc⟩
 obtain ⟨⟨mv',h0,h1⟩,h2⟩:=h.si x hx
 exact ⟨⟨mv',h0,o h1 (by decide)⟩,h2⟩
end
theorem inf59:(Tryz.prog.info? 40).map (fun i=>(i.zero,i.size,i.bytes))=some (some (.slice none 0 0),1,24):=by kernel_rfl
theorem inf35:(Tryz.prog.info? 34).map (fun i=>(i.zero,i.size,i.bytes))=some (some (.slice none 0 0),1,24):=by kernel_rfl
theorem inf52:(Tryz.prog.info? 58).map (fun i=>(i.zero,i.size,i.bytes))=some (some (.slice none 0 0),1,24):=by kernel_rfl
theorem inf66:(Tryz.prog.info? 64).map (fun i=>(i.zero,i.size,i.bytes))=some (some (.agg #[.int .i64 0,.int .i64 0,.int .i64 0,.slice none 0 0]),4,48):=by kernel_rfl
theorem inf54:(Tryz.prog.info? 60).map (fun i=>(i.zero,i.size,i.bytes))=some (some (.agg #[.bool false,.slice none 0 0,.slice none 0 0,.slice none 0 0,.bool false,.slice none 0 0,.int .i64 0]),7,120):=by kernel_rfl
theorem app_gen {ops:Array Oper} {rest:List Oper} {o:Oper} {a:Act} {Q:Exit→Act→World→Prop} {w:World} (hgd:o.guard=none) (s x:Operand) (t:TypeId)
 (ho:o.op = .call { callee := .builtin .append,args:=#[s,x],argTypes:=#[t,t] }) (e:TypeId) (z:Value) (size bytes:Nat) (ht:Tryz.prog.underlying t=some (.slice e))
 (hinf:(Tryz.prog.info? e).map (fun i=>(i.zero,i.size,i.bytes))=some (some z,size,bytes)) (hzs:z.cells.size=size) (hsz:0<size)
 (base:Nat) (v:Value) (n:Nat) (xs:List Value) (hs:a.eval s=v) (hown:w.ownsRow base e size v n xs) (gs c:Nat) (news:List Value) (hx:a.eval x = .slice (some ⟨gs,0,none⟩) 1 c)
 (hl:news.length=size) (te:TypeId) (hblk:w.heap[gs]? = some (.cells news.toArray te (0,0))) (h1:∀ u∈news,u.oneCell'=true) (hn:n≤4398046511104) (hby:(n+1)*bytes≤140737488355328) (hbase:base≤w.heap.size)
 (h:∀ g cap w',w'.ownsRow base e size (.slice (some ⟨g,0,none⟩) (n+1) cap) (n+1) (xs++news)→Fr w w' (fun k=>v.ownBlock=some k)→(v.ownBlock=some g∨g=w.heap.size)→wpList Tryz.prog ops Q rest (a.put o.dst (.slice (some ⟨g,0,none⟩) (n+1) cap)) w'):wpList Tryz.prog ops Q (o::rest) a w:=by
 obtain ⟨i0,hi,hz0,hz1,hz2⟩:=info_parts hinf
 refine wpList_append_lies w hgd s x t ho base e i0 z size bytes ht hi hz0 hz1 hz2 hzs hsz v n xs hs hown ⟨gs,0,none⟩ 1 c news hx (by omega) (fun j u hj=>World.news_of_block hblk j u hj) h1 (by omega) (by unfold maxLen;omega) hby hbase w.heap.size rfl (fun g cap w' h2 h3 h4 _=>h g cap w' h2 (fr_by h3) h4)
theorem run_appR (w:World) (ty:TypeId) (base g cap:Nat) (l b:List (Int × Int)) (xv:Value) (hown:OwnR w base (.slice (some ⟨g,0,none⟩) l.length cap) l) (hr:Rs w xv b) (hl:l.length+b.length≤4294967296) (hbase:base≤w.heap.size) :
 ∃ g' cap' w',(Builtin.append_ #[40,40] ty #[.slice (some ⟨g,0,none⟩) l.length cap,xv]).run Tryz.prog w = .ok (.slice (some ⟨g',0,none⟩) (l++b).length cap') w'∧OwnR w' base (.slice (some ⟨g',0,none⟩) (l++b).length cap') (l++b)∧Fr w w' (fun k=>g=k)∧(g=g'∨g'=w.heap.size):=by
 obtain ⟨i0,hi0,hz0,hz1,hz2⟩:=info_parts info38
 obtain ⟨A,c,rfl,hc,hr⟩:=hr
 have hcap:l.length≤cap:=by
  rcases hown.2 with ⟨e,_⟩ | ⟨g',cap',cur,e,_,_,h3,_⟩
  · cases e
  · injection e with _ _ e3;omega
 by_cases he:b=[]
 · subst he
   have hr:=run_append_nothing (P:=Tryz.prog) w 40 40 ty 67 i0 Tryz.underlying40 hi0 (some ⟨g,0,none⟩) l.length cap hcap (.slice A 0 c) ⟨.inl ⟨67,Tryz.underlying40⟩,fun w'=>by cases A <;> simp [Builtin.lenOf,go_sem],by cases A <;> simp [Builtin.firstCells,go_sem],by cases A <;> simp [Builtin.firstCells,go_sem],by simp,by simp⟩
   exact ⟨g,cap,w,by simpa using hr,by simpa using hown,Fr.refl _ _,.inl rfl⟩
 · obtain ⟨g1,o',rfl,hd⟩:=hr.resolve_left he
   obtain ⟨v',w',h1,h2,h3,h4,h5⟩:=run_append_own_at (P:=Tryz.prog) w base 40 ty 67 i0 (.agg #[.int .i64 0,.int .i64 0]) 2 16 Tryz.underlying40 hi0 hz0 hz1 hz2 rfl (by decide) (.slice (some ⟨g,0,none⟩) l.length cap) l.length (fl l) hown ⟨g1,o',none⟩ b.length c (fl b) (fl_length b) (fun j u hj=>by
    have hjl:j<b.length*2:=by rw [←fl_length];exact (List.getElem?_eq_some_iff.1 hj).1
    have hadd:(⟨g1,o',none⟩:Addr).add j=⟨g1,o'+j,none⟩:=by unfold Addr.add;split <;> simp_all
    rw [hadd]
    obtain ⟨i,hi⟩:∃ i,j=i*2∨j=i*2+1:=⟨j / 2,by omega⟩
    have hil:i<b.length:=by omega
    have k1:=hd i hil
    have k2:=fl_at b hil
    rcases hi with rfl | rfl
    · rw [k2.1] at hj;injection hj with hj;subst hj;exact k1.1
    · rw [k2.2] at hj;injection hj with hj;subst hj;rw [←Nat.add_assoc];exact k1.2) (fl_one _) (by unfold maxLen;omega) (by omega) hbase
   have hO:OwnR w' base v' (l++b):=by
    unfold OwnR
    rw [List.length_append,fl_append];exact h2
   rcases hO.2 with ⟨e,_⟩ | ⟨g2,cap2,cur,e,_,_,hcp,_⟩
   · exact absurd (h4.1 e).1 (by intro e;cases e)
   · subst e
     refine ⟨g2,cap2,w',h1,hO,(fr_by h3).mono fun k _ e=>by injection e,?_⟩
     rcases h5 with h5 | h5
     · injection h5 with h5;exact .inl h5.symm
     · injection h5 with h5;exact .inr h5
theorem app_R2 {ops:Array Oper} {rest:List Oper} {o:Oper} {a:Act} {Q:Exit→Act→World→Prop} {w:World} (hgd:o.guard=none) (s x:Operand)
 (ho:o.op = .call { callee := .builtin .append,args:=#[s,x],argTypes:=#[40,40] })
 (base g cap:Nat) (l b k:List (Int × Int)) (hk:l++b=k) (xv:Value) (hs:a.eval s = .slice (some ⟨g,0,none⟩) l.length cap) (hown:OwnR w base (.slice (some ⟨g,0,none⟩) l.length cap) l) (hx:a.eval x=xv) (hr:Rs w xv b) (hl:l.length+b.length≤4294967296) (hbase:base≤w.heap.size)
 (h:∀ g' cap' w',OwnR w' base (.slice (some ⟨g',0,none⟩) k.length cap') k→Fr w w' (fun j=>g=j)→(g=g'∨g'=w.heap.size)→wpList Tryz.prog ops Q rest (a.put o.dst (.slice (some ⟨g',0,none⟩) k.length cap')) w'):wpList Tryz.prog ops Q (o::rest) a w:=by
 subst hk
 refine wpList_plain hgd fun K hK => ?_
 obtain ⟨g',cap',w',hr2,h1,h2,h3⟩:=run_appR w o.type base g cap l b xv hown hr hl hbase
 unfold Oper.wp execOp
 simp only [ho,resolve,invoke,builtin,Sem.run_bind,Sem.run_pure,Result.andThen_ok,List.map_toArray,List.map_cons,List.map_nil,hs,hx,hr2]
 exact hK _ _ (h g' cap' w' h1 h2 h3)
theorem own_emptyR (w:World):OwnR (w.alloc (.cells #[] 67)) w.heap.size (.slice (some ⟨w.heap.size,0,none⟩) 0 0) []:=
 ⟨rfl,.inr ⟨w.heap.size,0,#[],rfl,Nat.le_refl _,heap_alloc_new w _,Nat.le_refl _,Nat.zero_le _,rfl,rfl⟩⟩
theorem mark_any (w:World):Calls Tryz.prog 43 #[] w fun e w'=>e = .returned (.agg #[.int .i64 (-77),.int .i64 (-78)])∧Grown w w':=by
 go_enter Tryz.func43,Tryz.ntmps43
 go_wp2
 refine bodyPost_ret (v := .agg #[.int .i64 (-77),.int .i64 (-78)]) ?_ rfl ⟨rfl,(Grown.refl _).alloc _⟩
 have hr:Tryz.f43.results=#[.cell 0 67]:=rfl
 simp only [results,hr]
 simp [go_sem]
theorem rs_mark {W:World} {g:Nat} (h:W.heap[g]? = some (.cells #[.int .i64 (-77),.int .i64 (-78)] 67 (0,0))):Rs W (.slice (some ⟨g,0,none⟩) 1 1) [(-77,-78)]:=by
 refine ⟨_,1,rfl,Nat.le_refl _,.inr ⟨g,0,rfl,fun j hj => ?_⟩⟩
 have:j=0:=by simp at hj;omega
 subst this
 exact ⟨by rw [cell_of h];rfl,by rw [cell_of h];rfl⟩
set_option maxHeartbeats 4000000 in
theorem set_lx {w:World} {base xb:Nat} {pv rv sv gv cv:Value} {G:List It} {S:List (Value × List It)} {C:List (Value × List (Pc × Value))} {R:List LRu} {re:List Value} {n:Nat} (h:LX w base xb pv rv sv gv cv G S C R re n) (xv:Value) (l:List (Int × Int)) (hr:Rs w xv l) (hl:l.length≤2147483647) (hG:G.length≤4398046511103) :
 Calls Tryz.prog 35 #[.pointer (some ⟨xb,0,none⟩),xv] w fun e w'=>∃ v' gv',e = .returned (cut v')∧LX w' base xb pv rv sv gv' cv (G++[(v',l)]) S C R re n∧Fr w w' (Bs xb rv sv gv cv G S C)∧∀ b,Bs xb rv sv gv' cv (G++[(v',l)]) S C b→Bs xb rv sv gv cv G S C b∨w.heap.size≤b:=by
 have HX:Hid (LX w base xb pv rv sv gv cv G S C R re n):=h
 have HR:Hid (∀ ob,Rs (w.alloc ob) xv l):=fun ob=>hr.grown ((Grown.refl _).alloc ob)
 have HO0:Hid (OwnR (w.alloc (.cells #[] 67)) w.heap.size (.slice (some ⟨w.heap.size,0,none⟩) ([]:List (Int × Int)).length 0) []):=own_emptyR w
 obtain ⟨xa,xc,hxv,hx1,hx2⟩:=hr
 clear hx1 hx2
 obtain ⟨m,hm⟩:∃ m,l.length=m:=⟨_,rfl⟩
 have HM:Hid (l.length=m):=hm
 rw [hm] at hxv hl
 have hmI:(m:Int)≤2147483647:=by omega
 have hm0:(0:Int)≤(m:Int):=by omega
 subst hxv
 have HS:Hid (xb<w.heap.size):=(h.lt (.inl rfl)).2
 have HBW:Hid (base≤w.heap.size):=by have:=(h.lt (.inl rfl));show _≤_;omega
 clear h hm
 go_enter Tryz.func35,Tryz.ntmps35
 go_wp2_with (first
  | (go_at_call 43
     refine (mark_any _).mono ?_
     rintro e w2 ⟨rfl,hg2⟩
     have HF2:Hid (Fr w w2 fun _=>False):=HF1.out.trans (fr_grown hg2 _) fun _ _ e=>e
     have HO2:Hid (∀ ob,OwnR (w2.alloc ob) w.heap.size (.slice (some ⟨g1,0,none⟩) l.length c1) l):=fun ob=>(own_fr HO1.out (fr_grown hg2 fun _=>False) fun _ _=>id).alloc ob
     have HZ2:Hid (∀ ob,w.heap.size≤(w2.alloc ob).heap.size):=fun ob=>by have:=HF2.out.size;simp;omega
     clear hg2)
  | (at_builtin;go_must (first
   | (refine app_R2 rfl _ _ rfl w.heap.size w.heap.size 0 [] l l rfl _ rfl HO0.out rfl (HR.out _) (by have:=HM.out;show 0+l.length≤_;omega) (((Grown.refl w).alloc _).size) ?_
      intro g1 c1 w1 hO1 hF1 hg1
      have HF1:Hid (Fr w w1 fun _=>False):=((fr_grown ((Grown.refl w).alloc (.cells #[] 67)) _).trans hF1 fun i hi e=>by have e:w.heap.size=i:=e;omega)
      have HO1:Hid (OwnR w1 w.heap.size (.slice (some ⟨g1,0,none⟩) l.length c1) l):=hO1
      have HG1:Hid (w.heap.size≤g1):=hg1.elim (fun e=>by show _≤_;omega) (fun e=>by show _≤_;rw [e];exact ((Grown.refl w).alloc _).size)
      rw [HM.out]
      clear hO1 hF1 hg1)
   | (refine app_R2 rfl _ _ rfl w.heap.size g1 c1 l [(-77,-78)] _ rfl _ (by rw [HM.out];rfl) (HO2.out _) rfl (rs_mark (heap_alloc_new _ _)) (by have:=HM.out;show l.length+1≤_;omega) (HZ2.out _) ?_
      intro g2 c2 w3 hO3 hF3 hg3
      have HO3:Hid (OwnR w3 w.heap.size (.slice (some ⟨g2,0,none⟩) (l++[(-77,-78)]).length c2) (l++[(-77,-78)])):=hO3
      have HF3:Hid (Fr w w3 fun _=>False):=(HF2.out.trans (fr_grown ((Grown.refl w2).alloc (.cells #[.int .i64 (-77),.int .i64 (-78)] 67)) fun _=>False) fun _ _ e=>e).trans hF3 fun i hi e=>by have e:g1=i:=e;have:=HG1.out;omega
      have HG2:Hid (w.heap.size≤g2):=hg3.elim (fun e=>by have:=HG1.out;show _≤_;omega) (fun e=>by show _≤_;rw [e];exact HZ2.out _)
      have HL:Hid ((l++[(-77,-78)]).length=m+1):=by show _=_;rw [List.length_append,HM.out];rfl
      have HX3:Hid (LX w3 base xb pv rv sv gv cv G S C R re n):=HX.out.fr HF3.out fun _ _=>id
      have e3:w3.cell? ⟨xb,3,none⟩=some gv:=by rw [cell_of HX3.out.x];rfl
      have hcc:m+1≤c2:=by obtain ⟨_,_,e,h2,_⟩:=hO3.rs;injection e with _ _ e;have:=HL.out;omega
      have hccI:(m:Int)≤(c2:Int):=by omega
      rw [HL.out]
      clear hO3 hF3 hg3)
   | (refine app_gen rfl _ _ 34 rfl 40 (.slice none 0 0) 1 24 Tryz.underlying34 inf59 rfl (by decide) base _ G.length (G.map Prod.fst) rfl (HX3.out.grown ((Grown.refl _).alloc _)).g w3.heap.size _ [.slice (some ⟨g2,0,none⟩) (m+1) c2] rfl rfl 40 (heap_alloc_new _ _) (by intro u hu;simp at hu;subst hu;rfl) (by omega) (by omega) (by have:=HBW.out;have:=HF3.out.size;simp;omega) ?_
      intro g4 c4 w4 hO4 hF4 hg4
      have HO4:Hid (w4.ownsRow base 40 1 (.slice (some ⟨g4,0,none⟩) (G.length+1) c4) (G.length+1) (G.map Prod.fst++[.slice (some ⟨g2,0,none⟩) (m+1) c2])):=hO4
      have HF4:Hid (Fr w3 w4 fun k=>gv.ownBlock=some k):=(fr_grown ((Grown.refl w3).alloc _) _).trans hF4 fun _ _ e=>e
      have HG4:Hid (gv.ownBlock=some g4∨w3.heap.size≤g4):=hg4.elim .inl fun e => .inr (by rw [e];exact ((Grown.refl w3).alloc _).size)
      have HX4:Hid (w4.heap[xb]? = some (.cells #[pv,rv,sv,gv,cv] 37 (0,0))):=(HF4.out.block xb (blk_lt HX3.out.x) (HX3.out.x_ne HX3.out.g (by decide))).trans HX3.out.x
      have e4:w4.cell? ⟨xb,3,none⟩=some gv:=by rw [cell_of HX4.out];rfl
      have f4:w4.frozen? ⟨xb,3,none⟩=false:=free_of HX4.out
      clear hO4 hF4 hg4))))
 go_ret
 have hv:OwnR w3 base (.slice (some ⟨g2,0,none⟩) (m+1) c2) (l++[(-77,-78)]):=by
  have:=HO3.out.le HBW.out
  rw [HL.out] at this
  exact this
 have hlt:∀ b,Bs xb rv sv gv cv G S C b→b<w.heap.size:=fun b hb=>(HX.out.lt hb).2
 obtain ⟨hp1,hp2,hp3⟩:=HX3.out.pushG hv (fun b e hb=>by injection e with e;have e:g2=b:=e;have:=hlt b hb;have:=HG2.out;omega) HF4.out HO4.out (HG4.out.elim (fun e => .inl e.symm) fun e => .inr ⟨g4,rfl,e⟩)
 refine ⟨_,_,rfl,hp1,(HF3.out.mono fun _ _ e=>e.elim).trans hp2 fun _ _ e=>e,fun b hb => ?_⟩
 rcases hp3 b hb with h | h | h
 · exact .inl h
 · exact .inr (by have:=HF3.out.size;omega)
 · injection h with h;have h:g2=b:=h;exact .inr (by have:=HG2.out;omega)
def Rob (X:Nat→Prop) (w:World) (P:World→Prop):Prop:=∀ w'',Fr w w'' X→P w''
theorem Rob.now {X:Nat→Prop} {w:World} {P:World→Prop} (h:Rob X w P):P w:=h w (Fr.refl _ _)
theorem Rob.fr {X Y:Nat→Prop} {w w':World} {P:World→Prop} (h:Rob X w P) (hf:Fr w w' Y) (hy:∀ k,k<w.heap.size→Y k→X k):Rob X w' P:=fun w'' h2=>h w'' ((hf.mono hy).trans h2 fun _ _ e=>e)
theorem Rob.less {X Y:Nat→Prop} {w:World} {P:World→Prop} (h:Rob X w P) (hy:∀ k,k<w.heap.size→Y k→X k):Rob Y w P:=fun w'' h2=>h w'' (h2.mono hy)
def RowB (w:World) (g:Nat) (e:TypeId) (F:Nat→Value) (n:Nat):Prop:=∃ cur:Array Value,w.heap[g]? = some (.cells cur e (0,0))∧∀ j,j<n→cur[j]? = some (F j)
theorem RowB.cell {w:World} {g:Nat} {e:TypeId} {F:Nat→Value} {n j:Nat} (h:RowB w g e F n) (hj:j<n):w.cell? ⟨g,j,none⟩=some (F j):=by
 obtain ⟨cur,h1,h2⟩:=h
 rw [cell_of h1,h2 j hj]
theorem RowB.free {w:World} {g:Nat} {e:TypeId} {F:Nat→Value} {n j:Nat} (h:RowB w g e F n):w.frozen? ⟨g,j,none⟩=false:=by
 obtain ⟨cur,h1,h2⟩:=h
 exact free_of h1
theorem RowB.lt {w:World} {g:Nat} {e:TypeId} {F:Nat→Value} {n:Nat} (h:RowB w g e F n):g<w.heap.size:=by
 obtain ⟨cur,h1,_⟩:=h
 exact blk_lt h1
def updF (F:Nat→Value) (i:Nat) (u:Value):Nat→Value:=fun j=>if j=i then u else F j
theorem RowB.set {w:World} {g:Nat} {e:TypeId} {F:Nat→Value} {n:Nat} (h:RowB w g e F n) (i:Nat) (u:Value):RowB (w.setCell ⟨g,i,none⟩ u) g e (updF F i u) n:=by
 obtain ⟨cur,h1,h2⟩:=h
 refine ⟨_,set_heap h1,fun j hj => ?_⟩
 have hlt:j<cur.size:=(Array.getElem?_eq_some_iff.1 (h2 j hj)).1
 rw [Array.getElem?_setIfInBounds]
 by_cases e:i=j
 · subst e;rw [if_pos rfl,if_pos hlt];simp [updF]
 · rw [if_neg e,h2 j hj];simp [updF,Ne.symm e]
theorem RowB.fr {w w':World} {X:Nat→Prop} {g:Nat} {e:TypeId} {F:Nat→Value} {n:Nat} (h:RowB w g e F n) (hf:Fr w w' X) (hx:¬ X g):RowB w' g e F n:=by
 obtain ⟨cur,h1,h2⟩:=h
 exact ⟨cur,(hf.block g (blk_lt h1) hx).trans h1,h2⟩
theorem row_of {w:World} {base:Nat} {e:TypeId} {size:Nat} {v:Value} {n:Nat} {xs:List Value} (h:w.ownsRow base e size v n xs) (hn:n≠0):∃ g cap,v = .slice (some ⟨g,0,none⟩) n cap∧base≤g∧n≤cap∧RowB w g e (fun j=>xs.getD j undef) (n*size):=by
 rcases h.2 with ⟨_,h0⟩ | ⟨g,cap,cur,e1,h1,h2,h3,_,_,h5⟩
 · exact absurd h0 hn
 · refine ⟨g,cap,e1,h1,h3,cur,h2,fun j hj => ?_⟩
   have hl:xs.length=n*size:=h.1
   have hj2:j<xs.length:=by omega
   show cur[j]? = some (xs.getD j undef)
   rw [List.getD_eq_getElem?_getD,List.getElem?_eq_getElem hj2]
   have:(cur.toList.take (n*size))[j]? = some xs[j]:=by rw [h5];exact List.getElem?_eq_getElem hj2
   rw [List.getElem?_take,if_pos hj] at this
   simpa using this
theorem run_appX (w:World) (t ty e:TypeId) (z:Value) (size bytes:Nat) (ht:Tryz.prog.underlying t=some (.slice e)) (hinf:(Tryz.prog.info? e).map (fun i=>(i.zero,i.size,i.bytes))=some (some z,size,bytes)) (hzs:z.cells.size=size) (hsz:0<size) (hb0:bytes≤120)
 (base g:Nat) (hg:w.heap[g]? = some (.cells #[] e (0,0))) (hbg:base≤g) (a:Addr) (n c:Nat) (xs:List Value) (hl:xs.length=n*size) (hr:∀ j u,xs[j]? = some u→w.cell? (a.add j)=some u) (h1:∀ u∈xs,u.oneCell'=true) (hn:n≤4294967296) :
 ∃ v' w',(Builtin.append_ #[t,t] ty #[.slice (some ⟨g,0,none⟩) 0 0,.slice (some a) n c]).run Tryz.prog w = .ok v' w'∧w'.ownsRow base e size v' n xs∧Fr w w' (fun k=>k=g):=by
 obtain ⟨i0,hi0,hz0,hz1,hz2⟩:=info_parts hinf
 have hown:w.ownsRow base e size (.slice (some ⟨g,0,none⟩) 0 0) 0 []:=⟨by simp,.inr ⟨g,0,#[],rfl,hbg,hg,Nat.le_refl _,Nat.zero_le _,by simp,by simp⟩⟩
 by_cases he:n=0
 · subst he
   have hx:xs=[]:=List.eq_nil_of_length_eq_zero (by omega)
   subst hx
   have hr:=run_append_nothing (P:=Tryz.prog) w t t ty e i0 ht hi0 (some ⟨g,0,none⟩) 0 0 (Nat.le_refl _) (.slice (some a) 0 c) ⟨.inl ⟨e,ht⟩,fun w'=>by simp [Builtin.lenOf,go_sem],by simp [Builtin.firstCells,go_sem],by simp [Builtin.firstCells,go_sem],by simp,by simp⟩
   exact ⟨_,w,hr,hown,Fr.refl _ _⟩
 · obtain ⟨v',w',q1,q2,q3,_,_⟩:=run_append_own_at (P:=Tryz.prog) w base t ty e i0 z size bytes ht hi0 hz0 hz1 hz2 hzs hsz (.slice (some ⟨g,0,none⟩) 0 0) 0 [] hown a n c xs hl hr h1 (by unfold maxLen;omega) (by have:(0+n)*bytes≤4294967296*120:=Nat.mul_le_mul (by omega) hb0;omega) (by have:=blk_lt hg;omega)
   refine ⟨v',w',q1,by simpa using q2,(fr_by q3).mono fun k _ e => ?_⟩
   injection e with e
   exact e.symm
theorem app_X {ops:Array Oper} {rest:List Oper} {o:Oper} {ac:Act} {Q:Exit→Act→World→Prop} {w:World} (hgd:o.guard=none) (s x:Operand) (t:TypeId)
 (ho:o.op = .call { callee := .builtin .append,args:=#[s,x],argTypes:=#[t,t] }) (e:TypeId) (z:Value) (size bytes:Nat) (ht:Tryz.prog.underlying t=some (.slice e)) (hinf:(Tryz.prog.info? e).map (fun i=>(i.zero,i.size,i.bytes))=some (some z,size,bytes)) (hzs:z.cells.size=size) (hsz:0<size) (hb0:bytes≤120)
 (base g:Nat) (hs:ac.eval s = .slice (some ⟨g,0,none⟩) 0 0) (hg:w.heap[g]? = some (.cells #[] e (0,0))) (hbg:base≤g) (a:Addr) (n c:Nat) (hx:ac.eval x = .slice (some a) n c) (xs:List Value) (hl:xs.length=n*size) (hr:∀ j u,xs[j]? = some u→w.cell? (a.add j)=some u) (h1:∀ u∈xs,u.oneCell'=true) (hn:n≤4294967296)
 (h:∀ v' w',w'.ownsRow base e size v' n xs→Fr w w' (fun k=>k=g)→wpList Tryz.prog ops Q rest (ac.put o.dst v') w'):wpList Tryz.prog ops Q (o::rest) ac w:=by
 refine wpList_plain hgd fun K hK => ?_
 obtain ⟨v',w',hr2,q1,q2⟩:=run_appX w t o.type e z size bytes ht hinf hzs hsz hb0 base g hg hbg a n c xs hl hr h1 hn
 unfold Oper.wp execOp
 simp only [ho,resolve,invoke,builtin,Sem.run_bind,Sem.run_pure,Result.andThen_ok,List.map_toArray,List.map_cons,List.map_nil,hs,hx,hr2]
 exact hK _ _ (h v' w' q1 q2)
def Lies (w:World) (A:Option Addr) (xs:List Value):Prop:=∀ j u,xs[j]? = some u→∃ a,A=some a∧w.cell? (a.add j)=some u
theorem eqS22 (W:World) (a:Addr) (n c:Nat):(binOp .eql 22 (.slice (some a) n c) (.slice none 0 0)).run Tryz.prog W = .ok (.bool false) W:=by kernel_rfl
theorem eqN22 (W:World) (n c:Nat):(binOp .eql 22 (.slice none n c) (.slice none 0 0)).run Tryz.prog W = .ok (.bool true) W:=by kernel_rfl
set_option maxHeartbeats 2000000 in
theorem clone58 (w:World) (A:Option Addr) (n c:Nat) (xs:List Value) (hA:A=none→n=0) (hl:xs.length=n*7) (hr:Lies w A xs) (h1:∀ u∈xs,u.oneCell'=true) (hn:n≤4294967296) :
 Calls Tryz.prog 70 #[.slice A n c] w fun e w'=>∃ v',e = .returned v'∧w'.ownsRow w.heap.size 60 7 v' n xs∧Below w.heap.size w w':=by
 cases A with
 | none=>
  obtain rfl:=hA rfl
  have hx:xs=[]:=List.eq_nil_of_length_eq_zero (by omega)
  subst hx
  have he:=eqN22
  clear hr h1 hl hn hA
  go_enter Tryz.func70,Tryz.ntmps70
  go_wp2
  go_ret
  exact ⟨_,rfl,World.ownsRow_nil _ _ _ _,(Below.refl _ _)⟩
 | some a=>
  have he:=eqS22
  obtain ⟨h,hh⟩:∃ h,w.heap.size=h:=⟨_,rfl⟩
  have HH:Hid (w.heap.size=h):=hh
  have HG:Hid ((w.alloc (.cells #[] 60)).heap[h]? = some (.cells #[] 60 (0,0))):=by rw [←hh];exact heap_alloc_new w _
  have HR:Hid (∀ j u,xs[j]? = some u→(w.alloc (.cells #[] 60)).cell? (a.add j)=some u):=fun j u hj=>by
   obtain ⟨a',e,h2⟩:=hr j u hj
   injection e with e
   subst e
   exact cell_up h2 _
  have HX:=Hid.mk' (And.intro hl h1)
  clear hr h1 hl hA
  go_enter Tryz.func70,Tryz.ntmps70
  go_wp2_with (at_builtin;go_must (refine app_X rfl _ _ 22 rfl 60 (.agg #[.bool false,.slice none 0 0,.slice none 0 0,.slice none 0 0,.bool false,.slice none 0 0,.int .i64 0]) 7 120 Tryz.underlying22 inf54 rfl (by decide) (by decide) h h rfl HG.out (Nat.le_refl _) a n c rfl xs HX.out.1 HR.out HX.out.2 hn ?_;intro v' w3 hr3 hb3;have H3:=Hid.mk' (And.intro hr3 hb3);clear hr3 hb3))
  go_ret
  have hb:=H3.out.2
  refine ⟨_,rfl,?_,?_⟩
  · have:=H3.out.1
    rw [HH.out]
    exact this
  · exact ((Grown.refl w).alloc _).below.trans (hb.below (fun k e=>by have:=HH.out;omega) (by simp))
theorem eqS51 (W:World) (a:Addr) (n c:Nat):(binOp .eql 58 (.slice (some a) n c) (.slice none 0 0)).run Tryz.prog W = .ok (.bool false) W:=by kernel_rfl
theorem eqN51 (W:World) (n c:Nat):(binOp .eql 58 (.slice none n c) (.slice none 0 0)).run Tryz.prog W = .ok (.bool true) W:=by kernel_rfl
set_option maxHeartbeats 2000000 in
theorem clone60 (w:World) (A:Option Addr) (n c:Nat) (xs:List Value) (hA:A=none→n=0) (hl:xs.length=n*4) (hr:Lies w A xs) (h1:∀ u∈xs,u.oneCell'=true) (hn:n≤4294967296) :
 Calls Tryz.prog 72 #[.slice A n c] w fun e w'=>∃ v',e = .returned v'∧w'.ownsRow w.heap.size 64 4 v' n xs∧Below w.heap.size w w':=by
 cases A with
 | none=>
  obtain rfl:=hA rfl
  have hx:xs=[]:=List.eq_nil_of_length_eq_zero (by omega)
  subst hx
  have he:=eqN51
  clear hr h1 hl hn hA
  go_enter Tryz.func72,Tryz.ntmps72
  go_wp2
  go_ret
  exact ⟨_,rfl,World.ownsRow_nil _ _ _ _,(Below.refl _ _)⟩
 | some a=>
  have he:=eqS51
  obtain ⟨h,hh⟩:∃ h,w.heap.size=h:=⟨_,rfl⟩
  have HH:Hid (w.heap.size=h):=hh
  have HG:Hid ((w.alloc (.cells #[] 64)).heap[h]? = some (.cells #[] 64 (0,0))):=by rw [←hh];exact heap_alloc_new w _
  have HR:Hid (∀ j u,xs[j]? = some u→(w.alloc (.cells #[] 64)).cell? (a.add j)=some u):=fun j u hj=>by
   obtain ⟨a',e,h2⟩:=hr j u hj
   injection e with e
   subst e
   exact cell_up h2 _
  have HX:=Hid.mk' (And.intro hl h1)
  clear hr h1 hl hA
  go_enter Tryz.func72,Tryz.ntmps72
  go_wp2_with (at_builtin;go_must (refine app_X rfl _ _ 58 rfl 64 (.agg #[.int .i64 0,.int .i64 0,.int .i64 0,.slice none 0 0]) 4 48 Tryz.underlying58 inf66 rfl (by decide) (by decide) h h rfl HG.out (Nat.le_refl _) a n c rfl xs HX.out.1 HR.out HX.out.2 hn ?_;intro v' w3 hr3 hb3;have H3:=Hid.mk' (And.intro hr3 hb3);clear hr3 hb3))
  go_ret
  have hb:=H3.out.2
  refine ⟨_,rfl,?_,?_⟩
  · have:=H3.out.1
    rw [HH.out]
    exact this
  · exact ((Grown.refl w).alloc _).below.trans (hb.below (fun k e=>by have:=HH.out;omega) (by simp))
theorem eqS60 (W:World) (a:Addr) (n c:Nat):(binOp .eql 40 (.slice (some a) n c) (.slice none 0 0)).run Tryz.prog W = .ok (.bool false) W:=by kernel_rfl
theorem eqN60 (W:World) (n c:Nat):(binOp .eql 40 (.slice none n c) (.slice none 0 0)).run Tryz.prog W = .ok (.bool true) W:=by kernel_rfl
set_option maxHeartbeats 2000000 in
theorem clone61 (w:World) (A:Option Addr) (n c:Nat) (xs:List Value) (hA:A=none→n=0) (hl:xs.length=n*2) (hr:Lies w A xs) (h1:∀ u∈xs,u.oneCell'=true) (hn:n≤4294967296) :
 Calls Tryz.prog 73 #[.slice A n c] w fun e w'=>∃ v',e = .returned v'∧w'.ownsRow w.heap.size 67 2 v' n xs∧Below w.heap.size w w':=by
 cases A with
 | none=>
  obtain rfl:=hA rfl
  have hx:xs=[]:=List.eq_nil_of_length_eq_zero (by omega)
  subst hx
  have he:=eqN60
  clear hr h1 hl hn hA
  go_enter Tryz.func73,Tryz.ntmps73
  go_wp2
  go_ret
  exact ⟨_,rfl,World.ownsRow_nil _ _ _ _,(Below.refl _ _)⟩
 | some a=>
  have he:=eqS60
  obtain ⟨h,hh⟩:∃ h,w.heap.size=h:=⟨_,rfl⟩
  have HH:Hid (w.heap.size=h):=hh
  have HG:Hid ((w.alloc (.cells #[] 67)).heap[h]? = some (.cells #[] 67 (0,0))):=by rw [←hh];exact heap_alloc_new w _
  have HR:Hid (∀ j u,xs[j]? = some u→(w.alloc (.cells #[] 67)).cell? (a.add j)=some u):=fun j u hj=>by
   obtain ⟨a',e,h2⟩:=hr j u hj
   injection e with e
   subst e
   exact cell_up h2 _
  have HX:=Hid.mk' (And.intro hl h1)
  clear hr h1 hl hA
  go_enter Tryz.func73,Tryz.ntmps73
  go_wp2_with (at_builtin;go_must (refine app_X rfl _ _ 40 rfl 67 (.agg #[.int .i64 0,.int .i64 0]) 2 16 Tryz.underlying40 info38 rfl (by decide) (by decide) h h rfl HG.out (Nat.le_refl _) a n c rfl xs HX.out.1 HR.out HX.out.2 hn ?_;intro v' w3 hr3 hb3;have H3:=Hid.mk' (And.intro hr3 hb3);clear hr3 hb3))
  go_ret
  have hb:=H3.out.2
  refine ⟨_,rfl,?_,?_⟩
  · have:=H3.out.1
    rw [HH.out]
    exact this
  · exact ((Grown.refl w).alloc _).below.trans (hb.below (fun k e=>by have:=HH.out;omega) (by simp))
theorem eqS33 (W:World) (a:Addr) (n c:Nat):(binOp .eql 34 (.slice (some a) n c) (.slice none 0 0)).run Tryz.prog W = .ok (.bool false) W:=by kernel_rfl
theorem eqN33 (W:World) (n c:Nat):(binOp .eql 34 (.slice none n c) (.slice none 0 0)).run Tryz.prog W = .ok (.bool true) W:=by kernel_rfl
set_option maxHeartbeats 2000000 in
theorem clone85 (w:World) (A:Option Addr) (n c:Nat) (xs:List Value) (hA:A=none→n=0) (hl:xs.length=n*1) (hr:Lies w A xs) (h1:∀ u∈xs,u.oneCell'=true) (hn:n≤4294967296) :
 Calls Tryz.prog 103 #[.slice A n c] w fun e w'=>∃ v',e = .returned v'∧w'.ownsRow w.heap.size 40 1 v' n xs∧Below w.heap.size w w':=by
 cases A with
 | none=>
  obtain rfl:=hA rfl
  have hx:xs=[]:=List.eq_nil_of_length_eq_zero (by omega)
  subst hx
  have he:=eqN33
  clear hr h1 hl hn hA
  go_enter Tryz.func103,Tryz.ntmps103
  go_wp2
  go_ret
  exact ⟨_,rfl,World.ownsRow_nil _ _ _ _,(Below.refl _ _)⟩
 | some a=>
  have he:=eqS33
  obtain ⟨h,hh⟩:∃ h,w.heap.size=h:=⟨_,rfl⟩
  have HH:Hid (w.heap.size=h):=hh
  have HG:Hid ((w.alloc (.cells #[] 40)).heap[h]? = some (.cells #[] 40 (0,0))):=by rw [←hh];exact heap_alloc_new w _
  have HR:Hid (∀ j u,xs[j]? = some u→(w.alloc (.cells #[] 40)).cell? (a.add j)=some u):=fun j u hj=>by
   obtain ⟨a',e,h2⟩:=hr j u hj
   injection e with e
   subst e
   exact cell_up h2 _
  have HX:=Hid.mk' (And.intro hl h1)
  clear hr h1 hl hA
  go_enter Tryz.func103,Tryz.ntmps103
  go_wp2_with (at_builtin;go_must (refine app_X rfl _ _ 34 rfl 40 (.slice none 0 0) 1 24 Tryz.underlying34 inf59 rfl (by decide) (by decide) h h rfl HG.out (Nat.le_refl _) a n c rfl xs HX.out.1 HR.out HX.out.2 hn ?_;intro v' w3 hr3 hb3;have H3:=Hid.mk' (And.intro hr3 hb3);clear hr3 hb3))
  go_ret
  have hb:=H3.out.2
  refine ⟨_,rfl,?_,?_⟩
  · have:=H3.out.1
    rw [HH.out]
    exact this
  · exact ((Grown.refl w).alloc _).below.trans (hb.below (fun k e=>by have:=HH.out;omega) (by simp))
theorem Rs.fr {w w':World} {X:Nat→Prop} {v:Value} {l:List (Int × Int)} (h:Rs w v l) (hf:Fr w w' X) (hx:∀ b,v.ownBlock=some b→¬ X b):Rs w' v l:=by
 obtain ⟨A,c,rfl,h1,h2⟩:=h
 refine ⟨A,c,rfl,h1,h2.imp id ?_⟩
 rintro ⟨g,o,rfl,hr⟩
 refine ⟨g,o,rfl,fun j hj => ?_⟩
 have hb:=hx g rfl
 have k:=hr j hj
 have hlt:=cell_lt k.1
 have e:w'.heap[g]? = w.heap[g]? := hf.block g hlt hb
 exact ⟨by rw [cell_same e];exact k.1,by rw [cell_same e];exact k.2⟩
theorem OwnR.rob {w:World} {base:Nat} {v:Value} {l:List (Int × Int)} (h:OwnR w base v l):Rob (fun k=>k<base) w fun W=>Rs W v l:=fun W hf=>h.rs.fr hf fun b hb hx=>by
 have:=(World.ownsRow.lt h b hb).1
 omega
theorem clone_rs (v:Value) (l:List (Int × Int)) (w:World) (h:Rs w v l) (hn:l.length≤4294967296):Calls Tryz.prog 73 #[v] w fun e w'=>∃ v',e = .returned v'∧IsSl v'∧Rob (fun k=>k<w.heap.size) w' (fun W=>Rs W v' l)∧Below w.heap.size w w':=by
 obtain ⟨A,c,rfl,h1,h2⟩:=h
 refine (clone61 w A l.length c (fl l) (fun e => ?_) (fl_length l) (fun j u hj => ?_) (fl_one _) hn).mono ?_
 · rcases h2 with h2 | ⟨g,o,e2,_⟩
   · rw [h2];rfl
   · rw [e] at e2;cases e2
 · have hjl:j<l.length*2:=by rw [←fl_length];exact (List.getElem?_eq_some_iff.1 hj).1
   obtain ⟨g,o,rfl,hd⟩:=h2.resolve_left fun e=>by rw [e] at hjl;simp at hjl
   refine ⟨_,rfl,?_⟩
   have hadd:(⟨g,o,none⟩:Addr).add j=⟨g,o+j,none⟩:=by unfold Addr.add;split <;> simp_all
   rw [hadd]
   obtain ⟨i,hi⟩:∃ i,j=i*2∨j=i*2+1:=⟨j / 2,by omega⟩
   have hil:i<l.length:=by omega
   have k1:=hd i hil
   have k2:=fl_at l hil
   rcases hi with rfl | rfl
   · rw [k2.1] at hj;injection hj with hj;subst hj;exact k1.1
   · rw [k2.2] at hj;injection hj with hj;subst hj;rw [←Nat.add_assoc];exact k1.2
 · rintro e w' ⟨v',rfl,hO,hB⟩
   have hO:OwnR w' w.heap.size v' l:=hO
   exact ⟨v',rfl,hO.rs.sl,hO.rob,hB⟩
theorem SRd.vals {w:World} {g o:Nat} {ls:List (List (Int × Int))} (h:SRd w g o ls):∃ F:Nat→Value,∀ j,j<ls.length→w.cell? ⟨g,o+j,none⟩=some (F j)∧Rs w (F j) (ls.getD j []):=by
 have h':∀ (j:Nat) (hj:j<ls.length),∃ sv,w.cell? ⟨g,o+j,none⟩=some sv∧Rs w sv ls[j]:=h
 refine ⟨fun j=>if hj:j<ls.length then Classical.choose (h' j hj) else undef,fun j hj => ?_⟩
 have:=Classical.choose_spec (h' j hj)
 simp only [dif_pos hj,List.getD_eq_getElem?_getD,List.getElem?_eq_getElem hj,Option.getD_some]
 exact this
theorem map_range_at (F:Nat→Value) (n j:Nat) (u:Value) (h:((List.range n).map F)[j]? = some u):j<n∧u=F j:=by
 have hj:j<n:=by
  have:=(List.getElem?_eq_some_iff.1 h).1
  simpa using this
 rw [List.getElem?_map,List.getElem?_range hj] at h
 exact ⟨hj,(Option.some.inj h).symm⟩
theorem own_sl2 {w:World} {base:Nat} {e:TypeId} {size:Nat} {v:Value} {n:Nat} {xs:List Value} (h:w.ownsRow base e size v n xs):∃ a cap,v = .slice a n cap:=by
 rcases h.2 with ⟨e,h0⟩ | ⟨g,cap,cur,e,_⟩
 · exact ⟨none,0,by rw [e,h0]⟩
 · exact ⟨_,cap,e⟩
theorem isSl_one {v:Value} (h:IsSl v):v.oneCell'=true:=by
 obtain ⟨a,n,c,rfl⟩:=h
 rfl
theorem add_none (g o j:Nat):(⟨g,o,none⟩:Addr).add j=⟨g,o+j,none⟩:=by unfold Addr.add;split <;> simp_all
structure OR (w wr:World) (base g:Nat) (ls:List (List (Int × Int))) (F:Nat→Value) (k:Nat) (G:Nat→Value):Prop where
 row:RowB wr g 40 G ls.length
 new:∀ j,j<k→Rob (fun i=>i<base∨i=g) wr fun W=>Rs W (G j) (ls.getD j [])
 old:∀ j,k≤j→G j=F j
 bel:Below base w wr
set_option maxHeartbeats 4000000 in
theorem ownRow_any (v:Value) (ls:List (List (Int × Int))) (w:World) (h:SR w v ls) (hn:ls.length≤4294967296) (hs:∀ l∈ls,l.length≤4294967296) :
 Calls Tryz.prog 71 #[v] w fun e w'=>∃ v',e = .returned v'∧Rob (fun k=>k<w.heap.size) w' (fun W=>SR W v' ls)∧Below w.heap.size w w':=by
 obtain ⟨A,c,rfl,h1,h2⟩:=h
 obtain ⟨n,hN⟩:∃ n,ls.length=n:=⟨_,rfl⟩
 have HN:=Hid.mk' hN
 by_cases h0:n=0
 · have hl0:ls=[]:=List.eq_nil_of_length_eq_zero (by omega)
   have HC:Hid (Calls Tryz.prog 103 #[.slice A 0 c] w fun e w'=>∃ v',e = .returned v'∧w'.ownsRow w.heap.size 40 1 v' 0 []∧Below w.heap.size w w'):=by
    refine clone85 w A 0 c [] (fun _=>rfl) rfl (fun j u hj=>by simp at hj) (by simp) (by omega)
   subst hl0
   rw [show ([]:List (List (Int × Int))).length=0 from rfl]
   clear h1 h2 hn hs hN HN
   go_enter Tryz.func71,Tryz.ntmps71
   go_wp2_with (go_at_call 103;refine HC.out.mono ?_;rintro e w1 ⟨v1,rfl,hO,hB⟩;obtain ⟨q1,q3,hv⟩:=own_sl2 hO;subst hv;have HO:=Hid.mk' (And.intro hO hB);clear hO hB)
   go_loopw [4,5,10] (fun _ _ v10 wr=>v10 = .int .i64 0∧wr=w1) (fun _ _ _ _=>0)
   case atStart=>exact ⟨rfl,rfl⟩
   case round=>
    obtain ⟨rfl,rfl⟩:=hrel
    go_wp2
    go_ret
    refine ⟨_,rfl,fun W _=>⟨q1,q3,rfl,Nat.zero_le _,.inl rfl⟩,HO.out.2⟩
 · obtain ⟨g0,o0,rfl,hd⟩:=h2.resolve_left fun e=>h0 (by rw [←hN,e];rfl)
   obtain ⟨F,hF⟩:=hd.vals
   have HF:=Hid.mk' hF
   have hFs:∀ j,j<n→IsSl (F j):=fun j hj=>(hF j (by omega)).2.sl
   have HC:Hid (Calls Tryz.prog 103 #[.slice (some ⟨g0,o0,none⟩) n c] w fun e w'=>∃ v',e = .returned v'∧w'.ownsRow w.heap.size 40 1 v' n ((List.range n).map F)∧Below w.heap.size w w'):=by
    refine clone85 w _ n c _ (fun e=>by cases e) (by simp) (fun j u hj => ?_) (fun u hu => ?_) (by omega)
    · obtain ⟨hj1,rfl⟩:=map_range_at F n j u hj
      exact ⟨_,rfl,by rw [add_none];exact (hF j (by omega)).1⟩
    · obtain ⟨j,hj,rfl⟩:=List.mem_map.1 hu
      exact isSl_one (hFs j (List.mem_range.1 hj))
   rw [hN]
   have hnI:(n:Int)≤4294967296:=by omega
   have HS:=Hid.mk' hs
   clear h1 h2 hd hF hs hN
   go_enter Tryz.func71,Tryz.ntmps71
   go_wp2_with (go_at_call 103;refine HC.out.mono ?_;rintro e w1 ⟨v1,rfl,hO,hB⟩;obtain ⟨g,cap,hv,hg,hcap,hrow⟩:=row_of hO h0;subst hv;have HO:=Hid.mk' (And.intro hg (And.intro hcap (And.intro hrow hB)));clear hO hB hrow)
   have HK0:Hid (OR w w1 w.heap.size g ls F 0 F):=by
    obtain ⟨k1,k2,⟨cur,k3,k5⟩,k4⟩:=HO.out
    refine ⟨⟨cur,k3,fun j hj => ?_⟩,fun j hj=>by omega,fun j _=>rfl,k4⟩
    have hj2:j<n:=by have:=HN.out;omega
    rw [k5 j (by omega)]
    show some (((List.range n).map F).getD j undef)=_
    rw [List.getD_eq_getElem?_getD,List.getElem?_map,List.getElem?_range hj2]
    rfl
   go_loopw [4,5,10] (fun _ _ v10 wr=>∃ k:Nat,v10 = .int .i64 k∧k≤n∧Hid (∃ G,OR w wr w.heap.size g ls F k G)) (fun _ _ v10 _=>n - (intOf v10).toNat)
   case atStart=>exact ⟨0,rfl,by omega,_,HK0.out⟩
   case round=>
    obtain ⟨k,rfl,hk,HG⟩:=hrel
    obtain ⟨G,hG⟩:=HG.out
    by_cases hlt:k<n
    · have hltI:(k:Int)<(n:Int):=by omega
      have hkl:k<ls.length:=by have:=HN.out;omega
      have ck:wr.cell? ⟨g,k,none⟩=some (F k):=by rw [hG.row.cell hkl,hG.old k (Nat.le_refl _)]
      have hgl:=hG.row.lt
      obtain ⟨x1,x2,x3,hx⟩:=hFs k hlt
      have HCl:Hid (∀ W,Grown wr W→Calls Tryz.prog 73 #[F k] W fun e w'=>∃ y1 y2 y3,e = .returned (.slice y1 y2 y3)∧Rob (fun i=>i<W.heap.size) w' (fun W=>Rs W (.slice y1 y2 y3) (ls.getD k []))∧Below W.heap.size W w'):=fun W hg=>by
       have hm:ls.getD k []∈ls:=by rw [List.getD_eq_getElem?_getD,List.getElem?_eq_getElem hkl];exact List.getElem_mem hkl
       refine (clone_rs (F k) (ls.getD k []) W (((HF.out k hkl).2.below hG.bel (Nat.le_refl _)).below hg.below (Nat.le_refl _)) (HS.out _ hm)).mono ?_
       rintro e w' ⟨v',rfl,⟨y1,y2,y3,rfl⟩,h1,h2⟩
       exact ⟨y1,y2,y3,rfl,h1,h2⟩
      rw [hx] at HCl ck
      have HGG:=Hid.mk' hG
      have HX:=Hid.mk' hx
      have hcI:(k:Int)<(cap:Int):=by omega
      clear hG hx
      go_wp2_with (go_at_call 73;go_must (refine (HCl.out _ (by (repeat (first | exact Grown.refl _ | refine Grown.alloc ?_ _ | refine Grown.drew ?_)))).mono ?_;rintro e w5 ⟨y1,y2,y3,rfl,hr5,hb5⟩;have H5:=Hid.mk' (And.intro hr5 hb5);have hR5:RowB w5 g 40 G ls.length:=HGG.out.row.fr (fr_below hb5 (Nat.le_refl _) (fun _=>False)) id;have e5:=hR5.cell hkl;have f5:w5.frozen? ⟨g,k,none⟩=false:=hR5.free;rw [HGG.out.old k (Nat.le_refl _),HX.out] at e5;have HR5:=Hid.mk' hR5;clear hr5 hb5 hR5))
      refine ⟨⟨k+1,by go_num,by omega,updF G k (.slice y1 y2 y3),?_⟩,by simp [intOf];omega⟩
      have hG:=HGG.out
      have hbl:=H5.out.2
      have hfs:=fr_set w5 g k (.slice y1 y2 y3)
      have hbw:w.heap.size≤wr.heap.size:=hG.bel.size
      refine ⟨HR5.out.set k _,fun j hj => ?_,fun j hj => ?_,?_⟩
      · by_cases e:j=k
        · subst e
          have e1:updF G j (.slice y1 y2 y3) j = .slice y1 y2 y3:=by simp [updF]
          rw [e1]
          refine Rob.fr (H5.out.1.less fun i _ hi => ?_) hfs fun i _ e => .inr e
          show i<wr.heap.size
          rcases hi with hi | hi <;> omega
        · have e1:updF G k (.slice y1 y2 y3) j=G j:=by simp [updF,e]
          rw [e1]
          exact Rob.fr (Rob.fr (hG.new j (by omega)) (fr_below hbl (Nat.le_refl _) (fun _=>False)) fun _ _ e=>e.elim) hfs fun i _ e => .inr e
      · have e1:updF G k (.slice y1 y2 y3) j=G j:=by simp [updF];omega
        rw [e1]
        exact hG.old j (by omega)
      · exact (hG.bel.trans (hbl.mono hbw)).setCell (by have:=HO.out.1;exact this) _
    · obtain rfl:k=n:=by omega
      have hge:¬ (k:Int)<(k:Int):=by omega
      clear hG
      go_wp2
      go_ret
      obtain ⟨G,hG⟩:=HG.out
      refine ⟨.slice (some ⟨g,0,none⟩) k cap,rfl,fun W hf=>⟨some ⟨g,0,none⟩,cap,by rw [HN.out],by rw [HN.out];exact HO.out.2.1,.inr ⟨g,0,rfl,fun j hj=>⟨G j,?_,?_⟩⟩⟩,hG.bel⟩
      · rw [Nat.zero_add]
        exact (hG.row.fr hf fun e=>by have:=HO.out.1;omega).cell hj
      · have:=(hG.new j (by have:=HN.out;omega)).less (Y:=fun i=>i<w.heap.size) (fun i _ e => .inl e) W hf
        rwa [List.getD_eq_getElem?_getD,List.getElem?_eq_getElem hj] at this
end Go.Proofs
