/-
  Several texts in one (B5 B6 B7 Gg).
-/
import Derived.RangeFuncNested
import Derived.RangeFuncBound
import Derived.RangeFuncCalls
import Derived.RangeFuncLeaves
import Derived.Shelf.Abstract
import Derived.Shelf.RegionOpen
import Derived.WalkKit
import Derived.WalkSpells
import Derived.WalkLawsBesides
import Derived.OwnWalkIn
import Derived.TacticsInMore
import Derived.LoopNIn
import Derived.LoopIn
import Derived.BigQuiet
import Derived.RegionIn
import Derived.Deep.QuietTactic
import Derived.Deep.RegionWith
import Derived.Lib.OthersKept
import Derived.Maps.AppendAt
import Derived.Lib.SmallJoins
import Derived.Shelf.SlSortCmp.QuietGrown
import Derived.RangeFuncWrites
import Derived.RangeFuncBox
import Derived.Maps.OwnIn
import Derived.Test.YtibgnkpagfpinaaGreatDoorMgrt
import Derived.ArgAppend
import Derived.Deep.DrawnRows
import Derived.Test.YtibgnkpagfpinaaGreatDoorGrt
namespace Go.Proofs
open Go.RowKit Go.Shelf
set_option maxRecDepth 100000
attribute [local go_sem] Oper.semAt_some
attribute [local go_sem ↓] Go.wp_at_zero Go.wp_at_succ
structure Alike (es es':List BE):Prop where
 o:es'.map BE.o=es.map BE.o
 w:es'.map BE.w=es.map BE.w
 l:es'.map (fun e=>e.l.length)=es.map fun e=>e.l.length
theorem Alike.refl (es:List BE):Alike es es:=⟨rfl,rfl,rfl⟩
theorem Alike.trans {a b c:List BE} (h:Alike a b) (k:Alike b c):Alike a c:=⟨k.o.trans h.o,k.w.trans h.w,k.l.trans h.l⟩
theorem Alike.len {a b:List BE} (h:Alike a b):b.length=a.length:=by simpa using congrArg List.length h.o
theorem Alike.at {a b:List BE} (h:Alike a b) {i:Nat} {e:BE} (he:a[i]? = some e):∃ e',b[i]? = some e'∧e'.o=e.o∧e'.w=e.w∧e'.l.length=e.l.length:=by
 have hi:=(List.getElem?_eq_some_iff.1 he).1
 have hi':i<b.length:=by rw [h.len];exact hi
 have h1:=congrArg (·[i]?) h.o
 have h2:=congrArg (·[i]?) h.w
 have h3:=congrArg (·[i]?) h.l
 simp [hi',he] at h1 h2 h3
 exact ⟨b[i],by simp [hi'],h1,h2,h3⟩
theorem alike_set {es:List BE} {i:Nat} {e:BE} (he:es[i]? = some e) (k:Nat) (x:Bk):Alike es (es.set i ⟨e.o,e.w,e.l.set k x⟩):=by
 obtain ⟨hi,rfl⟩:=List.getElem?_eq_some_iff.1 he
 refine ⟨?_,?_,?_⟩ <;> apply List.ext_getElem <;> simp <;> intro j hj <;> (simp only [List.getElem_set];split <;> simp_all)
theorem Alike.symm {a b:List BE} (h:Alike a b):Alike b a:=⟨h.o.symm,h.w.symm,h.l.symm⟩
theorem aw_alike {es es':List BE} (h:Alike es es') (k:AW es):AW es':=by
 intro i j e e' b hi hj hb
 obtain ⟨a,ha,h1,h2,_⟩:=h.symm.at hi
 obtain ⟨a',ha',h1',h2',_⟩:=h.symm.at hj
 have:=k i j a a' b ha ha' (by rw [h2];exact hb)
 rw [h1',h2'] at this
 exact this
theorem ao_alike {es es':List BE} {u t:Nat} (h:Alike es es') (k:AO es u t):AO es' u t:=by
 intro i j e e' b hu ht hne hi hj hb
 obtain ⟨a,ha,h1,h2,_⟩:=h.symm.at hi
 obtain ⟨a',ha',h1',h2',_⟩:=h.symm.at hj
 have:=k i j a a' b hu ht hne ha ha' (by rw [h1];exact hb)
 rw [h1'] at this
 exact this
def set4 (W:World) (g o:Nat) (b:Bk):World:=(((W.setCell ⟨g,o,none⟩ (.int .i64 b.1)).setCell ⟨g,o+1,none⟩ (.int .i64 b.2.1)).setCell ⟨g,o+2,none⟩ (.int .i64 b.2.2.1)).setCell ⟨g,o+3,none⟩ (.int .i64 b.2.2.2)
theorem set4_other (W:World) (g o:Nat) (b:Bk) (k:Nat) (h:k≠g):(set4 W g o b).heap[k]? = W.heap[k]? := by
 unfold set4
 rw [turns_set _ g _ _ k h,turns_set _ g _ _ k h,turns_set _ g _ _ k h,turns_set _ g _ _ k h]
theorem set4_at {W:World} {g o:Nat} {b:Bk} {cur:Array Value} {t:TypeId} (h:W.heap[g]? = some (.cells cur t (0,0))):(set4 W g o b).heap[g]? = some (.cells ((((cur.setIfInBounds o (.int .i64 b.1)).setIfInBounds (o+1) (.int .i64 b.2.1)).setIfInBounds (o+2) (.int .i64 b.2.2.1)).setIfInBounds (o+3) (.int .i64 b.2.2.2)) t (0,0)):=cells_setS (cells_setS (cells_setS (cells_setS h)))
theorem set4_size (W:World) (g o:Nat) (b:Bk):(set4 W g o b).heap.size=W.heap.size:=by simp [set4,World.setCell]
theorem set4_below {W:World} {g o base:Nat} {b:Bk} (h:base≤g):Below base W (set4 W g o b):=((((Below.refl base W).setCell (p:=⟨g,o,none⟩) h _).setCell (p:=⟨g,o+1,none⟩) h _).setCell (p:=⟨g,o+2,none⟩) h _).setCell (p:=⟨g,o+3,none⟩) h _
theorem kbs_set:∀ (l:List Bk) (k:Nat) (b:Bk),kbs (l.set k b)=((((kbs l).set (k*4) (.int .i64 b.1)).set (k*4+1) (.int .i64 b.2.1)).set (k*4+2) (.int .i64 b.2.2.1)).set (k*4+3) (.int .i64 b.2.2.2)
 | [],k,b=>by simp [kbs]
 | x::l,0,b=>rfl
 | x::l,k+1,b=>by
  have e:∀ l:List Bk,kbs (x::l) = .int .i64 x.1 :: .int .i64 x.2.1 :: .int .i64 x.2.2.1 :: .int .i64 x.2.2.2::kbs l:=fun _=>rfl
  rw [List.set_cons_succ,e,e,kbs_set l k b,show (k+1)*4=k*4+1+1+1+1 by omega,show k*4+1+1+1+1+1=k*4+1+1+1+1+1 by omega]
  rw [show k*4+1+1+1+1+2=k*4+2+1+1+1+1 by omega,show k*4+1+1+1+1+3=k*4+3+1+1+1+1 by omega]
  simp only [List.set_cons_succ]
theorem own_set4 {W:World} {base g n c k:Nat} {l:List Bk} (h:OwnK W base (.slice (some ⟨g,0,none⟩) n c) l) (x:Bk):OwnK (set4 W g (k*4) x) base (.slice (some ⟨g,0,none⟩) n c) (l.set k x):=by
 obtain ⟨h0,h1⟩:=h
 refine ⟨by rw [kbs_len,List.length_set],?_⟩
 rcases h1 with ⟨e,_⟩ | ⟨g',cap,cur,e,h1,h2,h3,h4,h5,h6⟩
 · cases e
 · injection e with e1 e2 e3
   injection e1 with e1
   injection e1 with e1
   subst e1 e2 e3
   refine .inr ⟨g,c,_,by simp,h1,set4_at h2,by simpa using h3,h4,by simpa using h5,?_⟩
   rw [Array.toList_setIfInBounds,Array.toList_setIfInBounds,Array.toList_setIfInBounds,Array.toList_setIfInBounds,List.take_set,List.take_set,List.take_set,List.take_set,List.length_set,h6,kbs_set]
attribute [local irreducible] set4
section
variable {W W':World} {base hb f u t:Nat} {ov wv:Value} {es:List BE}
set_option maxHeartbeats 2000000 in
theorem Bok.mark (h:Bok W base hb ov wv es f u t) {i k:Nat} {e:BE} (he:es[i]? = some e) (hu:u≤i) (ht:i<t) (x:Bk) {go no co gw nw cw:Nat} (ho:e.o = .slice (some ⟨go,0,none⟩) no co) (hw:e.w = .slice (some ⟨gw,0,none⟩) nw cw) :
 Bok (set4 (set4 W go (k*4) x) gw (k*4) x) base hb ov wv (es.set i ⟨e.o,e.w,e.l.set k x⟩) f u t:=by
 have hm:=List.mem_of_getElem? he
 have hbo:e.o.ownBlock=some go:=by rw [ho];rfl
 have hbw:e.w.ownBlock=some gw:=by rw [hw];rfl
 obtain ⟨_,d1,ht1⟩:=row_typ (h.ro e hm) hbo
 obtain ⟨_,d2,ht2⟩:=row_typ (h.rw e hm) hbw
 have T:∀ b,b≠go→b≠gw→(set4 (set4 W go (k*4) x) gw (k*4) x).heap[b]? = W.heap[b]? := fun b h1 h2=>by
  rw [set4_other _ gw _ _ b h2,set4_other _ go _ _ b h1]
 have TO:∀ (b:Nat) (cur:Array Value) (y:TypeId),W.heap[b]? = some (Obj.cells cur y (0,0))→y≠44→(set4 (set4 W go (k*4) x) gw (k*4) x).heap[b]? = some (Obj.cells cur y (0,0)):=fun b cur y hc hy=>by
  rw [T b (typ_ne hc ht1 hy) (typ_ne hc ht2 hy)]
  exact hc
 have hA:=alike_set he k x
 have hgw:go≠gw:=fun e1=>(h.aw i i e e gw he he hbw).2 (by rw [hbo,e1])
 have hel:∀ e'∈es.set i ⟨e.o,e.w,e.l.set k x⟩,OwnK (set4 (set4 W go (k*4) x) gw (k*4) x) base e'.o e'.l∧OwnK (set4 (set4 W go (k*4) x) gw (k*4) x) base e'.w e'.l∧e'.l.length≤900000:=fun e' he'=>by
  obtain ⟨j,hj⟩:=List.mem_iff_getElem?.1 he'
  by_cases hij:i=j
  · subst hij
    have hi:=(List.getElem?_eq_some_iff.1 he).1
    rw [List.getElem?_set_self hi] at hj
    injection hj with hj
    subst hj
    refine ⟨?_,?_,by simpa using h.sm e hm⟩
    · have h1:=h.ro e hm
      show OwnK _ base e.o _
      rw [ho] at h1 ⊢
      refine own_stays (own_set4 (k:=k) h1 x) fun b cur h2 _ h4 => ?_
      have:go=b:=by simpa [Value.ownBlock] using h2
      subst this
      rw [set4_other _ gw _ _ go hgw]
      exact h4
    · have h1:OwnK (set4 W go (k*4) x) base e.w e.l:=own_stays (h.rw e hm) fun b cur h2 _ h4=>by
       rw [hbw] at h2
       injection h2 with h2
       subst h2
       rw [set4_other _ go _ _ gw hgw.symm]
       exact h4
      show OwnK _ base e.w _
      rw [hw] at h1 ⊢
      exact own_set4 (k:=k) h1 x
  · rw [List.getElem?_set_ne hij] at hj
    have hm':=List.mem_of_getElem? hj
    have a1:=h.ao i j e e' go hu ht hij he hj hbo
    have a2:e'.w.ownBlock≠some go:=fun e1=>(h.aw j i e' e go hj he e1).2 hbo
    have a3:=h.aw i j e e' gw he hj hbw
    refine ⟨own_stays (h.ro e' hm') fun b cur h2 _ h4 => ?_,own_stays (h.rw e' hm') fun b cur h2 _ h4 => ?_,h.sm e' hm'⟩
    · rw [T b (fun e1=>a1 (by rw [h2,e1])) (fun e1=>a3.2 (by rw [h2,e1]))]
      exact h4
    · rw [T b (fun e1=>a2 (by rw [h2,e1])) (fun e1=>a3.1 hij (by rw [h2,e1]))]
      exact h4
 refine ⟨TO _ _ _ h.bk (by decide),h.hb,?_,?_,fun e' he'=>(hel e' he').1,fun e' he'=>(hel e' he').2.1,aw_alike hA h.aw,ao_alike hA h.ao,h.ow,by rw [hA.len];exact h.few,fun e' he'=>(hel e' he').2.2,by rw [hA.len];exact h.fr⟩
 · rw [hA.len,hA.o]
   exact own_stays h.out fun b cur _ _ h4=>TO b cur _ h4 (by decide)
 · rw [hA.len,hA.w]
   exact own_stays h.want fun b cur _ _ h4=>TO b cur _ h4 (by decide)
theorem Bok.row (h:Bok W base hb ov wv es f u t) {x:Option Nat} (hg:W.grownBy W' x) (hx:∀ b,x=some b→b ∉ blksO es∧∃ cur,W.heap[b]? = some (.cells cur 44 (0,0))):Bok W' base hb ov wv es f u t:=by
 have K:∀ (b:Nat) (cur:Array Value) (y:TypeId),W.heap[b]? = some (Obj.cells cur y (0,0))→(y≠44∨b∈blksO es)→W'.heap[b]? = some (Obj.cells cur y (0,0)):=fun b cur y hc hy=>by
  rw [hg.block b (Array.getElem?_eq_some_iff.1 hc).1 (fun e => ?_)]
  · exact hc
  · obtain ⟨h1,d,h2⟩:=hx b e.symm
    rcases hy with hy | hy
    · exact typ_ne hc h2 hy rfl
    · exact h1 hy
 exact ⟨K _ _ _ h.bk (.inl (by decide)),h.hb,own_stays h.out fun b cur _ _ h2=>K b cur 32 h2 (.inl (by decide)),own_stays h.want fun b cur _ _ h2=>K b cur 32 h2 (.inl (by decide)),fun e he=>own_stays (h.ro e he) fun b cur h1 _ h2=>K b cur 44 h2 (.inr (blks_mem.2 ⟨e,he,.inl h1⟩)),fun e he=>own_stays (h.rw e he) fun b cur h1 _ h2=>K b cur 44 h2 (.inr (blks_mem.2 ⟨e,he,.inr h1⟩)),h.aw,h.ao,h.ow,h.few,h.sm,h.fr⟩
end
theorem row_nilK {W:World} {base:Nat} {v:Value} {l:List Bk} (h:OwnK W base v l):∃ a cap,v = .slice a l.length cap:=by
 rcases h.2 with ⟨e1,h0⟩ | ⟨g,cap,cur,e1,h1,h2,h3,h4,h5,h6⟩
 · exact ⟨_,_,by rw [e1,h0]⟩
 · exact ⟨_,_,e1⟩
theorem row_someK {W:World} {base:Nat} {v:Value} {l:List Bk} (h:OwnK W base v l) (hn:l.length≠0):∃ g cap,v = .slice (some ⟨g,0,none⟩) l.length cap∧base≤g∧l.length≤cap∧∀ (j:Nat) (u:Value),(kbs l)[j]? = some u→W.cell? ⟨g,j,none⟩=some u:=by
 rcases h.2 with ⟨_,h0⟩ | ⟨g,cap,cur,e1,h1,h2,h3,h4,h5,h6⟩
 · exact absurd h0 hn
 · refine ⟨g,cap,e1,h1,h3,fun j u hj => ?_⟩
   rw [←h6] at hj
   simp only [World.cell?,h2]
   have:cur.toList[j]? = some u:=by
    rw [List.getElem?_take] at hj
    split at hj
    · exact hj
    · cases hj
   simpa using this
theorem own_share {W W':World} {base g m n n' c:Nat} {l lo ext:List Bk} (h:OwnK W base (.slice (some ⟨g,0,none⟩) m c) l) (h2:OwnK W base (.slice (some ⟨g,0,none⟩) n c) lo) (hmn:m≤n) (h3:OwnK W' base (.slice (some ⟨g,0,none⟩) n' c) (lo++ext)):OwnK W' base (.slice (some ⟨g,0,none⟩) m c) l:=by
 obtain ⟨h0,h1⟩:=h
 obtain ⟨_,h2⟩:=h2
 obtain ⟨_,h3⟩:=h3
 refine ⟨h0,?_⟩
 rcases h1 with ⟨e,_⟩ | ⟨g1,c1,cur,e,a1,a2,a3,a4,a5,a6⟩
 · cases e
 rcases h2 with ⟨e2,_⟩ | ⟨g2,c2,cur2,e2,b1,b2,b3,b4,b5,b6⟩
 · cases e2
 rcases h3 with ⟨e3,_⟩ | ⟨g3,c3,cur3,e3,d1,d2,d3,d4,d5,d6⟩
 · cases e3
 injection e with x1 x2 x3
 injection x1 with x1
 injection x1 with x1
 injection e2 with y1 y2 y3
 injection y1 with y1
 injection y1 with y1
 injection e3 with z1 z2 z3
 injection z1 with z1
 injection z1 with z1
 subst x1 x3 y1 y3 z1 z3
 rw [a2] at b2
 injection b2 with b2
 injection b2 with b2
 subst b2
 refine .inr ⟨g,c,cur3,by rw [x2],a1,d2,a3,a4,d5,?_⟩
 rw [←kbs_len] at a6 b6 d6 ⊢
 have k1:(kbs l).length≤(kbs lo).length:=by rw [kbs_len,kbs_len];omega
 have k2:(kbs lo).length≤(kbs (lo++ext)).length:=by rw [kbs_append,List.length_append];omega
 have e1:(cur3.toList.take (kbs (lo++ext)).length).take (kbs lo).length=kbs lo:=by rw [d6,kbs_append,List.take_left]
 have e2:(cur3.toList.take (kbs lo).length).take (kbs l).length=(cur.toList.take (kbs lo).length).take (kbs l).length:=by
  rw [b6]
  rw [List.take_take,Nat.min_eq_left k2] at e1
  rw [e1]
 rw [List.take_take,List.take_take,Nat.min_eq_left k1,a6] at e2
 exact e2
theorem run_pushK (w:World) (ty:TypeId) (base:Nat) (v:Value) (l:List Bk) (gs c:Nat) (p:Bk) (hc:KAt w gs 0 p) (hl:l.length≤3000000) (hbase:base≤w.heap.size) (ho:OwnK w base v l) :
 ∃ v' w',(Builtin.append_ #[32,32] ty #[v,.slice (some ⟨gs,0,none⟩) 1 c]).run Tryz.prog w = .ok v' w'∧OwnK w' base v' (l++[p])∧IsSl v'∧((w.grownBy w' none∧∃ g,v'.ownBlock=some g∧w.heap.size≤g)∨∃ g n k,v = .slice (some ⟨g,0,none⟩) n k∧v' = .slice (some ⟨g,0,none⟩) (n+1) k∧w.grownBy w' (some g)):=by
 obtain ⟨i0,hi0,hz0,hz1,hz2⟩:=info_parts infoK
 have hc':∀ j u,(kbs [p])[j]? = some u→w.cell? ((⟨gs,0,none⟩:Addr).add j)=some u:=fun j u hj=>by
  rw [add_at2]
  exact kbs_cells (b:=[p]) (fun j hj=>by
   have:j=0:=by simp at hj;exact hj
   subst this
   exact hc) hj
 have one:∀ v' w',w'.ownsRow base 44 4 v' (l.length+1) (kbs l++kbs [p])→OwnK w' base v' (l++[p]):=fun v' w' k=>by
  unfold OwnK
  rw [kbs_append,List.length_append]
  exact k
 rcases ho.2 with ⟨hv,h0⟩ | ⟨g,cap,cur,hv,k1,k2,k3,k4,k5,k6⟩
 · subst hv
   have hl0:l=[]:=List.eq_nil_of_length_eq_zero h0
   subst hl0
   obtain ⟨v',w',h1,h2,h3,h4,h5⟩:=run_append_own_at (P:=Tryz.prog) w base 32 ty 44 i0 (.agg #[.int .i64 0,.int .i64 0,.int .i64 0,.int .i64 0]) 4 32 Tryz.underlying32 hi0 hz0 hz1 hz2 rfl (by decide) (.slice none 0 0) 0 [] (World.ownsRow_nil w _ 44 4) ⟨gs,0,none⟩ 1 c (kbs [p]) (kbs_len [p]) hc' (kbs_one _) (by unfold maxLen;omega) (by omega) hbase
   have hO:=one v' w' (by simpa [kbs] using h2)
   have hx:∃ g,v'.ownBlock=some g∧w.heap.size≤g:=by
    rcases h5 with h5 | h5
    · rcases h2.2 with ⟨_,e⟩ | ⟨g,cap,cur,e,_⟩
      · cases e
      · rw [e] at h5;cases h5
    · exact ⟨_,h5,Nat.le_refl _⟩
   obtain ⟨a,d,e⟩:=row_nilK hO
   exact ⟨v',w',h1,hO,⟨_,_,_,e⟩,.inl ⟨h3,hx⟩⟩
 · subst hv
   by_cases hr:cap<l.length+1
   · have hne:cap=l.length:=by omega
     subst hne
     obtain ⟨v',w',h1,h2,h3⟩:=run_append_arg_grows (P:=Tryz.prog) w 32 ty 44 i0 (.agg #[.int .i64 0,.int .i64 0,.int .i64 0,.int .i64 0]) 4 32 Tryz.underlying32 hi0 hz0 hz1 hz2 rfl (by decide) ⟨g,0,none⟩ l.length l.length (kbs l) (kbs_len l) (fun j u hj=>by
      rw [add_at2,Nat.zero_add]
      obtain ⟨g2,c2,e2,_,_,hcell⟩:=row_someK ho (fun h0=>by rw [List.eq_nil_of_length_eq_zero h0] at hj;simp [kbs] at hj)
      injection e2 with e2 _ _
      injection e2 with e2
      injection e2 with e2
      subst e2
      exact hcell j u hj) ⟨gs,0,none⟩ 1 c (kbs [p]) (kbs_len [p]) hc' (by omega) (by unfold maxLen;omega) (by omega)
     have hO:=one v' w' (Joins.ownsRow_le h2 hbase)
     have hx:∃ g,v'.ownBlock=some g∧w.heap.size≤g:=by
      rcases h2.2 with ⟨_,e⟩ | ⟨g2,cap,cur2,e,q1,q2,_⟩
      · cases e
      · exact ⟨g2,by rw [e];rfl,q1⟩
     obtain ⟨a,d,e⟩:=row_nilK hO
     exact ⟨v',w',h1,hO,⟨_,_,_,e⟩,.inl ⟨h3,hx⟩⟩
   · obtain ⟨v',w',h1,h2,h3,h4,h5⟩:=run_append_own_at (P:=Tryz.prog) w base 32 ty 44 i0 (.agg #[.int .i64 0,.int .i64 0,.int .i64 0,.int .i64 0]) 4 32 Tryz.underlying32 hi0 hz0 hz1 hz2 rfl (by decide) (.slice (some ⟨g,0,none⟩) l.length cap) l.length (kbs l) ho ⟨gs,0,none⟩ 1 c (kbs [p]) (kbs_len [p]) hc' (kbs_one _) (by unfold maxLen;omega) (by omega) hbase
     have hs4:i0.size=4:=hz1
     have hx:=run_append_room_cells (P:=Tryz.prog) w 32 ty 44 i0 Tryz.underlying32 hi0 g 0 l.length cap ⟨gs,0,none⟩ 1 c (kbs [p]) (by rw [hs4];exact kbs_len [p]) hc' (kbs_one _) (by omega) (fun j hj=>by
      have hj4:j<4:=by rw [kbs_len] at hj;simpa using hj
      have:l.length*i0.size+j<cur.size:=by rw [hs4,k5];omega
      simp only [World.cell?,k2]
      simp only [Nat.zero_add,Array.getElem?_eq_getElem this]
      rfl) (fun j hj=>by simp [World.frozen?,k2])
     rw [h1] at hx
     injection hx with e1 e2
     have hO:=one v' w' h2
     obtain ⟨a,d,e⟩:=row_nilK hO
     exact ⟨v',w',h1,hO,⟨_,_,_,e⟩,.inr ⟨g,l.length,cap,rfl,e1,h3⟩⟩
structure R30 (W:World) (base hb:Nat) (ov wv:Value) (es:List BE) (f u t i:Nat) (lv:Value) (lo:List Bk) (mv:Value) (lm:List Bk):Prop where
 bk:Bok W base hb ov wv es f u t
 lo:OwnK W base lv lo
 mo:OwnK W base mv lm
 la:(∀ b,lv.ownBlock=some b→b ∉ blksO es)∨∃ e g m n c,es[i]? = some e∧e.o = .slice (some ⟨g,0,none⟩) m c∧lv = .slice (some ⟨g,0,none⟩) n c∧m≤n
 ma:∀ b,mv.ownBlock=some b→b ∉ blksO es∧lv.ownBlock≠some b
 iu:u≤i
 it:i<t
section
variable {W W':World} {base hb f u t i:Nat} {ov wv:Value} {es:List BE} {lv mv:Value} {lo lm:List Bk}
theorem Bok.bz (h:Bok W base hb ov wv es f u t):base≤W.heap.size:=by have:=h.hb;have:=(Array.getElem?_eq_some_iff.1 h.bk).1;omega
theorem blks_size (h:Bok W base hb ov wv es f u t) {b:Nat} (hb':W.heap.size≤b):b ∉ blksO es:=fun k=>by
 obtain ⟨_,h4⟩:=blks_lt h k
 have:=(Array.getElem?_eq_some_iff.1 h4).1
 omega
theorem Bok.rowS (h:Bok W base hb ov wv es f u t) {g:Nat} {e:BE} (hg:W.grownBy W' (some g)) (hu:u≤i) (ht:i<t) (he:es[i]? = some e) (hb':e.o.ownBlock=some g) (hk:OwnK W' base e.o e.l):Bok W' base hb ov wv es f u t:=by
 obtain ⟨_,d,ht1⟩:=row_typ (h.ro e (List.mem_of_getElem? he)) hb'
 have T:∀ (b:Nat) (cur:Array Value) (y:TypeId),W.heap[b]? = some (Obj.cells cur y (0,0))→b≠g→W'.heap[b]? = some (Obj.cells cur y (0,0)):=fun b cur y hc hy=>by
  rw [hg.block b (Array.getElem?_eq_some_iff.1 hc).1 (fun e=>hy (by injection e))]
  exact hc
 refine ⟨T _ _ _ h.bk (typ_ne h.bk ht1 (by decide)),h.hb,own_stays h.out fun b cur _ _ h2=>T b cur 32 h2 (typ_ne h2 ht1 (by decide)),own_stays h.want fun b cur _ _ h2=>T b cur 32 h2 (typ_ne h2 ht1 (by decide)),fun e' he' => ?_,fun e' he' => ?_,h.aw,h.ao,h.ow,h.few,h.sm,h.fr⟩
 · obtain ⟨j,hj⟩:=List.mem_iff_getElem?.1 he'
   by_cases hij:i=j
   · subst hij
     rw [he] at hj
     injection hj with hj
     subst hj
     exact hk
   · exact own_stays (h.ro e' he') fun b cur h1 _ h2=>T b cur 44 h2 (fun e1=>h.ao i j e e' g hu ht hij he hj hb' (by rw [h1,e1]))
 · obtain ⟨j,hj⟩:=List.mem_iff_getElem?.1 he'
   exact own_stays (h.rw e' he') fun b cur h1 _ h2=>T b cur 44 h2 (fun e1=>(h.aw j i e' e b hj he h1).2 (by rw [hb',e1]))
theorem R30.grown (h:R30 W base hb ov wv es f u t i lv lo mv lm) (k:Grown W W'):R30 W' base hb ov wv es f u t i lv lo mv lm:=
 ⟨h.bk.grown k,h.lo.below k.below (Nat.le_refl _),h.mo.below k.below (Nat.le_refl _),h.la,h.ma,h.iu,h.it⟩
theorem R30.stepL (h:R30 W base hb ov wv es f u t i lv lo mv lm) {v':Value} {p:Bk} (h1:OwnK W' base v' (lo++[p])) (hv:(W.grownBy W' none∧∃ g,v'.ownBlock=some g∧W.heap.size≤g)∨∃ g n k,lv = .slice (some ⟨g,0,none⟩) n k∧v' = .slice (some ⟨g,0,none⟩) (n+1) k∧W.grownBy W' (some g)):R30 W' base hb ov wv es f u t i v' (lo++[p]) mv lm∧Below base W W':=by
 rcases hv with ⟨hg,g,e1,hge⟩ | ⟨g,n,k,e1,e2,hg⟩
 · have hlt:∀ b,mv.ownBlock=some b→b<W.heap.size:=fun b hb'=>(World.ownsRow.lt h.mo b hb').2
   refine ⟨⟨h.bk.row hg (fun b hb'=>by cases hb'),h1,own_stays h.mo fun b cur h2 _ h3 => ?_,.inl fun b hb' => ?_,fun b hb'=>⟨(h.ma b hb').1,fun e => ?_⟩,h.iu,h.it⟩,(Below.refl _ W).grown hg h.bk.bz (fun b hb'=>by cases hb')⟩
   · rw [hg.block b (Array.getElem?_eq_some_iff.1 h3).1 (fun e=>by cases e)]
     exact h3
   · rw [e1] at hb'
     injection hb' with hb'
     subst hb'
     exact blks_size h.bk hge
   · rw [e1] at e
     injection e with e
     have:=hlt b hb'
     omega
 · have hlb:lv.ownBlock=some g:=by rw [e1];rfl
   have hvb:v'.ownBlock=some g:=by rw [e2];rfl
   have hmo:OwnK W' base mv lm:=own_stays h.mo fun b cur h2 _ h3=>by
    rw [hg.block b (Array.getElem?_eq_some_iff.1 h3).1 (fun e => ?_)]
    · exact h3
    · injection e with e
      exact (h.ma b h2).2 (by rw [hlb,e])
   have hma:∀ b,mv.ownBlock=some b→b ∉ blksO es∧v'.ownBlock≠some b:=fun b hb'=>⟨(h.ma b hb').1,fun e=>(h.ma b hb').2 (by rw [hlb,←hvb];exact e)⟩
   have hbel:Below base W W':=(Below.refl _ W).grown hg h.bk.bz (fun b hb'=>by
    injection hb' with hb'
    exact (row_typ h.lo (by rw [hlb,hb'])).1)
   rcases h.la with hla | ⟨e,g',m,n',c,he,ho,hl,hmn⟩
   · refine ⟨⟨h.bk.row hg fun b hb' => ?_,h1,hmo,.inl fun b hb' => ?_,hma,h.iu,h.it⟩,hbel⟩
     · injection hb' with hb'
       subst hb'
       exact ⟨hla g hlb,(row_typ h.lo hlb).2⟩
     · exact hla b (by rw [hlb,←hvb];exact hb')
   · rw [e1] at hl
     injection hl with l1 l2 l3
     injection l1 with l1
     injection l1 with l1
     subst l1 l2 l3
     have hlo:=h.lo
     rw [e1] at hlo
     have hro:=h.bk.ro e (List.mem_of_getElem? he)
     rw [ho] at hro
     rw [e2] at h1
     have hk:OwnK W' base e.o e.l:=by
      rw [ho]
      exact own_share hro hlo hmn h1
     refine ⟨⟨h.bk.rowS hg h.iu h.it he (by rw [ho];rfl) hk,by rw [e2];exact h1,hmo,.inr ⟨e,g,m,n+1,k,he,ho,e2,by omega⟩,hma,h.iu,h.it⟩,hbel⟩
theorem R30.stepM (h:R30 W base hb ov wv es f u t i lv lo mv lm) {v':Value} {p:Bk} (h1:OwnK W' base v' (lm++[p])) (hv:(W.grownBy W' none∧∃ g,v'.ownBlock=some g∧W.heap.size≤g)∨∃ g n k,mv = .slice (some ⟨g,0,none⟩) n k∧v' = .slice (some ⟨g,0,none⟩) (n+1) k∧W.grownBy W' (some g)):R30 W' base hb ov wv es f u t i lv lo v' (lm++[p])∧Below base W W':=by
 have hlt:∀ b,lv.ownBlock=some b→b<W.heap.size:=fun b hb'=>(World.ownsRow.lt h.lo b hb').2
 rcases hv with ⟨hg,g,e1,hge⟩ | ⟨g,n,k,e1,e2,hg⟩
 · refine ⟨⟨h.bk.row hg (fun b hb'=>by cases hb'),own_stays h.lo fun b cur h2 _ h3 => ?_,h1,h.la,fun b hb' => ?_,h.iu,h.it⟩,(Below.refl _ W).grown hg h.bk.bz (fun b hb'=>by cases hb')⟩
   · rw [hg.block b (Array.getElem?_eq_some_iff.1 h3).1 (fun e=>by cases e)]
     exact h3
   · rw [e1] at hb'
     injection hb' with hb'
     subst hb'
     exact ⟨blks_size h.bk hge,fun e=>by have:=hlt _ e;omega⟩
 · have hlb:mv.ownBlock=some g:=by rw [e1];rfl
   have hvb:v'.ownBlock=some g:=by rw [e2];rfl
   refine ⟨⟨h.bk.row hg fun b hb' => ?_,own_stays h.lo fun b cur h2 _ h3 => ?_,h1,h.la,fun b hb'=>h.ma b (by rw [hlb,←hvb];exact hb'),h.iu,h.it⟩,(Below.refl _ W).grown hg h.bk.bz (fun b hb'=>by
    injection hb' with hb'
    exact (row_typ h.mo (by rw [hlb,hb'])).1)⟩
   · injection hb' with hb'
     subst hb'
     exact ⟨(h.ma g hlb).1,(row_typ h.mo hlb).2⟩
   · rw [hg.block b (Array.getElem?_eq_some_iff.1 h3).1 (fun e => ?_)]
     · exact h3
     · injection e with e
       exact (h.ma g hlb).2 (by rw [h2,e])
theorem push_L30 {ops:Array Oper} {rest:List Oper} {o:Oper} {a:Act} {Q:Exit→Act→World→Prop} (hgd:o.guard=none) (s x:Operand) (hop:o.op = .call { callee := .builtin .append,args:=#[s,x],argTypes:=#[32,32] })
 (hs:a.eval s=lv) (h:R30 W base hb ov wv es f u t i lv lo mv lm) (gs c:Nat) (p:Bk) (hx:a.eval x = .slice (some ⟨gs,0,none⟩) 1 c) (hc:KAt W gs 0 p) (hl:lo.length≤3000000)
 (hK:∀ v' w',R30 w' base hb ov wv es f u t i v' (lo++[p]) mv lm→Below base W w'→IsSl v'→wpList Tryz.prog ops Q rest (a.put o.dst v') w'):wpList Tryz.prog ops Q (o::rest) a W:=by
 refine wpList_plain hgd fun K hK2 => ?_
 obtain ⟨v',w',hr,h1,h6,h2⟩:=run_pushK W o.type base lv lo gs c p hc hl h.bk.bz h.lo
 unfold Oper.wp execOp
 simp only [hop,resolve,invoke,builtin,Sem.run_bind,Sem.run_pure,Result.andThen_ok,List.map_toArray,List.map_cons,List.map_nil,hs,hx,hr]
 obtain ⟨k1,k2⟩:=h.stepL h1 h2
 exact hK2 _ _ (hK v' w' k1 k2 h6)
theorem push_M30 {ops:Array Oper} {rest:List Oper} {o:Oper} {a:Act} {Q:Exit→Act→World→Prop} (hgd:o.guard=none) (s x:Operand) (hop:o.op = .call { callee := .builtin .append,args:=#[s,x],argTypes:=#[32,32] })
 (hs:a.eval s=mv) (h:R30 W base hb ov wv es f u t i lv lo mv lm) (gs c:Nat) (p:Bk) (hx:a.eval x = .slice (some ⟨gs,0,none⟩) 1 c) (hc:KAt W gs 0 p) (hl:lm.length≤3000000)
 (hK:∀ v' w',R30 w' base hb ov wv es f u t i lv lo v' (lm++[p])→Below base W w'→IsSl v'→wpList Tryz.prog ops Q rest (a.put o.dst v') w'):wpList Tryz.prog ops Q (o::rest) a W:=by
 refine wpList_plain hgd fun K hK2 => ?_
 obtain ⟨v',w',hr,h1,h6,h2⟩:=run_pushK W o.type base mv lm gs c p hc hl h.bk.bz h.mo
 unfold Oper.wp execOp
 simp only [hop,resolve,invoke,builtin,Sem.run_bind,Sem.run_pure,Result.andThen_ok,List.map_toArray,List.map_cons,List.map_nil,hs,hx,hr]
 obtain ⟨k1,k2⟩:=h.stepM h1 h2
 exact hK2 _ _ (hK v' w' k1 k2 h6)
theorem Bok.fresh (h:Bok W base hb ov wv es f u t):Bok (W.setCell ⟨hb,2,none⟩ (.int .i64 es.length)) base hb ov wv es es.length es.length es.length:=by
 have T:=turns_set W hb 2 (.int .i64 es.length)
 have K:∀ (b:Nat) (cur:Array Value) (y:TypeId),W.heap[b]? = some (Obj.cells cur y (0,0))→y≠29→(W.setCell ⟨hb,2,none⟩ (.int .i64 es.length)).heap[b]? = some (Obj.cells cur y (0,0)):=fun b cur y hc hy=>by
  rw [T b (typ_ne hc h.bk hy)]
  exact hc
 refine ⟨?_,h.hb,own_stays h.out fun b cur _ _ h2=>K b cur 32 h2 (by decide),own_stays h.want fun b cur _ _ h2=>K b cur 32 h2 (by decide),fun e he=>own_stays (h.ro e he) fun b cur h1 _ h2=>K b cur 44 h2 (by decide),fun e he=>own_stays (h.rw e he) fun b cur h1 _ h2=>K b cur 44 h2 (by decide),h.aw,fun i j e e' b h1 h2=>by omega,h.ow,h.few,h.sm,Nat.le_refl _⟩
 have:=cells_setS (j:=2) (u := .int .i64 es.length) h.bk
 simpa using this
end
structure W1 (w:World) (base hb:Nat) (ov wv:Value) (es:List BE) (f n:Nat) (W:World):Prop where
 bk:∃ es',Bok W base hb ov wv es' f f n∧Alike es es'
 bel:Below base w W
theorem W1.grown {w:World} {base hb:Nat} {ov wv:Value} {es:List BE} {f n:Nat} {W W':World} (h:W1 w base hb ov wv es f n W) (k:Grown W W'):W1 w base hb ov wv es f n W':=by
 obtain ⟨es',h1,h2⟩:=h.bk
 exact ⟨⟨es',h1.grown k,h2⟩,h.bel.trans (k.below.mono (Nat.le_trans h1.bz (Nat.le_refl _)))⟩
theorem own_atK {W:World} {base g n c:Nat} {l:List Bk} (h:OwnK W base (.slice (some ⟨g,0,none⟩) n c) l) {k:Nat} (hk:k<l.length):(∃ x,KAt W g (k*4) x)∧∀ j,W.frozen? ⟨g,j,none⟩=false:=by
 obtain ⟨g',c',e,_,_,hc⟩:=row_someK h (by omega)
 injection e with e1 e2 e3
 injection e1 with e1
 injection e1 with e1
 subst e1
 refine ⟨⟨l[k],?_⟩,fun j => ?_⟩
 · have k0:=hc (k*4+0) _ (kbs_at l hk 0 (by decide))
   have k1:=hc (k*4+1) _ (kbs_at l hk 1 (by decide))
   have k2:=hc (k*4+2) _ (kbs_at l hk 2 (by decide))
   have k3:=hc (k*4+3) _ (kbs_at l hk 3 (by decide))
   exact ⟨k0,k1,k2,k3⟩
 · obtain ⟨_,cur,h2⟩:=row_typ h rfl
   simp [World.frozen?,h2]
theorem row_same {W:World} {base n c m:Nat} {a:Option Addr} {e:TypeId} {xs:List Value} (h:W.ownsRow base e 1 (.slice a n c) m xs) (hm:m≠0):∃ g,a=some ⟨g,0,none⟩∧n=m∧m≤c∧∀ (j:Nat) (u:Value),xs[j]? = some u→W.cell? ⟨g,j,none⟩=some u:=by
 obtain ⟨g,cap,e1,_,h2,h3⟩:=row_some h hm
 injection e1 with e1 e2 e3
 subst e3
 exact ⟨g,e1,e2,h2,h3⟩
theorem row_sameK {W:World} {base n c:Nat} {a:Option Addr} {l:List Bk} (h:OwnK W base (.slice a n c) l) (hm:l.length≠0):∃ g,a=some ⟨g,0,none⟩∧n=l.length∧l.length≤c:=by
 obtain ⟨g,cap,e1,_,h2,_⟩:=row_someK h hm
 injection e1 with e1 e2 e3
 subst e3
 exact ⟨g,e1,e2,h2⟩
theorem W1.mark {w:World} {base hb:Nat} {ov wv:Value} {es es':List BE} {f n:Nat} {W:World} (h:Bok W base hb ov wv es' f f n) (hA:Alike es es') (hb':Below base w W) {i k:Nat} {e:BE} (he:es'[i]? = some e) (hf:f≤i) (hn:i<n) (x:Bk) {go no co gw nw cw:Nat} (ho:e.o = .slice (some ⟨go,0,none⟩) no co) (hw:e.w = .slice (some ⟨gw,0,none⟩) nw cw):W1 w base hb ov wv es f n (set4 (set4 W go (k*4) x) gw (k*4) x):=by
 have hm:=List.mem_of_getElem? he
 refine ⟨⟨_,h.mark he hf hn x ho hw,hA.trans (alike_set he k x)⟩,?_⟩
 exact (hb'.trans (set4_below (row_typ (h.ro e hm) (b:=go) (by rw [ho];rfl)).1)).trans (set4_below (row_typ (h.rw e hm) (b:=gw) (by rw [hw];rfl)).1)
theorem second {base hb:Nat} {ov wv:Value} {es:List BE} {f u n:Nat} {W:World} (h:Bok W base hb ov wv es f u n) {i k:Nat} {e:BE} (he:es[i]? = some e) (x:Bk) {go no co gw nw cw:Nat} (ho:e.o = .slice (some ⟨go,0,none⟩) no co) (hw:e.w = .slice (some ⟨gw,0,none⟩) nw cw) (hk:k<e.l.length) :
 (set4 W go (k*4) x).cell? ⟨hb,1,none⟩=some wv∧(∀ (g1:Nat),wv.ownBlock=some g1→∀ j,(set4 W go (k*4) x).cell? ⟨g1,j,none⟩=W.cell? ⟨g1,j,none⟩)∧(∃ y,KAt (set4 W go (k*4) x) gw (k*4) y)∧∀ j,(set4 W go (k*4) x).frozen? ⟨gw,j,none⟩=false:=by
 have hm:=List.mem_of_getElem? he
 have hbo:e.o.ownBlock=some go:=by rw [ho];rfl
 have hbw:e.w.ownBlock=some gw:=by rw [hw];rfl
 obtain ⟨_,d1,ht1⟩:=row_typ (h.ro e hm) hbo
 have T:∀ b,b≠go→(set4 W go (k*4) x).heap[b]? = W.heap[b]? := fun b hb'=>set4_other W go _ x b hb'
 have hne:gw≠go:=fun e1=>(h.aw i i e e gw he he hbw).2 (by rw [hbo,e1])
 have cs:∀ b j,b≠go→(set4 W go (k*4) x).cell? ⟨b,j,none⟩=W.cell? ⟨b,j,none⟩:=fun b j hb'=>by simp only [World.cell?];rw [T b hb']
 have h1:=h.rw e hm
 rw [hw] at h1
 obtain ⟨⟨y,y0,y1,y2,y3⟩,hf⟩:=own_atK h1 hk
 refine ⟨(cs hb 1 (typ_ne h.bk ht1 (by decide))).trans h.cell.2.1,fun g1 hg1 j => ?_,⟨y,(cs gw _ hne).trans y0,(cs gw _ hne).trans y1,(cs gw _ hne).trans y2,(cs gw _ hne).trans y3⟩,fun j => ?_⟩
 · obtain ⟨_,d,h2⟩:=row_typ h.want hg1
   exact cs g1 j (typ_ne h2 ht1 (by decide))
 · have:=hf j
   simp only [World.frozen?] at this ⊢
   rw [T gw hne]
   exact this
section
variable {W w6 W3:World} {base hb f u t i:Nat} {ov wv:Value} {es:List BE} {lv mv ov':Value} {ll:List Bk}
theorem K1.want (h:Bok W base hb ov wv es f u t) (k:K1 W base hb ov wv es f lv ll ov' w6):w6.ownsRow base 32 1 wv es.length (es.map BE.w):=by
 refine own_stays h.want fun b cur h1 _ h3 => ?_
 rw [k.blk b (Array.getElem?_eq_some_iff.1 h3).1 (typ_ne h3 h.bk (by decide)) (fun e => ?_)]
 · exact h3
 · rcases h.ow with h6 | h6
   · rw [h6] at e;cases e
   · exact h6 (e.trans h1.symm)
theorem R30.aw (h:R30 W base hb ov wv es f u t i lv ll mv ll):AW (es++[(⟨lv,mv,ll⟩:BE)]):=by
 refine aw_snoc h.bk.aw h.ma fun b hb' e' he' e1 => ?_
 rcases h.la with hla | ⟨e,g,m,n,c,he,ho,hl,_⟩
 · exact hla b hb' (blks_mem.2 ⟨e',he',.inr e1⟩)
 · obtain ⟨j,hj⟩:=List.mem_iff_getElem?.1 he'
   refine (h.bk.aw j i e' e b hj he e1).2 ?_
   rw [ho]
   have hb2:lv.ownBlock=some b:=hb'
   rw [hl] at hb2
   exact hb2
theorem R30.ao (h:R30 W base hb ov wv es f u t i lv ll mv ll) (ht:t≤es.length):AO (es++[(⟨lv,mv,ll⟩:BE)]) (i+1) t:=by
 have h0:AO es (i+1) t:=fun a b e e' x h1=>h.bk.ao a b e e' x (by have:=h.iu;omega)
 refine ao_snoc h0 ht fun j e' b hj hjt hje hb' e1 => ?_
 rcases h.la with hla | ⟨e,g,m,n,c,he,ho,hl,_⟩
 · exact hla b e1 (blks_mem.2 ⟨e',List.mem_of_getElem? hje,.inl hb'⟩)
 · refine h.bk.ao i j e e' b h.iu h.it (by omega) he hje ?_ hb'
   rw [ho]
   have hb2:lv.ownBlock=some b:=e1
   rw [hl] at hb2
   exact hb2
theorem R30.done (h:R30 W base hb ov wv es f u t i lv ll mv ll) (ht:t≤es.length) (hn:ll.length≤900000) (hes:es.length≤99) (k:K1 W base hb ov wv es f lv ll ov' w6) {g c:Nat} {ob:Obj} (ho:W3.ownsRow base 32 1 (.slice (some ⟨g,0,none⟩) (es.length+1) c) (es.length+1) (es.map BE.w++[mv])) (hg:(w6.alloc ob).grownBy W3 wv.ownBlock) (hG:wv.ownBlock=some g∨g=(w6.alloc ob).heap.size) :
 W3.heap[hb]? = some (.cells #[ov',wv,.int .i64 f] 29 (0,0))∧Bok (W3.setCell ⟨hb,1,none⟩ (.slice (some ⟨g,0,none⟩) (es.length+1) c)) base hb ov' (.slice (some ⟨g,0,none⟩) (es.length+1) c) (es++[⟨lv,mv,ll⟩]) f (i+1) t∧Below base W (W3.setCell ⟨hb,1,none⟩ (.slice (some ⟨g,0,none⟩) (es.length+1) c)):=by
 have hb6:=(Array.getElem?_eq_some_iff.1 k.bk).1
 have hsz:(w6.alloc ob).heap.size=w6.heap.size+1:=Array.size_push _
 have hg':w6.grownBy W3 wv.ownBlock:=⟨hg.os,hg.tape,hg.output,by have:=hg.size;omega,fun b hb' hne=>(hg.block b (by omega) hne).trans (heap_alloc_old w6 ob b hb')⟩
 have h3b:W3.heap[hb]? = some (.cells #[ov',wv,.int .i64 f] 29 (0,0)):=(hg'.block hb hb6 (fun e=>h.bk.nw e.symm)).trans k.bk
 have hm:OwnK W3 base mv ll:=own_stays h.mo fun b cur h1 _ h3=>by
  have e1:=k.blk b (Array.getElem?_eq_some_iff.1 h3).1 (typ_ne h3 h.bk.bk (by decide)) (fun e=>by obtain ⟨_,d,h2⟩:=row_typ h.bk.out e;exact typ_ne h3 h2 (by decide) rfl)
  have h6:=e1.trans h3
  rw [hg'.block b (Array.getElem?_eq_some_iff.1 h6).1 (fun e=>by obtain ⟨_,d,h2⟩:=row_typ h.bk.want e.symm;exact typ_ne h3 h2 (by decide) rfl)]
  exact h6
 have:=k2_of h.bk h.lo h.aw (h.ao ht) hn hes k hm ho hg' (hG.imp id fun e=>by omega)
 exact ⟨h3b,this.1,this.2.2.1⟩
end
def W2 (w:World) (base hb f n N i:Nat) (W:World):Prop:=
 ∃ ov wv es,Bok W base hb ov wv es f i n∧es.length=n+(i - f)∧(∀ (j:Nat) (e:BE),j<n→es[j]? = some e→e.l.length≤N)∧(∀ e∈es,e.l.length≤N+30)∧Below base w W
theorem W1.w2 {w:World} {base hb:Nat} {ov wv:Value} {es:List BE} {f n N:Nat} {W:World} (h:W1 w base hb ov wv es f n W) (hn:es.length=n) (hs:∀ e∈es,e.l.length≤N):W2 w base hb f n N f W:=by
 obtain ⟨es',h1,h2⟩:=h.bk
 have hl:∀ (j:Nat) (e:BE),es'[j]? = some e→e.l.length≤N:=fun j e he=>by
  have hj:j<es.length:=by rw [←h2.len];exact (List.getElem?_eq_some_iff.1 he).1
  obtain ⟨e',h3,_,_,h4⟩:=h2.at (i:=j) (e:=es[j]) (by simp [hj])
  rw [he] at h3
  injection h3 with h3
  rw [h3,h4]
  exact hs _ (List.getElem_mem hj)
 refine ⟨ov,wv,es',h1,by rw [h2.len];omega,fun j e _ he=>hl j e he,fun e he => ?_,h.bel⟩
 obtain ⟨j,hj⟩:=List.mem_iff_getElem?.1 he
 have:=hl j e hj
 omega
def I15 (w0:World) (hb g0 g1 i:Nat) (ov wv eo ew:Value) (l:List Bk):Nat→Value→World→Prop
 | 0,v,_=>v = .pointer (some ⟨hb,0,none⟩)
 | 1,v,_=>v = .pointer (some ⟨hb,0,none⟩)
 | 2,v,_=>v = .pointer (some ⟨hb,0,none⟩)
 | 3,v,_=>v=ov
 | 4,v,_=>v = .int .i64 i
 | 5,v,_=>v = .pointer (some ⟨g0,i,none⟩)
 | 6,v,_=>v=eo
 | 7,v,_=>v = .pointer (some ⟨hb,0,none⟩)
 | 8,v,_=>v = .pointer (some ⟨hb,0,none⟩)
 | 9,v,_=>v = .pointer (some ⟨hb,1,none⟩)
 | 10,v,_=>v=wv
 | 11,v,_=>v = .int .i64 i
 | 12,v,_=>v = .pointer (some ⟨g1,i,none⟩)
 | 13,v,_=>v=ew
 | 14,v,w=>OwnK w w0.heap.size v l
 | 15,v,_=>v=eo
 | 16,v,w=>OwnK w w0.heap.size v l
 | _,_,_=>True
theorem I15.ext {w0:World} {hb g0 g1 i:Nat} {ov wv eo ew:Value} {l:List Bk} (j:Nat) (v:Value) (w w':World) (h:I15 w0 hb g0 g1 i ov wv eo ew l j v w) (he:Ext w w'):I15 w0 hb g0 g1 i ov wv eo ew l j v w':=by
 match j,h with
 | 0,h=>exact h
 | 1,h=>exact h
 | 2,h=>exact h
 | 3,h=>exact h
 | 4,h=>exact h
 | 5,h=>exact h
 | 6,h=>exact h
 | 7,h=>exact h
 | 8,h=>exact h
 | 9,h=>exact h
 | 10,h=>exact h
 | 11,h=>exact h
 | 12,h=>exact h
 | 13,h=>exact h
 | 14,h=>exact OwnK.below h he (Nat.le_refl _)
 | 15,h=>exact h
 | 16,h=>exact OwnK.below h he (Nat.le_refl _)
 | _+17,_=>trivial
def T30 (w:World) (base hb:Nat) (ov wv:Value) (es:List BE) (f n i L:Nat) (lv mv:Value) (k:Nat) (W:World):Prop:=
 ∃ ll,R30 W base hb ov wv es f i n i lv ll mv ll∧ll.length=L+k∧Below base w W
def GStep (P:Program) (ops:Array Oper) (Q:Exit→Act→World→Prop) (I:Nat→Value→World→Prop) (a0:Act) (w0:World) (i:Nat) (o:Oper):Prop:=
 ∀ (a:Act) (w:World),Ext w0 w→(∀ j,(o.after.any fun e=>Region.binds .any e && e.on == j)=true→∀ (oj:Oper) (d:Tmp),ops[j]? = some oj→oj.dst=some d→I j (a.tmps.getD d undef) w)→(∀ d,(ops.all fun p => !decide (p.dst=some d))=true→a.tmps.getD d undef=a0.tmps.getD d undef) →
  ∀ K:Act→World→Prop,(∀ v w',Ext w w'→I i v w'→K (a.put o.dst v) w')→if Region.wanted o (yielded ops a.tmps)=true then Oper.wp P o a w K Q else K (a.put o.dst undef) w
def GSteps (P:Program) (ops:Array Oper) (Q:Exit→Act→World→Prop) (I:Nat→Value→World→Prop) (a0:Act) (w0:World):List Oper→Nat→Prop
 | [],_=>True
 | o::l,k=>GStep P ops Q I a0 w0 k o∧GSteps P ops Q I a0 w0 l (k+1)
theorem gsteps_at {P:Program} {ops:Array Oper} {Q:Exit→Act→World→Prop} {I:Nat→Value→World→Prop} {a0:Act} {w0:World} : ∀ (l:List Oper) (k:Nat),GSteps P ops Q I a0 w0 l k→∀ (i:Nat) (o:Oper),l[i]? = some o→GStep P ops Q I a0 w0 (k+i) o
 | [],_,_,i,o,h=>by simp at h
 | x::l,k,hs,i,o,h=>by
  cases i with
  | zero=>simp at h;subst h;exact hs.1
  | succ i=>
   have:=gsteps_at l (k+1) hs.2 i o (by simpa using h)
   rwa [show k+1+i=k+(i+1) by omega] at this
theorem wpAny_grows {P:Program} {ops:Array Oper} {Q:Exit→Act→World→Prop} {I:Nat→Value→World→Prop} {a0:Act} {w0:World} (hd:Once ops) (he:Early ops) (hsz:∀ (i:Nat) (o:Oper) (d:Tmp),ops[i]? = some o→o.dst=some d→d<a0.tmps.size) (hI:∀ i v w w',I i v w→Ext w w'→I i v w')
 (hst:∀ (i:Nat) (o:Oper),ops[i]? = some o→GStep P ops Q I a0 w0 i o) (hfin:∀ vs w,Ext w0 w→(∀ i,i<ops.size→I i (vs i) w)→Q .normal (putL vs ops.toList 0 a0) w) :
 ∀ (fuel:Nat) (listed:Array Bool) (w:World) (l m:List Nat) (vs:Nat→Value),m.length=fuel→(l++m).Perm (List.range ops.size)→(∀ i,i<ops.size→listed.getD i true=decide (i∈l))→listed.size=ops.size→Ext w0 w→(∀ i∈l,I i (vs i) w) →
  wpAny P .any ops Q fuel listed (l.foldl (put1 ops vs) a0) w:=by
 have fin:∀ (l m:List Nat) (vs:Nat→Value) (w:World),m=[]→(l++m).Perm (List.range ops.size)→Ext w0 w→(∀ i∈l,I i (vs i) w)→Q .normal (l.foldl (put1 ops vs) a0) w:=by
  intro l m vs w hm hp hw hl
  subst hm
  rw [List.append_nil] at hp
  rw [hp.foldl_eq' (fun x _ y _ z=>put1_comm hd x y z)]
  have:List.range ops.size=List.range' 0 ops.toList.length:=by rw [Array.length_toList,List.range_eq_range']
  rw [this,fold_range vs ops ops.toList 0 a0 (fun j=>by simp)]
  exact hfin vs w hw (fun i hi=>hl i (hp.mem_iff.2 (by simpa using hi)))
 have nodup:∀ (l m:List Nat),(l++m).Perm (List.range ops.size)→(l++m).Nodup:=fun l m hp=>hp.nodup_iff.2 List.nodup_range
 have stuck:∀ (l m:List Nat) (listed:Array Bool),(l++m).Perm (List.range ops.size)→(∀ i,i<ops.size→listed.getD i true=decide (i∈l))→listed.size=ops.size→Region.ready .any ops listed=[]→m=[]:=by
  intro l m listed hp hl hs hr
  have all:∀ i,i<ops.size→i∈l:=by
   intro i
   induction i using Nat.strongRecOn with
   | _ i ih=>
    intro hi
    refine Classical.byContradiction fun hn => ?_
    have hmem:i∈Region.ready .any ops listed:=by
     rw [mem_ready]
     refine ⟨by rw [hl i hi];simp [hn],ops[i],by simp [hi],fun e hme hb => ?_⟩
     have hlt:=he i ops[i] (by simp [hi]) e hme hb
     have h1:=ih e.on hlt (by omega)
     have h2:=hl e.on (by omega)
     rw [decide_eq_true h1] at h2
     have h3:e.on<listed.size:=by omega
     simpa [h3] using h2
    rw [hr] at hmem
    cases hmem
  cases m with
  | nil=>rfl
  | cons x m=>
   have hx:x<ops.size:=by
    have:x∈List.range ops.size:=hp.mem_iff.1 (by simp)
    simpa using this
   have h1:=all x hx
   have h2:=nodup l (x::m) hp
   rw [List.nodup_append] at h2
   exact absurd rfl (h2.2.2 x h1 x (by simp))
 intro fuel
 induction fuel with
 | zero=>
  intro listed w l m vs hm hp hl hs hw hi
  have hm0:=List.eq_nil_of_length_eq_zero hm
  refine ⟨?_,fin l m vs w hm0 hp hw hi⟩
  rw [List.eq_nil_iff_forall_not_mem]
  intro j hj
  rw [mem_ready] at hj
  obtain ⟨h1,o,ho,_⟩:=hj
  have hlt:=(Array.getElem?_eq_some_iff.1 ho).1
  rw [hl j hlt] at h1
  subst hm0
  rw [List.append_nil] at hp
  exact absurd (hp.mem_iff.2 (by simpa using hlt)) (of_decide_eq_false h1)
 | succ fuel ih=>
  intro listed w l m vs hm hp hl hs hw hi
  refine ⟨fun hr=>fin l m vs w (stuck l m listed hp hl hs hr) hp hw hi,fun i hir => ?_⟩
  rw [mem_ready] at hir
  obtain ⟨h1,o,ho,hall⟩:=hir
  have hlt:=(Array.getElem?_eq_some_iff.1 ho).1
  rw [hl i hlt] at h1
  have hil:i ∉ l:=of_decide_eq_false h1
  have him:i∈m:=by
   have:i∈l++m:=hp.mem_iff.2 (by simpa using hlt)
   rw [List.mem_append] at this
   exact this.resolve_left hil
  refine wpOp_step ho (fun K hK=>hst i o ho _ w hw ?_ ?_ K (fun v w' hww hv=>hK _ _ ?_))
  · intro j hj oj d hoj hod
    have hjl:j∈l:=by
     rw [Array.any_eq_true'] at hj
     obtain ⟨e,hme,h2⟩:=hj
     simp only [Bool.and_eq_true,beq_iff_eq] at h2
     obtain ⟨hb,rfl⟩:=h2
     have h3:=hall e hme hb
     have hjlt:=(Array.getElem?_eq_some_iff.1 hoj).1
     have h4:=hl e.on hjlt
     have h5:e.on<listed.size:=by omega
     have h6:listed.getD e.on true=true:=by simpa [h5] using h3
     rw [h6] at h4
     exact of_decide_eq_true h4.symm
    rw [fold_get hd hjl hoj hod (hsz j oj d hoj hod)]
    exact hi j hjl
  · intro d hfree
    refine fold_other (fun k p hp2 h2 => ?_) a0
    rw [Array.all_eq_true_iff_forall_mem] at hfree
    have:=hfree p (Array.mem_of_getElem? hp2)
    simp [h2] at this
  · let us:Nat→Value:=fun j=>if j=i then v else vs j
    have hus:∀ j∈l,us j=vs j:=fun j hj=>by
     show (if j=i then v else vs j)=vs j
     rw [if_neg (fun e=>hil (by rw [←e];exact hj))]
    have hui:us i=v:=by show (if i=i then v else vs i)=v;rw [if_pos rfl]
    have e1:(l.foldl (put1 ops vs) a0).put o.dst v=(l++[i]).foldl (put1 ops us) a0:=by
     rw [List.foldl_append,fold_congr hus]
     show _=put1 ops us _ i
     unfold put1
     rw [ho,hui]
    rw [e1]
    refine ih (listed.setIfInBounds i true) w' (l++[i]) (m.erase i) us (by rw [List.length_erase_of_mem him];omega) ?_ ?_ (by simpa using hs) (hw.trans hww) ?_
    · rw [List.append_assoc]
      exact (List.Perm.append_left l (List.perm_cons_erase him).symm).trans hp
    · intro j hj
      by_cases hji:j=i
      · subst hji
        have h5:j<listed.size:=by omega
        simp [h5]
      · have h5:j<listed.size:=by omega
        have:=hl j hj
        simp only [Array.getD_eq_getD_getElem?] at this ⊢
        rw [Array.getElem?_setIfInBounds_ne (fun e=>hji e.symm),this]
        simp [hji]
    · intro j hj
      rw [List.mem_append] at hj
      rcases hj with hj | hj
      · rw [hus j hj]
        exact hI j _ _ _ (hi j hj) hww
      · obtain rfl:j=i:=by simpa using hj
        rw [hui]
        exact hv
theorem wp_region_grows {P:Program} {id:Nat} {l:List Oper} {Q:Exit→Act→World→Prop} {a0:Act} {w0:World} (hm:P.follows .mixedOrders=true) (h1:onceB l=true) (h2:earlyB 0 l=true) (h3:(l.all fun o=>match o.dst with | none=>true | some d=>decide (d<a0.tmps.size))=true)
 (I:Nat→Value→World→Prop) (hI:∀ i v w w',I i v w→Ext w w'→I i v w') (hst:GSteps P l.toArray Q I a0 w0 l 0) (hfin:∀ vs w,Ext w0 w→(∀ i,i<l.length→I i (vs i) w)→Q .normal (putL vs l 0 a0) w):(Code.region id l.toArray true).wp P Q a0 w0:=by
 refine wp_region_any hm ?_
 have h:=wpAny_grows (P:=P) (ops:=l.toArray) (Q:=Q) (I:=I) (a0:=a0) (w0:=w0) (once_of h1) (early_of h2) (fun i o d ho hod=>by
  have:=List.all_eq_true.1 h3 o (List.mem_of_getElem? (by simpa using ho))
  rw [hod] at this
  exact of_decide_eq_true this) hI (fun i o ho=>by
  have:=gsteps_at l 0 hst i o (by simpa using ho)
  rwa [Nat.zero_add] at this) (fun vs w hw hi=>hfin vs w hw (fun i hl=>hi i (by simpa using hl)))
  l.toArray.size (Array.replicate l.toArray.size false) { w0 with drawn:=w0.drawn+1 } [] (List.range l.toArray.size) (fun _=>undef) (by simp) (by simp) (fun i hi=>by simp at hi;simp [hi]) (by simp) ⟨rfl,rfl,rfl,Nat.le_refl _,fun _ _=>rfl⟩ (by simp)
 exact h
end Go.Proofs
