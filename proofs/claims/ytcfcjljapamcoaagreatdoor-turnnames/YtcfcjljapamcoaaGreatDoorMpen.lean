/-
  Several texts in one (Y0n Y1n).
-/
import Derived.Shelf.Abstract
import Derived.Shelf.RegionOpen
import Derived.WalkKit
import Derived.WalkSpells
import Derived.WalkLawsBesides
import Derived.TacticsInMore
import Derived.BigQuiet
import Derived.Deep.QuietTactic
import Derived.Deep.RegionWith
import Derived.Maps.Own
import Derived.Maps.OwnSet
import Derived.Maps.Views
import Derived.Test.YtcfcjljapamcoaaGreatDoorMgbn
namespace Go.Proofs
open Go.RowKit Go.Shelf
set_option maxRecDepth 100000
attribute [local go_sem] Oper.semAt_some
def delM (f:Int→Option Value) (k:Int):Int→Option Value:=fun x=>if x=k then none else f x
theorem IMap.drop {W:World} {m N:Nat} {f:Int→Option Value} (h:IMap W m N f) {t e:TypeId} (ht:Tryz.prog.underlying t=some (.map 3 e)) {k:Int} (hk:InI k) (ty:TypeId) :
 ∃ w',(Builtin.delete_ #[t,3] ty #[.map (some m),.int .i64 k]).run Tryz.prog W = .ok (.tuple #[]) w'∧IMap w' m N (delM f k)∧W.mapTurned w' m:=by
 obtain ⟨n,D,hD,hn,hK⟩:=h
 obtain ⟨w',hrun,hD',ht⟩:=hD.drop key3 ht (keyI hk) ty
 refine ⟨w',hrun,⟨n,_,hD',by omega,fun x => ?_⟩,ht⟩
 by_cases hx:x=k
 · subst hx
   have e1:delM f x x=none:=by simp [delM]
   rw [e1]
   exact ⟨Maps.has_del_same,fun v hv=>by cases hv⟩
 · have e1:delM f k x=f x:=by simp [delM,hx]
   have hne:(Lit.int .i64 x)≠Lit.int .i64 k:=fun e=>hx (by injection e)
   rw [e1,Maps.has_del_other hne]
   refine ⟨(hK x).1,fun u hu z => ?_⟩
   rw [Maps.atKey_del_other hne]
   exact (hK x).2 u hu z
def cntF (c:Int→Int):Int→Option Value:=fun k=>if c k=0 then none else some (.int .i64 (c k))
theorem cntF_get (c:Int→Int) (k:Int):(cntF c k).getD (.int .i64 0) = .int .i64 (c k):=by
 unfold cntF
 by_cases h:c k=0
 · rw [if_pos h,h];rfl
 · rw [if_neg h];rfl
def addC (c:Int→Int) (at_ by_:Int):Int→Int:=fun x=>if x=at_ then c x+by_ else c x
theorem cntF_add0 {c:Int→Int} {k y:Int} (h:c k+y=0):delM (updM (cntF c) k (.int .i64 (c k+y))) k=cntF (addC c k y):=by
 funext x
 unfold delM updM cntF addC
 by_cases hx:x=k
 · subst hx
   rw [if_pos rfl,if_pos rfl,if_pos h]
 · rw [if_neg hx,if_neg hx,if_neg hx]
theorem cntF_add1 {c:Int→Int} {k y:Int} (h:c k+y≠0):updM (cntF c) k (.int .i64 (c k+y))=cntF (addC c k y):=by
 funext x
 unfold updM cntF addC
 by_cases hx:x=k
 · subst hx
   rw [if_pos rfl,if_pos rfl,if_neg h]
 · rw [if_neg hx,if_neg hx]
end Go.Proofs
namespace Go.Proofs
open Go.RowKit Go.Shelf
set_option maxRecDepth 100000
attribute [local go_sem] Oper.semAt_some
def Tn (m:Nat) (W W':World):Prop:=Below m W W'∧∀ b,b≠m→b<W.heap.size→W'.heap[b]? = W.heap[b]?
theorem Tn.refl (m:Nat) (W:World):Tn m W W:=⟨Below.refl _ _,fun _ _ _=>rfl⟩
theorem Tn.size {m:Nat} {W W':World} (h:Tn m W W'):W.heap.size≤W'.heap.size:=h.1.size
theorem Tn.trans {m:Nat} {a b c:World} (h:Tn m a b) (k:Tn m b c):Tn m a c:=⟨h.1.trans k.1,fun x hx hl=>(k.2 x hx (Nat.lt_of_lt_of_le hl h.size)).trans (h.2 x hx hl)⟩
theorem Tn.grown {m:Nat} {W W':World} (hm:m≤W.heap.size) (h:Grown W W'):Tn m W W':=⟨h.below.mono hm,fun b _ hl=>h.below.block b hl⟩
theorem Tn.alloc {m:Nat} {W W':World} (h:Tn m W W') (hm:m≤W.heap.size) (o:Obj):Tn m W (W'.alloc o):=h.trans (Tn.grown (Nat.le_trans hm h.size) ((Grown.refl _).alloc o))
theorem Tn.turned {m:Nat} {W W':World} (h:W.mapTurned W' m):Tn m W W':=⟨turned_below h (Nat.le_refl _),fun _ hb _=>turned_other h hb⟩
theorem IMap.lt {W:World} {m N:Nat} {f:Int→Option Value} (h:IMap W m N f):m<W.heap.size:=by
 obtain ⟨es,c,hb⟩:=h.isMap
 exact (Array.getElem?_eq_some_iff.1 hb).1
def TuQ (m N:Nat) (c:Int→Int) (W:World) (e:Ending) (w':World):Prop:=e = .returned (.tuple #[])∧IMap w' m N (cntF c)∧Tn m W w'
set_option maxHeartbeats 1000000 in
theorem turn_any (W:World) (m N:Nat) (c:Int→Int) (at' by':Int) (h:IMap W m N (cntF c)) (hN:N≤1000000000) (hat : -100000000≤at'∧at'≤100000000) (hb : -1≤by'∧by'≤1) (hc:∀ k,-(N:Int)≤c k∧c k≤(N:Int)) :
 Calls Tryz.prog 109 #[.map (some m),.int .i64 at',.int .i64 by'] W (TuQ m (N+1) (addC c at' by') W):=by
 have hI:InI at':=⟨by omega,by omega⟩
 have hc1:=hc at'
 have hl1:=h.look (t:=118) (e:=3) Tryz.underlying118 (zero3 _) hI
 rw [cntF_get] at hl1
 obtain ⟨x,hx⟩:∃ x,c at'=x:=⟨_,rfl⟩
 have hxb : -1000000000≤x∧x≤1000000000:=by omega
 have hw:IntKind.i64.wrap (x+by')=x+by':=by rw [IntKind.wrap_i64];omega
 obtain ⟨W1,hr1,hI1,ht1⟩:=h.store (by omega) Tryz.underlying118 hI (.int .i64 (x+by'))
 have hl2:=hI1.look (t:=118) (e:=3) Tryz.underlying118 (zero3 _) hI
 have e2:(updM (cntF c) at' (.int .i64 (x+by')) at').getD (.int .i64 0) = .int .i64 (x+by'):=by simp [updM]
 rw [e2] at hl2
 rw [hx] at hl1
 have HY:Hid (c at'+by'=x+by'):=by show _=_;rw [hx]
 have HT1:Hid (W.mapTurned W1 m):=ht1
 have HI1:Hid (IMap W1 m (N+1) (updM (cntF c) at' (.int .i64 (x+by')))):=hI1
 by_cases h0:x+by'=0
 · obtain ⟨W2,hr2,hI2,ht2⟩:=hI1.drop (t:=118) (e:=3) Tryz.underlying118 hI 0
   have HR:Hid (TuQ m (N+1) (addC c at' by') W (.returned (.tuple #[])) W2):=by
    refine ⟨rfl,?_,(Tn.turned ht1).trans (Tn.turned ht2)⟩
    rw [←cntF_add0 (c:=c) (k:=at') (y:=by') (by rw [HY.out];exact h0),HY.out]
    exact hI2
   have d0:(x+by' == 0)=true:=by simpa using h0
   clear hI2 ht2 hI1 ht1 hx h hc hc1 e2 h0
   go_enter Tryz.func109,Tryz.ntmps109
   go_wp2
   refine bodyPost_end (results_none rfl _ _ _) rfl ?_
   exact HR.out
 · have HR:Hid (TuQ m (N+1) (addC c at' by') W (.returned (.tuple #[])) W1):=by
    refine ⟨rfl,?_,Tn.turned ht1⟩
    rw [←cntF_add1 (c:=c) (k:=at') (y:=by') (by rw [HY.out];exact h0),HY.out]
    exact hI1
   have d0:(x+by' == 0)=false:=by simpa using h0
   clear hI1 ht1 hx h hc hc1 e2 h0
   go_enter Tryz.func109,Tryz.ntmps109
   go_wp2
   refine bodyPost_end (results_none rfl _ _ _) rfl ?_
   exact HR.out
end Go.Proofs
