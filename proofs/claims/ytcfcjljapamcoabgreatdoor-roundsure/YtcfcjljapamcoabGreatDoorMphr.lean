/-
  Several texts in one (Kgr Y0r Y1r).
-/
import Derived.Shelf.SlIterI.Nil
import Derived.Shelf.SortM.Plain
import Derived.Shelf.SortM.SortNone
import Derived.Ground.GgzProg
import Derived.Ground.SlgmProg
import Derived.Test.YtcfcjljapamcoabGreatDoorProg
import Derived.Shelf.Abstract
import Derived.Shelf.RegionOpen
import Derived.WalkKit
import Derived.WalkSpells
import Derived.WalkLawsBesides
import Derived.TacticsInMore
import Derived.BigQuiet
import Derived.Deep.QuietTactic
import Derived.Deep.RegionWith
import Derived.Maps.Own
import Derived.Maps.OwnSet
import Derived.Maps.Views
import Derived.Test.YtcfcjljapamcoabGreatDoorMgar
namespace Go.Proofs
open Go.Shelf
def Tryz.keysA_ren:Go.Shelf.Ren:=⟨fun | 7=>54 | 10=>86 | n=>n,fun | 23=>82 | 26=>3 | 3=>3 | 28=>110 | 0=>0 | 27=>109 | 33=>44 | 4=>4 | n=>n,fun | n=>n⟩
theorem Tryz.keysA:Go.Proofs.SlLaysZI.n7 Tryz.prog Tryz.keysA_ren := {
 mixed:=by kernel_rfl
 f7:=⟨Tryz.f54.name,by decide,Tryz.func54.trans (congrArg some (by kernel_rfl))⟩
 f10:=⟨Tryz.f86.name,by decide,Tryz.func86.trans (congrArg some (by kernel_rfl))⟩
 t0:=Tryz.underlying0
 a0:=Tryz.isAgg0
 z0:=Tryz.sizeOf0
 v0:=Tryz.zeroValue0
 t4:=Tryz.underlying4
 a4:=Tryz.isAgg4
 z4:=Tryz.sizeOf4
 v4:=Tryz.zeroValue4
 t23:=Tryz.underlying82
 a23:=Tryz.isAgg82
 z23:=Tryz.sizeOf82
 v23:=Tryz.zeroValue82
 t26:=Tryz.underlying3
 a26:=Tryz.isAgg3
 z26:=Tryz.sizeOf3
 v26:=Tryz.zeroValue3
 t27:=Tryz.underlying109
 a27:=Tryz.isAgg109
 z27:=Tryz.sizeOf109
 v27:=Tryz.zeroValue109
 t28:=Tryz.underlying110
 a28:=Tryz.isAgg110
 z28:=Tryz.sizeOf110
 v28:=Tryz.zeroValue110
 t33:=Tryz.underlying44
 a33:=Tryz.isAgg44
 z33:=Tryz.sizeOf44
 v33:=Tryz.zeroValue44 }
def Tryz.sortedA_ren:Go.Shelf.Ren:=⟨fun | 6=>53 | 8=>84 | 9=>85 | 11=>107 | 13=>109 | 12=>108 | 23=>135 | 24=>136 | 14=>126 | 15=>127 | 16=>128 | 17=>129 | 18=>130 | 19=>131 | 20=>132 | 21=>133 | 22=>134 | 25=>147 | 26=>148 | 27=>149 | 28=>150 | 29=>151 | 30=>152 | 31=>162 | n=>n,fun | 26=>3 | 28=>110 | 24=>25 | 0=>0 | 3=>3 | 37=>116 | 48=>194 | 50=>196 | 4=>4 | 40=>188 | 39=>187 | 45=>70 | 5=>5 | 9=>9 | 51=>207 | 55=>211 | 57=>217 | 58=>68 | 33=>44 | n=>n,fun | n=>n⟩
theorem Tryz.sortedA:Go.Proofs.SlLaysZI.n6 Tryz.prog Tryz.sortedA_ren := {
 mixed:=by kernel_rfl
 f6:=⟨Tryz.f53.name,by decide,Tryz.func53.trans (congrArg some (by kernel_rfl))⟩
 f8:=⟨Tryz.f84.name,by decide,Tryz.func84.trans (congrArg some (by kernel_rfl))⟩
 f11:=⟨Tryz.f107.name,by decide,Tryz.func107.trans (congrArg some (by kernel_rfl))⟩
 t0:=Tryz.underlying0
 a0:=Tryz.isAgg0
 z0:=Tryz.sizeOf0
 v0:=Tryz.zeroValue0
 t24:=Tryz.underlying25
 a24:=Tryz.isAgg25
 z24:=Tryz.sizeOf25
 v24:=Tryz.zeroValue25
 t26:=Tryz.underlying3
 a26:=Tryz.isAgg3
 z26:=Tryz.sizeOf3
 v26:=Tryz.zeroValue3
 t28:=Tryz.underlying110
 a28:=Tryz.isAgg110
 z28:=Tryz.sizeOf110
 v28:=Tryz.zeroValue110
 i26:=by kernel_rfl }
def Tryz.sortA_ren:Go.Shelf.Ren:=⟨fun | 5=>85 | 8=>109 | 7=>108 | 19=>135 | 20=>136 | 10=>126 | 11=>127 | 12=>128 | 13=>129 | 14=>130 | 15=>131 | 16=>132 | 17=>133 | 18=>134 | 30=>147 | 31=>148 | 32=>149 | 33=>150 | 34=>151 | 35=>152 | 40=>162 | n=>n,fun | 23=>25 | 25=>3 | 3=>3 | 32=>116 | 22=>25 | 0=>0 | 44=>194 | 46=>196 | 4=>4 | 36=>188 | 35=>187 | 41=>70 | 5=>5 | 9=>9 | 53=>207 | 57=>211 | 63=>217 | 64=>68 | n=>n,fun | n=>n⟩
theorem Tryz.sortA:Go.Proofs.SlLaysM.n5 Tryz.prog Tryz.sortA_ren := {
 mixed:=by kernel_rfl
 f5:=⟨Tryz.f85.name,by decide,Tryz.func85.trans (congrArg some (by kernel_rfl))⟩
 f7:=⟨Tryz.f108.name,by decide,Tryz.func108.trans (congrArg some (by kernel_rfl))⟩
 f8:=Tryz.func109.trans (congrArg some (by kernel_rfl))
 f10:=⟨Tryz.f126.name,by decide,Tryz.func126.trans (congrArg some (by kernel_rfl))⟩
 f11:=⟨Tryz.f127.name,by decide,Tryz.func127.trans (congrArg some (by kernel_rfl))⟩
 f12:=⟨Tryz.f128.name,by decide,Tryz.func128.trans (congrArg some (by kernel_rfl))⟩
 f13:=⟨Tryz.f129.name,by decide,Tryz.func129.trans (congrArg some (by kernel_rfl))⟩
 f14:=⟨Tryz.f130.name,by decide,Tryz.func130.trans (congrArg some (by kernel_rfl))⟩
 f15:=⟨Tryz.f131.name,by decide,Tryz.func131.trans (congrArg some (by kernel_rfl))⟩
 f16:=⟨Tryz.f132.name,by decide,Tryz.func132.trans (congrArg some (by kernel_rfl))⟩
 f17:=⟨Tryz.f133.name,by decide,Tryz.func133.trans (congrArg some (by kernel_rfl))⟩
 f18:=⟨Tryz.f134.name,by decide,Tryz.func134.trans (congrArg some (by kernel_rfl))⟩
 f19:=Tryz.func135.trans (congrArg some (by kernel_rfl))
 f20:=Tryz.func136.trans (congrArg some (by kernel_rfl))
 f30:=⟨Tryz.f147.name,by decide,Tryz.func147.trans (congrArg some (by kernel_rfl))⟩
 f31:=Tryz.func148.trans (congrArg some (by kernel_rfl))
 f32:=Tryz.func149.trans (congrArg some (by kernel_rfl))
 f33:=⟨Tryz.f150.name,by decide,Tryz.func150.trans (congrArg some (by kernel_rfl))⟩
 f34:=⟨Tryz.f151.name,by decide,Tryz.func151.trans (congrArg some (by kernel_rfl))⟩
 f35:=⟨Tryz.f152.name,by decide,Tryz.func152.trans (congrArg some (by kernel_rfl))⟩
 f40:=⟨Tryz.f162.name,by decide,Tryz.func162.trans (congrArg some (by kernel_rfl))⟩
 t0:=Tryz.underlying0
 a0:=Tryz.isAgg0
 z0:=Tryz.sizeOf0
 v0:=Tryz.zeroValue0
 t3:=Tryz.underlying3
 a3:=Tryz.isAgg3
 z3:=Tryz.sizeOf3
 v3:=Tryz.zeroValue3
 t4:=Tryz.underlying4
 a4:=Tryz.isAgg4
 z4:=Tryz.sizeOf4
 v4:=Tryz.zeroValue4
 t5:=Tryz.underlying5
 a5:=Tryz.isAgg5
 z5:=Tryz.sizeOf5
 v5:=Tryz.zeroValue5
 t9:=Tryz.underlying9
 a9:=Tryz.isAgg9
 z9:=Tryz.sizeOf9
 v9:=Tryz.zeroValue9
 t22:=Tryz.underlying25
 a22:=Tryz.isAgg25
 z22:=Tryz.sizeOf25
 v22:=Tryz.zeroValue25
 t23:=Tryz.underlying25
 a23:=Tryz.isAgg25
 z23:=Tryz.sizeOf25
 v23:=Tryz.zeroValue25
 t25:=Tryz.underlying3
 a25:=Tryz.isAgg3
 z25:=Tryz.sizeOf3
 v25:=Tryz.zeroValue3
 t32:=Tryz.underlying116
 a32:=Tryz.isAgg116
 z32:=Tryz.sizeOf116
 v32:=Tryz.zeroValue116
 t35:=Tryz.underlying187
 a35:=Tryz.isAgg187
 z35:=Tryz.sizeOf187
 v35:=Tryz.zeroValue187
 t36:=Tryz.underlying188
 a36:=Tryz.isAgg188
 z36:=Tryz.sizeOf188
 v36:=Tryz.zeroValue188
 t41:=Tryz.underlying70
 a41:=Tryz.isAgg70
 z41:=Tryz.sizeOf70
 v41:=Tryz.zeroValue70
 t44:=Tryz.underlying194
 a44:=Tryz.isAgg194
 z44:=Tryz.sizeOf194
 v44:=Tryz.zeroValue194
 t46:=Tryz.underlying196
 a46:=Tryz.isAgg196
 z46:=Tryz.sizeOf196
 v46:=Tryz.zeroValue196
 t53:=Tryz.underlying207
 a53:=Tryz.isAgg207
 z53:=Tryz.sizeOf207
 v53:=Tryz.zeroValue207
 t57:=Tryz.underlying211
 a57:=Tryz.isAgg211
 z57:=Tryz.sizeOf211
 v57:=Tryz.zeroValue211
 t63:=Tryz.underlying217
 a63:=Tryz.isAgg217
 z63:=Tryz.sizeOf217
 v63:=Tryz.zeroValue217
 t64:=Tryz.underlying68
 a64:=Tryz.isAgg68
 z64:=Tryz.sizeOf68
 v64:=Tryz.zeroValue68 }
end Go.Proofs
namespace Go.Proofs
open Go.RowKit Go.Shelf
set_option maxRecDepth 100000
attribute [local go_sem] Oper.semAt_some
def delM (f:Int→Option Value) (k:Int):Int→Option Value:=fun x=>if x=k then none else f x
theorem IMap.drop {W:World} {m N:Nat} {f:Int→Option Value} (h:IMap W m N f) {t e:TypeId} (ht:Tryz.prog.underlying t=some (.map 3 e)) {k:Int} (hk:InI k) (ty:TypeId) :
 ∃ w',(Builtin.delete_ #[t,3] ty #[.map (some m),.int .i64 k]).run Tryz.prog W = .ok (.tuple #[]) w'∧IMap w' m N (delM f k)∧W.mapTurned w' m:=by
 obtain ⟨n,D,hD,hn,hK⟩:=h
 obtain ⟨w',hrun,hD',ht⟩:=hD.drop key3 ht (keyI hk) ty
 refine ⟨w',hrun,⟨n,_,hD',by omega,fun x => ?_⟩,ht⟩
 by_cases hx:x=k
 · subst hx
   have e1:delM f x x=none:=by simp [delM]
   rw [e1]
   exact ⟨Maps.has_del_same,fun v hv=>by cases hv⟩
 · have e1:delM f k x=f x:=by simp [delM,hx]
   have hne:(Lit.int .i64 x)≠Lit.int .i64 k:=fun e=>hx (by injection e)
   rw [e1,Maps.has_del_other hne]
   refine ⟨(hK x).1,fun u hu z => ?_⟩
   rw [Maps.atKey_del_other hne]
   exact (hK x).2 u hu z
def cntF (c:Int→Int):Int→Option Value:=fun k=>if c k=0 then none else some (.int .i64 (c k))
theorem cntF_get (c:Int→Int) (k:Int):(cntF c k).getD (.int .i64 0) = .int .i64 (c k):=by
 unfold cntF
 by_cases h:c k=0
 · rw [if_pos h,h];rfl
 · rw [if_neg h];rfl
def addC (c:Int→Int) (at_ by_:Int):Int→Int:=fun x=>if x=at_ then c x+by_ else c x
theorem cntF_add0 {c:Int→Int} {k y:Int} (h:c k+y=0):delM (updM (cntF c) k (.int .i64 (c k+y))) k=cntF (addC c k y):=by
 funext x
 unfold delM updM cntF addC
 by_cases hx:x=k
 · subst hx
   rw [if_pos rfl,if_pos rfl,if_pos h]
 · rw [if_neg hx,if_neg hx,if_neg hx]
theorem cntF_add1 {c:Int→Int} {k y:Int} (h:c k+y≠0):updM (cntF c) k (.int .i64 (c k+y))=cntF (addC c k y):=by
 funext x
 unfold updM cntF addC
 by_cases hx:x=k
 · subst hx
   rw [if_pos rfl,if_pos rfl,if_neg h]
 · rw [if_neg hx,if_neg hx]
end Go.Proofs
namespace Go.Proofs
open Go.RowKit Go.Shelf
set_option maxRecDepth 100000
attribute [local go_sem] Oper.semAt_some
def Tn (m:Nat) (W W':World):Prop:=Below m W W'∧∀ b,b≠m→b<W.heap.size→W'.heap[b]? = W.heap[b]?
theorem Tn.refl (m:Nat) (W:World):Tn m W W:=⟨Below.refl _ _,fun _ _ _=>rfl⟩
theorem Tn.size {m:Nat} {W W':World} (h:Tn m W W'):W.heap.size≤W'.heap.size:=h.1.size
theorem Tn.trans {m:Nat} {a b c:World} (h:Tn m a b) (k:Tn m b c):Tn m a c:=⟨h.1.trans k.1,fun x hx hl=>(k.2 x hx (Nat.lt_of_lt_of_le hl h.size)).trans (h.2 x hx hl)⟩
theorem Tn.grown {m:Nat} {W W':World} (hm:m≤W.heap.size) (h:Grown W W'):Tn m W W':=⟨h.below.mono hm,fun b _ hl=>h.below.block b hl⟩
theorem Tn.alloc {m:Nat} {W W':World} (h:Tn m W W') (hm:m≤W.heap.size) (o:Obj):Tn m W (W'.alloc o):=h.trans (Tn.grown (Nat.le_trans hm h.size) ((Grown.refl _).alloc o))
theorem Tn.turned {m:Nat} {W W':World} (h:W.mapTurned W' m):Tn m W W':=⟨turned_below h (Nat.le_refl _),fun _ hb _=>turned_other h hb⟩
theorem IMap.lt {W:World} {m N:Nat} {f:Int→Option Value} (h:IMap W m N f):m<W.heap.size:=by
 obtain ⟨es,c,hb⟩:=h.isMap
 exact (Array.getElem?_eq_some_iff.1 hb).1
def TuQ (m N:Nat) (c:Int→Int) (W:World) (e:Ending) (w':World):Prop:=e = .returned (.tuple #[])∧IMap w' m N (cntF c)∧Tn m W w'
set_option maxHeartbeats 1000000 in
theorem turn_any (W:World) (m N:Nat) (c:Int→Int) (at' by':Int) (h:IMap W m N (cntF c)) (hN:N≤1000000000) (hat : -100000000≤at'∧at'≤100000000) (hb : -1≤by'∧by'≤1) (hc:∀ k,-(N:Int)≤c k∧c k≤(N:Int)) :
 Calls Tryz.prog 52 #[.map (some m),.int .i64 at',.int .i64 by'] W (TuQ m (N+1) (addC c at' by') W):=by
 have hI:InI at':=⟨by omega,by omega⟩
 have hc1:=hc at'
 have hl1:=h.look (t:=82) (e:=3) Tryz.underlying82 (zero3 _) hI
 rw [cntF_get] at hl1
 obtain ⟨x,hx⟩:∃ x,c at'=x:=⟨_,rfl⟩
 have hxb : -1000000000≤x∧x≤1000000000:=by omega
 have hw:IntKind.i64.wrap (x+by')=x+by':=by rw [IntKind.wrap_i64];omega
 obtain ⟨W1,hr1,hI1,ht1⟩:=h.store (by omega) Tryz.underlying82 hI (.int .i64 (x+by'))
 have hl2:=hI1.look (t:=82) (e:=3) Tryz.underlying82 (zero3 _) hI
 have e2:(updM (cntF c) at' (.int .i64 (x+by')) at').getD (.int .i64 0) = .int .i64 (x+by'):=by simp [updM]
 rw [e2] at hl2
 rw [hx] at hl1
 have HY:Hid (c at'+by'=x+by'):=by show _=_;rw [hx]
 have HT1:Hid (W.mapTurned W1 m):=ht1
 have HI1:Hid (IMap W1 m (N+1) (updM (cntF c) at' (.int .i64 (x+by')))):=hI1
 by_cases h0:x+by'=0
 · obtain ⟨W2,hr2,hI2,ht2⟩:=hI1.drop (t:=82) (e:=3) Tryz.underlying82 hI 0
   have HR:Hid (TuQ m (N+1) (addC c at' by') W (.returned (.tuple #[])) W2):=by
    refine ⟨rfl,?_,(Tn.turned ht1).trans (Tn.turned ht2)⟩
    rw [←cntF_add0 (c:=c) (k:=at') (y:=by') (by rw [HY.out];exact h0),HY.out]
    exact hI2
   have d0:(x+by' == 0)=true:=by simpa using h0
   clear hI2 ht2 hI1 ht1 hx h hc hc1 e2 h0
   go_enter Tryz.func52,Tryz.ntmps52
   go_wp2
   refine bodyPost_end (results_none rfl _ _ _) rfl ?_
   exact HR.out
 · have HR:Hid (TuQ m (N+1) (addC c at' by') W (.returned (.tuple #[])) W1):=by
    refine ⟨rfl,?_,Tn.turned ht1⟩
    rw [←cntF_add1 (c:=c) (k:=at') (y:=by') (by rw [HY.out];exact h0),HY.out]
    exact hI1
   have d0:(x+by' == 0)=false:=by simpa using h0
   clear hI1 ht1 hx h hc hc1 e2 h0
   go_enter Tryz.func52,Tryz.ntmps52
   go_wp2
   refine bodyPost_end (results_none rfl _ _ _) rfl ?_
   exact HR.out
end Go.Proofs
