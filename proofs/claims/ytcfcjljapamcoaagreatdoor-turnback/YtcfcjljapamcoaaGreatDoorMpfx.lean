/-
  Several texts in one (Kgx Y0x Y1x Y2x Y3x).
-/
import Derived.Shelf.SlIterI.Nil
import Derived.Shelf.SortM.Plain
import Derived.Shelf.SortM.SortNone
import Derived.Ground.GgzProg
import Derived.Ground.SlgmProg
import Derived.Test.YtcfcjljapamcoaaGreatDoorProg
import Derived.Shelf.Abstract
import Derived.Shelf.RegionOpen
import Derived.WalkKit
import Derived.WalkSpells
import Derived.WalkLawsBesides
import Derived.TacticsInMore
import Derived.BigQuiet
import Derived.Deep.QuietTactic
import Derived.Deep.RegionWith
import Derived.Maps.Own
import Derived.Maps.OwnSet
import Derived.Maps.Views
import Derived.Test.YtcfcjljapamcoaaGreatDoorMgbx
namespace Go.Proofs
open Go.Shelf
def Tryz.keysA_ren:Go.Shelf.Ren:=⟨fun | 7=>111 | 10=>146 | n=>n,fun | 23=>118 | 26=>3 | 3=>3 | 28=>147 | 0=>0 | 27=>146 | 33=>105 | 4=>4 | n=>n,fun | n=>n⟩
theorem Tryz.keysA:Go.Proofs.SlLaysZI.n7 Tryz.prog Tryz.keysA_ren := {
 mixed:=by kernel_rfl
 f7:=⟨Tryz.f111.name,by decide,Tryz.func111.trans (congrArg some (by kernel_rfl))⟩
 f10:=⟨Tryz.f146.name,by decide,Tryz.func146.trans (congrArg some (by kernel_rfl))⟩
 t0:=Tryz.underlying0
 a0:=Tryz.isAgg0
 z0:=Tryz.sizeOf0
 v0:=Tryz.zeroValue0
 t4:=Tryz.underlying4
 a4:=Tryz.isAgg4
 z4:=Tryz.sizeOf4
 v4:=Tryz.zeroValue4
 t23:=Tryz.underlying118
 a23:=Tryz.isAgg118
 z23:=Tryz.sizeOf118
 v23:=Tryz.zeroValue118
 t26:=Tryz.underlying3
 a26:=Tryz.isAgg3
 z26:=Tryz.sizeOf3
 v26:=Tryz.zeroValue3
 t27:=Tryz.underlying146
 a27:=Tryz.isAgg146
 z27:=Tryz.sizeOf146
 v27:=Tryz.zeroValue146
 t28:=Tryz.underlying147
 a28:=Tryz.isAgg147
 z28:=Tryz.sizeOf147
 v28:=Tryz.zeroValue147
 t33:=Tryz.underlying105
 a33:=Tryz.isAgg105
 z33:=Tryz.sizeOf105
 v33:=Tryz.zeroValue105 }
def Tryz.sortedA_ren:Go.Shelf.Ren:=⟨fun | 6=>110 | 8=>144 | 9=>145 | 11=>172 | 13=>174 | 12=>173 | 23=>200 | 24=>201 | 14=>191 | 15=>192 | 16=>193 | 17=>194 | 18=>195 | 19=>196 | 20=>197 | 21=>198 | 22=>199 | 25=>213 | 26=>214 | 27=>215 | 28=>216 | 29=>217 | 30=>218 | 31=>226 | n=>n,fun | 26=>3 | 28=>147 | 24=>49 | 0=>0 | 3=>3 | 37=>189 | 48=>224 | 50=>226 | 4=>4 | 40=>218 | 39=>217 | 45=>134 | 5=>5 | 9=>9 | 51=>233 | 55=>237 | 57=>247 | 58=>112 | 33=>105 | n=>n,fun | n=>n⟩
theorem Tryz.sortedA:Go.Proofs.SlLaysZI.n6 Tryz.prog Tryz.sortedA_ren := {
 mixed:=by kernel_rfl
 f6:=⟨Tryz.f110.name,by decide,Tryz.func110.trans (congrArg some (by kernel_rfl))⟩
 f8:=⟨Tryz.f144.name,by decide,Tryz.func144.trans (congrArg some (by kernel_rfl))⟩
 f11:=⟨Tryz.f172.name,by decide,Tryz.func172.trans (congrArg some (by kernel_rfl))⟩
 t0:=Tryz.underlying0
 a0:=Tryz.isAgg0
 z0:=Tryz.sizeOf0
 v0:=Tryz.zeroValue0
 t24:=Tryz.underlying49
 a24:=Tryz.isAgg49
 z24:=Tryz.sizeOf49
 v24:=Tryz.zeroValue49
 t26:=Tryz.underlying3
 a26:=Tryz.isAgg3
 z26:=Tryz.sizeOf3
 v26:=Tryz.zeroValue3
 t28:=Tryz.underlying147
 a28:=Tryz.isAgg147
 z28:=Tryz.sizeOf147
 v28:=Tryz.zeroValue147
 i26:=by kernel_rfl }
def Tryz.sortA_ren:Go.Shelf.Ren:=⟨fun | 5=>145 | 8=>174 | 7=>173 | 19=>200 | 20=>201 | 10=>191 | 11=>192 | 12=>193 | 13=>194 | 14=>195 | 15=>196 | 16=>197 | 17=>198 | 18=>199 | 30=>213 | 31=>214 | 32=>215 | 33=>216 | 34=>217 | 35=>218 | 40=>226 | n=>n,fun | 23=>49 | 25=>3 | 3=>3 | 32=>189 | 22=>49 | 0=>0 | 44=>224 | 46=>226 | 4=>4 | 36=>218 | 35=>217 | 41=>134 | 5=>5 | 9=>9 | 53=>233 | 57=>237 | 63=>247 | 64=>112 | n=>n,fun | n=>n⟩
theorem Tryz.sortA:Go.Proofs.SlLaysM.n5 Tryz.prog Tryz.sortA_ren := {
 mixed:=by kernel_rfl
 f5:=⟨Tryz.f145.name,by decide,Tryz.func145.trans (congrArg some (by kernel_rfl))⟩
 f7:=⟨Tryz.f173.name,by decide,Tryz.func173.trans (congrArg some (by kernel_rfl))⟩
 f8:=Tryz.func174.trans (congrArg some (by kernel_rfl))
 f10:=⟨Tryz.f191.name,by decide,Tryz.func191.trans (congrArg some (by kernel_rfl))⟩
 f11:=⟨Tryz.f192.name,by decide,Tryz.func192.trans (congrArg some (by kernel_rfl))⟩
 f12:=⟨Tryz.f193.name,by decide,Tryz.func193.trans (congrArg some (by kernel_rfl))⟩
 f13:=⟨Tryz.f194.name,by decide,Tryz.func194.trans (congrArg some (by kernel_rfl))⟩
 f14:=⟨Tryz.f195.name,by decide,Tryz.func195.trans (congrArg some (by kernel_rfl))⟩
 f15:=⟨Tryz.f196.name,by decide,Tryz.func196.trans (congrArg some (by kernel_rfl))⟩
 f16:=⟨Tryz.f197.name,by decide,Tryz.func197.trans (congrArg some (by kernel_rfl))⟩
 f17:=⟨Tryz.f198.name,by decide,Tryz.func198.trans (congrArg some (by kernel_rfl))⟩
 f18:=⟨Tryz.f199.name,by decide,Tryz.func199.trans (congrArg some (by kernel_rfl))⟩
 f19:=Tryz.func200.trans (congrArg some (by kernel_rfl))
 f20:=Tryz.func201.trans (congrArg some (by kernel_rfl))
 f30:=⟨Tryz.f213.name,by decide,Tryz.func213.trans (congrArg some (by kernel_rfl))⟩
 f31:=Tryz.func214.trans (congrArg some (by kernel_rfl))
 f32:=Tryz.func215.trans (congrArg some (by kernel_rfl))
 f33:=⟨Tryz.f216.name,by decide,Tryz.func216.trans (congrArg some (by kernel_rfl))⟩
 f34:=⟨Tryz.f217.name,by decide,Tryz.func217.trans (congrArg some (by kernel_rfl))⟩
 f35:=⟨Tryz.f218.name,by decide,Tryz.func218.trans (congrArg some (by kernel_rfl))⟩
 f40:=⟨Tryz.f226.name,by decide,Tryz.func226.trans (congrArg some (by kernel_rfl))⟩
 t0:=Tryz.underlying0
 a0:=Tryz.isAgg0
 z0:=Tryz.sizeOf0
 v0:=Tryz.zeroValue0
 t3:=Tryz.underlying3
 a3:=Tryz.isAgg3
 z3:=Tryz.sizeOf3
 v3:=Tryz.zeroValue3
 t4:=Tryz.underlying4
 a4:=Tryz.isAgg4
 z4:=Tryz.sizeOf4
 v4:=Tryz.zeroValue4
 t5:=Tryz.underlying5
 a5:=Tryz.isAgg5
 z5:=Tryz.sizeOf5
 v5:=Tryz.zeroValue5
 t9:=Tryz.underlying9
 a9:=Tryz.isAgg9
 z9:=Tryz.sizeOf9
 v9:=Tryz.zeroValue9
 t22:=Tryz.underlying49
 a22:=Tryz.isAgg49
 z22:=Tryz.sizeOf49
 v22:=Tryz.zeroValue49
 t23:=Tryz.underlying49
 a23:=Tryz.isAgg49
 z23:=Tryz.sizeOf49
 v23:=Tryz.zeroValue49
 t25:=Tryz.underlying3
 a25:=Tryz.isAgg3
 z25:=Tryz.sizeOf3
 v25:=Tryz.zeroValue3
 t32:=Tryz.underlying189
 a32:=Tryz.isAgg189
 z32:=Tryz.sizeOf189
 v32:=Tryz.zeroValue189
 t35:=Tryz.underlying217
 a35:=Tryz.isAgg217
 z35:=Tryz.sizeOf217
 v35:=Tryz.zeroValue217
 t36:=Tryz.underlying218
 a36:=Tryz.isAgg218
 z36:=Tryz.sizeOf218
 v36:=Tryz.zeroValue218
 t41:=Tryz.underlying134
 a41:=Tryz.isAgg134
 z41:=Tryz.sizeOf134
 v41:=Tryz.zeroValue134
 t44:=Tryz.underlying224
 a44:=Tryz.isAgg224
 z44:=Tryz.sizeOf224
 v44:=Tryz.zeroValue224
 t46:=Tryz.underlying226
 a46:=Tryz.isAgg226
 z46:=Tryz.sizeOf226
 v46:=Tryz.zeroValue226
 t53:=Tryz.underlying233
 a53:=Tryz.isAgg233
 z53:=Tryz.sizeOf233
 v53:=Tryz.zeroValue233
 t57:=Tryz.underlying237
 a57:=Tryz.isAgg237
 z57:=Tryz.sizeOf237
 v57:=Tryz.zeroValue237
 t63:=Tryz.underlying247
 a63:=Tryz.isAgg247
 z63:=Tryz.sizeOf247
 v63:=Tryz.zeroValue247
 t64:=Tryz.underlying112
 a64:=Tryz.isAgg112
 z64:=Tryz.sizeOf112
 v64:=Tryz.zeroValue112 }
end Go.Proofs
namespace Go.Proofs
open Go.RowKit Go.Shelf
set_option maxRecDepth 100000
attribute [local go_sem] Oper.semAt_some
def delM (f:Int→Option Value) (k:Int):Int→Option Value:=fun x=>if x=k then none else f x
theorem IMap.drop {W:World} {m N:Nat} {f:Int→Option Value} (h:IMap W m N f) {t e:TypeId} (ht:Tryz.prog.underlying t=some (.map 3 e)) {k:Int} (hk:InI k) (ty:TypeId) :
 ∃ w',(Builtin.delete_ #[t,3] ty #[.map (some m),.int .i64 k]).run Tryz.prog W = .ok (.tuple #[]) w'∧IMap w' m N (delM f k)∧W.mapTurned w' m:=by
 obtain ⟨n,D,hD,hn,hK⟩:=h
 obtain ⟨w',hrun,hD',ht⟩:=hD.drop key3 ht (keyI hk) ty
 refine ⟨w',hrun,⟨n,_,hD',by omega,fun x => ?_⟩,ht⟩
 by_cases hx:x=k
 · subst hx
   have e1:delM f x x=none:=by simp [delM]
   rw [e1]
   exact ⟨Maps.has_del_same,fun v hv=>by cases hv⟩
 · have e1:delM f k x=f x:=by simp [delM,hx]
   have hne:(Lit.int .i64 x)≠Lit.int .i64 k:=fun e=>hx (by injection e)
   rw [e1,Maps.has_del_other hne]
   refine ⟨(hK x).1,fun u hu z => ?_⟩
   rw [Maps.atKey_del_other hne]
   exact (hK x).2 u hu z
def cntF (c:Int→Int):Int→Option Value:=fun k=>if c k=0 then none else some (.int .i64 (c k))
theorem cntF_get (c:Int→Int) (k:Int):(cntF c k).getD (.int .i64 0) = .int .i64 (c k):=by
 unfold cntF
 by_cases h:c k=0
 · rw [if_pos h,h];rfl
 · rw [if_neg h];rfl
def addC (c:Int→Int) (at_ by_:Int):Int→Int:=fun x=>if x=at_ then c x+by_ else c x
theorem cntF_add0 {c:Int→Int} {k y:Int} (h:c k+y=0):delM (updM (cntF c) k (.int .i64 (c k+y))) k=cntF (addC c k y):=by
 funext x
 unfold delM updM cntF addC
 by_cases hx:x=k
 · subst hx
   rw [if_pos rfl,if_pos rfl,if_pos h]
 · rw [if_neg hx,if_neg hx,if_neg hx]
theorem cntF_add1 {c:Int→Int} {k y:Int} (h:c k+y≠0):updM (cntF c) k (.int .i64 (c k+y))=cntF (addC c k y):=by
 funext x
 unfold updM cntF addC
 by_cases hx:x=k
 · subst hx
   rw [if_pos rfl,if_pos rfl,if_neg h]
 · rw [if_neg hx,if_neg hx]
end Go.Proofs
namespace Go.Proofs
open Go.RowKit Go.Shelf
set_option maxRecDepth 100000
attribute [local go_sem] Oper.semAt_some
def Tn (m:Nat) (W W':World):Prop:=Below m W W'∧∀ b,b≠m→b<W.heap.size→W'.heap[b]? = W.heap[b]?
theorem Tn.refl (m:Nat) (W:World):Tn m W W:=⟨Below.refl _ _,fun _ _ _=>rfl⟩
theorem Tn.size {m:Nat} {W W':World} (h:Tn m W W'):W.heap.size≤W'.heap.size:=h.1.size
theorem Tn.trans {m:Nat} {a b c:World} (h:Tn m a b) (k:Tn m b c):Tn m a c:=⟨h.1.trans k.1,fun x hx hl=>(k.2 x hx (Nat.lt_of_lt_of_le hl h.size)).trans (h.2 x hx hl)⟩
theorem Tn.grown {m:Nat} {W W':World} (hm:m≤W.heap.size) (h:Grown W W'):Tn m W W':=⟨h.below.mono hm,fun b _ hl=>h.below.block b hl⟩
theorem Tn.alloc {m:Nat} {W W':World} (h:Tn m W W') (hm:m≤W.heap.size) (o:Obj):Tn m W (W'.alloc o):=h.trans (Tn.grown (Nat.le_trans hm h.size) ((Grown.refl _).alloc o))
theorem Tn.turned {m:Nat} {W W':World} (h:W.mapTurned W' m):Tn m W W':=⟨turned_below h (Nat.le_refl _),fun _ hb _=>turned_other h hb⟩
theorem IMap.lt {W:World} {m N:Nat} {f:Int→Option Value} (h:IMap W m N f):m<W.heap.size:=by
 obtain ⟨es,c,hb⟩:=h.isMap
 exact (Array.getElem?_eq_some_iff.1 hb).1
def TuQ (m N:Nat) (c:Int→Int) (W:World) (e:Ending) (w':World):Prop:=e = .returned (.tuple #[])∧IMap w' m N (cntF c)∧Tn m W w'
set_option maxHeartbeats 1000000 in
theorem turn_any (W:World) (m N:Nat) (c:Int→Int) (at' by':Int) (h:IMap W m N (cntF c)) (hN:N≤1000000000) (hat : -100000000≤at'∧at'≤100000000) (hb : -1≤by'∧by'≤1) (hc:∀ k,-(N:Int)≤c k∧c k≤(N:Int)) :
 Calls Tryz.prog 109 #[.map (some m),.int .i64 at',.int .i64 by'] W (TuQ m (N+1) (addC c at' by') W):=by
 have hI:InI at':=⟨by omega,by omega⟩
 have hc1:=hc at'
 have hl1:=h.look (t:=118) (e:=3) Tryz.underlying118 (zero3 _) hI
 rw [cntF_get] at hl1
 obtain ⟨x,hx⟩:∃ x,c at'=x:=⟨_,rfl⟩
 have hxb : -1000000000≤x∧x≤1000000000:=by omega
 have hw:IntKind.i64.wrap (x+by')=x+by':=by rw [IntKind.wrap_i64];omega
 obtain ⟨W1,hr1,hI1,ht1⟩:=h.store (by omega) Tryz.underlying118 hI (.int .i64 (x+by'))
 have hl2:=hI1.look (t:=118) (e:=3) Tryz.underlying118 (zero3 _) hI
 have e2:(updM (cntF c) at' (.int .i64 (x+by')) at').getD (.int .i64 0) = .int .i64 (x+by'):=by simp [updM]
 rw [e2] at hl2
 rw [hx] at hl1
 have HY:Hid (c at'+by'=x+by'):=by show _=_;rw [hx]
 have HT1:Hid (W.mapTurned W1 m):=ht1
 have HI1:Hid (IMap W1 m (N+1) (updM (cntF c) at' (.int .i64 (x+by')))):=hI1
 by_cases h0:x+by'=0
 · obtain ⟨W2,hr2,hI2,ht2⟩:=hI1.drop (t:=118) (e:=3) Tryz.underlying118 hI 0
   have HR:Hid (TuQ m (N+1) (addC c at' by') W (.returned (.tuple #[])) W2):=by
    refine ⟨rfl,?_,(Tn.turned ht1).trans (Tn.turned ht2)⟩
    rw [←cntF_add0 (c:=c) (k:=at') (y:=by') (by rw [HY.out];exact h0),HY.out]
    exact hI2
   have d0:(x+by' == 0)=true:=by simpa using h0
   clear hI2 ht2 hI1 ht1 hx h hc hc1 e2 h0
   go_enter Tryz.func109,Tryz.ntmps109
   go_wp2
   refine bodyPost_end (results_none rfl _ _ _) rfl ?_
   exact HR.out
 · have HR:Hid (TuQ m (N+1) (addC c at' by') W (.returned (.tuple #[])) W1):=by
    refine ⟨rfl,?_,Tn.turned ht1⟩
    rw [←cntF_add1 (c:=c) (k:=at') (y:=by') (by rw [HY.out];exact h0),HY.out]
    exact hI1
   have d0:(x+by' == 0)=false:=by simpa using h0
   clear hI1 ht1 hx h hc hc1 e2 h0
   go_enter Tryz.func109,Tryz.ntmps109
   go_wp2
   refine bodyPost_end (results_none rfl _ _ _) rfl ?_
   exact HR.out
end Go.Proofs
namespace Go.Proofs
open Go.RowKit Go.Shelf
set_option maxRecDepth 100000
attribute [local go_sem] Oper.semAt_some
def Bdr (x:Int × Int):Prop:=x.1≤x.2∧0≤x.1∧x.2≤2000000
theorem Whole.bd {x:Int × Int} (h:Whole x):Bdr x:=by
 unfold Whole at h
 exact ⟨h.1,by omega,by omega⟩
def addS (c:Int→Int) (l:List (Int × Int)) (t:Int):Int→Int:=l.foldl (fun c x=>addC (addC c x.1 t) (x.2+1) (-t)) c
theorem addS_succ (c:Int→Int) (l:List (Int × Int)) (t:Int) {k:Nat} (hk:k<l.length):addS c (l.take (k+1)) t=addC (addC (addS c (l.take k) t) (rg l k).1 t) ((rg l k).2+1) (-t):=by
 unfold addS
 rw [List.take_succ_eq_append_getElem hk,List.foldl_append,rg_lt hk]
 rfl
theorem addC_bd {c:Int→Int} {N:Nat} (h:∀ k,-(N:Int)≤c k∧c k≤(N:Int)) {a b:Int} (hb : -1≤b∧b≤1):∀ k,-((N+1:Nat):Int)≤addC c a b k∧addC c a b k≤((N+1:Nat):Int):=fun k=>by
 have:=h k
 unfold addC
 split <;> omega
theorem addS_bd {c:Int→Int} {N:Nat} (h:∀ k,-(N:Int)≤c k∧c k≤(N:Int)) {l:List (Int × Int)} {t:Int} (ht : -1≤t∧t≤1):∀ n,n≤l.length→∀ k,-((N+2*n:Nat):Int)≤addS c (l.take n) t k∧addS c (l.take n) t k≤((N+2*n:Nat):Int)
 | 0,_=>by simpa [addS] using h
 | n+1,hn=>by
  rw [addS_succ c l t (show n<l.length by omega)]
  exact addC_bd (addC_bd (addS_bd h ht n (by omega)) ht) ⟨by omega,by omega⟩
set_option maxHeartbeats 2000000 in
theorem add_any (W:World) (m N:Nat) (c:Int→Int) (v:Value) (l:List (Int × Int)) (t:Int) (h:IMap W m N (cntF c)) (hl:l.length≤10000000) (hN:N≤500000000) (ht : -1≤t∧t≤1) (hb:∀ x∈l,Bdr x) (hR:∀ W',Tn m W W'→Rs W' v l) (hc:∀ k,-(N:Int)≤c k∧c k≤(N:Int)) :
 Calls Tryz.prog 81 #[.map (some m),v,.int .i64 t] W (TuQ m (N+2*l.length) (addS c l t) W):=by
 obtain ⟨n,hn⟩:∃ n,l.length=n:=⟨_,rfl⟩
 obtain ⟨a,cap,rfl,hcap,_⟩:=hR W (Tn.refl _ _)
 have hm:=h.lt
 have H:Hid (l.length=n∧(∀ x∈l,Bdr x)∧(∀ W',Tn m W W'→l=[]∨∃ g o,a=some ⟨g,o,none⟩∧Reads W' g o l)∧(∀ k,-(N:Int)≤c k∧c k≤(N:Int))∧m<W.heap.size):=⟨hn,hb,fun W' hT=>by
  obtain ⟨a2,c2,e,_,h3⟩:=hR W' hT
  injection e with e1 e2 e3
  subst e1
  exact h3,hc,hm⟩
 have H0:Hid (IMap W m N (cntF c)):=h
 have hwt:IntKind.i64.wrap (-t) = -t:=by rw [IntKind.wrap_i64];omega
 rw [hn] at hl ⊢
 clear h hb hR hc hn hm hcap
 go_enter Tryz.func81,Tryz.ntmps81
 go_wp2
 go_loopw [10] (fun vi wr=>∃ k:Nat,vi = .int .i64 k∧k≤n∧Hid (IMap wr m (N+2*k) (cntF (addS c (l.take k) t))∧Tn m W wr)) (fun vi _=>n - (intOf vi).toNat)
 case atStart=>exact ⟨0,rfl,by omega,by simpa [addS] using H0.out,Tn.refl _ _⟩
 case round=>
  obtain ⟨k,rfl,hk,HB⟩:=hrel
  by_cases hlt:k<n
  · have hlt':(k:Int)<(n:Int):=by omega
    have hpos:(0:Int)≤(k:Int):=by omega
    have hkl:k<l.length:=by rw [H.out.1];exact hlt
    obtain ⟨g,o,rfl,hR⟩:=(H.out.2.2.1 wr HB.out.2).resolve_left (by rintro rfl;simp at hkl)
    obtain ⟨p,q,hpq⟩:∃ p q:Int,rg l k=(p,q):=⟨_,_,rfl⟩
    obtain ⟨ca,cb⟩:=hR k hkl
    rw [hpq] at ca cb
    simp only at ca cb
    have hw:Bdr (p,q):=by rw [←hpq,rg_lt hkl];exact H.out.2.1 _ (List.getElem_mem hkl)
    obtain ⟨b1,b2,b3⟩:p≤q∧0≤p∧q≤2000000:=hw
    have HS:Hid (addS c (l.take (k+1)) t=addC (addC (addS c (l.take k) t) p t) (q+1) (-t)):=by
     have:=addS_succ c l t hkl
     rw [hpq] at this
     exact this
    have HC:Hid (∀ j,-((N+2*k:Nat):Int)≤addS c (l.take k) t j∧addS c (l.take k) t j≤((N+2*k:Nat):Int)):=addS_bd H.out.2.2.2.1 ht k (by have:=H.out.1;omega)
    have hkN:N+2*k≤900000000:=by omega
    have hmw:m<wr.heap.size:=Nat.lt_of_lt_of_le H.out.2.2.2.2 HB.out.2.size
    clear hpq hR
    go_wp2_with fail
    refine (turn_any _ m (N+2*k) _ p t (HB.out.1.kept fun ob ho=>by simpa using (Below.heap_alloc _ _ _ hmw).trans ho) (by omega) ⟨by omega,by omega⟩ ht HC.out).mono ?_
    rintro e w1 ⟨rfl,hI1,hT1⟩
    have H1:Hid (IMap w1 m (N+2*k+1) (cntF (addC (addS c (l.take k) t) p t))∧Tn m W w1):=⟨hI1,(HB.out.2.alloc (Nat.le_of_lt H.out.2.2.2.2) _).trans hT1⟩
    have cq:w1.cell? ⟨wr.heap.size,1,none⟩=some (.int .i64 q):=by
     have hbk:w1.heap[wr.heap.size]? = some (.cells #[.int .i64 p,.int .i64 q] 67 (0,0)):=(hT1.2 _ (by omega) (by simp)).trans (World.alloc_heap_new _ _)
     rw [cell_of hbk]
     rfl
    have hwq:IntKind.i64.wrap (q+1)=q+1:=by rw [IntKind.wrap_i64];omega
    clear hI1 HB hT1
    go_wp2_with fail
    refine (turn_any _ m (N+2*k+1) _ (q+1) (-t) H1.out.1 (by omega) ⟨by omega,by omega⟩ ⟨by omega,by omega⟩ (addC_bd HC.out ht)).mono ?_
    rintro e w2 ⟨rfl,hI2,hT2⟩
    have H2:Hid (IMap w2 m (N+2*(k+1)) (cntF (addS c (l.take (k+1)) t))∧Tn m W w2):=⟨by rw [HS.out];exact hI2,H1.out.2.trans hT2⟩
    clear hI2 hT2 H1 cq
    go_wp2
    exact ⟨⟨k+1,by go_num,by omega,H2⟩,by simp [intOf];omega⟩
  · have HF:Hid (IMap wr m (N+2*n) (cntF (addS c l t))∧Tn m W wr):=by
     have hrf:k=n:=by omega
     have:=HB.out
     rw [hrf,List.take_of_length_le (by rw [H.out.1];exact Nat.le_refl _)] at this
     exact this
    clear HB
    go_wp2
    refine bodyPost_end (results_none rfl _ _ _) rfl ?_
    exact ⟨rfl,HF.out⟩
end Go.Proofs
namespace Go.Proofs
open Go.RowKit Go.Shelf
def inR (x:Int × Int) (u:Int):Bool:=decide (x.1≤u) && decide (u≤x.2)
def inL (l:List (Int × Int)) (u:Int):Bool:=l.any (inR · u)
def cntL (l:List (Int × Int)) (u:Int):Int:=(l.filter (inR · u)).length
theorem cntL_nil (u:Int):cntL [] u=0:=rfl
theorem cntL_nonneg (l:List (Int × Int)) (u:Int):0≤cntL l u:=by unfold cntL;omega
theorem cntL_pos {l:List (Int × Int)} {u:Int} : 0<cntL l u↔inL l u=true:=by
 unfold cntL inL
 rw [List.any_eq_true]
 constructor
 · intro h
   obtain ⟨x,hx⟩:=List.exists_mem_of_length_pos (l:=l.filter (inR · u)) (by omega)
   exact ⟨x,(List.mem_filter.1 hx).1,(List.mem_filter.1 hx).2⟩
 · rintro ⟨x,hx,hu⟩
   have:=List.length_pos_of_mem (List.mem_filter.2 ⟨hx,hu⟩:x∈l.filter (inR · u))
   omega
def sumK (c:Int→Int) (ks:List Int) (x:Int):Int:=(ks.map fun k=>if k≤x then c k else 0).sum
theorem sumK_nil (c:Int→Int) (x:Int):sumK c [] x=0:=rfl
theorem sumK_cons (c:Int→Int) (k:Int) (ks:List Int) (x:Int):sumK c (k::ks) x=(if k≤x then c k else 0)+sumK c ks x:=by simp [sumK]
theorem sumK_perm (c:Int→Int) {a b:List Int} (h:a.Perm b) (x:Int):sumK c a x=sumK c b x:=by
 induction h with
 | nil=>rfl
 | cons k _ ih=>rw [sumK_cons,sumK_cons,ih]
 | swap a b l=>rw [sumK_cons,sumK_cons,sumK_cons,sumK_cons];omega
 | trans _ _ h1 h2=>rw [h1,h2]
structure Keys (c:Int→Int) (ks:List Int):Prop where
 nd:ks.Nodup
 all:∀ k,c k≠0→k∈ks
def Sums (c:Int→Int) (P:Int→Int):Prop:=(∃ ks,Keys c ks)∧∀ ks,Keys c ks→∀ x,sumK c ks x=P x
theorem sumK_addC_out {c:Int→Int} {ks:List Int} {a b:Int} (h:a ∉ ks) (x:Int):sumK (addC c a b) ks x=sumK c ks x:=by
 induction ks with
 | nil=>rfl
 | cons k ks ih=>
  have h1:k≠a:=fun e=>h (by rw [e];simp)
  rw [sumK_cons,sumK_cons,ih fun hm=>h (List.mem_cons_of_mem _ hm)]
  unfold addC
  rw [if_neg h1]
theorem sumK_addC {c:Int→Int} {ks:List Int} {a b:Int} (hn:ks.Nodup) (h:a∈ks) (x:Int):sumK (addC c a b) ks x=sumK c ks x+if a≤x then b else 0:=by
 induction ks with
 | nil=>cases h
 | cons k ks ih=>
  rw [List.nodup_cons] at hn
  rw [sumK_cons,sumK_cons]
  by_cases hk:k=a
  · subst hk
    rw [sumK_addC_out hn.1]
    unfold addC
    rw [if_pos rfl]
    split <;> omega
  · have h2:a∈ks:=by
     rcases List.mem_cons.1 h with h | h
     · exact absurd h.symm hk
     · exact h
    rw [ih hn.2 h2]
    have:addC c a b k=c k:=by unfold addC;rw [if_neg hk]
    rw [this]
    omega
theorem keys_same {c:Int→Int} {a b:List Int} (ha:Keys c a) (hb:Keys c b) (x:Int):sumK c a x=sumK c b x:=by
 have key:∀ (l:List Int),sumK c l x=sumK c (l.filter fun k=>decide (c k≠0)) x:=fun l=>by
  induction l with
  | nil=>rfl
  | cons k l ih=>
   rw [sumK_cons,ih]
   by_cases h:c k=0
   · rw [List.filter_cons_of_neg (by simpa using h),h]
     split <;> simp
   · rw [List.filter_cons_of_pos (by simpa using h),sumK_cons]
 rw [key a,key b]
 apply sumK_perm
 refine (List.perm_ext_iff_of_nodup (ha.nd.filter _) (hb.nd.filter _)).2 fun k => ?_
 simp only [List.mem_filter,decide_eq_true_eq]
 exact ⟨fun h=>⟨hb.all k h.2,h.2⟩,fun h=>⟨ha.all k h.2,h.2⟩⟩
theorem Sums.mk' {c P:Int→Int} {ks:List Int} (h:Keys c ks) (hs:∀ x,sumK c ks x=P x):Sums c P:=⟨⟨ks,h⟩,fun l hl x=>by rw [keys_same hl h,hs]⟩
theorem Sums.zero:Sums (fun _=>0) fun _=>0:=Sums.mk' (ks:=[]) ⟨List.nodup_nil,fun _ h=>absurd rfl h⟩ fun _=>rfl
theorem Sums.add {c P:Int→Int} (h:Sums c P) (a b:Int):Sums (addC c a b) fun x=>P x+if a≤x then b else 0:=by
 obtain ⟨⟨ks,hk⟩,hs⟩:=h
 have hk2:Keys c (if a∈ks then ks else a::ks):=by
  split
  · exact hk
  · rename_i hn
    exact ⟨List.nodup_cons.2 ⟨hn,hk.nd⟩,fun k hk0=>List.mem_cons_of_mem _ (hk.all k hk0)⟩
 have ha:a∈(if a∈ks then ks else a::ks):=by
  split
  · assumption
  · simp
 refine Sums.mk' (ks:=if a∈ks then ks else a::ks) ⟨hk2.nd,fun k h0 => ?_⟩ fun x=>by rw [sumK_addC hk2.nd ha,hs _ hk2]
 by_cases hka:k=a
 · rw [hka];exact ha
 · refine hk2.all k fun e=>h0 ?_
   unfold addC
   rw [if_neg hka]
   exact e
theorem Sums.addS {P:Int→Int} (t:Int):∀ (l:List (Int × Int)) {c:Int→Int},(∀ x∈l,x.1≤x.2)→Sums c P→∃ Q,Sums (addS c l t) Q∧∀ u,Q u=P u+t*cntL l u:=by
 intro l
 induction l generalizing P with
 | nil=>exact fun _ h=>⟨P,h,fun u=>by rw [cntL_nil];omega⟩
 | cons x l ih=>
  intro c hx h
  have h1:=(h.add x.1 t).add (x.2+1) (-t)
  obtain ⟨Q,hQ,hq⟩:=ih (fun y hy=>hx y (List.mem_cons_of_mem _ hy)) h1
  refine ⟨Q,hQ,fun u => ?_⟩
  have hx1:=hx x (by simp)
  have hc:cntL (x::l) u=(if inR x u then 1 else 0)+cntL l u:=by
   unfold cntL
   by_cases hh:inR x u=true <;> simp [hh] <;> omega
  rw [hq,hc,Int.mul_add]
  have hin:(if inR x u=true then (1:Int) else 0)=if x.1≤u then (if x.2+1≤u then 0 else 1) else 0:=by
   unfold inR
   by_cases h1:x.1≤u <;> by_cases h2:x.2+1≤u
   all_goals simp [h1,h2] <;> omega
  rw [hin]
  by_cases h1:x.1≤u <;> by_cases h2:x.2+1≤u
  all_goals simp only [h1,h2,if_true,if_false];omega
end Go.Proofs
