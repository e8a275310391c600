/-
  Several texts in one (Tv Rz Tsf Tvf Ye Za Zb).
-/
import Derived.RangeFuncNested
import Derived.RangeFuncBound
import Derived.RangeFuncCalls
import Derived.RangeFuncLeaves
import Derived.Shelf.Abstract
import Derived.Shelf.RegionOpen
import Derived.WalkKit
import Derived.WalkSpells
import Derived.WalkLawsBesides
import Derived.OwnWalkIn
import Derived.TacticsInMore
import Derived.LoopNIn
import Derived.LoopIn
import Derived.BigQuiet
import Derived.RegionIn
import Derived.Deep.QuietTactic
import Derived.Deep.RegionWith
import Derived.Lib.OthersKept
import Derived.Maps.AppendAt
import Derived.Lib.SmallJoins
import Derived.Shelf.SlSortCmp.QuietGrown
import Derived.Test.YtibgnkpagfpinaaGreatDoorMglt
import Derived.Test.YtibgnkpagfpinaaGreatDoorCdt
import Derived.RangeFuncWrites
import Derived.RangeFuncBox
import Derived.Test.YtibgnkpagfpinaaGreatDoorMgkt
import Derived.Sort.LoopGhostIn
import Derived.Maps.OwnIn
import Derived.Laws.OwnMore
namespace Go.Proofs
open Go.RowKit Go.Shelf
set_option maxRecDepth 100000
attribute [local go_sem] Oper.semAt_some
attribute [local go_sem ↓] Go.wp_at_zero Go.wp_at_succ
theorem zip1 (t:Tmp) (v:Value):(#[t]:Array Tmp).zip #[v]=#[(t,v)]:=by simp [List.zip_toArray]
structure Made (W0:World) (rs:List Rl) (s:ByteArray) (b1 b2:Nat) (v:Value) (st:St):Prop where
 pw:PW W0 v rs st
 c1:W0.cell? ⟨b1,0,none⟩=some v
 c2:W0.cell? ⟨b2,0,none⟩=some (.string s)
 sz:s.size≤16384
 end3:G3 rs (intsU (units s)) (endOf rs s).1 (endOf rs s).2 []
def StpQ (w:World) (rs:List Rl) (s:ByteArray) (e:Ending) (w':World):Prop:=
 Below w.heap.size w w'∧((mayE rs s≠0∧e = .returned (.tuple #[.nilFunc,.int .i64 (mayE rs s)]))∨(mayE rs s=0∧∃ b1 b2 v,e = .returned (.tuple #[.func (.func 54) #[] #[.pointer (some ⟨b1,0,none⟩),.pointer (some ⟨b2,0,none⟩)],.int .i64 0])∧w.heap.size≤b1∧w.heap.size≤b2∧w'.heap[b1]? = some (.cells #[v] 22 (0,0))∧w'.heap[b2]? = some (.cells #[.string s] 9 (0,0))∧Rob (fun k=>k<w.heap.size) w' (fun W=>PsR W v rs)))
set_option maxHeartbeats 4000000 in
theorem steps_any (v:Value) (rs:List Rl) (s:ByteArray) (w:World) (hT:Tab w) (h:PsR w v rs):Calls Tryz.prog 36 #[.agg #[v],.string s] w (StpQ w rs s):=by
 have HC:Hid (∀ W,Grown w W→Calls Tryz.prog 40 #[.agg #[v],.string s] W fun e w'=>e = .returned (.int .i64 (mayE rs s))∧Below W.heap.size W w'):=fun W hg=>may_any v rs s W (hT.grown hg) (h.grown hg)
 obtain ⟨E,hE2⟩:∃ E,mayE rs s=E:=⟨_,rfl⟩
 have HE:=Hid.mk' hE2
 rw [hE2] at HC
 have HP:=Hid.mk' h
 obtain ⟨ra,rc,hv,hx1,hx2⟩:=h
 subst hv
 obtain ⟨n,hn⟩:∃ n,rs.length=n:=⟨_,rfl⟩
 rw [hn] at HC HP ⊢
 by_cases hE:E=0
 · subst hE
   obtain ⟨st,hw,hs,hF,hall,hck,hG⟩:=may_ok hE2
   have HOw:Hid (∀ W,Below w.heap.size w W→Calls Tryz.prog 53 #[.slice ra n rc] W fun e w'=>∃ y1 y2 y3,e = .returned (.slice y1 y2 y3)∧Rob (fun k=>k<W.heap.size) w' (fun V=>PsR V (.slice y1 y2 y3) rs)∧Below W.heap.size W w'):=fun W hb=>(ownRules_any _ rs W (HP.out.below hb (Nat.le_refl _)) hF.n fun r hr=>chk_ok (hck r hr)).mono (by
    rintro e w' ⟨v',rfl,⟨y1,y2,y3,rfl⟩,h1,h2⟩
    exact ⟨y1,y2,y3,rfl,h1,h2⟩)
   clear hx1 hx2 hE2 hT hw hs hF hall hck hG hn
   go_enter Tryz.func36,Tryz.ntmps36
   go_wp2_with fail
   refine (HC.out _ (by (repeat (first | exact Grown.refl _ | refine Grown.alloc ?_ _ | refine Grown.drew ?_)))).mono ?_
   rintro e w1 ⟨rfl,hB⟩
   have hz:((w.alloc (.cells #[.slice ra n rc] 24)).alloc (.cells #[.string s] 9)).heap.size=w.heap.size+2:=by simp
   have hk1:w1.heap[w.heap.size]? = some (.cells #[.slice ra n rc] 24 (0,0)):=by
    rw [hB.block w.heap.size (by omega)]
    exact (((Grown.refl (w.alloc (.cells #[.slice ra n rc] 24))).alloc (.cells #[.string s] 9)).below.block w.heap.size (by simp)).trans (heap_alloc_new w _)
   have hk2:w1.heap[w.heap.size+1]? = some (.cells #[.string s] 9 (0,0)):=by
    rw [hB.block (w.heap.size+1) (by omega)]
    simpa using heap_alloc_new (w.alloc (.cells #[.slice ra n rc] 24)) (.cells #[.string s] 9)
   have c1:w1.cell? ⟨w.heap.size,0,none⟩=some (.slice ra n rc):=(cell_of hk1).trans rfl
   have HK2:=Hid.mk' hk2
   have HB:Hid (Below w.heap.size w w1):=(((Grown.refl w).alloc _).alloc _).below.trans (hB.mono (by omega))
   clear hB hk1 hk2 hz
   go_wp2_with (go_at_call 53;refine (HOw.out _ HB.out).mono ?_;rintro e w2 ⟨y1,y2,y3,rfl,hr2,hb2⟩;have H2:=Hid.mk' (And.intro hr2 hb2);clear hr2 hb2)
   go_ret2
   have hb2:=H2.out.2
   have hbb:Below w.heap.size w w2:=HB.out.trans (hb2.mono HB.out.size)
   have hgr:Grown w2 (w2.alloc (.cells #[.slice y1 y2 y3] 22)):=(Grown.refl _).alloc _
   refine ⟨hbb.trans (hgr.below.mono hbb.size),.inr ⟨HE.out,w2.heap.size,w.heap.size+1,.slice y1 y2 y3,rfl,hbb.size,by omega,heap_alloc_new _ _,?_,?_⟩⟩
   · exact (hgr.below.block _ (by have:=blk_lt HK2.out;have:=hb2.size;omega)).trans ((hb2.block _ (blk_lt HK2.out)).trans HK2.out)
   · exact (H2.out.1.less fun k _ hk=>Nat.lt_of_lt_of_le hk HB.out.size).fr (fr_grown hgr fun _=>False) fun _ _ e=>e.elim
 · have hE3:(E != 0)=true:=by simpa using hE
   clear hx1 hx2 hE2 hT hn HP
   go_enter Tryz.func36,Tryz.ntmps36
   go_wp2_with (go_at_call 40;refine (HC.out _ (by (repeat (first | exact Grown.refl _ | refine Grown.alloc ?_ _ | refine Grown.drew ?_)))).mono ?_;rintro e w1 ⟨rfl,hB⟩;have HB:Hid (Below w.heap.size w w1):=(((Grown.refl w).alloc _).alloc _).below.trans (hB.mono (by simp;omega));clear hB)
   go_ret2
   exact ⟨HB.out,.inl ⟨by rw [HE.out];exact hE,by rw [HE.out];rfl⟩⟩
structure MvF (F F':Nat→Prop) (X Y:World):Prop where
 fr:Fr X Y F
 nw:∀ k,F' k→F k∨X.heap.size≤k
 lt:(∀ k,F k→k<X.heap.size)→∀ k,F' k→k<Y.heap.size
theorem MvF.grown {F:Nat→Prop} {X Y:World} (h:Grown X Y):MvF F F X Y:=⟨fr_grown h _,fun _ h => .inl h,fun hl k hk=>Nat.lt_of_lt_of_le (hl k hk) h.size⟩
def StabF {α:Type} (J:List α→(Nat→Prop)→World→Prop):Prop:=∀ s F F' X Y,J s F X→MvF F F' X Y→J s F' Y
def SeqF {α:Type} (n g:Nat) (pa lb:Array Value) (enc:α→Array Value) (xf:List α) (b:Nat) (F0:Nat→Prop) (E:(Nat→Prop)→World→Prop) (V:World) (l:Nat):Prop:=
 ∀ (J Jx:List α→(Nat→Prop)→World→Prop),StabF J→StabF Jx →
  (∀ pre x F X,J pre F X→pre++[x] <+: xf→YieldAt Fence.wide (n - 1) Tryz.prog l (enc x) X fun e Y=>(e = .returned (.bool true)∧J (pre++[x]) F Y∧KAll F b X Y)∨(e = .returned (.bool false)∧Jx (pre++[x]) F Y∧KAll F b X Y)) →
  J [] F0 V→CallsIn Fence.wide n Tryz.prog g (pa++#[.func (.yield l) #[] #[]]++lb) V fun e Y=>(∃ v,e = .returned v)∧((∃ F,J xf F Y∧E F Y)∨∃ pre F,(pre <+: xf∧pre≠[])∧Jx pre F Y)
def ZF (F:Nat→Prop) (h k:Nat):Prop:=F k∨k=h∨k=h+1
def wPostF {α:Type} (h b:Nat) (I:List α→(Nat→Prop)→World→Prop) (Ix:Code→List α→(Nat→Prop)→World→Prop) (s:List α) (F:Nat→Prop) (X:World):Exit→Act→World→Prop
 | .normal,_,Y=>KAll (ZF F h) b X Y∧I s F Y
 | .ret,_,Y=>KAll (ZF F h) b X Y∧Ix .ret s F Y
 | .exit id,_,Y=>KAll (ZF F h) b X Y∧Ix (.exit id) s F Y
 | .goto t,_,Y=>KAll (ZF F h) b X Y∧Ix (.goto t) s F Y
 | .panic _,_,_=>False
 | .outgrown,_,_=>False
def StabI {α:Type} (h:Nat) (I:List α→(Nat→Prop)→World→Prop):Prop:=∀ s F F' X Y,I s F X→¬ F h→¬ F (h+1)→Fr X Y (fun k=>F k∨k=h+1)→(∀ k,F' k→F k∨X.heap.size≤k)→((∀ k,F k→k<X.heap.size)→∀ k,F' k→k<Y.heap.size)→I s F' Y
theorem wpIn_overF {α:Type} {enc:α→Array Value} {n:Nat} {g:Operand} {ps:Array Tmp} {assign body:Code} {Q:Exit→Act→World→Prop} {a:Act} {w:World} (h1:1≤n) {gf:Nat} {pa lb:Array Value}
 (hg:a.eval g = .func (.func gf) pa lb) (eg:∀ args w,(callFunc gf args).run Tryz.prog w = .ok (.enter gf args) w) {xf:List α} {b h:Nat} {F0:Nat→Prop} {E:(Nat→Prop)→World→Prop} (hh:h=w.heap.size) (hbh:b≤h) (hF0:∀ k,F0 k→k<h)
 (hseq:∀ r:Loop,SeqF (n - 1) gf pa lb enc xf b F0 E ((w.alloc (.deferred (some []))).alloc (.loop r)) (h+1)) (hE:∀ F X o,¬ F (h+1)→E F X→E F (X.putObj (h+1) o)) (hps:∀ x,(enc x).size=ps.size)
 (I:List α→(Nat→Prop)→World→Prop) (Ix:Code→List α→(Nat→Prop)→World→Prop) (hI:StabI h I) (hIx:∀ c,StabI h (Ix c)) (h0:∀ r:Loop,I [] F0 ((w.alloc (.deferred (some []))).alloc (.loop r)))
 (hround:∀ (pre:List α) (x:α) (F:Nat→Prop) (W:World),pre++[x] <+: xf→h+2≤W.heap.size→¬ F h→¬ F (h+1)→I pre F W→assign.wpIn (Fence.wide.inRound (h+1)) (n - 1 - 1) Tryz.prog (Exit.then (fun a' W'=>Grown W W'∧∀ X,I pre F X→X.heap.size=W'.heap.size→(∀ k,k≠h+1→X.heap[k]? = W'.heap[k]?)→(∃ r,X.heap[h+1]? = some (.loop r))→body.wpIn (Fence.wide.inRound (h+1)) (n - 1 - 1) Tryz.prog (wPostF h b I Ix (pre++[x]) F X) a' X) (fun _ _ _=>False)) { tmps:=(ps.zip (enc x)).foldl (fun t (p,v)=>t.setIfInBounds p v) a.tmps,defers:=[] } W)
 (hdone:∀ (F:Nat→Prop) (W:World),¬ F h→¬ F (h+1)→I xf F W→E F W→W.heap[h]? = some (.deferred (some []))→Q .normal { a with defers := { target := .collected h,args:=#[] } :: a.defers } W)
 (hstop:∀ (c:Code) (pre:List α) (F:Nat→Prop) (W:World),(pre <+: xf∧pre≠[])→¬ F h→¬ F (h+1)→Ix c pre F W→W.heap[h]? = some (.deferred (some []))→c.wpIn Fence.wide n Tryz.prog Q { a with defers := { target := .collected h,args:=#[] } :: a.defers } W) :
 (Code.rangeFunc g ps assign body).wpIn Fence.wide n Tryz.prog Q a w:=by
 refine wpIn_rangeFunc ?_
 intro fn hfn
 let rc:LoopState→Option Code→Loop:=fun st pe => { state:=st,pending:=pe,fn,tmps:=a.tmps,params:=ps,assign,body,defers:=h }
 let V:World:=(w.alloc (.deferred (some []))).alloc (.loop (rc .ready none))
 have hV:V.heap.size=h+2:=by simp [V,hh]
 have hV1:V.heap[h+1]? = some (.loop (rc .ready none)):=by
  have e:=World.alloc_heap_new (w.alloc (.deferred (some []))) (.loop (rc .ready none))
  rw [World.size_alloc,←hh] at e;exact e
 have hV0:V.heap[h]? = some (.deferred (some [])):=by
  have e:=World.alloc_heap_new w (.deferred (some []))
  rw [←hh] at e
  exact (Below.heap_alloc _ _ _ (by simp [hh])).trans e
 have n0:¬ F0 h:=fun e=>by have:=hF0 _ e;omega
 have n1:¬ F0 (h+1):=fun e=>by have:=hF0 _ e;omega
 have wide:∀ {F:Nat→Prop} {X Y:World},Fr X Y F→Fr X Y fun k=>F k∨k=h+1:=fun {F X Y} hf=>hf.mono fun _ _ e => .inl e
 have putI:∀ {F:Nat→Prop} {X:World} {s:List α} (o:Obj),¬ F h→¬ F (h+1)→I s F X→I s F (X.putObj (h+1) o):=fun {F X s} o z0 z1 hi=>hI s F F X _ hi z0 z1 ((fr_put o).mono fun k _ e => .inr e) (fun _ e => .inl e) (fun hl k hk=>by simpa using hl k hk)
 have putIx:∀ {F:Nat→Prop} {X:World} {s:List α} {c:Code} (o:Obj),¬ F h→¬ F (h+1)→Ix c s F X→Ix c s F (X.putObj (h+1) o):=fun {F X s c} o z0 z1 hi=>hIx c s F F X _ hi z0 z1 ((fr_put o).mono fun k _ e => .inr e) (fun _ e => .inl e) (fun hl k hk=>by simpa using hl k hk)
 refine ⟨h+1,[{ target := .collected h,args:=#[] }],V,{ target := .fn (.func gf) lb,args:=pa++#[.func (.yield (h+1)) #[] #[]] },V,gf,pa++#[.func (.yield (h+1)) #[] #[]]++lb,V,?_,?_,?_,?_,fun _=>h1,?_⟩
 · have e:=run_enterLoop_outer (P:=Tryz.prog) (w:=w) fn a.tmps ps assign body
   rw [←hh] at e
   exact e
 · simp only [resolve,hg]
   simp [go_sem]
 · intro f' _;trivial
 · simp [invoke,go_sem,eg]
 · refine (hseq (rc .ready none) (fun pre F W=>(I pre F W∧¬ F h∧¬ F (h+1))∧W.heap[h+1]? = some (.loop (rc .ready none))∧W.heap[h]? = some (.deferred (some [])))
    (fun pre F W=>∃ c,(Ix c pre F W∧¬ F h∧¬ F (h+1))∧W.heap[h+1]? = some (.loop (rc .done (some c)))∧W.heap[h]? = some (.deferred (some [])))
    (fun s F F' X Y hs hf=>by
     obtain ⟨⟨hi,z0,z1⟩,e1,e0⟩:=hs
     have l1:=blk_lt e1
     have nF:∀ k,k<X.heap.size→¬ F k→¬ F' k:=fun k hk hn hf'=>by rcases hf.nw k hf' with e | e;exact hn e;omega
     exact ⟨⟨hI s F F' X Y hi z0 z1 (wide hf.fr) hf.nw hf.lt,nF _ (by omega) z0,nF _ l1 z1⟩,(hf.fr.block _ l1 z1).trans e1,(hf.fr.block _ (by omega) z0).trans e0⟩)
    (fun s F F' X Y hs hf=>by
     obtain ⟨c,⟨hi,z0,z1⟩,e1,e0⟩:=hs
     have l1:=blk_lt e1
     have nF:∀ k,k<X.heap.size→¬ F k→¬ F' k:=fun k hk hn hf'=>by rcases hf.nw k hf' with e | e;exact hn e;omega
     exact ⟨c,⟨hIx c s F F' X Y hi z0 z1 (wide hf.fr) hf.nw hf.lt,nF _ (by omega) z0,nF _ l1 z1⟩,(hf.fr.block _ l1 z1).trans e1,(hf.fr.block _ (by omega) z0).trans e0⟩) ?_
    ⟨⟨h0 (rc .ready none),n0,n1⟩,hV1,hV0⟩).mono ?_
   · rintro pre x F X ⟨⟨hi,z0,z1⟩,e1,e0⟩ hlen
     have hy:=run_yield (P:=Tryz.prog) (args:=enc x) e1 (by simp [rc,hps])
     have hlt:h+1<X.heap.size:=blk_lt e1
     refine ⟨fn,_,assign,body,hy,roundIn_of_wpIn hfn (wpIn_mono (hround pre x F X hlen (by omega) z0 z1 hi) ?_)⟩
     clear hy
     rintro ee a' W' hp'
     cases ee with
     | exit id=>exact hp'.elim
     | goto t=>exact hp'.elim
     | ret=>exact hp'.elim
     | panic ch=>exact hp'.elim
     | outgrown=>exact hp'.elim
     | normal=>
     obtain ⟨hgx,hbody⟩:=hp'
     have e1':W'.heap[h+1]? = some (.loop (rc .ready none)):=(hgx.below.block _ hlt).trans e1
     have e0':W'.heap[h]? = some (.deferred (some [])):=(hgx.below.block _ (by omega)).trans e0
     refine ⟨_,run_beginRound e1' rfl,?_⟩
     let X2:World:=W'.putObj (h+1) (.loop { rc .ready none with state := .busy })
     have f1:X2.heap[h+1]? = some (.loop { rc .ready none with state := .busy }):=World.putObj_heap_same (blk_lt e1')
     have f0:X2.heap[h]? = some (.deferred (some [])):=(World.putObj_heap_other (by omega)).trans e0'
     have fk:KAll F b X X2:=(KAll.grown hgx (by omega)).trans (KAll.put _ z1 (by omega))
     have hi2:I pre F X2:=putI _ z0 z1 (hI _ _ _ _ _ hi z0 z1 (fr_grown hgx _) (fun _ e => .inl e) fun hl k hk=>Nat.lt_of_lt_of_le (hl k hk) hgx.size)
     -- how a round ends
     have fin:∀ (jump:Option Code) (Y:World),KAll (ZF F h) b X2 Y→∃ V',(Instr.endRound (h+1) jump).run Tryz.prog Y = .ok (.bool jump.isNone) V'∧V'=Y.putObj (h+1) (.loop (rc (if jump.isNone then .ready else .done) jump)) ∧
      V'.heap[h+1]? = some (.loop (rc (if jump.isNone then .ready else .done) jump))∧V'.heap[h]? = some (.deferred (some []))∧KAll F b X V':=fun jump Y hY=>by
      have y1:=hY.same _ _ (.inr (.inr rfl)) f1
      have y0:=hY.same _ _ (.inr (.inl rfl)) f0
      exact ⟨_,run_endRound jump y1,rfl,World.putObj_heap_same (blk_lt y1),(World.putObj_heap_other (by omega)).trans y0,(fk.trans (hY.mono (fun _ e => .inl e) (Nat.le_refl _))).trans (KAll.put _ z1 (by omega))⟩
     refine wpIn_mono (hbody X2 hi2 (by simp [X2]) (fun k hk=>World.putObj_heap_other hk) ⟨_,f1⟩) ?_
     rintro e a3 Y hp
     cases e with
     | normal=>
      obtain ⟨k1,k3⟩:=hp
      obtain ⟨V',hr,rfl,y1,y0,kz⟩:=fin none Y k1
      exact ⟨_,_,hr,.inl ⟨rfl,⟨⟨putI _ z0 z1 k3,z0,z1⟩,y1,y0⟩,kz⟩⟩
     | ret=>
      obtain ⟨k1,k3⟩:=hp
      obtain ⟨V',hr,rfl,y1,y0,kz⟩:=fin (some .ret) Y k1
      exact ⟨_,_,hr,.inr ⟨rfl,⟨.ret,⟨putIx _ z0 z1 k3,z0,z1⟩,y1,y0⟩,kz⟩⟩
     | exit id=>
      obtain ⟨k1,k3⟩:=hp
      obtain ⟨V',hr,rfl,y1,y0,kz⟩:=fin (some (.exit id)) Y k1
      exact ⟨_,_,hr,.inr ⟨rfl,⟨.exit id,⟨putIx _ z0 z1 k3,z0,z1⟩,y1,y0⟩,kz⟩⟩
     | goto t=>
      obtain ⟨k1,k3⟩:=hp
      obtain ⟨V',hr,rfl,y1,y0,kz⟩:=fin (some (.goto t)) Y k1
      exact ⟨_,_,hr,.inr ⟨rfl,⟨.goto t,⟨putIx _ z0 z1 k3,z0,z1⟩,y1,y0⟩,kz⟩⟩
     | panic ch=>exact hp.elim
     | outgrown=>exact hp.elim
   · rintro e Y ⟨⟨v,rfl⟩,(⟨F,⟨⟨hi,z0,z1⟩,e1,e0⟩,hEY⟩ | ⟨pre,F,hSp,c,⟨hi,z0,z1⟩,e1,e0⟩)⟩
     · exact ⟨none,_,run_endLoop e1 (by simp [rc]),hdone F _ z0 z1 (putI _ z0 z1 hi) (hE _ _ _ z1 hEY) ((World.putObj_heap_other (by omega)).trans e0)⟩
     · exact ⟨some c,_,run_endLoop e1 (by simp [rc]),hstop c pre F _ hSp z0 z1 (putIx _ z0 z1 hi) ((World.putObj_heap_other (by omega)).trans e0)⟩
theorem wpIn_overFZ {α:Type} {enc:α→Array Value} {n:Nat} {g:Operand} {ps:Array Tmp} {assign body:Code} {Q:Exit→Act→World→Prop} {a:Act} {w:World} (h1:1≤n) {gf:Nat} {pa lb:Array Value}
 (hg:a.eval g = .func (.func gf) pa lb) (eg:∀ args w,(callFunc gf args).run Tryz.prog w = .ok (.enter gf args) w) {xf:List α} {b h:Nat} {F0:Nat→Prop} {E:(Nat→Prop)→World→Prop} (hh:h=w.heap.size) (hbh:b≤h) (hF0:∀ k,F0 k→k<h)
 (hseq:∀ r:Loop,SeqF (n - 1) gf pa lb enc xf b F0 E ((w.alloc (.deferred (some []))).alloc (.loop r)) (h+1)) (hE:∀ F X o,¬ F (h+1)→E F X→E F (X.putObj (h+1) o)) (hps:∀ x,(enc x).size=ps.size)
 (I:List α→(Nat→Prop)→World→Prop) (Ix:Code→List α→(Nat→Prop)→World→Prop) (hI:StabI h I) (hIx:∀ c,StabI h (Ix c)) (h0:∀ r:Loop,I [] F0 ((w.alloc (.deferred (some []))).alloc (.loop r))) (a₁:α→World→Act) (gw:α→World→World) (hgw:∀ x W,Grown W (gw x W))
 (hassign:∀ (l:Nat) (x:α) (W:World) (K:Act→World→Prop),K (a₁ x W) (gw x W)→assign.wpIn (Fence.wide.inRound l) (n - 1 - 1) Tryz.prog (Exit.then K (fun _ _ _=>False)) { tmps:=(ps.zip (enc x)).foldl (fun t (p,v)=>t.setIfInBounds p v) a.tmps,defers:=[] } W)
 (hbody:∀ (pre:List α) (x:α) (F:Nat→Prop) (W X:World),I pre F X→pre++[x] <+: xf→h+2≤W.heap.size→¬ F h→¬ F (h+1)→X.heap.size=(gw x W).heap.size→(∀ k,k≠h+1→X.heap[k]? = (gw x W).heap[k]?)→I pre F W→body.wpIn (Fence.wide.inRound (h+1)) (n - 1 - 1) Tryz.prog (wPostF h b I Ix (pre++[x]) F X) (a₁ x W) X)
 (hdone:∀ (F:Nat→Prop) (W:World),¬ F h→¬ F (h+1)→I xf F W→E F W→W.heap[h]? = some (.deferred (some []))→Q .normal { a with defers := { target := .collected h,args:=#[] } :: a.defers } W)
 (hstop:∀ (c:Code) (pre:List α) (F:Nat→Prop) (W:World),(pre <+: xf∧pre≠[])→¬ F h→¬ F (h+1)→Ix c pre F W→W.heap[h]? = some (.deferred (some []))→c.wpIn Fence.wide n Tryz.prog Q { a with defers := { target := .collected h,args:=#[] } :: a.defers } W) :
 (Code.rangeFunc g ps assign body).wpIn Fence.wide n Tryz.prog Q a w:=
 wpIn_overF h1 hg eg hh hbh hF0 hseq hE hps I Ix hI hIx h0 (fun pre x F W hp hW z0 z1 hIW=>hassign (h+1) x W _ ⟨hgw x W,fun X hX hs hk _=>hbody pre x F W X hX hp hW z0 z1 hs hk hIW⟩) hdone hstop
def WF (wb mb:Nat) (dv uv lv:Value) (f:Int→Option Value) (k:Nat):Prop:=k=wb∨k=mb∨dv.ownBlock=some k∨uv.ownBlock=some k∨lv.ownBlock=some k∨∃ u bv,f u=some bv∧bv.ownBlock=some k
theorem Wk.wf {Z:Nat→Prop} {T:Nat} {W0 w:World} {B wb mb:Nat} {v lv:Value} {rs:List Rl} {d l0:List Int} {xs:List Stp} {dn lf:List Int} {N:Nat} {dv uv:Value} {n room:Nat} {uu:List Int} {f:Int→Option Value} (h:Wk Z T W0 w B wb mb v lv rs d l0 xs dn lf N dv uv n room uu f) {k:Nat} (hk:WF wb mb dv uv lv f k):Z k:=by
 rcases hk with rfl | rfl | e | e | e | ⟨u,bv,e1,e2⟩
 · exact h.zw
 · exact h.zm
 · exact h.zd _ e
 · exact h.zu _ e
 · exact h.zl _ e
 · exact h.zf u bv e1 _ e2
theorem Wk.wlt {Z:Nat→Prop} {T:Nat} {W0 w:World} {B wb mb:Nat} {v lv:Value} {rs:List Rl} {d l0:List Int} {xs:List Stp} {dn lf:List Int} {N:Nat} {dv uv:Value} {n room:Nat} {uu:List Int} {f:Int→Option Value} (h:Wk Z T W0 w B wb mb v lv rs d l0 xs dn lf N dv uv n room uu f) {k:Nat} (hk:WF wb mb dv uv lv f k):k<w.heap.size:=by
 rcases hk with rfl | rfl | e | e | e | ⟨u,bv,e1,e2⟩
 · exact blk_lt h.blk
 · obtain ⟨es,cc,he⟩:=h.map.isMap
   exact blk_lt he
 · exact (World.ownsRow.lt h.don _ e).2
 · exact (World.ownsRow.lt h.uni _ e).2
 · exact (World.ownsRow.lt h.ord _ e).2
 · exact (World.ownsRow.lt (h.fi u bv e1) _ e2).2
def ZX (w:World) (F:Nat→Prop) (k:Nat):Prop:=F k∨w.heap.size≤k
theorem Wk.exact {Z:Nat→Prop} {T:Nat} {W0 w:World} {B wb mb:Nat} {v lv:Value} {rs:List Rl} {d l0:List Int} {xs:List Stp} {dn lf:List Int} {N:Nat} {dv uv:Value} {n room:Nat} {uu:List Int} {f:Int→Option Value} (h:Wk Z T W0 w B wb mb v lv rs d l0 xs dn lf N dv uv n room uu f):Wk (ZX w (WF wb mb dv uv lv f)) w.heap.size W0 w B wb mb v lv rs d l0 xs dn lf N dv uv n room uu f:=
 ⟨h.blk,h.map,h.fi,h.don,h.uni,h.ul,h.rm,h.lfe,h.n3,h.ord,h.oln,h.srt,h.du,h.lx,h.fx,h.bel,h.b0,h.b1,h.b2,h.b3,h.at3,h.nN,fun _ e => .inr e,Nat.le_refl _,fun k hk=>hk.elim (fun e=>h.zb k (h.wf e)) fun e=>Nat.le_trans h.b3 e,.inl (.inl rfl),.inl (.inr (.inl rfl)),fun _ e => .inl (.inr (.inr (.inl e))),fun _ e => .inl (.inr (.inr (.inr (.inl e)))),fun _ e => .inl (.inr (.inr (.inr (.inr (.inl e))))),fun u bv e1 _ e2 => .inl (.inr (.inr (.inr (.inr (.inr ⟨u,bv,e1,e2⟩)))))⟩
def WkF (F:Nat→Prop) (W0 w:World) (B wb mb:Nat) (v lv:Value) (rs:List Rl) (d l0:List Int) (xs:List Stp) (dn lf:List Int):Prop:=∃ Z T dv uv n room uu f,Wk Z T W0 w B wb mb v lv rs d l0 xs dn lf xs.length dv uv n room uu f∧F=WF wb mb dv uv lv f
theorem KAll.zx {F:Nat→Prop} {b:Nat} {X Y:World} (h:KAll F b X Y):KAll (ZX X F) b X Y:=⟨h.bel,fun k o hk ho=>by
 rcases hk with e | e
 · exact h.same k o e ho
 · have:=blk_lt ho
   omega⟩
theorem WkF.keep {F:Nat→Prop} {W0 X Y:World} {B wb mb:Nat} {v lv:Value} {rs:List Rl} {d l0:List Int} {xs:List Stp} {dn lf:List Int} (h:WkF F W0 X B wb mb v lv rs d l0 xs dn lf) {b:Nat} (hk:KAll F b X Y) (hb:W0.heap.size≤b):WkF F W0 Y B wb mb v lv rs d l0 xs dn lf:=by
 obtain ⟨Z,T,dv,uv,n,room,uu,f,hw,rfl⟩:=h
 exact ⟨_,_,dv,uv,n,room,uu,f,hw.exact.keep hk.zx hb,rfl⟩
set_option maxHeartbeats 4000000 in
theorem steps_seqF {F0:Nat→Prop} {W0 V:World} {B wb mb:Nat} {v lv:Value} {rs:List Rl} {st:St} {d l0:List Int} {xf:List Stp} {df:List Int} (hP:PW W0 v rs st) (hl0:l0.length≤16384) (hu0:AllU l0) (hf:G3 rs l0 xf df []) (h:WkF F0 W0 V B wb mb v lv rs d l0 [] [] l0) {b:Nat} (hb:W0.heap.size≤b) (n l:Nat) (hn:1≤n) :
 SeqF n 42 #[.pointer (some ⟨wb,0,none⟩)] #[] encS xf b F0 (fun F Y=>WkF F W0 Y B wb mb v lv rs d l0 xf df []) V l:=by
 intro J Jx hJ hJx hY h0
 refine callsIn_of_wp Tryz.func42 rfl trivial ?_ rfl
 simp only [Tryz.ntmps42,List.size_toArray,List.length_cons,List.length_nil,Nat.reduceAdd,Nat.reduceSub,Array.replicate_succ,Array.replicate_zero,List.push_toArray,List.append_toArray,List.nil_append,List.cons_append]
 have HP:=Hid.mk' hP
 have HS:Hid (∀ {xs:List Stp} {dn lf:List Int},G3 rs l0 xs dn lf→(xs.length:Int)+lf.length≤64*l0.length):=fun {xs dn lf} hg=>by
  have:=hg.lens hP.fin hP.ck
  omega
 gi_wp2_with fail
 gi_loopg [] (64*l0.length+1) (fun f wr=>Hid (∃ xs dn lf F,WkF F W0 wr B wb mb v lv rs d l0 xs dn lf∧J xs F wr∧64*l0.length+1≤f+xs.length))
 case atStart=>exact ⟨[],[],l0,F0,h,h0,by simp⟩
 case round=>
  obtain ⟨xs,dn,lf,F,hW,hJr,hm⟩:=hrel.out
  obtain ⟨Z,T,dv,uv,n',room,uu,f,hk,hF⟩:=hW
  have hlen:=HS.out hk.at3
  by_cases hlf:lf=[]
  · subst hlf
    have HN:Hid (Calls Tryz.prog 61 #[.pointer (some ⟨wb,4,none⟩)] wr fun e w'=>w'=wr.drew∧∃ A c,e = .returned (.slice A 0 c)):=hk.nowl
    have HK:=Hid.mk' (And.intro hk (And.intro hJr hF))
    clear hk hrel hm hJr hF
    gi_wp2_with (refine ⟨trivial,?_⟩;gi_at_call 61;refine (callsIn_wide.2 HN.out).mono ?_;rintro e w' ⟨rfl,A,c,rfl⟩)
    go_end0
    obtain ⟨hk,hJr,hF⟩:=HK.out
    obtain ⟨e1,e2⟩:=hk.at3.one hf
    subst e1 e2
    exact ⟨⟨_,rfl⟩,.inl ⟨F,hJ _ _ _ _ _ hJr (MvF.grown (Grown.refl wr).drew),_,_,_,_,_,_,_,_,hk.drew,hF⟩⟩
  · have hl1:=List.length_pos_iff.2 hlf
    have hl1I:(0:Int)<(lf.length:Int):=by omega
    have HN:Hid (Calls Tryz.prog 61 #[.pointer (some ⟨wb,4,none⟩)] wr fun e w'=>w'=wr.drew∧∃ A c,e = .returned (.slice A lf.length c)):=hk.nowl
    have HSt:Hid (Calls Tryz.prog 62 #[.pointer (some ⟨wb,0,none⟩)] wr.drew (StepQ (ZX wr.drew F) wr.drew.heap.size W0 wr.drew B wb mb v lv rs d l0 xs dn lf)):=by rw [hF];exact step_any HP.out hl0 hu0 hk.drew.exact hlf
    obtain ⟨x,hx⟩:∃ x,stp rs dn lf=x:=⟨_,rfl⟩
    have HXF:Hid (xs++[x] <+: xf):=by
     have hp:=(hk.at3.snoc hlf).prefix hf
     rw [hx] at hp
     show _ <+: _
     rw [hp]
     exact List.take_prefix _ _
    have HJD:Hid (∀ w4 dv' uv' n' room' uu' f',Wk (ZX wr.drew F) wr.drew.heap.size W0 w4 B wb mb v lv rs d l0 (xs++[x]) (dn++layd rs dn lf) (lefd rs dn lf) (xs.length+1) dv' uv' n' room' uu' f'→Fr wr.drew w4 (ZX wr.drew F)→J xs (WF wb mb dv' uv' lv f') w4):=fun w4 dv' uv' n' room' uu' f' hw hf4=>hJ _ _ _ _ _ hJr ⟨(fr_drew _ _).trans (hf4.mono (C:=F) fun k hk hz=>by rcases hz with e | e;exact e;omega) fun _ _ e=>e,fun k hk=>by
     rcases hw.wf hk with e | e
     · exact .inl e
     · exact .inr e,fun _ k hk=>hw.wlt hk⟩
    have HLen:Hid (xs.length+1≤64*l0.length∧64*l0.length+1≤gk+xs.length):=⟨by omega,hm⟩
    have HHf:=Hid.mk' hf
    unfold StepQ at HSt
    rw [hx] at HSt
    obtain ⟨ln,hln⟩:∃ ln,lf.length=ln:=⟨_,rfl⟩
    rw [hln] at HN hl1I hl1
    clear hk hrel hm hJr hlen hln hf hP hF
    gi_wp2_with (first
     | (refine ⟨trivial,?_⟩;gi_at_call 61;refine (callsIn_wide.2 HN.out).mono ?_;rintro e w' ⟨rfl,A,c,rfl⟩)
     | (refine ⟨trivial,?_⟩;gi_at_call 62;refine (callsIn_wide.2 HSt.out).mono ?_;rintro e w4 ⟨rfl,⟨dv',uv',n2,room',uu',f',hw4⟩,hf4⟩;have HW4:=Hid.mk' (And.intro hw4 hf4);obtain ⟨fn,tmps,assign,body,hy,hR⟩:=hY xs x _ w4 (HJD.out w4 _ _ _ _ _ _ hw4 hf4) HXF.out;dsimp only [encS] at hy;have HR:=Hid.mk' hR;clear hR hw4 hf4))
    refine HR.out.mono ?_
    rintro e W3 (⟨rfl,hJ3,hk3⟩ | ⟨rfl,hJx3,hk3⟩)
    · gi_wp2
      gi_roundg (gk - 1)
      case measure=>have:=HLen.out;omega
      case rel=>
       obtain ⟨hw,hf4⟩:=HW4.out
       refine ⟨xs++[x],dn++layd rs dn lf,lefd rs dn lf,WF wb mb dv' uv' lv f',⟨ZX w4 (WF wb mb dv' uv' lv f'),w4.heap.size,dv',uv',n2,room',uu',f',?_,rfl⟩,hJ3,by have:=HLen.out;simp;omega⟩
       rw [List.length_append]
       exact hw.exact.keep hk3.zx hb
    · gi_wp2
      refine bodyPost_ret (results_none rfl _ _ _) rfl ?_
      exact ⟨⟨_,rfl⟩,.inr ⟨xs++[x],_,⟨HXF.out,by simp⟩,hJx3⟩⟩
theorem wk_startF {W0 Ws w1 V:World} {rs:List Rl} {st:St} {v lv uv:Value} {s:ByteArray} {wb mb:Nat} {d:List Int} (_hP:PW W0 v rs st) (hs:s.size≤16384) (hb0:Below W0.heap.size W0 Ws) (h:StQ Ws w1 rs v s wb mb lv uv d) (hg:Grown w1 V) (hsz:V.heap.size=w1.heap.size+2) :
 Wk (ZW Ws.heap.size w1.heap.size) (w1.heap.size+2) W0 V Ws.heap.size wb mb v lv rs d (intsU (units s)) [] [] (intsU (units s)) 0 (.slice none 0 0) uv (intsU (units s)).length 0 (intsU (units s)) (fun _=>none):=by
 have hn:(intsU (units s)).length≤16384:=by rw [intsU_length];have:=units_len s;omega
 have hwb:=blk_lt h.blk
 have hmw:=h.mw
 have hmb:=h.mb
 have hb1:=h.bel.size
 have hlo:∀ b,lv.ownBlock=some b→b<w1.heap.size∧Ws.heap.size≤b:=fun b hb=>⟨(World.ownsRow.lt h.ord b hb).2,(World.ownsRow.lt h.ord b hb).1⟩
 have hup:∀ b,uv.ownBlock=some b→b<w1.heap.size∧mb+1≤b:=fun b hb=>⟨(World.ownsRow.lt h.lft b hb).2,(World.ownsRow.lt h.lft b hb).1⟩
 have gb:=hg.below
 exact {
  blk:=h.blk.fr (fr_grown hg fun _=>False) id
  map:=h.map.kept fun o ho=>(gb.block mb (blk_lt ho)).trans ho
  fi:=fun u bv hu=>by cases hu
  don:=OwnI.nil _ _
  uni:=(h.lft.below gb (Nat.le_refl _)).le (by omega)
  ul:=rfl
  rm:=Nat.zero_le _
  lfe:=rfl
  n3:=by omega
  ord:=h.ord.below gb (Nat.le_refl _)
  oln:=h.len
  srt:=h.srt
  du:=fun b hb=>by cases hb
  lx:=fun b hb=>⟨fun e=>(by cases e),fun e=>by have:=h.lo b hb;have:=(hup b e).2;omega⟩
  fx:=fun u bv hu=>by cases hu
  bel:=hb0.trans ((h.bel.trans (gb.mono hb1)).mono hb0.size)
  b0:=hb0.size
  b1:=hmb
  b2:=by omega
  b3:=by have:=hg.size;omega
  at3:=G3.nil _ _
  nN:=rfl
  zt:=fun k hk => .inr hk
  tw:=by omega
  zb:=fun k hk=>by rcases hk with hk | hk <;> omega
  zw := .inl ⟨by omega,hwb⟩
  zm := .inl ⟨hmb,by omega⟩
  zd:=fun b hb=>by cases hb
  zu:=fun b hb => .inl ⟨by have:=(hup b hb).2;omega,(hup b hb).1⟩
  zl:=fun b hb => .inl ⟨(hlo b hb).2,(hlo b hb).1⟩
  zf:=fun u bv hu=>by cases hu }
set_option maxHeartbeats 8000000 in
theorem steps1_seqF {W0 V:World} {rs:List Rl} {s:ByteArray} {b1 b2:Nat} {v:Value} {st:St} (h:Made W0 rs s b1 b2 v st) (hV:Below W0.heap.size W0 V) (n l:Nat) (hn:2≤n) :
 SeqF n 54 #[] #[.pointer (some ⟨b1,0,none⟩),.pointer (some ⟨b2,0,none⟩)] encS (endOf rs s).1 W0.heap.size (fun _=>False) (fun _ _=>True) V l:=by
 intro J Jx hJ hJx hY h0
 have hn1:1≤n:=by omega
 have hsl:IsSl v:=by
  obtain ⟨a,c,e,_⟩:=h.pw.psr
  exact ⟨a,_,c,e⟩
 obtain ⟨v1,v2,v3,hv⟩:=hsl
 subst hv
 have c1:V.cell? ⟨b1,0,none⟩=some (.slice v1 v2 v3):=cell_below h.c1 hV (Nat.le_refl _)
 have c2:V.cell? ⟨b2,0,none⟩=some (.string s):=cell_below h.c2 hV (Nat.le_refl _)
 have c1':=fun o=>cell_up c1 o
 have c2':=fun o=>cell_up c2 o
 have hs:=h.sz
 have HSt:Hid (∀ W,Grown V W→Calls Tryz.prog 41 #[.slice v1 v2 v3,.string s] W (StE W rs (.slice v1 v2 v3) s)):=fun W hg=>start_any _ rs s W ((h.pw.psr.below hV (Nat.le_refl _)).grown hg) (by have:=h.pw.fin.n;omega) (fun r hr=>by have:=(chk_ok (h.pw.ck r hr)).k8;omega) (by omega)
 obtain ⟨xf,hxf⟩:∃ xf,(endOf rs s).1=xf:=⟨_,rfl⟩
 obtain ⟨df,hdf⟩:∃ df,(endOf rs s).2=df:=⟨_,rfl⟩
 have HM:=Hid.mk' h
 have hG:=h.end3
 rw [hxf,hdf] at hG
 rw [hxf] at hY ⊢
 have HG:=Hid.mk' hG
 have HHY:=Hid.mk' hY
 clear hY h hG hxf hdf
 refine callsIn_of_wp_marks Tryz.func54 rfl trivial ?_ rfl
 simp only [Tryz.ntmps54,List.size_toArray,List.length_cons,List.length_nil,Nat.reduceAdd,Nat.reduceSub,Array.replicate_succ,Array.replicate_zero,List.push_toArray,List.append_toArray,List.nil_append,List.cons_append]
 gi_wp2_with (refine ⟨trivial,?_⟩;gi_at_call 41;refine (callsIn_wide.2 (HSt.out _ (by (repeat (first | exact Grown.refl _ | refine Grown.alloc ?_ _ | refine Grown.drew ?_))))).mono ?_;rintro e w2 ⟨wb,mb,lv,uv,d,rfl,hQ⟩;have HQ:=Hid.mk' hQ;clear hQ)
 obtain ⟨w1,hw1⟩:∃ w1,w1=V.alloc (.cells #[.func (.yield l) #[] #[]] 105):=⟨_,rfl⟩
 have hw1s:w1.heap.size=V.heap.size+1:=by rw [hw1];simp
 have hgV:Grown V w1:=by rw [hw1];exact (Grown.refl _).alloc _
 have hbx1:w1.heap[V.heap.size]? = some (.cells #[.func (.yield l) #[] #[]] 105 (0,0)):=by rw [hw1];exact heap_alloc_new _ _
 rw [←hw1] at HQ
 obtain ⟨h,hh⟩:∃ h,h=w2.heap.size:=⟨_,rfl⟩
 have hb12:w1.heap.size≤h:=by rw [hh];exact HQ.out.bel.size
 have hl0:(intsU (units s)).length≤16384:=by rw [intsU_length];have:=units_len s;omega
 have hW0:=hV.size
 have hb1:Below W0.heap.size W0 w1:=hV.trans (hgV.below.mono hW0)
 have hf12:∀ X,Fr V w2 X:=fun X=>(fr_grown hgV X).trans (fr_below HQ.out.bel (Nat.le_refl _) X) fun _ _ e=>e
 have hbx2:w2.heap[V.heap.size]? = some (.cells #[.func (.yield l) #[] #[]] 105 (0,0)):=(HQ.out.bel.block _ (by omega)).trans hbx1
 clear hw1 c1 c2 c1' c2' hbx1
 obtain ⟨FW,hFW⟩:∃ FW,FW=WF wb mb (.slice none 0 0) uv lv (fun _=>none):=⟨_,rfl⟩
 have hWk0:∀ X,Grown w2 X→X.heap.size=w2.heap.size+2→WkF FW W0 X w1.heap.size wb mb (.slice v1 v2 v3) lv rs d (intsU (units s)) [] [] (intsU (units s)):=fun X hX hsz=>⟨_,_,_,_,_,_,_,_,wk_startF HM.out.pw hs hb1 HQ.out hX hsz,hFW⟩
 have hFlt:∀ k,FW k→k<h:=fun k hk=>by
  rw [hFW] at hk
  rcases hk with rfl | rfl | e | e | e | ⟨u,bv,e1,e2⟩
  · rw [hh];exact blk_lt HQ.out.blk
  · have:=HQ.out.mw;have:=blk_lt HQ.out.blk;omega
  · cases e
  · rw [hh];exact (World.ownsRow.lt HQ.out.lft _ e).2
  · rw [hh];exact (World.ownsRow.lt HQ.out.ord _ e).2
  · cases e1
 have hFge:∀ k,FW k→w1.heap.size≤k:=fun k hk=>by
  rw [hFW] at hk
  have hmb:=HQ.out.mb
  rcases hk with rfl | rfl | e | e | e | ⟨u,bv,e1,e2⟩
  · have:=HQ.out.mw;omega
  · exact hmb
  · cases e
  · have:=(World.ownsRow.lt HQ.out.lft _ e).1;omega
  · exact (World.ownsRow.lt HQ.out.ord _ e).1
  · cases e1
 obtain ⟨G,hG⟩:∃ G:(Nat→Prop)→Nat→Prop,G=fun F k=>F k∨k=V.heap.size∨k=h∨k=h+1:=⟨_,rfl⟩
 have hVh:V.heap.size<h:=by omega
 have hMv:∀ {F F':Nat→Prop} {X Y:World},Fr X Y (fun k=>F k∨k=h+1)→(∀ k,F' k→F k∨X.heap.size≤k)→((∀ k,F k→k<X.heap.size)→∀ k,F' k→k<Y.heap.size)→MvF (G F) (G F') X Y:=fun {F F' X Y} hf hn hlt=>by
  subst hG
  exact ⟨hf.mono fun k _ e=>e.elim .inl fun e => .inr (.inr (.inr e)),fun k hk=>hk.elim (fun e=>(hn k e).elim (fun e => .inl (.inl e)) .inr) fun e => .inl (.inr e),fun hl k hk=>hk.elim (fun e=>hlt (fun k hk=>hl k (.inl hk)) k e) fun e=>Nat.lt_of_lt_of_le (hl k (.inr e)) hf.size⟩
 refine wpIn_overFZ (enc:=encS) (by omega) (gf:=42) (pa:=#[.pointer (some ⟨wb,0,none⟩)]) (lb:=#[]) rfl (enters_of Tryz.func42 (by kernel_rfl) rfl) (xf:=xf) (b:=W0.heap.size) (h:=h) (F0:=FW) (E:=fun F Y=>WkF F W0 Y w1.heap.size wb mb (.slice v1 v2 v3) lv rs d (intsU (units s)) xf df []) hh (by omega) hFlt
  (fun r=>steps_seqF HM.out.pw hl0 (units_all s) HG.out (hWk0 _ (((Grown.refl w2).alloc (.deferred (some []))).alloc (.loop r)) (by simp)) (Nat.le_refl _) _ _ (by omega))
  (fun F X o hn hX=>hX.keep (KAll.put o hn (by omega)) (Nat.le_refl _))
  (fun _=>rfl) (fun pre F W=>J pre (G F) W∧¬ F V.heap.size∧W.heap[V.heap.size]? = some (.cells #[.func (.yield l) #[] #[]] 105 (0,0))) (fun c pre F W=>c = .ret∧Jx pre (G F) W)
  (fun pre F F' X Y hX z0 z1 hf hn hlt=>⟨hJ _ _ _ _ _ hX.1 (hMv hf hn hlt),fun e=>by rcases hn _ e with e | e;exact hX.2.1 e;have:=blk_lt hX.2.2;omega,(hf.block _ (blk_lt hX.2.2) (fun hk=>by rcases hk with e | e;exact hX.2.1 e;omega)).trans hX.2.2⟩)
  (fun c pre F F' X Y hX z0 z1 hf hn hlt=>⟨hX.1,hJx _ _ _ _ _ hX.2 (hMv hf hn hlt)⟩)
  (fun r=>by
   have hgr:Grown w2 ((w2.alloc (.deferred (some []))).alloc (.loop r)):=((Grown.refl w2).alloc _).alloc _
   have hsz:((w2.alloc (.deferred (some []))).alloc (.loop r)).heap.size=h+2:=by rw [hh];simp
   refine ⟨hJ _ _ _ _ _ h0 ⟨(hf12 _).trans (fr_grown hgr _) fun _ _ e=>e,fun k hk => ?_,fun _ k hk => ?_⟩,fun e=>by have:=hFge _ e;omega,(hgr.below.block _ (blk_lt hbx2)).trans hbx2⟩
   · subst hG
     right
     rcases hk with e | e | e | e
     · have:=hFge k e;omega
     · omega
     · omega
     · omega
   · subst hG
     rw [hsz]
     rcases hk with e | e | e | e
     · have:=hFlt k e;omega
     · omega
     · omega
     · omega)
  (fun x W => { tmps:=#[.func (.yield l) #[] #[],.pointer (some ⟨b1,0,none⟩),.pointer (some ⟨b2,0,none⟩),.pointer (some ⟨V.heap.size,0,none⟩),.pointer (some ⟨W.heap.size,0,none⟩),.slice v1 v2 v3,.string s,.pointer (some ⟨wb,0,none⟩),.func (.func 42) #[.pointer (some ⟨wb,0,none⟩)] #[],.agg (fs1 x).toArray,undef,undef,undef,undef],defers:=[] })
  (fun x W=>W.alloc (.cells (fs1 x).toArray 79)) (fun _ W=>(Grown.refl W).alloc _) ?assign ?body ?done ?stop
 case assign=>
  intro l x W K hK
  rw [show (#[9]:Array Tmp).zip (encS x)=#[(9,Value.agg (fs1 x).toArray)] from zip1 _ _]
  unfold fs1 at hK ⊢
  gi_wp2
  first | exact hK | (simp only [List.foldl_toArray,List.foldl_cons,List.foldl_nil,List.setIfInBounds_toArray,List.set_cons_succ,List.set_cons_zero];gi_wp2;exact hK)
 case body=>
  rintro pre x F W X ⟨hI,hbn,hbox⟩ hpre hWs z0 z1 hXs hXk _
  have cb:X.cell? ⟨V.heap.size,0,none⟩=some (.func (.yield l) #[] #[]):=by rw [cell_of hbox];rfl
  have hcx:X.heap[W.heap.size]? = some (.cells (fs1 x).toArray 79 (0,0)):=by rw [hXk _ (by omega)];exact heap_alloc_new W _
  have k0:X.cell? ⟨W.heap.size,0,none⟩=some (.int .i64 x.r):=by rw [cell_of hcx];rfl
  have k1:X.cell? ⟨W.heap.size,1,none⟩=some (.int .i64 x.d):=by rw [cell_of hcx];rfl
  have k2:X.cell? ⟨W.heap.size,2,none⟩=some (.int .i64 x.l):=by rw [cell_of hcx];rfl
  have k3:X.cell? ⟨W.heap.size,3,none⟩=some (.int .i64 x.t):=by rw [cell_of hcx];rfl
  have k4:X.cell? ⟨W.heap.size,4,none⟩=some (.int .i64 x.a):=by rw [cell_of hcx];rfl
  have k5:X.cell? ⟨W.heap.size,5,none⟩=some (.int .i64 x.b):=by rw [cell_of hcx];rfl
  obtain ⟨fn,tmps,assign,bd,hy,hR⟩:=yield_wide (l1:=h+1) (m':=n - 1 - 1 - 1) (HHY.out pre x _ X hI hpre)
  dsimp only [encS] at hy
  unfold fs1 at hy
  have HR:=Hid.mk' hR
  have HBX:=Hid.mk' hbox
  clear hR hcx hbox hI hXk hXs
  gi_wp2
  refine ⟨fun h=>absurd h (by simp [Fence.wide]),?_⟩
  refine HR.out.mono ?_
  have hwk:∀ {Y:World},KAll (G F) W0.heap.size X Y→KAll (ZF F h) W0.heap.size X Y∧Y.heap[V.heap.size]? = some (.cells #[.func (.yield l) #[] #[]] 105 (0,0)):=fun hk=>by
   subst hG
   exact ⟨hk.mono (fun k hz=>hz.elim .inl fun e => .inr (.inr e)) (Nat.le_refl _),hk.same _ _ (.inr (.inl rfl)) HBX.out⟩
  rintro e Y (⟨rfl,hJ3,hk3⟩ | ⟨rfl,hJx3,hk3⟩)
  · gi_wp2
    exact ⟨(hwk hk3).1,hJ3,hbn,(hwk hk3).2⟩
  · gi_wp2
    exact ⟨(hwk hk3).1,rfl,hJx3⟩
 case done=>
  rintro F W z0 z1 ⟨hI,_⟩ hE hK
  clear hE
  gi_wp2
  refine ⟨by simp,.inl ⟨_,_,rfl,run_takeDeferred hK,?_⟩⟩
  refine ⟨_,results_none rfl _ _ _,⟨_,rfl⟩,.inl ⟨G F,?_,trivial⟩⟩
  exact hJ _ _ _ _ _ hI ⟨(fr_put _).mono fun k _ e=>by subst hG;exact .inr (.inr (.inl e)),fun k hk => .inl hk,fun hl k hk=>by simpa using hl k hk⟩
 case stop=>
  rintro c pre F W hpre z0 z1 ⟨rfl,hx⟩ hK
  gi_wp2
  refine ⟨by simp,.inl ⟨_,_,rfl,run_takeDeferred hK,?_⟩⟩
  refine ⟨_,results_none rfl _ _ _,⟨_,rfl⟩,.inr ⟨pre,G F,hpre,?_⟩⟩
  exact hJx _ _ _ _ _ hx ⟨(fr_put _).mono fun k _ e=>by subst hG;exact .inr (.inr (.inl e)),fun k hk => .inl hk,fun hl k hk=>by simpa using hl k hk⟩
abbrev Bk:=Int × Int × Int × Int
def kb1 (b:Bk):List Value:=[.int .i64 b.1,.int .i64 b.2.1,.int .i64 b.2.2.1,.int .i64 b.2.2.2]
def kbs (l:List Bk):List Value:=l.flatMap kb1
theorem kbs_append (l k:List Bk):kbs (l++k)=kbs l++kbs k:=by simp [kbs]
theorem kbs_len (l:List Bk):(kbs l).length=l.length*4:=by
 induction l with
 | nil=>rfl
 | cons x l ih=>simp only [kbs,List.flatMap_cons,List.length_append] at ih ⊢;rw [ih];simp [kb1];omega
theorem kbs_one (l:List Bk):∀ u∈kbs l,u.oneCell'=true:=fun u hu=>by
 unfold kbs at hu
 rw [List.mem_flatMap] at hu
 obtain ⟨x,_,hx⟩:=hu
 unfold kb1 at hx
 simp at hx
 rcases hx with rfl | rfl | rfl | rfl <;> rfl
theorem kbs_at (l:List Bk) {j:Nat} (hj:j<l.length) (i:Nat) (hi:i<4):(kbs l)[j*4+i]? = (kb1 l[j])[i]? := by
 induction l generalizing j with
 | nil=>simp at hj
 | cons x l ih=>
  have e:kbs (x::l)=kb1 x++kbs l:=by simp [kbs]
  have h6:(kb1 x).length=4:=rfl
  rw [e]
  match j with
  | 0=>
   rw [List.getElem?_append_left (by omega),Nat.zero_mul,Nat.zero_add]
   rfl
  | j+1=>
   rw [List.getElem?_append_right (by omega),h6,show (j+1)*4+i - 4=j*4+i by omega]
   exact ih (by simpa using hj)
def KAt (w:World) (g o:Nat) (b:Bk):Prop:=w.cell? ⟨g,o,none⟩=some (.int .i64 b.1)∧w.cell? ⟨g,o+1,none⟩=some (.int .i64 b.2.1)∧w.cell? ⟨g,o+2,none⟩=some (.int .i64 b.2.2.1)∧w.cell? ⟨g,o+3,none⟩=some (.int .i64 b.2.2.2)
theorem KAt.below {w w':World} {n g o:Nat} {b:Bk} (h:KAt w g o b) (hb:Below n w w') (hn:w.heap.size≤n):KAt w' g o b:=⟨cell_below h.1 hb hn,cell_below h.2.1 hb hn,cell_below h.2.2.1 hb hn,cell_below h.2.2.2 hb hn⟩
def KR (w:World) (v:Value) (l:List Bk):Prop:=∃ (a:Option Addr) (cap:Nat),v = .slice a l.length cap∧l.length≤cap∧(l=[]∨∃ g o,a=some ⟨g,o,none⟩∧∀ (j:Nat) (hj:j<l.length),KAt w g (o+j*4) l[j])
theorem KR.below {w w':World} {n:Nat} {v:Value} {l:List Bk} (h:KR w v l) (hb:Below n w w') (hn:w.heap.size≤n):KR w' v l:=by
 obtain ⟨a,cap,h1,h2,h3⟩:=h
 refine ⟨a,cap,h1,h2,h3.imp id ?_⟩
 rintro ⟨g,o,h4,h5⟩
 exact ⟨g,o,h4,fun j hj=>(h5 j hj).below hb hn⟩
theorem KR.grown {w w':World} {v:Value} {l:List Bk} (h:KR w v l) (hg:Grown w w'):KR w' v l:=h.below hg.below (Nat.le_refl _)
def OwnK (w:World) (base:Nat) (v:Value) (l:List Bk):Prop:=w.ownsRow base 44 4 v l.length (kbs l)
theorem OwnK.nil (w:World) (base:Nat):OwnK w base (.slice none 0 0) []:=World.ownsRow_nil _ _ _ _
theorem OwnK.form {w:World} {base:Nat} {v:Value} {l:List Bk} (h:OwnK w base v l):∃ a c,v = .slice a l.length c:=by
 rcases h.2 with ⟨e,h0⟩ | ⟨g,cap,cur,e,_⟩
 · exact ⟨none,0,by rw [e,h0]⟩
 · exact ⟨_,cap,e⟩
theorem OwnK.kr {w:World} {base:Nat} {v:Value} {l:List Bk} (h:OwnK w base v l):KR w v l:=by
 rcases h.2 with ⟨e,h0⟩ | ⟨g,cap,cur,e,_,hg,hc,hm,hs,ht⟩
 · have:l=[]:=List.eq_nil_of_length_eq_zero h0
   subst this
   exact ⟨none,0,e,Nat.le_refl _,.inl rfl⟩
 · subst e
   refine ⟨_,cap,rfl,hc,.inr ⟨g,0,rfl,fun j hj => ?_⟩⟩
   have key:∀ i v,i<4→(kb1 l[j])[i]? = some v→w.cell? ⟨g,0+j*4+i,none⟩=some v:=fun i v hi hv=>by
    rw [Nat.zero_add,World.ownsRow.cellAt h _ (by omega),kbs_at l hj i hi]
    exact hv
   exact ⟨key 0 _ (by decide) rfl,key 1 _ (by decide) rfl,key 2 _ (by decide) rfl,key 3 _ (by decide) rfl⟩
theorem OwnK.below {w w':World} {base n:Nat} {v:Value} {l:List Bk} (h:OwnK w base v l) (hb:Below n w w') (hn:w.heap.size≤n):OwnK w' base v l:=own_fr h (fr_below hb hn fun _=>False) fun _ _ e=>e
theorem infoK:(Tryz.prog.info? 44).map (fun i=>(i.zero,i.size,i.bytes))=some (some (.agg #[.int .i64 0,.int .i64 0,.int .i64 0,.int .i64 0]),4,32):=by kernel_rfl
theorem push_K {ops:Array Oper} {rest:List Oper} {o:Oper} {a:Act} {Q:Exit→Act→World→Prop} {w:World} (hgd:o.guard=none) (s x:Operand)
 (ho:o.op = .call { callee := .builtin .append,args:=#[s,x],argTypes:=#[32,32] })
 (base:Nat) (v:Value) (l:List Bk) (hs:a.eval s=v) (hown:OwnK w base v l) (g c:Nat) (b:Bk) (hx:a.eval x = .slice (some ⟨g,0,none⟩) 1 c)
 (hp:w.heap[g]? = some (.cells (kb1 b).toArray 44 (0,0))) (hl:l.length+1≤100000000) (hbase:base≤w.heap.size)
 (h:∀ gg cap w',OwnK w' base (.slice (some ⟨gg,0,none⟩) (l.length+1) cap) (l++[b])→w.grownBy w' v.ownBlock→(some gg=v.ownBlock∨gg=w.heap.size)→wpList Tryz.prog ops Q rest (a.put o.dst (.slice (some ⟨gg,0,none⟩) (l.length+1) cap)) w'):wpList Tryz.prog ops Q (o::rest) a w:=by
 obtain ⟨i0,hi,hz0,hz1,hz2⟩:=info_parts infoK
 refine wpList_append_own_at w hgd s x 32 ho base 44 i0 (.agg #[.int .i64 0,.int .i64 0,.int .i64 0,.int .i64 0]) 4 32 Tryz.underlying32 hi hz0 hz1 hz2 rfl (by decide) v l.length (kbs l) hs hown ⟨g,0,none⟩ 1 c (kb1 b) hx rfl ?_ (fun u hu=>kbs_one [b] u (by simpa [kbs] using hu)) (by unfold maxLen;omega) (by omega) hbase (fun v' w' h2 h3 _ h5 => ?_)
 · intro j u hj
   have hadd:(⟨g,0,none⟩:Addr).add j=⟨g,j,none⟩:=by rw [Addr.add_lit,Nat.zero_add]
   rw [hadd,cell_of hp]
   simpa using hj
 · rcases h2.2 with ⟨_,e0⟩ | ⟨gg,cap,cur,e1,_⟩
   · omega
   · subst e1
     refine h gg cap w' ?_ h3 (h5.imp id fun e=>by injection e)
     unfold OwnK
     rw [kbs_append,List.length_append]
     simpa [kbs] using h2
def srcs (l:List Bk):List Int:=0::l.map fun b=>b.2.1
def ress (l:List Bk):List Int:=0::l.map fun b=>b.2.2.2
def sAt (l:List Bk) (n:Nat):Int:=(srcs l).getD n 0
def rAt (l:List Bk) (n:Nat):Int:=(ress l).getD n 0
def okB (s r:Int) (b:Bk):Prop:=b.1=s∧b.2.2.1=r∧b.1<b.2.1∧b.2.2.1≤b.2.2.2
instance (s r:Int) (b:Bk):Decidable (okB s r b):=by unfold okB;infer_instance
def Jn (l:List Bk) (n:Nat):Prop:=∀ (j:Nat) (hj:j<l.length),j<n→okB (sAt l j) (rAt l j) l[j]
theorem Jn.zero (l:List Bk):Jn l 0:=fun _ _ h=>by omega
theorem Jn.succ {l:List Bk} {n:Nat} (hn:n<l.length):Jn l (n+1)↔Jn l n∧okB (sAt l n) (rAt l n) l[n]:=by
 constructor
 · exact fun h=>⟨fun j hj hl=>h j hj (by omega),h n hn (by omega)⟩
 · rintro ⟨h1,h2⟩ j hj hl
   by_cases e:j=n
   · subst e;exact h2
   · exact h1 j hj (by omega)
def Join (l:List Bk):Prop:=Jn l l.length
theorem srcs_len (l:List Bk):(srcs l).length=l.length+1:=by simp [srcs]
theorem ress_len (l:List Bk):(ress l).length=l.length+1:=by simp [ress]
theorem sAt_in {l:List Bk} {n:Nat} (h:n≤l.length):(srcs l)[n]? = some (sAt l n):=by
 unfold sAt
 rw [List.getD_eq_getElem?_getD,List.getElem?_eq_getElem (by rw [srcs_len];omega)]
 rfl
theorem rAt_in {l:List Bk} {n:Nat} (h:n≤l.length):(ress l)[n]? = some (rAt l n):=by
 unfold rAt
 rw [List.getD_eq_getElem?_getD,List.getElem?_eq_getElem (by rw [ress_len];omega)]
 rfl
theorem sAt_succ {l:List Bk} {n:Nat} (h:n<l.length):sAt l (n+1)=l[n].2.1:=by simp [sAt,srcs,List.getD,h]
theorem rAt_succ {l:List Bk} {n:Nat} (h:n<l.length):rAt l (n+1)=l[n].2.2.2:=by simp [rAt,ress,List.getD,h]
theorem srcs_take {l:List Bk} {n:Nat} (h:n<l.length):(srcs l).take (n+1+1)=(srcs l).take (n+1)++[l[n].2.1]:=by
 rw [List.take_succ_eq_append_getElem (by rw [srcs_len];omega)]
 congr 1
 simp [srcs]
theorem ress_take {l:List Bk} {n:Nat} (h:n<l.length):(ress l).take (n+1+1)=(ress l).take (n+1)++[l[n].2.2.2]:=by
 rw [List.take_succ_eq_append_getElem (by rw [ress_len];omega)]
 congr 1
 simp [ress]
open Classical in
noncomputable def bS (l:List Bk):List Int:=if Join l then srcs l else []
open Classical in
noncomputable def bR (l:List Bk):List Int:=if Join l then ress l else []
structure J2 (X:World) (base:Nat) (sv rv:Value) (ls lr:List Int) (a b:Int) (val:Nat→Option Value) (p:Nat→Bool) (vs:Nat→Value) (W:World):Prop where
 v:∀ i x,val i=some x→p i=true→vs i=x
 f:Fr X W (fun k=>sv.ownBlock=some k∨rv.ownBlock=some k)
 e3:p 3=true→∃ g,vs 3 = .slice (some ⟨g,0,none⟩) 1 1∧X.heap.size≤g∧W.heap[g]? = some (.cells #[.int .i64 a] 3 (0,0))
 e8:p 8=true→∃ g,vs 8 = .slice (some ⟨g,0,none⟩) 1 1∧X.heap.size≤g∧W.heap[g]? = some (.cells #[.int .i64 b] 3 (0,0))
 s0:p 4=false→OwnI W base sv ls
 s1:p 4=true→OwnI W base (vs 4) (ls++[a])∧∀ k,(vs 4).ownBlock=some k→sv.ownBlock=some k∨X.heap.size≤k
 r0:p 9=false→OwnI W base rv lr
 r1:p 9=true→p 4=true∧OwnI W base (vs 9) (lr++[b])∧∀ k,(vs 9).ownBlock=some k→(rv.ownBlock=some k∨X.heap.size≤k)∧(vs 4).ownBlock≠some k
 d4:p 4=true→p 0=true
 d9:p 9=true→p 5=true
 as2:p 10=true→p 4=true∧vs 10=vs 4
 as3:p 11=true→p 9=true∧vs 11=vs 9
def H2 (X:World) (base:Nat) (sv rv:Value):Prop:=(∀ k,sv.ownBlock=some k→k<X.heap.size)∧(∀ k,rv.ownBlock=some k→k<X.heap.size)∧(∀ k,sv.ownBlock=some k→rv.ownBlock≠some k)∧base≤X.heap.size
def val7 (sv rv:Value) (bx:Nat) (a b:Int):Nat→Option Value
 | 0=>some sv
 | 1=>some (.pointer (some ⟨bx,1,none⟩))
 | 2=>some (.int .i64 a)
 | 5=>some rv
 | 6=>some (.pointer (some ⟨bx,3,none⟩))
 | 7=>some (.int .i64 b)
 | _=>none
theorem cell_fr2 {X W:World} {D:Nat→Prop} (hf:Fr X W D) {g o:Nat} (hn:¬ D g) (hl:g<X.heap.size):W.cell? ⟨g,o,none⟩=X.cell? ⟨g,o,none⟩:=by
 simp only [World.cell?,hf.block g hl hn]
theorem ir_lone {w:World} {g:Nat} {a:Int} (h:w.heap[g]? = some (.cells #[.int .i64 a] 3 (0,0))):IR w (.slice (some ⟨g,0,none⟩) 1 1) [a]:=by
 refine ⟨_,1,rfl,Nat.le_refl _,.inr ⟨g,0,rfl,fun j hj => ?_⟩⟩
 have:j=0:=by simp at hj;omega
 subst this
 rw [cell_of h];rfl
section
variable {X:World} {base:Nat} {sv rv:Value} {ls lr:List Int} {a b:Int} {val:Nat→Option Value} {p:Nat→Bool} {vs:Nat→Value} {W:World}
theorem J2.pure (h:J2 X base sv rv ls lr a b val p vs W) (i:Nat) {x:Value} (h3:i≠3) (h4:i≠4) (h8:i≠8) (h9:i≠9∧i≠10∧i≠11) (hx:val i=some x):J2 X base sv rv ls lr a b val (fun j=>p j || j == i) (fun j=>if j=i then x else vs j) W:=by
 have e:∀ k,k≠i→(p k || k == i)=p k:=fun k hk=>by simp [hk]
 have o:∀ k,k≠i→(if k=i then x else vs k)=vs k:=fun k hk=>if_neg hk
 refine ⟨fun j y hy hp => ?_,h.f,?_,?_,?_,?_,?_,?_,fun hp => ?_,fun hp => ?_,?_,?_⟩
 · by_cases ej:j=i
   · subst ej;rw [if_pos rfl];rw [hx] at hy;injection hy
   · rw [if_neg ej];exact h.v j y hy (by simpa [ej] using hp)
 · simp only [e 3 (Ne.symm h3),o 3 (Ne.symm h3)];exact h.e3
 · simp only [e 8 (Ne.symm h8),o 8 (Ne.symm h8)];exact h.e8
 · simp only [e 4 (Ne.symm h4)];exact h.s0
 · simp only [e 4 (Ne.symm h4),o 4 (Ne.symm h4)];exact h.s1
 · simp only [e 9 (Ne.symm h9.1)];exact h.r0
 · simp only [e 9 (Ne.symm h9.1),e 4 (Ne.symm h4),o 9 (Ne.symm h9.1),o 4 (Ne.symm h4)];exact h.r1
 · rw [e 4 (Ne.symm h4)] at hp;simp [h.d4 hp]
 · rw [e 9 (Ne.symm h9.1)] at hp;simp [h.d9 hp]
 · simp only [e 10 (Ne.symm h9.2.1),e 4 (Ne.symm h4),o 10 (Ne.symm h9.2.1),o 4 (Ne.symm h4)];exact h.as2
 · simp only [e 11 (Ne.symm h9.2.2),e 9 (Ne.symm h9.1),o 11 (Ne.symm h9.2.2),o 9 (Ne.symm h9.1)];exact h.as3
theorem J2.asg (h:J2 X base sv rv ls lr a b val p vs W) (i k:Nat) (hik:(i=10∧k=4)∨(i=11∧k=9)) (hx:val i=none) (hpk:p k=true):J2 X base sv rv ls lr a b val (fun j=>p j || j == i) (fun j=>if j=i then vs k else vs j) W:=by
 have hi:i≠3∧i≠4∧i≠8∧i≠9:=by omega
 have e:∀ k,k≠i→(p k || k == i)=p k:=fun k hk=>by simp [hk]
 have o:∀ j,j≠i→(if j=i then vs k else vs j)=vs j:=fun j hj=>if_neg hj
 refine ⟨fun j y hy hp => ?_,h.f,?_,?_,?_,?_,?_,?_,fun hp => ?_,fun hp => ?_,?_,?_⟩
 · by_cases ej:j=i
   · subst ej;rw [hx] at hy;cases hy
   · rw [if_neg ej];exact h.v j y hy (by simpa [ej] using hp)
 · simp only [e 3 (by omega),o 3 (by omega)];exact h.e3
 · simp only [e 8 (by omega),o 8 (by omega)];exact h.e8
 · simp only [e 4 (by omega)];exact h.s0
 · simp only [e 4 (by omega),o 4 (by omega)];exact h.s1
 · simp only [e 9 (by omega)];exact h.r0
 · simp only [e 9 (by omega),e 4 (by omega),o 9 (by omega),o 4 (by omega)];exact h.r1
 · rw [e 4 (by omega)] at hp;simp [h.d4 hp]
 · rw [e 9 (by omega)] at hp;simp [h.d9 hp]
 · intro hp
   rcases hik with ⟨rfl,rfl⟩ | ⟨rfl,rfl⟩
   · simp [hpk]
   · simp only [e 4 (by omega),o 10 (by omega),o 4 (by omega)];exact h.as2 (by simpa using hp)
 · intro hp
   rcases hik with ⟨rfl,rfl⟩ | ⟨rfl,rfl⟩
   · simp only [e 9 (by omega),o 11 (by omega),o 9 (by omega)];exact h.as3 (by simpa using hp)
   · simp [hpk]
theorem J2.grow (h:J2 X base sv rv ls lr a b val p vs W) {W':World} (hg:Grown W W') (i:Nat) (h4:i≠4) (h9:i≠9∧i≠10∧i≠11) (hx:val i=none) {x:Value} (hb3:i=3→∃ g,x = .slice (some ⟨g,0,none⟩) 1 1∧X.heap.size≤g∧W'.heap[g]? = some (.cells #[.int .i64 a] 3 (0,0))) (hb8:i=8→∃ g,x = .slice (some ⟨g,0,none⟩) 1 1∧X.heap.size≤g∧W'.heap[g]? = some (.cells #[.int .i64 b] 3 (0,0))):J2 X base sv rv ls lr a b val (fun j=>p j || j == i) (fun j=>if j=i then x else vs j) W':=by
 have e:∀ k,k≠i→(p k || k == i)=p k:=fun k hk=>by simp [hk]
 have o:∀ k,k≠i→(if k=i then x else vs k)=vs k:=fun k hk=>if_neg hk
 have bl:∀ {g ob},W.heap[g]? = some ob→W'.heap[g]? = some ob:=fun h=>(hg.below.block _ (blk_lt h)).trans h
 have ow:∀ {v l},OwnI W base v l→OwnI W' base v l:=fun h=>h.below hg.below (Nat.le_refl _)
 refine ⟨fun j y hy hp => ?_,h.f.trans (fr_grown hg _) fun _ _ e=>e,?_,?_,?_,?_,?_,?_,fun hp => ?_,fun hp => ?_,?_,?_⟩
 · by_cases ej:j=i
   · subst ej;rw [hx] at hy;cases hy
   · rw [if_neg ej];exact h.v j y hy (by simpa [ej] using hp)
 · intro hp
   by_cases e3:3=i
   · rw [if_pos e3];exact hb3 e3.symm
   · rw [if_neg e3]
     rw [e 3 e3] at hp
     obtain ⟨g,q1,q2,q3⟩:=h.e3 hp
     exact ⟨g,q1,q2,bl q3⟩
 · intro hp
   by_cases e8:8=i
   · rw [if_pos e8];exact hb8 e8.symm
   · rw [if_neg e8]
     rw [e 8 e8] at hp
     obtain ⟨g,q1,q2,q3⟩:=h.e8 hp
     exact ⟨g,q1,q2,bl q3⟩
 · simp only [e 4 (Ne.symm h4)];exact fun hp=>ow (h.s0 hp)
 · simp only [e 4 (Ne.symm h4),o 4 (Ne.symm h4)];exact fun hp=>⟨ow (h.s1 hp).1,(h.s1 hp).2⟩
 · simp only [e 9 (Ne.symm h9.1)];exact fun hp=>ow (h.r0 hp)
 · simp only [e 9 (Ne.symm h9.1),e 4 (Ne.symm h4),o 9 (Ne.symm h9.1),o 4 (Ne.symm h4)];exact fun hp=>⟨(h.r1 hp).1,ow (h.r1 hp).2.1,(h.r1 hp).2.2⟩
 · rw [e 4 (Ne.symm h4)] at hp;simp [h.d4 hp]
 · rw [e 9 (Ne.symm h9.1)] at hp;simp [h.d9 hp]
 · simp only [e 10 (Ne.symm h9.2.1),e 4 (Ne.symm h4),o 10 (Ne.symm h9.2.1),o 4 (Ne.symm h4)];exact h.as2
 · simp only [e 11 (Ne.symm h9.2.2),e 9 (Ne.symm h9.1),o 11 (Ne.symm h9.2.2),o 9 (Ne.symm h9.1)];exact h.as3
theorem J2.app4 (h:J2 X base sv rv ls lr a b val p vs W) (hst:H2 X base sv rv) (hx:val 4=none) (hp0:p 0=true) (hp4:p 4=false) {v':Value} {w':World} (q1:OwnI w' base v' (ls++[a])) (q2:W.grownBy w' sv.ownBlock) (q3:v'.ownBlock=sv.ownBlock∨v'.ownBlock=some W.heap.size):J2 X base sv rv ls lr a b val (fun j=>p j || j == 4) (fun j=>if j=4 then v' else vs j) w':=by
 obtain ⟨s1,s2,s3,s4⟩:=hst
 have hp9:p 9=false:=by
  cases e:p 9 with
  | false=>rfl
  | true=>have:=(h.r1 e).1;rw [hp4] at this;cases this
 have f:=fr_by q2
 have bl:∀ {g ob},W.heap[g]? = some ob→X.heap.size≤g→w'.heap[g]? = some ob:=fun hh hX=>(f.block _ (blk_lt hh) (fun e=>by have:=s1 _ e;omega)).trans hh
 refine ⟨fun j y hy hp => ?_,h.f.trans f fun _ _ e => .inl e,?_,?_,?_,?_,?_,?_,fun _=>by simp [hp0],fun hp=>by simp [h.d9 (by simpa using hp)],?_,?_⟩
 · by_cases ej:j=4
   · subst ej;rw [hx] at hy;cases hy
   · rw [if_neg ej];exact h.v j y hy (by simpa [ej] using hp)
 · intro hp
   obtain ⟨g,q1,q2,q3⟩:=h.e3 (by simpa using hp)
   exact ⟨g,by simpa using q1,q2,bl q3 q2⟩
 · intro hp
   obtain ⟨g,q1,q2,q3⟩:=h.e8 (by simpa using hp)
   exact ⟨g,by simpa using q1,q2,bl q3 q2⟩
 · intro hp;simp at hp
 · intro _
   simp only [if_true]
   refine ⟨q1,fun k hk => ?_⟩
   rcases q3 with e | e
   · left;rw [←e];exact hk
   · rw [hk] at e
     injection e with e
     have:=h.f.size
     right;omega
 · intro _
   exact own_fr (h.r0 hp9) f fun k hk e=>s3 k e hk
 · intro hp
   rw [show (p 9 || 9 == 4)=p 9 by simp,hp9] at hp
   cases hp
 · intro hp
   have:=(h.as2 (by simpa using hp)).1
   rw [hp4] at this;cases this
 · intro hp
   have:=h.as3 (by simpa using hp)
   simpa using this
theorem J2.app9 (h:J2 X base sv rv ls lr a b val p vs W) (hst:H2 X base sv rv) (hx:val 9=none) (hp5:p 5=true) (hp4:p 4=true) (hp9:p 9=false) {v':Value} {w':World} (q1:OwnI w' base v' (lr++[b])) (q2:W.grownBy w' rv.ownBlock) (q3:v'.ownBlock=rv.ownBlock∨v'.ownBlock=some W.heap.size):J2 X base sv rv ls lr a b val (fun j=>p j || j == 9) (fun j=>if j=9 then v' else vs j) w':=by
 obtain ⟨s1,s2,s3,s4⟩:=hst
 have f:=fr_by q2
 have bl:∀ {g ob},W.heap[g]? = some ob→X.heap.size≤g→w'.heap[g]? = some ob:=fun hh hX=>(f.block _ (blk_lt hh) (fun e=>by have:=s2 _ e;omega)).trans hh
 have h4:=h.s1 hp4
 have hk4:∀ k,(vs 4).ownBlock=some k→rv.ownBlock≠some k:=fun k hk e=>by
  rcases h4.2 k hk with e1 | e1
  · exact s3 k e1 e
  · have:=s2 k e;omega
 refine ⟨fun j y hy hp => ?_,h.f.trans f fun _ _ e => .inr e,?_,?_,?_,?_,?_,?_,fun hp=>by simp [h.d4 (by simpa using hp)],fun _=>by simp [hp5],?_,?_⟩
 · by_cases ej:j=9
   · subst ej;rw [hx] at hy;cases hy
   · rw [if_neg ej];exact h.v j y hy (by simpa [ej] using hp)
 · intro hp
   obtain ⟨g,q1,q2,q3⟩:=h.e3 (by simpa using hp)
   exact ⟨g,by simpa using q1,q2,bl q3 q2⟩
 · intro hp
   obtain ⟨g,q1,q2,q3⟩:=h.e8 (by simpa using hp)
   exact ⟨g,by simpa using q1,q2,bl q3 q2⟩
 · intro hp
   rw [show (p 4 || 4 == 9)=p 4 by simp,hp4] at hp
   cases hp
 · intro _
   simp only [show ((4:Nat)=9)=False by simp,if_false]
   exact ⟨own_fr h4.1 f fun k hk e=>hk4 k hk e,h4.2⟩
 · intro hp;simp at hp
 · intro _
   simp only [if_true,show ((4:Nat)=9)=False by simp,if_false]
   refine ⟨by simp [hp4],q1,fun k hk => ?_⟩
   rcases q3 with e | e
   · rw [hk] at e
     exact ⟨.inl e.symm,fun e4=>hk4 k e4 e.symm⟩
   · rw [hk] at e
     injection e with e
     have:=h.f.size
     refine ⟨.inr (by omega),fun e4 => ?_⟩
     have:=(World.ownsRow.lt h4.1 k e4).2
     omega
 · intro hp
   have:=h.as2 (by simpa using hp)
   simpa using this
 · intro hp
   have:=(h.as3 (by simpa using hp)).1
   rw [hp9] at this;cases this
end
end Go.Proofs
