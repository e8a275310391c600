/-
  Several texts in one (Rv Rw Uo2).
-/
import Derived.RangeFuncWrites
import Derived.RangeFuncBox
import Derived.Test.YtaemgkemlifadaaGreatDoorMgds
import Derived.Test.YtaemgkemlifadaaGreatDoorBqs
namespace Go.Proofs
open Go.RowKit Go.Shelf
set_option maxRecDepth 100000
attribute [local go_sem] Oper.semAt_some
attribute [local go_sem ↓] Go.wp_at_zero Go.wp_at_succ
structure KAll (Z:Nat→Prop) (b:Nat) (X Y:World):Prop where
 bel:Below b X Y
 same:∀ k o,Z k→X.heap[k]? = some o→Y.heap[k]? = some o
theorem KAll.refl (Z:Nat→Prop) (b:Nat) (X:World):KAll Z b X X:=⟨Below.refl _ _,fun _ _ _ h=>h⟩
theorem KAll.trans {Z:Nat→Prop} {b:Nat} {X Y V:World} (h:KAll Z b X Y) (k:KAll Z b Y V):KAll Z b X V:=⟨h.bel.trans k.bel,fun i o hi ho=>k.same i o hi (h.same i o hi ho)⟩
theorem KAll.mono {Z Z':Nat→Prop} {b b':Nat} {X Y:World} (h:KAll Z b X Y) (hz:∀ k,Z' k→Z k) (hb:b'≤b):KAll Z' b' X Y:=⟨h.bel.mono hb,fun k o hk ho=>h.same k o (hz k hk) ho⟩
theorem KAll.grown {Z:Nat→Prop} {b:Nat} {X Y:World} (h:Grown X Y) (hb:b≤X.heap.size):KAll Z b X Y:=⟨h.below.mono hb,fun k _ _ ho=>(h.below.block k (blk_lt ho)).trans ho⟩
theorem KAll.put {Z:Nat→Prop} {b l:Nat} {X:World} (o:Obj) (hl:¬ Z l) (hb:b≤l):KAll Z b X (X.putObj l o):=⟨⟨rfl,rfl,rfl,by simp,fun k hk=>World.putObj_heap_other (by omega)⟩,fun k o' hk ho=>(World.putObj_heap_other (fun e=>hl (by rw [←e];exact hk))).trans ho⟩
theorem fr_put {X:World} {l:Nat} (o:Obj):Fr X (X.putObj l o) fun k=>k=l:=⟨rfl,rfl,rfl,by simp,fun k _ hn=>World.putObj_heap_other hn⟩
def Stab {α:Type} (Z:Nat→Prop) (J:List α→World→Prop):Prop:=∀ s X Y,J s X→Fr X Y Z→J s Y
def SeqZ {α:Type} (n g:Nat) (pa lb:Array Value) (enc:α→Array Value) (xf:List α) (b:Nat) (Z:Nat→Prop) (E:World→Prop) (V:World) (l:Nat):Prop:=
 ∀ (J Jx:List α→World→Prop),Stab Z J→Stab Z Jx →
  (∀ pre x X,J pre X→pre++[x] <+: xf→YieldAt Fence.wide (n - 1) Tryz.prog l (enc x) X fun e Y=>(e = .returned (.bool true)∧J (pre++[x]) Y∧KAll Z b X Y)∨(e = .returned (.bool false)∧Jx (pre++[x]) Y∧KAll Z b X Y)) →
  J [] V→CallsIn Fence.wide n Tryz.prog g (pa++#[.func (.yield l) #[] #[]]++lb) V fun e Y=>(∃ v,e = .returned v)∧((J xf Y∧E Y)∨∃ pre,(pre <+: xf∧pre≠[])∧Jx pre Y)
def wPost {α:Type} (Z:Nat→Prop) (b:Nat) (I:List α→World→Prop) (Ix:Code→List α→World→Prop) (s:List α) (X:World):Exit→Act→World→Prop
 | .normal,_,Y=>KAll Z b X Y∧I s Y
 | .ret,_,Y=>KAll Z b X Y∧Ix .ret s Y
 | .exit id,_,Y=>KAll Z b X Y∧Ix (.exit id) s Y
 | .goto t,_,Y=>KAll Z b X Y∧Ix (.goto t) s Y
 | .panic _,_,_=>False
 | .outgrown,_,_=>False
theorem wpIn_overQ {α:Type} {enc:α→Array Value} {n:Nat} {g:Operand} {ps:Array Tmp} {assign body:Code} {Q:Exit→Act→World→Prop} {a:Act} {w:World} (h1:1≤n) {gf:Nat} {pa lb:Array Value}
 (hg:a.eval g = .func (.func gf) pa lb) (eg:∀ args w,(callFunc gf args).run Tryz.prog w = .ok (.enter gf args) w) {xf:List α} {b h:Nat} {Z:Nat→Prop} {E:World→Prop} (hh:h=w.heap.size) (hbh:b≤h) (hZ0:¬ Z h) (hZ1:¬ Z (h+1))
 (hseq:∀ r:Loop,SeqZ (n - 1) gf pa lb enc xf b Z E ((w.alloc (.deferred (some []))).alloc (.loop r)) (h+1)) (hE:∀ X o,E X→E (X.putObj (h+1) o)) (hps:∀ x,(enc x).size=ps.size)
 (I:List α→World→Prop) (Ix:Code→List α→World→Prop) (hI:Stab (fun k=>Z k∨h≤k) I) (hIx:∀ c,Stab (fun k=>Z k∨h≤k) (Ix c)) (h0:I [] w)
 (hround:∀ (pre:List α) (x:α) (W:World),pre++[x] <+: xf→h+2≤W.heap.size→assign.wpIn (Fence.wide.inRound (h+1)) (n - 1 - 1) Tryz.prog (Exit.then (fun a' W'=>Grown W W'∧∀ X,I pre X→X.heap.size=W'.heap.size→(∀ k,k≠h+1→X.heap[k]? = W'.heap[k]?)→(∃ r,X.heap[h+1]? = some (.loop r))→body.wpIn (Fence.wide.inRound (h+1)) (n - 1 - 1) Tryz.prog (wPost (fun k=>Z k∨h≤k) b I Ix (pre++[x]) X) a' X) (fun _ _ _=>False)) { tmps:=(ps.zip (enc x)).foldl (fun t (p,v)=>t.setIfInBounds p v) a.tmps,defers:=[] } W)
 (hdone:∀ (D:Nat) (W:World),h≤D→I xf W→E W→W.heap[D]? = some (.deferred (some []))→Q .normal { a with defers := { target := .collected D,args:=#[] } :: a.defers } W)
 (hstop:∀ (D:Nat) (c:Code) (pre:List α) (W:World),h≤D→(pre <+: xf∧pre≠[])→Ix c pre W→W.heap[D]? = some (.deferred (some []))→c.wpIn Fence.wide n Tryz.prog Q { a with defers := { target := .collected D,args:=#[] } :: a.defers } W) :
 (Code.rangeFunc g ps assign body).wpIn Fence.wide n Tryz.prog Q a w:=by
 refine wpIn_rangeFunc ?_
 intro fn hfn
 let rc:LoopState→Option Code→Loop:=fun st pe => { state:=st,pending:=pe,fn,tmps:=a.tmps,params:=ps,assign,body,defers:=h }
 let V:World:=(w.alloc (.deferred (some []))).alloc (.loop (rc .ready none))
 have hV:V.heap.size=h+2:=by simp [V,hh]
 have hV1:V.heap[h+1]? = some (.loop (rc .ready none)):=by
  have e:=World.alloc_heap_new (w.alloc (.deferred (some []))) (.loop (rc .ready none))
  rw [World.size_alloc,←hh] at e;exact e
 have hV0:V.heap[h]? = some (.deferred (some [])):=by
  have e:=World.alloc_heap_new w (.deferred (some []))
  rw [←hh] at e
  exact (Below.heap_alloc _ _ _ (by simp [hh])).trans e
 have hfV:Fr w V fun k=>Z k∨h≤k:=fr_grown (((Grown.refl w).alloc _).alloc _) _
 have far:∀ {X Y:World} {k:Nat} {o:Obj},Fr X Y Z→¬ Z k→X.heap[k]? = some o→Y.heap[k]? = some o:=fun {X Y k o} hf hk ho=>(hf.block k (blk_lt ho) hk).trans ho
 have wide:∀ {X Y:World},Fr X Y Z→Fr X Y fun k=>Z k∨h≤k:=fun {X Y} hf=>hf.mono fun _ _ e => .inl e
 have putI:∀ {X:World} {s:List α} (o:Obj),I s X→I s (X.putObj (h+1) o):=fun {X s} o hi=>hI s X _ hi ((fr_put o).mono fun k _ e => .inr (by omega))
 have putIx:∀ {X:World} {s:List α} {c:Code} (o:Obj),Ix c s X→Ix c s (X.putObj (h+1) o):=fun {X s c} o hi=>hIx c s X _ hi ((fr_put o).mono fun k _ e => .inr (by omega))
 refine ⟨h+1,[{ target := .collected h,args:=#[] }],V,{ target := .fn (.func gf) lb,args:=pa++#[.func (.yield (h+1)) #[] #[]] },V,gf,pa++#[.func (.yield (h+1)) #[] #[]]++lb,V,?_,?_,?_,?_,fun _=>h1,?_⟩
 · have e:=run_enterLoop_outer (P:=Tryz.prog) (w:=w) fn a.tmps ps assign body
   rw [←hh] at e
   exact e
 · simp only [resolve,hg]
   simp [go_sem]
 · intro f' _;trivial
 · simp [invoke,go_sem,eg]
 · refine (hseq (rc .ready none) (fun pre W=>I pre W∧W.heap[h+1]? = some (.loop (rc .ready none))∧W.heap[h]? = some (.deferred (some [])))
    (fun pre W=>∃ c,Ix c pre W∧W.heap[h+1]? = some (.loop (rc .done (some c)))∧W.heap[h]? = some (.deferred (some [])))
    (fun s X Y hs hf=>⟨hI s X Y hs.1 (wide hf),far hf hZ1 hs.2.1,far hf hZ0 hs.2.2⟩)
    (fun s X Y hs hf=>by
     obtain ⟨c,hc,e1,e2⟩:=hs
     exact ⟨c,hIx c s X Y hc (wide hf),far hf hZ1 e1,far hf hZ0 e2⟩) ?_ ⟨hI _ _ _ h0 hfV,hV1,hV0⟩).mono ?_
   · rintro pre x X ⟨hi,e1,e0⟩ hlen
     have hy:=run_yield (P:=Tryz.prog) (args:=enc x) e1 (by simp [rc,hps])
     have hlt:h+1<X.heap.size:=blk_lt e1
     refine ⟨fn,_,assign,body,hy,roundIn_of_wpIn hfn (wpIn_mono (hround pre x X hlen (by omega)) ?_)⟩
     clear hy
     rintro ee a' W' hp'
     cases ee with
     | exit id=>exact hp'.elim
     | goto t=>exact hp'.elim
     | ret=>exact hp'.elim
     | panic ch=>exact hp'.elim
     | outgrown=>exact hp'.elim
     | normal=>
     obtain ⟨hgx,hbody⟩:=hp'
     have e1':W'.heap[h+1]? = some (.loop (rc .ready none)):=(hgx.below.block _ hlt).trans e1
     have e0':W'.heap[h]? = some (.deferred (some [])):=(hgx.below.block _ (by omega)).trans e0
     refine ⟨_,run_beginRound e1' rfl,?_⟩
     let X2:World:=W'.putObj (h+1) (.loop { rc .ready none with state := .busy })
     have f1:X2.heap[h+1]? = some (.loop { rc .ready none with state := .busy }):=World.putObj_heap_same (blk_lt e1')
     have f0:X2.heap[h]? = some (.deferred (some [])):=(World.putObj_heap_other (by omega)).trans e0'
     have fk:KAll Z b X X2:=(KAll.grown hgx (by omega)).trans (KAll.put _ hZ1 (by omega))
     have hi2:I pre X2:=putI _ (hI _ _ _ hi (fr_grown hgx _))
     -- how a round ends
     have fin:∀ (jump:Option Code) (Y:World),KAll (fun k=>Z k∨h≤k) b X2 Y→∃ V',(Instr.endRound (h+1) jump).run Tryz.prog Y = .ok (.bool jump.isNone) V'∧V'=Y.putObj (h+1) (.loop (rc (if jump.isNone then .ready else .done) jump)) ∧
      V'.heap[h+1]? = some (.loop (rc (if jump.isNone then .ready else .done) jump))∧V'.heap[h]? = some (.deferred (some []))∧KAll Z b X V':=fun jump Y hY=>by
      have y1:=hY.same _ _ (.inr (by omega)) f1
      have y0:=hY.same _ _ (.inr (Nat.le_refl _)) f0
      exact ⟨_,run_endRound jump y1,rfl,World.putObj_heap_same (blk_lt y1),(World.putObj_heap_other (by omega)).trans y0,(fk.trans (hY.mono (fun _ e => .inl e) (Nat.le_refl _))).trans (KAll.put _ hZ1 (by omega))⟩
     refine wpIn_mono (hbody X2 hi2 (by simp [X2]) (fun k hk=>World.putObj_heap_other hk) ⟨_,f1⟩) ?_
     rintro e a3 Y hp
     cases e with
     | normal=>
      obtain ⟨k1,k3⟩:=hp
      obtain ⟨V',hr,rfl,z1,z0,kz⟩:=fin none Y k1
      exact ⟨_,_,hr,.inl ⟨rfl,⟨putI _ k3,z1,z0⟩,kz⟩⟩
     | ret=>
      obtain ⟨k1,k3⟩:=hp
      obtain ⟨V',hr,rfl,z1,z0,kz⟩:=fin (some .ret) Y k1
      exact ⟨_,_,hr,.inr ⟨rfl,⟨.ret,putIx _ k3,z1,z0⟩,kz⟩⟩
     | exit id=>
      obtain ⟨k1,k3⟩:=hp
      obtain ⟨V',hr,rfl,z1,z0,kz⟩:=fin (some (.exit id)) Y k1
      exact ⟨_,_,hr,.inr ⟨rfl,⟨.exit id,putIx _ k3,z1,z0⟩,kz⟩⟩
     | goto t=>
      obtain ⟨k1,k3⟩:=hp
      obtain ⟨V',hr,rfl,z1,z0,kz⟩:=fin (some (.goto t)) Y k1
      exact ⟨_,_,hr,.inr ⟨rfl,⟨.goto t,putIx _ k3,z1,z0⟩,kz⟩⟩
     | panic ch=>exact hp.elim
     | outgrown=>exact hp.elim
   · rintro e Y ⟨⟨v,rfl⟩,(⟨⟨hi,e1,e0⟩,hEY⟩ | ⟨pre,hSp,c,hi,e1,e0⟩)⟩
     · exact ⟨none,_,run_endLoop e1 (by simp [rc]),hdone _ _ (Nat.le_refl _) (putI _ hi) (hE _ _ hEY) ((World.putObj_heap_other (by omega)).trans e0)⟩
     · exact ⟨some c,_,run_endLoop e1 (by simp [rc]),hstop _ c pre _ (Nat.le_refl _) hSp (putIx _ hi) ((World.putObj_heap_other (by omega)).trans e0)⟩
theorem wpIn_overR {α:Type} {enc:α→Array Value} {n:Nat} {g:Operand} {ps:Array Tmp} {assign body:Code} {Q:Exit→Act→World→Prop} {a:Act} {w:World} (h1:1≤n) {gf:Nat} {pa lb:Array Value}
 (hg:a.eval g = .func (.func gf) pa lb) (eg:∀ args w,(callFunc gf args).run Tryz.prog w = .ok (.enter gf args) w) {xf:List α} {b h:Nat} {Z:Nat→Prop} {E:World→Prop} (hh:h=w.heap.size) (hbh:b≤h) (hZ0:¬ Z h) (hZ1:¬ Z (h+1))
 (hseq:∀ r:Loop,SeqZ (n - 1) gf pa lb enc xf b Z E ((w.alloc (.deferred (some []))).alloc (.loop r)) (h+1)) (hE:∀ X o,E X→E (X.putObj (h+1) o)) (hps:∀ x,(enc x).size=ps.size)
 (I:List α→World→Prop) (Ix:Code→List α→World→Prop) (hI:Stab (fun k=>Z k∨h≤k) I) (hIx:∀ c,Stab (fun k=>Z k∨h≤k) (Ix c)) (h0:I [] w)
 (hround:∀ (l:Nat) (pre:List α) (x:α) (W:World),pre++[x] <+: xf→h+2≤W.heap.size→assign.wpIn (Fence.wide.inRound l) (n - 1 - 1) Tryz.prog (Exit.then (fun a' W'=>Grown W W'∧∀ X,I pre X→X.heap.size=W'.heap.size→(∀ k,k≠h+1→X.heap[k]? = W'.heap[k]?)→body.wpIn (Fence.wide.inRound l) (n - 1 - 1) Tryz.prog (wPost (fun k=>Z k∨h≤k) b I Ix (pre++[x]) X) a' X) (fun _ _ _=>False)) { tmps:=(ps.zip (enc x)).foldl (fun t (p,v)=>t.setIfInBounds p v) a.tmps,defers:=[] } W)
 (hdone:∀ (D:Nat) (W:World),h≤D→I xf W→E W→W.heap[D]? = some (.deferred (some []))→Q .normal { a with defers := { target := .collected D,args:=#[] } :: a.defers } W)
 (hstop:∀ (D:Nat) (c:Code) (pre:List α) (W:World),h≤D→(pre <+: xf∧pre≠[])→Ix c pre W→W.heap[D]? = some (.deferred (some []))→c.wpIn Fence.wide n Tryz.prog Q { a with defers := { target := .collected D,args:=#[] } :: a.defers } W) :
 (Code.rangeFunc g ps assign body).wpIn Fence.wide n Tryz.prog Q a w:=
 wpIn_overQ h1 hg eg hh hbh hZ0 hZ1 hseq hE hps I Ix hI hIx h0 (fun pre x W hp hW=>wpIn_mono (hround (h+1) pre x W hp hW) fun e a' W' hq=>by
  cases e with
  | normal=>exact ⟨hq.1,fun X h1 h2 h3 _=>hq.2 X h1 h2 h3⟩
  | exit id=>exact hq
  | goto t=>exact hq
  | ret=>exact hq
  | panic ch=>exact hq
  | outgrown=>exact hq) hdone hstop
theorem wpIn_overZ {α:Type} {enc:α→Array Value} {n:Nat} {g:Operand} {ps:Array Tmp} {assign body:Code} {Q:Exit→Act→World→Prop} {a:Act} {w:World} (h1:1≤n) {gf:Nat} {pa lb:Array Value}
 (hg:a.eval g = .func (.func gf) pa lb) (eg:∀ args w,(callFunc gf args).run Tryz.prog w = .ok (.enter gf args) w) {xf:List α} {b h:Nat} {Z:Nat→Prop} {E:World→Prop} (hh:h=w.heap.size) (hbh:b≤h) (hZ0:¬ Z h) (hZ1:¬ Z (h+1))
 (hseq:∀ r:Loop,SeqZ (n - 1) gf pa lb enc xf b Z E ((w.alloc (.deferred (some []))).alloc (.loop r)) (h+1)) (hE:∀ X o,E X→E (X.putObj (h+1) o)) (hps:∀ x,(enc x).size=ps.size)
 (I:List α→World→Prop) (Ix:Code→List α→World→Prop) (hI:Stab (fun k=>Z k∨h≤k) I) (hIx:∀ c,Stab (fun k=>Z k∨h≤k) (Ix c)) (h0:I [] w) (a₁:α→World→Act) (gw:α→World→World) (hgw:∀ x W,Grown W (gw x W))
 (hassign:∀ (l:Nat) (x:α) (W:World) (K:Act→World→Prop),K (a₁ x W) (gw x W)→assign.wpIn (Fence.wide.inRound l) (n - 1 - 1) Tryz.prog (Exit.then K (fun _ _ _=>False)) { tmps:=(ps.zip (enc x)).foldl (fun t (p,v)=>t.setIfInBounds p v) a.tmps,defers:=[] } W)
 (hbody:∀ (l:Nat) (pre:List α) (x:α) (W X:World),I pre X→pre++[x] <+: xf→h+2≤W.heap.size→X.heap.size=(gw x W).heap.size→(∀ k,k≠h+1→X.heap[k]? = (gw x W).heap[k]?)→body.wpIn (Fence.wide.inRound l) (n - 1 - 1) Tryz.prog (wPost (fun k=>Z k∨h≤k) b I Ix (pre++[x]) X) (a₁ x W) X)
 (hdone:∀ (D:Nat) (W:World),h≤D→I xf W→E W→W.heap[D]? = some (.deferred (some []))→Q .normal { a with defers := { target := .collected D,args:=#[] } :: a.defers } W)
 (hstop:∀ (D:Nat) (c:Code) (pre:List α) (W:World),h≤D→(pre <+: xf∧pre≠[])→Ix c pre W→W.heap[D]? = some (.deferred (some []))→c.wpIn Fence.wide n Tryz.prog Q { a with defers := { target := .collected D,args:=#[] } :: a.defers } W) :
 (Code.rangeFunc g ps assign body).wpIn Fence.wide n Tryz.prog Q a w:=
 wpIn_overR h1 hg eg hh hbh hZ0 hZ1 hseq hE hps I Ix hI hIx h0 (fun l pre x W hpre hW=>hassign l x W _ ⟨hgw x W,fun X hX hs hk=>hbody l pre x W X hX hpre hW hs hk⟩) hdone hstop
theorem yield_wide {m m' l l1:Nat} {args:Array Value} {W:World} {R:Ending→World→Prop} (h:YieldAt Fence.wide m Tryz.prog l args W R):YieldAt (Fence.wide.inRound l1) m' Tryz.prog l args W R:=by
 obtain ⟨fn,tmps,assign,body,hy,hR⟩:=h
 exact ⟨fn,tmps,assign,body,hy,hR.1,fun c cs _=>hR.2 c cs (room_wide _)⟩
theorem wpIn_overN {α:Type} {enc:α→Array Value} {n l0:Nat} {r0:Loop} {g:Operand} {ps:Array Tmp} {assign body:Code} {Q:Exit→Act→World→Prop} {a:Act} {w:World} (h1:1≤n) {gf:Nat} {pa lb:Array Value} (hl0:w.heap[l0]? = some (.loop r0))
 (hg:a.eval g = .func (.func gf) pa lb) (eg:∀ args w,(callFunc gf args).run Tryz.prog w = .ok (.enter gf args) w) {xf:List α} {b h:Nat} {Z:Nat→Prop} {E:World→Prop} (hh:h=w.heap.size) (hbh:b≤h) (hZ1:¬ Z h)
 (hseq:∀ r:Loop,SeqZ (n - 1) gf pa lb enc xf b Z E (w.alloc (.loop r)) h) (hE:∀ X o,E X→E (X.putObj h o)) (hps:∀ x,(enc x).size=ps.size)
 (I:List α→World→Prop) (Ix:Code→List α→World→Prop) (hI:Stab (fun k=>Z k∨h≤k) I) (hIx:∀ c,Stab (fun k=>Z k∨h≤k) (Ix c)) (h0:I [] w)
 (hround:∀ (pre:List α) (x:α) (W:World),pre++[x] <+: xf→h+1≤W.heap.size→assign.wpIn (Fence.wide.inRound h) (n - 1 - 1) Tryz.prog (Exit.then (fun a' W'=>Grown W W'∧∀ X,I pre X→X.heap.size=W'.heap.size→(∀ k,k≠h→X.heap[k]? = W'.heap[k]?)→(∃ r,X.heap[h]? = some (.loop r))→body.wpIn (Fence.wide.inRound h) (n - 1 - 1) Tryz.prog (wPost (fun k=>Z k∨h≤k) b I Ix (pre++[x]) X) a' X) (fun _ _ _=>False)) { tmps:=(ps.zip (enc x)).foldl (fun t (p,v)=>t.setIfInBounds p v) a.tmps,defers:=[] } W)
 (hdone:∀ (W:World),I xf W→E W→Q .normal a W)
 (hstop:∀ (c:Code) (pre:List α) (W:World),(pre <+: xf∧pre≠[])→Ix c pre W→c.wpIn (Fence.wide.inRound l0) n Tryz.prog Q a W) :
 (Code.rangeFunc g ps assign body).wpIn (Fence.wide.inRound l0) n Tryz.prog Q a w:=by
 refine wpIn_rangeFunc ?_
 intro fn hfn
 let rc:LoopState→Option Code→Loop:=fun st pe => { state:=st,pending:=pe,fn,tmps:=a.tmps,params:=ps,assign,body,defers:=r0.defers }
 let V:World:=w.alloc (.loop (rc .ready none))
 have hV1:V.heap[h]? = some (.loop (rc .ready none)):=by
  have e:=World.alloc_heap_new w (.loop (rc .ready none))
  rw [←hh] at e;exact e
 have hfV:Fr w V fun k=>Z k∨h≤k:=fr_grown ((Grown.refl w).alloc _) _
 have far:∀ {X Y:World} {k:Nat} {o:Obj},Fr X Y Z→¬ Z k→X.heap[k]? = some o→Y.heap[k]? = some o:=fun {X Y k o} hf hk ho=>(hf.block k (blk_lt ho) hk).trans ho
 have wide:∀ {X Y:World},Fr X Y Z→Fr X Y fun k=>Z k∨h≤k:=fun {X Y} hf=>hf.mono fun _ _ e => .inl e
 have putI:∀ {X:World} {s:List α} (o:Obj),I s X→I s (X.putObj h o):=fun {X s} o hi=>hI s X _ hi ((fr_put o).mono fun k _ e => .inr (by omega))
 have putIx:∀ {X:World} {s:List α} {c:Code} (o:Obj),Ix c s X→Ix c s (X.putObj h o):=fun {X s c} o hi=>hIx c s X _ hi ((fr_put o).mono fun k _ e => .inr (by omega))
 refine ⟨h,[],V,{ target := .fn (.func gf) lb,args:=pa++#[.func (.yield h) #[] #[]] },V,gf,pa++#[.func (.yield h) #[] #[]]++lb,V,?_,?_,?_,?_,fun _=>h1,?_⟩
 · have e:=run_enterLoop_inner (P:=Tryz.prog) hl0 fn a.tmps ps assign body
   rw [←hh] at e
   exact e
 · simp only [resolve,hg]
   simp [go_sem]
 · intro f' _;trivial
 · simp [invoke,go_sem,eg]
 · refine (hseq (rc .ready none) (fun pre W=>I pre W∧W.heap[h]? = some (.loop (rc .ready none)))
    (fun pre W=>∃ c,Ix c pre W∧W.heap[h]? = some (.loop (rc .done (some c))))
    (fun s X Y hs hf=>⟨hI s X Y hs.1 (wide hf),far hf hZ1 hs.2⟩)
    (fun s X Y hs hf=>by
     obtain ⟨c,hc,e1⟩:=hs
     exact ⟨c,hIx c s X Y hc (wide hf),far hf hZ1 e1⟩) ?_ ⟨hI _ _ _ h0 hfV,hV1⟩).mono ?_
   · rintro pre x X ⟨hi,e1⟩ hlen
     have hy:=run_yield (P:=Tryz.prog) (args:=enc x) e1 (by simp [rc,hps])
     have hlt:h<X.heap.size:=blk_lt e1
     refine ⟨fn,_,assign,body,hy,roundIn_of_wpIn hfn (wpIn_mono (hround pre x X hlen (by omega)) ?_)⟩
     clear hy
     rintro ee a' W' hp'
     cases ee with
     | exit id=>exact hp'.elim
     | goto t=>exact hp'.elim
     | ret=>exact hp'.elim
     | panic ch=>exact hp'.elim
     | outgrown=>exact hp'.elim
     | normal=>
     obtain ⟨hgx,hbody⟩:=hp'
     have e1':W'.heap[h]? = some (.loop (rc .ready none)):=(hgx.below.block _ hlt).trans e1
     refine ⟨_,run_beginRound e1' rfl,?_⟩
     let X2:World:=W'.putObj h (.loop { rc .ready none with state := .busy })
     have f1:X2.heap[h]? = some (.loop { rc .ready none with state := .busy }):=World.putObj_heap_same (blk_lt e1')
     have fk:KAll Z b X X2:=(KAll.grown hgx (by omega)).trans (KAll.put _ hZ1 (by omega))
     have hi2:I pre X2:=putI _ (hI _ _ _ hi (fr_grown hgx _))
     have fin:∀ (jump:Option Code) (Y:World),KAll (fun k=>Z k∨h≤k) b X2 Y→∃ V',(Instr.endRound h jump).run Tryz.prog Y = .ok (.bool jump.isNone) V'∧V'=Y.putObj h (.loop (rc (if jump.isNone then .ready else .done) jump)) ∧
      V'.heap[h]? = some (.loop (rc (if jump.isNone then .ready else .done) jump))∧KAll Z b X V':=fun jump Y hY=>by
      have y1:=hY.same _ _ (.inr (Nat.le_refl _)) f1
      exact ⟨_,run_endRound jump y1,rfl,World.putObj_heap_same (blk_lt y1),(fk.trans (hY.mono (fun _ e => .inl e) (Nat.le_refl _))).trans (KAll.put _ hZ1 (by omega))⟩
     refine wpIn_mono (hbody X2 hi2 (by simp [X2]) (fun k hk=>World.putObj_heap_other hk) ⟨_,f1⟩) ?_
     rintro e a3 Y hp
     cases e with
     | normal=>
      obtain ⟨k1,k3⟩:=hp
      obtain ⟨V',hr,rfl,z1,kz⟩:=fin none Y k1
      exact ⟨_,_,hr,.inl ⟨rfl,⟨putI _ k3,z1⟩,kz⟩⟩
     | ret=>
      obtain ⟨k1,k3⟩:=hp
      obtain ⟨V',hr,rfl,z1,kz⟩:=fin (some .ret) Y k1
      exact ⟨_,_,hr,.inr ⟨rfl,⟨.ret,putIx _ k3,z1⟩,kz⟩⟩
     | exit id=>
      obtain ⟨k1,k3⟩:=hp
      obtain ⟨V',hr,rfl,z1,kz⟩:=fin (some (.exit id)) Y k1
      exact ⟨_,_,hr,.inr ⟨rfl,⟨.exit id,putIx _ k3,z1⟩,kz⟩⟩
     | goto t=>
      obtain ⟨k1,k3⟩:=hp
      obtain ⟨V',hr,rfl,z1,kz⟩:=fin (some (.goto t)) Y k1
      exact ⟨_,_,hr,.inr ⟨rfl,⟨.goto t,putIx _ k3,z1⟩,kz⟩⟩
     | panic ch=>exact hp.elim
     | outgrown=>exact hp.elim
   · rintro e Y ⟨⟨v,rfl⟩,(⟨⟨hi,e1⟩,hEY⟩ | ⟨pre,hSp,c,hi,e1⟩)⟩
     · exact ⟨none,_,run_endLoop e1 (by simp [rc]),hdone _ (putI _ hi) (hE _ _ hEY)⟩
     · exact ⟨some c,_,run_endLoop e1 (by simp [rc]),hstop c pre _ hSp (putIx _ hi)⟩
def mkD (D:Nat):Deferred := { target := .collected D,args:=#[] }
theorem leaves_marks {F:Fence} {n:Nat} {P:Program} {fn:Func} {tmps:Array Value} {R:Ending→World→Prop} {base:Nat} : ∀ (Ds:List Nat) (W:World),Ds.Nodup→(∀ D∈Ds,base≤D∧W.heap[D]? = some (.deferred (some [])))→(∀ W',(∀ k,k ∉ Ds→W'.heap[k]? = W.heap[k]?)→Below base W W'→LeavesIn F n P fn tmps R [] .returning W')→LeavesInM F n P fn tmps R (Ds.map mkD) .returning W
 | [],W,_,_,h=>h W (fun _ _=>rfl) (Below.refl _ _)
 | D::Ds,W,hn,hD,h=>by
  obtain ⟨hd1,hd2⟩:=hD D (by simp)
  have hn1:D ∉ Ds:=(List.nodup_cons.1 hn).1
  have hp:∀ k,k≠D→(W.putObj D (.deferred none)).heap[k]? = W.heap[k]? := fun k hk=>World.putObj_heap_other hk
  have hb:Below base W (W.putObj D (.deferred none)):=⟨rfl,rfl,rfl,by simp,fun k hk=>hp k (by omega)⟩
  refine ⟨by simp,.inl ⟨_,_,rfl,run_takeDeferred hd2,?_⟩⟩
  refine leaves_marks (base:=base) Ds _ (List.nodup_cons.1 hn).2 (fun E hE => ?_) (fun W' hk hb' => ?_)
  · have hne:E≠D:=fun e=>hn1 (e ▸ hE)
    have:=hD E (by simp [hE])
    exact ⟨this.1,(hp E hne).trans this.2⟩
  · refine h W' (fun k hk2 => ?_) (hb.trans hb')
    have h1:k≠D:=fun e=>hk2 (by simp [e])
    have h2:k ∉ Ds:=fun e=>hk2 (by simp [e])
    exact (hk k h2).trans (hp k h1)
end Go.Proofs
