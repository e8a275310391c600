/-
  Several texts in one (Ts Tj La Lc Ld Le Ig To Tu Uq2 Ca Cb Cc Ce).
-/
import Derived.RangeFuncNested
import Derived.RangeFuncBound
import Derived.RangeFuncCalls
import Derived.RangeFuncLeaves
import Derived.Shelf.Abstract
import Derived.Shelf.RegionOpen
import Derived.WalkKit
import Derived.WalkSpells
import Derived.WalkLawsBesides
import Derived.OwnWalkIn
import Derived.TacticsInMore
import Derived.LoopNIn
import Derived.LoopIn
import Derived.BigQuiet
import Derived.RegionIn
import Derived.Deep.QuietTactic
import Derived.Deep.RegionWith
import Derived.Lib.OthersKept
import Derived.Maps.AppendAt
import Derived.Lib.SmallJoins
import Derived.Shelf.SlSortCmp.QuietGrown
import Derived.Sort.LoopGhostIn
import Derived.Test.YtibgnkpagfpinaaGreatDoorMgkt
import Derived.Deep.Upon
import Derived.Test.YtibgnkpagfpinaaGreatDoorMgct
import Derived.Test.YtibgnkpagfpinaaGreatDoorMgjt
import Derived.Test.YtibgnkpagfpinaaGreatDoorMgdt
import Derived.Deep.AppendLies
import Derived.Deep.RegionLaw
import Derived.Deep.DeepCutAuto
import Derived.Deep.CutBlock
import Derived.Laws.OwnMore
import Derived.Laws.ResultCell
import Derived.Test.YtibgnkpagfpinaaGreatDoorMgft
import Derived.Test.YtibgnkpagfpinaaGreatDoorMgbt
import Derived.Test.YtibgnkpagfpinaaGreatDoorWct
import Derived.Test.YtibgnkpagfpinaaGreatDoorMat
import Derived.Test.YtibgnkpagfpinaaGreatDoorMgat
import Derived.Test.YtibgnkpagfpinaaGreatDoorUzt
import Derived.Deep.LoopGhost
import Derived.Deep.Onto
import Derived.Test.YtibgnkpagfpinaaGreatDoorTet
import Derived.Test.YtibgnkpagfpinaaGreatDoorMght
import Derived.Test.YtibgnkpagfpinaaGreatDoorMggt
namespace Go.Proofs
open Go.RowKit Go.Shelf
set_option maxRecDepth 100000
attribute [local go_sem] Oper.semAt_some
attribute [local go_sem ↓] Go.wp_at_zero Go.wp_at_succ
abbrev encS (x:Stp):Array Value:=#[.agg (fs1 x).toArray]
theorem Wk.nowl {Z:Nat→Prop} {T:Nat} {W0 w:World} {B wb mb:Nat} {v lv:Value} {rs:List Rl} {d l0:List Int} {xs:List Stp} {dn lf:List Int} {N:Nat} {dv uv:Value} {n room:Nat} {uu:List Int} {f:Int→Option Value} (h:Wk Z T W0 w B wb mb v lv rs d l0 xs dn lf N dv uv n room uu f) :
 Calls Tryz.prog 61 #[.pointer (some ⟨wb,4,none⟩)] w fun e w'=>w'=w.drew∧∃ A c,e = .returned (.slice A lf.length c):=by
 obtain ⟨A,c,huv⟩:=h.uni.sl
 subst huv
 have hnc:uu.length≤c∧(A=none→c=0):=by
  rcases h.uni.2 with ⟨e,_⟩ | ⟨g,cap,cur,e,_,_,h1,_⟩
  · injection e with e1 e2 e3
    exact ⟨by omega,fun _=>e3⟩
  · injection e with e1 e2 e3
    exact ⟨by omega,fun e=>by rw [e] at e1;cases e1⟩
 have hll:lf.length=uu.length - room:=by rw [←h.lfe,List.length_drop]
 refine (now_any h.blk (by rw [h.ul];exact h.rm) hnc.1 hnc.2).mono ?_
 rintro e w' ⟨rfl,rfl⟩
 exact ⟨rfl,_,_,by rw [hll]⟩
theorem Wk.drew {Z:Nat→Prop} {T:Nat} {W0 w:World} {B wb mb:Nat} {v lv:Value} {rs:List Rl} {d l0:List Int} {xs:List Stp} {dn lf:List Int} {N:Nat} {dv uv:Value} {n room:Nat} {uu:List Int} {f:Int→Option Value} (h:Wk Z T W0 w B wb mb v lv rs d l0 xs dn lf N dv uv n room uu f):Wk Z T W0 w.drew B wb mb v lv rs d l0 xs dn lf N dv uv n room uu f:=
 h.keep (KAll.grown (Grown.refl w).drew (Nat.le_trans h.b0 h.b3)) (Nat.le_refl _)
theorem fr_drew (w:World) (X:Nat→Prop):Fr w w.drew X:=fr_grown (Grown.refl w).drew X
def mayE (rs:List Rl) (s:ByteArray):Int:=if (chkW rs).2≠0 then (chkW rs).2 else if 16384<s.size then 2 else 0
set_option maxHeartbeats 4000000 in
theorem may_any (v:Value) (rs:List Rl) (s:ByteArray) (w:World) (hT:Tab w) (h:PsR w v rs):Calls Tryz.prog 40 #[.agg #[v],.string s] w fun e w'=>e = .returned (.int .i64 (mayE rs s))∧Below w.heap.size w w':=by
 have HC:Hid (∀ W,Grown w W→Calls Tryz.prog 58 #[.agg #[v]] W fun e w'=>e = .returned (.tuple #[.int .i64 (chkW rs).1,.int .i64 (chkW rs).2])∧Below w.heap.size w w'):=fun W g=>(wcheck_any v rs W (hT.grown g) (h.grown g)).mono fun e w' h=>⟨h.1,g.below.trans (h.2.mono g.size)⟩
 obtain ⟨v1,v2,v3,hv⟩:IsSl v:=by obtain ⟨a,b,e,_⟩:=h;exact ⟨_,_,_,e⟩
 subst hv
 unfold mayE
 generalize chkW rs=c at HC ⊢
 obtain ⟨c1,c2⟩:=c
 have HC2:Hid (∀ W,Grown w W→Calls Tryz.prog 58 #[.agg #[.slice v1 v2 v3]] W fun e w'=>e = .returned (.tuple #[.int .i64 c1,.int .i64 c2])∧Below w.heap.size w w'):=HC.out
 clear HC h hT
 by_cases h1:c2=0
 · subst h1
   by_cases h2:16384<s.size
   · have h3:(16384:Int)<(s.size:Int):=by omega
     go_enter Tryz.func40,Tryz.ntmps40
     go_wp2_with (go_at_call 58;refine (HC2.out _ (by (repeat (first | exact Grown.refl _ | refine Grown.alloc ?_ _ | refine Grown.drew ?_)))).mono ?_;rintro e w2 ⟨rfl,hb⟩)
     go_ret
     exact ⟨by simp,hb⟩
   · have h3:¬ (16384:Int)<(s.size:Int):=by omega
     go_enter Tryz.func40,Tryz.ntmps40
     go_wp2_with (go_at_call 58;refine (HC2.out _ (by (repeat (first | exact Grown.refl _ | refine Grown.alloc ?_ _ | refine Grown.drew ?_)))).mono ?_;rintro e w2 ⟨rfl,hb⟩)
     go_ret
     exact ⟨by simp,hb⟩
 · have h4:(c2 == 0)=false:=by simpa using h1
   go_enter Tryz.func40,Tryz.ntmps40
   go_wp2_with (go_at_call 58;refine (HC2.out _ (by (repeat (first | exact Grown.refl _ | refine Grown.alloc ?_ _ | refine Grown.drew ?_)))).mono ?_;rintro e w2 ⟨rfl,hb⟩)
   go_ret
   exact ⟨by simp,hb⟩
def fea (rs:List Rl):Bool:=(wgh rs).1.isSome
theorem fea_iff {rs:List Rl} : fea rs=true↔∃ st c,wgh rs=(some st,c):=by
 unfold fea
 cases h:wgh rs with
 | mk o c=>cases o <;> simp
theorem chkW_fea {rs:List Rl} (h:fea rs=true):chkW rs=(0,0):=by
 obtain ⟨st,c,hw⟩:=fea_iff.1 h
 have hF:=wgh_fin hw
 unfold wgh at hw
 unfold chkW wgh
 split at hw
 · injection hw with h1;cases h1
 · rename_i h0
   rw [if_neg h0]
   split at hw
   · injection hw with h1;cases h1
   · split at hw
     · injection hw with h1;cases h1
     · rfl
theorem fea_chk {rs:List Rl} (h:fea rs=false):(chkW rs).2≠0:=by
 unfold fea at h
 cases hw:wgh rs with
 | mk o c=>
  cases o with
  | none=>rw [chkW,hw];exact wgh_none hw
  | some st=>rw [hw] at h;cases h
theorem wgh_zero2 {rs:List Rl} (h:fea rs=true):∃ st,wgh rs=(some st,0,0):=by
 obtain ⟨st,c,hw⟩:=fea_iff.1 h
 have hc:=chkW_fea h
 rw [chkW,hw] at hc
 simp only at hc
 exact ⟨st,by rw [hw,hc]⟩
theorem fea_all {rs:List Rl} {st:St} (hw:wgh rs=(some st,0,0)):(allE rs).2=0:=by
 unfold wgh at hw
 by_cases h0:(allE rs).2≠0
 · rw [if_pos h0] at hw;injection hw with h1;cases h1
 · exact Classical.not_not.1 h0
def ZW (B h:Nat):Nat→Prop:=fun k=>(B≤k∧k<h)∨h+2≤k
theorem unit_at {s:ByteArray} {p:Nat} (_hp:p<s.size):wd (uAt s p:Int)≠0:=by
 rw [wd_uAt]
 have:=uw_pos s p
 omega
theorem units_all (s:ByteArray):AllU (intsU (units s)):=by
 have:∀ k p,∀ x∈unitsN s k p,wd (x.2:Int)≠0:=by
  intro k
  induction k with
  | zero=>intro p x hx;simp [unitsN] at hx
  | succ k ih=>
   intro p x hx
   by_cases hp:p<s.size
   · rw [unitsN_step s k p hp] at hx
     rcases List.mem_cons.1 hx with rfl | hx
     · exact unit_at hp
     · exact ih _ x hx
   · rw [unitsN_end s _ p hp] at hx;simp at hx
 intro u hu
 obtain ⟨x,hx,rfl⟩:=List.mem_map.1 hu
 exact this _ _ x hx
def endOf (rs:List Rl) (s:ByteArray):List Stp × List Int:=match (wgh rs).1 with
 | some st=>((fin3 rs st (intsU (units s))).1,(fin3 rs st (intsU (units s))).2.1)
 | none=>([],[])
theorem may_ok {rs:List Rl} {s:ByteArray} (h:mayE rs s=0):∃ st,wgh rs=(some st,0,0)∧s.size≤16384∧Fin rs st∧(allE rs).2=0∧(∀ r∈rs,chk r=0)∧G3 rs (intsU (units s)) (endOf rs s).1 (endOf rs s).2 []:=by
 unfold mayE at h
 by_cases h1:(chkW rs).2≠0
 · rw [if_pos h1] at h;exact absurd h h1
 · rw [if_neg h1] at h
   by_cases h2:16384<s.size
   · rw [if_pos h2] at h;cases h
   · have hfe:fea rs=true:=by
      cases e:fea rs with
      | true=>rfl
      | false=>exact absurd (fea_chk e) h1
     obtain ⟨st,hw⟩:=wgh_zero2 hfe
     have hF:=wgh_fin hw
     have hc:=wgh_chk hw
     refine ⟨st,hw,by omega,hF,fea_all hw,hc,?_⟩
     have:=fin3_G3 hF hc (intsU (units s))
     unfold endOf
     rw [hw]
     exact this
def Rob (X:Nat→Prop) (w:World) (P:World→Prop):Prop:=∀ w'',Fr w w'' X→P w''
theorem Rob.now {X:Nat→Prop} {w:World} {P:World→Prop} (h:Rob X w P):P w:=h w (Fr.refl _ _)
theorem Rob.fr {X Y:Nat→Prop} {w w':World} {P:World→Prop} (h:Rob X w P) (hf:Fr w w' Y) (hy:∀ k,k<w.heap.size→Y k→X k):Rob X w' P:=fun w'' h2=>h w'' ((hf.mono hy).trans h2 fun _ _ e=>e)
theorem Rob.less {X Y:Nat→Prop} {w:World} {P:World→Prop} (h:Rob X w P) (hy:∀ k,k<w.heap.size→Y k→X k):Rob Y w P:=fun w'' h2=>h w'' (h2.mono hy)
def RowB (w:World) (g:Nat) (e:TypeId) (F:Nat→Value) (n:Nat):Prop:=∃ cur:Array Value,w.heap[g]? = some (.cells cur e (0,0))∧∀ j,j<n→cur[j]? = some (F j)
theorem RowB.cell {w:World} {g:Nat} {e:TypeId} {F:Nat→Value} {n j:Nat} (h:RowB w g e F n) (hj:j<n):w.cell? ⟨g,j,none⟩=some (F j):=by
 obtain ⟨cur,h1,h2⟩:=h
 rw [cell_of h1,h2 j hj]
theorem RowB.free {w:World} {g:Nat} {e:TypeId} {F:Nat→Value} {n j:Nat} (h:RowB w g e F n):w.frozen? ⟨g,j,none⟩=false:=by
 obtain ⟨cur,h1,h2⟩:=h
 exact free_of h1
theorem RowB.lt {w:World} {g:Nat} {e:TypeId} {F:Nat→Value} {n:Nat} (h:RowB w g e F n):g<w.heap.size:=by
 obtain ⟨cur,h1,_⟩:=h
 exact blk_lt h1
def updF (F:Nat→Value) (i:Nat) (u:Value):Nat→Value:=fun j=>if j=i then u else F j
theorem RowB.set {w:World} {g:Nat} {e:TypeId} {F:Nat→Value} {n:Nat} (h:RowB w g e F n) (i:Nat) (u:Value):RowB (w.setCell ⟨g,i,none⟩ u) g e (updF F i u) n:=by
 obtain ⟨cur,h1,h2⟩:=h
 refine ⟨_,set_heap h1,fun j hj => ?_⟩
 have hlt:j<cur.size:=(Array.getElem?_eq_some_iff.1 (h2 j hj)).1
 rw [Array.getElem?_setIfInBounds]
 by_cases e:i=j
 · subst e;rw [if_pos rfl,if_pos hlt];simp [updF]
 · rw [if_neg e,h2 j hj];simp [updF,Ne.symm e]
theorem RowB.fr {w w':World} {X:Nat→Prop} {g:Nat} {e:TypeId} {F:Nat→Value} {n:Nat} (h:RowB w g e F n) (hf:Fr w w' X) (hx:¬ X g):RowB w' g e F n:=by
 obtain ⟨cur,h1,h2⟩:=h
 exact ⟨cur,(hf.block g (blk_lt h1) hx).trans h1,h2⟩
theorem row_of {w:World} {base:Nat} {e:TypeId} {size:Nat} {v:Value} {n:Nat} {xs:List Value} (h:w.ownsRow base e size v n xs) (hn:n≠0):∃ g cap,v = .slice (some ⟨g,0,none⟩) n cap∧base≤g∧n≤cap∧RowB w g e (fun j=>xs.getD j undef) (n*size):=by
 rcases h.2 with ⟨_,h0⟩ | ⟨g,cap,cur,e1,h1,h2,h3,_,_,h5⟩
 · exact absurd h0 hn
 · refine ⟨g,cap,e1,h1,h3,cur,h2,fun j hj => ?_⟩
   have hl:xs.length=n*size:=h.1
   have hj2:j<xs.length:=by omega
   show cur[j]? = some (xs.getD j undef)
   rw [List.getD_eq_getElem?_getD,List.getElem?_eq_getElem hj2]
   have:(cur.toList.take (n*size))[j]? = some xs[j]:=by rw [h5];exact List.getElem?_eq_getElem hj2
   rw [List.getElem?_take,if_pos hj] at this
   simpa using this
theorem run_appX (w:World) (t ty e:TypeId) (z:Value) (size bytes:Nat) (ht:Tryz.prog.underlying t=some (.slice e)) (hinf:(Tryz.prog.info? e).map (fun i=>(i.zero,i.size,i.bytes))=some (some z,size,bytes)) (hzs:z.cells.size=size) (hsz:0<size) (hb0:bytes≤120)
 (base g:Nat) (hg:w.heap[g]? = some (.cells #[] e (0,0))) (hbg:base≤g) (a:Addr) (n c:Nat) (xs:List Value) (hl:xs.length=n*size) (hr:∀ j u,xs[j]? = some u→w.cell? (a.add j)=some u) (h1:∀ u∈xs,u.oneCell'=true) (hn:n≤4294967296) :
 ∃ v' w',(Builtin.append_ #[t,t] ty #[.slice (some ⟨g,0,none⟩) 0 0,.slice (some a) n c]).run Tryz.prog w = .ok v' w'∧w'.ownsRow base e size v' n xs∧Fr w w' (fun k=>k=g):=by
 obtain ⟨i0,hi0,hz0,hz1,hz2⟩:=info_parts hinf
 have hown:w.ownsRow base e size (.slice (some ⟨g,0,none⟩) 0 0) 0 []:=⟨by simp,.inr ⟨g,0,#[],rfl,hbg,hg,Nat.le_refl _,Nat.zero_le _,by simp,by simp⟩⟩
 by_cases he:n=0
 · subst he
   have hx:xs=[]:=List.eq_nil_of_length_eq_zero (by omega)
   subst hx
   have hr:=run_append_nothing (P:=Tryz.prog) w t t ty e i0 ht hi0 (some ⟨g,0,none⟩) 0 0 (Nat.le_refl _) (.slice (some a) 0 c) ⟨.inl ⟨e,ht⟩,fun w'=>by simp [Builtin.lenOf,go_sem],by simp [Builtin.firstCells,go_sem],by simp [Builtin.firstCells,go_sem],by simp,by simp⟩
   exact ⟨_,w,hr,hown,Fr.refl _ _⟩
 · obtain ⟨v',w',q1,q2,q3,_,_⟩:=run_append_own_at (P:=Tryz.prog) w base t ty e i0 z size bytes ht hi0 hz0 hz1 hz2 hzs hsz (.slice (some ⟨g,0,none⟩) 0 0) 0 [] hown a n c xs hl hr h1 (by unfold maxLen;omega) (by have:(0+n)*bytes≤4294967296*120:=Nat.mul_le_mul (by omega) hb0;omega) (by have:=blk_lt hg;omega)
   refine ⟨v',w',q1,by simpa using q2,(fr_by q3).mono fun k _ e => ?_⟩
   injection e with e
   exact e.symm
theorem app_X {ops:Array Oper} {rest:List Oper} {o:Oper} {ac:Act} {Q:Exit→Act→World→Prop} {w:World} (hgd:o.guard=none) (s x:Operand) (t:TypeId)
 (ho:o.op = .call { callee := .builtin .append,args:=#[s,x],argTypes:=#[t,t] }) (e:TypeId) (z:Value) (size bytes:Nat) (ht:Tryz.prog.underlying t=some (.slice e)) (hinf:(Tryz.prog.info? e).map (fun i=>(i.zero,i.size,i.bytes))=some (some z,size,bytes)) (hzs:z.cells.size=size) (hsz:0<size) (hb0:bytes≤120)
 (base g:Nat) (hs:ac.eval s = .slice (some ⟨g,0,none⟩) 0 0) (hg:w.heap[g]? = some (.cells #[] e (0,0))) (hbg:base≤g) (a:Addr) (n c:Nat) (hx:ac.eval x = .slice (some a) n c) (xs:List Value) (hl:xs.length=n*size) (hr:∀ j u,xs[j]? = some u→w.cell? (a.add j)=some u) (h1:∀ u∈xs,u.oneCell'=true) (hn:n≤4294967296)
 (h:∀ v' w',w'.ownsRow base e size v' n xs→Fr w w' (fun k=>k=g)→wpList Tryz.prog ops Q rest (ac.put o.dst v') w'):wpList Tryz.prog ops Q (o::rest) ac w:=by
 refine wpList_plain hgd fun K hK => ?_
 obtain ⟨v',w',hr2,q1,q2⟩:=run_appX w t o.type e z size bytes ht hinf hzs hsz hb0 base g hg hbg a n c xs hl hr h1 hn
 unfold Oper.wp execOp
 simp only [ho,resolve,invoke,builtin,Sem.run_bind,Sem.run_pure,Result.andThen_ok,List.map_toArray,List.map_cons,List.map_nil,hs,hx,hr2]
 exact hK _ _ (h v' w' q1 q2)
def Lies (w:World) (A:Option Addr) (xs:List Value):Prop:=∀ j u,xs[j]? = some u→∃ a,A=some a∧w.cell? (a.add j)=some u
theorem eqS22 (W:World) (a:Addr) (n c:Nat):(binOp .eql 22 (.slice (some a) n c) (.slice none 0 0)).run Tryz.prog W = .ok (.bool false) W:=by kernel_rfl
theorem eqN22 (W:World) (n c:Nat):(binOp .eql 22 (.slice none n c) (.slice none 0 0)).run Tryz.prog W = .ok (.bool true) W:=by kernel_rfl
set_option maxHeartbeats 2000000 in
theorem clone58 (w:World) (A:Option Addr) (n c:Nat) (xs:List Value) (hA:A=none→n=0) (hl:xs.length=n*7) (hr:Lies w A xs) (h1:∀ u∈xs,u.oneCell'=true) (hn:n≤4294967296) :
 Calls Tryz.prog 85 #[.slice A n c] w fun e w'=>∃ v',e = .returned v'∧w'.ownsRow w.heap.size 56 7 v' n xs∧Below w.heap.size w w':=by
 cases A with
 | none=>
  obtain rfl:=hA rfl
  have hx:xs=[]:=List.eq_nil_of_length_eq_zero (by omega)
  subst hx
  have he:=eqN22
  clear hr h1 hl hn hA
  go_enter Tryz.func85,Tryz.ntmps85
  go_wp2
  go_ret
  exact ⟨_,rfl,World.ownsRow_nil _ _ _ _,(Below.refl _ _)⟩
 | some a=>
  have he:=eqS22
  obtain ⟨h,hh⟩:∃ h,w.heap.size=h:=⟨_,rfl⟩
  have HH:Hid (w.heap.size=h):=hh
  have HG:Hid ((w.alloc (.cells #[] 56)).heap[h]? = some (.cells #[] 56 (0,0))):=by rw [←hh];exact heap_alloc_new w _
  have HR:Hid (∀ j u,xs[j]? = some u→(w.alloc (.cells #[] 56)).cell? (a.add j)=some u):=fun j u hj=>by
   obtain ⟨a',e,h2⟩:=hr j u hj
   injection e with e
   subst e
   exact cell_up h2 _
  have HX:=Hid.mk' (And.intro hl h1)
  clear hr h1 hl hA
  go_enter Tryz.func85,Tryz.ntmps85
  go_wp2_with (at_builtin;go_must (refine app_X rfl _ _ 22 rfl 56 (.agg #[.bool false,.slice none 0 0,.slice none 0 0,.slice none 0 0,.bool false,.slice none 0 0,.int .i64 0]) 7 120 Tryz.underlying22 inf54 rfl (by decide) (by decide) h h rfl HG.out (Nat.le_refl _) a n c rfl xs HX.out.1 HR.out HX.out.2 hn ?_;intro v' w3 hr3 hb3;have H3:=Hid.mk' (And.intro hr3 hb3);clear hr3 hb3))
  go_ret
  have hb:=H3.out.2
  refine ⟨_,rfl,?_,?_⟩
  · have:=H3.out.1
    rw [HH.out]
    exact this
  · exact ((Grown.refl w).alloc _).below.trans (hb.below (fun k e=>by have:=HH.out;omega) (by simp))
theorem eqS51 (W:World) (a:Addr) (n c:Nat):(binOp .eql 54 (.slice (some a) n c) (.slice none 0 0)).run Tryz.prog W = .ok (.bool false) W:=by kernel_rfl
theorem eqN51 (W:World) (n c:Nat):(binOp .eql 54 (.slice none n c) (.slice none 0 0)).run Tryz.prog W = .ok (.bool true) W:=by kernel_rfl
set_option maxHeartbeats 2000000 in
theorem clone60 (w:World) (A:Option Addr) (n c:Nat) (xs:List Value) (hA:A=none→n=0) (hl:xs.length=n*4) (hr:Lies w A xs) (h1:∀ u∈xs,u.oneCell'=true) (hn:n≤4294967296) :
 Calls Tryz.prog 87 #[.slice A n c] w fun e w'=>∃ v',e = .returned v'∧w'.ownsRow w.heap.size 58 4 v' n xs∧Below w.heap.size w w':=by
 cases A with
 | none=>
  obtain rfl:=hA rfl
  have hx:xs=[]:=List.eq_nil_of_length_eq_zero (by omega)
  subst hx
  have he:=eqN51
  clear hr h1 hl hn hA
  go_enter Tryz.func87,Tryz.ntmps87
  go_wp2
  go_ret
  exact ⟨_,rfl,World.ownsRow_nil _ _ _ _,(Below.refl _ _)⟩
 | some a=>
  have he:=eqS51
  obtain ⟨h,hh⟩:∃ h,w.heap.size=h:=⟨_,rfl⟩
  have HH:Hid (w.heap.size=h):=hh
  have HG:Hid ((w.alloc (.cells #[] 58)).heap[h]? = some (.cells #[] 58 (0,0))):=by rw [←hh];exact heap_alloc_new w _
  have HR:Hid (∀ j u,xs[j]? = some u→(w.alloc (.cells #[] 58)).cell? (a.add j)=some u):=fun j u hj=>by
   obtain ⟨a',e,h2⟩:=hr j u hj
   injection e with e
   subst e
   exact cell_up h2 _
  have HX:=Hid.mk' (And.intro hl h1)
  clear hr h1 hl hA
  go_enter Tryz.func87,Tryz.ntmps87
  go_wp2_with (at_builtin;go_must (refine app_X rfl _ _ 54 rfl 58 (.agg #[.int .i64 0,.int .i64 0,.int .i64 0,.slice none 0 0]) 4 48 Tryz.underlying54 inf66 rfl (by decide) (by decide) h h rfl HG.out (Nat.le_refl _) a n c rfl xs HX.out.1 HR.out HX.out.2 hn ?_;intro v' w3 hr3 hb3;have H3:=Hid.mk' (And.intro hr3 hb3);clear hr3 hb3))
  go_ret
  have hb:=H3.out.2
  refine ⟨_,rfl,?_,?_⟩
  · have:=H3.out.1
    rw [HH.out]
    exact this
  · exact ((Grown.refl w).alloc _).below.trans (hb.below (fun k e=>by have:=HH.out;omega) (by simp))
theorem eqS60 (W:World) (a:Addr) (n c:Nat):(binOp .eql 51 (.slice (some a) n c) (.slice none 0 0)).run Tryz.prog W = .ok (.bool false) W:=by kernel_rfl
theorem eqN60 (W:World) (n c:Nat):(binOp .eql 51 (.slice none n c) (.slice none 0 0)).run Tryz.prog W = .ok (.bool true) W:=by kernel_rfl
set_option maxHeartbeats 2000000 in
theorem clone61 (w:World) (A:Option Addr) (n c:Nat) (xs:List Value) (hA:A=none→n=0) (hl:xs.length=n*2) (hr:Lies w A xs) (h1:∀ u∈xs,u.oneCell'=true) (hn:n≤4294967296) :
 Calls Tryz.prog 88 #[.slice A n c] w fun e w'=>∃ v',e = .returned v'∧w'.ownsRow w.heap.size 97 2 v' n xs∧Below w.heap.size w w':=by
 cases A with
 | none=>
  obtain rfl:=hA rfl
  have hx:xs=[]:=List.eq_nil_of_length_eq_zero (by omega)
  subst hx
  have he:=eqN60
  clear hr h1 hl hn hA
  go_enter Tryz.func88,Tryz.ntmps88
  go_wp2
  go_ret
  exact ⟨_,rfl,World.ownsRow_nil _ _ _ _,(Below.refl _ _)⟩
 | some a=>
  have he:=eqS60
  obtain ⟨h,hh⟩:∃ h,w.heap.size=h:=⟨_,rfl⟩
  have HH:Hid (w.heap.size=h):=hh
  have HG:Hid ((w.alloc (.cells #[] 97)).heap[h]? = some (.cells #[] 97 (0,0))):=by rw [←hh];exact heap_alloc_new w _
  have HR:Hid (∀ j u,xs[j]? = some u→(w.alloc (.cells #[] 97)).cell? (a.add j)=some u):=fun j u hj=>by
   obtain ⟨a',e,h2⟩:=hr j u hj
   injection e with e
   subst e
   exact cell_up h2 _
  have HX:=Hid.mk' (And.intro hl h1)
  clear hr h1 hl hA
  go_enter Tryz.func88,Tryz.ntmps88
  go_wp2_with (at_builtin;go_must (refine app_X rfl _ _ 51 rfl 97 (.agg #[.int .i64 0,.int .i64 0]) 2 16 Tryz.underlying51 info38 rfl (by decide) (by decide) h h rfl HG.out (Nat.le_refl _) a n c rfl xs HX.out.1 HR.out HX.out.2 hn ?_;intro v' w3 hr3 hb3;have H3:=Hid.mk' (And.intro hr3 hb3);clear hr3 hb3))
  go_ret
  have hb:=H3.out.2
  refine ⟨_,rfl,?_,?_⟩
  · have:=H3.out.1
    rw [HH.out]
    exact this
  · exact ((Grown.refl w).alloc _).below.trans (hb.below (fun k e=>by have:=HH.out;omega) (by simp))
theorem eqS33 (W:World) (a:Addr) (n c:Nat):(binOp .eql 53 (.slice (some a) n c) (.slice none 0 0)).run Tryz.prog W = .ok (.bool false) W:=by kernel_rfl
theorem eqN33 (W:World) (n c:Nat):(binOp .eql 53 (.slice none n c) (.slice none 0 0)).run Tryz.prog W = .ok (.bool true) W:=by kernel_rfl
set_option maxHeartbeats 2000000 in
theorem clone85 (w:World) (A:Option Addr) (n c:Nat) (xs:List Value) (hA:A=none→n=0) (hl:xs.length=n*1) (hr:Lies w A xs) (h1:∀ u∈xs,u.oneCell'=true) (hn:n≤4294967296) :
 Calls Tryz.prog 114 #[.slice A n c] w fun e w'=>∃ v',e = .returned v'∧w'.ownsRow w.heap.size 51 1 v' n xs∧Below w.heap.size w w':=by
 cases A with
 | none=>
  obtain rfl:=hA rfl
  have hx:xs=[]:=List.eq_nil_of_length_eq_zero (by omega)
  subst hx
  have he:=eqN33
  clear hr h1 hl hn hA
  go_enter Tryz.func114,Tryz.ntmps114
  go_wp2
  go_ret
  exact ⟨_,rfl,World.ownsRow_nil _ _ _ _,(Below.refl _ _)⟩
 | some a=>
  have he:=eqS33
  obtain ⟨h,hh⟩:∃ h,w.heap.size=h:=⟨_,rfl⟩
  have HH:Hid (w.heap.size=h):=hh
  have HG:Hid ((w.alloc (.cells #[] 51)).heap[h]? = some (.cells #[] 51 (0,0))):=by rw [←hh];exact heap_alloc_new w _
  have HR:Hid (∀ j u,xs[j]? = some u→(w.alloc (.cells #[] 51)).cell? (a.add j)=some u):=fun j u hj=>by
   obtain ⟨a',e,h2⟩:=hr j u hj
   injection e with e
   subst e
   exact cell_up h2 _
  have HX:=Hid.mk' (And.intro hl h1)
  clear hr h1 hl hA
  go_enter Tryz.func114,Tryz.ntmps114
  go_wp2_with (at_builtin;go_must (refine app_X rfl _ _ 53 rfl 51 (.slice none 0 0) 1 24 Tryz.underlying53 inf59 rfl (by decide) (by decide) h h rfl HG.out (Nat.le_refl _) a n c rfl xs HX.out.1 HR.out HX.out.2 hn ?_;intro v' w3 hr3 hb3;have H3:=Hid.mk' (And.intro hr3 hb3);clear hr3 hb3))
  go_ret
  have hb:=H3.out.2
  refine ⟨_,rfl,?_,?_⟩
  · have:=H3.out.1
    rw [HH.out]
    exact this
  · exact ((Grown.refl w).alloc _).below.trans (hb.below (fun k e=>by have:=HH.out;omega) (by simp))
theorem Rs.fr {w w':World} {X:Nat→Prop} {v:Value} {l:List (Int × Int)} (h:Rs w v l) (hf:Fr w w' X) (hx:∀ b,v.ownBlock=some b→¬ X b):Rs w' v l:=by
 obtain ⟨A,c,rfl,h1,h2⟩:=h
 refine ⟨A,c,rfl,h1,h2.imp id ?_⟩
 rintro ⟨g,o,rfl,hr⟩
 refine ⟨g,o,rfl,fun j hj => ?_⟩
 have hb:=hx g rfl
 have k:=hr j hj
 have hlt:=cell_lt k.1
 have e:w'.heap[g]? = w.heap[g]? := hf.block g hlt hb
 exact ⟨by rw [cell_same e];exact k.1,by rw [cell_same e];exact k.2⟩
theorem OwnR.rob {w:World} {base:Nat} {v:Value} {l:List (Int × Int)} (h:OwnR w base v l):Rob (fun k=>k<base) w fun W=>Rs W v l:=fun W hf=>h.rs.fr hf fun b hb hx=>by
 have:=(World.ownsRow.lt h b hb).1
 omega
theorem clone_rs (v:Value) (l:List (Int × Int)) (w:World) (h:Rs w v l) (hn:l.length≤4294967296):Calls Tryz.prog 88 #[v] w fun e w'=>∃ v',e = .returned v'∧IsSl v'∧Rob (fun k=>k<w.heap.size) w' (fun W=>Rs W v' l)∧Below w.heap.size w w':=by
 obtain ⟨A,c,rfl,h1,h2⟩:=h
 refine (clone61 w A l.length c (fl l) (fun e => ?_) (fl_length l) (fun j u hj => ?_) (fl_one _) hn).mono ?_
 · rcases h2 with h2 | ⟨g,o,e2,_⟩
   · rw [h2];rfl
   · rw [e] at e2;cases e2
 · have hjl:j<l.length*2:=by rw [←fl_length];exact (List.getElem?_eq_some_iff.1 hj).1
   obtain ⟨g,o,rfl,hd⟩:=h2.resolve_left fun e=>by rw [e] at hjl;simp at hjl
   refine ⟨_,rfl,?_⟩
   have hadd:(⟨g,o,none⟩:Addr).add j=⟨g,o+j,none⟩:=by unfold Addr.add;split <;> simp_all
   rw [hadd]
   obtain ⟨i,hi⟩:∃ i,j=i*2∨j=i*2+1:=⟨j / 2,by omega⟩
   have hil:i<l.length:=by omega
   have k1:=hd i hil
   have k2:=fl_at l hil
   rcases hi with rfl | rfl
   · rw [k2.1] at hj;injection hj with hj;subst hj;exact k1.1
   · rw [k2.2] at hj;injection hj with hj;subst hj;rw [←Nat.add_assoc];exact k1.2
 · rintro e w' ⟨v',rfl,hO,hB⟩
   have hO:OwnR w' w.heap.size v' l:=hO
   exact ⟨v',rfl,hO.rs.sl,hO.rob,hB⟩
theorem SRd.vals {w:World} {g o:Nat} {ls:List (List (Int × Int))} (h:SRd w g o ls):∃ F:Nat→Value,∀ j,j<ls.length→w.cell? ⟨g,o+j,none⟩=some (F j)∧Rs w (F j) (ls.getD j []):=by
 have h':∀ (j:Nat) (hj:j<ls.length),∃ sv,w.cell? ⟨g,o+j,none⟩=some sv∧Rs w sv ls[j]:=h
 refine ⟨fun j=>if hj:j<ls.length then Classical.choose (h' j hj) else undef,fun j hj => ?_⟩
 have:=Classical.choose_spec (h' j hj)
 simp only [dif_pos hj,List.getD_eq_getElem?_getD,List.getElem?_eq_getElem hj,Option.getD_some]
 exact this
theorem map_range_at (F:Nat→Value) (n j:Nat) (u:Value) (h:((List.range n).map F)[j]? = some u):j<n∧u=F j:=by
 have hj:j<n:=by
  have:=(List.getElem?_eq_some_iff.1 h).1
  simpa using this
 rw [List.getElem?_map,List.getElem?_range hj] at h
 exact ⟨hj,(Option.some.inj h).symm⟩
theorem own_sl2 {w:World} {base:Nat} {e:TypeId} {size:Nat} {v:Value} {n:Nat} {xs:List Value} (h:w.ownsRow base e size v n xs):∃ a cap,v = .slice a n cap:=by
 rcases h.2 with ⟨e,h0⟩ | ⟨g,cap,cur,e,_⟩
 · exact ⟨none,0,by rw [e,h0]⟩
 · exact ⟨_,cap,e⟩
theorem isSl_one {v:Value} (h:IsSl v):v.oneCell'=true:=by
 obtain ⟨a,n,c,rfl⟩:=h
 rfl
theorem add_none (g o j:Nat):(⟨g,o,none⟩:Addr).add j=⟨g,o+j,none⟩:=by unfold Addr.add;split <;> simp_all
structure OR (w wr:World) (base g:Nat) (ls:List (List (Int × Int))) (F:Nat→Value) (k:Nat) (G:Nat→Value):Prop where
 row:RowB wr g 51 G ls.length
 new:∀ j,j<k→Rob (fun i=>i<base∨i=g) wr fun W=>Rs W (G j) (ls.getD j [])
 old:∀ j,k≤j→G j=F j
 bel:Below base w wr
set_option maxHeartbeats 4000000 in
theorem ownRow_any (v:Value) (ls:List (List (Int × Int))) (w:World) (h:SR w v ls) (hn:ls.length≤4294967296) (hs:∀ l∈ls,l.length≤4294967296) :
 Calls Tryz.prog 86 #[v] w fun e w'=>∃ v',e = .returned v'∧Rob (fun k=>k<w.heap.size) w' (fun W=>SR W v' ls)∧Below w.heap.size w w':=by
 obtain ⟨A,c,rfl,h1,h2⟩:=h
 obtain ⟨n,hN⟩:∃ n,ls.length=n:=⟨_,rfl⟩
 have HN:=Hid.mk' hN
 by_cases h0:n=0
 · have hl0:ls=[]:=List.eq_nil_of_length_eq_zero (by omega)
   have HC:Hid (Calls Tryz.prog 114 #[.slice A 0 c] w fun e w'=>∃ v',e = .returned v'∧w'.ownsRow w.heap.size 51 1 v' 0 []∧Below w.heap.size w w'):=by
    refine clone85 w A 0 c [] (fun _=>rfl) rfl (fun j u hj=>by simp at hj) (by simp) (by omega)
   subst hl0
   rw [show ([]:List (List (Int × Int))).length=0 from rfl]
   clear h1 h2 hn hs hN HN
   go_enter Tryz.func86,Tryz.ntmps86
   go_wp2_with (go_at_call 114;refine HC.out.mono ?_;rintro e w1 ⟨v1,rfl,hO,hB⟩;obtain ⟨q1,q3,hv⟩:=own_sl2 hO;subst hv;have HO:=Hid.mk' (And.intro hO hB);clear hO hB)
   go_loopw [4,5,10] (fun _ _ v10 wr=>v10 = .int .i64 0∧wr=w1) (fun _ _ _ _=>0)
   case atStart=>exact ⟨rfl,rfl⟩
   case round=>
    obtain ⟨rfl,rfl⟩:=hrel
    go_wp2
    go_ret
    refine ⟨_,rfl,fun W _=>⟨q1,q3,rfl,Nat.zero_le _,.inl rfl⟩,HO.out.2⟩
 · obtain ⟨g0,o0,rfl,hd⟩:=h2.resolve_left fun e=>h0 (by rw [←hN,e];rfl)
   obtain ⟨F,hF⟩:=hd.vals
   have HF:=Hid.mk' hF
   have hFs:∀ j,j<n→IsSl (F j):=fun j hj=>(hF j (by omega)).2.sl
   have HC:Hid (Calls Tryz.prog 114 #[.slice (some ⟨g0,o0,none⟩) n c] w fun e w'=>∃ v',e = .returned v'∧w'.ownsRow w.heap.size 51 1 v' n ((List.range n).map F)∧Below w.heap.size w w'):=by
    refine clone85 w _ n c _ (fun e=>by cases e) (by simp) (fun j u hj => ?_) (fun u hu => ?_) (by omega)
    · obtain ⟨hj1,rfl⟩:=map_range_at F n j u hj
      exact ⟨_,rfl,by rw [add_none];exact (hF j (by omega)).1⟩
    · obtain ⟨j,hj,rfl⟩:=List.mem_map.1 hu
      exact isSl_one (hFs j (List.mem_range.1 hj))
   rw [hN]
   have hnI:(n:Int)≤4294967296:=by omega
   have HS:=Hid.mk' hs
   clear h1 h2 hd hF hs hN
   go_enter Tryz.func86,Tryz.ntmps86
   go_wp2_with (go_at_call 114;refine HC.out.mono ?_;rintro e w1 ⟨v1,rfl,hO,hB⟩;obtain ⟨g,cap,hv,hg,hcap,hrow⟩:=row_of hO h0;subst hv;have HO:=Hid.mk' (And.intro hg (And.intro hcap (And.intro hrow hB)));clear hO hB hrow)
   have HK0:Hid (OR w w1 w.heap.size g ls F 0 F):=by
    obtain ⟨k1,k2,⟨cur,k3,k5⟩,k4⟩:=HO.out
    refine ⟨⟨cur,k3,fun j hj => ?_⟩,fun j hj=>by omega,fun j _=>rfl,k4⟩
    have hj2:j<n:=by have:=HN.out;omega
    rw [k5 j (by omega)]
    show some (((List.range n).map F).getD j undef)=_
    rw [List.getD_eq_getElem?_getD,List.getElem?_map,List.getElem?_range hj2]
    rfl
   go_loopw [4,5,10] (fun _ _ v10 wr=>∃ k:Nat,v10 = .int .i64 k∧k≤n∧Hid (∃ G,OR w wr w.heap.size g ls F k G)) (fun _ _ v10 _=>n - (intOf v10).toNat)
   case atStart=>exact ⟨0,rfl,by omega,_,HK0.out⟩
   case round=>
    obtain ⟨k,rfl,hk,HG⟩:=hrel
    obtain ⟨G,hG⟩:=HG.out
    by_cases hlt:k<n
    · have hltI:(k:Int)<(n:Int):=by omega
      have hkl:k<ls.length:=by have:=HN.out;omega
      have ck:wr.cell? ⟨g,k,none⟩=some (F k):=by rw [hG.row.cell hkl,hG.old k (Nat.le_refl _)]
      have hgl:=hG.row.lt
      obtain ⟨x1,x2,x3,hx⟩:=hFs k hlt
      have HCl:Hid (∀ W,Grown wr W→Calls Tryz.prog 88 #[F k] W fun e w'=>∃ y1 y2 y3,e = .returned (.slice y1 y2 y3)∧Rob (fun i=>i<W.heap.size) w' (fun W=>Rs W (.slice y1 y2 y3) (ls.getD k []))∧Below W.heap.size W w'):=fun W hg=>by
       have hm:ls.getD k []∈ls:=by rw [List.getD_eq_getElem?_getD,List.getElem?_eq_getElem hkl];exact List.getElem_mem hkl
       refine (clone_rs (F k) (ls.getD k []) W (((HF.out k hkl).2.below hG.bel (Nat.le_refl _)).below hg.below (Nat.le_refl _)) (HS.out _ hm)).mono ?_
       rintro e w' ⟨v',rfl,⟨y1,y2,y3,rfl⟩,h1,h2⟩
       exact ⟨y1,y2,y3,rfl,h1,h2⟩
      rw [hx] at HCl ck
      have HGG:=Hid.mk' hG
      have HX:=Hid.mk' hx
      have hcI:(k:Int)<(cap:Int):=by omega
      clear hG hx
      go_wp2_with (go_at_call 88;go_must (refine (HCl.out _ (by (repeat (first | exact Grown.refl _ | refine Grown.alloc ?_ _ | refine Grown.drew ?_)))).mono ?_;rintro e w5 ⟨y1,y2,y3,rfl,hr5,hb5⟩;have H5:=Hid.mk' (And.intro hr5 hb5);have hR5:RowB w5 g 51 G ls.length:=HGG.out.row.fr (fr_below hb5 (Nat.le_refl _) (fun _=>False)) id;have e5:=hR5.cell hkl;have f5:w5.frozen? ⟨g,k,none⟩=false:=hR5.free;rw [HGG.out.old k (Nat.le_refl _),HX.out] at e5;have HR5:=Hid.mk' hR5;clear hr5 hb5 hR5))
      refine ⟨⟨k+1,by go_num,by omega,updF G k (.slice y1 y2 y3),?_⟩,by simp [intOf];omega⟩
      have hG:=HGG.out
      have hbl:=H5.out.2
      have hfs:=fr_set w5 g k (.slice y1 y2 y3)
      have hbw:w.heap.size≤wr.heap.size:=hG.bel.size
      refine ⟨HR5.out.set k _,fun j hj => ?_,fun j hj => ?_,?_⟩
      · by_cases e:j=k
        · subst e
          have e1:updF G j (.slice y1 y2 y3) j = .slice y1 y2 y3:=by simp [updF]
          rw [e1]
          refine Rob.fr (H5.out.1.less fun i _ hi => ?_) hfs fun i _ e => .inr e
          show i<wr.heap.size
          rcases hi with hi | hi <;> omega
        · have e1:updF G k (.slice y1 y2 y3) j=G j:=by simp [updF,e]
          rw [e1]
          exact Rob.fr (Rob.fr (hG.new j (by omega)) (fr_below hbl (Nat.le_refl _) (fun _=>False)) fun _ _ e=>e.elim) hfs fun i _ e => .inr e
      · have e1:updF G k (.slice y1 y2 y3) j=G j:=by simp [updF];omega
        rw [e1]
        exact hG.old j (by omega)
      · exact (hG.bel.trans (hbl.mono hbw)).setCell (by have:=HO.out.1;exact this) _
    · obtain rfl:k=n:=by omega
      have hge:¬ (k:Int)<(k:Int):=by omega
      clear hG
      go_wp2
      go_ret
      obtain ⟨G,hG⟩:=HG.out
      refine ⟨.slice (some ⟨g,0,none⟩) k cap,rfl,fun W hf=>⟨some ⟨g,0,none⟩,cap,by rw [HN.out],by rw [HN.out];exact HO.out.2.1,.inr ⟨g,0,rfl,fun j hj=>⟨G j,?_,?_⟩⟩⟩,hG.bel⟩
      · rw [Nat.zero_add]
        exact (hG.row.fr hf fun e=>by have:=HO.out.1;omega).cell hj
      · have:=(hG.new j (by have:=HN.out;omega)).less (Y:=fun i=>i<w.heap.size) (fun i _ e => .inl e) W hf
        rwa [List.getD_eq_getElem?_getD,List.getElem?_eq_getElem hj] at this
theorem okS_len {l:List (Int × Int)} (h:okS l=true):l.length≤512:=by
 simp only [okS,validB,Bool.and_eq_true] at h
 have:=h.1
 simp at this
 omega
theorem ok_row {ls:List (List (Int × Int))} (h:ls.all okS=true):∀ l∈ls,l.length≤4294967296:=fun l hl=>by
 have:=okS_len (List.all_eq_true.1 h l hl)
 omega
theorem ownRow_sl (v:Value) (ls:List (List (Int × Int))) (w:World) (h:SR w v ls) (hn:ls.length≤8) (hs:ls.all okS=true) :
 Calls Tryz.prog 86 #[v] w fun e w'=>∃ y1 y2 y3,e = .returned (.slice y1 y2 y3)∧Rob (fun k=>k<w.heap.size) w' (fun W=>SR W (.slice y1 y2 y3) ls)∧Below w.heap.size w w':=by
 refine (ownRow_any v ls w h (by omega) (ok_row hs)).mono ?_
 rintro e w' ⟨v',rfl,h1,h2⟩
 obtain ⟨y1,y2,y3,rfl⟩:=h1.now.sl
 exact ⟨y1,y2,y3,rfl,h1,h2⟩
def RulV (w:World) (F:Nat→Value) (j:Nat) (r:Rl):Prop:=F (j*7) = .bool r.bg∧F (j*7+4) = .bool r.en∧F (j*7+6) = .int .i64 r.cu∧RR w (F (j*7+1)) (F (j*7+2)) (F (j*7+3)) (F (j*7+5)) r
structure OQ (w wr:World) (base gR:Nat) (rs:List Rl) (F:Nat→Value) (k:Nat) (G:Nat→Value):Prop where
 row:RowB wr gR 56 G (rs.length*7)
 new:∀ j (hj:j<rs.length),j<k→Rob (fun i=>i<base∨i=gR) wr fun W=>RulV W G j rs[j]
 old:∀ i,k*7≤i→G i=F i
 bel:Below base w wr
def val5 (S:Value) (k rb gR:Nat) (av kv pv:Value):Nat→Option Value
 | 0=>some S
 | 1=>some (.int .i64 k)
 | 2=>some S
 | 3=>some (.int .i64 k)
 | 4=>some S
 | 5=>some (.int .i64 k)
 | 6=>some (.pointer (some ⟨rb,1,none⟩))
 | 7=>some av
 | 9=>some (.pointer (some ⟨rb,2,none⟩))
 | 10=>some kv
 | 12=>some (.pointer (some ⟨rb,3,none⟩))
 | 13=>some pv
 | 15=>some (.pointer (some ⟨gR,k*7,none⟩))
 | 16=>some (.pointer (some ⟨gR,k*7+1,none⟩))
 | 18=>some (.pointer (some ⟨gR,k*7,none⟩))
 | 19=>some (.pointer (some ⟨gR,k*7+2,none⟩))
 | 21=>some (.pointer (some ⟨gR,k*7,none⟩))
 | 22=>some (.pointer (some ⟨gR,k*7+3,none⟩))
 | _=>none
def Gp (GG:Nat→Value) (k:Nat) (p:Nat→Bool) (vs:Nat→Value):Nat→Value:=fun i=>if p 17=true∧i=k*7+1 then vs 8 else if p 20=true∧i=k*7+2 then vs 11 else if p 23=true∧i=k*7+3 then vs 14 else GG i
structure J5 (w wr:World) (base gR k N:Nat) (S:Value) (GG:Nat→Value) (rb:Nat) (box:Obj) (av kv pv:Value) (r:Rl) (p:Nat→Bool) (vs:Nat→Value) (W:World):Prop where
 v:∀ i x,val5 S k rb gR av kv pv i=some x→p i=true→vs i=x
 c8:p 8=true→IsSl (vs 8)∧Rob (fun i=>i<base∨i=gR) W fun W=>SR W (vs 8) r.ante
 c11:p 11=true→IsSl (vs 11)∧Rob (fun i=>i<base∨i=gR) W fun W=>SR W (vs 11) r.key
 c14:p 14=true→IsSl (vs 14)∧Rob (fun i=>i<base∨i=gR) W fun W=>SR W (vs 14) r.post
 s17:p 17=true→p 8=true
 s20:p 20=true→p 11=true
 s23:p 23=true→p 14=true
 fr:Fr wr W fun i=>i=gR
 bel:Below base w W
 box:W.heap[rb]? = some box
 row:RowB W gR 56 (Gp GG k p vs) N
section
variable {w wr:World} {base gR k N:Nat} {S:Value} {GG:Nat→Value} {rb:Nat} {box:Obj} {av kv pv:Value} {r:Rl} {p:Nat→Bool} {vs:Nat→Value} {W:World}
theorem J5.put (h:J5 w wr base gR k N S GG rb box av kv pv r p vs W) {i:Nat} {x:Value} (hx:val5 S k rb gR av kv pv i=some x):J5 w wr base gR k N S GG rb box av kv pv r (fun j=>p j || j == i) (fun j=>if j=i then x else vs j) W:=by
 have h8:i≠8:=fun e=>by subst e;cases hx
 have h11:i≠11:=fun e=>by subst e;cases hx
 have h14:i≠14:=fun e=>by subst e;cases hx
 have h17:i≠17:=fun e=>by subst e;cases hx
 have h20:i≠20:=fun e=>by subst e;cases hx
 have h23:i≠23:=fun e=>by subst e;cases hx
 have e:Gp GG k (fun j=>p j || j == i) (fun j=>if j=i then x else vs j)=Gp GG k p vs:=by
  funext j
  simp [Gp,h8.symm,h11.symm,h14.symm,h17.symm,h20.symm,h23.symm]
 refine ⟨fun j y hy hj => ?_,by simpa [h8.symm] using h.c8,by simpa [h11.symm] using h.c11,by simpa [h14.symm] using h.c14,by simpa [h8.symm,h17.symm] using h.s17,by simpa [h11.symm,h20.symm] using h.s20,by simpa [h14.symm,h23.symm] using h.s23,h.fr,h.bel,h.box,by rw [e];exact h.row⟩
 by_cases hji:j=i
 · subst hji
   rw [hx] at hy
   injection hy with hy
   simpa using hy
 · simp [hji] at hj ⊢
   exact h.v j y hy hj
theorem J5.up (h:J5 w wr base gR k N S GG rb box av kv pv r p vs W) {W':World} (hb:Below W.heap.size W W') (hbs:base≤W.heap.size):J5 w wr base gR k N S GG rb box av kv pv r p vs W':=by
 have hf:∀ X,Fr W W' X:=fun X=>fr_below hb (Nat.le_refl _) X
 have hr:∀ {P:World→Prop},Rob (fun i=>i<base∨i=gR) W P→Rob (fun i=>i<base∨i=gR) W' P:=fun {P} hP=>hP.fr (hf fun _=>False) fun _ _ e=>e.elim
 exact ⟨h.v,fun e=>⟨(h.c8 e).1,hr (h.c8 e).2⟩,fun e=>⟨(h.c11 e).1,hr (h.c11 e).2⟩,fun e=>⟨(h.c14 e).1,hr (h.c14 e).2⟩,h.s17,h.s20,h.s23,h.fr.trans (hf _) fun _ _ e=>e,h.bel.trans (hb.mono hbs),(hb.block rb (blk_lt h.box)).trans h.box,h.row.fr (hf fun _=>False) id⟩
theorem J5.call8 (h:J5 w wr base gR k N S GG rb box av kv pv r p vs W) (hp:p 8=false) {x:Value} {W':World} (hb:Below W.heap.size W W') (hx:IsSl x) (hR:Rob (fun i=>i<base∨i=gR) W' fun W=>SR W x r.ante) (hbs:base≤W.heap.size):J5 w wr base gR k N S GG rb box av kv pv r (fun j=>p j || j == 8) (fun j=>if j=8 then x else vs j) W':=by
 have h2:=h.up hb hbs
 have hs:p 17=false:=by
  cases e:p 17 with
  | false=>rfl
  | true=>rw [h.s17 e] at hp;cases hp
 have e:Gp GG k (fun j=>p j || j == 8) (fun j=>if j=8 then x else vs j)=Gp GG k p vs:=by
  funext j
  simp [Gp,hs]
 refine ⟨fun j y hy hj => ?_,fun _=>⟨hx,hR⟩,fun e=>h2.c11 (by simpa using e),fun e=>h2.c14 (by simpa using e),fun _=>by simp,fun e=>(by simpa using h2.s20 (by simpa using e)),fun e=>(by simpa using h2.s23 (by simpa using e)),h2.fr,h2.bel,h2.box,by rw [e];exact h2.row⟩
 have hji:j≠8:=fun e=>by subst e;cases hy
 simp [hji] at hj ⊢
 exact h.v j y hy hj
theorem J5.call11 (h:J5 w wr base gR k N S GG rb box av kv pv r p vs W) (hp:p 11=false) {x:Value} {W':World} (hb:Below W.heap.size W W') (hx:IsSl x) (hR:Rob (fun i=>i<base∨i=gR) W' fun W=>SR W x r.key) (hbs:base≤W.heap.size):J5 w wr base gR k N S GG rb box av kv pv r (fun j=>p j || j == 11) (fun j=>if j=11 then x else vs j) W':=by
 have h2:=h.up hb hbs
 have hs:p 20=false:=by
  cases e:p 20 with
  | false=>rfl
  | true=>rw [h.s20 e] at hp;cases hp
 have e:Gp GG k (fun j=>p j || j == 11) (fun j=>if j=11 then x else vs j)=Gp GG k p vs:=by
  funext j
  simp [Gp,hs]
 refine ⟨fun j y hy hj => ?_,fun e=>h2.c8 (by simpa using e),fun _=>⟨hx,hR⟩,fun e=>h2.c14 (by simpa using e),fun e=>(by simpa using h2.s17 (by simpa using e)),fun _=>by simp,fun e=>(by simpa using h2.s23 (by simpa using e)),h2.fr,h2.bel,h2.box,by rw [e];exact h2.row⟩
 have hji:j≠11:=fun e=>by subst e;cases hy
 simp [hji] at hj ⊢
 exact h.v j y hy hj
theorem J5.call14 (h:J5 w wr base gR k N S GG rb box av kv pv r p vs W) (hp:p 14=false) {x:Value} {W':World} (hb:Below W.heap.size W W') (hx:IsSl x) (hR:Rob (fun i=>i<base∨i=gR) W' fun W=>SR W x r.post) (hbs:base≤W.heap.size):J5 w wr base gR k N S GG rb box av kv pv r (fun j=>p j || j == 14) (fun j=>if j=14 then x else vs j) W':=by
 have h2:=h.up hb hbs
 have hs:p 23=false:=by
  cases e:p 23 with
  | false=>rfl
  | true=>rw [h.s23 e] at hp;cases hp
 have e:Gp GG k (fun j=>p j || j == 14) (fun j=>if j=14 then x else vs j)=Gp GG k p vs:=by
  funext j
  simp [Gp,hs]
 refine ⟨fun j y hy hj => ?_,fun e=>h2.c8 (by simpa using e),fun e=>h2.c11 (by simpa using e),fun _=>⟨hx,hR⟩,fun e=>(by simpa using h2.s17 (by simpa using e)),fun e=>(by simpa using h2.s20 (by simpa using e)),fun _=>by simp,h2.fr,h2.bel,h2.box,by rw [e];exact h2.row⟩
 have hji:j≠14:=fun e=>by subst e;cases hy
 simp [hji] at hj ⊢
 exact h.v j y hy hj
theorem J5.store17 (h:J5 w wr base gR k N S GG rb box av kv pv r p vs W) (hc:p 8=true) (x:Value) (hg:base≤gR) (hrb:rb≠gR):J5 w wr base gR k N S GG rb box av kv pv r (fun j=>p j || j == 17) (fun j=>if j=17 then x else vs j) (W.setCell ⟨gR,k*7+1,none⟩ (vs 8)):=by
 have hf:=fr_set W gR (k*7+1) (vs 8)
 have hr:∀ {P:World→Prop},Rob (fun i=>i<base∨i=gR) W P→Rob (fun i=>i<base∨i=gR) (W.setCell ⟨gR,k*7+1,none⟩ (vs 8)) P:=fun {P} hP=>hP.fr hf fun _ _ e => .inr e
 have e:Gp GG k (fun j=>p j || j == 17) (fun j=>if j=17 then x else vs j)=updF (Gp GG k p vs) (k*7+1) (vs 8):=by
  funext j
  unfold updF
  by_cases hj:j=k*7+1
  · subst hj
    simp [Gp]
  · rw [if_neg hj]
    simp [Gp,hj]
 refine ⟨fun j y hy hj => ?_,fun e=>⟨(h.c8 (by simpa using e)).1,hr (h.c8 (by simpa using e)).2⟩,fun e=>⟨(h.c11 (by simpa using e)).1,hr (h.c11 (by simpa using e)).2⟩,fun e=>⟨(h.c14 (by simpa using e)).1,hr (h.c14 (by simpa using e)).2⟩,fun _=>(by simp [hc]),fun e=>(by simpa using h.s20 (by simpa using e)),fun e=>(by simpa using h.s23 (by simpa using e)),h.fr.trans hf fun _ _ e=>e,h.bel.setCell hg _,(hf.block rb (blk_lt h.box) hrb).trans h.box,by rw [e];exact h.row.set _ _⟩
 have hji:j≠17:=fun e=>by subst e;cases hy
 simp [hji] at hj ⊢
 exact h.v j y hy hj
theorem J5.store20 (h:J5 w wr base gR k N S GG rb box av kv pv r p vs W) (hc:p 11=true) (x:Value) (hg:base≤gR) (hrb:rb≠gR):J5 w wr base gR k N S GG rb box av kv pv r (fun j=>p j || j == 20) (fun j=>if j=20 then x else vs j) (W.setCell ⟨gR,k*7+2,none⟩ (vs 11)):=by
 have hf:=fr_set W gR (k*7+2) (vs 11)
 have hr:∀ {P:World→Prop},Rob (fun i=>i<base∨i=gR) W P→Rob (fun i=>i<base∨i=gR) (W.setCell ⟨gR,k*7+2,none⟩ (vs 11)) P:=fun {P} hP=>hP.fr hf fun _ _ e => .inr e
 have e:Gp GG k (fun j=>p j || j == 20) (fun j=>if j=20 then x else vs j)=updF (Gp GG k p vs) (k*7+2) (vs 11):=by
  funext j
  unfold updF
  by_cases hj:j=k*7+2
  · subst hj
    simp [Gp]
  · rw [if_neg hj]
    simp [Gp,hj]
 refine ⟨fun j y hy hj => ?_,fun e=>⟨(h.c8 (by simpa using e)).1,hr (h.c8 (by simpa using e)).2⟩,fun e=>⟨(h.c11 (by simpa using e)).1,hr (h.c11 (by simpa using e)).2⟩,fun e=>⟨(h.c14 (by simpa using e)).1,hr (h.c14 (by simpa using e)).2⟩,fun e=>(by simpa using h.s17 (by simpa using e)),fun _=>(by simp [hc]),fun e=>(by simpa using h.s23 (by simpa using e)),h.fr.trans hf fun _ _ e=>e,h.bel.setCell hg _,(hf.block rb (blk_lt h.box) hrb).trans h.box,by rw [e];exact h.row.set _ _⟩
 have hji:j≠20:=fun e=>by subst e;cases hy
 simp [hji] at hj ⊢
 exact h.v j y hy hj
theorem J5.store23 (h:J5 w wr base gR k N S GG rb box av kv pv r p vs W) (hc:p 14=true) (x:Value) (hg:base≤gR) (hrb:rb≠gR):J5 w wr base gR k N S GG rb box av kv pv r (fun j=>p j || j == 23) (fun j=>if j=23 then x else vs j) (W.setCell ⟨gR,k*7+3,none⟩ (vs 14)):=by
 have hf:=fr_set W gR (k*7+3) (vs 14)
 have hr:∀ {P:World→Prop},Rob (fun i=>i<base∨i=gR) W P→Rob (fun i=>i<base∨i=gR) (W.setCell ⟨gR,k*7+3,none⟩ (vs 14)) P:=fun {P} hP=>hP.fr hf fun _ _ e => .inr e
 have e:Gp GG k (fun j=>p j || j == 23) (fun j=>if j=23 then x else vs j)=updF (Gp GG k p vs) (k*7+3) (vs 14):=by
  funext j
  unfold updF
  by_cases hj:j=k*7+3
  · subst hj
    simp [Gp]
  · rw [if_neg hj]
    simp [Gp,hj]
 refine ⟨fun j y hy hj => ?_,fun e=>⟨(h.c8 (by simpa using e)).1,hr (h.c8 (by simpa using e)).2⟩,fun e=>⟨(h.c11 (by simpa using e)).1,hr (h.c11 (by simpa using e)).2⟩,fun e=>⟨(h.c14 (by simpa using e)).1,hr (h.c14 (by simpa using e)).2⟩,fun e=>(by simpa using h.s17 (by simpa using e)),fun e=>(by simpa using h.s20 (by simpa using e)),fun _=>(by simp [hc]),h.fr.trans hf fun _ _ e=>e,h.bel.setCell hg _,(hf.block rb (blk_lt h.box) hrb).trans h.box,by rw [e];exact h.row.set _ _⟩
 have hji:j≠23:=fun e=>by subst e;cases hy
 simp [hji] at hj ⊢
 exact h.v j y hy hj
end
end Go.Proofs
